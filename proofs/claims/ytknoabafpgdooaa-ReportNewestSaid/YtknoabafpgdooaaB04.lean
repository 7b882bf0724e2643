/- Texts laid one behind the other: Ip, Wa, Iq, Ir, Tc, Td, Shf, Tf, Tg. -/
import Derived.Test.YtknoabafpgdooaaB03
import Derived.Shelf.Strings.Builder1
import Derived.Test.YtknoabafpgdooaaChecked
import Derived.Lib.Builder
import Derived.Lib.AppendStr
import Derived.Deep.RegionHeld3
/- The library's Compare of two ints and of two rows of three; the program's Newer. -/
namespace Go.Proofs.Ytknoabafpgdooaa
open Go.RowKit Cod

theorem isNaN_any (a : Int) (w : World) : Calls Try.prog 40 #[.int .i64 a] w fun e w' => e = .returned (.bool false) ∧ w' = w := by
  go_enter Try.func40, Try.ntmps40
  go_wp2
  go_ret
  exact ⟨by simp, rfl⟩
def sgnI (a b : Int) : Int := if a < b then -1 else if b < a then 1 else 0
set_option maxRecDepth 100000 in
theorem cmpI_any (a b : Int) (w : World) : Calls Try.prog 33 #[.int .i64 a, .int .i64 b] w fun e w' => e = .returned (.int .i64 (sgnI a b)) ∧ w' = w := by
  by_cases h1 : a < b
  · have hv : sgnI a b = -1 := if_pos h1
    rw [hv]
    have f1 : decide (a < b) = true := decide_eq_true h1
    clear h1 hv
    go_enter Try.func33, Try.ntmps33
    go_wp2_with (go_at_call 40; (with_reducible refine (isNaN_any _ _).mono ?_); rintro e w1 ⟨rfl, rfl⟩)
    go_ret
    exact ⟨rfl, rfl⟩
  · by_cases h2 : b < a
    · have hv : sgnI a b = 1 := by unfold sgnI; rw [if_neg h1, if_pos h2]
      rw [hv]
      have f1 : decide (a < b) = false := decide_eq_false h1
      have f2 : decide (b < a) = true := decide_eq_true h2
      clear h1 h2 hv
      go_enter Try.func33, Try.ntmps33
      go_wp2_with (go_at_call 40; (with_reducible refine (isNaN_any _ _).mono ?_); rintro e w1 ⟨rfl, rfl⟩)
      go_ret
      exact ⟨rfl, rfl⟩
    · have hv : sgnI a b = 0 := by unfold sgnI; rw [if_neg h1, if_neg h2]
      rw [hv]
      have f1 : decide (a < b) = false := decide_eq_false h1
      have f2 : decide (b < a) = false := decide_eq_false h2
      clear h1 h2 hv
      go_enter Try.func33, Try.ntmps33
      go_wp2_with (go_at_call 40; (with_reducible refine (isNaN_any _ _).mono ?_); rintro e w1 ⟨rfl, rfl⟩)
      go_ret
      exact ⟨rfl, rfl⟩

set_option maxRecDepth 100000 in
set_option maxHeartbeats 2000000 in
/-- Rows of three numbers, compared: what the sign says is bv. -/
theorem compare3_any (nx ny c : Nat) (x y : Nat → Int) (bv : Bool) (w : World) (hx : ∀ k, k < 3 → w.cell? ⟨nx, 1 + k, none⟩ = some (.int .i64 (x k))) (hy : ∀ k, k < 3 → w.cell? ⟨ny, 1 + k, none⟩ = some (.int .i64 (y k)))
    (hlt : ∀ k, k < 3 → (∀ j, j < k → x j = y j) → x k < y k → bv = false) (hgt : ∀ k, k < 3 → (∀ j, j < k → x j = y j) → y k < x k → bv = true) (heq : (∀ j, j < 3 → x j = y j) → bv = false) :
    Calls Try.prog 22 #[.slice (some ⟨nx, 1, none⟩) 3 c, .slice (some ⟨ny, 1, none⟩) 3 c] w fun e w' => ∃ n : Int, e = .returned (.int .i64 n) ∧ Hid (decide (0 < n) = bv) ∧ w' = w := by
  have HX := Lib.hid hx
  have HY := Lib.hid hy
  have H1 := Lib.hid hlt
  have H2 := Lib.hid hgt
  have H3 := Lib.hid heq
  have HE := Lib.hid (fun (j : Nat) (hj : j < 0) => (absurd hj (Nat.not_lt_zero j) : x j = y j))
  clear hx hy hlt hgt heq
  go_enter Try.func22, Try.ntmps22
  go_wp2_with fail
  go_loopw [11] (fun i wr => ∃ k : Nat, k ≤ 3 ∧ i = .int .i64 k ∧ Hid (∀ j, j < k → x j = y j) ∧ w = wr) (fun i _ => 3 - (intOf i).toNat)
  case atStart => exact ⟨0, Nat.zero_le _, rfl, HE, rfl⟩
  case round =>
    clear HE
    obtain ⟨k, hk, rfl, HC, rfl⟩ := hrel
    by_cases hkl : k < 3
    · have c1 := HX.out k hkl
      have c2 := HY.out k hkl
      have h1 := H1.out k hkl HC.out
      have h2 := H2.out k hkl HC.out
      have hki : (k : Int) < 3 := by omega
      have HN := Lib.hid (fun (h : x k = y k) (j : Nat) (hj : j < k + 1) => (by
        by_cases e : j < k
        · exact HC.out j e
        · obtain rfl : j = k := by omega
          exact h : x j = y j))
      generalize x k = a at *
      generalize y k = b at *
      have CC := Lib.hid (fun wx => cmpI_any a b wx)
      by_cases h3 : a < b
      · have hb := h1 h3
        subst hb
        have hv : sgnI a b = -1 := if_pos h3
        rw [hv] at CC
        clear hv h1 h2 h3
        go_wp2_with (go_at_call 33; (with_reducible refine (CC.out _).mono ?_); rintro e w1 ⟨rfl, rfl⟩)
        go_ret
        exact ⟨-1, rfl, Lib.hid (by decide), rfl⟩
      · by_cases h4 : b < a
        · have hb := h2 h4
          subst hb
          have hv : sgnI a b = 1 := by unfold sgnI; rw [if_neg h3, if_pos h4]
          rw [hv] at CC
          clear hv h1 h2 h3 h4
          go_wp2_with (go_at_call 33; (with_reducible refine (CC.out _).mono ?_); rintro e w1 ⟨rfl, rfl⟩)
          go_ret
          exact ⟨1, rfl, Lib.hid (by decide), rfl⟩
        · have hv : sgnI a b = 0 := by unfold sgnI; rw [if_neg h3, if_neg h4]
          rw [hv] at CC
          have HN2 := Lib.hid (HN.out (by omega))
          clear hv h1 h2 h3 h4
          go_wp2_with (go_at_call 33; (with_reducible refine (CC.out _).mono ?_); rintro e w1 ⟨rfl, rfl⟩)
          exact ⟨⟨k + 1, by omega, by go_num, HN2, by trivial⟩, by simp [intOf]; omega⟩
    · obtain rfl : k = 3 := by omega
      have hb := H3.out HC.out
      subst hb
      go_wp2_with fail
      go_ret
      exact ⟨0, rfl, Lib.hid (by decide), rfl⟩

/-- A region's ways brought to one: the frame behind it is F of two blocks, whatever the way. -/
def MergeN (F : Nat → Nat → Act) (R : Nat → Nat → World → Prop) : Exit → Act → World → Prop
  | .normal, a, w => ∃ y n, a = F y n ∧ R y n w
  | _, _, _ => False
theorem wp_mergeN {P : Program} {c : Code} {Q : Exit → Act → World → Prop} {a : Act} {w : World} (R : Nat → Nat → World → Prop) {F : Nat → Nat → Act} (h : c.wp P (MergeN F R) a w) (k : ∀ y n w, R y n w → Q .normal (F y n) w) : c.wp P Q a w :=
  Code.wp_mono (fun e a w h => by
    cases e with
    | normal => obtain ⟨y, n, rfl, hr⟩ := h; exact k y n w hr
    | _ => exact h.elim) h
def row3 (r : Rp) : Nat → Int
  | 0 => r.i
  | 1 => r.b
  | _ => r.t
theorem row3_lt {a b : Rp} : ∀ k, k < 3 → (∀ j, j < k → row3 a j = row3 b j) → row3 a k < row3 b k → newB a b = false := fun k hk h0 h1 => by
  rw [Bool.eq_false_iff]; intro hn; rw [newB_iff] at hn
  match k, hk with
  | 0, _ => have h1 : a.i < b.i := h1; omega
  | 1, _ => have h1 : a.b < b.b := h1; have e0 : a.i = b.i := h0 0 (by decide); omega
  | 2, _ => have h1 : a.t < b.t := h1; have e0 : a.i = b.i := h0 0 (by decide); have e1 : a.b = b.b := h0 1 (by decide); omega
theorem row3_gt {a b : Rp} : ∀ k, k < 3 → (∀ j, j < k → row3 a j = row3 b j) → row3 b k < row3 a k → newB a b = true := fun k hk h0 h1 => by
  rw [newB_iff]
  match k, hk with
  | 0, _ => have h1 : b.i < a.i := h1; omega
  | 1, _ => have h1 : b.b < a.b := h1; have e0 : a.i = b.i := h0 0 (by decide); omega
  | 2, _ => have h1 : b.t < a.t := h1; have e0 : a.i = b.i := h0 0 (by decide); have e1 : a.b = b.b := h0 1 (by decide); omega
theorem row3_eq {a b : Rp} (h : ∀ j, j < 3 → row3 a j = row3 b j) : newB a b = false := by
  rw [Bool.eq_false_iff]; intro hn; rw [newB_iff] at hn
  have e0 : a.i = b.i := h 0 (by decide)
  have e1 : a.b = b.b := h 1 (by decide)
  have e2 : a.t = b.t := h 2 (by decide)
  omega
theorem row3_cells {w : World} {n : Nat} {r : Rp} (h : fdE.In w n r) : ∀ k, k < 3 → w.cell? ⟨n, 1 + k, none⟩ = some (.int .i64 (row3 r k))
  | 0, _ => h.cell 1
  | 1, _ => h.cell 2
  | 2, _ => h.cell 3
  | k + 3, h => absurd h (by omega)
set_option maxRecDepth 100000 in
set_option maxHeartbeats 4000000 in
theorem rpNewer_any (a b : Rp) (w : World) : Calls Try.prog 11 #[.agg #[.int .i64 a.d, .int .i64 a.i, .int .i64 a.b, .int .i64 a.t, .int .i64 a.m, .int .i64 a.p, .int .i64 a.c, .int .i64 a.s, .int .i64 a.k], .agg #[.int .i64 b.d, .int .i64 b.i, .int .i64 b.b, .int .i64 b.t, .int .i64 b.m, .int .i64 b.p, .int .i64 b.c, .int .i64 b.s, .int .i64 b.k]] w fun e w' => e = .returned (.bool (newB a b)) ∧ Below w.heap.size w w' := by
  have hP : rpE.In ((w.alloc (.cells #[.int .i64 a.d, .int .i64 a.i, .int .i64 a.b, .int .i64 a.t, .int .i64 a.m, .int .i64 a.p, .int .i64 a.c, .int .i64 a.s, .int .i64 a.k] 23)).alloc (.cells #[.int .i64 b.d, .int .i64 b.i, .int .i64 b.b, .int .i64 b.t, .int .i64 b.m, .int .i64 b.p, .int .i64 b.c, .int .i64 b.s, .int .i64 b.k] 23)) w.heap.size a := (El.In.new (E := rpE) w a _ rfl).alloc _
  have hQ : rpE.In ((w.alloc (.cells #[.int .i64 a.d, .int .i64 a.i, .int .i64 a.b, .int .i64 a.t, .int .i64 a.m, .int .i64 a.p, .int .i64 a.c, .int .i64 a.s, .int .i64 a.k] 23)).alloc (.cells #[.int .i64 b.d, .int .i64 b.i, .int .i64 b.b, .int .i64 b.t, .int .i64 b.m, .int .i64 b.p, .int .i64 b.c, .int .i64 b.s, .int .i64 b.k] 23)) (w.heap.size + 1) b := by
    have h := El.In.new (E := rpE) (w.alloc (.cells #[.int .i64 a.d, .int .i64 a.i, .int .i64 a.b, .int .i64 a.t, .int .i64 a.m, .int .i64 a.p, .int .i64 a.c, .int .i64 a.s, .int .i64 a.k] 23)) b _ rfl
    rw [alloc_size] at h; exact h
  have hB := below_alloc (below_alloc (Below.refl w.heap.size w) (.cells #[.int .i64 a.d, .int .i64 a.i, .int .i64 a.b, .int .i64 a.t, .int .i64 a.m, .int .i64 a.p, .int .i64 a.c, .int .i64 a.s, .int .i64 a.k] 23)) (.cells #[.int .i64 b.d, .int .i64 b.i, .int .i64 b.b, .int .i64 b.t, .int .i64 b.m, .int .i64 b.p, .int .i64 b.c, .int .i64 b.s, .int .i64 b.k] 23)
  have CA := Lib.hid (fun wx => fieldsOf_any a wx)
  have CB := Lib.hid (fun wx => fieldsOf_any b wx)
  have H1 := Lib.hid (@row3_lt a b)
  have H2 := Lib.hid (@row3_gt a b)
  have H3 := Lib.hid (@row3_eq a b)
  generalize newB a b = bv at *
  go_enter Try.func11, Try.ntmps11
  go_wp2_with fail
  generalize (w.alloc (.cells #[.int .i64 a.d, .int .i64 a.i, .int .i64 a.b, .int .i64 a.t, .int .i64 a.m, .int .i64 a.p, .int .i64 a.c, .int .i64 a.s, .int .i64 a.k] 23)).alloc (.cells #[.int .i64 b.d, .int .i64 b.i, .int .i64 b.b, .int .i64 b.t, .int .i64 b.m, .int .i64 b.p, .int .i64 b.c, .int .i64 b.s, .int .i64 b.k] 23) = W at *
  generalize w.heap.size + 1 = n2 at *
  obtain ⟨n1, h1⟩ : ∃ n, w.heap.size = n := ⟨_, rfl⟩
  rw [h1] at hP ⊢
  clear h1
  apply wp_mergeN (fun nx ny w' => fdE.In w' nx a ∧ fdE.In w' ny b ∧ Below w.heap.size w w')
  · refine region_anyG (S := fun w' => FdS n1 a w' ∧ FdS n2 b w') 7 (by kernel_rfl) ?_
    replace hP : rpE.In W.drew n1 a := hP
    replace hQ : rpE.In W.drew n2 b := hQ
    replace hB := hB.drew
    generalize W.drew = U at *
    have hS : FdS n1 a U ∧ FdS n2 b U := ⟨rpIn9 hP, rpIn9 hQ⟩
    refine anyG_take (i := 0) (v := .agg #[.int .i64 a.d, .int .i64 a.i, .int .i64 a.b, .int .i64 a.t, .int .i64 a.m, .int .i64 a.p, .int .i64 a.c, .int .i64 a.s, .int .i64 a.k]) rfl (by kernel_rfl) (by kernel_rfl) (by kernel_rfl) (by kernel_rfl) (by kernel_rfl) (fun _ _ _ h => h) (Or.inl ⟨by rfl, fun w' hSw => by (obtain ⟨⟨s0, s1, s2, s3, s4, s5, s6, s7, s8⟩, t0, t1, t2, t3, t4, t5, t6, t7, t8⟩ := hSw; go_simp)⟩) hS ?_
    try simp only [Act.put, List.setIfInBounds_toArray, List.set_cons_zero, List.set_cons_succ]
    refine anyG_take (i := 2) (v := .agg #[.int .i64 b.d, .int .i64 b.i, .int .i64 b.b, .int .i64 b.t, .int .i64 b.m, .int .i64 b.p, .int .i64 b.c, .int .i64 b.s, .int .i64 b.k]) rfl (by kernel_rfl) (by kernel_rfl) (by kernel_rfl) (by kernel_rfl) (by kernel_rfl) (fun _ _ _ h => h) (Or.inl ⟨by rfl, fun w' hSw => by (obtain ⟨⟨s0, s1, s2, s3, s4, s5, s6, s7, s8⟩, t0, t1, t2, t3, t4, t5, t6, t7, t8⟩ := hSw; go_simp)⟩) hS ?_
    try simp only [Act.put, List.setIfInBounds_toArray, List.set_cons_zero, List.set_cons_succ]
    refine anyG_step (rs := [1, 4, 5]) (by kernel_rfl) (by simp) ?_
    refine AllG.cons rfl (fun K hK => ?_) (AllG.cons rfl (fun K hK => ?_) (AllG.cons rfl (fun K hK => ?_) AllG.nil))
    · skip
      go_simp
      refine (CA.out _).mono ?_
      rintro r w' ⟨rfl, hb⟩
      replace hP := hP.below hb
      replace hQ := hQ.below hb
      try replace hX := hX.below hb
      try replace hY := hY.below hb
      replace hB := below_then hB hb
      clear hb hS
      try go_wp2_with fail
      have hS : FdS n1 a w' ∧ FdS n2 b w' := ⟨rpIn9 hP, rpIn9 hQ⟩
      refine hK.out _ _ hS ?_
      try simp only [Act.put, List.setIfInBounds_toArray, List.set_cons_zero, List.set_cons_succ]
      clear hK
      generalize w' = U at *
      refine anyG_step (rs := [3, 4, 5]) (by kernel_rfl) (by simp) ?_
      refine AllG.cons rfl (fun K hK => ?_) (AllG.cons rfl (fun K hK => ?_) (AllG.cons rfl (fun K hK => ?_) AllG.nil))
      · skip
        go_simp
        refine (CB.out _).mono ?_
        rintro r w' ⟨rfl, hb⟩
        replace hP := hP.below hb
        replace hQ := hQ.below hb
        try replace hX := hX.below hb
        try replace hY := hY.below hb
        replace hB := below_then hB hb
        clear hb hS
        try go_wp2_with fail
        have hS : FdS n1 a w' ∧ FdS n2 b w' := ⟨rpIn9 hP, rpIn9 hQ⟩
        refine hK.out _ _ hS ?_
        try simp only [Act.put, List.setIfInBounds_toArray, List.set_cons_zero, List.set_cons_succ]
        clear hK
        generalize w' = U at *
        refine anyG_step (rs := [4, 5]) (by kernel_rfl) (by simp) ?_
        refine AllG.cons rfl (fun K hK => ?_) (AllG.cons rfl (fun K hK => ?_) AllG.nil)
        · skip
          have hX : fdE.In (U.alloc (.cells #[.int .i64 0, .int .i64 0, .int .i64 0, .int .i64 0, .int .i64 0, .int .i64 0, .int .i64 0, .int .i64 0, .int .i64 0] 41)) U.heap.size zeroRp := El.In.new (E := fdE) U zeroRp #[.int .i64 0, .int .i64 0, .int .i64 0, .int .i64 0, .int .i64 0, .int .i64 0, .int .i64 0, .int .i64 0, .int .i64 0] rfl
          have hal := below_alloc (Below.refl U.heap.size U) (.cells #[.int .i64 0, .int .i64 0, .int .i64 0, .int .i64 0, .int .i64 0, .int .i64 0, .int .i64 0, .int .i64 0, .int .i64 0] 41)
          have hbx := hB.size
          have hpnx := Nat.ne_of_lt hP.lt
          have hqnx := Nat.ne_of_lt hQ.lt
          try have honx := Nat.ne_of_lt hY.lt
          replace hP := hP.below hal
          replace hQ := hQ.below hal
          try replace hY := hY.below hal
          replace hB := below_then hB hal
          clear hal
          have hS2 : FdS n1 a (U.alloc (.cells #[.int .i64 0, .int .i64 0, .int .i64 0, .int .i64 0, .int .i64 0, .int .i64 0, .int .i64 0, .int .i64 0, .int .i64 0] 41)) ∧ FdS n2 b (U.alloc (.cells #[.int .i64 0, .int .i64 0, .int .i64 0, .int .i64 0, .int .i64 0, .int .i64 0, .int .i64 0, .int .i64 0, .int .i64 0] 41)) := ⟨rpIn9 hP, rpIn9 hQ⟩
          go_simp
          refine hK.out _ _ hS2 ?_
          try simp only [Act.put, List.setIfInBounds_toArray, List.set_cons_zero, List.set_cons_succ]
          clear hK hS
          generalize U.alloc (.cells #[.int .i64 0, .int .i64 0, .int .i64 0, .int .i64 0, .int .i64 0, .int .i64 0, .int .i64 0, .int .i64 0, .int .i64 0] 41) = V at *
          generalize U.heap.size = nx at *
          have hS := hS2
          clear hS2
          generalize V = U at *
          refine anyG_step (rs := [5]) (by kernel_rfl) (by simp) ?_
          refine AllG.cons rfl (fun K hK => ?_) AllG.nil
          have hY : fdE.In (U.alloc (.cells #[.int .i64 0, .int .i64 0, .int .i64 0, .int .i64 0, .int .i64 0, .int .i64 0, .int .i64 0, .int .i64 0, .int .i64 0] 41)) U.heap.size zeroRp := El.In.new (E := fdE) U zeroRp #[.int .i64 0, .int .i64 0, .int .i64 0, .int .i64 0, .int .i64 0, .int .i64 0, .int .i64 0, .int .i64 0, .int .i64 0] rfl
          have hal := below_alloc (Below.refl U.heap.size U) (.cells #[.int .i64 0, .int .i64 0, .int .i64 0, .int .i64 0, .int .i64 0, .int .i64 0, .int .i64 0, .int .i64 0, .int .i64 0] 41)
          have hby := hB.size
          have hpny := Nat.ne_of_lt hP.lt
          have hqny := Nat.ne_of_lt hQ.lt
          try have hony := Nat.ne_of_lt hX.lt
          replace hP := hP.below hal
          replace hQ := hQ.below hal
          try replace hX := hX.below hal
          replace hB := below_then hB hal
          clear hal
          have hS2 : FdS n1 a (U.alloc (.cells #[.int .i64 0, .int .i64 0, .int .i64 0, .int .i64 0, .int .i64 0, .int .i64 0, .int .i64 0, .int .i64 0, .int .i64 0] 41)) ∧ FdS n2 b (U.alloc (.cells #[.int .i64 0, .int .i64 0, .int .i64 0, .int .i64 0, .int .i64 0, .int .i64 0, .int .i64 0, .int .i64 0, .int .i64 0] 41)) := ⟨rpIn9 hP, rpIn9 hQ⟩
          go_simp
          refine hK.out _ _ hS2 ?_
          try simp only [Act.put, List.setIfInBounds_toArray, List.set_cons_zero, List.set_cons_succ]
          clear hK hS
          generalize U.alloc (.cells #[.int .i64 0, .int .i64 0, .int .i64 0, .int .i64 0, .int .i64 0, .int .i64 0, .int .i64 0, .int .i64 0, .int .i64 0] 41) = V at *
          generalize U.heap.size = ny at *
          have hS := hS2
          clear hS2
          generalize V = U at *
          have hne : nx ≠ ny := by first | exact hony | exact fun e => honx e.symm
          refine anyG_step (rs := [6]) (by kernel_rfl) (by simp) ?_
          refine AllG.cons rfl (fun K hK => ?_) AllG.nil
          refine El.step_store fdRow rfl _ _ rfl nx a #[.int .i64 a.d, .int .i64 a.i, .int .i64 a.b, .int .i64 a.t, .int .i64 a.m, .int .i64 a.p, .int .i64 a.c, .int .i64 a.s, .int .i64 a.k] rfl rfl rfl zeroRp hX ?_
          replace hX := hX.set a #[.int .i64 a.d, .int .i64 a.i, .int .i64 a.b, .int .i64 a.t, .int .i64 a.m, .int .i64 a.p, .int .i64 a.c, .int .i64 a.s, .int .i64 a.k] rfl
          replace hY := hY.rowN nx #[.int .i64 a.d, .int .i64 a.i, .int .i64 a.b, .int .i64 a.t, .int .i64 a.m, .int .i64 a.p, .int .i64 a.c, .int .i64 a.s, .int .i64 a.k] (fun e => hne e.symm)
          replace hP := hP.rowN nx #[.int .i64 a.d, .int .i64 a.i, .int .i64 a.b, .int .i64 a.t, .int .i64 a.m, .int .i64 a.p, .int .i64 a.c, .int .i64 a.s, .int .i64 a.k] hpnx
          replace hQ := hQ.rowN nx #[.int .i64 a.d, .int .i64 a.i, .int .i64 a.b, .int .i64 a.t, .int .i64 a.m, .int .i64 a.p, .int .i64 a.c, .int .i64 a.s, .int .i64 a.k] hqnx
          replace hB := below_setRow hB hbx #[.int .i64 a.d, .int .i64 a.i, .int .i64 a.b, .int .i64 a.t, .int .i64 a.m, .int .i64 a.p, .int .i64 a.c, .int .i64 a.s, .int .i64 a.k]
          refine hK.out _ _ ⟨rpIn9 hP, rpIn9 hQ⟩ ?_
          try simp only [Act.put, List.setIfInBounds_toArray, List.set_cons_zero, List.set_cons_succ]
          clear hK hS
          refine anyG_step (rs := [7]) (by kernel_rfl) (by simp) ?_
          refine AllG.last (n := 7) rfl (fun K hK => ?_)
          refine El.step_store fdRow rfl _ _ rfl ny b #[.int .i64 b.d, .int .i64 b.i, .int .i64 b.b, .int .i64 b.t, .int .i64 b.m, .int .i64 b.p, .int .i64 b.c, .int .i64 b.s, .int .i64 b.k] rfl rfl rfl zeroRp hY ?_
          replace hY := hY.set b #[.int .i64 b.d, .int .i64 b.i, .int .i64 b.b, .int .i64 b.t, .int .i64 b.m, .int .i64 b.p, .int .i64 b.c, .int .i64 b.s, .int .i64 b.k] rfl
          replace hX := hX.rowN ny #[.int .i64 b.d, .int .i64 b.i, .int .i64 b.b, .int .i64 b.t, .int .i64 b.m, .int .i64 b.p, .int .i64 b.c, .int .i64 b.s, .int .i64 b.k] hne
          replace hB := below_setRow hB hby #[.int .i64 b.d, .int .i64 b.i, .int .i64 b.b, .int .i64 b.t, .int .i64 b.m, .int .i64 b.p, .int .i64 b.c, .int .i64 b.s, .int .i64 b.k]
          refine hK.out _ _ ?_
          clear hK
          refine anyG_done (by kernel_rfl) ?_ _
          exact ⟨nx, ny, rfl, hX, hY, hB⟩
        · skip
          have hY : fdE.In (U.alloc (.cells #[.int .i64 0, .int .i64 0, .int .i64 0, .int .i64 0, .int .i64 0, .int .i64 0, .int .i64 0, .int .i64 0, .int .i64 0] 41)) U.heap.size zeroRp := El.In.new (E := fdE) U zeroRp #[.int .i64 0, .int .i64 0, .int .i64 0, .int .i64 0, .int .i64 0, .int .i64 0, .int .i64 0, .int .i64 0, .int .i64 0] rfl
          have hal := below_alloc (Below.refl U.heap.size U) (.cells #[.int .i64 0, .int .i64 0, .int .i64 0, .int .i64 0, .int .i64 0, .int .i64 0, .int .i64 0, .int .i64 0, .int .i64 0] 41)
          have hby := hB.size
          have hpny := Nat.ne_of_lt hP.lt
          have hqny := Nat.ne_of_lt hQ.lt
          try have hony := Nat.ne_of_lt hX.lt
          replace hP := hP.below hal
          replace hQ := hQ.below hal
          try replace hX := hX.below hal
          replace hB := below_then hB hal
          clear hal
          have hS2 : FdS n1 a (U.alloc (.cells #[.int .i64 0, .int .i64 0, .int .i64 0, .int .i64 0, .int .i64 0, .int .i64 0, .int .i64 0, .int .i64 0, .int .i64 0] 41)) ∧ FdS n2 b (U.alloc (.cells #[.int .i64 0, .int .i64 0, .int .i64 0, .int .i64 0, .int .i64 0, .int .i64 0, .int .i64 0, .int .i64 0, .int .i64 0] 41)) := ⟨rpIn9 hP, rpIn9 hQ⟩
          go_simp
          refine hK.out _ _ hS2 ?_
          try simp only [Act.put, List.setIfInBounds_toArray, List.set_cons_zero, List.set_cons_succ]
          clear hK hS
          generalize U.alloc (.cells #[.int .i64 0, .int .i64 0, .int .i64 0, .int .i64 0, .int .i64 0, .int .i64 0, .int .i64 0, .int .i64 0, .int .i64 0] 41) = V at *
          generalize U.heap.size = ny at *
          have hS := hS2
          clear hS2
          generalize V = U at *
          refine anyG_step (rs := [4]) (by kernel_rfl) (by simp) ?_
          refine AllG.cons rfl (fun K hK => ?_) AllG.nil
          have hX : fdE.In (U.alloc (.cells #[.int .i64 0, .int .i64 0, .int .i64 0, .int .i64 0, .int .i64 0, .int .i64 0, .int .i64 0, .int .i64 0, .int .i64 0] 41)) U.heap.size zeroRp := El.In.new (E := fdE) U zeroRp #[.int .i64 0, .int .i64 0, .int .i64 0, .int .i64 0, .int .i64 0, .int .i64 0, .int .i64 0, .int .i64 0, .int .i64 0] rfl
          have hal := below_alloc (Below.refl U.heap.size U) (.cells #[.int .i64 0, .int .i64 0, .int .i64 0, .int .i64 0, .int .i64 0, .int .i64 0, .int .i64 0, .int .i64 0, .int .i64 0] 41)
          have hbx := hB.size
          have hpnx := Nat.ne_of_lt hP.lt
          have hqnx := Nat.ne_of_lt hQ.lt
          try have honx := Nat.ne_of_lt hY.lt
          replace hP := hP.below hal
          replace hQ := hQ.below hal
          try replace hY := hY.below hal
          replace hB := below_then hB hal
          clear hal
          have hS2 : FdS n1 a (U.alloc (.cells #[.int .i64 0, .int .i64 0, .int .i64 0, .int .i64 0, .int .i64 0, .int .i64 0, .int .i64 0, .int .i64 0, .int .i64 0] 41)) ∧ FdS n2 b (U.alloc (.cells #[.int .i64 0, .int .i64 0, .int .i64 0, .int .i64 0, .int .i64 0, .int .i64 0, .int .i64 0, .int .i64 0, .int .i64 0] 41)) := ⟨rpIn9 hP, rpIn9 hQ⟩
          go_simp
          refine hK.out _ _ hS2 ?_
          try simp only [Act.put, List.setIfInBounds_toArray, List.set_cons_zero, List.set_cons_succ]
          clear hK hS
          generalize U.alloc (.cells #[.int .i64 0, .int .i64 0, .int .i64 0, .int .i64 0, .int .i64 0, .int .i64 0, .int .i64 0, .int .i64 0, .int .i64 0] 41) = V at *
          generalize U.heap.size = nx at *
          have hS := hS2
          clear hS2
          generalize V = U at *
          have hne : nx ≠ ny := by first | exact hony | exact fun e => honx e.symm
          refine anyG_step (rs := [6]) (by kernel_rfl) (by simp) ?_
          refine AllG.cons rfl (fun K hK => ?_) AllG.nil
          refine El.step_store fdRow rfl _ _ rfl nx a #[.int .i64 a.d, .int .i64 a.i, .int .i64 a.b, .int .i64 a.t, .int .i64 a.m, .int .i64 a.p, .int .i64 a.c, .int .i64 a.s, .int .i64 a.k] rfl rfl rfl zeroRp hX ?_
          replace hX := hX.set a #[.int .i64 a.d, .int .i64 a.i, .int .i64 a.b, .int .i64 a.t, .int .i64 a.m, .int .i64 a.p, .int .i64 a.c, .int .i64 a.s, .int .i64 a.k] rfl
          replace hY := hY.rowN nx #[.int .i64 a.d, .int .i64 a.i, .int .i64 a.b, .int .i64 a.t, .int .i64 a.m, .int .i64 a.p, .int .i64 a.c, .int .i64 a.s, .int .i64 a.k] (fun e => hne e.symm)
          replace hP := hP.rowN nx #[.int .i64 a.d, .int .i64 a.i, .int .i64 a.b, .int .i64 a.t, .int .i64 a.m, .int .i64 a.p, .int .i64 a.c, .int .i64 a.s, .int .i64 a.k] hpnx
          replace hQ := hQ.rowN nx #[.int .i64 a.d, .int .i64 a.i, .int .i64 a.b, .int .i64 a.t, .int .i64 a.m, .int .i64 a.p, .int .i64 a.c, .int .i64 a.s, .int .i64 a.k] hqnx
          replace hB := below_setRow hB hbx #[.int .i64 a.d, .int .i64 a.i, .int .i64 a.b, .int .i64 a.t, .int .i64 a.m, .int .i64 a.p, .int .i64 a.c, .int .i64 a.s, .int .i64 a.k]
          refine hK.out _ _ ⟨rpIn9 hP, rpIn9 hQ⟩ ?_
          try simp only [Act.put, List.setIfInBounds_toArray, List.set_cons_zero, List.set_cons_succ]
          clear hK hS
          refine anyG_step (rs := [7]) (by kernel_rfl) (by simp) ?_
          refine AllG.last (n := 7) rfl (fun K hK => ?_)
          refine El.step_store fdRow rfl _ _ rfl ny b #[.int .i64 b.d, .int .i64 b.i, .int .i64 b.b, .int .i64 b.t, .int .i64 b.m, .int .i64 b.p, .int .i64 b.c, .int .i64 b.s, .int .i64 b.k] rfl rfl rfl zeroRp hY ?_
          replace hY := hY.set b #[.int .i64 b.d, .int .i64 b.i, .int .i64 b.b, .int .i64 b.t, .int .i64 b.m, .int .i64 b.p, .int .i64 b.c, .int .i64 b.s, .int .i64 b.k] rfl
          replace hX := hX.rowN ny #[.int .i64 b.d, .int .i64 b.i, .int .i64 b.b, .int .i64 b.t, .int .i64 b.m, .int .i64 b.p, .int .i64 b.c, .int .i64 b.s, .int .i64 b.k] hne
          replace hB := below_setRow hB hby #[.int .i64 b.d, .int .i64 b.i, .int .i64 b.b, .int .i64 b.t, .int .i64 b.m, .int .i64 b.p, .int .i64 b.c, .int .i64 b.s, .int .i64 b.k]
          refine hK.out _ _ ?_
          clear hK
          refine anyG_done (by kernel_rfl) ?_ _
          exact ⟨nx, ny, rfl, hX, hY, hB⟩
      · skip
        have hX : fdE.In (U.alloc (.cells #[.int .i64 0, .int .i64 0, .int .i64 0, .int .i64 0, .int .i64 0, .int .i64 0, .int .i64 0, .int .i64 0, .int .i64 0] 41)) U.heap.size zeroRp := El.In.new (E := fdE) U zeroRp #[.int .i64 0, .int .i64 0, .int .i64 0, .int .i64 0, .int .i64 0, .int .i64 0, .int .i64 0, .int .i64 0, .int .i64 0] rfl
        have hal := below_alloc (Below.refl U.heap.size U) (.cells #[.int .i64 0, .int .i64 0, .int .i64 0, .int .i64 0, .int .i64 0, .int .i64 0, .int .i64 0, .int .i64 0, .int .i64 0] 41)
        have hbx := hB.size
        have hpnx := Nat.ne_of_lt hP.lt
        have hqnx := Nat.ne_of_lt hQ.lt
        try have honx := Nat.ne_of_lt hY.lt
        replace hP := hP.below hal
        replace hQ := hQ.below hal
        try replace hY := hY.below hal
        replace hB := below_then hB hal
        clear hal
        have hS2 : FdS n1 a (U.alloc (.cells #[.int .i64 0, .int .i64 0, .int .i64 0, .int .i64 0, .int .i64 0, .int .i64 0, .int .i64 0, .int .i64 0, .int .i64 0] 41)) ∧ FdS n2 b (U.alloc (.cells #[.int .i64 0, .int .i64 0, .int .i64 0, .int .i64 0, .int .i64 0, .int .i64 0, .int .i64 0, .int .i64 0, .int .i64 0] 41)) := ⟨rpIn9 hP, rpIn9 hQ⟩
        go_simp
        refine hK.out _ _ hS2 ?_
        try simp only [Act.put, List.setIfInBounds_toArray, List.set_cons_zero, List.set_cons_succ]
        clear hK hS
        generalize U.alloc (.cells #[.int .i64 0, .int .i64 0, .int .i64 0, .int .i64 0, .int .i64 0, .int .i64 0, .int .i64 0, .int .i64 0, .int .i64 0] 41) = V at *
        generalize U.heap.size = nx at *
        have hS := hS2
        clear hS2
        generalize V = U at *
        refine anyG_step (rs := [3, 5]) (by kernel_rfl) (by simp) ?_
        refine AllG.cons rfl (fun K hK => ?_) (AllG.cons rfl (fun K hK => ?_) AllG.nil)
        · skip
          go_simp
          refine (CB.out _).mono ?_
          rintro r w' ⟨rfl, hb⟩
          replace hP := hP.below hb
          replace hQ := hQ.below hb
          try replace hX := hX.below hb
          try replace hY := hY.below hb
          replace hB := below_then hB hb
          clear hb hS
          try go_wp2_with fail
          have hS : FdS n1 a w' ∧ FdS n2 b w' := ⟨rpIn9 hP, rpIn9 hQ⟩
          refine hK.out _ _ hS ?_
          try simp only [Act.put, List.setIfInBounds_toArray, List.set_cons_zero, List.set_cons_succ]
          clear hK
          generalize w' = U at *
          refine anyG_step (rs := [5]) (by kernel_rfl) (by simp) ?_
          refine AllG.cons rfl (fun K hK => ?_) AllG.nil
          have hY : fdE.In (U.alloc (.cells #[.int .i64 0, .int .i64 0, .int .i64 0, .int .i64 0, .int .i64 0, .int .i64 0, .int .i64 0, .int .i64 0, .int .i64 0] 41)) U.heap.size zeroRp := El.In.new (E := fdE) U zeroRp #[.int .i64 0, .int .i64 0, .int .i64 0, .int .i64 0, .int .i64 0, .int .i64 0, .int .i64 0, .int .i64 0, .int .i64 0] rfl
          have hal := below_alloc (Below.refl U.heap.size U) (.cells #[.int .i64 0, .int .i64 0, .int .i64 0, .int .i64 0, .int .i64 0, .int .i64 0, .int .i64 0, .int .i64 0, .int .i64 0] 41)
          have hby := hB.size
          have hpny := Nat.ne_of_lt hP.lt
          have hqny := Nat.ne_of_lt hQ.lt
          try have hony := Nat.ne_of_lt hX.lt
          replace hP := hP.below hal
          replace hQ := hQ.below hal
          try replace hX := hX.below hal
          replace hB := below_then hB hal
          clear hal
          have hS2 : FdS n1 a (U.alloc (.cells #[.int .i64 0, .int .i64 0, .int .i64 0, .int .i64 0, .int .i64 0, .int .i64 0, .int .i64 0, .int .i64 0, .int .i64 0] 41)) ∧ FdS n2 b (U.alloc (.cells #[.int .i64 0, .int .i64 0, .int .i64 0, .int .i64 0, .int .i64 0, .int .i64 0, .int .i64 0, .int .i64 0, .int .i64 0] 41)) := ⟨rpIn9 hP, rpIn9 hQ⟩
          go_simp
          refine hK.out _ _ hS2 ?_
          try simp only [Act.put, List.setIfInBounds_toArray, List.set_cons_zero, List.set_cons_succ]
          clear hK hS
          generalize U.alloc (.cells #[.int .i64 0, .int .i64 0, .int .i64 0, .int .i64 0, .int .i64 0, .int .i64 0, .int .i64 0, .int .i64 0, .int .i64 0] 41) = V at *
          generalize U.heap.size = ny at *
          have hS := hS2
          clear hS2
          generalize V = U at *
          have hne : nx ≠ ny := by first | exact hony | exact fun e => honx e.symm
          refine anyG_step (rs := [6]) (by kernel_rfl) (by simp) ?_
          refine AllG.cons rfl (fun K hK => ?_) AllG.nil
          refine El.step_store fdRow rfl _ _ rfl nx a #[.int .i64 a.d, .int .i64 a.i, .int .i64 a.b, .int .i64 a.t, .int .i64 a.m, .int .i64 a.p, .int .i64 a.c, .int .i64 a.s, .int .i64 a.k] rfl rfl rfl zeroRp hX ?_
          replace hX := hX.set a #[.int .i64 a.d, .int .i64 a.i, .int .i64 a.b, .int .i64 a.t, .int .i64 a.m, .int .i64 a.p, .int .i64 a.c, .int .i64 a.s, .int .i64 a.k] rfl
          replace hY := hY.rowN nx #[.int .i64 a.d, .int .i64 a.i, .int .i64 a.b, .int .i64 a.t, .int .i64 a.m, .int .i64 a.p, .int .i64 a.c, .int .i64 a.s, .int .i64 a.k] (fun e => hne e.symm)
          replace hP := hP.rowN nx #[.int .i64 a.d, .int .i64 a.i, .int .i64 a.b, .int .i64 a.t, .int .i64 a.m, .int .i64 a.p, .int .i64 a.c, .int .i64 a.s, .int .i64 a.k] hpnx
          replace hQ := hQ.rowN nx #[.int .i64 a.d, .int .i64 a.i, .int .i64 a.b, .int .i64 a.t, .int .i64 a.m, .int .i64 a.p, .int .i64 a.c, .int .i64 a.s, .int .i64 a.k] hqnx
          replace hB := below_setRow hB hbx #[.int .i64 a.d, .int .i64 a.i, .int .i64 a.b, .int .i64 a.t, .int .i64 a.m, .int .i64 a.p, .int .i64 a.c, .int .i64 a.s, .int .i64 a.k]
          refine hK.out _ _ ⟨rpIn9 hP, rpIn9 hQ⟩ ?_
          try simp only [Act.put, List.setIfInBounds_toArray, List.set_cons_zero, List.set_cons_succ]
          clear hK hS
          refine anyG_step (rs := [7]) (by kernel_rfl) (by simp) ?_
          refine AllG.last (n := 7) rfl (fun K hK => ?_)
          refine El.step_store fdRow rfl _ _ rfl ny b #[.int .i64 b.d, .int .i64 b.i, .int .i64 b.b, .int .i64 b.t, .int .i64 b.m, .int .i64 b.p, .int .i64 b.c, .int .i64 b.s, .int .i64 b.k] rfl rfl rfl zeroRp hY ?_
          replace hY := hY.set b #[.int .i64 b.d, .int .i64 b.i, .int .i64 b.b, .int .i64 b.t, .int .i64 b.m, .int .i64 b.p, .int .i64 b.c, .int .i64 b.s, .int .i64 b.k] rfl
          replace hX := hX.rowN ny #[.int .i64 b.d, .int .i64 b.i, .int .i64 b.b, .int .i64 b.t, .int .i64 b.m, .int .i64 b.p, .int .i64 b.c, .int .i64 b.s, .int .i64 b.k] hne
          replace hB := below_setRow hB hby #[.int .i64 b.d, .int .i64 b.i, .int .i64 b.b, .int .i64 b.t, .int .i64 b.m, .int .i64 b.p, .int .i64 b.c, .int .i64 b.s, .int .i64 b.k]
          refine hK.out _ _ ?_
          clear hK
          refine anyG_done (by kernel_rfl) ?_ _
          exact ⟨nx, ny, rfl, hX, hY, hB⟩
        · skip
          have hY : fdE.In (U.alloc (.cells #[.int .i64 0, .int .i64 0, .int .i64 0, .int .i64 0, .int .i64 0, .int .i64 0, .int .i64 0, .int .i64 0, .int .i64 0] 41)) U.heap.size zeroRp := El.In.new (E := fdE) U zeroRp #[.int .i64 0, .int .i64 0, .int .i64 0, .int .i64 0, .int .i64 0, .int .i64 0, .int .i64 0, .int .i64 0, .int .i64 0] rfl
          have hal := below_alloc (Below.refl U.heap.size U) (.cells #[.int .i64 0, .int .i64 0, .int .i64 0, .int .i64 0, .int .i64 0, .int .i64 0, .int .i64 0, .int .i64 0, .int .i64 0] 41)
          have hby := hB.size
          have hpny := Nat.ne_of_lt hP.lt
          have hqny := Nat.ne_of_lt hQ.lt
          try have hony := Nat.ne_of_lt hX.lt
          replace hP := hP.below hal
          replace hQ := hQ.below hal
          try replace hX := hX.below hal
          replace hB := below_then hB hal
          clear hal
          have hS2 : FdS n1 a (U.alloc (.cells #[.int .i64 0, .int .i64 0, .int .i64 0, .int .i64 0, .int .i64 0, .int .i64 0, .int .i64 0, .int .i64 0, .int .i64 0] 41)) ∧ FdS n2 b (U.alloc (.cells #[.int .i64 0, .int .i64 0, .int .i64 0, .int .i64 0, .int .i64 0, .int .i64 0, .int .i64 0, .int .i64 0, .int .i64 0] 41)) := ⟨rpIn9 hP, rpIn9 hQ⟩
          go_simp
          refine hK.out _ _ hS2 ?_
          try simp only [Act.put, List.setIfInBounds_toArray, List.set_cons_zero, List.set_cons_succ]
          clear hK hS
          generalize U.alloc (.cells #[.int .i64 0, .int .i64 0, .int .i64 0, .int .i64 0, .int .i64 0, .int .i64 0, .int .i64 0, .int .i64 0, .int .i64 0] 41) = V at *
          generalize U.heap.size = ny at *
          have hS := hS2
          clear hS2
          generalize V = U at *
          refine anyG_step (rs := [3]) (by kernel_rfl) (by simp) ?_
          refine AllG.cons rfl (fun K hK => ?_) AllG.nil
          go_simp
          refine (CB.out _).mono ?_
          rintro r w' ⟨rfl, hb⟩
          replace hP := hP.below hb
          replace hQ := hQ.below hb
          try replace hX := hX.below hb
          try replace hY := hY.below hb
          replace hB := below_then hB hb
          clear hb hS
          try go_wp2_with fail
          have hS : FdS n1 a w' ∧ FdS n2 b w' := ⟨rpIn9 hP, rpIn9 hQ⟩
          refine hK.out _ _ hS ?_
          try simp only [Act.put, List.setIfInBounds_toArray, List.set_cons_zero, List.set_cons_succ]
          clear hK
          generalize w' = U at *
          have hne : nx ≠ ny := by first | exact hony | exact fun e => honx e.symm
          refine anyG_step (rs := [6]) (by kernel_rfl) (by simp) ?_
          refine AllG.cons rfl (fun K hK => ?_) AllG.nil
          refine El.step_store fdRow rfl _ _ rfl nx a #[.int .i64 a.d, .int .i64 a.i, .int .i64 a.b, .int .i64 a.t, .int .i64 a.m, .int .i64 a.p, .int .i64 a.c, .int .i64 a.s, .int .i64 a.k] rfl rfl rfl zeroRp hX ?_
          replace hX := hX.set a #[.int .i64 a.d, .int .i64 a.i, .int .i64 a.b, .int .i64 a.t, .int .i64 a.m, .int .i64 a.p, .int .i64 a.c, .int .i64 a.s, .int .i64 a.k] rfl
          replace hY := hY.rowN nx #[.int .i64 a.d, .int .i64 a.i, .int .i64 a.b, .int .i64 a.t, .int .i64 a.m, .int .i64 a.p, .int .i64 a.c, .int .i64 a.s, .int .i64 a.k] (fun e => hne e.symm)
          replace hP := hP.rowN nx #[.int .i64 a.d, .int .i64 a.i, .int .i64 a.b, .int .i64 a.t, .int .i64 a.m, .int .i64 a.p, .int .i64 a.c, .int .i64 a.s, .int .i64 a.k] hpnx
          replace hQ := hQ.rowN nx #[.int .i64 a.d, .int .i64 a.i, .int .i64 a.b, .int .i64 a.t, .int .i64 a.m, .int .i64 a.p, .int .i64 a.c, .int .i64 a.s, .int .i64 a.k] hqnx
          replace hB := below_setRow hB hbx #[.int .i64 a.d, .int .i64 a.i, .int .i64 a.b, .int .i64 a.t, .int .i64 a.m, .int .i64 a.p, .int .i64 a.c, .int .i64 a.s, .int .i64 a.k]
          refine hK.out _ _ ⟨rpIn9 hP, rpIn9 hQ⟩ ?_
          try simp only [Act.put, List.setIfInBounds_toArray, List.set_cons_zero, List.set_cons_succ]
          clear hK hS
          refine anyG_step (rs := [7]) (by kernel_rfl) (by simp) ?_
          refine AllG.last (n := 7) rfl (fun K hK => ?_)
          refine El.step_store fdRow rfl _ _ rfl ny b #[.int .i64 b.d, .int .i64 b.i, .int .i64 b.b, .int .i64 b.t, .int .i64 b.m, .int .i64 b.p, .int .i64 b.c, .int .i64 b.s, .int .i64 b.k] rfl rfl rfl zeroRp hY ?_
          replace hY := hY.set b #[.int .i64 b.d, .int .i64 b.i, .int .i64 b.b, .int .i64 b.t, .int .i64 b.m, .int .i64 b.p, .int .i64 b.c, .int .i64 b.s, .int .i64 b.k] rfl
          replace hX := hX.rowN ny #[.int .i64 b.d, .int .i64 b.i, .int .i64 b.b, .int .i64 b.t, .int .i64 b.m, .int .i64 b.p, .int .i64 b.c, .int .i64 b.s, .int .i64 b.k] hne
          replace hB := below_setRow hB hby #[.int .i64 b.d, .int .i64 b.i, .int .i64 b.b, .int .i64 b.t, .int .i64 b.m, .int .i64 b.p, .int .i64 b.c, .int .i64 b.s, .int .i64 b.k]
          refine hK.out _ _ ?_
          clear hK
          refine anyG_done (by kernel_rfl) ?_ _
          exact ⟨nx, ny, rfl, hX, hY, hB⟩
      · skip
        have hY : fdE.In (U.alloc (.cells #[.int .i64 0, .int .i64 0, .int .i64 0, .int .i64 0, .int .i64 0, .int .i64 0, .int .i64 0, .int .i64 0, .int .i64 0] 41)) U.heap.size zeroRp := El.In.new (E := fdE) U zeroRp #[.int .i64 0, .int .i64 0, .int .i64 0, .int .i64 0, .int .i64 0, .int .i64 0, .int .i64 0, .int .i64 0, .int .i64 0] rfl
        have hal := below_alloc (Below.refl U.heap.size U) (.cells #[.int .i64 0, .int .i64 0, .int .i64 0, .int .i64 0, .int .i64 0, .int .i64 0, .int .i64 0, .int .i64 0, .int .i64 0] 41)
        have hby := hB.size
        have hpny := Nat.ne_of_lt hP.lt
        have hqny := Nat.ne_of_lt hQ.lt
        try have hony := Nat.ne_of_lt hX.lt
        replace hP := hP.below hal
        replace hQ := hQ.below hal
        try replace hX := hX.below hal
        replace hB := below_then hB hal
        clear hal
        have hS2 : FdS n1 a (U.alloc (.cells #[.int .i64 0, .int .i64 0, .int .i64 0, .int .i64 0, .int .i64 0, .int .i64 0, .int .i64 0, .int .i64 0, .int .i64 0] 41)) ∧ FdS n2 b (U.alloc (.cells #[.int .i64 0, .int .i64 0, .int .i64 0, .int .i64 0, .int .i64 0, .int .i64 0, .int .i64 0, .int .i64 0, .int .i64 0] 41)) := ⟨rpIn9 hP, rpIn9 hQ⟩
        go_simp
        refine hK.out _ _ hS2 ?_
        try simp only [Act.put, List.setIfInBounds_toArray, List.set_cons_zero, List.set_cons_succ]
        clear hK hS
        generalize U.alloc (.cells #[.int .i64 0, .int .i64 0, .int .i64 0, .int .i64 0, .int .i64 0, .int .i64 0, .int .i64 0, .int .i64 0, .int .i64 0] 41) = V at *
        generalize U.heap.size = ny at *
        have hS := hS2
        clear hS2
        generalize V = U at *
        refine anyG_step (rs := [3, 4]) (by kernel_rfl) (by simp) ?_
        refine AllG.cons rfl (fun K hK => ?_) (AllG.cons rfl (fun K hK => ?_) AllG.nil)
        · skip
          go_simp
          refine (CB.out _).mono ?_
          rintro r w' ⟨rfl, hb⟩
          replace hP := hP.below hb
          replace hQ := hQ.below hb
          try replace hX := hX.below hb
          try replace hY := hY.below hb
          replace hB := below_then hB hb
          clear hb hS
          try go_wp2_with fail
          have hS : FdS n1 a w' ∧ FdS n2 b w' := ⟨rpIn9 hP, rpIn9 hQ⟩
          refine hK.out _ _ hS ?_
          try simp only [Act.put, List.setIfInBounds_toArray, List.set_cons_zero, List.set_cons_succ]
          clear hK
          generalize w' = U at *
          refine anyG_step (rs := [4]) (by kernel_rfl) (by simp) ?_
          refine AllG.cons rfl (fun K hK => ?_) AllG.nil
          have hX : fdE.In (U.alloc (.cells #[.int .i64 0, .int .i64 0, .int .i64 0, .int .i64 0, .int .i64 0, .int .i64 0, .int .i64 0, .int .i64 0, .int .i64 0] 41)) U.heap.size zeroRp := El.In.new (E := fdE) U zeroRp #[.int .i64 0, .int .i64 0, .int .i64 0, .int .i64 0, .int .i64 0, .int .i64 0, .int .i64 0, .int .i64 0, .int .i64 0] rfl
          have hal := below_alloc (Below.refl U.heap.size U) (.cells #[.int .i64 0, .int .i64 0, .int .i64 0, .int .i64 0, .int .i64 0, .int .i64 0, .int .i64 0, .int .i64 0, .int .i64 0] 41)
          have hbx := hB.size
          have hpnx := Nat.ne_of_lt hP.lt
          have hqnx := Nat.ne_of_lt hQ.lt
          try have honx := Nat.ne_of_lt hY.lt
          replace hP := hP.below hal
          replace hQ := hQ.below hal
          try replace hY := hY.below hal
          replace hB := below_then hB hal
          clear hal
          have hS2 : FdS n1 a (U.alloc (.cells #[.int .i64 0, .int .i64 0, .int .i64 0, .int .i64 0, .int .i64 0, .int .i64 0, .int .i64 0, .int .i64 0, .int .i64 0] 41)) ∧ FdS n2 b (U.alloc (.cells #[.int .i64 0, .int .i64 0, .int .i64 0, .int .i64 0, .int .i64 0, .int .i64 0, .int .i64 0, .int .i64 0, .int .i64 0] 41)) := ⟨rpIn9 hP, rpIn9 hQ⟩
          go_simp
          refine hK.out _ _ hS2 ?_
          try simp only [Act.put, List.setIfInBounds_toArray, List.set_cons_zero, List.set_cons_succ]
          clear hK hS
          generalize U.alloc (.cells #[.int .i64 0, .int .i64 0, .int .i64 0, .int .i64 0, .int .i64 0, .int .i64 0, .int .i64 0, .int .i64 0, .int .i64 0] 41) = V at *
          generalize U.heap.size = nx at *
          have hS := hS2
          clear hS2
          generalize V = U at *
          have hne : nx ≠ ny := by first | exact hony | exact fun e => honx e.symm
          refine anyG_step (rs := [6]) (by kernel_rfl) (by simp) ?_
          refine AllG.cons rfl (fun K hK => ?_) AllG.nil
          refine El.step_store fdRow rfl _ _ rfl nx a #[.int .i64 a.d, .int .i64 a.i, .int .i64 a.b, .int .i64 a.t, .int .i64 a.m, .int .i64 a.p, .int .i64 a.c, .int .i64 a.s, .int .i64 a.k] rfl rfl rfl zeroRp hX ?_
          replace hX := hX.set a #[.int .i64 a.d, .int .i64 a.i, .int .i64 a.b, .int .i64 a.t, .int .i64 a.m, .int .i64 a.p, .int .i64 a.c, .int .i64 a.s, .int .i64 a.k] rfl
          replace hY := hY.rowN nx #[.int .i64 a.d, .int .i64 a.i, .int .i64 a.b, .int .i64 a.t, .int .i64 a.m, .int .i64 a.p, .int .i64 a.c, .int .i64 a.s, .int .i64 a.k] (fun e => hne e.symm)
          replace hP := hP.rowN nx #[.int .i64 a.d, .int .i64 a.i, .int .i64 a.b, .int .i64 a.t, .int .i64 a.m, .int .i64 a.p, .int .i64 a.c, .int .i64 a.s, .int .i64 a.k] hpnx
          replace hQ := hQ.rowN nx #[.int .i64 a.d, .int .i64 a.i, .int .i64 a.b, .int .i64 a.t, .int .i64 a.m, .int .i64 a.p, .int .i64 a.c, .int .i64 a.s, .int .i64 a.k] hqnx
          replace hB := below_setRow hB hbx #[.int .i64 a.d, .int .i64 a.i, .int .i64 a.b, .int .i64 a.t, .int .i64 a.m, .int .i64 a.p, .int .i64 a.c, .int .i64 a.s, .int .i64 a.k]
          refine hK.out _ _ ⟨rpIn9 hP, rpIn9 hQ⟩ ?_
          try simp only [Act.put, List.setIfInBounds_toArray, List.set_cons_zero, List.set_cons_succ]
          clear hK hS
          refine anyG_step (rs := [7]) (by kernel_rfl) (by simp) ?_
          refine AllG.last (n := 7) rfl (fun K hK => ?_)
          refine El.step_store fdRow rfl _ _ rfl ny b #[.int .i64 b.d, .int .i64 b.i, .int .i64 b.b, .int .i64 b.t, .int .i64 b.m, .int .i64 b.p, .int .i64 b.c, .int .i64 b.s, .int .i64 b.k] rfl rfl rfl zeroRp hY ?_
          replace hY := hY.set b #[.int .i64 b.d, .int .i64 b.i, .int .i64 b.b, .int .i64 b.t, .int .i64 b.m, .int .i64 b.p, .int .i64 b.c, .int .i64 b.s, .int .i64 b.k] rfl
          replace hX := hX.rowN ny #[.int .i64 b.d, .int .i64 b.i, .int .i64 b.b, .int .i64 b.t, .int .i64 b.m, .int .i64 b.p, .int .i64 b.c, .int .i64 b.s, .int .i64 b.k] hne
          replace hB := below_setRow hB hby #[.int .i64 b.d, .int .i64 b.i, .int .i64 b.b, .int .i64 b.t, .int .i64 b.m, .int .i64 b.p, .int .i64 b.c, .int .i64 b.s, .int .i64 b.k]
          refine hK.out _ _ ?_
          clear hK
          refine anyG_done (by kernel_rfl) ?_ _
          exact ⟨nx, ny, rfl, hX, hY, hB⟩
        · skip
          have hX : fdE.In (U.alloc (.cells #[.int .i64 0, .int .i64 0, .int .i64 0, .int .i64 0, .int .i64 0, .int .i64 0, .int .i64 0, .int .i64 0, .int .i64 0] 41)) U.heap.size zeroRp := El.In.new (E := fdE) U zeroRp #[.int .i64 0, .int .i64 0, .int .i64 0, .int .i64 0, .int .i64 0, .int .i64 0, .int .i64 0, .int .i64 0, .int .i64 0] rfl
          have hal := below_alloc (Below.refl U.heap.size U) (.cells #[.int .i64 0, .int .i64 0, .int .i64 0, .int .i64 0, .int .i64 0, .int .i64 0, .int .i64 0, .int .i64 0, .int .i64 0] 41)
          have hbx := hB.size
          have hpnx := Nat.ne_of_lt hP.lt
          have hqnx := Nat.ne_of_lt hQ.lt
          try have honx := Nat.ne_of_lt hY.lt
          replace hP := hP.below hal
          replace hQ := hQ.below hal
          try replace hY := hY.below hal
          replace hB := below_then hB hal
          clear hal
          have hS2 : FdS n1 a (U.alloc (.cells #[.int .i64 0, .int .i64 0, .int .i64 0, .int .i64 0, .int .i64 0, .int .i64 0, .int .i64 0, .int .i64 0, .int .i64 0] 41)) ∧ FdS n2 b (U.alloc (.cells #[.int .i64 0, .int .i64 0, .int .i64 0, .int .i64 0, .int .i64 0, .int .i64 0, .int .i64 0, .int .i64 0, .int .i64 0] 41)) := ⟨rpIn9 hP, rpIn9 hQ⟩
          go_simp
          refine hK.out _ _ hS2 ?_
          try simp only [Act.put, List.setIfInBounds_toArray, List.set_cons_zero, List.set_cons_succ]
          clear hK hS
          generalize U.alloc (.cells #[.int .i64 0, .int .i64 0, .int .i64 0, .int .i64 0, .int .i64 0, .int .i64 0, .int .i64 0, .int .i64 0, .int .i64 0] 41) = V at *
          generalize U.heap.size = nx at *
          have hS := hS2
          clear hS2
          generalize V = U at *
          refine anyG_step (rs := [3]) (by kernel_rfl) (by simp) ?_
          refine AllG.cons rfl (fun K hK => ?_) AllG.nil
          go_simp
          refine (CB.out _).mono ?_
          rintro r w' ⟨rfl, hb⟩
          replace hP := hP.below hb
          replace hQ := hQ.below hb
          try replace hX := hX.below hb
          try replace hY := hY.below hb
          replace hB := below_then hB hb
          clear hb hS
          try go_wp2_with fail
          have hS : FdS n1 a w' ∧ FdS n2 b w' := ⟨rpIn9 hP, rpIn9 hQ⟩
          refine hK.out _ _ hS ?_
          try simp only [Act.put, List.setIfInBounds_toArray, List.set_cons_zero, List.set_cons_succ]
          clear hK
          generalize w' = U at *
          have hne : nx ≠ ny := by first | exact hony | exact fun e => honx e.symm
          refine anyG_step (rs := [6]) (by kernel_rfl) (by simp) ?_
          refine AllG.cons rfl (fun K hK => ?_) AllG.nil
          refine El.step_store fdRow rfl _ _ rfl nx a #[.int .i64 a.d, .int .i64 a.i, .int .i64 a.b, .int .i64 a.t, .int .i64 a.m, .int .i64 a.p, .int .i64 a.c, .int .i64 a.s, .int .i64 a.k] rfl rfl rfl zeroRp hX ?_
          replace hX := hX.set a #[.int .i64 a.d, .int .i64 a.i, .int .i64 a.b, .int .i64 a.t, .int .i64 a.m, .int .i64 a.p, .int .i64 a.c, .int .i64 a.s, .int .i64 a.k] rfl
          replace hY := hY.rowN nx #[.int .i64 a.d, .int .i64 a.i, .int .i64 a.b, .int .i64 a.t, .int .i64 a.m, .int .i64 a.p, .int .i64 a.c, .int .i64 a.s, .int .i64 a.k] (fun e => hne e.symm)
          replace hP := hP.rowN nx #[.int .i64 a.d, .int .i64 a.i, .int .i64 a.b, .int .i64 a.t, .int .i64 a.m, .int .i64 a.p, .int .i64 a.c, .int .i64 a.s, .int .i64 a.k] hpnx
          replace hQ := hQ.rowN nx #[.int .i64 a.d, .int .i64 a.i, .int .i64 a.b, .int .i64 a.t, .int .i64 a.m, .int .i64 a.p, .int .i64 a.c, .int .i64 a.s, .int .i64 a.k] hqnx
          replace hB := below_setRow hB hbx #[.int .i64 a.d, .int .i64 a.i, .int .i64 a.b, .int .i64 a.t, .int .i64 a.m, .int .i64 a.p, .int .i64 a.c, .int .i64 a.s, .int .i64 a.k]
          refine hK.out _ _ ⟨rpIn9 hP, rpIn9 hQ⟩ ?_
          try simp only [Act.put, List.setIfInBounds_toArray, List.set_cons_zero, List.set_cons_succ]
          clear hK hS
          refine anyG_step (rs := [7]) (by kernel_rfl) (by simp) ?_
          refine AllG.last (n := 7) rfl (fun K hK => ?_)
          refine El.step_store fdRow rfl _ _ rfl ny b #[.int .i64 b.d, .int .i64 b.i, .int .i64 b.b, .int .i64 b.t, .int .i64 b.m, .int .i64 b.p, .int .i64 b.c, .int .i64 b.s, .int .i64 b.k] rfl rfl rfl zeroRp hY ?_
          replace hY := hY.set b #[.int .i64 b.d, .int .i64 b.i, .int .i64 b.b, .int .i64 b.t, .int .i64 b.m, .int .i64 b.p, .int .i64 b.c, .int .i64 b.s, .int .i64 b.k] rfl
          replace hX := hX.rowN ny #[.int .i64 b.d, .int .i64 b.i, .int .i64 b.b, .int .i64 b.t, .int .i64 b.m, .int .i64 b.p, .int .i64 b.c, .int .i64 b.s, .int .i64 b.k] hne
          replace hB := below_setRow hB hby #[.int .i64 b.d, .int .i64 b.i, .int .i64 b.b, .int .i64 b.t, .int .i64 b.m, .int .i64 b.p, .int .i64 b.c, .int .i64 b.s, .int .i64 b.k]
          refine hK.out _ _ ?_
          clear hK
          refine anyG_done (by kernel_rfl) ?_ _
          exact ⟨nx, ny, rfl, hX, hY, hB⟩
    · skip
      have hX : fdE.In (U.alloc (.cells #[.int .i64 0, .int .i64 0, .int .i64 0, .int .i64 0, .int .i64 0, .int .i64 0, .int .i64 0, .int .i64 0, .int .i64 0] 41)) U.heap.size zeroRp := El.In.new (E := fdE) U zeroRp #[.int .i64 0, .int .i64 0, .int .i64 0, .int .i64 0, .int .i64 0, .int .i64 0, .int .i64 0, .int .i64 0, .int .i64 0] rfl
      have hal := below_alloc (Below.refl U.heap.size U) (.cells #[.int .i64 0, .int .i64 0, .int .i64 0, .int .i64 0, .int .i64 0, .int .i64 0, .int .i64 0, .int .i64 0, .int .i64 0] 41)
      have hbx := hB.size
      have hpnx := Nat.ne_of_lt hP.lt
      have hqnx := Nat.ne_of_lt hQ.lt
      try have honx := Nat.ne_of_lt hY.lt
      replace hP := hP.below hal
      replace hQ := hQ.below hal
      try replace hY := hY.below hal
      replace hB := below_then hB hal
      clear hal
      have hS2 : FdS n1 a (U.alloc (.cells #[.int .i64 0, .int .i64 0, .int .i64 0, .int .i64 0, .int .i64 0, .int .i64 0, .int .i64 0, .int .i64 0, .int .i64 0] 41)) ∧ FdS n2 b (U.alloc (.cells #[.int .i64 0, .int .i64 0, .int .i64 0, .int .i64 0, .int .i64 0, .int .i64 0, .int .i64 0, .int .i64 0, .int .i64 0] 41)) := ⟨rpIn9 hP, rpIn9 hQ⟩
      go_simp
      refine hK.out _ _ hS2 ?_
      try simp only [Act.put, List.setIfInBounds_toArray, List.set_cons_zero, List.set_cons_succ]
      clear hK hS
      generalize U.alloc (.cells #[.int .i64 0, .int .i64 0, .int .i64 0, .int .i64 0, .int .i64 0, .int .i64 0, .int .i64 0, .int .i64 0, .int .i64 0] 41) = V at *
      generalize U.heap.size = nx at *
      have hS := hS2
      clear hS2
      generalize V = U at *
      refine anyG_step (rs := [1, 5]) (by kernel_rfl) (by simp) ?_
      refine AllG.cons rfl (fun K hK => ?_) (AllG.cons rfl (fun K hK => ?_) AllG.nil)
      · skip
        go_simp
        refine (CA.out _).mono ?_
        rintro r w' ⟨rfl, hb⟩
        replace hP := hP.below hb
        replace hQ := hQ.below hb
        try replace hX := hX.below hb
        try replace hY := hY.below hb
        replace hB := below_then hB hb
        clear hb hS
        try go_wp2_with fail
        have hS : FdS n1 a w' ∧ FdS n2 b w' := ⟨rpIn9 hP, rpIn9 hQ⟩
        refine hK.out _ _ hS ?_
        try simp only [Act.put, List.setIfInBounds_toArray, List.set_cons_zero, List.set_cons_succ]
        clear hK
        generalize w' = U at *
        refine anyG_step (rs := [3, 5]) (by kernel_rfl) (by simp) ?_
        refine AllG.cons rfl (fun K hK => ?_) (AllG.cons rfl (fun K hK => ?_) AllG.nil)
        · skip
          go_simp
          refine (CB.out _).mono ?_
          rintro r w' ⟨rfl, hb⟩
          replace hP := hP.below hb
          replace hQ := hQ.below hb
          try replace hX := hX.below hb
          try replace hY := hY.below hb
          replace hB := below_then hB hb
          clear hb hS
          try go_wp2_with fail
          have hS : FdS n1 a w' ∧ FdS n2 b w' := ⟨rpIn9 hP, rpIn9 hQ⟩
          refine hK.out _ _ hS ?_
          try simp only [Act.put, List.setIfInBounds_toArray, List.set_cons_zero, List.set_cons_succ]
          clear hK
          generalize w' = U at *
          refine anyG_step (rs := [5]) (by kernel_rfl) (by simp) ?_
          refine AllG.cons rfl (fun K hK => ?_) AllG.nil
          have hY : fdE.In (U.alloc (.cells #[.int .i64 0, .int .i64 0, .int .i64 0, .int .i64 0, .int .i64 0, .int .i64 0, .int .i64 0, .int .i64 0, .int .i64 0] 41)) U.heap.size zeroRp := El.In.new (E := fdE) U zeroRp #[.int .i64 0, .int .i64 0, .int .i64 0, .int .i64 0, .int .i64 0, .int .i64 0, .int .i64 0, .int .i64 0, .int .i64 0] rfl
          have hal := below_alloc (Below.refl U.heap.size U) (.cells #[.int .i64 0, .int .i64 0, .int .i64 0, .int .i64 0, .int .i64 0, .int .i64 0, .int .i64 0, .int .i64 0, .int .i64 0] 41)
          have hby := hB.size
          have hpny := Nat.ne_of_lt hP.lt
          have hqny := Nat.ne_of_lt hQ.lt
          try have hony := Nat.ne_of_lt hX.lt
          replace hP := hP.below hal
          replace hQ := hQ.below hal
          try replace hX := hX.below hal
          replace hB := below_then hB hal
          clear hal
          have hS2 : FdS n1 a (U.alloc (.cells #[.int .i64 0, .int .i64 0, .int .i64 0, .int .i64 0, .int .i64 0, .int .i64 0, .int .i64 0, .int .i64 0, .int .i64 0] 41)) ∧ FdS n2 b (U.alloc (.cells #[.int .i64 0, .int .i64 0, .int .i64 0, .int .i64 0, .int .i64 0, .int .i64 0, .int .i64 0, .int .i64 0, .int .i64 0] 41)) := ⟨rpIn9 hP, rpIn9 hQ⟩
          go_simp
          refine hK.out _ _ hS2 ?_
          try simp only [Act.put, List.setIfInBounds_toArray, List.set_cons_zero, List.set_cons_succ]
          clear hK hS
          generalize U.alloc (.cells #[.int .i64 0, .int .i64 0, .int .i64 0, .int .i64 0, .int .i64 0, .int .i64 0, .int .i64 0, .int .i64 0, .int .i64 0] 41) = V at *
          generalize U.heap.size = ny at *
          have hS := hS2
          clear hS2
          generalize V = U at *
          have hne : nx ≠ ny := by first | exact hony | exact fun e => honx e.symm
          refine anyG_step (rs := [6]) (by kernel_rfl) (by simp) ?_
          refine AllG.cons rfl (fun K hK => ?_) AllG.nil
          refine El.step_store fdRow rfl _ _ rfl nx a #[.int .i64 a.d, .int .i64 a.i, .int .i64 a.b, .int .i64 a.t, .int .i64 a.m, .int .i64 a.p, .int .i64 a.c, .int .i64 a.s, .int .i64 a.k] rfl rfl rfl zeroRp hX ?_
          replace hX := hX.set a #[.int .i64 a.d, .int .i64 a.i, .int .i64 a.b, .int .i64 a.t, .int .i64 a.m, .int .i64 a.p, .int .i64 a.c, .int .i64 a.s, .int .i64 a.k] rfl
          replace hY := hY.rowN nx #[.int .i64 a.d, .int .i64 a.i, .int .i64 a.b, .int .i64 a.t, .int .i64 a.m, .int .i64 a.p, .int .i64 a.c, .int .i64 a.s, .int .i64 a.k] (fun e => hne e.symm)
          replace hP := hP.rowN nx #[.int .i64 a.d, .int .i64 a.i, .int .i64 a.b, .int .i64 a.t, .int .i64 a.m, .int .i64 a.p, .int .i64 a.c, .int .i64 a.s, .int .i64 a.k] hpnx
          replace hQ := hQ.rowN nx #[.int .i64 a.d, .int .i64 a.i, .int .i64 a.b, .int .i64 a.t, .int .i64 a.m, .int .i64 a.p, .int .i64 a.c, .int .i64 a.s, .int .i64 a.k] hqnx
          replace hB := below_setRow hB hbx #[.int .i64 a.d, .int .i64 a.i, .int .i64 a.b, .int .i64 a.t, .int .i64 a.m, .int .i64 a.p, .int .i64 a.c, .int .i64 a.s, .int .i64 a.k]
          refine hK.out _ _ ⟨rpIn9 hP, rpIn9 hQ⟩ ?_
          try simp only [Act.put, List.setIfInBounds_toArray, List.set_cons_zero, List.set_cons_succ]
          clear hK hS
          refine anyG_step (rs := [7]) (by kernel_rfl) (by simp) ?_
          refine AllG.last (n := 7) rfl (fun K hK => ?_)
          refine El.step_store fdRow rfl _ _ rfl ny b #[.int .i64 b.d, .int .i64 b.i, .int .i64 b.b, .int .i64 b.t, .int .i64 b.m, .int .i64 b.p, .int .i64 b.c, .int .i64 b.s, .int .i64 b.k] rfl rfl rfl zeroRp hY ?_
          replace hY := hY.set b #[.int .i64 b.d, .int .i64 b.i, .int .i64 b.b, .int .i64 b.t, .int .i64 b.m, .int .i64 b.p, .int .i64 b.c, .int .i64 b.s, .int .i64 b.k] rfl
          replace hX := hX.rowN ny #[.int .i64 b.d, .int .i64 b.i, .int .i64 b.b, .int .i64 b.t, .int .i64 b.m, .int .i64 b.p, .int .i64 b.c, .int .i64 b.s, .int .i64 b.k] hne
          replace hB := below_setRow hB hby #[.int .i64 b.d, .int .i64 b.i, .int .i64 b.b, .int .i64 b.t, .int .i64 b.m, .int .i64 b.p, .int .i64 b.c, .int .i64 b.s, .int .i64 b.k]
          refine hK.out _ _ ?_
          clear hK
          refine anyG_done (by kernel_rfl) ?_ _
          exact ⟨nx, ny, rfl, hX, hY, hB⟩
        · skip
          have hY : fdE.In (U.alloc (.cells #[.int .i64 0, .int .i64 0, .int .i64 0, .int .i64 0, .int .i64 0, .int .i64 0, .int .i64 0, .int .i64 0, .int .i64 0] 41)) U.heap.size zeroRp := El.In.new (E := fdE) U zeroRp #[.int .i64 0, .int .i64 0, .int .i64 0, .int .i64 0, .int .i64 0, .int .i64 0, .int .i64 0, .int .i64 0, .int .i64 0] rfl
          have hal := below_alloc (Below.refl U.heap.size U) (.cells #[.int .i64 0, .int .i64 0, .int .i64 0, .int .i64 0, .int .i64 0, .int .i64 0, .int .i64 0, .int .i64 0, .int .i64 0] 41)
          have hby := hB.size
          have hpny := Nat.ne_of_lt hP.lt
          have hqny := Nat.ne_of_lt hQ.lt
          try have hony := Nat.ne_of_lt hX.lt
          replace hP := hP.below hal
          replace hQ := hQ.below hal
          try replace hX := hX.below hal
          replace hB := below_then hB hal
          clear hal
          have hS2 : FdS n1 a (U.alloc (.cells #[.int .i64 0, .int .i64 0, .int .i64 0, .int .i64 0, .int .i64 0, .int .i64 0, .int .i64 0, .int .i64 0, .int .i64 0] 41)) ∧ FdS n2 b (U.alloc (.cells #[.int .i64 0, .int .i64 0, .int .i64 0, .int .i64 0, .int .i64 0, .int .i64 0, .int .i64 0, .int .i64 0, .int .i64 0] 41)) := ⟨rpIn9 hP, rpIn9 hQ⟩
          go_simp
          refine hK.out _ _ hS2 ?_
          try simp only [Act.put, List.setIfInBounds_toArray, List.set_cons_zero, List.set_cons_succ]
          clear hK hS
          generalize U.alloc (.cells #[.int .i64 0, .int .i64 0, .int .i64 0, .int .i64 0, .int .i64 0, .int .i64 0, .int .i64 0, .int .i64 0, .int .i64 0] 41) = V at *
          generalize U.heap.size = ny at *
          have hS := hS2
          clear hS2
          generalize V = U at *
          refine anyG_step (rs := [3]) (by kernel_rfl) (by simp) ?_
          refine AllG.cons rfl (fun K hK => ?_) AllG.nil
          go_simp
          refine (CB.out _).mono ?_
          rintro r w' ⟨rfl, hb⟩
          replace hP := hP.below hb
          replace hQ := hQ.below hb
          try replace hX := hX.below hb
          try replace hY := hY.below hb
          replace hB := below_then hB hb
          clear hb hS
          try go_wp2_with fail
          have hS : FdS n1 a w' ∧ FdS n2 b w' := ⟨rpIn9 hP, rpIn9 hQ⟩
          refine hK.out _ _ hS ?_
          try simp only [Act.put, List.setIfInBounds_toArray, List.set_cons_zero, List.set_cons_succ]
          clear hK
          generalize w' = U at *
          have hne : nx ≠ ny := by first | exact hony | exact fun e => honx e.symm
          refine anyG_step (rs := [6]) (by kernel_rfl) (by simp) ?_
          refine AllG.cons rfl (fun K hK => ?_) AllG.nil
          refine El.step_store fdRow rfl _ _ rfl nx a #[.int .i64 a.d, .int .i64 a.i, .int .i64 a.b, .int .i64 a.t, .int .i64 a.m, .int .i64 a.p, .int .i64 a.c, .int .i64 a.s, .int .i64 a.k] rfl rfl rfl zeroRp hX ?_
          replace hX := hX.set a #[.int .i64 a.d, .int .i64 a.i, .int .i64 a.b, .int .i64 a.t, .int .i64 a.m, .int .i64 a.p, .int .i64 a.c, .int .i64 a.s, .int .i64 a.k] rfl
          replace hY := hY.rowN nx #[.int .i64 a.d, .int .i64 a.i, .int .i64 a.b, .int .i64 a.t, .int .i64 a.m, .int .i64 a.p, .int .i64 a.c, .int .i64 a.s, .int .i64 a.k] (fun e => hne e.symm)
          replace hP := hP.rowN nx #[.int .i64 a.d, .int .i64 a.i, .int .i64 a.b, .int .i64 a.t, .int .i64 a.m, .int .i64 a.p, .int .i64 a.c, .int .i64 a.s, .int .i64 a.k] hpnx
          replace hQ := hQ.rowN nx #[.int .i64 a.d, .int .i64 a.i, .int .i64 a.b, .int .i64 a.t, .int .i64 a.m, .int .i64 a.p, .int .i64 a.c, .int .i64 a.s, .int .i64 a.k] hqnx
          replace hB := below_setRow hB hbx #[.int .i64 a.d, .int .i64 a.i, .int .i64 a.b, .int .i64 a.t, .int .i64 a.m, .int .i64 a.p, .int .i64 a.c, .int .i64 a.s, .int .i64 a.k]
          refine hK.out _ _ ⟨rpIn9 hP, rpIn9 hQ⟩ ?_
          try simp only [Act.put, List.setIfInBounds_toArray, List.set_cons_zero, List.set_cons_succ]
          clear hK hS
          refine anyG_step (rs := [7]) (by kernel_rfl) (by simp) ?_
          refine AllG.last (n := 7) rfl (fun K hK => ?_)
          refine El.step_store fdRow rfl _ _ rfl ny b #[.int .i64 b.d, .int .i64 b.i, .int .i64 b.b, .int .i64 b.t, .int .i64 b.m, .int .i64 b.p, .int .i64 b.c, .int .i64 b.s, .int .i64 b.k] rfl rfl rfl zeroRp hY ?_
          replace hY := hY.set b #[.int .i64 b.d, .int .i64 b.i, .int .i64 b.b, .int .i64 b.t, .int .i64 b.m, .int .i64 b.p, .int .i64 b.c, .int .i64 b.s, .int .i64 b.k] rfl
          replace hX := hX.rowN ny #[.int .i64 b.d, .int .i64 b.i, .int .i64 b.b, .int .i64 b.t, .int .i64 b.m, .int .i64 b.p, .int .i64 b.c, .int .i64 b.s, .int .i64 b.k] hne
          replace hB := below_setRow hB hby #[.int .i64 b.d, .int .i64 b.i, .int .i64 b.b, .int .i64 b.t, .int .i64 b.m, .int .i64 b.p, .int .i64 b.c, .int .i64 b.s, .int .i64 b.k]
          refine hK.out _ _ ?_
          clear hK
          refine anyG_done (by kernel_rfl) ?_ _
          exact ⟨nx, ny, rfl, hX, hY, hB⟩
      · skip
        have hY : fdE.In (U.alloc (.cells #[.int .i64 0, .int .i64 0, .int .i64 0, .int .i64 0, .int .i64 0, .int .i64 0, .int .i64 0, .int .i64 0, .int .i64 0] 41)) U.heap.size zeroRp := El.In.new (E := fdE) U zeroRp #[.int .i64 0, .int .i64 0, .int .i64 0, .int .i64 0, .int .i64 0, .int .i64 0, .int .i64 0, .int .i64 0, .int .i64 0] rfl
        have hal := below_alloc (Below.refl U.heap.size U) (.cells #[.int .i64 0, .int .i64 0, .int .i64 0, .int .i64 0, .int .i64 0, .int .i64 0, .int .i64 0, .int .i64 0, .int .i64 0] 41)
        have hby := hB.size
        have hpny := Nat.ne_of_lt hP.lt
        have hqny := Nat.ne_of_lt hQ.lt
        try have hony := Nat.ne_of_lt hX.lt
        replace hP := hP.below hal
        replace hQ := hQ.below hal
        try replace hX := hX.below hal
        replace hB := below_then hB hal
        clear hal
        have hS2 : FdS n1 a (U.alloc (.cells #[.int .i64 0, .int .i64 0, .int .i64 0, .int .i64 0, .int .i64 0, .int .i64 0, .int .i64 0, .int .i64 0, .int .i64 0] 41)) ∧ FdS n2 b (U.alloc (.cells #[.int .i64 0, .int .i64 0, .int .i64 0, .int .i64 0, .int .i64 0, .int .i64 0, .int .i64 0, .int .i64 0, .int .i64 0] 41)) := ⟨rpIn9 hP, rpIn9 hQ⟩
        go_simp
        refine hK.out _ _ hS2 ?_
        try simp only [Act.put, List.setIfInBounds_toArray, List.set_cons_zero, List.set_cons_succ]
        clear hK hS
        generalize U.alloc (.cells #[.int .i64 0, .int .i64 0, .int .i64 0, .int .i64 0, .int .i64 0, .int .i64 0, .int .i64 0, .int .i64 0, .int .i64 0] 41) = V at *
        generalize U.heap.size = ny at *
        have hS := hS2
        clear hS2
        generalize V = U at *
        refine anyG_step (rs := [1]) (by kernel_rfl) (by simp) ?_
        refine AllG.cons rfl (fun K hK => ?_) AllG.nil
        go_simp
        refine (CA.out _).mono ?_
        rintro r w' ⟨rfl, hb⟩
        replace hP := hP.below hb
        replace hQ := hQ.below hb
        try replace hX := hX.below hb
        try replace hY := hY.below hb
        replace hB := below_then hB hb
        clear hb hS
        try go_wp2_with fail
        have hS : FdS n1 a w' ∧ FdS n2 b w' := ⟨rpIn9 hP, rpIn9 hQ⟩
        refine hK.out _ _ hS ?_
        try simp only [Act.put, List.setIfInBounds_toArray, List.set_cons_zero, List.set_cons_succ]
        clear hK
        generalize w' = U at *
        refine anyG_step (rs := [3]) (by kernel_rfl) (by simp) ?_
        refine AllG.cons rfl (fun K hK => ?_) AllG.nil
        go_simp
        refine (CB.out _).mono ?_
        rintro r w' ⟨rfl, hb⟩
        replace hP := hP.below hb
        replace hQ := hQ.below hb
        try replace hX := hX.below hb
        try replace hY := hY.below hb
        replace hB := below_then hB hb
        clear hb hS
        try go_wp2_with fail
        have hS : FdS n1 a w' ∧ FdS n2 b w' := ⟨rpIn9 hP, rpIn9 hQ⟩
        refine hK.out _ _ hS ?_
        try simp only [Act.put, List.setIfInBounds_toArray, List.set_cons_zero, List.set_cons_succ]
        clear hK
        generalize w' = U at *
        have hne : nx ≠ ny := by first | exact hony | exact fun e => honx e.symm
        refine anyG_step (rs := [6]) (by kernel_rfl) (by simp) ?_
        refine AllG.cons rfl (fun K hK => ?_) AllG.nil
        refine El.step_store fdRow rfl _ _ rfl nx a #[.int .i64 a.d, .int .i64 a.i, .int .i64 a.b, .int .i64 a.t, .int .i64 a.m, .int .i64 a.p, .int .i64 a.c, .int .i64 a.s, .int .i64 a.k] rfl rfl rfl zeroRp hX ?_
        replace hX := hX.set a #[.int .i64 a.d, .int .i64 a.i, .int .i64 a.b, .int .i64 a.t, .int .i64 a.m, .int .i64 a.p, .int .i64 a.c, .int .i64 a.s, .int .i64 a.k] rfl
        replace hY := hY.rowN nx #[.int .i64 a.d, .int .i64 a.i, .int .i64 a.b, .int .i64 a.t, .int .i64 a.m, .int .i64 a.p, .int .i64 a.c, .int .i64 a.s, .int .i64 a.k] (fun e => hne e.symm)
        replace hP := hP.rowN nx #[.int .i64 a.d, .int .i64 a.i, .int .i64 a.b, .int .i64 a.t, .int .i64 a.m, .int .i64 a.p, .int .i64 a.c, .int .i64 a.s, .int .i64 a.k] hpnx
        replace hQ := hQ.rowN nx #[.int .i64 a.d, .int .i64 a.i, .int .i64 a.b, .int .i64 a.t, .int .i64 a.m, .int .i64 a.p, .int .i64 a.c, .int .i64 a.s, .int .i64 a.k] hqnx
        replace hB := below_setRow hB hbx #[.int .i64 a.d, .int .i64 a.i, .int .i64 a.b, .int .i64 a.t, .int .i64 a.m, .int .i64 a.p, .int .i64 a.c, .int .i64 a.s, .int .i64 a.k]
        refine hK.out _ _ ⟨rpIn9 hP, rpIn9 hQ⟩ ?_
        try simp only [Act.put, List.setIfInBounds_toArray, List.set_cons_zero, List.set_cons_succ]
        clear hK hS
        refine anyG_step (rs := [7]) (by kernel_rfl) (by simp) ?_
        refine AllG.last (n := 7) rfl (fun K hK => ?_)
        refine El.step_store fdRow rfl _ _ rfl ny b #[.int .i64 b.d, .int .i64 b.i, .int .i64 b.b, .int .i64 b.t, .int .i64 b.m, .int .i64 b.p, .int .i64 b.c, .int .i64 b.s, .int .i64 b.k] rfl rfl rfl zeroRp hY ?_
        replace hY := hY.set b #[.int .i64 b.d, .int .i64 b.i, .int .i64 b.b, .int .i64 b.t, .int .i64 b.m, .int .i64 b.p, .int .i64 b.c, .int .i64 b.s, .int .i64 b.k] rfl
        replace hX := hX.rowN ny #[.int .i64 b.d, .int .i64 b.i, .int .i64 b.b, .int .i64 b.t, .int .i64 b.m, .int .i64 b.p, .int .i64 b.c, .int .i64 b.s, .int .i64 b.k] hne
        replace hB := below_setRow hB hby #[.int .i64 b.d, .int .i64 b.i, .int .i64 b.b, .int .i64 b.t, .int .i64 b.m, .int .i64 b.p, .int .i64 b.c, .int .i64 b.s, .int .i64 b.k]
        refine hK.out _ _ ?_
        clear hK
        refine anyG_done (by kernel_rfl) ?_ _
        exact ⟨nx, ny, rfl, hX, hY, hB⟩
    · skip
      have hY : fdE.In (U.alloc (.cells #[.int .i64 0, .int .i64 0, .int .i64 0, .int .i64 0, .int .i64 0, .int .i64 0, .int .i64 0, .int .i64 0, .int .i64 0] 41)) U.heap.size zeroRp := El.In.new (E := fdE) U zeroRp #[.int .i64 0, .int .i64 0, .int .i64 0, .int .i64 0, .int .i64 0, .int .i64 0, .int .i64 0, .int .i64 0, .int .i64 0] rfl
      have hal := below_alloc (Below.refl U.heap.size U) (.cells #[.int .i64 0, .int .i64 0, .int .i64 0, .int .i64 0, .int .i64 0, .int .i64 0, .int .i64 0, .int .i64 0, .int .i64 0] 41)
      have hby := hB.size
      have hpny := Nat.ne_of_lt hP.lt
      have hqny := Nat.ne_of_lt hQ.lt
      try have hony := Nat.ne_of_lt hX.lt
      replace hP := hP.below hal
      replace hQ := hQ.below hal
      try replace hX := hX.below hal
      replace hB := below_then hB hal
      clear hal
      have hS2 : FdS n1 a (U.alloc (.cells #[.int .i64 0, .int .i64 0, .int .i64 0, .int .i64 0, .int .i64 0, .int .i64 0, .int .i64 0, .int .i64 0, .int .i64 0] 41)) ∧ FdS n2 b (U.alloc (.cells #[.int .i64 0, .int .i64 0, .int .i64 0, .int .i64 0, .int .i64 0, .int .i64 0, .int .i64 0, .int .i64 0, .int .i64 0] 41)) := ⟨rpIn9 hP, rpIn9 hQ⟩
      go_simp
      refine hK.out _ _ hS2 ?_
      try simp only [Act.put, List.setIfInBounds_toArray, List.set_cons_zero, List.set_cons_succ]
      clear hK hS
      generalize U.alloc (.cells #[.int .i64 0, .int .i64 0, .int .i64 0, .int .i64 0, .int .i64 0, .int .i64 0, .int .i64 0, .int .i64 0, .int .i64 0] 41) = V at *
      generalize U.heap.size = ny at *
      have hS := hS2
      clear hS2
      generalize V = U at *
      refine anyG_step (rs := [1, 4]) (by kernel_rfl) (by simp) ?_
      refine AllG.cons rfl (fun K hK => ?_) (AllG.cons rfl (fun K hK => ?_) AllG.nil)
      · skip
        go_simp
        refine (CA.out _).mono ?_
        rintro r w' ⟨rfl, hb⟩
        replace hP := hP.below hb
        replace hQ := hQ.below hb
        try replace hX := hX.below hb
        try replace hY := hY.below hb
        replace hB := below_then hB hb
        clear hb hS
        try go_wp2_with fail
        have hS : FdS n1 a w' ∧ FdS n2 b w' := ⟨rpIn9 hP, rpIn9 hQ⟩
        refine hK.out _ _ hS ?_
        try simp only [Act.put, List.setIfInBounds_toArray, List.set_cons_zero, List.set_cons_succ]
        clear hK
        generalize w' = U at *
        refine anyG_step (rs := [3, 4]) (by kernel_rfl) (by simp) ?_
        refine AllG.cons rfl (fun K hK => ?_) (AllG.cons rfl (fun K hK => ?_) AllG.nil)
        · skip
          go_simp
          refine (CB.out _).mono ?_
          rintro r w' ⟨rfl, hb⟩
          replace hP := hP.below hb
          replace hQ := hQ.below hb
          try replace hX := hX.below hb
          try replace hY := hY.below hb
          replace hB := below_then hB hb
          clear hb hS
          try go_wp2_with fail
          have hS : FdS n1 a w' ∧ FdS n2 b w' := ⟨rpIn9 hP, rpIn9 hQ⟩
          refine hK.out _ _ hS ?_
          try simp only [Act.put, List.setIfInBounds_toArray, List.set_cons_zero, List.set_cons_succ]
          clear hK
          generalize w' = U at *
          refine anyG_step (rs := [4]) (by kernel_rfl) (by simp) ?_
          refine AllG.cons rfl (fun K hK => ?_) AllG.nil
          have hX : fdE.In (U.alloc (.cells #[.int .i64 0, .int .i64 0, .int .i64 0, .int .i64 0, .int .i64 0, .int .i64 0, .int .i64 0, .int .i64 0, .int .i64 0] 41)) U.heap.size zeroRp := El.In.new (E := fdE) U zeroRp #[.int .i64 0, .int .i64 0, .int .i64 0, .int .i64 0, .int .i64 0, .int .i64 0, .int .i64 0, .int .i64 0, .int .i64 0] rfl
          have hal := below_alloc (Below.refl U.heap.size U) (.cells #[.int .i64 0, .int .i64 0, .int .i64 0, .int .i64 0, .int .i64 0, .int .i64 0, .int .i64 0, .int .i64 0, .int .i64 0] 41)
          have hbx := hB.size
          have hpnx := Nat.ne_of_lt hP.lt
          have hqnx := Nat.ne_of_lt hQ.lt
          try have honx := Nat.ne_of_lt hY.lt
          replace hP := hP.below hal
          replace hQ := hQ.below hal
          try replace hY := hY.below hal
          replace hB := below_then hB hal
          clear hal
          have hS2 : FdS n1 a (U.alloc (.cells #[.int .i64 0, .int .i64 0, .int .i64 0, .int .i64 0, .int .i64 0, .int .i64 0, .int .i64 0, .int .i64 0, .int .i64 0] 41)) ∧ FdS n2 b (U.alloc (.cells #[.int .i64 0, .int .i64 0, .int .i64 0, .int .i64 0, .int .i64 0, .int .i64 0, .int .i64 0, .int .i64 0, .int .i64 0] 41)) := ⟨rpIn9 hP, rpIn9 hQ⟩
          go_simp
          refine hK.out _ _ hS2 ?_
          try simp only [Act.put, List.setIfInBounds_toArray, List.set_cons_zero, List.set_cons_succ]
          clear hK hS
          generalize U.alloc (.cells #[.int .i64 0, .int .i64 0, .int .i64 0, .int .i64 0, .int .i64 0, .int .i64 0, .int .i64 0, .int .i64 0, .int .i64 0] 41) = V at *
          generalize U.heap.size = nx at *
          have hS := hS2
          clear hS2
          generalize V = U at *
          have hne : nx ≠ ny := by first | exact hony | exact fun e => honx e.symm
          refine anyG_step (rs := [6]) (by kernel_rfl) (by simp) ?_
          refine AllG.cons rfl (fun K hK => ?_) AllG.nil
          refine El.step_store fdRow rfl _ _ rfl nx a #[.int .i64 a.d, .int .i64 a.i, .int .i64 a.b, .int .i64 a.t, .int .i64 a.m, .int .i64 a.p, .int .i64 a.c, .int .i64 a.s, .int .i64 a.k] rfl rfl rfl zeroRp hX ?_
          replace hX := hX.set a #[.int .i64 a.d, .int .i64 a.i, .int .i64 a.b, .int .i64 a.t, .int .i64 a.m, .int .i64 a.p, .int .i64 a.c, .int .i64 a.s, .int .i64 a.k] rfl
          replace hY := hY.rowN nx #[.int .i64 a.d, .int .i64 a.i, .int .i64 a.b, .int .i64 a.t, .int .i64 a.m, .int .i64 a.p, .int .i64 a.c, .int .i64 a.s, .int .i64 a.k] (fun e => hne e.symm)
          replace hP := hP.rowN nx #[.int .i64 a.d, .int .i64 a.i, .int .i64 a.b, .int .i64 a.t, .int .i64 a.m, .int .i64 a.p, .int .i64 a.c, .int .i64 a.s, .int .i64 a.k] hpnx
          replace hQ := hQ.rowN nx #[.int .i64 a.d, .int .i64 a.i, .int .i64 a.b, .int .i64 a.t, .int .i64 a.m, .int .i64 a.p, .int .i64 a.c, .int .i64 a.s, .int .i64 a.k] hqnx
          replace hB := below_setRow hB hbx #[.int .i64 a.d, .int .i64 a.i, .int .i64 a.b, .int .i64 a.t, .int .i64 a.m, .int .i64 a.p, .int .i64 a.c, .int .i64 a.s, .int .i64 a.k]
          refine hK.out _ _ ⟨rpIn9 hP, rpIn9 hQ⟩ ?_
          try simp only [Act.put, List.setIfInBounds_toArray, List.set_cons_zero, List.set_cons_succ]
          clear hK hS
          refine anyG_step (rs := [7]) (by kernel_rfl) (by simp) ?_
          refine AllG.last (n := 7) rfl (fun K hK => ?_)
          refine El.step_store fdRow rfl _ _ rfl ny b #[.int .i64 b.d, .int .i64 b.i, .int .i64 b.b, .int .i64 b.t, .int .i64 b.m, .int .i64 b.p, .int .i64 b.c, .int .i64 b.s, .int .i64 b.k] rfl rfl rfl zeroRp hY ?_
          replace hY := hY.set b #[.int .i64 b.d, .int .i64 b.i, .int .i64 b.b, .int .i64 b.t, .int .i64 b.m, .int .i64 b.p, .int .i64 b.c, .int .i64 b.s, .int .i64 b.k] rfl
          replace hX := hX.rowN ny #[.int .i64 b.d, .int .i64 b.i, .int .i64 b.b, .int .i64 b.t, .int .i64 b.m, .int .i64 b.p, .int .i64 b.c, .int .i64 b.s, .int .i64 b.k] hne
          replace hB := below_setRow hB hby #[.int .i64 b.d, .int .i64 b.i, .int .i64 b.b, .int .i64 b.t, .int .i64 b.m, .int .i64 b.p, .int .i64 b.c, .int .i64 b.s, .int .i64 b.k]
          refine hK.out _ _ ?_
          clear hK
          refine anyG_done (by kernel_rfl) ?_ _
          exact ⟨nx, ny, rfl, hX, hY, hB⟩
        · skip
          have hX : fdE.In (U.alloc (.cells #[.int .i64 0, .int .i64 0, .int .i64 0, .int .i64 0, .int .i64 0, .int .i64 0, .int .i64 0, .int .i64 0, .int .i64 0] 41)) U.heap.size zeroRp := El.In.new (E := fdE) U zeroRp #[.int .i64 0, .int .i64 0, .int .i64 0, .int .i64 0, .int .i64 0, .int .i64 0, .int .i64 0, .int .i64 0, .int .i64 0] rfl
          have hal := below_alloc (Below.refl U.heap.size U) (.cells #[.int .i64 0, .int .i64 0, .int .i64 0, .int .i64 0, .int .i64 0, .int .i64 0, .int .i64 0, .int .i64 0, .int .i64 0] 41)
          have hbx := hB.size
          have hpnx := Nat.ne_of_lt hP.lt
          have hqnx := Nat.ne_of_lt hQ.lt
          try have honx := Nat.ne_of_lt hY.lt
          replace hP := hP.below hal
          replace hQ := hQ.below hal
          try replace hY := hY.below hal
          replace hB := below_then hB hal
          clear hal
          have hS2 : FdS n1 a (U.alloc (.cells #[.int .i64 0, .int .i64 0, .int .i64 0, .int .i64 0, .int .i64 0, .int .i64 0, .int .i64 0, .int .i64 0, .int .i64 0] 41)) ∧ FdS n2 b (U.alloc (.cells #[.int .i64 0, .int .i64 0, .int .i64 0, .int .i64 0, .int .i64 0, .int .i64 0, .int .i64 0, .int .i64 0, .int .i64 0] 41)) := ⟨rpIn9 hP, rpIn9 hQ⟩
          go_simp
          refine hK.out _ _ hS2 ?_
          try simp only [Act.put, List.setIfInBounds_toArray, List.set_cons_zero, List.set_cons_succ]
          clear hK hS
          generalize U.alloc (.cells #[.int .i64 0, .int .i64 0, .int .i64 0, .int .i64 0, .int .i64 0, .int .i64 0, .int .i64 0, .int .i64 0, .int .i64 0] 41) = V at *
          generalize U.heap.size = nx at *
          have hS := hS2
          clear hS2
          generalize V = U at *
          refine anyG_step (rs := [3]) (by kernel_rfl) (by simp) ?_
          refine AllG.cons rfl (fun K hK => ?_) AllG.nil
          go_simp
          refine (CB.out _).mono ?_
          rintro r w' ⟨rfl, hb⟩
          replace hP := hP.below hb
          replace hQ := hQ.below hb
          try replace hX := hX.below hb
          try replace hY := hY.below hb
          replace hB := below_then hB hb
          clear hb hS
          try go_wp2_with fail
          have hS : FdS n1 a w' ∧ FdS n2 b w' := ⟨rpIn9 hP, rpIn9 hQ⟩
          refine hK.out _ _ hS ?_
          try simp only [Act.put, List.setIfInBounds_toArray, List.set_cons_zero, List.set_cons_succ]
          clear hK
          generalize w' = U at *
          have hne : nx ≠ ny := by first | exact hony | exact fun e => honx e.symm
          refine anyG_step (rs := [6]) (by kernel_rfl) (by simp) ?_
          refine AllG.cons rfl (fun K hK => ?_) AllG.nil
          refine El.step_store fdRow rfl _ _ rfl nx a #[.int .i64 a.d, .int .i64 a.i, .int .i64 a.b, .int .i64 a.t, .int .i64 a.m, .int .i64 a.p, .int .i64 a.c, .int .i64 a.s, .int .i64 a.k] rfl rfl rfl zeroRp hX ?_
          replace hX := hX.set a #[.int .i64 a.d, .int .i64 a.i, .int .i64 a.b, .int .i64 a.t, .int .i64 a.m, .int .i64 a.p, .int .i64 a.c, .int .i64 a.s, .int .i64 a.k] rfl
          replace hY := hY.rowN nx #[.int .i64 a.d, .int .i64 a.i, .int .i64 a.b, .int .i64 a.t, .int .i64 a.m, .int .i64 a.p, .int .i64 a.c, .int .i64 a.s, .int .i64 a.k] (fun e => hne e.symm)
          replace hP := hP.rowN nx #[.int .i64 a.d, .int .i64 a.i, .int .i64 a.b, .int .i64 a.t, .int .i64 a.m, .int .i64 a.p, .int .i64 a.c, .int .i64 a.s, .int .i64 a.k] hpnx
          replace hQ := hQ.rowN nx #[.int .i64 a.d, .int .i64 a.i, .int .i64 a.b, .int .i64 a.t, .int .i64 a.m, .int .i64 a.p, .int .i64 a.c, .int .i64 a.s, .int .i64 a.k] hqnx
          replace hB := below_setRow hB hbx #[.int .i64 a.d, .int .i64 a.i, .int .i64 a.b, .int .i64 a.t, .int .i64 a.m, .int .i64 a.p, .int .i64 a.c, .int .i64 a.s, .int .i64 a.k]
          refine hK.out _ _ ⟨rpIn9 hP, rpIn9 hQ⟩ ?_
          try simp only [Act.put, List.setIfInBounds_toArray, List.set_cons_zero, List.set_cons_succ]
          clear hK hS
          refine anyG_step (rs := [7]) (by kernel_rfl) (by simp) ?_
          refine AllG.last (n := 7) rfl (fun K hK => ?_)
          refine El.step_store fdRow rfl _ _ rfl ny b #[.int .i64 b.d, .int .i64 b.i, .int .i64 b.b, .int .i64 b.t, .int .i64 b.m, .int .i64 b.p, .int .i64 b.c, .int .i64 b.s, .int .i64 b.k] rfl rfl rfl zeroRp hY ?_
          replace hY := hY.set b #[.int .i64 b.d, .int .i64 b.i, .int .i64 b.b, .int .i64 b.t, .int .i64 b.m, .int .i64 b.p, .int .i64 b.c, .int .i64 b.s, .int .i64 b.k] rfl
          replace hX := hX.rowN ny #[.int .i64 b.d, .int .i64 b.i, .int .i64 b.b, .int .i64 b.t, .int .i64 b.m, .int .i64 b.p, .int .i64 b.c, .int .i64 b.s, .int .i64 b.k] hne
          replace hB := below_setRow hB hby #[.int .i64 b.d, .int .i64 b.i, .int .i64 b.b, .int .i64 b.t, .int .i64 b.m, .int .i64 b.p, .int .i64 b.c, .int .i64 b.s, .int .i64 b.k]
          refine hK.out _ _ ?_
          clear hK
          refine anyG_done (by kernel_rfl) ?_ _
          exact ⟨nx, ny, rfl, hX, hY, hB⟩
      · skip
        have hX : fdE.In (U.alloc (.cells #[.int .i64 0, .int .i64 0, .int .i64 0, .int .i64 0, .int .i64 0, .int .i64 0, .int .i64 0, .int .i64 0, .int .i64 0] 41)) U.heap.size zeroRp := El.In.new (E := fdE) U zeroRp #[.int .i64 0, .int .i64 0, .int .i64 0, .int .i64 0, .int .i64 0, .int .i64 0, .int .i64 0, .int .i64 0, .int .i64 0] rfl
        have hal := below_alloc (Below.refl U.heap.size U) (.cells #[.int .i64 0, .int .i64 0, .int .i64 0, .int .i64 0, .int .i64 0, .int .i64 0, .int .i64 0, .int .i64 0, .int .i64 0] 41)
        have hbx := hB.size
        have hpnx := Nat.ne_of_lt hP.lt
        have hqnx := Nat.ne_of_lt hQ.lt
        try have honx := Nat.ne_of_lt hY.lt
        replace hP := hP.below hal
        replace hQ := hQ.below hal
        try replace hY := hY.below hal
        replace hB := below_then hB hal
        clear hal
        have hS2 : FdS n1 a (U.alloc (.cells #[.int .i64 0, .int .i64 0, .int .i64 0, .int .i64 0, .int .i64 0, .int .i64 0, .int .i64 0, .int .i64 0, .int .i64 0] 41)) ∧ FdS n2 b (U.alloc (.cells #[.int .i64 0, .int .i64 0, .int .i64 0, .int .i64 0, .int .i64 0, .int .i64 0, .int .i64 0, .int .i64 0, .int .i64 0] 41)) := ⟨rpIn9 hP, rpIn9 hQ⟩
        go_simp
        refine hK.out _ _ hS2 ?_
        try simp only [Act.put, List.setIfInBounds_toArray, List.set_cons_zero, List.set_cons_succ]
        clear hK hS
        generalize U.alloc (.cells #[.int .i64 0, .int .i64 0, .int .i64 0, .int .i64 0, .int .i64 0, .int .i64 0, .int .i64 0, .int .i64 0, .int .i64 0] 41) = V at *
        generalize U.heap.size = nx at *
        have hS := hS2
        clear hS2
        generalize V = U at *
        refine anyG_step (rs := [1]) (by kernel_rfl) (by simp) ?_
        refine AllG.cons rfl (fun K hK => ?_) AllG.nil
        go_simp
        refine (CA.out _).mono ?_
        rintro r w' ⟨rfl, hb⟩
        replace hP := hP.below hb
        replace hQ := hQ.below hb
        try replace hX := hX.below hb
        try replace hY := hY.below hb
        replace hB := below_then hB hb
        clear hb hS
        try go_wp2_with fail
        have hS : FdS n1 a w' ∧ FdS n2 b w' := ⟨rpIn9 hP, rpIn9 hQ⟩
        refine hK.out _ _ hS ?_
        try simp only [Act.put, List.setIfInBounds_toArray, List.set_cons_zero, List.set_cons_succ]
        clear hK
        generalize w' = U at *
        refine anyG_step (rs := [3]) (by kernel_rfl) (by simp) ?_
        refine AllG.cons rfl (fun K hK => ?_) AllG.nil
        go_simp
        refine (CB.out _).mono ?_
        rintro r w' ⟨rfl, hb⟩
        replace hP := hP.below hb
        replace hQ := hQ.below hb
        try replace hX := hX.below hb
        try replace hY := hY.below hb
        replace hB := below_then hB hb
        clear hb hS
        try go_wp2_with fail
        have hS : FdS n1 a w' ∧ FdS n2 b w' := ⟨rpIn9 hP, rpIn9 hQ⟩
        refine hK.out _ _ hS ?_
        try simp only [Act.put, List.setIfInBounds_toArray, List.set_cons_zero, List.set_cons_succ]
        clear hK
        generalize w' = U at *
        have hne : nx ≠ ny := by first | exact hony | exact fun e => honx e.symm
        refine anyG_step (rs := [6]) (by kernel_rfl) (by simp) ?_
        refine AllG.cons rfl (fun K hK => ?_) AllG.nil
        refine El.step_store fdRow rfl _ _ rfl nx a #[.int .i64 a.d, .int .i64 a.i, .int .i64 a.b, .int .i64 a.t, .int .i64 a.m, .int .i64 a.p, .int .i64 a.c, .int .i64 a.s, .int .i64 a.k] rfl rfl rfl zeroRp hX ?_
        replace hX := hX.set a #[.int .i64 a.d, .int .i64 a.i, .int .i64 a.b, .int .i64 a.t, .int .i64 a.m, .int .i64 a.p, .int .i64 a.c, .int .i64 a.s, .int .i64 a.k] rfl
        replace hY := hY.rowN nx #[.int .i64 a.d, .int .i64 a.i, .int .i64 a.b, .int .i64 a.t, .int .i64 a.m, .int .i64 a.p, .int .i64 a.c, .int .i64 a.s, .int .i64 a.k] (fun e => hne e.symm)
        replace hP := hP.rowN nx #[.int .i64 a.d, .int .i64 a.i, .int .i64 a.b, .int .i64 a.t, .int .i64 a.m, .int .i64 a.p, .int .i64 a.c, .int .i64 a.s, .int .i64 a.k] hpnx
        replace hQ := hQ.rowN nx #[.int .i64 a.d, .int .i64 a.i, .int .i64 a.b, .int .i64 a.t, .int .i64 a.m, .int .i64 a.p, .int .i64 a.c, .int .i64 a.s, .int .i64 a.k] hqnx
        replace hB := below_setRow hB hbx #[.int .i64 a.d, .int .i64 a.i, .int .i64 a.b, .int .i64 a.t, .int .i64 a.m, .int .i64 a.p, .int .i64 a.c, .int .i64 a.s, .int .i64 a.k]
        refine hK.out _ _ ⟨rpIn9 hP, rpIn9 hQ⟩ ?_
        try simp only [Act.put, List.setIfInBounds_toArray, List.set_cons_zero, List.set_cons_succ]
        clear hK hS
        refine anyG_step (rs := [7]) (by kernel_rfl) (by simp) ?_
        refine AllG.last (n := 7) rfl (fun K hK => ?_)
        refine El.step_store fdRow rfl _ _ rfl ny b #[.int .i64 b.d, .int .i64 b.i, .int .i64 b.b, .int .i64 b.t, .int .i64 b.m, .int .i64 b.p, .int .i64 b.c, .int .i64 b.s, .int .i64 b.k] rfl rfl rfl zeroRp hY ?_
        replace hY := hY.set b #[.int .i64 b.d, .int .i64 b.i, .int .i64 b.b, .int .i64 b.t, .int .i64 b.m, .int .i64 b.p, .int .i64 b.c, .int .i64 b.s, .int .i64 b.k] rfl
        replace hX := hX.rowN ny #[.int .i64 b.d, .int .i64 b.i, .int .i64 b.b, .int .i64 b.t, .int .i64 b.m, .int .i64 b.p, .int .i64 b.c, .int .i64 b.s, .int .i64 b.k] hne
        replace hB := below_setRow hB hby #[.int .i64 b.d, .int .i64 b.i, .int .i64 b.b, .int .i64 b.t, .int .i64 b.m, .int .i64 b.p, .int .i64 b.c, .int .i64 b.s, .int .i64 b.k]
        refine hK.out _ _ ?_
        clear hK
        refine anyG_done (by kernel_rfl) ?_ _
        exact ⟨nx, ny, rfl, hX, hY, hB⟩
  · rintro nx ny w2 ⟨hX, hY, hB⟩
    have HCC := Lib.hid (fun wx (hX : fdE.In wx nx a) (hY : fdE.In wx ny b) => compare3_any nx ny 8 (row3 a) (row3 b) bv wx (row3_cells hX) (row3_cells hY) H1.out H2.out H3.out)
    replace hX : fdE.In w2.drew nx a := hX
    replace hY : fdE.In w2.drew ny b := hY
    replace hB := hB.drew
    clear hP hQ CA CB H1 H2 H3
    go_wp2_with fail
    go_region_held3 (fun _ => True) (first | trivial) ((go_at_call 22; (with_reducible refine (HCC.out _ hX hY).mono ?_); rintro e w3 ⟨n, rfl, hn, rfl⟩))
    all_goals go_wp2_with fail
    all_goals go_ret
    all_goals exact ⟨congrArg (fun b => Ending.returned (.bool b)) hn.out, hB⟩
end Go.Proofs.Ytknoabafpgdooaa

/- Of the library, at operations and undos: Clone, Grow, Concat. -/
namespace Go.Proofs.Ytknoabafpgdooaa
open Go.RowKit Tre Cod

def catE {α : Type} (F : Nat → List α) : Nat → List α
  | 0 => []
  | k + 1 => catE F k ++ F k
theorem catE_le {α : Type} (F : Nat → List α) (k : Nat) : ∀ n, k ≤ n → (catE F k).length ≤ (catE F n).length
  | 0, h => by obtain rfl : k = 0 := by omega
               exact Nat.le_refl _
  | n + 1, h => by
    by_cases e : k = n + 1
    · subst e; exact Nat.le_refl _
    · have := catE_le F k n (by omega)
      rw [catE, List.length_append]; omega

end Go.Proofs.Ytknoabafpgdooaa

/- The program's reports: place; Clone, Grow, Concat of reports; Merge. -/
namespace Go.Proofs.Ytknoabafpgdooaa
open Go.RowKit Cod

theorem cellLt {w : World} {b i : Nat} {v : Value} (h : w.cell? ⟨b, i, none⟩ = some v) : b < w.heap.size := World.block_lt_of_cell? _ _ h
set_option maxRecDepth 100000 in
theorem rpPlace1_any (r : Rp) (n : Nat) (d : Int) (w : World) (h : w.cell? ⟨n, 0, none⟩ = some (.int .i64 d)) : Calls Try.prog 37 #[.agg #[.int .i64 r.d, .int .i64 r.i, .int .i64 r.b, .int .i64 r.t, .int .i64 r.m, .int .i64 r.p, .int .i64 r.c, .int .i64 r.s, .int .i64 r.k], .pointer (some ⟨n, 0, none⟩)] w fun e w' => e = .returned (.bool (decide (d ≤ r.d))) ∧ Below w.heap.size w w' := by
  have hP : rpE.In (w.alloc (.cells #[.int .i64 r.d, .int .i64 r.i, .int .i64 r.b, .int .i64 r.t, .int .i64 r.m, .int .i64 r.p, .int .i64 r.c, .int .i64 r.s, .int .i64 r.k] 23)) w.heap.size r := El.In.new (E := rpE) w r _ rfl
  have hB := below_alloc (Below.refl w.heap.size w) (.cells #[.int .i64 r.d, .int .i64 r.i, .int .i64 r.b, .int .i64 r.t, .int .i64 r.m, .int .i64 r.p, .int .i64 r.c, .int .i64 r.s, .int .i64 r.k] 23)
  have hlt := cellLt h
  rw [← (bcell hB).1 _ _ hlt] at h
  obtain ⟨p0, _, _, _, _, _, _, _, _⟩ := rpIn9 hP
  clear hP
  go_enter Try.func37, Try.ntmps37
  go_upto_region 1 with fail
  generalize w.alloc (.cells #[.int .i64 r.d, .int .i64 r.i, .int .i64 r.b, .int .i64 r.t, .int .i64 r.m, .int .i64 r.p, .int .i64 r.c, .int .i64 r.s, .int .i64 r.k] 23) = W at *
  go_wp2_with fail
  go_ret
  exact ⟨rfl, hB⟩

set_option maxRecDepth 100000 in
set_option maxHeartbeats 2000000 in
theorem rpIndex_any (A : Option Addr) (cap : Nat) (l : List Rp) (n : Nat) (d : Int) (w : World) (hl : l.length ≤ 1000) (h : w.cell? ⟨n, 0, none⟩ = some (.int .i64 d)) (hT : rpE.Sl w A l) :
    Calls Try.prog 36 #[.slice A l.length cap, .func (.func 37) #[] #[.pointer (some ⟨n, 0, none⟩)]] w fun e w' => ∃ i : Int, e = .returned (.int .i64 i) ∧ ((cutR l d = l.length ∧ i = -1) ∨ (cutR l d < l.length ∧ i = (cutR l d : Nat))) ∧ Below w.heap.size w w' := by
  have hlt := cellLt h
  have HF := Lib.hid (fun (r : Rp) (wx : World) (hb : Below w.heap.size w wx) => rpPlace1_any r n d wx (by rw [(bcell hb).1 _ _ hlt]; exact h))
  have hB := Below.refl w.heap.size w
  clear h
  go_enter Try.func36, Try.ntmps36
  go_wp2_with fail
  go_loopw [8] (fun y wr => ∃ k : Nat, k ≤ cutR l d ∧ y = .int .i64 k ∧ Below w.heap.size w wr) (fun y _ => l.length - (intOf y).toNat)
  case atStart => exact ⟨0, Nat.zero_le _, rfl, hB⟩
  case round =>
    clear hB
    obtain ⟨k, hk, rfl, hB⟩ := hrel
    by_cases hkl : k < l.length
    · obtain ⟨b, off, hA, hbw, hc⟩ := hT (by omega)
      have hat : rpE.At wr b (off + k * 9) l[k] := (hc k hkl).below hB hbw
      have hx := rpIdxH (cap := cap) hA hkl
      by_cases hd : l[k].d < d
      · have HN := Lib.hid (cutR_next hk hkl hd)
        have hC := HF.out l[k] wr hB
        rw [show decide (d ≤ l[k].d) = false from decide_eq_false (by omega)] at hC
        have HC := Lib.hid hC
        clear hC hc hA hd
        generalize l[k] = x at *
        go_wp2_with (first | (refine El.load rpRow rfl _ rfl b (off + k * 9) rfl x hat #[.int .i64 x.d, .int .i64 x.i, .int .i64 x.b, .int .i64 x.t, .int .i64 x.m, .int .i64 x.p, .int .i64 x.c, .int .i64 x.s, .int .i64 x.k] rfl ?_) | (go_at_call 37; (with_reducible refine (HC.out).mono ?_); rintro e w1 ⟨rfl, hb1⟩))
        exact ⟨⟨k + 1, HN.out, by go_num, below_then hB hb1⟩, by simp [intOf]; omega⟩
      · have hX := cutR_here hk (Or.inr ⟨hkl, by omega⟩)
        have HX := Lib.hid hX
        have hC := HF.out l[k] wr hB
        rw [show decide (d ≤ l[k].d) = true from decide_eq_true (by omega)] at hC
        have HC := Lib.hid hC
        clear hC hc hA hd hX
        generalize l[k] = x at *
        go_wp2_with (first | (refine El.load rpRow rfl _ rfl b (off + k * 9) rfl x hat #[.int .i64 x.d, .int .i64 x.i, .int .i64 x.b, .int .i64 x.t, .int .i64 x.m, .int .i64 x.p, .int .i64 x.c, .int .i64 x.s, .int .i64 x.k] rfl ?_) | (go_at_call 37; (with_reducible refine (HC.out).mono ?_); rintro e w1 ⟨rfl, hb1⟩))
        go_ret
        exact ⟨k, rfl, Or.inr ⟨by rw [← HX.out]; exact hkl, by rw [← HX.out]⟩, below_then hB hb1⟩
    · have hle := cutR_le l d
      have hke : k = l.length := by omega
      have hce : cutR l d = l.length := by omega
      have HCE := Lib.hid hce
      have hlk : l.length ≤ k := by omega
      have f1 : decide ((k : Int) < (l.length : Int)) = false := decide_eq_false (by omega)
      have f2 : decide (k < l.length) = false := decide_eq_false (by omega)
      clear hke hce
      go_wp2_with fail
      go_ret
      exact ⟨-1, rfl, Or.inl ⟨HCE.out, rfl⟩, hB⟩

set_option maxRecDepth 100000 in
set_option maxHeartbeats 2000000 in
theorem rpPlace_any (A : Option Addr) (cap : Nat) (l : List Rp) (d : Int) (w : World) (hl : l.length ≤ 1000) (hT : rpE.Sl w A l) :
    Calls Try.prog 27 #[.slice A l.length cap, .int .i64 d] w fun e w' => e = .returned (.int .i64 (cutR l d : Nat)) ∧ Below w.heap.size w w' := by
  have hB := below_alloc (Below.refl w.heap.size w) (.cells #[.int .i64 d] 3)
  have hc : (w.alloc (.cells #[.int .i64 d] 3)).cell? ⟨w.heap.size, 0, none⟩ = some (.int .i64 d) := by go_simp
  have hT2 := hT.below hB
  have HC := Lib.hid (rpIndex_any A cap l w.heap.size d _ hl hc hT2)
  clear hc hT hT2
  obtain ⟨k, hk⟩ : ∃ k, cutR l d = k := ⟨_, rfl⟩
  rw [hk] at HC ⊢
  clear hk
  go_enter Try.func27, Try.ntmps27
  go_upto_region 1 with fail
  generalize w.alloc (.cells #[.int .i64 d] 3) = W at *
  go_wp2_with fail
  refine HC.out.mono ?_
  rintro e w1 ⟨i, rfl, hi, hb1⟩
  rcases hi with ⟨rfl, rfl⟩ | ⟨hk, rfl⟩
  · go_wp2_with fail
    go_ret
    exact ⟨rfl, below_then hB hb1⟩
  · have f1 : decide ((k : Int) < 0) = false := decide_eq_false (by omega)
    go_wp2_with fail
    go_ret
    exact ⟨rfl, below_then hB hb1⟩
set_option maxRecDepth 100000 in
theorem cloneRp_any (A : Option Addr) (c : Nat) (l : List Rp) (w : World) (hl : l.length ≤ 50000) (hT : SlV rpE w A c l) :
    Calls Try.prog 28 #[.slice A l.length c] w fun e w' => ∃ A' c', e = .returned (.slice A' l.length c') ∧ SlV rpE w' A' c' l ∧ Frs w.heap.size A' ∧ Below w.heap.size w w' := by
  obtain ⟨hT, hz, hlc⟩ := hT
  have q : ∀ (w : World) (a : Option Addr) (n c n' c' : Nat), (binOp .eql 28 (.slice a n c) (.slice none n' c')).run Try.prog w = .ok (.bool a.isNone) w := fun w a n c n' c' => Lib.run_eql_slice_nil w _ _ a n c n' c' Try.underlying28
  cases A with
  | none =>
    obtain rfl := hT.none_nil
    obtain rfl := hz rfl
    go_enter Try.func28, Try.ntmps28
    go_wp2
    go_ret
    exact ⟨none, 0, rfl, SlV.nil _ _, frs_nil _, Below.refl _ _⟩
  | some a =>
    go_enter Try.func28, Try.ntmps28
    have hE := El.Own.empty (E := rpE) w w.heap.size (Nat.le_refl _)
    have hb0 := below_alloc (Below.refl w.heap.size w) (.cells #[] 23)
    go_wp2_with (at_builtin; refine El.wpList_app rpInn rfl _ _ rfl w.heap.size _ [] l rfl hE (some a) _ c rfl rfl (hT.below hb0) (fun e => by cases e) (by simp; omega) (by simp) ?_; intro v' w2 hown hg _)
    obtain ⟨A', c', rfl, hS⟩ := SlV.own hown
    go_wp2
    go_ret
    exact ⟨A', c', rfl, hS, hown.frs, below_own hb0 hg (hE.rows)⟩

theorem infoRp : (Try.prog.info? 23).map (fun i => (i.zero, i.size, i.bytes)) = some (some (.agg #[.int .i64 0, .int .i64 0, .int .i64 0, .int .i64 0, .int .i64 0, .int .i64 0, .int .i64 0, .int .i64 0, .int .i64 0]), 9, 72) := by kernel_rfl
set_option maxRecDepth 100000 in
theorem growRp_any (B n : Nat) (w : World) (hn : n ≤ 2000) (hB : B ≤ w.heap.size) :
    Calls Try.prog 38 #[.slice none 0 0, .int .i64 n] w fun e w' => ∃ v, e = .returned v ∧ rpE.Own w' B v [] ∧ Below w.heap.size w w' := by
  by_cases h0 : n = 0
  · subst h0
    go_enter Try.func38, Try.ntmps38
    go_wp2
    go_ret
    exact ⟨_, rfl, El.Own.nil _ B, Below.refl _ _⟩
  · obtain ⟨i, hi, hz, hz1, hz2⟩ := info_parts infoRp
    have hr := fun ty => Lib.run_append_nil_zeros (P := Try.prog) w 28 3 ty 23 i _ .i64 .i64 Try.underlying28 Try.underlying3 hi hz n (by omega) (by omega) (by omega) (by rw [hz2]; omega)
    have hg1 : n ≤ grownCap w n 0 23 := grownCap_ge w n 0 _
    have hg2 : grownCap w n 0 23 ≤ maxLen := grownCap_le_maxLen w n 0 23 (by unfold maxLen; omega)
    have hown : rpE.Own (w.drew.alloc (.cells (Builtin.zeroCells (Value.agg #[.int .i64 0, .int .i64 0, .int .i64 0, .int .i64 0, .int .i64 0, .int .i64 0, .int .i64 0, .int .i64 0, .int .i64 0]).cells n ++ Builtin.zeroCells (Value.agg #[.int .i64 0, .int .i64 0, .int .i64 0, .int .i64 0, .int .i64 0, .int .i64 0, .int .i64 0, .int .i64 0, .int .i64 0]).cells (grownCap w n 0 23 - n)) 23)) B (.slice (some ⟨w.heap.size, 0, none⟩) 0 (grownCap w n 0 23)) [] := by
      refine World.ownsRow_made w.drew _ (grownCap w n 0 23) hB hg2 ?_
      rw [Array.size_append, size_zeroCells, size_zeroCells]
      show n * 9 + (grownCap w n 0 23 - n) * 9 = _ * 9
      omega
    have hnx : Below w.heap.size w (w.drew.alloc (.cells (Builtin.zeroCells (Value.agg #[.int .i64 0, .int .i64 0, .int .i64 0, .int .i64 0, .int .i64 0, .int .i64 0, .int .i64 0, .int .i64 0, .int .i64 0]).cells n ++ Builtin.zeroCells (Value.agg #[.int .i64 0, .int .i64 0, .int .i64 0, .int .i64 0, .int .i64 0, .int .i64 0, .int .i64 0, .int .i64 0, .int .i64 0]).cells (grownCap w n 0 23 - n)) 23)) := below_alloc (Below.refl _ w).drew _
    generalize grownCap w n 0 23 = cap at *
    generalize w.drew.alloc (.cells (Builtin.zeroCells (Value.agg #[.int .i64 0, .int .i64 0, .int .i64 0, .int .i64 0, .int .i64 0, .int .i64 0, .int .i64 0, .int .i64 0, .int .i64 0]).cells n ++ Builtin.zeroCells (Value.agg #[.int .i64 0, .int .i64 0, .int .i64 0, .int .i64 0, .int .i64 0, .int .i64 0, .int .i64 0, .int .i64 0, .int .i64 0]).cells (cap - n)) 23) = W at *
    go_enter Try.func38, Try.ntmps38
    go_wp2_with (at_builtin; refine Lib.wpList_append_run _ rfl _ _ 28 3 rfl _ _ rfl rfl _ _ (hr _) ?_)
    go_wp2
    go_ret
    exact ⟨_, rfl, hown, hnx⟩

set_option maxRecDepth 100000 in
theorem concatRp_any (sb : Nat) (F : Nat → List Rp) (A : Nat → Option Addr) (C : Nat → Nat) (w : World) (hcell : ∀ j, j < 3 → w.cell? ⟨sb, j, none⟩ = some (.slice (A j) (F j).length (C j)))
    (hT : ∀ j, j < 3 → rpE.Sl w (A j) (F j)) (hc : ∀ j, j < 3 → A j = none → C j = 0) (hl : (catE F 3).length ≤ 2000) (hsb : sb < w.heap.size) :
    Calls Try.prog 29 #[.slice (some ⟨sb, 0, none⟩) 3 3] w fun e w' => ∃ A' cap', e = .returned (.slice A' (catE F 3).length cap') ∧ SlV rpE w' A' cap' (catE F 3) ∧ Frs w.heap.size A' ∧ Below w.heap.size w w' := by
  have CG := fun n hn => growRp_any w.heap.size n w hn (Nat.le_refl _)
  have hle := fun k h => catE_le F k 3 h
  have HCL := Lib.hid hcell
  have HTT := Lib.hid hT
  have HCC := Lib.hid hc
  clear hcell hT hc
  go_enter Try.func29, Try.ntmps29
  go_wp2
  go_loop [3, 11] (fun x y => ∃ k : Nat, k ≤ 3 ∧ y = .int .i64 k ∧ x = .int .i64 (catE F k).length) (fun _ y => 3 - (intOf y).toNat)
  case atStart => exact ⟨0, Nat.zero_le _, rfl, rfl⟩
  case round =>
    obtain ⟨k, hk, rfl, rfl⟩ := hrel
    by_cases hlt : k < 3
    · have h1 := HCL.out k hlt
      have h2 := hle (k + 1) hlt
      have h3 : (catE F (k + 1)).length = (catE F k).length + (F k).length := by rw [catE, List.length_append]
      have H3 := Lib.hid h3
      have h4 : (catE F k).length + (F k).length ≤ 2000 := by omega
      generalize (catE F k).length = n at *
      generalize (F k).length = m at *
      clear h3
      go_wp2
      go_round
      case rel => exact ⟨k + 1, by omega, by go_num, by rw [H3.out]; go_num⟩
      case measure => simp [intOf]; omega
    · obtain rfl : k = 3 := by omega
      have CG := CG _ hl
      go_wp2_with fail
      refine CG.mono ?_
      rintro e w1 ⟨v, rfl, hown, hb1⟩
      clear CG
      go_wp2
      go_loopw [6, 27] (fun x y wr => ∃ (k : Nat) (v : Value), k ≤ 3 ∧ y = .int .i64 k ∧ x = v ∧ rpE.Own wr w.heap.size v (catE F k) ∧ Below w.heap.size w wr) (fun _ y _ => 3 - (intOf y).toNat)
      case atStart => exact ⟨0, v, Nat.zero_le _, rfl, rfl, hown, hb1⟩
      case round =>
        clear hown hb1
        obtain ⟨k, v, hk, rfl, rfl, hown, hnx⟩ := hrel
        by_cases hlt : k < 3
        · have h1 := HCL.out k hlt
          rw [← (bcell hnx).1 _ _ hsb] at h1
          have h2 := hle (k + 1) hlt
          have h3 : (catE F (k + 1)).length = (catE F k).length + (F k).length := by rw [catE, List.length_append]
          have hTk := (HTT.out k hlt).below hnx
          have hck := HCC.out k hlt
          have hB := hnx.size
          go_wp2_with (at_builtin; refine El.wpList_app rpInn rfl _ _ rfl w.heap.size _ (catE F k) (F k) rfl hown (A k) _ (C k) rfl rfl hTk hck (by omega) hB ?_; intro v' w2 hown2 hg2 _)
          go_roundw
          case rel => exact ⟨k + 1, v', by omega, by go_num, rfl, hown2, hnx.grown hg2 hB (fun j hj => (hown).rows j hj)⟩
          case measure => simp [intOf]; omega
        · obtain rfl : k = 3 := by omega
          obtain ⟨A', cap', rfl, hS⟩ := SlV.own hown
          go_wp2
          go_ret
          exact ⟨A', cap', rfl, hS, hown.frs, hnx⟩
end Go.Proofs.Ytknoabafpgdooaa

/- The program's reports: Merge. -/
namespace Go.Proofs.Ytknoabafpgdooaa
open Go.RowKit Cod
/-- Three lists, three addresses, three numbers. -/
def pickR {α : Type} (a b c : α) : Nat → α
  | 0 => a
  | 1 => b
  | _ => c
set_option maxRecDepth 100000 in
set_option maxHeartbeats 4000000 in
theorem rpMerge_any (A : Option Addr) (cap : Nat) (l : List Rp) (c : Rp) (w : World) (hl : l.length ≤ 1000) (hT : SlV rpE w A cap l) :
    Calls Try.prog 15 #[.slice A l.length cap, .agg #[.int .i64 c.d, .int .i64 c.i, .int .i64 c.b, .int .i64 c.t, .int .i64 c.m, .int .i64 c.p, .int .i64 c.c, .int .i64 c.s, .int .i64 c.k]] w fun e w' => ∃ (A' : Option Addr) (c' : Nat), e = .returned (.slice A' (mergeR l c).length c') ∧ SlV rpE w' A' c' (mergeR l c) ∧ Below w.heap.size w w' := by
  obtain ⟨hT, hz, hlc⟩ := hT
  have hP : rpE.In (w.alloc (.cells #[.int .i64 c.d, .int .i64 c.i, .int .i64 c.b, .int .i64 c.t, .int .i64 c.m, .int .i64 c.p, .int .i64 c.c, .int .i64 c.s, .int .i64 c.k] 23)) w.heap.size c := El.In.new (E := rpE) w c _ rfl
  have hB := below_alloc (Below.refl w.heap.size w) (.cells #[.int .i64 c.d, .int .i64 c.i, .int .i64 c.b, .int .i64 c.t, .int .i64 c.m, .int .i64 c.p, .int .i64 c.c, .int .i64 c.s, .int .i64 c.k] 23)
  obtain ⟨RM, hRM⟩ : ∃ RM, mergeR l c = RM := ⟨_, rfl⟩
  rw [hRM]
  have HRM := Lib.hid hRM
  clear hRM
  obtain ⟨k, hk⟩ : ∃ k, cutR l c.d = k := ⟨_, rfl⟩
  have hPL := fun wx hb => rpPlace_any A cap l c.d wx (by omega) (hT.below (w := wx) hb)
  simp only [hk] at hPL
  have HPL := Lib.hid hPL
  clear hPL
  have hkl := cutR_le l c.d
  go_enter Try.func15, Try.ntmps15
  go_upto_region 1 with fail
  generalize w.alloc (.cells #[.int .i64 c.d, .int .i64 c.i, .int .i64 c.b, .int .i64 c.t, .int .i64 c.m, .int .i64 c.p, .int .i64 c.c, .int .i64 c.s, .int .i64 c.k] 23) = W0 at *
  obtain ⟨nc, hnc⟩ : ∃ n, w.heap.size = n := ⟨_, rfl⟩
  rw [hnc] at hP ⊢
  have hwn : w.heap.size ≤ nc := by omega
  clear hnc
  obtain ⟨q0, q1, q2, q3, q4, q5, q6, q7, q8⟩ := rpIn9 hP
  go_wp2_with fail
  refine (HPL.out _ hB).mono ?_
  rintro e w1 ⟨rfl, hb1⟩
  replace hP := hP.below hb1
  replace hB := below_then hB hb1
  clear hb1 HPL q0 q1 q2 q3 q4 q5 q6 q7 q8
  go_wp2_with fail
  obtain ⟨q0, q1, q2, q3, q4, q5, q6, q7, q8⟩ := rpIn9 hP
  rw [hk] at hkl
  by_cases hlt : k < l.length
  · obtain ⟨b, off, hA, hbw, hc⟩ := hT (by omega)
    have hat : rpE.At w1 b (off + k * 9) l[k] := (hc k hlt).below hB hbw
    have hx := rpIdxH (cap := cap) hA hlt
    obtain ⟨s0, s1, s2, s3, s4, s5, s6, s7, s8⟩ := rpAt9 hat
    have hki : (k : Int) < (l.length : Int) := by omega
    have f1 : decide ((k : Int) < (l.length : Int)) = true := decide_eq_true hki
    have f2 : decide (k < l.length) = true := decide_eq_true hlt
    have HC := Lib.hid hc
    have HAA := Lib.hid hA
    have HK := Lib.hid hk
    clear hc hat hA hk
    by_cases he : l[k].d = c.d
    · have hold := mergeR_old l c (by rw [HK.out]; exact hlt)
      simp only [HK.out] at hold
      have HM := Lib.hid (hold he)
      clear hold
      generalize hx0 : l[k].d = x0 at *
      have g5 : (x0 == c.d) = true := beq_iff_eq.2 he
      have g6 : decide (x0 = c.d) = true := decide_eq_true he
      clear he hx0
      go_quiet (fail)
      have hB1 := below_drew hB nq
      have hP1 : rpE.In (w1.drewN nq) nc c := hP
      clear hB hP s0 s1 s2 s3 s4 s5 s6 s7 s8 q0 q1 q2 q3 q4 q5 q6 q7 q8 g5 g6 f1 f2
      go_wp2_with fail
      generalize w1.drewN nq = V1 at *
      have hat : rpE.At V1 b (off + k * 9) l[k] := (HC.out k hlt).below hB1 hbw
      have hbr : b < V1.heap.size := Nat.lt_of_lt_of_le hbw hB1.size
      generalize l[k] = x at *
      obtain ⟨bn, hbn⟩ : ∃ bn, newB c x = bn := ⟨_, rfl⟩
      have CN := Lib.hid (fun wx => (by
        have h := rpNewer_any c x wx
        rw [hbn] at h
        exact h : Calls Try.prog 11 #[.agg #[.int .i64 c.d, .int .i64 c.i, .int .i64 c.b, .int .i64 c.t, .int .i64 c.m, .int .i64 c.p, .int .i64 c.c, .int .i64 c.s, .int .i64 c.k], .agg #[.int .i64 x.d, .int .i64 x.i, .int .i64 x.b, .int .i64 x.t, .int .i64 x.m, .int .i64 x.p, .int .i64 x.c, .int .i64 x.s, .int .i64 x.k]] wx fun e w' => e = .returned (.bool bn) ∧ Below wx.heap.size wx w'))
      have HM2 := Lib.hid (show mergeR l c = if bn = true then l.set k c else l by rw [← hbn]; exact HM.out)
      clear HM hbn HC
      replace hP : rpE.In V1.drew nc c := hP1
      replace hat : rpE.At V1.drew b (off + k * 9) x := hat
      replace hB := hB1.drew
      replace hbr : b < V1.drew.heap.size := hbr
      clear hP1 hB1
      go_region_held3 (fun w' => (w'.cell? ⟨nc, 0, none⟩ = some (.int .i64 c.d) ∧ w'.cell? ⟨nc, 1, none⟩ = some (.int .i64 c.i) ∧ w'.cell? ⟨nc, 2, none⟩ = some (.int .i64 c.b) ∧ w'.cell? ⟨nc, 3, none⟩ = some (.int .i64 c.t) ∧ w'.cell? ⟨nc, 4, none⟩ = some (.int .i64 c.m) ∧ w'.cell? ⟨nc, 5, none⟩ = some (.int .i64 c.p) ∧ w'.cell? ⟨nc, 6, none⟩ = some (.int .i64 c.c) ∧ w'.cell? ⟨nc, 7, none⟩ = some (.int .i64 c.s) ∧ w'.cell? ⟨nc, 8, none⟩ = some (.int .i64 c.k)) ∧ (w'.cell? ⟨b, off + k * 9, none⟩ = some (.int .i64 x.d) ∧ w'.cell? ⟨b, off + k * 9 + 1, none⟩ = some (.int .i64 x.i) ∧ w'.cell? ⟨b, off + k * 9 + 2, none⟩ = some (.int .i64 x.b) ∧ w'.cell? ⟨b, off + k * 9 + 3, none⟩ = some (.int .i64 x.t) ∧ w'.cell? ⟨b, off + k * 9 + 4, none⟩ = some (.int .i64 x.m) ∧ w'.cell? ⟨b, off + k * 9 + 5, none⟩ = some (.int .i64 x.p) ∧ w'.cell? ⟨b, off + k * 9 + 6, none⟩ = some (.int .i64 x.c) ∧ w'.cell? ⟨b, off + k * 9 + 7, none⟩ = some (.int .i64 x.s) ∧ w'.cell? ⟨b, off + k * 9 + 8, none⟩ = some (.int .i64 x.k))) (with_reducible exact ⟨rpIn9 hP, rpAt9 hat⟩) (first | (go_at_call 11; (with_reducible refine (CN.out _).mono ?_); rintro e w6 ⟨rfl, hb6⟩; replace hP := hP.below hb6; replace hat := hat.below hb6 hbr; replace hB := below_then hB hb6; clear hb6))
      cases bn
      · have hm := HM2.out
        rw [if_neg (by decide)] at hm
        have hRM0 := HRM.out
        rw [hm] at hRM0
        have hRM := Lib.hid hRM0
        have hTV := hT.below hB
        have CL := Lib.hid (cloneRp_any A cap l _ (by omega) ⟨hTV, hz, hlc⟩)
        clear hm HM2 hRM0
        go_wp2_with fail
        refine CL.out.mono ?_
        rintro r w7 ⟨A', c', rfl, hS, _, hb7⟩
        go_wp2_with fail
        go_ret
        exact ⟨A', c', by rw [← hRM.out]; rfl, by rw [← hRM.out]; exact hS, below_then hB hb7⟩
      · have hm := HM2.out
        rw [if_pos rfl] at hm
        have hRM := HRM.out
        rw [hm] at hRM
        have HTO := Lib.hid (show l.take k ++ [c] ++ l.drop (k + 1) = RM by rw [← hRM, List.set_eq_take_append_cons_drop, if_pos hlt, List.append_assoc]; rfl)
        clear hm HM2 hRM HRM HK hx HAA hat hbr hbw
        obtain ⟨tt, hto⟩ : ∃ tt, k + 1 = tt := ⟨_, rfl⟩
        rw [hto] at HTO
        have hti : (k : Int) + 1 = (tt : Int) := by omega
        have HTI := Lib.hid hti
        have htl : tt ≤ l.length := by omega
        have hkt : k ≤ tt := by omega
        clear hto hti
        go_upto_region 7 with fail
        rw [HTI.out]
        generalize w6 = V at *
        obtain ⟨A3, hA3⟩ : ∃ A3, (if cap = (tt) then A else Option.map (fun x => x.add ((tt) * 9)) A) = A3 := ⟨_, rfl⟩
        have g0 : (0 : Int) ≤ (k : Int) := by omega
        have g1 : (k : Int) ≤ (cap : Int) := by omega
        have g2 : (k : Int) ≤ (l.length : Int) := by omega
        have g3 : (0 : Int) ≤ ((tt) : Int) := by omega
        have g4 : ((tt) : Int) ≤ (cap : Int) := by omega
        have g5 : ((tt) : Int) ≤ (l.length : Int) := by omega
        have HE1 := Lib.hid (show (l.take k).length = k by rw [List.length_take]; omega)
        have hkm : k + (l.length - (tt)) ≤ 1001 := by omega
        have HE3 := Lib.hid (show (l.drop (tt)).length = l.length - (tt) by rw [List.length_drop])
        have htk := (hT.take k).below hB
        have hT3 := (hT.drop hlc hA3).below hB
        have hz3 := El.drop_none hz hA3
        generalize l.take k = L1 at *
        generalize l.drop (tt) = L3 at *
        generalize hm3 : l.length - (tt) = m3 at *
        replace hP : rpE.In V.drew nc c := hP
        replace hB := hB.drew
        replace htk : rpE.Sl V.drew A L1 := htk
        replace hT3 : rpE.Sl V.drew A3 L3 := hT3
        clear hT
        refine region_anyG (S := RpS nc c) 10 (by kernel_rfl) ?_
        generalize V.drew = U at *
        have hS : RpS nc c U := rpIn9 hP
        refine anyG_take (i := 0) (v := .slice A l.length cap) rfl (by kernel_rfl) (by kernel_rfl) (by kernel_rfl) (by kernel_rfl) (by kernel_rfl) (fun _ _ _ h => h) (Or.inl ⟨by rfl, fun w' hSw => by (obtain ⟨s0, s1, s2, s3, s4, s5, s6, s7, s8⟩ := hSw; go_simp)⟩) hS ?_
        try simp only [Act.put, List.setIfInBounds_toArray, List.set_cons_zero, List.set_cons_succ]
        refine anyG_take (i := 1) (v := .int .i64 k) rfl (by kernel_rfl) (by kernel_rfl) (by kernel_rfl) (by kernel_rfl) (by kernel_rfl) (fun _ _ _ h => h) (Or.inl ⟨by rfl, fun w' hSw => by (obtain ⟨s0, s1, s2, s3, s4, s5, s6, s7, s8⟩ := hSw; go_simp)⟩) hS ?_
        try simp only [Act.put, List.setIfInBounds_toArray, List.set_cons_zero, List.set_cons_succ]
        refine anyG_take (i := 2) (v := .slice A k cap) rfl (by kernel_rfl) (by kernel_rfl) (by kernel_rfl) (by kernel_rfl) (by kernel_rfl) (fun _ _ _ h => h) (Or.inl ⟨by rfl, fun w' hSw => by (obtain ⟨s0, s1, s2, s3, s4, s5, s6, s7, s8⟩ := hSw; go_simp)⟩) hS ?_
        try simp only [Act.put, List.setIfInBounds_toArray, List.set_cons_zero, List.set_cons_succ]
        refine anyG_take (i := 3) (v := .agg #[.int .i64 c.d, .int .i64 c.i, .int .i64 c.b, .int .i64 c.t, .int .i64 c.m, .int .i64 c.p, .int .i64 c.c, .int .i64 c.s, .int .i64 c.k]) rfl (by kernel_rfl) (by kernel_rfl) (by kernel_rfl) (by kernel_rfl) (by kernel_rfl) (fun _ _ _ h => h) (Or.inl ⟨by rfl, fun w' hSw => by (obtain ⟨s0, s1, s2, s3, s4, s5, s6, s7, s8⟩ := hSw; go_simp)⟩) hS ?_
        try simp only [Act.put, List.setIfInBounds_toArray, List.set_cons_zero, List.set_cons_succ]
        refine anyG_take (i := 5) (v := .slice A l.length cap) rfl (by kernel_rfl) (by kernel_rfl) (by kernel_rfl) (by kernel_rfl) (by kernel_rfl) (fun _ _ _ h => h) (Or.inl ⟨by rfl, fun w' hSw => by (obtain ⟨s0, s1, s2, s3, s4, s5, s6, s7, s8⟩ := hSw; go_simp)⟩) hS ?_
        try simp only [Act.put, List.setIfInBounds_toArray, List.set_cons_zero, List.set_cons_succ]
        refine anyG_take (i := 6) (v := .int .i64 (tt)) rfl (by kernel_rfl) (by kernel_rfl) (by kernel_rfl) (by kernel_rfl) (by kernel_rfl) (fun _ _ _ h => h) (Or.inl ⟨by rfl, fun w' hSw => by (obtain ⟨s0, s1, s2, s3, s4, s5, s6, s7, s8⟩ := hSw; go_simp)⟩) hS ?_
        try simp only [Act.put, List.setIfInBounds_toArray, List.set_cons_zero, List.set_cons_succ]
        refine anyG_take (i := 7) (v := .slice A3 m3 (cap - (tt))) rfl (by kernel_rfl) (by kernel_rfl) (by kernel_rfl) (by kernel_rfl) (by kernel_rfl) (fun _ _ _ h => h) (Or.inl ⟨by rfl, fun w' hSw => by (obtain ⟨s0, s1, s2, s3, s4, s5, s6, s7, s8⟩ := hSw; go_simp)⟩) hS ?_
        try simp only [Act.put, List.setIfInBounds_toArray, List.set_cons_zero, List.set_cons_succ]
        clear hm3
        refine anyG_step (rs := [4]) (by kernel_rfl) (by simp) ?_
        refine AllG.cons rfl (fun K hK => ?_) AllG.nil
        have he : rpE.Sl (U.alloc (.cells #[.int .i64 c.d, .int .i64 c.i, .int .i64 c.b, .int .i64 c.t, .int .i64 c.m, .int .i64 c.p, .int .i64 c.c, .int .i64 c.s, .int .i64 c.k] 23)) (some ⟨U.heap.size, 0, none⟩) [c] := (El.In.new (E := rpE) U c _ rfl).sl
        have hal := below_alloc (Below.refl U.heap.size U) (.cells #[.int .i64 c.d, .int .i64 c.i, .int .i64 c.b, .int .i64 c.t, .int .i64 c.m, .int .i64 c.p, .int .i64 c.c, .int .i64 c.s, .int .i64 c.k] 23)
        replace hP := hP.below hal
        replace htk := htk.below hal
        replace hT3 := hT3.below hal
        replace hB := below_then hB hal
        clear hal hS
        go_simp
        refine hK.out _ _ (rpIn9 hP : RpS nc c _) ?_
        try simp only [Act.put, List.setIfInBounds_toArray, List.set_cons_zero, List.set_cons_succ]
        clear hK
        generalize U.alloc (.cells #[.int .i64 c.d, .int .i64 c.i, .int .i64 c.b, .int .i64 c.t, .int .i64 c.m, .int .i64 c.p, .int .i64 c.c, .int .i64 c.s, .int .i64 c.k] 23) = U1 at *
        generalize U.heap.size = n6 at *
        have hal := below_alloc (Below.refl U1.heap.size U1) (.cells #[.slice A k cap, .slice (some ⟨n6, 0, none⟩) 1 1, .slice A3 m3 (cap - (tt))] 28)
        have hcells : ∀ j, j < 3 → (U1.alloc (.cells #[.slice A k cap, .slice (some ⟨n6, 0, none⟩) 1 1, .slice A3 m3 (cap - (tt))] 28)).cell? ⟨U1.heap.size, j, none⟩ = some (.slice (pickR A (some ⟨n6, 0, none⟩) A3 j) (pickR L1 [c] L3 j).length (pickR cap 1 (cap - (tt)) j)) := fun j hj => by
          match j, hj with
          | 0, _ =>
            show _ = some (Value.slice A L1.length cap)
            rw [HE1.out]; go_simp
          | 1, _ => show _ = some (Value.slice (some ⟨n6, 0, none⟩) 1 1); go_simp
          | 2, _ =>
            show _ = some (Value.slice A3 L3.length (cap - (tt)))
            rw [HE3.out]; go_simp
        have hsz : U1.heap.size < (U1.alloc (.cells #[.slice A k cap, .slice (some ⟨n6, 0, none⟩) 1 1, .slice A3 m3 (cap - (tt))] 28)).heap.size := by rw [alloc_size]; omega
        replace hP := hP.below hal
        replace htk := htk.below hal
        replace hT3 := hT3.below hal
        replace he := he.below hal
        replace hB := below_then hB hal
        clear hal
        refine anyG_step (rs := [8]) (by kernel_rfl) (by simp) ?_
        refine AllG.cons rfl (fun K hK => ?_) AllG.nil
        go_simp
        refine hK.out _ _ (rpIn9 hP : RpS nc c _) ?_
        try simp only [Act.put, List.setIfInBounds_toArray, List.set_cons_zero, List.set_cons_succ]
        clear hK
        generalize U1.alloc (.cells #[.slice A k cap, .slice (some ⟨n6, 0, none⟩) 1 1, .slice A3 m3 (cap - (tt))] 28) = U2 at *
        have hcat : catE (pickR L1 [c] L3) 3 = L1 ++ [c] ++ L3 := by
          show (([] ++ L1) ++ [c]) ++ L3 = _
          rw [List.nil_append]
        have CC := concatRp_any U1.heap.size (pickR L1 [c] L3) (pickR A (some ⟨n6, 0, none⟩) A3) (pickR cap 1 (cap - (tt))) U2 hcells
          (fun j hj => by
            match j, hj with
            | 0, _ => exact htk
            | 1, _ => exact he
            | 2, _ => exact hT3)
          (fun j hj => by
            match j, hj with
            | 0, _ => exact hz
            | 1, _ => exact fun e => by cases e
            | 2, _ => exact hz3)
          (by rw [hcat, List.length_append, List.length_append, List.length_singleton, HE1.out, HE3.out]; omega) hsz
        rw [hcat, HTO.out] at CC
        generalize U1.heap.size = n7 at *
        clear hcells hcat hsz htk hT3 he
        have HCC := Lib.hid CC
        clear CC
        refine anyG_step (rs := [9]) (by kernel_rfl) (by simp) ?_
        refine AllG.cons rfl (fun K hK => ?_) AllG.nil
        go_simp
        refine HCC.out.mono ?_
        rintro r U3 ⟨A', c', rfl, hS', _, hb2⟩
        replace hP := hP.below hb2
        replace hB := below_then hB hb2
        clear hb2 HCC
        try go_wp2_with fail
        refine hK.out _ _ (rpIn9 hP : RpS nc c _) ?_
        try simp only [Act.put, List.setIfInBounds_toArray, List.set_cons_zero, List.set_cons_succ]
        clear hK
        refine anyG_step (rs := [10]) (by kernel_rfl) (by simp) ?_
        refine AllG.last (n := 10) rfl (fun K hK => ?_)
        go_simp
        refine hK.out _ _ ?_
        try simp only [Act.put, List.setIfInBounds_toArray, List.set_cons_zero, List.set_cons_succ]
        clear hK
        refine anyG_done (by kernel_rfl) ?_ _
        go_wp2_with fail
        go_ret
        exact ⟨A', c', rfl, hS', hB⟩
    · have hnew := mergeR_new l c (by rw [HK.out]; exact fun _ => he)
      rw [HK.out] at hnew
      have HTO := Lib.hid (hnew.symm.trans HRM.out)
      clear hnew
      generalize hx0 : l[k].d = x0 at *
      have g5 : (x0 == c.d) = false := beq_eq_false_iff_ne.2 he
      have g6 : decide (x0 = c.d) = false := decide_eq_false he
      clear he hx0
      go_quiet (fail)
      have hB1 := below_drew hB nq
      have hP1 : rpE.In (w1.drewN nq) nc c := hP
      clear hB hP s0 s1 s2 s3 s4 s5 s6 s7 s8 q0 q1 q2 q3 q4 q5 q6 q7 q8 g5 g6 f1 f2 hx HAA HC HK hbw HRM
      go_upto_region 7 with fail
      generalize w1.drewN nq = V at *
      have hB := hB1
      have hP := hP1
      clear hB1 hP1
      obtain ⟨A3, hA3⟩ : ∃ A3, (if cap = (k) then A else Option.map (fun x => x.add ((k) * 9)) A) = A3 := ⟨_, rfl⟩
      have g0 : (0 : Int) ≤ (k : Int) := by omega
      have g1 : (k : Int) ≤ (cap : Int) := by omega
      have g2 : (k : Int) ≤ (l.length : Int) := by omega
      have g3 : (0 : Int) ≤ ((k) : Int) := by omega
      have g4 : ((k) : Int) ≤ (cap : Int) := by omega
      have g5 : ((k) : Int) ≤ (l.length : Int) := by omega
      have HE1 := Lib.hid (show (l.take k).length = k by rw [List.length_take]; omega)
      have hkm : k + (l.length - (k)) ≤ 1001 := by omega
      have HE3 := Lib.hid (show (l.drop (k)).length = l.length - (k) by rw [List.length_drop])
      have htk := (hT.take k).below hB
      have hT3 := (hT.drop hlc hA3).below hB
      have hz3 := El.drop_none hz hA3
      generalize l.take k = L1 at *
      generalize l.drop (k) = L3 at *
      generalize hm3 : l.length - (k) = m3 at *
      replace hP : rpE.In V.drew nc c := hP
      replace hB := hB.drew
      replace htk : rpE.Sl V.drew A L1 := htk
      replace hT3 : rpE.Sl V.drew A3 L3 := hT3
      clear hT
      refine region_anyG (S := RpS nc c) 10 (by kernel_rfl) ?_
      generalize V.drew = U at *
      have hS : RpS nc c U := rpIn9 hP
      refine anyG_take (i := 0) (v := .slice A l.length cap) rfl (by kernel_rfl) (by kernel_rfl) (by kernel_rfl) (by kernel_rfl) (by kernel_rfl) (fun _ _ _ h => h) (Or.inl ⟨by rfl, fun w' hSw => by (obtain ⟨s0, s1, s2, s3, s4, s5, s6, s7, s8⟩ := hSw; go_simp)⟩) hS ?_
      try simp only [Act.put, List.setIfInBounds_toArray, List.set_cons_zero, List.set_cons_succ]
      refine anyG_take (i := 1) (v := .int .i64 k) rfl (by kernel_rfl) (by kernel_rfl) (by kernel_rfl) (by kernel_rfl) (by kernel_rfl) (fun _ _ _ h => h) (Or.inl ⟨by rfl, fun w' hSw => by (obtain ⟨s0, s1, s2, s3, s4, s5, s6, s7, s8⟩ := hSw; go_simp)⟩) hS ?_
      try simp only [Act.put, List.setIfInBounds_toArray, List.set_cons_zero, List.set_cons_succ]
      refine anyG_take (i := 2) (v := .slice A k cap) rfl (by kernel_rfl) (by kernel_rfl) (by kernel_rfl) (by kernel_rfl) (by kernel_rfl) (fun _ _ _ h => h) (Or.inl ⟨by rfl, fun w' hSw => by (obtain ⟨s0, s1, s2, s3, s4, s5, s6, s7, s8⟩ := hSw; go_simp)⟩) hS ?_
      try simp only [Act.put, List.setIfInBounds_toArray, List.set_cons_zero, List.set_cons_succ]
      refine anyG_take (i := 3) (v := .agg #[.int .i64 c.d, .int .i64 c.i, .int .i64 c.b, .int .i64 c.t, .int .i64 c.m, .int .i64 c.p, .int .i64 c.c, .int .i64 c.s, .int .i64 c.k]) rfl (by kernel_rfl) (by kernel_rfl) (by kernel_rfl) (by kernel_rfl) (by kernel_rfl) (fun _ _ _ h => h) (Or.inl ⟨by rfl, fun w' hSw => by (obtain ⟨s0, s1, s2, s3, s4, s5, s6, s7, s8⟩ := hSw; go_simp)⟩) hS ?_
      try simp only [Act.put, List.setIfInBounds_toArray, List.set_cons_zero, List.set_cons_succ]
      refine anyG_take (i := 5) (v := .slice A l.length cap) rfl (by kernel_rfl) (by kernel_rfl) (by kernel_rfl) (by kernel_rfl) (by kernel_rfl) (fun _ _ _ h => h) (Or.inl ⟨by rfl, fun w' hSw => by (obtain ⟨s0, s1, s2, s3, s4, s5, s6, s7, s8⟩ := hSw; go_simp)⟩) hS ?_
      try simp only [Act.put, List.setIfInBounds_toArray, List.set_cons_zero, List.set_cons_succ]
      refine anyG_take (i := 6) (v := .int .i64 (k)) rfl (by kernel_rfl) (by kernel_rfl) (by kernel_rfl) (by kernel_rfl) (by kernel_rfl) (fun _ _ _ h => h) (Or.inl ⟨by rfl, fun w' hSw => by (obtain ⟨s0, s1, s2, s3, s4, s5, s6, s7, s8⟩ := hSw; go_simp)⟩) hS ?_
      try simp only [Act.put, List.setIfInBounds_toArray, List.set_cons_zero, List.set_cons_succ]
      refine anyG_take (i := 7) (v := .slice A3 m3 (cap - (k))) rfl (by kernel_rfl) (by kernel_rfl) (by kernel_rfl) (by kernel_rfl) (by kernel_rfl) (fun _ _ _ h => h) (Or.inl ⟨by rfl, fun w' hSw => by (obtain ⟨s0, s1, s2, s3, s4, s5, s6, s7, s8⟩ := hSw; go_simp)⟩) hS ?_
      try simp only [Act.put, List.setIfInBounds_toArray, List.set_cons_zero, List.set_cons_succ]
      clear hm3
      refine anyG_step (rs := [4]) (by kernel_rfl) (by simp) ?_
      refine AllG.cons rfl (fun K hK => ?_) AllG.nil
      have he : rpE.Sl (U.alloc (.cells #[.int .i64 c.d, .int .i64 c.i, .int .i64 c.b, .int .i64 c.t, .int .i64 c.m, .int .i64 c.p, .int .i64 c.c, .int .i64 c.s, .int .i64 c.k] 23)) (some ⟨U.heap.size, 0, none⟩) [c] := (El.In.new (E := rpE) U c _ rfl).sl
      have hal := below_alloc (Below.refl U.heap.size U) (.cells #[.int .i64 c.d, .int .i64 c.i, .int .i64 c.b, .int .i64 c.t, .int .i64 c.m, .int .i64 c.p, .int .i64 c.c, .int .i64 c.s, .int .i64 c.k] 23)
      replace hP := hP.below hal
      replace htk := htk.below hal
      replace hT3 := hT3.below hal
      replace hB := below_then hB hal
      clear hal hS
      go_simp
      refine hK.out _ _ (rpIn9 hP : RpS nc c _) ?_
      try simp only [Act.put, List.setIfInBounds_toArray, List.set_cons_zero, List.set_cons_succ]
      clear hK
      generalize U.alloc (.cells #[.int .i64 c.d, .int .i64 c.i, .int .i64 c.b, .int .i64 c.t, .int .i64 c.m, .int .i64 c.p, .int .i64 c.c, .int .i64 c.s, .int .i64 c.k] 23) = U1 at *
      generalize U.heap.size = n6 at *
      have hal := below_alloc (Below.refl U1.heap.size U1) (.cells #[.slice A k cap, .slice (some ⟨n6, 0, none⟩) 1 1, .slice A3 m3 (cap - (k))] 28)
      have hcells : ∀ j, j < 3 → (U1.alloc (.cells #[.slice A k cap, .slice (some ⟨n6, 0, none⟩) 1 1, .slice A3 m3 (cap - (k))] 28)).cell? ⟨U1.heap.size, j, none⟩ = some (.slice (pickR A (some ⟨n6, 0, none⟩) A3 j) (pickR L1 [c] L3 j).length (pickR cap 1 (cap - (k)) j)) := fun j hj => by
        match j, hj with
        | 0, _ =>
          show _ = some (Value.slice A L1.length cap)
          rw [HE1.out]; go_simp
        | 1, _ => show _ = some (Value.slice (some ⟨n6, 0, none⟩) 1 1); go_simp
        | 2, _ =>
          show _ = some (Value.slice A3 L3.length (cap - (k)))
          rw [HE3.out]; go_simp
      have hsz : U1.heap.size < (U1.alloc (.cells #[.slice A k cap, .slice (some ⟨n6, 0, none⟩) 1 1, .slice A3 m3 (cap - (k))] 28)).heap.size := by rw [alloc_size]; omega
      replace hP := hP.below hal
      replace htk := htk.below hal
      replace hT3 := hT3.below hal
      replace he := he.below hal
      replace hB := below_then hB hal
      clear hal
      refine anyG_step (rs := [8]) (by kernel_rfl) (by simp) ?_
      refine AllG.cons rfl (fun K hK => ?_) AllG.nil
      go_simp
      refine hK.out _ _ (rpIn9 hP : RpS nc c _) ?_
      try simp only [Act.put, List.setIfInBounds_toArray, List.set_cons_zero, List.set_cons_succ]
      clear hK
      generalize U1.alloc (.cells #[.slice A k cap, .slice (some ⟨n6, 0, none⟩) 1 1, .slice A3 m3 (cap - (k))] 28) = U2 at *
      have hcat : catE (pickR L1 [c] L3) 3 = L1 ++ [c] ++ L3 := by
        show (([] ++ L1) ++ [c]) ++ L3 = _
        rw [List.nil_append]
      have CC := concatRp_any U1.heap.size (pickR L1 [c] L3) (pickR A (some ⟨n6, 0, none⟩) A3) (pickR cap 1 (cap - (k))) U2 hcells
        (fun j hj => by
          match j, hj with
          | 0, _ => exact htk
          | 1, _ => exact he
          | 2, _ => exact hT3)
        (fun j hj => by
          match j, hj with
          | 0, _ => exact hz
          | 1, _ => exact fun e => by cases e
          | 2, _ => exact hz3)
        (by rw [hcat, List.length_append, List.length_append, List.length_singleton, HE1.out, HE3.out]; omega) hsz
      rw [hcat, HTO.out] at CC
      generalize U1.heap.size = n7 at *
      clear hcells hcat hsz htk hT3 he
      have HCC := Lib.hid CC
      clear CC
      refine anyG_step (rs := [9]) (by kernel_rfl) (by simp) ?_
      refine AllG.cons rfl (fun K hK => ?_) AllG.nil
      go_simp
      refine HCC.out.mono ?_
      rintro r U3 ⟨A', c', rfl, hS', _, hb2⟩
      replace hP := hP.below hb2
      replace hB := below_then hB hb2
      clear hb2 HCC
      try go_wp2_with fail
      refine hK.out _ _ (rpIn9 hP : RpS nc c _) ?_
      try simp only [Act.put, List.setIfInBounds_toArray, List.set_cons_zero, List.set_cons_succ]
      clear hK
      refine anyG_step (rs := [10]) (by kernel_rfl) (by simp) ?_
      refine AllG.last (n := 10) rfl (fun K hK => ?_)
      go_simp
      refine hK.out _ _ ?_
      try simp only [Act.put, List.setIfInBounds_toArray, List.set_cons_zero, List.set_cons_succ]
      clear hK
      refine anyG_done (by kernel_rfl) ?_ _
      go_wp2_with fail
      go_ret
      exact ⟨A', c', rfl, hS', hB⟩
  · have hke : k = l.length := by omega
    have hnew := mergeR_new l c (by rw [hk]; exact fun h => absurd h hlt)
    rw [hk] at hnew
    have HTO := Lib.hid (hnew.symm.trans HRM.out)
    have f1 : decide ((k : Int) < (l.length : Int)) = false := decide_eq_false (by omega)
    have f2 : decide (k < l.length) = false := decide_eq_false hlt
    have hgi : (l.length : Int) ≤ (k : Int) := by omega
    clear hnew hke hk HRM
    go_quiet (fail)
    have hB1 := below_drew hB nq
    have hP1 : rpE.In (w1.drewN nq) nc c := hP
    clear hB hP q0 q1 q2 q3 q4 q5 q6 q7 q8 f1 f2
    go_upto_region 7 with fail
    generalize w1.drewN nq = V at *
    have hB := hB1
    have hP := hP1
    clear hB1 hP1
    obtain ⟨A3, hA3⟩ : ∃ A3, (if cap = (k) then A else Option.map (fun x => x.add ((k) * 9)) A) = A3 := ⟨_, rfl⟩
    have g0 : (0 : Int) ≤ (k : Int) := by omega
    have g1 : (k : Int) ≤ (cap : Int) := by omega
    have g2 : (k : Int) ≤ (l.length : Int) := by omega
    have g3 : (0 : Int) ≤ ((k) : Int) := by omega
    have g4 : ((k) : Int) ≤ (cap : Int) := by omega
    have g5 : ((k) : Int) ≤ (l.length : Int) := by omega
    have HE1 := Lib.hid (show (l.take k).length = k by rw [List.length_take]; omega)
    have hkm : k + (l.length - (k)) ≤ 1001 := by omega
    have HE3 := Lib.hid (show (l.drop (k)).length = l.length - (k) by rw [List.length_drop])
    have htk := (hT.take k).below hB
    have hT3 := (hT.drop hlc hA3).below hB
    have hz3 := El.drop_none hz hA3
    generalize l.take k = L1 at *
    generalize l.drop (k) = L3 at *
    generalize hm3 : l.length - (k) = m3 at *
    replace hP : rpE.In V.drew nc c := hP
    replace hB := hB.drew
    replace htk : rpE.Sl V.drew A L1 := htk
    replace hT3 : rpE.Sl V.drew A3 L3 := hT3
    clear hT
    refine region_anyG (S := RpS nc c) 10 (by kernel_rfl) ?_
    generalize V.drew = U at *
    have hS : RpS nc c U := rpIn9 hP
    refine anyG_take (i := 0) (v := .slice A l.length cap) rfl (by kernel_rfl) (by kernel_rfl) (by kernel_rfl) (by kernel_rfl) (by kernel_rfl) (fun _ _ _ h => h) (Or.inl ⟨by rfl, fun w' hSw => by (obtain ⟨s0, s1, s2, s3, s4, s5, s6, s7, s8⟩ := hSw; go_simp)⟩) hS ?_
    try simp only [Act.put, List.setIfInBounds_toArray, List.set_cons_zero, List.set_cons_succ]
    refine anyG_take (i := 1) (v := .int .i64 k) rfl (by kernel_rfl) (by kernel_rfl) (by kernel_rfl) (by kernel_rfl) (by kernel_rfl) (fun _ _ _ h => h) (Or.inl ⟨by rfl, fun w' hSw => by (obtain ⟨s0, s1, s2, s3, s4, s5, s6, s7, s8⟩ := hSw; go_simp)⟩) hS ?_
    try simp only [Act.put, List.setIfInBounds_toArray, List.set_cons_zero, List.set_cons_succ]
    refine anyG_take (i := 2) (v := .slice A k cap) rfl (by kernel_rfl) (by kernel_rfl) (by kernel_rfl) (by kernel_rfl) (by kernel_rfl) (fun _ _ _ h => h) (Or.inl ⟨by rfl, fun w' hSw => by (obtain ⟨s0, s1, s2, s3, s4, s5, s6, s7, s8⟩ := hSw; go_simp)⟩) hS ?_
    try simp only [Act.put, List.setIfInBounds_toArray, List.set_cons_zero, List.set_cons_succ]
    refine anyG_take (i := 3) (v := .agg #[.int .i64 c.d, .int .i64 c.i, .int .i64 c.b, .int .i64 c.t, .int .i64 c.m, .int .i64 c.p, .int .i64 c.c, .int .i64 c.s, .int .i64 c.k]) rfl (by kernel_rfl) (by kernel_rfl) (by kernel_rfl) (by kernel_rfl) (by kernel_rfl) (fun _ _ _ h => h) (Or.inl ⟨by rfl, fun w' hSw => by (obtain ⟨s0, s1, s2, s3, s4, s5, s6, s7, s8⟩ := hSw; go_simp)⟩) hS ?_
    try simp only [Act.put, List.setIfInBounds_toArray, List.set_cons_zero, List.set_cons_succ]
    refine anyG_take (i := 5) (v := .slice A l.length cap) rfl (by kernel_rfl) (by kernel_rfl) (by kernel_rfl) (by kernel_rfl) (by kernel_rfl) (fun _ _ _ h => h) (Or.inl ⟨by rfl, fun w' hSw => by (obtain ⟨s0, s1, s2, s3, s4, s5, s6, s7, s8⟩ := hSw; go_simp)⟩) hS ?_
    try simp only [Act.put, List.setIfInBounds_toArray, List.set_cons_zero, List.set_cons_succ]
    refine anyG_take (i := 6) (v := .int .i64 (k)) rfl (by kernel_rfl) (by kernel_rfl) (by kernel_rfl) (by kernel_rfl) (by kernel_rfl) (fun _ _ _ h => h) (Or.inl ⟨by rfl, fun w' hSw => by (obtain ⟨s0, s1, s2, s3, s4, s5, s6, s7, s8⟩ := hSw; go_simp)⟩) hS ?_
    try simp only [Act.put, List.setIfInBounds_toArray, List.set_cons_zero, List.set_cons_succ]
    refine anyG_take (i := 7) (v := .slice A3 m3 (cap - (k))) rfl (by kernel_rfl) (by kernel_rfl) (by kernel_rfl) (by kernel_rfl) (by kernel_rfl) (fun _ _ _ h => h) (Or.inl ⟨by rfl, fun w' hSw => by (obtain ⟨s0, s1, s2, s3, s4, s5, s6, s7, s8⟩ := hSw; go_simp)⟩) hS ?_
    try simp only [Act.put, List.setIfInBounds_toArray, List.set_cons_zero, List.set_cons_succ]
    clear hm3
    refine anyG_step (rs := [4]) (by kernel_rfl) (by simp) ?_
    refine AllG.cons rfl (fun K hK => ?_) AllG.nil
    have he : rpE.Sl (U.alloc (.cells #[.int .i64 c.d, .int .i64 c.i, .int .i64 c.b, .int .i64 c.t, .int .i64 c.m, .int .i64 c.p, .int .i64 c.c, .int .i64 c.s, .int .i64 c.k] 23)) (some ⟨U.heap.size, 0, none⟩) [c] := (El.In.new (E := rpE) U c _ rfl).sl
    have hal := below_alloc (Below.refl U.heap.size U) (.cells #[.int .i64 c.d, .int .i64 c.i, .int .i64 c.b, .int .i64 c.t, .int .i64 c.m, .int .i64 c.p, .int .i64 c.c, .int .i64 c.s, .int .i64 c.k] 23)
    replace hP := hP.below hal
    replace htk := htk.below hal
    replace hT3 := hT3.below hal
    replace hB := below_then hB hal
    clear hal hS
    go_simp
    refine hK.out _ _ (rpIn9 hP : RpS nc c _) ?_
    try simp only [Act.put, List.setIfInBounds_toArray, List.set_cons_zero, List.set_cons_succ]
    clear hK
    generalize U.alloc (.cells #[.int .i64 c.d, .int .i64 c.i, .int .i64 c.b, .int .i64 c.t, .int .i64 c.m, .int .i64 c.p, .int .i64 c.c, .int .i64 c.s, .int .i64 c.k] 23) = U1 at *
    generalize U.heap.size = n6 at *
    have hal := below_alloc (Below.refl U1.heap.size U1) (.cells #[.slice A k cap, .slice (some ⟨n6, 0, none⟩) 1 1, .slice A3 m3 (cap - (k))] 28)
    have hcells : ∀ j, j < 3 → (U1.alloc (.cells #[.slice A k cap, .slice (some ⟨n6, 0, none⟩) 1 1, .slice A3 m3 (cap - (k))] 28)).cell? ⟨U1.heap.size, j, none⟩ = some (.slice (pickR A (some ⟨n6, 0, none⟩) A3 j) (pickR L1 [c] L3 j).length (pickR cap 1 (cap - (k)) j)) := fun j hj => by
      match j, hj with
      | 0, _ =>
        show _ = some (Value.slice A L1.length cap)
        rw [HE1.out]; go_simp
      | 1, _ => show _ = some (Value.slice (some ⟨n6, 0, none⟩) 1 1); go_simp
      | 2, _ =>
        show _ = some (Value.slice A3 L3.length (cap - (k)))
        rw [HE3.out]; go_simp
    have hsz : U1.heap.size < (U1.alloc (.cells #[.slice A k cap, .slice (some ⟨n6, 0, none⟩) 1 1, .slice A3 m3 (cap - (k))] 28)).heap.size := by rw [alloc_size]; omega
    replace hP := hP.below hal
    replace htk := htk.below hal
    replace hT3 := hT3.below hal
    replace he := he.below hal
    replace hB := below_then hB hal
    clear hal
    refine anyG_step (rs := [8]) (by kernel_rfl) (by simp) ?_
    refine AllG.cons rfl (fun K hK => ?_) AllG.nil
    go_simp
    refine hK.out _ _ (rpIn9 hP : RpS nc c _) ?_
    try simp only [Act.put, List.setIfInBounds_toArray, List.set_cons_zero, List.set_cons_succ]
    clear hK
    generalize U1.alloc (.cells #[.slice A k cap, .slice (some ⟨n6, 0, none⟩) 1 1, .slice A3 m3 (cap - (k))] 28) = U2 at *
    have hcat : catE (pickR L1 [c] L3) 3 = L1 ++ [c] ++ L3 := by
      show (([] ++ L1) ++ [c]) ++ L3 = _
      rw [List.nil_append]
    have CC := concatRp_any U1.heap.size (pickR L1 [c] L3) (pickR A (some ⟨n6, 0, none⟩) A3) (pickR cap 1 (cap - (k))) U2 hcells
      (fun j hj => by
        match j, hj with
        | 0, _ => exact htk
        | 1, _ => exact he
        | 2, _ => exact hT3)
      (fun j hj => by
        match j, hj with
        | 0, _ => exact hz
        | 1, _ => exact fun e => by cases e
        | 2, _ => exact hz3)
      (by rw [hcat, List.length_append, List.length_append, List.length_singleton, HE1.out, HE3.out]; omega) hsz
    rw [hcat, HTO.out] at CC
    generalize U1.heap.size = n7 at *
    clear hcells hcat hsz htk hT3 he
    have HCC := Lib.hid CC
    clear CC
    refine anyG_step (rs := [9]) (by kernel_rfl) (by simp) ?_
    refine AllG.cons rfl (fun K hK => ?_) AllG.nil
    go_simp
    refine HCC.out.mono ?_
    rintro r U3 ⟨A', c', rfl, hS', _, hb2⟩
    replace hP := hP.below hb2
    replace hB := below_then hB hb2
    clear hb2 HCC
    try go_wp2_with fail
    refine hK.out _ _ (rpIn9 hP : RpS nc c _) ?_
    try simp only [Act.put, List.setIfInBounds_toArray, List.set_cons_zero, List.set_cons_succ]
    clear hK
    refine anyG_step (rs := [10]) (by kernel_rfl) (by simp) ?_
    refine AllG.last (n := 10) rfl (fun K hK => ?_)
    go_simp
    refine hK.out _ _ ?_
    try simp only [Act.put, List.setIfInBounds_toArray, List.set_cons_zero, List.set_cons_succ]
    clear hK
    refine anyG_done (by kernel_rfl) ?_ _
    go_wp2_with fail
    go_ret
    exact ⟨A', c', rfl, hS', hB⟩
end Go.Proofs.Ytknoabafpgdooaa

/- What may be a tree: of the program. -/
namespace Go.Proofs.Ytknoabafpgdooaa
open Go.RowKit Tre Nam Cod

theorem okPl_five {n u : Int} {P : Prop} (h1 : ¬ 2 ≤ n → P) (h2 : 2 ≤ n → ¬ n < 64 → P) (h3 : 2 ≤ n → n < 64 → ¬ 0 ≤ u → P) (h4 : 2 ≤ n → n < 64 → 0 ≤ u → ¬ u < 64 → P) (h5 : 2 ≤ n → n < 64 → 0 ≤ u → u < 64 → P) : P := by
  by_cases a : 2 ≤ n
  · by_cases b : n < 64
    · by_cases c : 0 ≤ u
      · by_cases d : u < 64
        · exact h5 a b c d
        · exact h4 a b c d
      · exact h3 a b c
    · exact h2 a b
  · exact h1 a
theorem okPl_false {p : Pl} (h : ¬ (2 ≤ p.n ∧ p.n < 64 ∧ 0 ≤ p.u ∧ p.u < 64)) : okPl p = false := by
  unfold okPl; rw [decide_eq_false h]; rfl
theorem okPl_name {p : Pl} (h : 2 ≤ p.n ∧ p.n < 64 ∧ 0 ≤ p.u ∧ p.u < 64) : okPl p = isName (L p.s) := by
  unfold okPl; rw [decide_eq_true h]; rfl

/-- The places ahead of i may be, and rise. -/
def GoodTo (l : List Pl) (i : Nat) : Prop := ∀ k (h : k < l.length), k < i → okPl l[k] = true ∧ ∀ (h0 : 0 < k), (l[k - 1]'(by omega)).n < l[k].n
theorem goodTo_next {l : List Pl} {i : Nat} (h : GoodTo l i) (hi : i < l.length) (h1 : okPl l[i] = true) (h2 : ∀ (h0 : 0 < i), (l[i - 1]'(by omega)).n < l[i].n) : GoodTo l (i + 1) := by
  intro k hk hlt
  by_cases e : k = i
  · subst e; exact ⟨h1, h2⟩
  · exact h k hk (by omega)
theorem rising_of : ∀ {l : List Pl}, (∀ k (h : k < l.length) (h0 : 0 < k), (l[k - 1]'(by omega)).n < l[k].n) → rising l = true
  | [], _ => rfl
  | [_], _ => rfl
  | p :: q :: l, h => by
    unfold rising
    rw [Bool.and_eq_true, decide_eq_true_iff]
    refine ⟨h 1 (by simp) (by omega), rising_of (l := q :: l) fun k hk h0 => ?_⟩
    have := h (k + 1) (by simpa using hk) (by omega)
    obtain ⟨m, rfl⟩ : ∃ m, k = m + 1 := ⟨k - 1, by omega⟩
    simpa using this
def riseB (l : List Pl) : Bool := l.all okPl && rising l
theorem goodTo_all {l : List Pl} (h : GoodTo l l.length) : riseB l = true := by
  unfold riseB
  rw [Bool.and_eq_true, List.all_eq_true]
  refine ⟨fun p hp => ?_, rising_of fun k hk h0 => (h k hk hk).2 h0⟩
  obtain ⟨k, hk, rfl⟩ := List.getElem_of_mem hp
  exact (h k hk hk).1
theorem goodTo_back {l : List Pl} (h : riseB l = true) : (∀ k (h : k < l.length), okPl l[k] = true) ∧ Sorted l := by
  unfold riseB at h
  rw [Bool.and_eq_true, List.all_eq_true] at h
  exact ⟨fun k hk => h.1 _ (List.getElem_mem hk), rising_sorted h.2⟩
theorem goodTo_bad {l : List Pl} {i : Nat} (hi : i < l.length) (h : ¬ (okPl l[i] = true ∧ ∀ (h0 : 0 < i), (l[i - 1]'(by omega)).n < l[i].n)) : riseB l = false := by
  rcases e : riseB l with _ | _
  · rfl
  · obtain ⟨h1, h2⟩ := goodTo_back e
    exact absurd ⟨h1 i hi, fun h0 => h2 _ _ (by omega) hi (by omega)⟩ h

end Go.Proofs.Ytknoabafpgdooaa

/- What may be a tree: Right of both. -/
namespace Go.Proofs.Ytknoabafpgdooaa
open Go.RowKit Tre Nam Cod

def ringless (l : List Pl) : Bool := l.all fun p => !above l p.n p.u
theorem treeB_two (l : List Pl) : treeB l = (riseB l && ringless l) := by unfold treeB riseB ringless; rw [Bool.and_assoc]
def FreeTo (l : List Pl) (i : Nat) : Prop := ∀ k (h : k < l.length), k < i → above l l[k].n l[k].u = false
theorem free_next {l : List Pl} {i : Nat} (h : FreeTo l i) (hi : i < l.length) (h1 : above l l[i].n l[i].u = false) : FreeTo l (i + 1) := by
  intro k hk hlt
  by_cases e : k = i
  · subst e; exact h1
  · exact h k hk (by omega)
theorem free_all {l : List Pl} (h : FreeTo l l.length) : ringless l = true := by
  unfold ringless
  rw [List.all_eq_true]
  intro p hp
  obtain ⟨k, hk, rfl⟩ := List.getElem_of_mem hp
  rw [h k hk hk]; rfl
theorem free_bad {l : List Pl} {i : Nat} (hi : i < l.length) (h : above l l[i].n l[i].u = true) : ringless l = false := by
  rcases e : ringless l with _ | _
  · rfl
  · unfold ringless at e
    rw [List.all_eq_true] at e
    have := e _ (List.getElem_mem hi)
    rw [h] at this; exact this.symm

end Go.Proofs.Ytknoabafpgdooaa

/- The library's contract of Builder.String, laid at this program's numbers. -/
namespace Go.Proofs.Ytknoabafpgdooaa
open Go.Shelf
def lays169_ren : Go.Shelf.Ren := ⟨fun | 169 => 25 | n => n, fun | 70 => 46 | 9 => 9 | 0 => 0 | 72 => 48 | 37 => 37 | 127 => 66 | 3 => 3 | 5 => 5 | n => n, fun | n => n⟩
theorem lays169 : Go.Proofs.Lays.n169 Try.prog lays169_ren := {
  mixed := by kernel_rfl
  f169 := Try.func25.trans (congrArg some (by kernel_rfl))
  t0 := Try.underlying0
  a0 := Try.isAgg0
  z0 := Try.sizeOf0
  v0 := Try.zeroValue0
  t3 := Try.underlying3
  a3 := Try.isAgg3
  z3 := Try.sizeOf3
  v3 := Try.zeroValue3
  t9 := Try.underlying9
  a9 := Try.isAgg9
  z9 := Try.sizeOf9
  v9 := Try.zeroValue9
  t37 := Try.underlying37
  a37 := Try.isAgg37
  z37 := Try.sizeOf37
  v37 := Try.zeroValue37
  t70 := Try.underlying46
  a70 := Try.isAgg46
  z70 := Try.sizeOf46
  v70 := Try.zeroValue46
  t72 := Try.underlying48
  a72 := Try.isAgg48
  z72 := Try.sizeOf48
  v72 := Try.zeroValue48
  t127 := Try.underlying66
  a127 := Try.isAgg66
  z127 := Try.sizeOf66
  v127 := Try.zeroValue66 }
theorem builder_Extra_169 : Builder.Extra Try.prog lays169_ren := {
  sizeBuilder := by kernel_rfl
  liesBuilder := by kernel_rfl
  t5 := Try.underlying5
  a5 := Try.isAgg5
  z5 := Try.sizeOf5
  v5 := Try.zeroValue5
  infoByte := by kernel_rfl
  cellsByte := by kernel_rfl
  sizeByte := by kernel_rfl
  neB5 := by decide }
open Go.RowKit in
theorem builder_String_any (B b : Nat) (l : List UInt8) (w : World) (h : Lib.IsBuilder 48 5 B b (Lib.byteCells l) w) (hBw : B ≤ w.heap.size) :
    Calls Try.prog 25 #[.pointer (some ⟨b, 0, none⟩)] w fun e w' => e = .returned (.string ⟨l.toArray⟩) ∧ Below B w w' := Any.Builder_String_any lays169 builder_Extra_169 B b l w h hBw
end Go.Proofs.Ytknoabafpgdooaa

/- The library's Builder: what WriteString does with one of the call's own. -/
namespace Go.Proofs.Ytknoabafpgdooaa
open Go.RowKit

theorem bd_info : ∃ j, Try.prog.info? 48 = some j ∧ j.size = 2 := by
  have h : (Try.prog.info? 48).map (·.size) = some 2 := by kernel_rfl
  obtain ⟨j, hj, hjs⟩ := Option.map_eq_some_iff.1 h
  exact ⟨j, hj, hjs⟩
theorem bd_lies : liesAt Try.prog Try.prog.depth 48 (2 / Try.prog.cellsOf 48) 0 48 1 = true := by kernel_rfl
set_option maxRecDepth 100000 in
theorem ccheck_used (b : Nat) (w : World) (h0 : w.cell? ⟨b, 0, none⟩ = some (.pointer (some ⟨b, 0, none⟩))) :
    Calls Try.prog 34 #[.pointer (some ⟨b, 0, none⟩)] w fun e w' => e = .returned (.tuple #[]) ∧ w' = w := by
  obtain ⟨j, hj, _⟩ := bd_info
  go_enter Try.func34, Try.ntmps34
  go_wp2
  rw [Lib.run_neq_ptr_same w _ Try.underlying46 hj]
  go_wp2
  go_end0
  exact ⟨rfl, rfl⟩
set_option maxRecDepth 100000 in
theorem ccheck_new (b : Nat) (w : World) (h0 : w.cell? ⟨b, 0, none⟩ = some (.pointer none)) (hsh : w.shape? b = some (48, 2)) (hfz : w.frozen? ⟨b, 0, none⟩ = false) :
    Calls Try.prog 34 #[.pointer (some ⟨b, 0, none⟩)] w fun e w' => e = .returned (.tuple #[]) ∧ w' = w.setCell ⟨b, 0, none⟩ (.pointer (some ⟨b, 0, none⟩)) := by
  obtain ⟨j, hj, hjs⟩ := bd_info
  go_enter Try.func34, Try.ntmps34
  go_wp2
  rw [Lib.run_to_unsafe w ⟨b, 0, none⟩ Try.underlying46 Try.underlying72 hj (by rw [hjs]; decide) hsh (Nat.zero_lt_succ 1)]
  simp only [Result.andThen]
  rw [Oper.upon_value]
  go_wp2
  rw [run_callFunc_extern Try.func41 (by kernel_rfl) (by kernel_rfl) (by kernel_rfl) (e := Extern.AbiNoEscape.same) (by kernel_rfl)]
  rw [Lib.run_noEscape]
  simp only [Result.andThen]
  rw [Oper.upon_value]
  go_wp2
  rw [Lib.run_from_unsafe w ⟨b, 0, none⟩ Try.underlying72 Try.underlying46 hj hsh bd_lies]
  simp only [Result.andThen]
  rw [Oper.upon_value]
  go_wp2
  go_end0
  exact ⟨rfl, rfl⟩

/-- What is no row of bytes and isn't block b stays. -/
def Rest (b : Nat) (w w' : World) : Prop := ∀ k cs T fr, w.heap[k]? = some (.cells cs T fr) → k ≠ b → T ≠ 5 → w'.heap[k]? = w.heap[k]?
theorem Rest.then {b : Nat} {w w1 w2 : World} (h : Rest b w w1) (k : Rest b w1 w2) : Rest b w w2 := fun i cs T fr hi hne hT => by
  have h1 := h i cs T fr hi hne hT
  rw [k i cs T fr (h1.trans hi) hne hT, h1]
theorem Rest.cell (b : Nat) (w : World) (j : Nat) (v : Value) : Rest b w (w.setCell ⟨b, j, none⟩ v) := fun k _ _ _ _ hne _ => Below.heap_setCell _ _ _ _ hne

theorem ccheck_any (B b : Nat) (bs : List Value) (w : World) (h : Lib.IsBuilder 48 5 B b bs w) :
    Calls Try.prog 34 #[.pointer (some ⟨b, 0, none⟩)] w fun e w' => e = .returned (.tuple #[]) ∧ Lib.BuilderAt 48 5 B b (.pointer (some ⟨b, 0, none⟩)) bs w' ∧ Below B w w' ∧ Rest b w w' := by
  rcases h with h | h
  · refine (ccheck_new b w h.cell0 h.shape h.frozen0).mono ?_
    rintro e w' ⟨rfl, rfl⟩
    exact ⟨rfl, h.used _, (Below.refl B w).setCell (p := ⟨b, 0, none⟩) h.1 _, Rest.cell b w 0 _⟩
  · refine (ccheck_used b w h.cell0).mono ?_
    rintro e w' ⟨rfl, rfl⟩
    exact ⟨rfl, h, Below.refl B _, fun _ _ _ _ _ _ _ => rfl⟩

set_option maxHeartbeats 1000000 in
set_option maxRecDepth 100000 in
theorem wstr_any (B b : Nat) (bs : List Value) (s : ByteArray) (w : World) (h : Lib.IsBuilder 48 5 B b bs w) (hlen : bs.length + s.size ≤ 140737488355328) (hBw : B ≤ w.heap.size) :
    Calls Try.prog 23 #[.pointer (some ⟨b, 0, none⟩), .string s] w fun e w' => e = .returned (.tuple #[.int .i64 s.size, .nilIface]) ∧ Lib.IsBuilder 48 5 B b (bs ++ Lib.strCells s) w' ∧ Below B w w' ∧ Rest b w w' := by
  have X := builder_Extra_169
  obtain ⟨i0, hi, hz0, hz1, hz2⟩ := info_parts X.infoByte
  have C := ccheck_any B b bs w h
  go_enter Try.func23, Try.ntmps23
  go_wp2_with (go_at_call 34; (with_reducible refine C.mono ?_))
  rintro e w1 ⟨rfl, h1, hb1, hr1⟩
  obtain ⟨hB, v, hbk, hown, hne⟩ := h1
  have c0 : w1.cell? ⟨b, 0, none⟩ = some (.pointer (some ⟨b, 0, none⟩)) := by rw [Lib.cell_of_heap hbk]; rfl
  have c1 : w1.cell? ⟨b, 1, none⟩ = some v := by rw [Lib.cell_of_heap hbk]; rfl
  go_wp2_with (at_builtin; refine Lib.wpList_append_own_string _ rfl _ _ 37 9 rfl B 5 i0 Try.underlying37 Try.underlying9 hi hz0 hz1 hz2 _ _ _ rfl hown s rfl ?c3 ?c4 ?c5 ?_)
  case c3 => unfold maxLen; omega
  case c4 => omega
  case c5 => have := hb1.size; omega
  intro v' w2 hown' hgrow _
  have hlt : b < w1.heap.size := by
    rcases Nat.lt_or_ge b w1.heap.size with h' | h'
    · exact h'
    · simp [Array.getElem?_eq_none h'] at hbk
  have hb2 : w2.heap[b]? = some (.cells #[.pointer (some ⟨b, 0, none⟩), v] 48 (0, 0)) := by
    rw [hgrow.block b hlt (fun e => hne e.symm)]
    exact hbk
  have d0 : w2.cell? ⟨b, 0, none⟩ = some (.pointer (some ⟨b, 0, none⟩)) := by rw [Lib.cell_of_heap hb2]; rfl
  have d1 : w2.cell? ⟨b, 1, none⟩ = some v := by rw [Lib.cell_of_heap hb2]; rfl
  have f1 : w2.frozen? ⟨b, 1, none⟩ = false := Lib.frozen_of_heap hb2 1
  have hr2 : Rest b w1 w2 := fun k cs T fr hk hkb hT => by
    have hkl : k < w1.heap.size := by
      rcases Nat.lt_or_ge k w1.heap.size with h' | h'
      · exact h'
      · simp [Array.getElem?_eq_none h'] at hk
    exact hgrow.block k hkl (fun e => Lib.ownBlock_ne hown hk hT e.symm)
  obtain ⟨ao, n', cap, rfl⟩ : ∃ ao n' cap, v' = .slice ao n' cap := by
    rcases hown'.2 with ⟨hv, _⟩ | ⟨g, cap, cur, hv, _⟩
    · exact ⟨_, _, _, hv⟩
    · exact ⟨_, _, _, hv⟩
  go_wp2
  go_ret2
  refine ⟨rfl, Or.inr ?_, ?_, (hr1.then hr2).then (Rest.cell b w2 1 _)⟩
  · exact Lib.BuilderAt.put (T := 48) (e := 5) hB hb2 (bs' := bs ++ Lib.strCells s) (by simpa [Lib.strCells_length] using hown') X.neB5
  · exact (hb1.grown hgrow (by have := hb1.size; omega) (fun k hk => (hown.lt k hk).1)).setCell (p := ⟨b, 1, none⟩) hB _
end Go.Proofs.Ytknoabafpgdooaa

/- What Print gives, of the program and of the document. -/
namespace Go.Proofs.Ytknoabafpgdooaa
open Go.RowKit Tre Nam Cod

theorem strCells_app (a b : ByteArray) : Lib.strCells (a ++ b) = Lib.strCells a ++ Lib.strCells b := by
  unfold Lib.strCells; rw [← List.map_append]; congr 1
theorem back_L (x : ByteArray) : (⟨(L x).toArray⟩ : ByteArray) = x := by cases x; simp [L]
theorem headOf (l : List Pl) (n : Nat) (h : l.length ≤ 1000) : (bytesOf l.length).size ≤ 10 := bytesOf_le _ (by omega) (by omega)
theorem catL_take (l : List Pl) (k : Nat) (h : k < l.length) : catL (l.take (k + 1)) = catL (l.take k) ++ plBytes l[k] := by
  rw [List.take_succ_eq_append_getElem h, catL_snoc]
theorem take_le {l : List Pl} (hf : ∀ p ∈ l, Fit p) (k : Nat) : (catL (l.take k)).size ≤ 46 * l.length := by
  have h := catL_le (l.take k) (fun p hp => hf p (List.mem_of_mem_take hp))
  have : (l.take k).length ≤ l.length := by rw [List.length_take]; omega
  omega
theorem builder_new (w : World) : Lib.IsBuilder 48 5 w.heap.size w.heap.size [] (w.alloc (.cells #[.pointer none, .slice none 0 0] 48)) :=
  Or.inl ⟨Nat.le_refl _, _, heap_alloc_new w _, World.ownsRow_nil _ _ _ _, by simp [Value.ownBlock]⟩
theorem builder_below {B b : Nat} {bs : List Value} {w w' : World} (h : Lib.IsBuilder 48 5 B b bs w) (hb : Below w.heap.size w w') : Lib.IsBuilder 48 5 B b bs w' := by
  have key : ∀ p, Lib.BuilderAt 48 5 B b p bs w → Lib.BuilderAt 48 5 B b p bs w' := fun p h => by
    have hlt := h.lt
    obtain ⟨hB, v, hbk, hown, hne⟩ := h
    refine ⟨hB, v, (hb.block b hlt).trans hbk, hown.kept (row := none) ⟨hb.os, hb.tape, hb.output, hb.size, fun k hk _ => hb.block k hk⟩ ?_, hne⟩
    cases hv : v.ownBlock <;> simp
  rcases h with h | h
  · exact Or.inl (key _ h)
  · exact Or.inr (key _ h)
end Go.Proofs.Ytknoabafpgdooaa
