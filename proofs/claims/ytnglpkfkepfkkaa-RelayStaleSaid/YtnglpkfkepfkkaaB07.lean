/- Texts laid one behind the other: Ip, Iq, Ir. -/
import Derived.Test.YtnglpkfkepfkkaaB06
/- The library's Compare of two ints and of two rows of three; the program's Newer. -/
namespace Go.Proofs.Ytnglpkfkepfkkaa
open Go.RowKit Cod

theorem isNaN_any (a : Int) (w : World) : Calls Try.prog 87 #[.int .i64 a] w fun e w' => e = .returned (.bool false) ∧ w' = w := by
  go_enter Try.func87, Try.ntmps87
  go_wp2
  go_ret
  exact ⟨by simp, rfl⟩
def sgnI (a b : Int) : Int := if a < b then -1 else if b < a then 1 else 0
set_option maxRecDepth 100000 in
theorem cmpI_any (a b : Int) (w : World) : Calls Try.prog 84 #[.int .i64 a, .int .i64 b] w fun e w' => e = .returned (.int .i64 (sgnI a b)) ∧ w' = w := by
  by_cases h1 : a < b
  · have hv : sgnI a b = -1 := if_pos h1
    rw [hv]
    have f1 : decide (a < b) = true := decide_eq_true h1
    clear h1 hv
    go_enter Try.func84, Try.ntmps84
    go_wp2_with (go_at_call 87; (with_reducible refine (isNaN_any _ _).mono ?_); rintro e w1 ⟨rfl, rfl⟩)
    go_ret
    exact ⟨rfl, rfl⟩
  · by_cases h2 : b < a
    · have hv : sgnI a b = 1 := by unfold sgnI; rw [if_neg h1, if_pos h2]
      rw [hv]
      have f1 : decide (a < b) = false := decide_eq_false h1
      have f2 : decide (b < a) = true := decide_eq_true h2
      clear h1 h2 hv
      go_enter Try.func84, Try.ntmps84
      go_wp2_with (go_at_call 87; (with_reducible refine (isNaN_any _ _).mono ?_); rintro e w1 ⟨rfl, rfl⟩)
      go_ret
      exact ⟨rfl, rfl⟩
    · have hv : sgnI a b = 0 := by unfold sgnI; rw [if_neg h1, if_neg h2]
      rw [hv]
      have f1 : decide (a < b) = false := decide_eq_false h1
      have f2 : decide (b < a) = false := decide_eq_false h2
      clear h1 h2 hv
      go_enter Try.func84, Try.ntmps84
      go_wp2_with (go_at_call 87; (with_reducible refine (isNaN_any _ _).mono ?_); rintro e w1 ⟨rfl, rfl⟩)
      go_ret
      exact ⟨rfl, rfl⟩

set_option maxRecDepth 100000 in
set_option maxHeartbeats 2000000 in
/-- Rows of three numbers, compared: what the sign says is bv. -/
theorem compare3_any (nx ny c : Nat) (x y : Nat → Int) (bv : Bool) (w : World) (hx : ∀ k, k < 3 → w.cell? ⟨nx, 1 + k, none⟩ = some (.int .i64 (x k))) (hy : ∀ k, k < 3 → w.cell? ⟨ny, 1 + k, none⟩ = some (.int .i64 (y k)))
    (hlt : ∀ k, k < 3 → (∀ j, j < k → x j = y j) → x k < y k → bv = false) (hgt : ∀ k, k < 3 → (∀ j, j < k → x j = y j) → y k < x k → bv = true) (heq : (∀ j, j < 3 → x j = y j) → bv = false) :
    Calls Try.prog 80 #[.slice (some ⟨nx, 1, none⟩) 3 c, .slice (some ⟨ny, 1, none⟩) 3 c] w fun e w' => ∃ n : Int, e = .returned (.int .i64 n) ∧ Hid (decide (0 < n) = bv) ∧ w' = w := by
  have HX := Lib.hid hx
  have HY := Lib.hid hy
  have H1 := Lib.hid hlt
  have H2 := Lib.hid hgt
  have H3 := Lib.hid heq
  have HE := Lib.hid (fun (j : Nat) (hj : j < 0) => (absurd hj (Nat.not_lt_zero j) : x j = y j))
  clear hx hy hlt hgt heq
  go_enter Try.func80, Try.ntmps80
  go_wp2_with fail
  go_loopw [11] (fun i wr => ∃ k : Nat, k ≤ 3 ∧ i = .int .i64 k ∧ Hid (∀ j, j < k → x j = y j) ∧ w = wr) (fun i _ => 3 - (intOf i).toNat)
  case atStart => exact ⟨0, Nat.zero_le _, rfl, HE, rfl⟩
  case round =>
    clear HE
    obtain ⟨k, hk, rfl, HC, rfl⟩ := hrel
    by_cases hkl : k < 3
    · have c1 := HX.out k hkl
      have c2 := HY.out k hkl
      have h1 := H1.out k hkl HC.out
      have h2 := H2.out k hkl HC.out
      have hki : (k : Int) < 3 := by omega
      have HN := Lib.hid (fun (h : x k = y k) (j : Nat) (hj : j < k + 1) => (by
        by_cases e : j < k
        · exact HC.out j e
        · obtain rfl : j = k := by omega
          exact h : x j = y j))
      generalize x k = a at *
      generalize y k = b at *
      have CC := Lib.hid (fun wx => cmpI_any a b wx)
      by_cases h3 : a < b
      · have hb := h1 h3
        subst hb
        have hv : sgnI a b = -1 := if_pos h3
        rw [hv] at CC
        clear hv h1 h2 h3
        go_wp2_with (go_at_call 84; (with_reducible refine (CC.out _).mono ?_); rintro e w1 ⟨rfl, rfl⟩)
        go_ret
        exact ⟨-1, rfl, Lib.hid (by decide), rfl⟩
      · by_cases h4 : b < a
        · have hb := h2 h4
          subst hb
          have hv : sgnI a b = 1 := by unfold sgnI; rw [if_neg h3, if_pos h4]
          rw [hv] at CC
          clear hv h1 h2 h3 h4
          go_wp2_with (go_at_call 84; (with_reducible refine (CC.out _).mono ?_); rintro e w1 ⟨rfl, rfl⟩)
          go_ret
          exact ⟨1, rfl, Lib.hid (by decide), rfl⟩
        · have hv : sgnI a b = 0 := by unfold sgnI; rw [if_neg h3, if_neg h4]
          rw [hv] at CC
          have HN2 := Lib.hid (HN.out (by omega))
          clear hv h1 h2 h3 h4
          go_wp2_with (go_at_call 84; (with_reducible refine (CC.out _).mono ?_); rintro e w1 ⟨rfl, rfl⟩)
          exact ⟨⟨k + 1, by omega, by go_num, HN2, by trivial⟩, by simp [intOf]; omega⟩
    · obtain rfl : k = 3 := by omega
      have hb := H3.out HC.out
      subst hb
      go_wp2_with fail
      go_ret
      exact ⟨0, rfl, Lib.hid (by decide), rfl⟩

/-- A region's ways brought to one: the frame behind it is F of two blocks, whatever the way. -/
def MergeN (F : Nat → Nat → Act) (R : Nat → Nat → World → Prop) : Exit → Act → World → Prop
  | .normal, a, w => ∃ y n, a = F y n ∧ R y n w
  | _, _, _ => False
theorem wp_mergeN {P : Program} {c : Code} {Q : Exit → Act → World → Prop} {a : Act} {w : World} (R : Nat → Nat → World → Prop) {F : Nat → Nat → Act} (h : c.wp P (MergeN F R) a w) (k : ∀ y n w, R y n w → Q .normal (F y n) w) : c.wp P Q a w :=
  Code.wp_mono (fun e a w h => by
    cases e with
    | normal => obtain ⟨y, n, rfl, hr⟩ := h; exact k y n w hr
    | _ => exact h.elim) h
def row3 (r : Rp) : Nat → Int
  | 0 => r.i
  | 1 => r.b
  | _ => r.t
theorem row3_lt {a b : Rp} : ∀ k, k < 3 → (∀ j, j < k → row3 a j = row3 b j) → row3 a k < row3 b k → newB a b = false := fun k hk h0 h1 => by
  rw [Bool.eq_false_iff]; intro hn; rw [newB_iff] at hn
  match k, hk with
  | 0, _ => have h1 : a.i < b.i := h1; omega
  | 1, _ => have h1 : a.b < b.b := h1; have e0 : a.i = b.i := h0 0 (by decide); omega
  | 2, _ => have h1 : a.t < b.t := h1; have e0 : a.i = b.i := h0 0 (by decide); have e1 : a.b = b.b := h0 1 (by decide); omega
theorem row3_gt {a b : Rp} : ∀ k, k < 3 → (∀ j, j < k → row3 a j = row3 b j) → row3 b k < row3 a k → newB a b = true := fun k hk h0 h1 => by
  rw [newB_iff]
  match k, hk with
  | 0, _ => have h1 : b.i < a.i := h1; omega
  | 1, _ => have h1 : b.b < a.b := h1; have e0 : a.i = b.i := h0 0 (by decide); omega
  | 2, _ => have h1 : b.t < a.t := h1; have e0 : a.i = b.i := h0 0 (by decide); have e1 : a.b = b.b := h0 1 (by decide); omega
theorem row3_eq {a b : Rp} (h : ∀ j, j < 3 → row3 a j = row3 b j) : newB a b = false := by
  rw [Bool.eq_false_iff]; intro hn; rw [newB_iff] at hn
  have e0 : a.i = b.i := h 0 (by decide)
  have e1 : a.b = b.b := h 1 (by decide)
  have e2 : a.t = b.t := h 2 (by decide)
  omega
theorem row3_cells {w : World} {n : Nat} {r : Rp} (h : fdE.In w n r) : ∀ k, k < 3 → w.cell? ⟨n, 1 + k, none⟩ = some (.int .i64 (row3 r k))
  | 0, _ => h.cell 1
  | 1, _ => h.cell 2
  | 2, _ => h.cell 3
  | k + 3, h => absurd h (by omega)
set_option maxRecDepth 100000 in
set_option maxHeartbeats 4000000 in
theorem rpNewer_any (a b : Rp) (w : World) : Calls Try.prog 66 #[.agg #[.int .i64 a.d, .int .i64 a.i, .int .i64 a.b, .int .i64 a.t, .int .i64 a.m, .int .i64 a.p, .int .i64 a.c, .int .i64 a.s, .int .i64 a.k], .agg #[.int .i64 b.d, .int .i64 b.i, .int .i64 b.b, .int .i64 b.t, .int .i64 b.m, .int .i64 b.p, .int .i64 b.c, .int .i64 b.s, .int .i64 b.k]] w fun e w' => e = .returned (.bool (newB a b)) ∧ Below w.heap.size w w' := by
  have hP : rpE.In ((w.alloc (.cells #[.int .i64 a.d, .int .i64 a.i, .int .i64 a.b, .int .i64 a.t, .int .i64 a.m, .int .i64 a.p, .int .i64 a.c, .int .i64 a.s, .int .i64 a.k] 59)).alloc (.cells #[.int .i64 b.d, .int .i64 b.i, .int .i64 b.b, .int .i64 b.t, .int .i64 b.m, .int .i64 b.p, .int .i64 b.c, .int .i64 b.s, .int .i64 b.k] 59)) w.heap.size a := (El.In.new (E := rpE) w a _ rfl).alloc _
  have hQ : rpE.In ((w.alloc (.cells #[.int .i64 a.d, .int .i64 a.i, .int .i64 a.b, .int .i64 a.t, .int .i64 a.m, .int .i64 a.p, .int .i64 a.c, .int .i64 a.s, .int .i64 a.k] 59)).alloc (.cells #[.int .i64 b.d, .int .i64 b.i, .int .i64 b.b, .int .i64 b.t, .int .i64 b.m, .int .i64 b.p, .int .i64 b.c, .int .i64 b.s, .int .i64 b.k] 59)) (w.heap.size + 1) b := by
    have h := El.In.new (E := rpE) (w.alloc (.cells #[.int .i64 a.d, .int .i64 a.i, .int .i64 a.b, .int .i64 a.t, .int .i64 a.m, .int .i64 a.p, .int .i64 a.c, .int .i64 a.s, .int .i64 a.k] 59)) b _ rfl
    rw [alloc_size] at h; exact h
  have hB := below_alloc (below_alloc (Below.refl w.heap.size w) (.cells #[.int .i64 a.d, .int .i64 a.i, .int .i64 a.b, .int .i64 a.t, .int .i64 a.m, .int .i64 a.p, .int .i64 a.c, .int .i64 a.s, .int .i64 a.k] 59)) (.cells #[.int .i64 b.d, .int .i64 b.i, .int .i64 b.b, .int .i64 b.t, .int .i64 b.m, .int .i64 b.p, .int .i64 b.c, .int .i64 b.s, .int .i64 b.k] 59)
  have CA := Lib.hid (fun wx => fieldsOf_any a wx)
  have CB := Lib.hid (fun wx => fieldsOf_any b wx)
  have H1 := Lib.hid (@row3_lt a b)
  have H2 := Lib.hid (@row3_gt a b)
  have H3 := Lib.hid (@row3_eq a b)
  generalize newB a b = bv at *
  go_enter Try.func66, Try.ntmps66
  go_wp2_with fail
  generalize (w.alloc (.cells #[.int .i64 a.d, .int .i64 a.i, .int .i64 a.b, .int .i64 a.t, .int .i64 a.m, .int .i64 a.p, .int .i64 a.c, .int .i64 a.s, .int .i64 a.k] 59)).alloc (.cells #[.int .i64 b.d, .int .i64 b.i, .int .i64 b.b, .int .i64 b.t, .int .i64 b.m, .int .i64 b.p, .int .i64 b.c, .int .i64 b.s, .int .i64 b.k] 59) = W at *
  generalize w.heap.size + 1 = n2 at *
  obtain ⟨n1, h1⟩ : ∃ n, w.heap.size = n := ⟨_, rfl⟩
  rw [h1] at hP ⊢
  clear h1
  apply wp_mergeN (fun nx ny w' => fdE.In w' nx a ∧ fdE.In w' ny b ∧ Below w.heap.size w w')
  · refine region_anyG (S := fun w' => FdS n1 a w' ∧ FdS n2 b w') 7 (by kernel_rfl) ?_
    replace hP : rpE.In W.drew n1 a := hP
    replace hQ : rpE.In W.drew n2 b := hQ
    replace hB := hB.drew
    generalize W.drew = U at *
    have hS : FdS n1 a U ∧ FdS n2 b U := ⟨rpIn9 hP, rpIn9 hQ⟩
    refine anyG_take (i := 0) (v := .agg #[.int .i64 a.d, .int .i64 a.i, .int .i64 a.b, .int .i64 a.t, .int .i64 a.m, .int .i64 a.p, .int .i64 a.c, .int .i64 a.s, .int .i64 a.k]) rfl (by kernel_rfl) (by kernel_rfl) (by kernel_rfl) (by kernel_rfl) (by kernel_rfl) (fun _ _ _ h => h) (Or.inl ⟨by rfl, fun w' hSw => by (obtain ⟨⟨s0, s1, s2, s3, s4, s5, s6, s7, s8⟩, t0, t1, t2, t3, t4, t5, t6, t7, t8⟩ := hSw; go_simp)⟩) hS ?_
    try simp only [Act.put, List.setIfInBounds_toArray, List.set_cons_zero, List.set_cons_succ]
    refine anyG_take (i := 2) (v := .agg #[.int .i64 b.d, .int .i64 b.i, .int .i64 b.b, .int .i64 b.t, .int .i64 b.m, .int .i64 b.p, .int .i64 b.c, .int .i64 b.s, .int .i64 b.k]) rfl (by kernel_rfl) (by kernel_rfl) (by kernel_rfl) (by kernel_rfl) (by kernel_rfl) (fun _ _ _ h => h) (Or.inl ⟨by rfl, fun w' hSw => by (obtain ⟨⟨s0, s1, s2, s3, s4, s5, s6, s7, s8⟩, t0, t1, t2, t3, t4, t5, t6, t7, t8⟩ := hSw; go_simp)⟩) hS ?_
    try simp only [Act.put, List.setIfInBounds_toArray, List.set_cons_zero, List.set_cons_succ]
    refine anyG_step (rs := [1, 4, 5]) (by kernel_rfl) (by simp) ?_
    refine AllG.cons rfl (fun K hK => ?_) (AllG.cons rfl (fun K hK => ?_) (AllG.cons rfl (fun K hK => ?_) AllG.nil))
    · skip
      go_simp
      refine (CA.out _).mono ?_
      rintro r w' ⟨rfl, hb⟩
      replace hP := hP.below hb
      replace hQ := hQ.below hb
      try replace hX := hX.below hb
      try replace hY := hY.below hb
      replace hB := below_then hB hb
      clear hb hS
      try go_wp2_with fail
      have hS : FdS n1 a w' ∧ FdS n2 b w' := ⟨rpIn9 hP, rpIn9 hQ⟩
      refine hK.out _ _ hS ?_
      try simp only [Act.put, List.setIfInBounds_toArray, List.set_cons_zero, List.set_cons_succ]
      clear hK
      generalize w' = U at *
      refine anyG_step (rs := [3, 4, 5]) (by kernel_rfl) (by simp) ?_
      refine AllG.cons rfl (fun K hK => ?_) (AllG.cons rfl (fun K hK => ?_) (AllG.cons rfl (fun K hK => ?_) AllG.nil))
      · skip
        go_simp
        refine (CB.out _).mono ?_
        rintro r w' ⟨rfl, hb⟩
        replace hP := hP.below hb
        replace hQ := hQ.below hb
        try replace hX := hX.below hb
        try replace hY := hY.below hb
        replace hB := below_then hB hb
        clear hb hS
        try go_wp2_with fail
        have hS : FdS n1 a w' ∧ FdS n2 b w' := ⟨rpIn9 hP, rpIn9 hQ⟩
        refine hK.out _ _ hS ?_
        try simp only [Act.put, List.setIfInBounds_toArray, List.set_cons_zero, List.set_cons_succ]
        clear hK
        generalize w' = U at *
        refine anyG_step (rs := [4, 5]) (by kernel_rfl) (by simp) ?_
        refine AllG.cons rfl (fun K hK => ?_) (AllG.cons rfl (fun K hK => ?_) AllG.nil)
        · skip
          have hX : fdE.In (U.alloc (.cells #[.int .i64 0, .int .i64 0, .int .i64 0, .int .i64 0, .int .i64 0, .int .i64 0, .int .i64 0, .int .i64 0, .int .i64 0] 135)) U.heap.size zeroRp := El.In.new (E := fdE) U zeroRp #[.int .i64 0, .int .i64 0, .int .i64 0, .int .i64 0, .int .i64 0, .int .i64 0, .int .i64 0, .int .i64 0, .int .i64 0] rfl
          have hal := below_alloc (Below.refl U.heap.size U) (.cells #[.int .i64 0, .int .i64 0, .int .i64 0, .int .i64 0, .int .i64 0, .int .i64 0, .int .i64 0, .int .i64 0, .int .i64 0] 135)
          have hbx := hB.size
          have hpnx := Nat.ne_of_lt hP.lt
          have hqnx := Nat.ne_of_lt hQ.lt
          try have honx := Nat.ne_of_lt hY.lt
          replace hP := hP.below hal
          replace hQ := hQ.below hal
          try replace hY := hY.below hal
          replace hB := below_then hB hal
          clear hal
          have hS2 : FdS n1 a (U.alloc (.cells #[.int .i64 0, .int .i64 0, .int .i64 0, .int .i64 0, .int .i64 0, .int .i64 0, .int .i64 0, .int .i64 0, .int .i64 0] 135)) ∧ FdS n2 b (U.alloc (.cells #[.int .i64 0, .int .i64 0, .int .i64 0, .int .i64 0, .int .i64 0, .int .i64 0, .int .i64 0, .int .i64 0, .int .i64 0] 135)) := ⟨rpIn9 hP, rpIn9 hQ⟩
          go_simp
          refine hK.out _ _ hS2 ?_
          try simp only [Act.put, List.setIfInBounds_toArray, List.set_cons_zero, List.set_cons_succ]
          clear hK hS
          generalize U.alloc (.cells #[.int .i64 0, .int .i64 0, .int .i64 0, .int .i64 0, .int .i64 0, .int .i64 0, .int .i64 0, .int .i64 0, .int .i64 0] 135) = V at *
          generalize U.heap.size = nx at *
          have hS := hS2
          clear hS2
          generalize V = U at *
          refine anyG_step (rs := [5]) (by kernel_rfl) (by simp) ?_
          refine AllG.cons rfl (fun K hK => ?_) AllG.nil
          have hY : fdE.In (U.alloc (.cells #[.int .i64 0, .int .i64 0, .int .i64 0, .int .i64 0, .int .i64 0, .int .i64 0, .int .i64 0, .int .i64 0, .int .i64 0] 135)) U.heap.size zeroRp := El.In.new (E := fdE) U zeroRp #[.int .i64 0, .int .i64 0, .int .i64 0, .int .i64 0, .int .i64 0, .int .i64 0, .int .i64 0, .int .i64 0, .int .i64 0] rfl
          have hal := below_alloc (Below.refl U.heap.size U) (.cells #[.int .i64 0, .int .i64 0, .int .i64 0, .int .i64 0, .int .i64 0, .int .i64 0, .int .i64 0, .int .i64 0, .int .i64 0] 135)
          have hby := hB.size
          have hpny := Nat.ne_of_lt hP.lt
          have hqny := Nat.ne_of_lt hQ.lt
          try have hony := Nat.ne_of_lt hX.lt
          replace hP := hP.below hal
          replace hQ := hQ.below hal
          try replace hX := hX.below hal
          replace hB := below_then hB hal
          clear hal
          have hS2 : FdS n1 a (U.alloc (.cells #[.int .i64 0, .int .i64 0, .int .i64 0, .int .i64 0, .int .i64 0, .int .i64 0, .int .i64 0, .int .i64 0, .int .i64 0] 135)) ∧ FdS n2 b (U.alloc (.cells #[.int .i64 0, .int .i64 0, .int .i64 0, .int .i64 0, .int .i64 0, .int .i64 0, .int .i64 0, .int .i64 0, .int .i64 0] 135)) := ⟨rpIn9 hP, rpIn9 hQ⟩
          go_simp
          refine hK.out _ _ hS2 ?_
          try simp only [Act.put, List.setIfInBounds_toArray, List.set_cons_zero, List.set_cons_succ]
          clear hK hS
          generalize U.alloc (.cells #[.int .i64 0, .int .i64 0, .int .i64 0, .int .i64 0, .int .i64 0, .int .i64 0, .int .i64 0, .int .i64 0, .int .i64 0] 135) = V at *
          generalize U.heap.size = ny at *
          have hS := hS2
          clear hS2
          generalize V = U at *
          have hne : nx ≠ ny := by first | exact hony | exact fun e => honx e.symm
          refine anyG_step (rs := [6]) (by kernel_rfl) (by simp) ?_
          refine AllG.cons rfl (fun K hK => ?_) AllG.nil
          refine El.step_store fdRow rfl _ _ rfl nx a #[.int .i64 a.d, .int .i64 a.i, .int .i64 a.b, .int .i64 a.t, .int .i64 a.m, .int .i64 a.p, .int .i64 a.c, .int .i64 a.s, .int .i64 a.k] rfl rfl rfl zeroRp hX ?_
          replace hX := hX.set a #[.int .i64 a.d, .int .i64 a.i, .int .i64 a.b, .int .i64 a.t, .int .i64 a.m, .int .i64 a.p, .int .i64 a.c, .int .i64 a.s, .int .i64 a.k] rfl
          replace hY := hY.rowN nx #[.int .i64 a.d, .int .i64 a.i, .int .i64 a.b, .int .i64 a.t, .int .i64 a.m, .int .i64 a.p, .int .i64 a.c, .int .i64 a.s, .int .i64 a.k] (fun e => hne e.symm)
          replace hP := hP.rowN nx #[.int .i64 a.d, .int .i64 a.i, .int .i64 a.b, .int .i64 a.t, .int .i64 a.m, .int .i64 a.p, .int .i64 a.c, .int .i64 a.s, .int .i64 a.k] hpnx
          replace hQ := hQ.rowN nx #[.int .i64 a.d, .int .i64 a.i, .int .i64 a.b, .int .i64 a.t, .int .i64 a.m, .int .i64 a.p, .int .i64 a.c, .int .i64 a.s, .int .i64 a.k] hqnx
          replace hB := below_setRow hB hbx #[.int .i64 a.d, .int .i64 a.i, .int .i64 a.b, .int .i64 a.t, .int .i64 a.m, .int .i64 a.p, .int .i64 a.c, .int .i64 a.s, .int .i64 a.k]
          refine hK.out _ _ ⟨rpIn9 hP, rpIn9 hQ⟩ ?_
          try simp only [Act.put, List.setIfInBounds_toArray, List.set_cons_zero, List.set_cons_succ]
          clear hK hS
          refine anyG_step (rs := [7]) (by kernel_rfl) (by simp) ?_
          refine AllG.last (n := 7) rfl (fun K hK => ?_)
          refine El.step_store fdRow rfl _ _ rfl ny b #[.int .i64 b.d, .int .i64 b.i, .int .i64 b.b, .int .i64 b.t, .int .i64 b.m, .int .i64 b.p, .int .i64 b.c, .int .i64 b.s, .int .i64 b.k] rfl rfl rfl zeroRp hY ?_
          replace hY := hY.set b #[.int .i64 b.d, .int .i64 b.i, .int .i64 b.b, .int .i64 b.t, .int .i64 b.m, .int .i64 b.p, .int .i64 b.c, .int .i64 b.s, .int .i64 b.k] rfl
          replace hX := hX.rowN ny #[.int .i64 b.d, .int .i64 b.i, .int .i64 b.b, .int .i64 b.t, .int .i64 b.m, .int .i64 b.p, .int .i64 b.c, .int .i64 b.s, .int .i64 b.k] hne
          replace hB := below_setRow hB hby #[.int .i64 b.d, .int .i64 b.i, .int .i64 b.b, .int .i64 b.t, .int .i64 b.m, .int .i64 b.p, .int .i64 b.c, .int .i64 b.s, .int .i64 b.k]
          refine hK.out _ _ ?_
          clear hK
          refine anyG_done (by kernel_rfl) ?_ _
          exact ⟨nx, ny, rfl, hX, hY, hB⟩
        · skip
          have hY : fdE.In (U.alloc (.cells #[.int .i64 0, .int .i64 0, .int .i64 0, .int .i64 0, .int .i64 0, .int .i64 0, .int .i64 0, .int .i64 0, .int .i64 0] 135)) U.heap.size zeroRp := El.In.new (E := fdE) U zeroRp #[.int .i64 0, .int .i64 0, .int .i64 0, .int .i64 0, .int .i64 0, .int .i64 0, .int .i64 0, .int .i64 0, .int .i64 0] rfl
          have hal := below_alloc (Below.refl U.heap.size U) (.cells #[.int .i64 0, .int .i64 0, .int .i64 0, .int .i64 0, .int .i64 0, .int .i64 0, .int .i64 0, .int .i64 0, .int .i64 0] 135)
          have hby := hB.size
          have hpny := Nat.ne_of_lt hP.lt
          have hqny := Nat.ne_of_lt hQ.lt
          try have hony := Nat.ne_of_lt hX.lt
          replace hP := hP.below hal
          replace hQ := hQ.below hal
          try replace hX := hX.below hal
          replace hB := below_then hB hal
          clear hal
          have hS2 : FdS n1 a (U.alloc (.cells #[.int .i64 0, .int .i64 0, .int .i64 0, .int .i64 0, .int .i64 0, .int .i64 0, .int .i64 0, .int .i64 0, .int .i64 0] 135)) ∧ FdS n2 b (U.alloc (.cells #[.int .i64 0, .int .i64 0, .int .i64 0, .int .i64 0, .int .i64 0, .int .i64 0, .int .i64 0, .int .i64 0, .int .i64 0] 135)) := ⟨rpIn9 hP, rpIn9 hQ⟩
          go_simp
          refine hK.out _ _ hS2 ?_
          try simp only [Act.put, List.setIfInBounds_toArray, List.set_cons_zero, List.set_cons_succ]
          clear hK hS
          generalize U.alloc (.cells #[.int .i64 0, .int .i64 0, .int .i64 0, .int .i64 0, .int .i64 0, .int .i64 0, .int .i64 0, .int .i64 0, .int .i64 0] 135) = V at *
          generalize U.heap.size = ny at *
          have hS := hS2
          clear hS2
          generalize V = U at *
          refine anyG_step (rs := [4]) (by kernel_rfl) (by simp) ?_
          refine AllG.cons rfl (fun K hK => ?_) AllG.nil
          have hX : fdE.In (U.alloc (.cells #[.int .i64 0, .int .i64 0, .int .i64 0, .int .i64 0, .int .i64 0, .int .i64 0, .int .i64 0, .int .i64 0, .int .i64 0] 135)) U.heap.size zeroRp := El.In.new (E := fdE) U zeroRp #[.int .i64 0, .int .i64 0, .int .i64 0, .int .i64 0, .int .i64 0, .int .i64 0, .int .i64 0, .int .i64 0, .int .i64 0] rfl
          have hal := below_alloc (Below.refl U.heap.size U) (.cells #[.int .i64 0, .int .i64 0, .int .i64 0, .int .i64 0, .int .i64 0, .int .i64 0, .int .i64 0, .int .i64 0, .int .i64 0] 135)
          have hbx := hB.size
          have hpnx := Nat.ne_of_lt hP.lt
          have hqnx := Nat.ne_of_lt hQ.lt
          try have honx := Nat.ne_of_lt hY.lt
          replace hP := hP.below hal
          replace hQ := hQ.below hal
          try replace hY := hY.below hal
          replace hB := below_then hB hal
          clear hal
          have hS2 : FdS n1 a (U.alloc (.cells #[.int .i64 0, .int .i64 0, .int .i64 0, .int .i64 0, .int .i64 0, .int .i64 0, .int .i64 0, .int .i64 0, .int .i64 0] 135)) ∧ FdS n2 b (U.alloc (.cells #[.int .i64 0, .int .i64 0, .int .i64 0, .int .i64 0, .int .i64 0, .int .i64 0, .int .i64 0, .int .i64 0, .int .i64 0] 135)) := ⟨rpIn9 hP, rpIn9 hQ⟩
          go_simp
          refine hK.out _ _ hS2 ?_
          try simp only [Act.put, List.setIfInBounds_toArray, List.set_cons_zero, List.set_cons_succ]
          clear hK hS
          generalize U.alloc (.cells #[.int .i64 0, .int .i64 0, .int .i64 0, .int .i64 0, .int .i64 0, .int .i64 0, .int .i64 0, .int .i64 0, .int .i64 0] 135) = V at *
          generalize U.heap.size = nx at *
          have hS := hS2
          clear hS2
          generalize V = U at *
          have hne : nx ≠ ny := by first | exact hony | exact fun e => honx e.symm
          refine anyG_step (rs := [6]) (by kernel_rfl) (by simp) ?_
          refine AllG.cons rfl (fun K hK => ?_) AllG.nil
          refine El.step_store fdRow rfl _ _ rfl nx a #[.int .i64 a.d, .int .i64 a.i, .int .i64 a.b, .int .i64 a.t, .int .i64 a.m, .int .i64 a.p, .int .i64 a.c, .int .i64 a.s, .int .i64 a.k] rfl rfl rfl zeroRp hX ?_
          replace hX := hX.set a #[.int .i64 a.d, .int .i64 a.i, .int .i64 a.b, .int .i64 a.t, .int .i64 a.m, .int .i64 a.p, .int .i64 a.c, .int .i64 a.s, .int .i64 a.k] rfl
          replace hY := hY.rowN nx #[.int .i64 a.d, .int .i64 a.i, .int .i64 a.b, .int .i64 a.t, .int .i64 a.m, .int .i64 a.p, .int .i64 a.c, .int .i64 a.s, .int .i64 a.k] (fun e => hne e.symm)
          replace hP := hP.rowN nx #[.int .i64 a.d, .int .i64 a.i, .int .i64 a.b, .int .i64 a.t, .int .i64 a.m, .int .i64 a.p, .int .i64 a.c, .int .i64 a.s, .int .i64 a.k] hpnx
          replace hQ := hQ.rowN nx #[.int .i64 a.d, .int .i64 a.i, .int .i64 a.b, .int .i64 a.t, .int .i64 a.m, .int .i64 a.p, .int .i64 a.c, .int .i64 a.s, .int .i64 a.k] hqnx
          replace hB := below_setRow hB hbx #[.int .i64 a.d, .int .i64 a.i, .int .i64 a.b, .int .i64 a.t, .int .i64 a.m, .int .i64 a.p, .int .i64 a.c, .int .i64 a.s, .int .i64 a.k]
          refine hK.out _ _ ⟨rpIn9 hP, rpIn9 hQ⟩ ?_
          try simp only [Act.put, List.setIfInBounds_toArray, List.set_cons_zero, List.set_cons_succ]
          clear hK hS
          refine anyG_step (rs := [7]) (by kernel_rfl) (by simp) ?_
          refine AllG.last (n := 7) rfl (fun K hK => ?_)
          refine El.step_store fdRow rfl _ _ rfl ny b #[.int .i64 b.d, .int .i64 b.i, .int .i64 b.b, .int .i64 b.t, .int .i64 b.m, .int .i64 b.p, .int .i64 b.c, .int .i64 b.s, .int .i64 b.k] rfl rfl rfl zeroRp hY ?_
          replace hY := hY.set b #[.int .i64 b.d, .int .i64 b.i, .int .i64 b.b, .int .i64 b.t, .int .i64 b.m, .int .i64 b.p, .int .i64 b.c, .int .i64 b.s, .int .i64 b.k] rfl
          replace hX := hX.rowN ny #[.int .i64 b.d, .int .i64 b.i, .int .i64 b.b, .int .i64 b.t, .int .i64 b.m, .int .i64 b.p, .int .i64 b.c, .int .i64 b.s, .int .i64 b.k] hne
          replace hB := below_setRow hB hby #[.int .i64 b.d, .int .i64 b.i, .int .i64 b.b, .int .i64 b.t, .int .i64 b.m, .int .i64 b.p, .int .i64 b.c, .int .i64 b.s, .int .i64 b.k]
          refine hK.out _ _ ?_
          clear hK
          refine anyG_done (by kernel_rfl) ?_ _
          exact ⟨nx, ny, rfl, hX, hY, hB⟩
      · skip
        have hX : fdE.In (U.alloc (.cells #[.int .i64 0, .int .i64 0, .int .i64 0, .int .i64 0, .int .i64 0, .int .i64 0, .int .i64 0, .int .i64 0, .int .i64 0] 135)) U.heap.size zeroRp := El.In.new (E := fdE) U zeroRp #[.int .i64 0, .int .i64 0, .int .i64 0, .int .i64 0, .int .i64 0, .int .i64 0, .int .i64 0, .int .i64 0, .int .i64 0] rfl
        have hal := below_alloc (Below.refl U.heap.size U) (.cells #[.int .i64 0, .int .i64 0, .int .i64 0, .int .i64 0, .int .i64 0, .int .i64 0, .int .i64 0, .int .i64 0, .int .i64 0] 135)
        have hbx := hB.size
        have hpnx := Nat.ne_of_lt hP.lt
        have hqnx := Nat.ne_of_lt hQ.lt
        try have honx := Nat.ne_of_lt hY.lt
        replace hP := hP.below hal
        replace hQ := hQ.below hal
        try replace hY := hY.below hal
        replace hB := below_then hB hal
        clear hal
        have hS2 : FdS n1 a (U.alloc (.cells #[.int .i64 0, .int .i64 0, .int .i64 0, .int .i64 0, .int .i64 0, .int .i64 0, .int .i64 0, .int .i64 0, .int .i64 0] 135)) ∧ FdS n2 b (U.alloc (.cells #[.int .i64 0, .int .i64 0, .int .i64 0, .int .i64 0, .int .i64 0, .int .i64 0, .int .i64 0, .int .i64 0, .int .i64 0] 135)) := ⟨rpIn9 hP, rpIn9 hQ⟩
        go_simp
        refine hK.out _ _ hS2 ?_
        try simp only [Act.put, List.setIfInBounds_toArray, List.set_cons_zero, List.set_cons_succ]
        clear hK hS
        generalize U.alloc (.cells #[.int .i64 0, .int .i64 0, .int .i64 0, .int .i64 0, .int .i64 0, .int .i64 0, .int .i64 0, .int .i64 0, .int .i64 0] 135) = V at *
        generalize U.heap.size = nx at *
        have hS := hS2
        clear hS2
        generalize V = U at *
        refine anyG_step (rs := [3, 5]) (by kernel_rfl) (by simp) ?_
        refine AllG.cons rfl (fun K hK => ?_) (AllG.cons rfl (fun K hK => ?_) AllG.nil)
        · skip
          go_simp
          refine (CB.out _).mono ?_
          rintro r w' ⟨rfl, hb⟩
          replace hP := hP.below hb
          replace hQ := hQ.below hb
          try replace hX := hX.below hb
          try replace hY := hY.below hb
          replace hB := below_then hB hb
          clear hb hS
          try go_wp2_with fail
          have hS : FdS n1 a w' ∧ FdS n2 b w' := ⟨rpIn9 hP, rpIn9 hQ⟩
          refine hK.out _ _ hS ?_
          try simp only [Act.put, List.setIfInBounds_toArray, List.set_cons_zero, List.set_cons_succ]
          clear hK
          generalize w' = U at *
          refine anyG_step (rs := [5]) (by kernel_rfl) (by simp) ?_
          refine AllG.cons rfl (fun K hK => ?_) AllG.nil
          have hY : fdE.In (U.alloc (.cells #[.int .i64 0, .int .i64 0, .int .i64 0, .int .i64 0, .int .i64 0, .int .i64 0, .int .i64 0, .int .i64 0, .int .i64 0] 135)) U.heap.size zeroRp := El.In.new (E := fdE) U zeroRp #[.int .i64 0, .int .i64 0, .int .i64 0, .int .i64 0, .int .i64 0, .int .i64 0, .int .i64 0, .int .i64 0, .int .i64 0] rfl
          have hal := below_alloc (Below.refl U.heap.size U) (.cells #[.int .i64 0, .int .i64 0, .int .i64 0, .int .i64 0, .int .i64 0, .int .i64 0, .int .i64 0, .int .i64 0, .int .i64 0] 135)
          have hby := hB.size
          have hpny := Nat.ne_of_lt hP.lt
          have hqny := Nat.ne_of_lt hQ.lt
          try have hony := Nat.ne_of_lt hX.lt
          replace hP := hP.below hal
          replace hQ := hQ.below hal
          try replace hX := hX.below hal
          replace hB := below_then hB hal
          clear hal
          have hS2 : FdS n1 a (U.alloc (.cells #[.int .i64 0, .int .i64 0, .int .i64 0, .int .i64 0, .int .i64 0, .int .i64 0, .int .i64 0, .int .i64 0, .int .i64 0] 135)) ∧ FdS n2 b (U.alloc (.cells #[.int .i64 0, .int .i64 0, .int .i64 0, .int .i64 0, .int .i64 0, .int .i64 0, .int .i64 0, .int .i64 0, .int .i64 0] 135)) := ⟨rpIn9 hP, rpIn9 hQ⟩
          go_simp
          refine hK.out _ _ hS2 ?_
          try simp only [Act.put, List.setIfInBounds_toArray, List.set_cons_zero, List.set_cons_succ]
          clear hK hS
          generalize U.alloc (.cells #[.int .i64 0, .int .i64 0, .int .i64 0, .int .i64 0, .int .i64 0, .int .i64 0, .int .i64 0, .int .i64 0, .int .i64 0] 135) = V at *
          generalize U.heap.size = ny at *
          have hS := hS2
          clear hS2
          generalize V = U at *
          have hne : nx ≠ ny := by first | exact hony | exact fun e => honx e.symm
          refine anyG_step (rs := [6]) (by kernel_rfl) (by simp) ?_
          refine AllG.cons rfl (fun K hK => ?_) AllG.nil
          refine El.step_store fdRow rfl _ _ rfl nx a #[.int .i64 a.d, .int .i64 a.i, .int .i64 a.b, .int .i64 a.t, .int .i64 a.m, .int .i64 a.p, .int .i64 a.c, .int .i64 a.s, .int .i64 a.k] rfl rfl rfl zeroRp hX ?_
          replace hX := hX.set a #[.int .i64 a.d, .int .i64 a.i, .int .i64 a.b, .int .i64 a.t, .int .i64 a.m, .int .i64 a.p, .int .i64 a.c, .int .i64 a.s, .int .i64 a.k] rfl
          replace hY := hY.rowN nx #[.int .i64 a.d, .int .i64 a.i, .int .i64 a.b, .int .i64 a.t, .int .i64 a.m, .int .i64 a.p, .int .i64 a.c, .int .i64 a.s, .int .i64 a.k] (fun e => hne e.symm)
          replace hP := hP.rowN nx #[.int .i64 a.d, .int .i64 a.i, .int .i64 a.b, .int .i64 a.t, .int .i64 a.m, .int .i64 a.p, .int .i64 a.c, .int .i64 a.s, .int .i64 a.k] hpnx
          replace hQ := hQ.rowN nx #[.int .i64 a.d, .int .i64 a.i, .int .i64 a.b, .int .i64 a.t, .int .i64 a.m, .int .i64 a.p, .int .i64 a.c, .int .i64 a.s, .int .i64 a.k] hqnx
          replace hB := below_setRow hB hbx #[.int .i64 a.d, .int .i64 a.i, .int .i64 a.b, .int .i64 a.t, .int .i64 a.m, .int .i64 a.p, .int .i64 a.c, .int .i64 a.s, .int .i64 a.k]
          refine hK.out _ _ ⟨rpIn9 hP, rpIn9 hQ⟩ ?_
          try simp only [Act.put, List.setIfInBounds_toArray, List.set_cons_zero, List.set_cons_succ]
          clear hK hS
          refine anyG_step (rs := [7]) (by kernel_rfl) (by simp) ?_
          refine AllG.last (n := 7) rfl (fun K hK => ?_)
          refine El.step_store fdRow rfl _ _ rfl ny b #[.int .i64 b.d, .int .i64 b.i, .int .i64 b.b, .int .i64 b.t, .int .i64 b.m, .int .i64 b.p, .int .i64 b.c, .int .i64 b.s, .int .i64 b.k] rfl rfl rfl zeroRp hY ?_
          replace hY := hY.set b #[.int .i64 b.d, .int .i64 b.i, .int .i64 b.b, .int .i64 b.t, .int .i64 b.m, .int .i64 b.p, .int .i64 b.c, .int .i64 b.s, .int .i64 b.k] rfl
          replace hX := hX.rowN ny #[.int .i64 b.d, .int .i64 b.i, .int .i64 b.b, .int .i64 b.t, .int .i64 b.m, .int .i64 b.p, .int .i64 b.c, .int .i64 b.s, .int .i64 b.k] hne
          replace hB := below_setRow hB hby #[.int .i64 b.d, .int .i64 b.i, .int .i64 b.b, .int .i64 b.t, .int .i64 b.m, .int .i64 b.p, .int .i64 b.c, .int .i64 b.s, .int .i64 b.k]
          refine hK.out _ _ ?_
          clear hK
          refine anyG_done (by kernel_rfl) ?_ _
          exact ⟨nx, ny, rfl, hX, hY, hB⟩
        · skip
          have hY : fdE.In (U.alloc (.cells #[.int .i64 0, .int .i64 0, .int .i64 0, .int .i64 0, .int .i64 0, .int .i64 0, .int .i64 0, .int .i64 0, .int .i64 0] 135)) U.heap.size zeroRp := El.In.new (E := fdE) U zeroRp #[.int .i64 0, .int .i64 0, .int .i64 0, .int .i64 0, .int .i64 0, .int .i64 0, .int .i64 0, .int .i64 0, .int .i64 0] rfl
          have hal := below_alloc (Below.refl U.heap.size U) (.cells #[.int .i64 0, .int .i64 0, .int .i64 0, .int .i64 0, .int .i64 0, .int .i64 0, .int .i64 0, .int .i64 0, .int .i64 0] 135)
          have hby := hB.size
          have hpny := Nat.ne_of_lt hP.lt
          have hqny := Nat.ne_of_lt hQ.lt
          try have hony := Nat.ne_of_lt hX.lt
          replace hP := hP.below hal
          replace hQ := hQ.below hal
          try replace hX := hX.below hal
          replace hB := below_then hB hal
          clear hal
          have hS2 : FdS n1 a (U.alloc (.cells #[.int .i64 0, .int .i64 0, .int .i64 0, .int .i64 0, .int .i64 0, .int .i64 0, .int .i64 0, .int .i64 0, .int .i64 0] 135)) ∧ FdS n2 b (U.alloc (.cells #[.int .i64 0, .int .i64 0, .int .i64 0, .int .i64 0, .int .i64 0, .int .i64 0, .int .i64 0, .int .i64 0, .int .i64 0] 135)) := ⟨rpIn9 hP, rpIn9 hQ⟩
          go_simp
          refine hK.out _ _ hS2 ?_
          try simp only [Act.put, List.setIfInBounds_toArray, List.set_cons_zero, List.set_cons_succ]
          clear hK hS
          generalize U.alloc (.cells #[.int .i64 0, .int .i64 0, .int .i64 0, .int .i64 0, .int .i64 0, .int .i64 0, .int .i64 0, .int .i64 0, .int .i64 0] 135) = V at *
          generalize U.heap.size = ny at *
          have hS := hS2
          clear hS2
          generalize V = U at *
          refine anyG_step (rs := [3]) (by kernel_rfl) (by simp) ?_
          refine AllG.cons rfl (fun K hK => ?_) AllG.nil
          go_simp
          refine (CB.out _).mono ?_
          rintro r w' ⟨rfl, hb⟩
          replace hP := hP.below hb
          replace hQ := hQ.below hb
          try replace hX := hX.below hb
          try replace hY := hY.below hb
          replace hB := below_then hB hb
          clear hb hS
          try go_wp2_with fail
          have hS : FdS n1 a w' ∧ FdS n2 b w' := ⟨rpIn9 hP, rpIn9 hQ⟩
          refine hK.out _ _ hS ?_
          try simp only [Act.put, List.setIfInBounds_toArray, List.set_cons_zero, List.set_cons_succ]
          clear hK
          generalize w' = U at *
          have hne : nx ≠ ny := by first | exact hony | exact fun e => honx e.symm
          refine anyG_step (rs := [6]) (by kernel_rfl) (by simp) ?_
          refine AllG.cons rfl (fun K hK => ?_) AllG.nil
          refine El.step_store fdRow rfl _ _ rfl nx a #[.int .i64 a.d, .int .i64 a.i, .int .i64 a.b, .int .i64 a.t, .int .i64 a.m, .int .i64 a.p, .int .i64 a.c, .int .i64 a.s, .int .i64 a.k] rfl rfl rfl zeroRp hX ?_
          replace hX := hX.set a #[.int .i64 a.d, .int .i64 a.i, .int .i64 a.b, .int .i64 a.t, .int .i64 a.m, .int .i64 a.p, .int .i64 a.c, .int .i64 a.s, .int .i64 a.k] rfl
          replace hY := hY.rowN nx #[.int .i64 a.d, .int .i64 a.i, .int .i64 a.b, .int .i64 a.t, .int .i64 a.m, .int .i64 a.p, .int .i64 a.c, .int .i64 a.s, .int .i64 a.k] (fun e => hne e.symm)
          replace hP := hP.rowN nx #[.int .i64 a.d, .int .i64 a.i, .int .i64 a.b, .int .i64 a.t, .int .i64 a.m, .int .i64 a.p, .int .i64 a.c, .int .i64 a.s, .int .i64 a.k] hpnx
          replace hQ := hQ.rowN nx #[.int .i64 a.d, .int .i64 a.i, .int .i64 a.b, .int .i64 a.t, .int .i64 a.m, .int .i64 a.p, .int .i64 a.c, .int .i64 a.s, .int .i64 a.k] hqnx
          replace hB := below_setRow hB hbx #[.int .i64 a.d, .int .i64 a.i, .int .i64 a.b, .int .i64 a.t, .int .i64 a.m, .int .i64 a.p, .int .i64 a.c, .int .i64 a.s, .int .i64 a.k]
          refine hK.out _ _ ⟨rpIn9 hP, rpIn9 hQ⟩ ?_
          try simp only [Act.put, List.setIfInBounds_toArray, List.set_cons_zero, List.set_cons_succ]
          clear hK hS
          refine anyG_step (rs := [7]) (by kernel_rfl) (by simp) ?_
          refine AllG.last (n := 7) rfl (fun K hK => ?_)
          refine El.step_store fdRow rfl _ _ rfl ny b #[.int .i64 b.d, .int .i64 b.i, .int .i64 b.b, .int .i64 b.t, .int .i64 b.m, .int .i64 b.p, .int .i64 b.c, .int .i64 b.s, .int .i64 b.k] rfl rfl rfl zeroRp hY ?_
          replace hY := hY.set b #[.int .i64 b.d, .int .i64 b.i, .int .i64 b.b, .int .i64 b.t, .int .i64 b.m, .int .i64 b.p, .int .i64 b.c, .int .i64 b.s, .int .i64 b.k] rfl
          replace hX := hX.rowN ny #[.int .i64 b.d, .int .i64 b.i, .int .i64 b.b, .int .i64 b.t, .int .i64 b.m, .int .i64 b.p, .int .i64 b.c, .int .i64 b.s, .int .i64 b.k] hne
          replace hB := below_setRow hB hby #[.int .i64 b.d, .int .i64 b.i, .int .i64 b.b, .int .i64 b.t, .int .i64 b.m, .int .i64 b.p, .int .i64 b.c, .int .i64 b.s, .int .i64 b.k]
          refine hK.out _ _ ?_
          clear hK
          refine anyG_done (by kernel_rfl) ?_ _
          exact ⟨nx, ny, rfl, hX, hY, hB⟩
      · skip
        have hY : fdE.In (U.alloc (.cells #[.int .i64 0, .int .i64 0, .int .i64 0, .int .i64 0, .int .i64 0, .int .i64 0, .int .i64 0, .int .i64 0, .int .i64 0] 135)) U.heap.size zeroRp := El.In.new (E := fdE) U zeroRp #[.int .i64 0, .int .i64 0, .int .i64 0, .int .i64 0, .int .i64 0, .int .i64 0, .int .i64 0, .int .i64 0, .int .i64 0] rfl
        have hal := below_alloc (Below.refl U.heap.size U) (.cells #[.int .i64 0, .int .i64 0, .int .i64 0, .int .i64 0, .int .i64 0, .int .i64 0, .int .i64 0, .int .i64 0, .int .i64 0] 135)
        have hby := hB.size
        have hpny := Nat.ne_of_lt hP.lt
        have hqny := Nat.ne_of_lt hQ.lt
        try have hony := Nat.ne_of_lt hX.lt
        replace hP := hP.below hal
        replace hQ := hQ.below hal
        try replace hX := hX.below hal
        replace hB := below_then hB hal
        clear hal
        have hS2 : FdS n1 a (U.alloc (.cells #[.int .i64 0, .int .i64 0, .int .i64 0, .int .i64 0, .int .i64 0, .int .i64 0, .int .i64 0, .int .i64 0, .int .i64 0] 135)) ∧ FdS n2 b (U.alloc (.cells #[.int .i64 0, .int .i64 0, .int .i64 0, .int .i64 0, .int .i64 0, .int .i64 0, .int .i64 0, .int .i64 0, .int .i64 0] 135)) := ⟨rpIn9 hP, rpIn9 hQ⟩
        go_simp
        refine hK.out _ _ hS2 ?_
        try simp only [Act.put, List.setIfInBounds_toArray, List.set_cons_zero, List.set_cons_succ]
        clear hK hS
        generalize U.alloc (.cells #[.int .i64 0, .int .i64 0, .int .i64 0, .int .i64 0, .int .i64 0, .int .i64 0, .int .i64 0, .int .i64 0, .int .i64 0] 135) = V at *
        generalize U.heap.size = ny at *
        have hS := hS2
        clear hS2
        generalize V = U at *
        refine anyG_step (rs := [3, 4]) (by kernel_rfl) (by simp) ?_
        refine AllG.cons rfl (fun K hK => ?_) (AllG.cons rfl (fun K hK => ?_) AllG.nil)
        · skip
          go_simp
          refine (CB.out _).mono ?_
          rintro r w' ⟨rfl, hb⟩
          replace hP := hP.below hb
          replace hQ := hQ.below hb
          try replace hX := hX.below hb
          try replace hY := hY.below hb
          replace hB := below_then hB hb
          clear hb hS
          try go_wp2_with fail
          have hS : FdS n1 a w' ∧ FdS n2 b w' := ⟨rpIn9 hP, rpIn9 hQ⟩
          refine hK.out _ _ hS ?_
          try simp only [Act.put, List.setIfInBounds_toArray, List.set_cons_zero, List.set_cons_succ]
          clear hK
          generalize w' = U at *
          refine anyG_step (rs := [4]) (by kernel_rfl) (by simp) ?_
          refine AllG.cons rfl (fun K hK => ?_) AllG.nil
          have hX : fdE.In (U.alloc (.cells #[.int .i64 0, .int .i64 0, .int .i64 0, .int .i64 0, .int .i64 0, .int .i64 0, .int .i64 0, .int .i64 0, .int .i64 0] 135)) U.heap.size zeroRp := El.In.new (E := fdE) U zeroRp #[.int .i64 0, .int .i64 0, .int .i64 0, .int .i64 0, .int .i64 0, .int .i64 0, .int .i64 0, .int .i64 0, .int .i64 0] rfl
          have hal := below_alloc (Below.refl U.heap.size U) (.cells #[.int .i64 0, .int .i64 0, .int .i64 0, .int .i64 0, .int .i64 0, .int .i64 0, .int .i64 0, .int .i64 0, .int .i64 0] 135)
          have hbx := hB.size
          have hpnx := Nat.ne_of_lt hP.lt
          have hqnx := Nat.ne_of_lt hQ.lt
          try have honx := Nat.ne_of_lt hY.lt
          replace hP := hP.below hal
          replace hQ := hQ.below hal
          try replace hY := hY.below hal
          replace hB := below_then hB hal
          clear hal
          have hS2 : FdS n1 a (U.alloc (.cells #[.int .i64 0, .int .i64 0, .int .i64 0, .int .i64 0, .int .i64 0, .int .i64 0, .int .i64 0, .int .i64 0, .int .i64 0] 135)) ∧ FdS n2 b (U.alloc (.cells #[.int .i64 0, .int .i64 0, .int .i64 0, .int .i64 0, .int .i64 0, .int .i64 0, .int .i64 0, .int .i64 0, .int .i64 0] 135)) := ⟨rpIn9 hP, rpIn9 hQ⟩
          go_simp
          refine hK.out _ _ hS2 ?_
          try simp only [Act.put, List.setIfInBounds_toArray, List.set_cons_zero, List.set_cons_succ]
          clear hK hS
          generalize U.alloc (.cells #[.int .i64 0, .int .i64 0, .int .i64 0, .int .i64 0, .int .i64 0, .int .i64 0, .int .i64 0, .int .i64 0, .int .i64 0] 135) = V at *
          generalize U.heap.size = nx at *
          have hS := hS2
          clear hS2
          generalize V = U at *
          have hne : nx ≠ ny := by first | exact hony | exact fun e => honx e.symm
          refine anyG_step (rs := [6]) (by kernel_rfl) (by simp) ?_
          refine AllG.cons rfl (fun K hK => ?_) AllG.nil
          refine El.step_store fdRow rfl _ _ rfl nx a #[.int .i64 a.d, .int .i64 a.i, .int .i64 a.b, .int .i64 a.t, .int .i64 a.m, .int .i64 a.p, .int .i64 a.c, .int .i64 a.s, .int .i64 a.k] rfl rfl rfl zeroRp hX ?_
          replace hX := hX.set a #[.int .i64 a.d, .int .i64 a.i, .int .i64 a.b, .int .i64 a.t, .int .i64 a.m, .int .i64 a.p, .int .i64 a.c, .int .i64 a.s, .int .i64 a.k] rfl
          replace hY := hY.rowN nx #[.int .i64 a.d, .int .i64 a.i, .int .i64 a.b, .int .i64 a.t, .int .i64 a.m, .int .i64 a.p, .int .i64 a.c, .int .i64 a.s, .int .i64 a.k] (fun e => hne e.symm)
          replace hP := hP.rowN nx #[.int .i64 a.d, .int .i64 a.i, .int .i64 a.b, .int .i64 a.t, .int .i64 a.m, .int .i64 a.p, .int .i64 a.c, .int .i64 a.s, .int .i64 a.k] hpnx
          replace hQ := hQ.rowN nx #[.int .i64 a.d, .int .i64 a.i, .int .i64 a.b, .int .i64 a.t, .int .i64 a.m, .int .i64 a.p, .int .i64 a.c, .int .i64 a.s, .int .i64 a.k] hqnx
          replace hB := below_setRow hB hbx #[.int .i64 a.d, .int .i64 a.i, .int .i64 a.b, .int .i64 a.t, .int .i64 a.m, .int .i64 a.p, .int .i64 a.c, .int .i64 a.s, .int .i64 a.k]
          refine hK.out _ _ ⟨rpIn9 hP, rpIn9 hQ⟩ ?_
          try simp only [Act.put, List.setIfInBounds_toArray, List.set_cons_zero, List.set_cons_succ]
          clear hK hS
          refine anyG_step (rs := [7]) (by kernel_rfl) (by simp) ?_
          refine AllG.last (n := 7) rfl (fun K hK => ?_)
          refine El.step_store fdRow rfl _ _ rfl ny b #[.int .i64 b.d, .int .i64 b.i, .int .i64 b.b, .int .i64 b.t, .int .i64 b.m, .int .i64 b.p, .int .i64 b.c, .int .i64 b.s, .int .i64 b.k] rfl rfl rfl zeroRp hY ?_
          replace hY := hY.set b #[.int .i64 b.d, .int .i64 b.i, .int .i64 b.b, .int .i64 b.t, .int .i64 b.m, .int .i64 b.p, .int .i64 b.c, .int .i64 b.s, .int .i64 b.k] rfl
          replace hX := hX.rowN ny #[.int .i64 b.d, .int .i64 b.i, .int .i64 b.b, .int .i64 b.t, .int .i64 b.m, .int .i64 b.p, .int .i64 b.c, .int .i64 b.s, .int .i64 b.k] hne
          replace hB := below_setRow hB hby #[.int .i64 b.d, .int .i64 b.i, .int .i64 b.b, .int .i64 b.t, .int .i64 b.m, .int .i64 b.p, .int .i64 b.c, .int .i64 b.s, .int .i64 b.k]
          refine hK.out _ _ ?_
          clear hK
          refine anyG_done (by kernel_rfl) ?_ _
          exact ⟨nx, ny, rfl, hX, hY, hB⟩
        · skip
          have hX : fdE.In (U.alloc (.cells #[.int .i64 0, .int .i64 0, .int .i64 0, .int .i64 0, .int .i64 0, .int .i64 0, .int .i64 0, .int .i64 0, .int .i64 0] 135)) U.heap.size zeroRp := El.In.new (E := fdE) U zeroRp #[.int .i64 0, .int .i64 0, .int .i64 0, .int .i64 0, .int .i64 0, .int .i64 0, .int .i64 0, .int .i64 0, .int .i64 0] rfl
          have hal := below_alloc (Below.refl U.heap.size U) (.cells #[.int .i64 0, .int .i64 0, .int .i64 0, .int .i64 0, .int .i64 0, .int .i64 0, .int .i64 0, .int .i64 0, .int .i64 0] 135)
          have hbx := hB.size
          have hpnx := Nat.ne_of_lt hP.lt
          have hqnx := Nat.ne_of_lt hQ.lt
          try have honx := Nat.ne_of_lt hY.lt
          replace hP := hP.below hal
          replace hQ := hQ.below hal
          try replace hY := hY.below hal
          replace hB := below_then hB hal
          clear hal
          have hS2 : FdS n1 a (U.alloc (.cells #[.int .i64 0, .int .i64 0, .int .i64 0, .int .i64 0, .int .i64 0, .int .i64 0, .int .i64 0, .int .i64 0, .int .i64 0] 135)) ∧ FdS n2 b (U.alloc (.cells #[.int .i64 0, .int .i64 0, .int .i64 0, .int .i64 0, .int .i64 0, .int .i64 0, .int .i64 0, .int .i64 0, .int .i64 0] 135)) := ⟨rpIn9 hP, rpIn9 hQ⟩
          go_simp
          refine hK.out _ _ hS2 ?_
          try simp only [Act.put, List.setIfInBounds_toArray, List.set_cons_zero, List.set_cons_succ]
          clear hK hS
          generalize U.alloc (.cells #[.int .i64 0, .int .i64 0, .int .i64 0, .int .i64 0, .int .i64 0, .int .i64 0, .int .i64 0, .int .i64 0, .int .i64 0] 135) = V at *
          generalize U.heap.size = nx at *
          have hS := hS2
          clear hS2
          generalize V = U at *
          refine anyG_step (rs := [3]) (by kernel_rfl) (by simp) ?_
          refine AllG.cons rfl (fun K hK => ?_) AllG.nil
          go_simp
          refine (CB.out _).mono ?_
          rintro r w' ⟨rfl, hb⟩
          replace hP := hP.below hb
          replace hQ := hQ.below hb
          try replace hX := hX.below hb
          try replace hY := hY.below hb
          replace hB := below_then hB hb
          clear hb hS
          try go_wp2_with fail
          have hS : FdS n1 a w' ∧ FdS n2 b w' := ⟨rpIn9 hP, rpIn9 hQ⟩
          refine hK.out _ _ hS ?_
          try simp only [Act.put, List.setIfInBounds_toArray, List.set_cons_zero, List.set_cons_succ]
          clear hK
          generalize w' = U at *
          have hne : nx ≠ ny := by first | exact hony | exact fun e => honx e.symm
          refine anyG_step (rs := [6]) (by kernel_rfl) (by simp) ?_
          refine AllG.cons rfl (fun K hK => ?_) AllG.nil
          refine El.step_store fdRow rfl _ _ rfl nx a #[.int .i64 a.d, .int .i64 a.i, .int .i64 a.b, .int .i64 a.t, .int .i64 a.m, .int .i64 a.p, .int .i64 a.c, .int .i64 a.s, .int .i64 a.k] rfl rfl rfl zeroRp hX ?_
          replace hX := hX.set a #[.int .i64 a.d, .int .i64 a.i, .int .i64 a.b, .int .i64 a.t, .int .i64 a.m, .int .i64 a.p, .int .i64 a.c, .int .i64 a.s, .int .i64 a.k] rfl
          replace hY := hY.rowN nx #[.int .i64 a.d, .int .i64 a.i, .int .i64 a.b, .int .i64 a.t, .int .i64 a.m, .int .i64 a.p, .int .i64 a.c, .int .i64 a.s, .int .i64 a.k] (fun e => hne e.symm)
          replace hP := hP.rowN nx #[.int .i64 a.d, .int .i64 a.i, .int .i64 a.b, .int .i64 a.t, .int .i64 a.m, .int .i64 a.p, .int .i64 a.c, .int .i64 a.s, .int .i64 a.k] hpnx
          replace hQ := hQ.rowN nx #[.int .i64 a.d, .int .i64 a.i, .int .i64 a.b, .int .i64 a.t, .int .i64 a.m, .int .i64 a.p, .int .i64 a.c, .int .i64 a.s, .int .i64 a.k] hqnx
          replace hB := below_setRow hB hbx #[.int .i64 a.d, .int .i64 a.i, .int .i64 a.b, .int .i64 a.t, .int .i64 a.m, .int .i64 a.p, .int .i64 a.c, .int .i64 a.s, .int .i64 a.k]
          refine hK.out _ _ ⟨rpIn9 hP, rpIn9 hQ⟩ ?_
          try simp only [Act.put, List.setIfInBounds_toArray, List.set_cons_zero, List.set_cons_succ]
          clear hK hS
          refine anyG_step (rs := [7]) (by kernel_rfl) (by simp) ?_
          refine AllG.last (n := 7) rfl (fun K hK => ?_)
          refine El.step_store fdRow rfl _ _ rfl ny b #[.int .i64 b.d, .int .i64 b.i, .int .i64 b.b, .int .i64 b.t, .int .i64 b.m, .int .i64 b.p, .int .i64 b.c, .int .i64 b.s, .int .i64 b.k] rfl rfl rfl zeroRp hY ?_
          replace hY := hY.set b #[.int .i64 b.d, .int .i64 b.i, .int .i64 b.b, .int .i64 b.t, .int .i64 b.m, .int .i64 b.p, .int .i64 b.c, .int .i64 b.s, .int .i64 b.k] rfl
          replace hX := hX.rowN ny #[.int .i64 b.d, .int .i64 b.i, .int .i64 b.b, .int .i64 b.t, .int .i64 b.m, .int .i64 b.p, .int .i64 b.c, .int .i64 b.s, .int .i64 b.k] hne
          replace hB := below_setRow hB hby #[.int .i64 b.d, .int .i64 b.i, .int .i64 b.b, .int .i64 b.t, .int .i64 b.m, .int .i64 b.p, .int .i64 b.c, .int .i64 b.s, .int .i64 b.k]
          refine hK.out _ _ ?_
          clear hK
          refine anyG_done (by kernel_rfl) ?_ _
          exact ⟨nx, ny, rfl, hX, hY, hB⟩
    · skip
      have hX : fdE.In (U.alloc (.cells #[.int .i64 0, .int .i64 0, .int .i64 0, .int .i64 0, .int .i64 0, .int .i64 0, .int .i64 0, .int .i64 0, .int .i64 0] 135)) U.heap.size zeroRp := El.In.new (E := fdE) U zeroRp #[.int .i64 0, .int .i64 0, .int .i64 0, .int .i64 0, .int .i64 0, .int .i64 0, .int .i64 0, .int .i64 0, .int .i64 0] rfl
      have hal := below_alloc (Below.refl U.heap.size U) (.cells #[.int .i64 0, .int .i64 0, .int .i64 0, .int .i64 0, .int .i64 0, .int .i64 0, .int .i64 0, .int .i64 0, .int .i64 0] 135)
      have hbx := hB.size
      have hpnx := Nat.ne_of_lt hP.lt
      have hqnx := Nat.ne_of_lt hQ.lt
      try have honx := Nat.ne_of_lt hY.lt
      replace hP := hP.below hal
      replace hQ := hQ.below hal
      try replace hY := hY.below hal
      replace hB := below_then hB hal
      clear hal
      have hS2 : FdS n1 a (U.alloc (.cells #[.int .i64 0, .int .i64 0, .int .i64 0, .int .i64 0, .int .i64 0, .int .i64 0, .int .i64 0, .int .i64 0, .int .i64 0] 135)) ∧ FdS n2 b (U.alloc (.cells #[.int .i64 0, .int .i64 0, .int .i64 0, .int .i64 0, .int .i64 0, .int .i64 0, .int .i64 0, .int .i64 0, .int .i64 0] 135)) := ⟨rpIn9 hP, rpIn9 hQ⟩
      go_simp
      refine hK.out _ _ hS2 ?_
      try simp only [Act.put, List.setIfInBounds_toArray, List.set_cons_zero, List.set_cons_succ]
      clear hK hS
      generalize U.alloc (.cells #[.int .i64 0, .int .i64 0, .int .i64 0, .int .i64 0, .int .i64 0, .int .i64 0, .int .i64 0, .int .i64 0, .int .i64 0] 135) = V at *
      generalize U.heap.size = nx at *
      have hS := hS2
      clear hS2
      generalize V = U at *
      refine anyG_step (rs := [1, 5]) (by kernel_rfl) (by simp) ?_
      refine AllG.cons rfl (fun K hK => ?_) (AllG.cons rfl (fun K hK => ?_) AllG.nil)
      · skip
        go_simp
        refine (CA.out _).mono ?_
        rintro r w' ⟨rfl, hb⟩
        replace hP := hP.below hb
        replace hQ := hQ.below hb
        try replace hX := hX.below hb
        try replace hY := hY.below hb
        replace hB := below_then hB hb
        clear hb hS
        try go_wp2_with fail
        have hS : FdS n1 a w' ∧ FdS n2 b w' := ⟨rpIn9 hP, rpIn9 hQ⟩
        refine hK.out _ _ hS ?_
        try simp only [Act.put, List.setIfInBounds_toArray, List.set_cons_zero, List.set_cons_succ]
        clear hK
        generalize w' = U at *
        refine anyG_step (rs := [3, 5]) (by kernel_rfl) (by simp) ?_
        refine AllG.cons rfl (fun K hK => ?_) (AllG.cons rfl (fun K hK => ?_) AllG.nil)
        · skip
          go_simp
          refine (CB.out _).mono ?_
          rintro r w' ⟨rfl, hb⟩
          replace hP := hP.below hb
          replace hQ := hQ.below hb
          try replace hX := hX.below hb
          try replace hY := hY.below hb
          replace hB := below_then hB hb
          clear hb hS
          try go_wp2_with fail
          have hS : FdS n1 a w' ∧ FdS n2 b w' := ⟨rpIn9 hP, rpIn9 hQ⟩
          refine hK.out _ _ hS ?_
          try simp only [Act.put, List.setIfInBounds_toArray, List.set_cons_zero, List.set_cons_succ]
          clear hK
          generalize w' = U at *
          refine anyG_step (rs := [5]) (by kernel_rfl) (by simp) ?_
          refine AllG.cons rfl (fun K hK => ?_) AllG.nil
          have hY : fdE.In (U.alloc (.cells #[.int .i64 0, .int .i64 0, .int .i64 0, .int .i64 0, .int .i64 0, .int .i64 0, .int .i64 0, .int .i64 0, .int .i64 0] 135)) U.heap.size zeroRp := El.In.new (E := fdE) U zeroRp #[.int .i64 0, .int .i64 0, .int .i64 0, .int .i64 0, .int .i64 0, .int .i64 0, .int .i64 0, .int .i64 0, .int .i64 0] rfl
          have hal := below_alloc (Below.refl U.heap.size U) (.cells #[.int .i64 0, .int .i64 0, .int .i64 0, .int .i64 0, .int .i64 0, .int .i64 0, .int .i64 0, .int .i64 0, .int .i64 0] 135)
          have hby := hB.size
          have hpny := Nat.ne_of_lt hP.lt
          have hqny := Nat.ne_of_lt hQ.lt
          try have hony := Nat.ne_of_lt hX.lt
          replace hP := hP.below hal
          replace hQ := hQ.below hal
          try replace hX := hX.below hal
          replace hB := below_then hB hal
          clear hal
          have hS2 : FdS n1 a (U.alloc (.cells #[.int .i64 0, .int .i64 0, .int .i64 0, .int .i64 0, .int .i64 0, .int .i64 0, .int .i64 0, .int .i64 0, .int .i64 0] 135)) ∧ FdS n2 b (U.alloc (.cells #[.int .i64 0, .int .i64 0, .int .i64 0, .int .i64 0, .int .i64 0, .int .i64 0, .int .i64 0, .int .i64 0, .int .i64 0] 135)) := ⟨rpIn9 hP, rpIn9 hQ⟩
          go_simp
          refine hK.out _ _ hS2 ?_
          try simp only [Act.put, List.setIfInBounds_toArray, List.set_cons_zero, List.set_cons_succ]
          clear hK hS
          generalize U.alloc (.cells #[.int .i64 0, .int .i64 0, .int .i64 0, .int .i64 0, .int .i64 0, .int .i64 0, .int .i64 0, .int .i64 0, .int .i64 0] 135) = V at *
          generalize U.heap.size = ny at *
          have hS := hS2
          clear hS2
          generalize V = U at *
          have hne : nx ≠ ny := by first | exact hony | exact fun e => honx e.symm
          refine anyG_step (rs := [6]) (by kernel_rfl) (by simp) ?_
          refine AllG.cons rfl (fun K hK => ?_) AllG.nil
          refine El.step_store fdRow rfl _ _ rfl nx a #[.int .i64 a.d, .int .i64 a.i, .int .i64 a.b, .int .i64 a.t, .int .i64 a.m, .int .i64 a.p, .int .i64 a.c, .int .i64 a.s, .int .i64 a.k] rfl rfl rfl zeroRp hX ?_
          replace hX := hX.set a #[.int .i64 a.d, .int .i64 a.i, .int .i64 a.b, .int .i64 a.t, .int .i64 a.m, .int .i64 a.p, .int .i64 a.c, .int .i64 a.s, .int .i64 a.k] rfl
          replace hY := hY.rowN nx #[.int .i64 a.d, .int .i64 a.i, .int .i64 a.b, .int .i64 a.t, .int .i64 a.m, .int .i64 a.p, .int .i64 a.c, .int .i64 a.s, .int .i64 a.k] (fun e => hne e.symm)
          replace hP := hP.rowN nx #[.int .i64 a.d, .int .i64 a.i, .int .i64 a.b, .int .i64 a.t, .int .i64 a.m, .int .i64 a.p, .int .i64 a.c, .int .i64 a.s, .int .i64 a.k] hpnx
          replace hQ := hQ.rowN nx #[.int .i64 a.d, .int .i64 a.i, .int .i64 a.b, .int .i64 a.t, .int .i64 a.m, .int .i64 a.p, .int .i64 a.c, .int .i64 a.s, .int .i64 a.k] hqnx
          replace hB := below_setRow hB hbx #[.int .i64 a.d, .int .i64 a.i, .int .i64 a.b, .int .i64 a.t, .int .i64 a.m, .int .i64 a.p, .int .i64 a.c, .int .i64 a.s, .int .i64 a.k]
          refine hK.out _ _ ⟨rpIn9 hP, rpIn9 hQ⟩ ?_
          try simp only [Act.put, List.setIfInBounds_toArray, List.set_cons_zero, List.set_cons_succ]
          clear hK hS
          refine anyG_step (rs := [7]) (by kernel_rfl) (by simp) ?_
          refine AllG.last (n := 7) rfl (fun K hK => ?_)
          refine El.step_store fdRow rfl _ _ rfl ny b #[.int .i64 b.d, .int .i64 b.i, .int .i64 b.b, .int .i64 b.t, .int .i64 b.m, .int .i64 b.p, .int .i64 b.c, .int .i64 b.s, .int .i64 b.k] rfl rfl rfl zeroRp hY ?_
          replace hY := hY.set b #[.int .i64 b.d, .int .i64 b.i, .int .i64 b.b, .int .i64 b.t, .int .i64 b.m, .int .i64 b.p, .int .i64 b.c, .int .i64 b.s, .int .i64 b.k] rfl
          replace hX := hX.rowN ny #[.int .i64 b.d, .int .i64 b.i, .int .i64 b.b, .int .i64 b.t, .int .i64 b.m, .int .i64 b.p, .int .i64 b.c, .int .i64 b.s, .int .i64 b.k] hne
          replace hB := below_setRow hB hby #[.int .i64 b.d, .int .i64 b.i, .int .i64 b.b, .int .i64 b.t, .int .i64 b.m, .int .i64 b.p, .int .i64 b.c, .int .i64 b.s, .int .i64 b.k]
          refine hK.out _ _ ?_
          clear hK
          refine anyG_done (by kernel_rfl) ?_ _
          exact ⟨nx, ny, rfl, hX, hY, hB⟩
        · skip
          have hY : fdE.In (U.alloc (.cells #[.int .i64 0, .int .i64 0, .int .i64 0, .int .i64 0, .int .i64 0, .int .i64 0, .int .i64 0, .int .i64 0, .int .i64 0] 135)) U.heap.size zeroRp := El.In.new (E := fdE) U zeroRp #[.int .i64 0, .int .i64 0, .int .i64 0, .int .i64 0, .int .i64 0, .int .i64 0, .int .i64 0, .int .i64 0, .int .i64 0] rfl
          have hal := below_alloc (Below.refl U.heap.size U) (.cells #[.int .i64 0, .int .i64 0, .int .i64 0, .int .i64 0, .int .i64 0, .int .i64 0, .int .i64 0, .int .i64 0, .int .i64 0] 135)
          have hby := hB.size
          have hpny := Nat.ne_of_lt hP.lt
          have hqny := Nat.ne_of_lt hQ.lt
          try have hony := Nat.ne_of_lt hX.lt
          replace hP := hP.below hal
          replace hQ := hQ.below hal
          try replace hX := hX.below hal
          replace hB := below_then hB hal
          clear hal
          have hS2 : FdS n1 a (U.alloc (.cells #[.int .i64 0, .int .i64 0, .int .i64 0, .int .i64 0, .int .i64 0, .int .i64 0, .int .i64 0, .int .i64 0, .int .i64 0] 135)) ∧ FdS n2 b (U.alloc (.cells #[.int .i64 0, .int .i64 0, .int .i64 0, .int .i64 0, .int .i64 0, .int .i64 0, .int .i64 0, .int .i64 0, .int .i64 0] 135)) := ⟨rpIn9 hP, rpIn9 hQ⟩
          go_simp
          refine hK.out _ _ hS2 ?_
          try simp only [Act.put, List.setIfInBounds_toArray, List.set_cons_zero, List.set_cons_succ]
          clear hK hS
          generalize U.alloc (.cells #[.int .i64 0, .int .i64 0, .int .i64 0, .int .i64 0, .int .i64 0, .int .i64 0, .int .i64 0, .int .i64 0, .int .i64 0] 135) = V at *
          generalize U.heap.size = ny at *
          have hS := hS2
          clear hS2
          generalize V = U at *
          refine anyG_step (rs := [3]) (by kernel_rfl) (by simp) ?_
          refine AllG.cons rfl (fun K hK => ?_) AllG.nil
          go_simp
          refine (CB.out _).mono ?_
          rintro r w' ⟨rfl, hb⟩
          replace hP := hP.below hb
          replace hQ := hQ.below hb
          try replace hX := hX.below hb
          try replace hY := hY.below hb
          replace hB := below_then hB hb
          clear hb hS
          try go_wp2_with fail
          have hS : FdS n1 a w' ∧ FdS n2 b w' := ⟨rpIn9 hP, rpIn9 hQ⟩
          refine hK.out _ _ hS ?_
          try simp only [Act.put, List.setIfInBounds_toArray, List.set_cons_zero, List.set_cons_succ]
          clear hK
          generalize w' = U at *
          have hne : nx ≠ ny := by first | exact hony | exact fun e => honx e.symm
          refine anyG_step (rs := [6]) (by kernel_rfl) (by simp) ?_
          refine AllG.cons rfl (fun K hK => ?_) AllG.nil
          refine El.step_store fdRow rfl _ _ rfl nx a #[.int .i64 a.d, .int .i64 a.i, .int .i64 a.b, .int .i64 a.t, .int .i64 a.m, .int .i64 a.p, .int .i64 a.c, .int .i64 a.s, .int .i64 a.k] rfl rfl rfl zeroRp hX ?_
          replace hX := hX.set a #[.int .i64 a.d, .int .i64 a.i, .int .i64 a.b, .int .i64 a.t, .int .i64 a.m, .int .i64 a.p, .int .i64 a.c, .int .i64 a.s, .int .i64 a.k] rfl
          replace hY := hY.rowN nx #[.int .i64 a.d, .int .i64 a.i, .int .i64 a.b, .int .i64 a.t, .int .i64 a.m, .int .i64 a.p, .int .i64 a.c, .int .i64 a.s, .int .i64 a.k] (fun e => hne e.symm)
          replace hP := hP.rowN nx #[.int .i64 a.d, .int .i64 a.i, .int .i64 a.b, .int .i64 a.t, .int .i64 a.m, .int .i64 a.p, .int .i64 a.c, .int .i64 a.s, .int .i64 a.k] hpnx
          replace hQ := hQ.rowN nx #[.int .i64 a.d, .int .i64 a.i, .int .i64 a.b, .int .i64 a.t, .int .i64 a.m, .int .i64 a.p, .int .i64 a.c, .int .i64 a.s, .int .i64 a.k] hqnx
          replace hB := below_setRow hB hbx #[.int .i64 a.d, .int .i64 a.i, .int .i64 a.b, .int .i64 a.t, .int .i64 a.m, .int .i64 a.p, .int .i64 a.c, .int .i64 a.s, .int .i64 a.k]
          refine hK.out _ _ ⟨rpIn9 hP, rpIn9 hQ⟩ ?_
          try simp only [Act.put, List.setIfInBounds_toArray, List.set_cons_zero, List.set_cons_succ]
          clear hK hS
          refine anyG_step (rs := [7]) (by kernel_rfl) (by simp) ?_
          refine AllG.last (n := 7) rfl (fun K hK => ?_)
          refine El.step_store fdRow rfl _ _ rfl ny b #[.int .i64 b.d, .int .i64 b.i, .int .i64 b.b, .int .i64 b.t, .int .i64 b.m, .int .i64 b.p, .int .i64 b.c, .int .i64 b.s, .int .i64 b.k] rfl rfl rfl zeroRp hY ?_
          replace hY := hY.set b #[.int .i64 b.d, .int .i64 b.i, .int .i64 b.b, .int .i64 b.t, .int .i64 b.m, .int .i64 b.p, .int .i64 b.c, .int .i64 b.s, .int .i64 b.k] rfl
          replace hX := hX.rowN ny #[.int .i64 b.d, .int .i64 b.i, .int .i64 b.b, .int .i64 b.t, .int .i64 b.m, .int .i64 b.p, .int .i64 b.c, .int .i64 b.s, .int .i64 b.k] hne
          replace hB := below_setRow hB hby #[.int .i64 b.d, .int .i64 b.i, .int .i64 b.b, .int .i64 b.t, .int .i64 b.m, .int .i64 b.p, .int .i64 b.c, .int .i64 b.s, .int .i64 b.k]
          refine hK.out _ _ ?_
          clear hK
          refine anyG_done (by kernel_rfl) ?_ _
          exact ⟨nx, ny, rfl, hX, hY, hB⟩
      · skip
        have hY : fdE.In (U.alloc (.cells #[.int .i64 0, .int .i64 0, .int .i64 0, .int .i64 0, .int .i64 0, .int .i64 0, .int .i64 0, .int .i64 0, .int .i64 0] 135)) U.heap.size zeroRp := El.In.new (E := fdE) U zeroRp #[.int .i64 0, .int .i64 0, .int .i64 0, .int .i64 0, .int .i64 0, .int .i64 0, .int .i64 0, .int .i64 0, .int .i64 0] rfl
        have hal := below_alloc (Below.refl U.heap.size U) (.cells #[.int .i64 0, .int .i64 0, .int .i64 0, .int .i64 0, .int .i64 0, .int .i64 0, .int .i64 0, .int .i64 0, .int .i64 0] 135)
        have hby := hB.size
        have hpny := Nat.ne_of_lt hP.lt
        have hqny := Nat.ne_of_lt hQ.lt
        try have hony := Nat.ne_of_lt hX.lt
        replace hP := hP.below hal
        replace hQ := hQ.below hal
        try replace hX := hX.below hal
        replace hB := below_then hB hal
        clear hal
        have hS2 : FdS n1 a (U.alloc (.cells #[.int .i64 0, .int .i64 0, .int .i64 0, .int .i64 0, .int .i64 0, .int .i64 0, .int .i64 0, .int .i64 0, .int .i64 0] 135)) ∧ FdS n2 b (U.alloc (.cells #[.int .i64 0, .int .i64 0, .int .i64 0, .int .i64 0, .int .i64 0, .int .i64 0, .int .i64 0, .int .i64 0, .int .i64 0] 135)) := ⟨rpIn9 hP, rpIn9 hQ⟩
        go_simp
        refine hK.out _ _ hS2 ?_
        try simp only [Act.put, List.setIfInBounds_toArray, List.set_cons_zero, List.set_cons_succ]
        clear hK hS
        generalize U.alloc (.cells #[.int .i64 0, .int .i64 0, .int .i64 0, .int .i64 0, .int .i64 0, .int .i64 0, .int .i64 0, .int .i64 0, .int .i64 0] 135) = V at *
        generalize U.heap.size = ny at *
        have hS := hS2
        clear hS2
        generalize V = U at *
        refine anyG_step (rs := [1]) (by kernel_rfl) (by simp) ?_
        refine AllG.cons rfl (fun K hK => ?_) AllG.nil
        go_simp
        refine (CA.out _).mono ?_
        rintro r w' ⟨rfl, hb⟩
        replace hP := hP.below hb
        replace hQ := hQ.below hb
        try replace hX := hX.below hb
        try replace hY := hY.below hb
        replace hB := below_then hB hb
        clear hb hS
        try go_wp2_with fail
        have hS : FdS n1 a w' ∧ FdS n2 b w' := ⟨rpIn9 hP, rpIn9 hQ⟩
        refine hK.out _ _ hS ?_
        try simp only [Act.put, List.setIfInBounds_toArray, List.set_cons_zero, List.set_cons_succ]
        clear hK
        generalize w' = U at *
        refine anyG_step (rs := [3]) (by kernel_rfl) (by simp) ?_
        refine AllG.cons rfl (fun K hK => ?_) AllG.nil
        go_simp
        refine (CB.out _).mono ?_
        rintro r w' ⟨rfl, hb⟩
        replace hP := hP.below hb
        replace hQ := hQ.below hb
        try replace hX := hX.below hb
        try replace hY := hY.below hb
        replace hB := below_then hB hb
        clear hb hS
        try go_wp2_with fail
        have hS : FdS n1 a w' ∧ FdS n2 b w' := ⟨rpIn9 hP, rpIn9 hQ⟩
        refine hK.out _ _ hS ?_
        try simp only [Act.put, List.setIfInBounds_toArray, List.set_cons_zero, List.set_cons_succ]
        clear hK
        generalize w' = U at *
        have hne : nx ≠ ny := by first | exact hony | exact fun e => honx e.symm
        refine anyG_step (rs := [6]) (by kernel_rfl) (by simp) ?_
        refine AllG.cons rfl (fun K hK => ?_) AllG.nil
        refine El.step_store fdRow rfl _ _ rfl nx a #[.int .i64 a.d, .int .i64 a.i, .int .i64 a.b, .int .i64 a.t, .int .i64 a.m, .int .i64 a.p, .int .i64 a.c, .int .i64 a.s, .int .i64 a.k] rfl rfl rfl zeroRp hX ?_
        replace hX := hX.set a #[.int .i64 a.d, .int .i64 a.i, .int .i64 a.b, .int .i64 a.t, .int .i64 a.m, .int .i64 a.p, .int .i64 a.c, .int .i64 a.s, .int .i64 a.k] rfl
        replace hY := hY.rowN nx #[.int .i64 a.d, .int .i64 a.i, .int .i64 a.b, .int .i64 a.t, .int .i64 a.m, .int .i64 a.p, .int .i64 a.c, .int .i64 a.s, .int .i64 a.k] (fun e => hne e.symm)
        replace hP := hP.rowN nx #[.int .i64 a.d, .int .i64 a.i, .int .i64 a.b, .int .i64 a.t, .int .i64 a.m, .int .i64 a.p, .int .i64 a.c, .int .i64 a.s, .int .i64 a.k] hpnx
        replace hQ := hQ.rowN nx #[.int .i64 a.d, .int .i64 a.i, .int .i64 a.b, .int .i64 a.t, .int .i64 a.m, .int .i64 a.p, .int .i64 a.c, .int .i64 a.s, .int .i64 a.k] hqnx
        replace hB := below_setRow hB hbx #[.int .i64 a.d, .int .i64 a.i, .int .i64 a.b, .int .i64 a.t, .int .i64 a.m, .int .i64 a.p, .int .i64 a.c, .int .i64 a.s, .int .i64 a.k]
        refine hK.out _ _ ⟨rpIn9 hP, rpIn9 hQ⟩ ?_
        try simp only [Act.put, List.setIfInBounds_toArray, List.set_cons_zero, List.set_cons_succ]
        clear hK hS
        refine anyG_step (rs := [7]) (by kernel_rfl) (by simp) ?_
        refine AllG.last (n := 7) rfl (fun K hK => ?_)
        refine El.step_store fdRow rfl _ _ rfl ny b #[.int .i64 b.d, .int .i64 b.i, .int .i64 b.b, .int .i64 b.t, .int .i64 b.m, .int .i64 b.p, .int .i64 b.c, .int .i64 b.s, .int .i64 b.k] rfl rfl rfl zeroRp hY ?_
        replace hY := hY.set b #[.int .i64 b.d, .int .i64 b.i, .int .i64 b.b, .int .i64 b.t, .int .i64 b.m, .int .i64 b.p, .int .i64 b.c, .int .i64 b.s, .int .i64 b.k] rfl
        replace hX := hX.rowN ny #[.int .i64 b.d, .int .i64 b.i, .int .i64 b.b, .int .i64 b.t, .int .i64 b.m, .int .i64 b.p, .int .i64 b.c, .int .i64 b.s, .int .i64 b.k] hne
        replace hB := below_setRow hB hby #[.int .i64 b.d, .int .i64 b.i, .int .i64 b.b, .int .i64 b.t, .int .i64 b.m, .int .i64 b.p, .int .i64 b.c, .int .i64 b.s, .int .i64 b.k]
        refine hK.out _ _ ?_
        clear hK
        refine anyG_done (by kernel_rfl) ?_ _
        exact ⟨nx, ny, rfl, hX, hY, hB⟩
    · skip
      have hY : fdE.In (U.alloc (.cells #[.int .i64 0, .int .i64 0, .int .i64 0, .int .i64 0, .int .i64 0, .int .i64 0, .int .i64 0, .int .i64 0, .int .i64 0] 135)) U.heap.size zeroRp := El.In.new (E := fdE) U zeroRp #[.int .i64 0, .int .i64 0, .int .i64 0, .int .i64 0, .int .i64 0, .int .i64 0, .int .i64 0, .int .i64 0, .int .i64 0] rfl
      have hal := below_alloc (Below.refl U.heap.size U) (.cells #[.int .i64 0, .int .i64 0, .int .i64 0, .int .i64 0, .int .i64 0, .int .i64 0, .int .i64 0, .int .i64 0, .int .i64 0] 135)
      have hby := hB.size
      have hpny := Nat.ne_of_lt hP.lt
      have hqny := Nat.ne_of_lt hQ.lt
      try have hony := Nat.ne_of_lt hX.lt
      replace hP := hP.below hal
      replace hQ := hQ.below hal
      try replace hX := hX.below hal
      replace hB := below_then hB hal
      clear hal
      have hS2 : FdS n1 a (U.alloc (.cells #[.int .i64 0, .int .i64 0, .int .i64 0, .int .i64 0, .int .i64 0, .int .i64 0, .int .i64 0, .int .i64 0, .int .i64 0] 135)) ∧ FdS n2 b (U.alloc (.cells #[.int .i64 0, .int .i64 0, .int .i64 0, .int .i64 0, .int .i64 0, .int .i64 0, .int .i64 0, .int .i64 0, .int .i64 0] 135)) := ⟨rpIn9 hP, rpIn9 hQ⟩
      go_simp
      refine hK.out _ _ hS2 ?_
      try simp only [Act.put, List.setIfInBounds_toArray, List.set_cons_zero, List.set_cons_succ]
      clear hK hS
      generalize U.alloc (.cells #[.int .i64 0, .int .i64 0, .int .i64 0, .int .i64 0, .int .i64 0, .int .i64 0, .int .i64 0, .int .i64 0, .int .i64 0] 135) = V at *
      generalize U.heap.size = ny at *
      have hS := hS2
      clear hS2
      generalize V = U at *
      refine anyG_step (rs := [1, 4]) (by kernel_rfl) (by simp) ?_
      refine AllG.cons rfl (fun K hK => ?_) (AllG.cons rfl (fun K hK => ?_) AllG.nil)
      · skip
        go_simp
        refine (CA.out _).mono ?_
        rintro r w' ⟨rfl, hb⟩
        replace hP := hP.below hb
        replace hQ := hQ.below hb
        try replace hX := hX.below hb
        try replace hY := hY.below hb
        replace hB := below_then hB hb
        clear hb hS
        try go_wp2_with fail
        have hS : FdS n1 a w' ∧ FdS n2 b w' := ⟨rpIn9 hP, rpIn9 hQ⟩
        refine hK.out _ _ hS ?_
        try simp only [Act.put, List.setIfInBounds_toArray, List.set_cons_zero, List.set_cons_succ]
        clear hK
        generalize w' = U at *
        refine anyG_step (rs := [3, 4]) (by kernel_rfl) (by simp) ?_
        refine AllG.cons rfl (fun K hK => ?_) (AllG.cons rfl (fun K hK => ?_) AllG.nil)
        · skip
          go_simp
          refine (CB.out _).mono ?_
          rintro r w' ⟨rfl, hb⟩
          replace hP := hP.below hb
          replace hQ := hQ.below hb
          try replace hX := hX.below hb
          try replace hY := hY.below hb
          replace hB := below_then hB hb
          clear hb hS
          try go_wp2_with fail
          have hS : FdS n1 a w' ∧ FdS n2 b w' := ⟨rpIn9 hP, rpIn9 hQ⟩
          refine hK.out _ _ hS ?_
          try simp only [Act.put, List.setIfInBounds_toArray, List.set_cons_zero, List.set_cons_succ]
          clear hK
          generalize w' = U at *
          refine anyG_step (rs := [4]) (by kernel_rfl) (by simp) ?_
          refine AllG.cons rfl (fun K hK => ?_) AllG.nil
          have hX : fdE.In (U.alloc (.cells #[.int .i64 0, .int .i64 0, .int .i64 0, .int .i64 0, .int .i64 0, .int .i64 0, .int .i64 0, .int .i64 0, .int .i64 0] 135)) U.heap.size zeroRp := El.In.new (E := fdE) U zeroRp #[.int .i64 0, .int .i64 0, .int .i64 0, .int .i64 0, .int .i64 0, .int .i64 0, .int .i64 0, .int .i64 0, .int .i64 0] rfl
          have hal := below_alloc (Below.refl U.heap.size U) (.cells #[.int .i64 0, .int .i64 0, .int .i64 0, .int .i64 0, .int .i64 0, .int .i64 0, .int .i64 0, .int .i64 0, .int .i64 0] 135)
          have hbx := hB.size
          have hpnx := Nat.ne_of_lt hP.lt
          have hqnx := Nat.ne_of_lt hQ.lt
          try have honx := Nat.ne_of_lt hY.lt
          replace hP := hP.below hal
          replace hQ := hQ.below hal
          try replace hY := hY.below hal
          replace hB := below_then hB hal
          clear hal
          have hS2 : FdS n1 a (U.alloc (.cells #[.int .i64 0, .int .i64 0, .int .i64 0, .int .i64 0, .int .i64 0, .int .i64 0, .int .i64 0, .int .i64 0, .int .i64 0] 135)) ∧ FdS n2 b (U.alloc (.cells #[.int .i64 0, .int .i64 0, .int .i64 0, .int .i64 0, .int .i64 0, .int .i64 0, .int .i64 0, .int .i64 0, .int .i64 0] 135)) := ⟨rpIn9 hP, rpIn9 hQ⟩
          go_simp
          refine hK.out _ _ hS2 ?_
          try simp only [Act.put, List.setIfInBounds_toArray, List.set_cons_zero, List.set_cons_succ]
          clear hK hS
          generalize U.alloc (.cells #[.int .i64 0, .int .i64 0, .int .i64 0, .int .i64 0, .int .i64 0, .int .i64 0, .int .i64 0, .int .i64 0, .int .i64 0] 135) = V at *
          generalize U.heap.size = nx at *
          have hS := hS2
          clear hS2
          generalize V = U at *
          have hne : nx ≠ ny := by first | exact hony | exact fun e => honx e.symm
          refine anyG_step (rs := [6]) (by kernel_rfl) (by simp) ?_
          refine AllG.cons rfl (fun K hK => ?_) AllG.nil
          refine El.step_store fdRow rfl _ _ rfl nx a #[.int .i64 a.d, .int .i64 a.i, .int .i64 a.b, .int .i64 a.t, .int .i64 a.m, .int .i64 a.p, .int .i64 a.c, .int .i64 a.s, .int .i64 a.k] rfl rfl rfl zeroRp hX ?_
          replace hX := hX.set a #[.int .i64 a.d, .int .i64 a.i, .int .i64 a.b, .int .i64 a.t, .int .i64 a.m, .int .i64 a.p, .int .i64 a.c, .int .i64 a.s, .int .i64 a.k] rfl
          replace hY := hY.rowN nx #[.int .i64 a.d, .int .i64 a.i, .int .i64 a.b, .int .i64 a.t, .int .i64 a.m, .int .i64 a.p, .int .i64 a.c, .int .i64 a.s, .int .i64 a.k] (fun e => hne e.symm)
          replace hP := hP.rowN nx #[.int .i64 a.d, .int .i64 a.i, .int .i64 a.b, .int .i64 a.t, .int .i64 a.m, .int .i64 a.p, .int .i64 a.c, .int .i64 a.s, .int .i64 a.k] hpnx
          replace hQ := hQ.rowN nx #[.int .i64 a.d, .int .i64 a.i, .int .i64 a.b, .int .i64 a.t, .int .i64 a.m, .int .i64 a.p, .int .i64 a.c, .int .i64 a.s, .int .i64 a.k] hqnx
          replace hB := below_setRow hB hbx #[.int .i64 a.d, .int .i64 a.i, .int .i64 a.b, .int .i64 a.t, .int .i64 a.m, .int .i64 a.p, .int .i64 a.c, .int .i64 a.s, .int .i64 a.k]
          refine hK.out _ _ ⟨rpIn9 hP, rpIn9 hQ⟩ ?_
          try simp only [Act.put, List.setIfInBounds_toArray, List.set_cons_zero, List.set_cons_succ]
          clear hK hS
          refine anyG_step (rs := [7]) (by kernel_rfl) (by simp) ?_
          refine AllG.last (n := 7) rfl (fun K hK => ?_)
          refine El.step_store fdRow rfl _ _ rfl ny b #[.int .i64 b.d, .int .i64 b.i, .int .i64 b.b, .int .i64 b.t, .int .i64 b.m, .int .i64 b.p, .int .i64 b.c, .int .i64 b.s, .int .i64 b.k] rfl rfl rfl zeroRp hY ?_
          replace hY := hY.set b #[.int .i64 b.d, .int .i64 b.i, .int .i64 b.b, .int .i64 b.t, .int .i64 b.m, .int .i64 b.p, .int .i64 b.c, .int .i64 b.s, .int .i64 b.k] rfl
          replace hX := hX.rowN ny #[.int .i64 b.d, .int .i64 b.i, .int .i64 b.b, .int .i64 b.t, .int .i64 b.m, .int .i64 b.p, .int .i64 b.c, .int .i64 b.s, .int .i64 b.k] hne
          replace hB := below_setRow hB hby #[.int .i64 b.d, .int .i64 b.i, .int .i64 b.b, .int .i64 b.t, .int .i64 b.m, .int .i64 b.p, .int .i64 b.c, .int .i64 b.s, .int .i64 b.k]
          refine hK.out _ _ ?_
          clear hK
          refine anyG_done (by kernel_rfl) ?_ _
          exact ⟨nx, ny, rfl, hX, hY, hB⟩
        · skip
          have hX : fdE.In (U.alloc (.cells #[.int .i64 0, .int .i64 0, .int .i64 0, .int .i64 0, .int .i64 0, .int .i64 0, .int .i64 0, .int .i64 0, .int .i64 0] 135)) U.heap.size zeroRp := El.In.new (E := fdE) U zeroRp #[.int .i64 0, .int .i64 0, .int .i64 0, .int .i64 0, .int .i64 0, .int .i64 0, .int .i64 0, .int .i64 0, .int .i64 0] rfl
          have hal := below_alloc (Below.refl U.heap.size U) (.cells #[.int .i64 0, .int .i64 0, .int .i64 0, .int .i64 0, .int .i64 0, .int .i64 0, .int .i64 0, .int .i64 0, .int .i64 0] 135)
          have hbx := hB.size
          have hpnx := Nat.ne_of_lt hP.lt
          have hqnx := Nat.ne_of_lt hQ.lt
          try have honx := Nat.ne_of_lt hY.lt
          replace hP := hP.below hal
          replace hQ := hQ.below hal
          try replace hY := hY.below hal
          replace hB := below_then hB hal
          clear hal
          have hS2 : FdS n1 a (U.alloc (.cells #[.int .i64 0, .int .i64 0, .int .i64 0, .int .i64 0, .int .i64 0, .int .i64 0, .int .i64 0, .int .i64 0, .int .i64 0] 135)) ∧ FdS n2 b (U.alloc (.cells #[.int .i64 0, .int .i64 0, .int .i64 0, .int .i64 0, .int .i64 0, .int .i64 0, .int .i64 0, .int .i64 0, .int .i64 0] 135)) := ⟨rpIn9 hP, rpIn9 hQ⟩
          go_simp
          refine hK.out _ _ hS2 ?_
          try simp only [Act.put, List.setIfInBounds_toArray, List.set_cons_zero, List.set_cons_succ]
          clear hK hS
          generalize U.alloc (.cells #[.int .i64 0, .int .i64 0, .int .i64 0, .int .i64 0, .int .i64 0, .int .i64 0, .int .i64 0, .int .i64 0, .int .i64 0] 135) = V at *
          generalize U.heap.size = nx at *
          have hS := hS2
          clear hS2
          generalize V = U at *
          refine anyG_step (rs := [3]) (by kernel_rfl) (by simp) ?_
          refine AllG.cons rfl (fun K hK => ?_) AllG.nil
          go_simp
          refine (CB.out _).mono ?_
          rintro r w' ⟨rfl, hb⟩
          replace hP := hP.below hb
          replace hQ := hQ.below hb
          try replace hX := hX.below hb
          try replace hY := hY.below hb
          replace hB := below_then hB hb
          clear hb hS
          try go_wp2_with fail
          have hS : FdS n1 a w' ∧ FdS n2 b w' := ⟨rpIn9 hP, rpIn9 hQ⟩
          refine hK.out _ _ hS ?_
          try simp only [Act.put, List.setIfInBounds_toArray, List.set_cons_zero, List.set_cons_succ]
          clear hK
          generalize w' = U at *
          have hne : nx ≠ ny := by first | exact hony | exact fun e => honx e.symm
          refine anyG_step (rs := [6]) (by kernel_rfl) (by simp) ?_
          refine AllG.cons rfl (fun K hK => ?_) AllG.nil
          refine El.step_store fdRow rfl _ _ rfl nx a #[.int .i64 a.d, .int .i64 a.i, .int .i64 a.b, .int .i64 a.t, .int .i64 a.m, .int .i64 a.p, .int .i64 a.c, .int .i64 a.s, .int .i64 a.k] rfl rfl rfl zeroRp hX ?_
          replace hX := hX.set a #[.int .i64 a.d, .int .i64 a.i, .int .i64 a.b, .int .i64 a.t, .int .i64 a.m, .int .i64 a.p, .int .i64 a.c, .int .i64 a.s, .int .i64 a.k] rfl
          replace hY := hY.rowN nx #[.int .i64 a.d, .int .i64 a.i, .int .i64 a.b, .int .i64 a.t, .int .i64 a.m, .int .i64 a.p, .int .i64 a.c, .int .i64 a.s, .int .i64 a.k] (fun e => hne e.symm)
          replace hP := hP.rowN nx #[.int .i64 a.d, .int .i64 a.i, .int .i64 a.b, .int .i64 a.t, .int .i64 a.m, .int .i64 a.p, .int .i64 a.c, .int .i64 a.s, .int .i64 a.k] hpnx
          replace hQ := hQ.rowN nx #[.int .i64 a.d, .int .i64 a.i, .int .i64 a.b, .int .i64 a.t, .int .i64 a.m, .int .i64 a.p, .int .i64 a.c, .int .i64 a.s, .int .i64 a.k] hqnx
          replace hB := below_setRow hB hbx #[.int .i64 a.d, .int .i64 a.i, .int .i64 a.b, .int .i64 a.t, .int .i64 a.m, .int .i64 a.p, .int .i64 a.c, .int .i64 a.s, .int .i64 a.k]
          refine hK.out _ _ ⟨rpIn9 hP, rpIn9 hQ⟩ ?_
          try simp only [Act.put, List.setIfInBounds_toArray, List.set_cons_zero, List.set_cons_succ]
          clear hK hS
          refine anyG_step (rs := [7]) (by kernel_rfl) (by simp) ?_
          refine AllG.last (n := 7) rfl (fun K hK => ?_)
          refine El.step_store fdRow rfl _ _ rfl ny b #[.int .i64 b.d, .int .i64 b.i, .int .i64 b.b, .int .i64 b.t, .int .i64 b.m, .int .i64 b.p, .int .i64 b.c, .int .i64 b.s, .int .i64 b.k] rfl rfl rfl zeroRp hY ?_
          replace hY := hY.set b #[.int .i64 b.d, .int .i64 b.i, .int .i64 b.b, .int .i64 b.t, .int .i64 b.m, .int .i64 b.p, .int .i64 b.c, .int .i64 b.s, .int .i64 b.k] rfl
          replace hX := hX.rowN ny #[.int .i64 b.d, .int .i64 b.i, .int .i64 b.b, .int .i64 b.t, .int .i64 b.m, .int .i64 b.p, .int .i64 b.c, .int .i64 b.s, .int .i64 b.k] hne
          replace hB := below_setRow hB hby #[.int .i64 b.d, .int .i64 b.i, .int .i64 b.b, .int .i64 b.t, .int .i64 b.m, .int .i64 b.p, .int .i64 b.c, .int .i64 b.s, .int .i64 b.k]
          refine hK.out _ _ ?_
          clear hK
          refine anyG_done (by kernel_rfl) ?_ _
          exact ⟨nx, ny, rfl, hX, hY, hB⟩
      · skip
        have hX : fdE.In (U.alloc (.cells #[.int .i64 0, .int .i64 0, .int .i64 0, .int .i64 0, .int .i64 0, .int .i64 0, .int .i64 0, .int .i64 0, .int .i64 0] 135)) U.heap.size zeroRp := El.In.new (E := fdE) U zeroRp #[.int .i64 0, .int .i64 0, .int .i64 0, .int .i64 0, .int .i64 0, .int .i64 0, .int .i64 0, .int .i64 0, .int .i64 0] rfl
        have hal := below_alloc (Below.refl U.heap.size U) (.cells #[.int .i64 0, .int .i64 0, .int .i64 0, .int .i64 0, .int .i64 0, .int .i64 0, .int .i64 0, .int .i64 0, .int .i64 0] 135)
        have hbx := hB.size
        have hpnx := Nat.ne_of_lt hP.lt
        have hqnx := Nat.ne_of_lt hQ.lt
        try have honx := Nat.ne_of_lt hY.lt
        replace hP := hP.below hal
        replace hQ := hQ.below hal
        try replace hY := hY.below hal
        replace hB := below_then hB hal
        clear hal
        have hS2 : FdS n1 a (U.alloc (.cells #[.int .i64 0, .int .i64 0, .int .i64 0, .int .i64 0, .int .i64 0, .int .i64 0, .int .i64 0, .int .i64 0, .int .i64 0] 135)) ∧ FdS n2 b (U.alloc (.cells #[.int .i64 0, .int .i64 0, .int .i64 0, .int .i64 0, .int .i64 0, .int .i64 0, .int .i64 0, .int .i64 0, .int .i64 0] 135)) := ⟨rpIn9 hP, rpIn9 hQ⟩
        go_simp
        refine hK.out _ _ hS2 ?_
        try simp only [Act.put, List.setIfInBounds_toArray, List.set_cons_zero, List.set_cons_succ]
        clear hK hS
        generalize U.alloc (.cells #[.int .i64 0, .int .i64 0, .int .i64 0, .int .i64 0, .int .i64 0, .int .i64 0, .int .i64 0, .int .i64 0, .int .i64 0] 135) = V at *
        generalize U.heap.size = nx at *
        have hS := hS2
        clear hS2
        generalize V = U at *
        refine anyG_step (rs := [1]) (by kernel_rfl) (by simp) ?_
        refine AllG.cons rfl (fun K hK => ?_) AllG.nil
        go_simp
        refine (CA.out _).mono ?_
        rintro r w' ⟨rfl, hb⟩
        replace hP := hP.below hb
        replace hQ := hQ.below hb
        try replace hX := hX.below hb
        try replace hY := hY.below hb
        replace hB := below_then hB hb
        clear hb hS
        try go_wp2_with fail
        have hS : FdS n1 a w' ∧ FdS n2 b w' := ⟨rpIn9 hP, rpIn9 hQ⟩
        refine hK.out _ _ hS ?_
        try simp only [Act.put, List.setIfInBounds_toArray, List.set_cons_zero, List.set_cons_succ]
        clear hK
        generalize w' = U at *
        refine anyG_step (rs := [3]) (by kernel_rfl) (by simp) ?_
        refine AllG.cons rfl (fun K hK => ?_) AllG.nil
        go_simp
        refine (CB.out _).mono ?_
        rintro r w' ⟨rfl, hb⟩
        replace hP := hP.below hb
        replace hQ := hQ.below hb
        try replace hX := hX.below hb
        try replace hY := hY.below hb
        replace hB := below_then hB hb
        clear hb hS
        try go_wp2_with fail
        have hS : FdS n1 a w' ∧ FdS n2 b w' := ⟨rpIn9 hP, rpIn9 hQ⟩
        refine hK.out _ _ hS ?_
        try simp only [Act.put, List.setIfInBounds_toArray, List.set_cons_zero, List.set_cons_succ]
        clear hK
        generalize w' = U at *
        have hne : nx ≠ ny := by first | exact hony | exact fun e => honx e.symm
        refine anyG_step (rs := [6]) (by kernel_rfl) (by simp) ?_
        refine AllG.cons rfl (fun K hK => ?_) AllG.nil
        refine El.step_store fdRow rfl _ _ rfl nx a #[.int .i64 a.d, .int .i64 a.i, .int .i64 a.b, .int .i64 a.t, .int .i64 a.m, .int .i64 a.p, .int .i64 a.c, .int .i64 a.s, .int .i64 a.k] rfl rfl rfl zeroRp hX ?_
        replace hX := hX.set a #[.int .i64 a.d, .int .i64 a.i, .int .i64 a.b, .int .i64 a.t, .int .i64 a.m, .int .i64 a.p, .int .i64 a.c, .int .i64 a.s, .int .i64 a.k] rfl
        replace hY := hY.rowN nx #[.int .i64 a.d, .int .i64 a.i, .int .i64 a.b, .int .i64 a.t, .int .i64 a.m, .int .i64 a.p, .int .i64 a.c, .int .i64 a.s, .int .i64 a.k] (fun e => hne e.symm)
        replace hP := hP.rowN nx #[.int .i64 a.d, .int .i64 a.i, .int .i64 a.b, .int .i64 a.t, .int .i64 a.m, .int .i64 a.p, .int .i64 a.c, .int .i64 a.s, .int .i64 a.k] hpnx
        replace hQ := hQ.rowN nx #[.int .i64 a.d, .int .i64 a.i, .int .i64 a.b, .int .i64 a.t, .int .i64 a.m, .int .i64 a.p, .int .i64 a.c, .int .i64 a.s, .int .i64 a.k] hqnx
        replace hB := below_setRow hB hbx #[.int .i64 a.d, .int .i64 a.i, .int .i64 a.b, .int .i64 a.t, .int .i64 a.m, .int .i64 a.p, .int .i64 a.c, .int .i64 a.s, .int .i64 a.k]
        refine hK.out _ _ ⟨rpIn9 hP, rpIn9 hQ⟩ ?_
        try simp only [Act.put, List.setIfInBounds_toArray, List.set_cons_zero, List.set_cons_succ]
        clear hK hS
        refine anyG_step (rs := [7]) (by kernel_rfl) (by simp) ?_
        refine AllG.last (n := 7) rfl (fun K hK => ?_)
        refine El.step_store fdRow rfl _ _ rfl ny b #[.int .i64 b.d, .int .i64 b.i, .int .i64 b.b, .int .i64 b.t, .int .i64 b.m, .int .i64 b.p, .int .i64 b.c, .int .i64 b.s, .int .i64 b.k] rfl rfl rfl zeroRp hY ?_
        replace hY := hY.set b #[.int .i64 b.d, .int .i64 b.i, .int .i64 b.b, .int .i64 b.t, .int .i64 b.m, .int .i64 b.p, .int .i64 b.c, .int .i64 b.s, .int .i64 b.k] rfl
        replace hX := hX.rowN ny #[.int .i64 b.d, .int .i64 b.i, .int .i64 b.b, .int .i64 b.t, .int .i64 b.m, .int .i64 b.p, .int .i64 b.c, .int .i64 b.s, .int .i64 b.k] hne
        replace hB := below_setRow hB hby #[.int .i64 b.d, .int .i64 b.i, .int .i64 b.b, .int .i64 b.t, .int .i64 b.m, .int .i64 b.p, .int .i64 b.c, .int .i64 b.s, .int .i64 b.k]
        refine hK.out _ _ ?_
        clear hK
        refine anyG_done (by kernel_rfl) ?_ _
        exact ⟨nx, ny, rfl, hX, hY, hB⟩
  · rintro nx ny w2 ⟨hX, hY, hB⟩
    have HCC := Lib.hid (fun wx (hX : fdE.In wx nx a) (hY : fdE.In wx ny b) => compare3_any nx ny 8 (row3 a) (row3 b) bv wx (row3_cells hX) (row3_cells hY) H1.out H2.out H3.out)
    replace hX : fdE.In w2.drew nx a := hX
    replace hY : fdE.In w2.drew ny b := hY
    replace hB := hB.drew
    clear hP hQ CA CB H1 H2 H3
    go_wp2_with fail
    go_region_held3 (fun _ => True) (first | trivial) ((go_at_call 80; (with_reducible refine (HCC.out _ hX hY).mono ?_); rintro e w3 ⟨n, rfl, hn, rfl⟩))
    all_goals go_wp2_with fail
    all_goals go_ret
    all_goals exact ⟨congrArg (fun b => Ending.returned (.bool b)) hn.out, hB⟩
end Go.Proofs.Ytnglpkfkepfkkaa

/- The program's reports: place; Clone, Grow, Concat of reports; Merge. -/
namespace Go.Proofs.Ytnglpkfkepfkkaa
open Go.RowKit Cod

theorem cellLt {w : World} {b i : Nat} {v : Value} (h : w.cell? ⟨b, i, none⟩ = some v) : b < w.heap.size := World.block_lt_of_cell? _ _ h
set_option maxRecDepth 100000 in
theorem rpPlace1_any (r : Rp) (n : Nat) (d : Int) (w : World) (h : w.cell? ⟨n, 0, none⟩ = some (.int .i64 d)) : Calls Try.prog 78 #[.agg #[.int .i64 r.d, .int .i64 r.i, .int .i64 r.b, .int .i64 r.t, .int .i64 r.m, .int .i64 r.p, .int .i64 r.c, .int .i64 r.s, .int .i64 r.k], .pointer (some ⟨n, 0, none⟩)] w fun e w' => e = .returned (.bool (decide (d ≤ r.d))) ∧ Below w.heap.size w w' := by
  have hP : rpE.In (w.alloc (.cells #[.int .i64 r.d, .int .i64 r.i, .int .i64 r.b, .int .i64 r.t, .int .i64 r.m, .int .i64 r.p, .int .i64 r.c, .int .i64 r.s, .int .i64 r.k] 59)) w.heap.size r := El.In.new (E := rpE) w r _ rfl
  have hB := below_alloc (Below.refl w.heap.size w) (.cells #[.int .i64 r.d, .int .i64 r.i, .int .i64 r.b, .int .i64 r.t, .int .i64 r.m, .int .i64 r.p, .int .i64 r.c, .int .i64 r.s, .int .i64 r.k] 59)
  have hlt := cellLt h
  rw [← (bcell hB).1 _ _ hlt] at h
  obtain ⟨p0, _, _, _, _, _, _, _, _⟩ := rpIn9 hP
  clear hP
  go_enter Try.func78, Try.ntmps78
  go_upto_region 1 with fail
  generalize w.alloc (.cells #[.int .i64 r.d, .int .i64 r.i, .int .i64 r.b, .int .i64 r.t, .int .i64 r.m, .int .i64 r.p, .int .i64 r.c, .int .i64 r.s, .int .i64 r.k] 59) = W at *
  go_wp2_with fail
  go_ret
  exact ⟨rfl, hB⟩

set_option maxRecDepth 100000 in
set_option maxHeartbeats 2000000 in
theorem rpIndex_any (A : Option Addr) (cap : Nat) (l : List Rp) (n : Nat) (d : Int) (w : World) (hl : l.length ≤ 1000) (h : w.cell? ⟨n, 0, none⟩ = some (.int .i64 d)) (hT : rpE.Sl w A l) :
    Calls Try.prog 77 #[.slice A l.length cap, .func (.func 78) #[] #[.pointer (some ⟨n, 0, none⟩)]] w fun e w' => ∃ i : Int, e = .returned (.int .i64 i) ∧ ((cutR l d = l.length ∧ i = -1) ∨ (cutR l d < l.length ∧ i = (cutR l d : Nat))) ∧ Below w.heap.size w w' := by
  have hlt := cellLt h
  have HF := Lib.hid (fun (r : Rp) (wx : World) (hb : Below w.heap.size w wx) => rpPlace1_any r n d wx (by rw [(bcell hb).1 _ _ hlt]; exact h))
  have hB := Below.refl w.heap.size w
  clear h
  go_enter Try.func77, Try.ntmps77
  go_wp2_with fail
  go_loopw [8] (fun y wr => ∃ k : Nat, k ≤ cutR l d ∧ y = .int .i64 k ∧ Below w.heap.size w wr) (fun y _ => l.length - (intOf y).toNat)
  case atStart => exact ⟨0, Nat.zero_le _, rfl, hB⟩
  case round =>
    clear hB
    obtain ⟨k, hk, rfl, hB⟩ := hrel
    by_cases hkl : k < l.length
    · obtain ⟨b, off, hA, hbw, hc⟩ := hT (by omega)
      have hat : rpE.At wr b (off + k * 9) l[k] := (hc k hkl).below hB hbw
      have hx := rpIdxH (cap := cap) hA hkl
      by_cases hd : l[k].d < d
      · have HN := Lib.hid (cutR_next hk hkl hd)
        have hC := HF.out l[k] wr hB
        rw [show decide (d ≤ l[k].d) = false from decide_eq_false (by omega)] at hC
        have HC := Lib.hid hC
        clear hC hc hA hd
        generalize l[k] = x at *
        go_wp2_with (first | (refine El.load rpRow rfl _ rfl b (off + k * 9) rfl x hat #[.int .i64 x.d, .int .i64 x.i, .int .i64 x.b, .int .i64 x.t, .int .i64 x.m, .int .i64 x.p, .int .i64 x.c, .int .i64 x.s, .int .i64 x.k] rfl ?_) | (go_at_call 78; (with_reducible refine (HC.out).mono ?_); rintro e w1 ⟨rfl, hb1⟩))
        exact ⟨⟨k + 1, HN.out, by go_num, below_then hB hb1⟩, by simp [intOf]; omega⟩
      · have hX := cutR_here hk (Or.inr ⟨hkl, by omega⟩)
        have HX := Lib.hid hX
        have hC := HF.out l[k] wr hB
        rw [show decide (d ≤ l[k].d) = true from decide_eq_true (by omega)] at hC
        have HC := Lib.hid hC
        clear hC hc hA hd hX
        generalize l[k] = x at *
        go_wp2_with (first | (refine El.load rpRow rfl _ rfl b (off + k * 9) rfl x hat #[.int .i64 x.d, .int .i64 x.i, .int .i64 x.b, .int .i64 x.t, .int .i64 x.m, .int .i64 x.p, .int .i64 x.c, .int .i64 x.s, .int .i64 x.k] rfl ?_) | (go_at_call 78; (with_reducible refine (HC.out).mono ?_); rintro e w1 ⟨rfl, hb1⟩))
        go_ret
        exact ⟨k, rfl, Or.inr ⟨by rw [← HX.out]; exact hkl, by rw [← HX.out]⟩, below_then hB hb1⟩
    · have hle := cutR_le l d
      have hke : k = l.length := by omega
      have hce : cutR l d = l.length := by omega
      have HCE := Lib.hid hce
      have hlk : l.length ≤ k := by omega
      have f1 : decide ((k : Int) < (l.length : Int)) = false := decide_eq_false (by omega)
      have f2 : decide (k < l.length) = false := decide_eq_false (by omega)
      clear hke hce
      go_wp2_with fail
      go_ret
      exact ⟨-1, rfl, Or.inl ⟨HCE.out, rfl⟩, hB⟩

set_option maxRecDepth 100000 in
set_option maxHeartbeats 2000000 in
theorem rpPlace_any (A : Option Addr) (cap : Nat) (l : List Rp) (d : Int) (w : World) (hl : l.length ≤ 1000) (hT : rpE.Sl w A l) :
    Calls Try.prog 65 #[.slice A l.length cap, .int .i64 d] w fun e w' => e = .returned (.int .i64 (cutR l d : Nat)) ∧ Below w.heap.size w w' := by
  have hB := below_alloc (Below.refl w.heap.size w) (.cells #[.int .i64 d] 3)
  have hc : (w.alloc (.cells #[.int .i64 d] 3)).cell? ⟨w.heap.size, 0, none⟩ = some (.int .i64 d) := by go_simp
  have hT2 := hT.below hB
  have HC := Lib.hid (rpIndex_any A cap l w.heap.size d _ hl hc hT2)
  clear hc hT hT2
  obtain ⟨k, hk⟩ : ∃ k, cutR l d = k := ⟨_, rfl⟩
  rw [hk] at HC ⊢
  clear hk
  go_enter Try.func65, Try.ntmps65
  go_upto_region 1 with fail
  generalize w.alloc (.cells #[.int .i64 d] 3) = W at *
  go_wp2_with fail
  refine HC.out.mono ?_
  rintro e w1 ⟨i, rfl, hi, hb1⟩
  rcases hi with ⟨rfl, rfl⟩ | ⟨hk, rfl⟩
  · go_wp2_with fail
    go_ret
    exact ⟨rfl, below_then hB hb1⟩
  · have f1 : decide ((k : Int) < 0) = false := decide_eq_false (by omega)
    go_wp2_with fail
    go_ret
    exact ⟨rfl, below_then hB hb1⟩
set_option maxRecDepth 100000 in
theorem cloneRp_any (A : Option Addr) (c : Nat) (l : List Rp) (w : World) (hl : l.length ≤ 50000) (hT : SlV rpE w A c l) :
    Calls Try.prog 47 #[.slice A l.length c] w fun e w' => ∃ A' c', e = .returned (.slice A' l.length c') ∧ SlV rpE w' A' c' l ∧ Frs w.heap.size A' ∧ Below w.heap.size w w' := by
  obtain ⟨hT, hz, hlc⟩ := hT
  have q : ∀ (w : World) (a : Option Addr) (n c n' c' : Nat), (binOp .eql 24 (.slice a n c) (.slice none n' c')).run Try.prog w = .ok (.bool a.isNone) w := fun w a n c n' c' => Lib.run_eql_slice_nil w _ _ a n c n' c' Try.underlying24
  cases A with
  | none =>
    obtain rfl := hT.none_nil
    obtain rfl := hz rfl
    go_enter Try.func47, Try.ntmps47
    go_wp2
    go_ret
    exact ⟨none, 0, rfl, SlV.nil _ _, frs_nil _, Below.refl _ _⟩
  | some a =>
    go_enter Try.func47, Try.ntmps47
    have hE := El.Own.empty (E := rpE) w w.heap.size (Nat.le_refl _)
    have hb0 := below_alloc (Below.refl w.heap.size w) (.cells #[] 59)
    go_wp2_with (at_builtin; refine El.wpList_app rpInn rfl _ _ rfl w.heap.size _ [] l rfl hE (some a) _ c rfl rfl (hT.below hb0) (fun e => by cases e) (by simp; omega) (by simp) ?_; intro v' w2 hown hg _)
    obtain ⟨A', c', rfl, hS⟩ := SlV.own hown
    go_wp2
    go_ret
    exact ⟨A', c', rfl, hS, hown.frs, below_own hb0 hg (hE.rows)⟩

theorem infoRp : (Try.prog.info? 59).map (fun i => (i.zero, i.size, i.bytes)) = some (some (.agg #[.int .i64 0, .int .i64 0, .int .i64 0, .int .i64 0, .int .i64 0, .int .i64 0, .int .i64 0, .int .i64 0, .int .i64 0]), 9, 72) := by kernel_rfl
set_option maxRecDepth 100000 in
theorem growRp_any (B n : Nat) (w : World) (hn : n ≤ 2000) (hB : B ≤ w.heap.size) :
    Calls Try.prog 81 #[.slice none 0 0, .int .i64 n] w fun e w' => ∃ v, e = .returned v ∧ rpE.Own w' B v [] ∧ Below w.heap.size w w' := by
  by_cases h0 : n = 0
  · subst h0
    go_enter Try.func81, Try.ntmps81
    go_wp2
    go_ret
    exact ⟨_, rfl, El.Own.nil _ B, Below.refl _ _⟩
  · obtain ⟨i, hi, hz, hz1, hz2⟩ := info_parts infoRp
    have hr := fun ty => Lib.run_append_nil_zeros (P := Try.prog) w 24 3 ty 59 i _ .i64 .i64 Try.underlying24 Try.underlying3 hi hz n (by omega) (by omega) (by omega) (by rw [hz2]; omega)
    have hg1 : n ≤ grownCap w n 0 59 := grownCap_ge w n 0 _
    have hg2 : grownCap w n 0 59 ≤ maxLen := grownCap_le_maxLen w n 0 59 (by unfold maxLen; omega)
    have hown : rpE.Own (w.drew.alloc (.cells (Builtin.zeroCells (Value.agg #[.int .i64 0, .int .i64 0, .int .i64 0, .int .i64 0, .int .i64 0, .int .i64 0, .int .i64 0, .int .i64 0, .int .i64 0]).cells n ++ Builtin.zeroCells (Value.agg #[.int .i64 0, .int .i64 0, .int .i64 0, .int .i64 0, .int .i64 0, .int .i64 0, .int .i64 0, .int .i64 0, .int .i64 0]).cells (grownCap w n 0 59 - n)) 59)) B (.slice (some ⟨w.heap.size, 0, none⟩) 0 (grownCap w n 0 59)) [] := by
      refine World.ownsRow_made w.drew _ (grownCap w n 0 59) hB hg2 ?_
      rw [Array.size_append, size_zeroCells, size_zeroCells]
      show n * 9 + (grownCap w n 0 59 - n) * 9 = _ * 9
      omega
    have hnx : Below w.heap.size w (w.drew.alloc (.cells (Builtin.zeroCells (Value.agg #[.int .i64 0, .int .i64 0, .int .i64 0, .int .i64 0, .int .i64 0, .int .i64 0, .int .i64 0, .int .i64 0, .int .i64 0]).cells n ++ Builtin.zeroCells (Value.agg #[.int .i64 0, .int .i64 0, .int .i64 0, .int .i64 0, .int .i64 0, .int .i64 0, .int .i64 0, .int .i64 0, .int .i64 0]).cells (grownCap w n 0 59 - n)) 59)) := below_alloc (Below.refl _ w).drew _
    generalize grownCap w n 0 59 = cap at *
    generalize w.drew.alloc (.cells (Builtin.zeroCells (Value.agg #[.int .i64 0, .int .i64 0, .int .i64 0, .int .i64 0, .int .i64 0, .int .i64 0, .int .i64 0, .int .i64 0, .int .i64 0]).cells n ++ Builtin.zeroCells (Value.agg #[.int .i64 0, .int .i64 0, .int .i64 0, .int .i64 0, .int .i64 0, .int .i64 0, .int .i64 0, .int .i64 0, .int .i64 0]).cells (cap - n)) 59) = W at *
    go_enter Try.func81, Try.ntmps81
    go_wp2_with (at_builtin; refine Lib.wpList_append_run _ rfl _ _ 24 3 rfl _ _ rfl rfl _ _ (hr _) ?_)
    go_wp2
    go_ret
    exact ⟨_, rfl, hown, hnx⟩

set_option maxRecDepth 100000 in
theorem concatRp_any (sb : Nat) (F : Nat → List Rp) (A : Nat → Option Addr) (C : Nat → Nat) (w : World) (hcell : ∀ j, j < 3 → w.cell? ⟨sb, j, none⟩ = some (.slice (A j) (F j).length (C j)))
    (hT : ∀ j, j < 3 → rpE.Sl w (A j) (F j)) (hc : ∀ j, j < 3 → A j = none → C j = 0) (hl : (catE F 3).length ≤ 2000) (hsb : sb < w.heap.size) :
    Calls Try.prog 67 #[.slice (some ⟨sb, 0, none⟩) 3 3] w fun e w' => ∃ A' cap', e = .returned (.slice A' (catE F 3).length cap') ∧ SlV rpE w' A' cap' (catE F 3) ∧ Frs w.heap.size A' ∧ Below w.heap.size w w' := by
  have CG := fun n hn => growRp_any w.heap.size n w hn (Nat.le_refl _)
  have hle := fun k h => catE_le F k 3 h
  have HCL := Lib.hid hcell
  have HTT := Lib.hid hT
  have HCC := Lib.hid hc
  clear hcell hT hc
  go_enter Try.func67, Try.ntmps67
  go_wp2
  go_loop [3, 11] (fun x y => ∃ k : Nat, k ≤ 3 ∧ y = .int .i64 k ∧ x = .int .i64 (catE F k).length) (fun _ y => 3 - (intOf y).toNat)
  case atStart => exact ⟨0, Nat.zero_le _, rfl, rfl⟩
  case round =>
    obtain ⟨k, hk, rfl, rfl⟩ := hrel
    by_cases hlt : k < 3
    · have h1 := HCL.out k hlt
      have h2 := hle (k + 1) hlt
      have h3 : (catE F (k + 1)).length = (catE F k).length + (F k).length := by rw [catE, List.length_append]
      have H3 := Lib.hid h3
      have h4 : (catE F k).length + (F k).length ≤ 2000 := by omega
      generalize (catE F k).length = n at *
      generalize (F k).length = m at *
      clear h3
      go_wp2
      go_round
      case rel => exact ⟨k + 1, by omega, by go_num, by rw [H3.out]; go_num⟩
      case measure => simp [intOf]; omega
    · obtain rfl : k = 3 := by omega
      have CG := CG _ hl
      go_wp2_with fail
      refine CG.mono ?_
      rintro e w1 ⟨v, rfl, hown, hb1⟩
      clear CG
      go_wp2
      go_loopw [6, 27] (fun x y wr => ∃ (k : Nat) (v : Value), k ≤ 3 ∧ y = .int .i64 k ∧ x = v ∧ rpE.Own wr w.heap.size v (catE F k) ∧ Below w.heap.size w wr) (fun _ y _ => 3 - (intOf y).toNat)
      case atStart => exact ⟨0, v, Nat.zero_le _, rfl, rfl, hown, hb1⟩
      case round =>
        clear hown hb1
        obtain ⟨k, v, hk, rfl, rfl, hown, hnx⟩ := hrel
        by_cases hlt : k < 3
        · have h1 := HCL.out k hlt
          rw [← (bcell hnx).1 _ _ hsb] at h1
          have h2 := hle (k + 1) hlt
          have h3 : (catE F (k + 1)).length = (catE F k).length + (F k).length := by rw [catE, List.length_append]
          have hTk := (HTT.out k hlt).below hnx
          have hck := HCC.out k hlt
          have hB := hnx.size
          go_wp2_with (at_builtin; refine El.wpList_app rpInn rfl _ _ rfl w.heap.size _ (catE F k) (F k) rfl hown (A k) _ (C k) rfl rfl hTk hck (by omega) hB ?_; intro v' w2 hown2 hg2 _)
          go_roundw
          case rel => exact ⟨k + 1, v', by omega, by go_num, rfl, hown2, hnx.grown hg2 hB (fun j hj => (hown).rows j hj)⟩
          case measure => simp [intOf]; omega
        · obtain rfl : k = 3 := by omega
          obtain ⟨A', cap', rfl, hS⟩ := SlV.own hown
          go_wp2
          go_ret
          exact ⟨A', cap', rfl, hS, hown.frs, hnx⟩
end Go.Proofs.Ytnglpkfkepfkkaa

/- The program's reports: Merge. -/
namespace Go.Proofs.Ytnglpkfkepfkkaa
open Go.RowKit Cod
/-- Three lists, three addresses, three numbers. -/
def pickR {α : Type} (a b c : α) : Nat → α
  | 0 => a
  | 1 => b
  | _ => c
set_option maxRecDepth 100000 in
set_option maxHeartbeats 4000000 in
theorem rpMerge_any (A : Option Addr) (cap : Nat) (l : List Rp) (c : Rp) (w : World) (hl : l.length ≤ 1000) (hT : SlV rpE w A cap l) :
    Calls Try.prog 42 #[.slice A l.length cap, .agg #[.int .i64 c.d, .int .i64 c.i, .int .i64 c.b, .int .i64 c.t, .int .i64 c.m, .int .i64 c.p, .int .i64 c.c, .int .i64 c.s, .int .i64 c.k]] w fun e w' => ∃ (A' : Option Addr) (c' : Nat), e = .returned (.slice A' (mergeR l c).length c') ∧ SlV rpE w' A' c' (mergeR l c) ∧ Below w.heap.size w w' := by
  obtain ⟨hT, hz, hlc⟩ := hT
  have hP : rpE.In (w.alloc (.cells #[.int .i64 c.d, .int .i64 c.i, .int .i64 c.b, .int .i64 c.t, .int .i64 c.m, .int .i64 c.p, .int .i64 c.c, .int .i64 c.s, .int .i64 c.k] 59)) w.heap.size c := El.In.new (E := rpE) w c _ rfl
  have hB := below_alloc (Below.refl w.heap.size w) (.cells #[.int .i64 c.d, .int .i64 c.i, .int .i64 c.b, .int .i64 c.t, .int .i64 c.m, .int .i64 c.p, .int .i64 c.c, .int .i64 c.s, .int .i64 c.k] 59)
  obtain ⟨RM, hRM⟩ : ∃ RM, mergeR l c = RM := ⟨_, rfl⟩
  rw [hRM]
  have HRM := Lib.hid hRM
  clear hRM
  obtain ⟨k, hk⟩ : ∃ k, cutR l c.d = k := ⟨_, rfl⟩
  have hPL := fun wx hb => rpPlace_any A cap l c.d wx (by omega) (hT.below (w := wx) hb)
  simp only [hk] at hPL
  have HPL := Lib.hid hPL
  clear hPL
  have hkl := cutR_le l c.d
  go_enter Try.func42, Try.ntmps42
  go_upto_region 1 with fail
  generalize w.alloc (.cells #[.int .i64 c.d, .int .i64 c.i, .int .i64 c.b, .int .i64 c.t, .int .i64 c.m, .int .i64 c.p, .int .i64 c.c, .int .i64 c.s, .int .i64 c.k] 59) = W0 at *
  obtain ⟨nc, hnc⟩ : ∃ n, w.heap.size = n := ⟨_, rfl⟩
  rw [hnc] at hP ⊢
  have hwn : w.heap.size ≤ nc := by omega
  clear hnc
  obtain ⟨q0, q1, q2, q3, q4, q5, q6, q7, q8⟩ := rpIn9 hP
  go_wp2_with fail
  refine (HPL.out _ hB).mono ?_
  rintro e w1 ⟨rfl, hb1⟩
  replace hP := hP.below hb1
  replace hB := below_then hB hb1
  clear hb1 HPL q0 q1 q2 q3 q4 q5 q6 q7 q8
  go_wp2_with fail
  obtain ⟨q0, q1, q2, q3, q4, q5, q6, q7, q8⟩ := rpIn9 hP
  rw [hk] at hkl
  by_cases hlt : k < l.length
  · obtain ⟨b, off, hA, hbw, hc⟩ := hT (by omega)
    have hat : rpE.At w1 b (off + k * 9) l[k] := (hc k hlt).below hB hbw
    have hx := rpIdxH (cap := cap) hA hlt
    obtain ⟨s0, s1, s2, s3, s4, s5, s6, s7, s8⟩ := rpAt9 hat
    have hki : (k : Int) < (l.length : Int) := by omega
    have f1 : decide ((k : Int) < (l.length : Int)) = true := decide_eq_true hki
    have f2 : decide (k < l.length) = true := decide_eq_true hlt
    have HC := Lib.hid hc
    have HAA := Lib.hid hA
    have HK := Lib.hid hk
    clear hc hat hA hk
    by_cases he : l[k].d = c.d
    · have hold := mergeR_old l c (by rw [HK.out]; exact hlt)
      simp only [HK.out] at hold
      have HM := Lib.hid (hold he)
      clear hold
      generalize hx0 : l[k].d = x0 at *
      have g5 : (x0 == c.d) = true := beq_iff_eq.2 he
      have g6 : decide (x0 = c.d) = true := decide_eq_true he
      clear he hx0
      go_quiet (fail)
      have hB1 := below_drew hB nq
      have hP1 : rpE.In (w1.drewN nq) nc c := hP
      clear hB hP s0 s1 s2 s3 s4 s5 s6 s7 s8 q0 q1 q2 q3 q4 q5 q6 q7 q8 g5 g6 f1 f2
      go_wp2_with fail
      generalize w1.drewN nq = V1 at *
      have hat : rpE.At V1 b (off + k * 9) l[k] := (HC.out k hlt).below hB1 hbw
      have hbr : b < V1.heap.size := Nat.lt_of_lt_of_le hbw hB1.size
      generalize l[k] = x at *
      obtain ⟨bn, hbn⟩ : ∃ bn, newB c x = bn := ⟨_, rfl⟩
      have CN := Lib.hid (fun wx => (by
        have h := rpNewer_any c x wx
        rw [hbn] at h
        exact h : Calls Try.prog 66 #[.agg #[.int .i64 c.d, .int .i64 c.i, .int .i64 c.b, .int .i64 c.t, .int .i64 c.m, .int .i64 c.p, .int .i64 c.c, .int .i64 c.s, .int .i64 c.k], .agg #[.int .i64 x.d, .int .i64 x.i, .int .i64 x.b, .int .i64 x.t, .int .i64 x.m, .int .i64 x.p, .int .i64 x.c, .int .i64 x.s, .int .i64 x.k]] wx fun e w' => e = .returned (.bool bn) ∧ Below wx.heap.size wx w'))
      have HM2 := Lib.hid (show mergeR l c = if bn = true then l.set k c else l by rw [← hbn]; exact HM.out)
      clear HM hbn HC
      replace hP : rpE.In V1.drew nc c := hP1
      replace hat : rpE.At V1.drew b (off + k * 9) x := hat
      replace hB := hB1.drew
      replace hbr : b < V1.drew.heap.size := hbr
      clear hP1 hB1
      go_region_held3 (fun w' => (w'.cell? ⟨nc, 0, none⟩ = some (.int .i64 c.d) ∧ w'.cell? ⟨nc, 1, none⟩ = some (.int .i64 c.i) ∧ w'.cell? ⟨nc, 2, none⟩ = some (.int .i64 c.b) ∧ w'.cell? ⟨nc, 3, none⟩ = some (.int .i64 c.t) ∧ w'.cell? ⟨nc, 4, none⟩ = some (.int .i64 c.m) ∧ w'.cell? ⟨nc, 5, none⟩ = some (.int .i64 c.p) ∧ w'.cell? ⟨nc, 6, none⟩ = some (.int .i64 c.c) ∧ w'.cell? ⟨nc, 7, none⟩ = some (.int .i64 c.s) ∧ w'.cell? ⟨nc, 8, none⟩ = some (.int .i64 c.k)) ∧ (w'.cell? ⟨b, off + k * 9, none⟩ = some (.int .i64 x.d) ∧ w'.cell? ⟨b, off + k * 9 + 1, none⟩ = some (.int .i64 x.i) ∧ w'.cell? ⟨b, off + k * 9 + 2, none⟩ = some (.int .i64 x.b) ∧ w'.cell? ⟨b, off + k * 9 + 3, none⟩ = some (.int .i64 x.t) ∧ w'.cell? ⟨b, off + k * 9 + 4, none⟩ = some (.int .i64 x.m) ∧ w'.cell? ⟨b, off + k * 9 + 5, none⟩ = some (.int .i64 x.p) ∧ w'.cell? ⟨b, off + k * 9 + 6, none⟩ = some (.int .i64 x.c) ∧ w'.cell? ⟨b, off + k * 9 + 7, none⟩ = some (.int .i64 x.s) ∧ w'.cell? ⟨b, off + k * 9 + 8, none⟩ = some (.int .i64 x.k))) (with_reducible exact ⟨rpIn9 hP, rpAt9 hat⟩) (first | (go_at_call 66; (with_reducible refine (CN.out _).mono ?_); rintro e w6 ⟨rfl, hb6⟩; replace hP := hP.below hb6; replace hat := hat.below hb6 hbr; replace hB := below_then hB hb6; clear hb6))
      cases bn
      · have hm := HM2.out
        rw [if_neg (by decide)] at hm
        have hRM0 := HRM.out
        rw [hm] at hRM0
        have hRM := Lib.hid hRM0
        have hTV := hT.below hB
        have CL := Lib.hid (cloneRp_any A cap l _ (by omega) ⟨hTV, hz, hlc⟩)
        clear hm HM2 hRM0
        go_wp2_with fail
        refine CL.out.mono ?_
        rintro r w7 ⟨A', c', rfl, hS, _, hb7⟩
        go_wp2_with fail
        go_ret
        exact ⟨A', c', by rw [← hRM.out]; rfl, by rw [← hRM.out]; exact hS, below_then hB hb7⟩
      · have hm := HM2.out
        rw [if_pos rfl] at hm
        have hRM := HRM.out
        rw [hm] at hRM
        have HTO := Lib.hid (show l.take k ++ [c] ++ l.drop (k + 1) = RM by rw [← hRM, List.set_eq_take_append_cons_drop, if_pos hlt, List.append_assoc]; rfl)
        clear hm HM2 hRM HRM HK hx HAA hat hbr hbw
        obtain ⟨tt, hto⟩ : ∃ tt, k + 1 = tt := ⟨_, rfl⟩
        rw [hto] at HTO
        have hti : (k : Int) + 1 = (tt : Int) := by omega
        have HTI := Lib.hid hti
        have htl : tt ≤ l.length := by omega
        have hkt : k ≤ tt := by omega
        clear hto hti
        go_upto_region 7 with fail
        rw [HTI.out]
        generalize w6 = V at *
        obtain ⟨A3, hA3⟩ : ∃ A3, (if cap = (tt) then A else Option.map (fun x => x.add ((tt) * 9)) A) = A3 := ⟨_, rfl⟩
        have g0 : (0 : Int) ≤ (k : Int) := by omega
        have g1 : (k : Int) ≤ (cap : Int) := by omega
        have g2 : (k : Int) ≤ (l.length : Int) := by omega
        have g3 : (0 : Int) ≤ ((tt) : Int) := by omega
        have g4 : ((tt) : Int) ≤ (cap : Int) := by omega
        have g5 : ((tt) : Int) ≤ (l.length : Int) := by omega
        have HE1 := Lib.hid (show (l.take k).length = k by rw [List.length_take]; omega)
        have hkm : k + (l.length - (tt)) ≤ 1001 := by omega
        have HE3 := Lib.hid (show (l.drop (tt)).length = l.length - (tt) by rw [List.length_drop])
        have htk := (hT.take k).below hB
        have hT3 := (hT.drop hlc hA3).below hB
        have hz3 := El.drop_none hz hA3
        generalize l.take k = L1 at *
        generalize l.drop (tt) = L3 at *
        generalize hm3 : l.length - (tt) = m3 at *
        replace hP : rpE.In V.drew nc c := hP
        replace hB := hB.drew
        replace htk : rpE.Sl V.drew A L1 := htk
        replace hT3 : rpE.Sl V.drew A3 L3 := hT3
        clear hT
        refine region_anyG (S := RpS nc c) 10 (by kernel_rfl) ?_
        generalize V.drew = U at *
        have hS : RpS nc c U := rpIn9 hP
        refine anyG_take (i := 0) (v := .slice A l.length cap) rfl (by kernel_rfl) (by kernel_rfl) (by kernel_rfl) (by kernel_rfl) (by kernel_rfl) (fun _ _ _ h => h) (Or.inl ⟨by rfl, fun w' hSw => by (obtain ⟨s0, s1, s2, s3, s4, s5, s6, s7, s8⟩ := hSw; go_simp)⟩) hS ?_
        try simp only [Act.put, List.setIfInBounds_toArray, List.set_cons_zero, List.set_cons_succ]
        refine anyG_take (i := 1) (v := .int .i64 k) rfl (by kernel_rfl) (by kernel_rfl) (by kernel_rfl) (by kernel_rfl) (by kernel_rfl) (fun _ _ _ h => h) (Or.inl ⟨by rfl, fun w' hSw => by (obtain ⟨s0, s1, s2, s3, s4, s5, s6, s7, s8⟩ := hSw; go_simp)⟩) hS ?_
        try simp only [Act.put, List.setIfInBounds_toArray, List.set_cons_zero, List.set_cons_succ]
        refine anyG_take (i := 2) (v := .slice A k cap) rfl (by kernel_rfl) (by kernel_rfl) (by kernel_rfl) (by kernel_rfl) (by kernel_rfl) (fun _ _ _ h => h) (Or.inl ⟨by rfl, fun w' hSw => by (obtain ⟨s0, s1, s2, s3, s4, s5, s6, s7, s8⟩ := hSw; go_simp)⟩) hS ?_
        try simp only [Act.put, List.setIfInBounds_toArray, List.set_cons_zero, List.set_cons_succ]
        refine anyG_take (i := 3) (v := .agg #[.int .i64 c.d, .int .i64 c.i, .int .i64 c.b, .int .i64 c.t, .int .i64 c.m, .int .i64 c.p, .int .i64 c.c, .int .i64 c.s, .int .i64 c.k]) rfl (by kernel_rfl) (by kernel_rfl) (by kernel_rfl) (by kernel_rfl) (by kernel_rfl) (fun _ _ _ h => h) (Or.inl ⟨by rfl, fun w' hSw => by (obtain ⟨s0, s1, s2, s3, s4, s5, s6, s7, s8⟩ := hSw; go_simp)⟩) hS ?_
        try simp only [Act.put, List.setIfInBounds_toArray, List.set_cons_zero, List.set_cons_succ]
        refine anyG_take (i := 5) (v := .slice A l.length cap) rfl (by kernel_rfl) (by kernel_rfl) (by kernel_rfl) (by kernel_rfl) (by kernel_rfl) (fun _ _ _ h => h) (Or.inl ⟨by rfl, fun w' hSw => by (obtain ⟨s0, s1, s2, s3, s4, s5, s6, s7, s8⟩ := hSw; go_simp)⟩) hS ?_
        try simp only [Act.put, List.setIfInBounds_toArray, List.set_cons_zero, List.set_cons_succ]
        refine anyG_take (i := 6) (v := .int .i64 (tt)) rfl (by kernel_rfl) (by kernel_rfl) (by kernel_rfl) (by kernel_rfl) (by kernel_rfl) (fun _ _ _ h => h) (Or.inl ⟨by rfl, fun w' hSw => by (obtain ⟨s0, s1, s2, s3, s4, s5, s6, s7, s8⟩ := hSw; go_simp)⟩) hS ?_
        try simp only [Act.put, List.setIfInBounds_toArray, List.set_cons_zero, List.set_cons_succ]
        refine anyG_take (i := 7) (v := .slice A3 m3 (cap - (tt))) rfl (by kernel_rfl) (by kernel_rfl) (by kernel_rfl) (by kernel_rfl) (by kernel_rfl) (fun _ _ _ h => h) (Or.inl ⟨by rfl, fun w' hSw => by (obtain ⟨s0, s1, s2, s3, s4, s5, s6, s7, s8⟩ := hSw; go_simp)⟩) hS ?_
        try simp only [Act.put, List.setIfInBounds_toArray, List.set_cons_zero, List.set_cons_succ]
        clear hm3
        refine anyG_step (rs := [4]) (by kernel_rfl) (by simp) ?_
        refine AllG.cons rfl (fun K hK => ?_) AllG.nil
        have he : rpE.Sl (U.alloc (.cells #[.int .i64 c.d, .int .i64 c.i, .int .i64 c.b, .int .i64 c.t, .int .i64 c.m, .int .i64 c.p, .int .i64 c.c, .int .i64 c.s, .int .i64 c.k] 59)) (some ⟨U.heap.size, 0, none⟩) [c] := (El.In.new (E := rpE) U c _ rfl).sl
        have hal := below_alloc (Below.refl U.heap.size U) (.cells #[.int .i64 c.d, .int .i64 c.i, .int .i64 c.b, .int .i64 c.t, .int .i64 c.m, .int .i64 c.p, .int .i64 c.c, .int .i64 c.s, .int .i64 c.k] 59)
        replace hP := hP.below hal
        replace htk := htk.below hal
        replace hT3 := hT3.below hal
        replace hB := below_then hB hal
        clear hal hS
        go_simp
        refine hK.out _ _ (rpIn9 hP : RpS nc c _) ?_
        try simp only [Act.put, List.setIfInBounds_toArray, List.set_cons_zero, List.set_cons_succ]
        clear hK
        generalize U.alloc (.cells #[.int .i64 c.d, .int .i64 c.i, .int .i64 c.b, .int .i64 c.t, .int .i64 c.m, .int .i64 c.p, .int .i64 c.c, .int .i64 c.s, .int .i64 c.k] 59) = U1 at *
        generalize U.heap.size = n6 at *
        have hal := below_alloc (Below.refl U1.heap.size U1) (.cells #[.slice A k cap, .slice (some ⟨n6, 0, none⟩) 1 1, .slice A3 m3 (cap - (tt))] 24)
        have hcells : ∀ j, j < 3 → (U1.alloc (.cells #[.slice A k cap, .slice (some ⟨n6, 0, none⟩) 1 1, .slice A3 m3 (cap - (tt))] 24)).cell? ⟨U1.heap.size, j, none⟩ = some (.slice (pickR A (some ⟨n6, 0, none⟩) A3 j) (pickR L1 [c] L3 j).length (pickR cap 1 (cap - (tt)) j)) := fun j hj => by
          match j, hj with
          | 0, _ =>
            show _ = some (Value.slice A L1.length cap)
            rw [HE1.out]; go_simp
          | 1, _ => show _ = some (Value.slice (some ⟨n6, 0, none⟩) 1 1); go_simp
          | 2, _ =>
            show _ = some (Value.slice A3 L3.length (cap - (tt)))
            rw [HE3.out]; go_simp
        have hsz : U1.heap.size < (U1.alloc (.cells #[.slice A k cap, .slice (some ⟨n6, 0, none⟩) 1 1, .slice A3 m3 (cap - (tt))] 24)).heap.size := by rw [alloc_size]; omega
        replace hP := hP.below hal
        replace htk := htk.below hal
        replace hT3 := hT3.below hal
        replace he := he.below hal
        replace hB := below_then hB hal
        clear hal
        refine anyG_step (rs := [8]) (by kernel_rfl) (by simp) ?_
        refine AllG.cons rfl (fun K hK => ?_) AllG.nil
        go_simp
        refine hK.out _ _ (rpIn9 hP : RpS nc c _) ?_
        try simp only [Act.put, List.setIfInBounds_toArray, List.set_cons_zero, List.set_cons_succ]
        clear hK
        generalize U1.alloc (.cells #[.slice A k cap, .slice (some ⟨n6, 0, none⟩) 1 1, .slice A3 m3 (cap - (tt))] 24) = U2 at *
        have hcat : catE (pickR L1 [c] L3) 3 = L1 ++ [c] ++ L3 := by
          show (([] ++ L1) ++ [c]) ++ L3 = _
          rw [List.nil_append]
        have CC := concatRp_any U1.heap.size (pickR L1 [c] L3) (pickR A (some ⟨n6, 0, none⟩) A3) (pickR cap 1 (cap - (tt))) U2 hcells
          (fun j hj => by
            match j, hj with
            | 0, _ => exact htk
            | 1, _ => exact he
            | 2, _ => exact hT3)
          (fun j hj => by
            match j, hj with
            | 0, _ => exact hz
            | 1, _ => exact fun e => by cases e
            | 2, _ => exact hz3)
          (by rw [hcat, List.length_append, List.length_append, List.length_singleton, HE1.out, HE3.out]; omega) hsz
        rw [hcat, HTO.out] at CC
        generalize U1.heap.size = n7 at *
        clear hcells hcat hsz htk hT3 he
        have HCC := Lib.hid CC
        clear CC
        refine anyG_step (rs := [9]) (by kernel_rfl) (by simp) ?_
        refine AllG.cons rfl (fun K hK => ?_) AllG.nil
        go_simp
        refine HCC.out.mono ?_
        rintro r U3 ⟨A', c', rfl, hS', _, hb2⟩
        replace hP := hP.below hb2
        replace hB := below_then hB hb2
        clear hb2 HCC
        try go_wp2_with fail
        refine hK.out _ _ (rpIn9 hP : RpS nc c _) ?_
        try simp only [Act.put, List.setIfInBounds_toArray, List.set_cons_zero, List.set_cons_succ]
        clear hK
        refine anyG_step (rs := [10]) (by kernel_rfl) (by simp) ?_
        refine AllG.last (n := 10) rfl (fun K hK => ?_)
        go_simp
        refine hK.out _ _ ?_
        try simp only [Act.put, List.setIfInBounds_toArray, List.set_cons_zero, List.set_cons_succ]
        clear hK
        refine anyG_done (by kernel_rfl) ?_ _
        go_wp2_with fail
        go_ret
        exact ⟨A', c', rfl, hS', hB⟩
    · have hnew := mergeR_new l c (by rw [HK.out]; exact fun _ => he)
      rw [HK.out] at hnew
      have HTO := Lib.hid (hnew.symm.trans HRM.out)
      clear hnew
      generalize hx0 : l[k].d = x0 at *
      have g5 : (x0 == c.d) = false := beq_eq_false_iff_ne.2 he
      have g6 : decide (x0 = c.d) = false := decide_eq_false he
      clear he hx0
      go_quiet (fail)
      have hB1 := below_drew hB nq
      have hP1 : rpE.In (w1.drewN nq) nc c := hP
      clear hB hP s0 s1 s2 s3 s4 s5 s6 s7 s8 q0 q1 q2 q3 q4 q5 q6 q7 q8 g5 g6 f1 f2 hx HAA HC HK hbw HRM
      go_upto_region 7 with fail
      generalize w1.drewN nq = V at *
      have hB := hB1
      have hP := hP1
      clear hB1 hP1
      obtain ⟨A3, hA3⟩ : ∃ A3, (if cap = (k) then A else Option.map (fun x => x.add ((k) * 9)) A) = A3 := ⟨_, rfl⟩
      have g0 : (0 : Int) ≤ (k : Int) := by omega
      have g1 : (k : Int) ≤ (cap : Int) := by omega
      have g2 : (k : Int) ≤ (l.length : Int) := by omega
      have g3 : (0 : Int) ≤ ((k) : Int) := by omega
      have g4 : ((k) : Int) ≤ (cap : Int) := by omega
      have g5 : ((k) : Int) ≤ (l.length : Int) := by omega
      have HE1 := Lib.hid (show (l.take k).length = k by rw [List.length_take]; omega)
      have hkm : k + (l.length - (k)) ≤ 1001 := by omega
      have HE3 := Lib.hid (show (l.drop (k)).length = l.length - (k) by rw [List.length_drop])
      have htk := (hT.take k).below hB
      have hT3 := (hT.drop hlc hA3).below hB
      have hz3 := El.drop_none hz hA3
      generalize l.take k = L1 at *
      generalize l.drop (k) = L3 at *
      generalize hm3 : l.length - (k) = m3 at *
      replace hP : rpE.In V.drew nc c := hP
      replace hB := hB.drew
      replace htk : rpE.Sl V.drew A L1 := htk
      replace hT3 : rpE.Sl V.drew A3 L3 := hT3
      clear hT
      refine region_anyG (S := RpS nc c) 10 (by kernel_rfl) ?_
      generalize V.drew = U at *
      have hS : RpS nc c U := rpIn9 hP
      refine anyG_take (i := 0) (v := .slice A l.length cap) rfl (by kernel_rfl) (by kernel_rfl) (by kernel_rfl) (by kernel_rfl) (by kernel_rfl) (fun _ _ _ h => h) (Or.inl ⟨by rfl, fun w' hSw => by (obtain ⟨s0, s1, s2, s3, s4, s5, s6, s7, s8⟩ := hSw; go_simp)⟩) hS ?_
      try simp only [Act.put, List.setIfInBounds_toArray, List.set_cons_zero, List.set_cons_succ]
      refine anyG_take (i := 1) (v := .int .i64 k) rfl (by kernel_rfl) (by kernel_rfl) (by kernel_rfl) (by kernel_rfl) (by kernel_rfl) (fun _ _ _ h => h) (Or.inl ⟨by rfl, fun w' hSw => by (obtain ⟨s0, s1, s2, s3, s4, s5, s6, s7, s8⟩ := hSw; go_simp)⟩) hS ?_
      try simp only [Act.put, List.setIfInBounds_toArray, List.set_cons_zero, List.set_cons_succ]
      refine anyG_take (i := 2) (v := .slice A k cap) rfl (by kernel_rfl) (by kernel_rfl) (by kernel_rfl) (by kernel_rfl) (by kernel_rfl) (fun _ _ _ h => h) (Or.inl ⟨by rfl, fun w' hSw => by (obtain ⟨s0, s1, s2, s3, s4, s5, s6, s7, s8⟩ := hSw; go_simp)⟩) hS ?_
      try simp only [Act.put, List.setIfInBounds_toArray, List.set_cons_zero, List.set_cons_succ]
      refine anyG_take (i := 3) (v := .agg #[.int .i64 c.d, .int .i64 c.i, .int .i64 c.b, .int .i64 c.t, .int .i64 c.m, .int .i64 c.p, .int .i64 c.c, .int .i64 c.s, .int .i64 c.k]) rfl (by kernel_rfl) (by kernel_rfl) (by kernel_rfl) (by kernel_rfl) (by kernel_rfl) (fun _ _ _ h => h) (Or.inl ⟨by rfl, fun w' hSw => by (obtain ⟨s0, s1, s2, s3, s4, s5, s6, s7, s8⟩ := hSw; go_simp)⟩) hS ?_
      try simp only [Act.put, List.setIfInBounds_toArray, List.set_cons_zero, List.set_cons_succ]
      refine anyG_take (i := 5) (v := .slice A l.length cap) rfl (by kernel_rfl) (by kernel_rfl) (by kernel_rfl) (by kernel_rfl) (by kernel_rfl) (fun _ _ _ h => h) (Or.inl ⟨by rfl, fun w' hSw => by (obtain ⟨s0, s1, s2, s3, s4, s5, s6, s7, s8⟩ := hSw; go_simp)⟩) hS ?_
      try simp only [Act.put, List.setIfInBounds_toArray, List.set_cons_zero, List.set_cons_succ]
      refine anyG_take (i := 6) (v := .int .i64 (k)) rfl (by kernel_rfl) (by kernel_rfl) (by kernel_rfl) (by kernel_rfl) (by kernel_rfl) (fun _ _ _ h => h) (Or.inl ⟨by rfl, fun w' hSw => by (obtain ⟨s0, s1, s2, s3, s4, s5, s6, s7, s8⟩ := hSw; go_simp)⟩) hS ?_
      try simp only [Act.put, List.setIfInBounds_toArray, List.set_cons_zero, List.set_cons_succ]
      refine anyG_take (i := 7) (v := .slice A3 m3 (cap - (k))) rfl (by kernel_rfl) (by kernel_rfl) (by kernel_rfl) (by kernel_rfl) (by kernel_rfl) (fun _ _ _ h => h) (Or.inl ⟨by rfl, fun w' hSw => by (obtain ⟨s0, s1, s2, s3, s4, s5, s6, s7, s8⟩ := hSw; go_simp)⟩) hS ?_
      try simp only [Act.put, List.setIfInBounds_toArray, List.set_cons_zero, List.set_cons_succ]
      clear hm3
      refine anyG_step (rs := [4]) (by kernel_rfl) (by simp) ?_
      refine AllG.cons rfl (fun K hK => ?_) AllG.nil
      have he : rpE.Sl (U.alloc (.cells #[.int .i64 c.d, .int .i64 c.i, .int .i64 c.b, .int .i64 c.t, .int .i64 c.m, .int .i64 c.p, .int .i64 c.c, .int .i64 c.s, .int .i64 c.k] 59)) (some ⟨U.heap.size, 0, none⟩) [c] := (El.In.new (E := rpE) U c _ rfl).sl
      have hal := below_alloc (Below.refl U.heap.size U) (.cells #[.int .i64 c.d, .int .i64 c.i, .int .i64 c.b, .int .i64 c.t, .int .i64 c.m, .int .i64 c.p, .int .i64 c.c, .int .i64 c.s, .int .i64 c.k] 59)
      replace hP := hP.below hal
      replace htk := htk.below hal
      replace hT3 := hT3.below hal
      replace hB := below_then hB hal
      clear hal hS
      go_simp
      refine hK.out _ _ (rpIn9 hP : RpS nc c _) ?_
      try simp only [Act.put, List.setIfInBounds_toArray, List.set_cons_zero, List.set_cons_succ]
      clear hK
      generalize U.alloc (.cells #[.int .i64 c.d, .int .i64 c.i, .int .i64 c.b, .int .i64 c.t, .int .i64 c.m, .int .i64 c.p, .int .i64 c.c, .int .i64 c.s, .int .i64 c.k] 59) = U1 at *
      generalize U.heap.size = n6 at *
      have hal := below_alloc (Below.refl U1.heap.size U1) (.cells #[.slice A k cap, .slice (some ⟨n6, 0, none⟩) 1 1, .slice A3 m3 (cap - (k))] 24)
      have hcells : ∀ j, j < 3 → (U1.alloc (.cells #[.slice A k cap, .slice (some ⟨n6, 0, none⟩) 1 1, .slice A3 m3 (cap - (k))] 24)).cell? ⟨U1.heap.size, j, none⟩ = some (.slice (pickR A (some ⟨n6, 0, none⟩) A3 j) (pickR L1 [c] L3 j).length (pickR cap 1 (cap - (k)) j)) := fun j hj => by
        match j, hj with
        | 0, _ =>
          show _ = some (Value.slice A L1.length cap)
          rw [HE1.out]; go_simp
        | 1, _ => show _ = some (Value.slice (some ⟨n6, 0, none⟩) 1 1); go_simp
        | 2, _ =>
          show _ = some (Value.slice A3 L3.length (cap - (k)))
          rw [HE3.out]; go_simp
      have hsz : U1.heap.size < (U1.alloc (.cells #[.slice A k cap, .slice (some ⟨n6, 0, none⟩) 1 1, .slice A3 m3 (cap - (k))] 24)).heap.size := by rw [alloc_size]; omega
      replace hP := hP.below hal
      replace htk := htk.below hal
      replace hT3 := hT3.below hal
      replace he := he.below hal
      replace hB := below_then hB hal
      clear hal
      refine anyG_step (rs := [8]) (by kernel_rfl) (by simp) ?_
      refine AllG.cons rfl (fun K hK => ?_) AllG.nil
      go_simp
      refine hK.out _ _ (rpIn9 hP : RpS nc c _) ?_
      try simp only [Act.put, List.setIfInBounds_toArray, List.set_cons_zero, List.set_cons_succ]
      clear hK
      generalize U1.alloc (.cells #[.slice A k cap, .slice (some ⟨n6, 0, none⟩) 1 1, .slice A3 m3 (cap - (k))] 24) = U2 at *
      have hcat : catE (pickR L1 [c] L3) 3 = L1 ++ [c] ++ L3 := by
        show (([] ++ L1) ++ [c]) ++ L3 = _
        rw [List.nil_append]
      have CC := concatRp_any U1.heap.size (pickR L1 [c] L3) (pickR A (some ⟨n6, 0, none⟩) A3) (pickR cap 1 (cap - (k))) U2 hcells
        (fun j hj => by
          match j, hj with
          | 0, _ => exact htk
          | 1, _ => exact he
          | 2, _ => exact hT3)
        (fun j hj => by
          match j, hj with
          | 0, _ => exact hz
          | 1, _ => exact fun e => by cases e
          | 2, _ => exact hz3)
        (by rw [hcat, List.length_append, List.length_append, List.length_singleton, HE1.out, HE3.out]; omega) hsz
      rw [hcat, HTO.out] at CC
      generalize U1.heap.size = n7 at *
      clear hcells hcat hsz htk hT3 he
      have HCC := Lib.hid CC
      clear CC
      refine anyG_step (rs := [9]) (by kernel_rfl) (by simp) ?_
      refine AllG.cons rfl (fun K hK => ?_) AllG.nil
      go_simp
      refine HCC.out.mono ?_
      rintro r U3 ⟨A', c', rfl, hS', _, hb2⟩
      replace hP := hP.below hb2
      replace hB := below_then hB hb2
      clear hb2 HCC
      try go_wp2_with fail
      refine hK.out _ _ (rpIn9 hP : RpS nc c _) ?_
      try simp only [Act.put, List.setIfInBounds_toArray, List.set_cons_zero, List.set_cons_succ]
      clear hK
      refine anyG_step (rs := [10]) (by kernel_rfl) (by simp) ?_
      refine AllG.last (n := 10) rfl (fun K hK => ?_)
      go_simp
      refine hK.out _ _ ?_
      try simp only [Act.put, List.setIfInBounds_toArray, List.set_cons_zero, List.set_cons_succ]
      clear hK
      refine anyG_done (by kernel_rfl) ?_ _
      go_wp2_with fail
      go_ret
      exact ⟨A', c', rfl, hS', hB⟩
  · have hke : k = l.length := by omega
    have hnew := mergeR_new l c (by rw [hk]; exact fun h => absurd h hlt)
    rw [hk] at hnew
    have HTO := Lib.hid (hnew.symm.trans HRM.out)
    have f1 : decide ((k : Int) < (l.length : Int)) = false := decide_eq_false (by omega)
    have f2 : decide (k < l.length) = false := decide_eq_false hlt
    have hgi : (l.length : Int) ≤ (k : Int) := by omega
    clear hnew hke hk HRM
    go_quiet (fail)
    have hB1 := below_drew hB nq
    have hP1 : rpE.In (w1.drewN nq) nc c := hP
    clear hB hP q0 q1 q2 q3 q4 q5 q6 q7 q8 f1 f2
    go_upto_region 7 with fail
    generalize w1.drewN nq = V at *
    have hB := hB1
    have hP := hP1
    clear hB1 hP1
    obtain ⟨A3, hA3⟩ : ∃ A3, (if cap = (k) then A else Option.map (fun x => x.add ((k) * 9)) A) = A3 := ⟨_, rfl⟩
    have g0 : (0 : Int) ≤ (k : Int) := by omega
    have g1 : (k : Int) ≤ (cap : Int) := by omega
    have g2 : (k : Int) ≤ (l.length : Int) := by omega
    have g3 : (0 : Int) ≤ ((k) : Int) := by omega
    have g4 : ((k) : Int) ≤ (cap : Int) := by omega
    have g5 : ((k) : Int) ≤ (l.length : Int) := by omega
    have HE1 := Lib.hid (show (l.take k).length = k by rw [List.length_take]; omega)
    have hkm : k + (l.length - (k)) ≤ 1001 := by omega
    have HE3 := Lib.hid (show (l.drop (k)).length = l.length - (k) by rw [List.length_drop])
    have htk := (hT.take k).below hB
    have hT3 := (hT.drop hlc hA3).below hB
    have hz3 := El.drop_none hz hA3
    generalize l.take k = L1 at *
    generalize l.drop (k) = L3 at *
    generalize hm3 : l.length - (k) = m3 at *
    replace hP : rpE.In V.drew nc c := hP
    replace hB := hB.drew
    replace htk : rpE.Sl V.drew A L1 := htk
    replace hT3 : rpE.Sl V.drew A3 L3 := hT3
    clear hT
    refine region_anyG (S := RpS nc c) 10 (by kernel_rfl) ?_
    generalize V.drew = U at *
    have hS : RpS nc c U := rpIn9 hP
    refine anyG_take (i := 0) (v := .slice A l.length cap) rfl (by kernel_rfl) (by kernel_rfl) (by kernel_rfl) (by kernel_rfl) (by kernel_rfl) (fun _ _ _ h => h) (Or.inl ⟨by rfl, fun w' hSw => by (obtain ⟨s0, s1, s2, s3, s4, s5, s6, s7, s8⟩ := hSw; go_simp)⟩) hS ?_
    try simp only [Act.put, List.setIfInBounds_toArray, List.set_cons_zero, List.set_cons_succ]
    refine anyG_take (i := 1) (v := .int .i64 k) rfl (by kernel_rfl) (by kernel_rfl) (by kernel_rfl) (by kernel_rfl) (by kernel_rfl) (fun _ _ _ h => h) (Or.inl ⟨by rfl, fun w' hSw => by (obtain ⟨s0, s1, s2, s3, s4, s5, s6, s7, s8⟩ := hSw; go_simp)⟩) hS ?_
    try simp only [Act.put, List.setIfInBounds_toArray, List.set_cons_zero, List.set_cons_succ]
    refine anyG_take (i := 2) (v := .slice A k cap) rfl (by kernel_rfl) (by kernel_rfl) (by kernel_rfl) (by kernel_rfl) (by kernel_rfl) (fun _ _ _ h => h) (Or.inl ⟨by rfl, fun w' hSw => by (obtain ⟨s0, s1, s2, s3, s4, s5, s6, s7, s8⟩ := hSw; go_simp)⟩) hS ?_
    try simp only [Act.put, List.setIfInBounds_toArray, List.set_cons_zero, List.set_cons_succ]
    refine anyG_take (i := 3) (v := .agg #[.int .i64 c.d, .int .i64 c.i, .int .i64 c.b, .int .i64 c.t, .int .i64 c.m, .int .i64 c.p, .int .i64 c.c, .int .i64 c.s, .int .i64 c.k]) rfl (by kernel_rfl) (by kernel_rfl) (by kernel_rfl) (by kernel_rfl) (by kernel_rfl) (fun _ _ _ h => h) (Or.inl ⟨by rfl, fun w' hSw => by (obtain ⟨s0, s1, s2, s3, s4, s5, s6, s7, s8⟩ := hSw; go_simp)⟩) hS ?_
    try simp only [Act.put, List.setIfInBounds_toArray, List.set_cons_zero, List.set_cons_succ]
    refine anyG_take (i := 5) (v := .slice A l.length cap) rfl (by kernel_rfl) (by kernel_rfl) (by kernel_rfl) (by kernel_rfl) (by kernel_rfl) (fun _ _ _ h => h) (Or.inl ⟨by rfl, fun w' hSw => by (obtain ⟨s0, s1, s2, s3, s4, s5, s6, s7, s8⟩ := hSw; go_simp)⟩) hS ?_
    try simp only [Act.put, List.setIfInBounds_toArray, List.set_cons_zero, List.set_cons_succ]
    refine anyG_take (i := 6) (v := .int .i64 (k)) rfl (by kernel_rfl) (by kernel_rfl) (by kernel_rfl) (by kernel_rfl) (by kernel_rfl) (fun _ _ _ h => h) (Or.inl ⟨by rfl, fun w' hSw => by (obtain ⟨s0, s1, s2, s3, s4, s5, s6, s7, s8⟩ := hSw; go_simp)⟩) hS ?_
    try simp only [Act.put, List.setIfInBounds_toArray, List.set_cons_zero, List.set_cons_succ]
    refine anyG_take (i := 7) (v := .slice A3 m3 (cap - (k))) rfl (by kernel_rfl) (by kernel_rfl) (by kernel_rfl) (by kernel_rfl) (by kernel_rfl) (fun _ _ _ h => h) (Or.inl ⟨by rfl, fun w' hSw => by (obtain ⟨s0, s1, s2, s3, s4, s5, s6, s7, s8⟩ := hSw; go_simp)⟩) hS ?_
    try simp only [Act.put, List.setIfInBounds_toArray, List.set_cons_zero, List.set_cons_succ]
    clear hm3
    refine anyG_step (rs := [4]) (by kernel_rfl) (by simp) ?_
    refine AllG.cons rfl (fun K hK => ?_) AllG.nil
    have he : rpE.Sl (U.alloc (.cells #[.int .i64 c.d, .int .i64 c.i, .int .i64 c.b, .int .i64 c.t, .int .i64 c.m, .int .i64 c.p, .int .i64 c.c, .int .i64 c.s, .int .i64 c.k] 59)) (some ⟨U.heap.size, 0, none⟩) [c] := (El.In.new (E := rpE) U c _ rfl).sl
    have hal := below_alloc (Below.refl U.heap.size U) (.cells #[.int .i64 c.d, .int .i64 c.i, .int .i64 c.b, .int .i64 c.t, .int .i64 c.m, .int .i64 c.p, .int .i64 c.c, .int .i64 c.s, .int .i64 c.k] 59)
    replace hP := hP.below hal
    replace htk := htk.below hal
    replace hT3 := hT3.below hal
    replace hB := below_then hB hal
    clear hal hS
    go_simp
    refine hK.out _ _ (rpIn9 hP : RpS nc c _) ?_
    try simp only [Act.put, List.setIfInBounds_toArray, List.set_cons_zero, List.set_cons_succ]
    clear hK
    generalize U.alloc (.cells #[.int .i64 c.d, .int .i64 c.i, .int .i64 c.b, .int .i64 c.t, .int .i64 c.m, .int .i64 c.p, .int .i64 c.c, .int .i64 c.s, .int .i64 c.k] 59) = U1 at *
    generalize U.heap.size = n6 at *
    have hal := below_alloc (Below.refl U1.heap.size U1) (.cells #[.slice A k cap, .slice (some ⟨n6, 0, none⟩) 1 1, .slice A3 m3 (cap - (k))] 24)
    have hcells : ∀ j, j < 3 → (U1.alloc (.cells #[.slice A k cap, .slice (some ⟨n6, 0, none⟩) 1 1, .slice A3 m3 (cap - (k))] 24)).cell? ⟨U1.heap.size, j, none⟩ = some (.slice (pickR A (some ⟨n6, 0, none⟩) A3 j) (pickR L1 [c] L3 j).length (pickR cap 1 (cap - (k)) j)) := fun j hj => by
      match j, hj with
      | 0, _ =>
        show _ = some (Value.slice A L1.length cap)
        rw [HE1.out]; go_simp
      | 1, _ => show _ = some (Value.slice (some ⟨n6, 0, none⟩) 1 1); go_simp
      | 2, _ =>
        show _ = some (Value.slice A3 L3.length (cap - (k)))
        rw [HE3.out]; go_simp
    have hsz : U1.heap.size < (U1.alloc (.cells #[.slice A k cap, .slice (some ⟨n6, 0, none⟩) 1 1, .slice A3 m3 (cap - (k))] 24)).heap.size := by rw [alloc_size]; omega
    replace hP := hP.below hal
    replace htk := htk.below hal
    replace hT3 := hT3.below hal
    replace he := he.below hal
    replace hB := below_then hB hal
    clear hal
    refine anyG_step (rs := [8]) (by kernel_rfl) (by simp) ?_
    refine AllG.cons rfl (fun K hK => ?_) AllG.nil
    go_simp
    refine hK.out _ _ (rpIn9 hP : RpS nc c _) ?_
    try simp only [Act.put, List.setIfInBounds_toArray, List.set_cons_zero, List.set_cons_succ]
    clear hK
    generalize U1.alloc (.cells #[.slice A k cap, .slice (some ⟨n6, 0, none⟩) 1 1, .slice A3 m3 (cap - (k))] 24) = U2 at *
    have hcat : catE (pickR L1 [c] L3) 3 = L1 ++ [c] ++ L3 := by
      show (([] ++ L1) ++ [c]) ++ L3 = _
      rw [List.nil_append]
    have CC := concatRp_any U1.heap.size (pickR L1 [c] L3) (pickR A (some ⟨n6, 0, none⟩) A3) (pickR cap 1 (cap - (k))) U2 hcells
      (fun j hj => by
        match j, hj with
        | 0, _ => exact htk
        | 1, _ => exact he
        | 2, _ => exact hT3)
      (fun j hj => by
        match j, hj with
        | 0, _ => exact hz
        | 1, _ => exact fun e => by cases e
        | 2, _ => exact hz3)
      (by rw [hcat, List.length_append, List.length_append, List.length_singleton, HE1.out, HE3.out]; omega) hsz
    rw [hcat, HTO.out] at CC
    generalize U1.heap.size = n7 at *
    clear hcells hcat hsz htk hT3 he
    have HCC := Lib.hid CC
    clear CC
    refine anyG_step (rs := [9]) (by kernel_rfl) (by simp) ?_
    refine AllG.cons rfl (fun K hK => ?_) AllG.nil
    go_simp
    refine HCC.out.mono ?_
    rintro r U3 ⟨A', c', rfl, hS', _, hb2⟩
    replace hP := hP.below hb2
    replace hB := below_then hB hb2
    clear hb2 HCC
    try go_wp2_with fail
    refine hK.out _ _ (rpIn9 hP : RpS nc c _) ?_
    try simp only [Act.put, List.setIfInBounds_toArray, List.set_cons_zero, List.set_cons_succ]
    clear hK
    refine anyG_step (rs := [10]) (by kernel_rfl) (by simp) ?_
    refine AllG.last (n := 10) rfl (fun K hK => ?_)
    go_simp
    refine hK.out _ _ ?_
    try simp only [Act.put, List.setIfInBounds_toArray, List.set_cons_zero, List.set_cons_succ]
    clear hK
    refine anyG_done (by kernel_rfl) ?_ _
    go_wp2_with fail
    go_ret
    exact ⟨A', c', rfl, hS', hB⟩
end Go.Proofs.Ytnglpkfkepfkkaa
