/- Texts laid one behind the other: Io, Ip, Wa, Iq, Ir, Tc, Td, Shf, Tf, Tg, Is, Jc, Jd, Ed, Ec, Em, Eo. -/
import Derived.Test.YtndahomgglpdhaaDoorB05
import Derived.Shelf.Strings.Builder1
import Derived.Test.YtndahomgglpdhaaDoorChecked
import Derived.Lib.Builder
import Derived.Lib.AppendStr
import Derived.Deep.RegionHeld3
/- The program's reports: right of an array of fields, Right. -/
namespace Go.Proofs.YtndahomgglpdhaaDoor
open Go.RowKit Cod

def inB (r : Rp) (k : Nat) : Bool := decide ((rpL loB).getD k 0 ≤ (rpL r).getD k 0 ∧ (rpL r).getD k 0 ≤ (rpL hiB).getD k 0)
theorem inB_all {r : Rp} (h : ∀ k, k < 9 → inB r k = true) : rpB r = true := by
  have h0 : (0 : Int) ≤ r.d ∧ r.d ≤ 11 := of_decide_eq_true (h 0 (by decide))
  have h1 : (1 : Int) ≤ r.i ∧ r.i ≤ 1099511627776 := of_decide_eq_true (h 1 (by decide))
  have h2 : (0 : Int) ≤ r.b ∧ r.b ≤ 1099511627776 := of_decide_eq_true (h 2 (by decide))
  have h3 : (0 : Int) ≤ r.t ∧ r.t ≤ 1099511627776 := of_decide_eq_true (h 3 (by decide))
  have h4 : (1 : Int) ≤ r.m ∧ r.m ≤ 2 := of_decide_eq_true (h 4 (by decide))
  have h5 : (0 : Int) ≤ r.p ∧ r.p ≤ 1099511627776 := of_decide_eq_true (h 5 (by decide))
  have h6 : (0 : Int) ≤ r.c ∧ r.c ≤ 1099511627776 := of_decide_eq_true (h 6 (by decide))
  have h7 : (0 : Int) ≤ r.s ∧ r.s ≤ 1099511627776 := of_decide_eq_true (h 7 (by decide))
  have h8 : (0 : Int) ≤ r.k ∧ r.k ≤ 1099511627776 := of_decide_eq_true (h 8 (by decide))
  exact rpB_iff.2 ⟨by omega, by omega, h1, h2, h3, h5, h6, h7, h8⟩
theorem inB_of {r : Rp} (h : RpR r) : ∀ k, k < 9 → inB r k = true
  | 0, _ => decide_eq_true (show (0 : Int) ≤ r.d ∧ r.d ≤ 11 from by have := h.d; omega)
  | 1, _ => decide_eq_true (show (1 : Int) ≤ r.i ∧ r.i ≤ 1099511627776 from h.i)
  | 2, _ => decide_eq_true (show (0 : Int) ≤ r.b ∧ r.b ≤ 1099511627776 from h.b)
  | 3, _ => decide_eq_true (show (0 : Int) ≤ r.t ∧ r.t ≤ 1099511627776 from h.t)
  | 4, _ => decide_eq_true (show (1 : Int) ≤ r.m ∧ r.m ≤ 2 from by have := h.m; omega)
  | 5, _ => decide_eq_true (show (0 : Int) ≤ r.p ∧ r.p ≤ 1099511627776 from h.p)
  | 6, _ => decide_eq_true (show (0 : Int) ≤ r.c ∧ r.c ≤ 1099511627776 from h.c)
  | 7, _ => decide_eq_true (show (0 : Int) ≤ r.s ∧ r.s ≤ 1099511627776 from h.s)
  | 8, _ => decide_eq_true (show (0 : Int) ≤ r.k ∧ r.k ≤ 1099511627776 from h.k)
  | k + 9, h => absurd h (by omega)
theorem inB_out {r : Rp} {k : Nat} (hk : k < 9) (h : inB r k = false) : rpB r = false := by
  rw [Bool.eq_false_iff]; intro hb
  rw [inB_of (rpB_iff.1 hb) k hk] at h; cases h
set_option maxRecDepth 100000 in
set_option maxHeartbeats 2000000 in
theorem fdRight_any (r : Rp) (w : World) : Calls Tryd.prog 77 #[.agg #[.int .i64 r.d, .int .i64 r.i, .int .i64 r.b, .int .i64 r.t, .int .i64 r.m, .int .i64 r.p, .int .i64 r.c, .int .i64 r.s, .int .i64 r.k]] w fun e w' => e = .returned (.bool (rpB r)) ∧ Below w.heap.size w w' := by
  have hP : fdE.In (w.alloc (.cells #[.int .i64 r.d, .int .i64 r.i, .int .i64 r.b, .int .i64 r.t, .int .i64 r.m, .int .i64 r.p, .int .i64 r.c, .int .i64 r.s, .int .i64 r.k] 105)) w.heap.size r := El.In.new (E := fdE) w r _ rfl
  have hB := below_alloc (Below.refl w.heap.size w) (.cells #[.int .i64 r.d, .int .i64 r.i, .int .i64 r.b, .int .i64 r.t, .int .i64 r.m, .int .i64 r.p, .int .i64 r.c, .int .i64 r.s, .int .i64 r.k] 105)
  have HC0 := Lib.hid (fun (j : Nat) (hj : j < 0) => (absurd hj (Nat.not_lt_zero j) : inB r j = true))
  obtain ⟨bv, hbv⟩ : ∃ bv, rpB r = bv := ⟨_, rfl⟩
  rw [hbv]
  have HV := Lib.hid hbv
  clear hbv
  go_enter Tryd.func77, Tryd.ntmps77
  go_wp2_with fail
  generalize w.alloc (.cells #[.int .i64 r.d, .int .i64 r.i, .int .i64 r.b, .int .i64 r.t, .int .i64 r.m, .int .i64 r.p, .int .i64 r.c, .int .i64 r.s, .int .i64 r.k] 105) = W at *
  obtain ⟨n1, h1⟩ : ∃ n, w.heap.size = n := ⟨_, rfl⟩
  rw [h1] at hP ⊢
  have hn1 : w.heap.size ≤ n1 := by omega
  clear h1
  refine (bounds_any W).mono ?_
  rintro e w1 ⟨rfl, hb1⟩
  replace hP := hP.below hb1
  replace hB := below_then hB hb1
  clear hb1
  have hL : fdE.In ((w1.alloc (.cells #[.int .i64 0, .int .i64 0, .int .i64 0, .int .i64 0, .int .i64 0, .int .i64 0, .int .i64 0, .int .i64 0, .int .i64 0] 105)).alloc (.cells #[.int .i64 0, .int .i64 0, .int .i64 0, .int .i64 0, .int .i64 0, .int .i64 0, .int .i64 0, .int .i64 0, .int .i64 0] 105)) w1.heap.size zeroRp := (El.In.new (E := fdE) w1 zeroRp _ rfl).alloc _
  have hM := two_fd w1 #[.int .i64 0, .int .i64 0, .int .i64 0, .int .i64 0, .int .i64 0, .int .i64 0, .int .i64 0, .int .i64 0, .int .i64 0] 105
  have hnb := hP.lt
  replace hP := (hP.alloc (.cells #[.int .i64 0, .int .i64 0, .int .i64 0, .int .i64 0, .int .i64 0, .int .i64 0, .int .i64 0, .int .i64 0, .int .i64 0] 105)).alloc (.cells #[.int .i64 0, .int .i64 0, .int .i64 0, .int .i64 0, .int .i64 0, .int .i64 0, .int .i64 0, .int .i64 0, .int .i64 0] 105)
  have hwn1 := hB.size
  replace hB := below_alloc (below_alloc hB (.cells #[.int .i64 0, .int .i64 0, .int .i64 0, .int .i64 0, .int .i64 0, .int .i64 0, .int .i64 0, .int .i64 0, .int .i64 0] 105)) (.cells #[.int .i64 0, .int .i64 0, .int .i64 0, .int .i64 0, .int .i64 0, .int .i64 0, .int .i64 0, .int .i64 0, .int .i64 0] 105)
  have hL2 := hL.set loB #[.int .i64 loB.d, .int .i64 loB.i, .int .i64 loB.b, .int .i64 loB.t, .int .i64 loB.m, .int .i64 loB.p, .int .i64 loB.c, .int .i64 loB.s, .int .i64 loB.k] rfl
  have hM1 := hM.rowN w1.heap.size #[.int .i64 loB.d, .int .i64 loB.i, .int .i64 loB.b, .int .i64 loB.t, .int .i64 loB.m, .int .i64 loB.p, .int .i64 loB.c, .int .i64 loB.s, .int .i64 loB.k] (by omega)
  have hL3 := hL2.rowN (w1.heap.size + 1) #[.int .i64 hiB.d, .int .i64 hiB.i, .int .i64 hiB.b, .int .i64 hiB.t, .int .i64 hiB.m, .int .i64 hiB.p, .int .i64 hiB.c, .int .i64 hiB.s, .int .i64 hiB.k] (by omega)
  have hM3 := hM1.set hiB #[.int .i64 hiB.d, .int .i64 hiB.i, .int .i64 hiB.b, .int .i64 hiB.t, .int .i64 hiB.m, .int .i64 hiB.p, .int .i64 hiB.c, .int .i64 hiB.s, .int .i64 hiB.k] rfl
  have hP2 := (hP.rowN w1.heap.size #[.int .i64 loB.d, .int .i64 loB.i, .int .i64 loB.b, .int .i64 loB.t, .int .i64 loB.m, .int .i64 loB.p, .int .i64 loB.c, .int .i64 loB.s, .int .i64 loB.k] (by omega)).rowN (w1.heap.size + 1) #[.int .i64 hiB.d, .int .i64 hiB.i, .int .i64 hiB.b, .int .i64 hiB.t, .int .i64 hiB.m, .int .i64 hiB.p, .int .i64 hiB.c, .int .i64 hiB.s, .int .i64 hiB.k] (by omega)
  have hB2 := below_setRow (below_setRow hB hwn1 #[.int .i64 loB.d, .int .i64 loB.i, .int .i64 loB.b, .int .i64 loB.t, .int .i64 loB.m, .int .i64 loB.p, .int .i64 loB.c, .int .i64 loB.s, .int .i64 loB.k]) (show w.heap.size ≤ w1.heap.size + 1 by omega) #[.int .i64 hiB.d, .int .i64 hiB.i, .int .i64 hiB.b, .int .i64 hiB.t, .int .i64 hiB.m, .int .i64 hiB.p, .int .i64 hiB.c, .int .i64 hiB.s, .int .i64 hiB.k]
  clear hP hB hL2
  go_upto_region 2 with (first | (refine El.store fdRow rfl _ _ rfl w1.heap.size loB #[.int .i64 loB.d, .int .i64 loB.i, .int .i64 loB.b, .int .i64 loB.t, .int .i64 loB.m, .int .i64 loB.p, .int .i64 loB.c, .int .i64 loB.s, .int .i64 loB.k] rfl rfl rfl zeroRp hL ?_) | (refine El.store fdRow rfl _ _ rfl (w1.heap.size + 1) hiB #[.int .i64 hiB.d, .int .i64 hiB.i, .int .i64 hiB.b, .int .i64 hiB.t, .int .i64 hiB.m, .int .i64 hiB.p, .int .i64 hiB.c, .int .i64 hiB.s, .int .i64 hiB.k] rfl rfl rfl zeroRp hM1 ?_) | fail)
  clear hL hM hM1
  generalize (((w1.alloc (.cells #[.int .i64 0, .int .i64 0, .int .i64 0, .int .i64 0, .int .i64 0, .int .i64 0, .int .i64 0, .int .i64 0, .int .i64 0] 105)).alloc (.cells #[.int .i64 0, .int .i64 0, .int .i64 0, .int .i64 0, .int .i64 0, .int .i64 0, .int .i64 0, .int .i64 0, .int .i64 0] 105)).setRow w1.heap.size #[.int .i64 loB.d, .int .i64 loB.i, .int .i64 loB.b, .int .i64 loB.t, .int .i64 loB.m, .int .i64 loB.p, .int .i64 loB.c, .int .i64 loB.s, .int .i64 loB.k]).setRow (w1.heap.size + 1) #[.int .i64 hiB.d, .int .i64 hiB.i, .int .i64 hiB.b, .int .i64 hiB.t, .int .i64 hiB.m, .int .i64 hiB.p, .int .i64 hiB.c, .int .i64 hiB.s, .int .i64 hiB.k] = V at *
  generalize w1.heap.size + 1 = n4 at *
  generalize w1.heap.size = n3 at *
  go_upto_region 3 with (first | (refine El.load fdRow rfl _ rfl n1 0 rfl r hP2.at #[.int .i64 r.d, .int .i64 r.i, .int .i64 r.b, .int .i64 r.t, .int .i64 r.m, .int .i64 r.p, .int .i64 r.c, .int .i64 r.s, .int .i64 r.k] rfl ?_) | fail)
  have HL := Lib.hid (fun k hk => fdCell hL3 k hk)
  have HM := Lib.hid (fun k hk => fdCell hM3 k hk)
  clear hL3 hM3 hP2 hnb
  go_loopw [12] (fun i wr => ∃ k : Nat, k ≤ 9 ∧ i = .int .i64 k ∧ Hid (∀ j, j < k → inB r j = true) ∧ V = wr) (fun i _ => 9 - (intOf i).toNat)
  case atStart => exact ⟨0, Nat.zero_le _, rfl, HC0, rfl⟩
  case round =>
    clear HC0
    obtain ⟨k, hk, rfl, HC, rfl⟩ := hrel
    by_cases hkl : k < 9
    · have hx := fun wx => idxFd r wx k hkl
      have c1 := HL.out k hkl
      have c2 := HM.out k hkl
      have HO := Lib.hid (inB_out (r := r) hkl)
      have HN := Lib.hid (fun (h : inB r k = true) (j : Nat) (hj : j < k + 1) => (by
        by_cases e : j < k
        · exact HC.out j e
        · obtain rfl : j = k := by omega
          exact h : inB r j = true))
      have HI := Lib.hid (show inB r k = decide ((rpL loB).getD k 0 ≤ (rpL r).getD k 0 ∧ (rpL r).getD k 0 ≤ (rpL hiB).getD k 0) from rfl)
      generalize (rpL r).getD k 0 = n at *
      generalize (rpL loB).getD k 0 = lo at *
      generalize (rpL hiB).getD k 0 = hi at *
      by_cases h0 : n < lo
      · have hv := HO.out (HI.out.trans (decide_eq_false (by omega)))
        obtain rfl : false = bv := hv.symm.trans HV.out
        have f1 : decide (n < lo) = true := decide_eq_true h0
        clear hv
        go_wp2_with fail
        go_ret
        exact ⟨rfl, hB2⟩
      · have f1 : decide (n < lo) = false := decide_eq_false h0
        by_cases h1 : hi < n
        · have hv := HO.out (HI.out.trans (decide_eq_false (by omega)))
          obtain rfl : false = bv := hv.symm.trans HV.out
          have f2 : decide (hi < n) = true := decide_eq_true h1
          clear hv
          go_wp2_with fail
          go_ret
          exact ⟨rfl, hB2⟩
        · have f2 : decide (hi < n) = false := decide_eq_false h1
          have HN2 := Lib.hid (HN.out (HI.out.trans (decide_eq_true (by omega))))
          go_wp2_with fail
          exact ⟨⟨k + 1, by omega, by go_num, HN2, by trivial⟩, by simp [intOf]; omega⟩
    · obtain rfl : k = 9 := by omega
      have hv := (inB_all HC.out).symm.trans HV.out
      subst hv
      go_wp2_with fail
      go_ret
      exact ⟨rfl, hB2⟩

set_option maxRecDepth 100000 in
set_option maxHeartbeats 2000000 in
theorem rpRight_any (r : Rp) (w : World) : Calls Tryd.prog 33 #[.agg #[.int .i64 r.d, .int .i64 r.i, .int .i64 r.b, .int .i64 r.t, .int .i64 r.m, .int .i64 r.p, .int .i64 r.c, .int .i64 r.s, .int .i64 r.k]] w fun e w' => e = .returned (.bool (rpB r)) ∧ Below w.heap.size w w' := by
  have hP : rpE.In (w.alloc (.cells #[.int .i64 r.d, .int .i64 r.i, .int .i64 r.b, .int .i64 r.t, .int .i64 r.m, .int .i64 r.p, .int .i64 r.c, .int .i64 r.s, .int .i64 r.k] 54)) w.heap.size r := El.In.new (E := rpE) w r _ rfl
  have hB := below_alloc (Below.refl w.heap.size w) (.cells #[.int .i64 r.d, .int .i64 r.i, .int .i64 r.b, .int .i64 r.t, .int .i64 r.m, .int .i64 r.p, .int .i64 r.c, .int .i64 r.s, .int .i64 r.k] 54)
  have C1 := Lib.hid (fun wx => fieldsOf_any r wx)
  have C2 := Lib.hid (fun wx => fdRight_any r wx)
  generalize rpB r = bv at *
  go_enter Tryd.func33, Tryd.ntmps33
  go_wp2_with (first | (refine El.load rpRow rfl _ rfl w.heap.size 0 rfl r hP.at #[.int .i64 r.d, .int .i64 r.i, .int .i64 r.b, .int .i64 r.t, .int .i64 r.m, .int .i64 r.p, .int .i64 r.c, .int .i64 r.s, .int .i64 r.k] rfl ?_) | fail)
  refine (C1.out _).mono ?_
  rintro e w1 ⟨rfl, hb1⟩
  replace hB := below_then hB hb1
  go_wp2_with fail
  refine (C2.out _).mono ?_
  rintro e w2 ⟨rfl, hb2⟩
  go_wp2_with fail
  go_ret
  exact ⟨rfl, below_then hB hb2⟩
end Go.Proofs.YtndahomgglpdhaaDoor

/- The library's Compare of two ints and of two rows of three; the program's Newer. -/
namespace Go.Proofs.YtndahomgglpdhaaDoor
open Go.RowKit Cod

def sgnI (a b : Int) : Int := if a < b then -1 else if b < a then 1 else 0
/-- A region's ways brought to one: the frame behind it is F of two blocks, whatever the way. -/
def MergeN (F : Nat → Nat → Act) (R : Nat → Nat → World → Prop) : Exit → Act → World → Prop
  | .normal, a, w => ∃ y n, a = F y n ∧ R y n w
  | _, _, _ => False
theorem wp_mergeN {P : Program} {c : Code} {Q : Exit → Act → World → Prop} {a : Act} {w : World} (R : Nat → Nat → World → Prop) {F : Nat → Nat → Act} (h : c.wp P (MergeN F R) a w) (k : ∀ y n w, R y n w → Q .normal (F y n) w) : c.wp P Q a w :=
  Code.wp_mono (fun e a w h => by
    cases e with
    | normal => obtain ⟨y, n, rfl, hr⟩ := h; exact k y n w hr
    | _ => exact h.elim) h
def row3 (r : Rp) : Nat → Int
  | 0 => r.i
  | 1 => r.b
  | _ => r.t
theorem row3_lt {a b : Rp} : ∀ k, k < 3 → (∀ j, j < k → row3 a j = row3 b j) → row3 a k < row3 b k → newB a b = false := fun k hk h0 h1 => by
  rw [Bool.eq_false_iff]; intro hn; rw [newB_iff] at hn
  match k, hk with
  | 0, _ => have h1 : a.i < b.i := h1; omega
  | 1, _ => have h1 : a.b < b.b := h1; have e0 : a.i = b.i := h0 0 (by decide); omega
  | 2, _ => have h1 : a.t < b.t := h1; have e0 : a.i = b.i := h0 0 (by decide); have e1 : a.b = b.b := h0 1 (by decide); omega
theorem row3_gt {a b : Rp} : ∀ k, k < 3 → (∀ j, j < k → row3 a j = row3 b j) → row3 b k < row3 a k → newB a b = true := fun k hk h0 h1 => by
  rw [newB_iff]
  match k, hk with
  | 0, _ => have h1 : b.i < a.i := h1; omega
  | 1, _ => have h1 : b.b < a.b := h1; have e0 : a.i = b.i := h0 0 (by decide); omega
  | 2, _ => have h1 : b.t < a.t := h1; have e0 : a.i = b.i := h0 0 (by decide); have e1 : a.b = b.b := h0 1 (by decide); omega
theorem row3_eq {a b : Rp} (h : ∀ j, j < 3 → row3 a j = row3 b j) : newB a b = false := by
  rw [Bool.eq_false_iff]; intro hn; rw [newB_iff] at hn
  have e0 : a.i = b.i := h 0 (by decide)
  have e1 : a.b = b.b := h 1 (by decide)
  have e2 : a.t = b.t := h 2 (by decide)
  omega
theorem row3_cells {w : World} {n : Nat} {r : Rp} (h : fdE.In w n r) : ∀ k, k < 3 → w.cell? ⟨n, 1 + k, none⟩ = some (.int .i64 (row3 r k))
  | 0, _ => h.cell 1
  | 1, _ => h.cell 2
  | 2, _ => h.cell 3
  | k + 3, h => absurd h (by omega)
end Go.Proofs.YtndahomgglpdhaaDoor

/- Of the library, at operations and undos: Clone, Grow, Concat. -/
namespace Go.Proofs.YtndahomgglpdhaaDoor
open Go.RowKit Tre Cod

def catE {α : Type} (F : Nat → List α) : Nat → List α
  | 0 => []
  | k + 1 => catE F k ++ F k
theorem catE_le {α : Type} (F : Nat → List α) (k : Nat) : ∀ n, k ≤ n → (catE F k).length ≤ (catE F n).length
  | 0, h => by obtain rfl : k = 0 := by omega
               exact Nat.le_refl _
  | n + 1, h => by
    by_cases e : k = n + 1
    · subst e; exact Nat.le_refl _
    · have := catE_le F k n (by omega)
      rw [catE, List.length_append]; omega

theorem infoOp : (Tryd.prog.info? 50).map (fun i => (i.zero, i.size, i.bytes)) = some (some (.agg #[.int .i64 0, .int .i64 0, .int .i64 0, .int .i64 0, .int .i64 0, .int .i64 0, .string ⟨#[]⟩]), 7, 64) := by kernel_rfl
end Go.Proofs.YtndahomgglpdhaaDoor

/- The program's reports: place; Clone, Grow, Concat of reports; Merge. -/
namespace Go.Proofs.YtndahomgglpdhaaDoor
open Go.RowKit Cod

theorem cellLt {w : World} {b i : Nat} {v : Value} (h : w.cell? ⟨b, i, none⟩ = some v) : b < w.heap.size := World.block_lt_of_cell? _ _ h
theorem infoRp : (Tryd.prog.info? 54).map (fun i => (i.zero, i.size, i.bytes)) = some (some (.agg #[.int .i64 0, .int .i64 0, .int .i64 0, .int .i64 0, .int .i64 0, .int .i64 0, .int .i64 0, .int .i64 0, .int .i64 0]), 9, 72) := by kernel_rfl
end Go.Proofs.YtndahomgglpdhaaDoor

/- The program's reports: Merge. -/
namespace Go.Proofs.YtndahomgglpdhaaDoor
open Go.RowKit Cod
/-- Three lists, three addresses, three numbers. -/
def pickR {α : Type} (a b c : α) : Nat → α
  | 0 => a
  | 1 => b
  | _ => c
end Go.Proofs.YtndahomgglpdhaaDoor

/- What may be a tree: of the program. -/
namespace Go.Proofs.YtndahomgglpdhaaDoor
open Go.RowKit Tre Nam Cod

theorem okPl_five {n u : Int} {P : Prop} (h1 : ¬ 2 ≤ n → P) (h2 : 2 ≤ n → ¬ n < 64 → P) (h3 : 2 ≤ n → n < 64 → ¬ 0 ≤ u → P) (h4 : 2 ≤ n → n < 64 → 0 ≤ u → ¬ u < 64 → P) (h5 : 2 ≤ n → n < 64 → 0 ≤ u → u < 64 → P) : P := by
  by_cases a : 2 ≤ n
  · by_cases b : n < 64
    · by_cases c : 0 ≤ u
      · by_cases d : u < 64
        · exact h5 a b c d
        · exact h4 a b c d
      · exact h3 a b c
    · exact h2 a b
  · exact h1 a
theorem okPl_false {p : Pl} (h : ¬ (2 ≤ p.n ∧ p.n < 64 ∧ 0 ≤ p.u ∧ p.u < 64)) : okPl p = false := by
  unfold okPl; rw [decide_eq_false h]; rfl
theorem okPl_name {p : Pl} (h : 2 ≤ p.n ∧ p.n < 64 ∧ 0 ≤ p.u ∧ p.u < 64) : okPl p = isName (L p.s) := by
  unfold okPl; rw [decide_eq_true h]; rfl

/-- The places ahead of i may be, and rise. -/
def GoodTo (l : List Pl) (i : Nat) : Prop := ∀ k (h : k < l.length), k < i → okPl l[k] = true ∧ ∀ (h0 : 0 < k), (l[k - 1]'(by omega)).n < l[k].n
theorem goodTo_next {l : List Pl} {i : Nat} (h : GoodTo l i) (hi : i < l.length) (h1 : okPl l[i] = true) (h2 : ∀ (h0 : 0 < i), (l[i - 1]'(by omega)).n < l[i].n) : GoodTo l (i + 1) := by
  intro k hk hlt
  by_cases e : k = i
  · subst e; exact ⟨h1, h2⟩
  · exact h k hk (by omega)
theorem rising_of : ∀ {l : List Pl}, (∀ k (h : k < l.length) (h0 : 0 < k), (l[k - 1]'(by omega)).n < l[k].n) → rising l = true
  | [], _ => rfl
  | [_], _ => rfl
  | p :: q :: l, h => by
    unfold rising
    rw [Bool.and_eq_true, decide_eq_true_iff]
    refine ⟨h 1 (by simp) (by omega), rising_of (l := q :: l) fun k hk h0 => ?_⟩
    have := h (k + 1) (by simpa using hk) (by omega)
    obtain ⟨m, rfl⟩ : ∃ m, k = m + 1 := ⟨k - 1, by omega⟩
    simpa using this
def riseB (l : List Pl) : Bool := l.all okPl && rising l
theorem goodTo_all {l : List Pl} (h : GoodTo l l.length) : riseB l = true := by
  unfold riseB
  rw [Bool.and_eq_true, List.all_eq_true]
  refine ⟨fun p hp => ?_, rising_of fun k hk h0 => (h k hk hk).2 h0⟩
  obtain ⟨k, hk, rfl⟩ := List.getElem_of_mem hp
  exact (h k hk hk).1
theorem goodTo_back {l : List Pl} (h : riseB l = true) : (∀ k (h : k < l.length), okPl l[k] = true) ∧ Sorted l := by
  unfold riseB at h
  rw [Bool.and_eq_true, List.all_eq_true] at h
  exact ⟨fun k hk => h.1 _ (List.getElem_mem hk), rising_sorted h.2⟩
theorem goodTo_bad {l : List Pl} {i : Nat} (hi : i < l.length) (h : ¬ (okPl l[i] = true ∧ ∀ (h0 : 0 < i), (l[i - 1]'(by omega)).n < l[i].n)) : riseB l = false := by
  rcases e : riseB l with _ | _
  · rfl
  · obtain ⟨h1, h2⟩ := goodTo_back e
    exact absurd ⟨h1 i hi, fun h0 => h2 _ _ (by omega) hi (by omega)⟩ h

end Go.Proofs.YtndahomgglpdhaaDoor

/- What may be a tree: Right of both. -/
namespace Go.Proofs.YtndahomgglpdhaaDoor
open Go.RowKit Tre Nam Cod

def ringless (l : List Pl) : Bool := l.all fun p => !above l p.n p.u
theorem treeB_two (l : List Pl) : treeB l = (riseB l && ringless l) := by unfold treeB riseB ringless; rw [Bool.and_assoc]
def FreeTo (l : List Pl) (i : Nat) : Prop := ∀ k (h : k < l.length), k < i → above l l[k].n l[k].u = false
theorem free_next {l : List Pl} {i : Nat} (h : FreeTo l i) (hi : i < l.length) (h1 : above l l[i].n l[i].u = false) : FreeTo l (i + 1) := by
  intro k hk hlt
  by_cases e : k = i
  · subst e; exact h1
  · exact h k hk (by omega)
theorem free_all {l : List Pl} (h : FreeTo l l.length) : ringless l = true := by
  unfold ringless
  rw [List.all_eq_true]
  intro p hp
  obtain ⟨k, hk, rfl⟩ := List.getElem_of_mem hp
  rw [h k hk hk]; rfl
theorem free_bad {l : List Pl} {i : Nat} (hi : i < l.length) (h : above l l[i].n l[i].u = true) : ringless l = false := by
  rcases e : ringless l with _ | _
  · rfl
  · unfold ringless at e
    rw [List.all_eq_true] at e
    have := e _ (List.getElem_mem hi)
    rw [h] at this; exact this.symm

end Go.Proofs.YtndahomgglpdhaaDoor

/- The library's contract of Builder.String, laid at this program's numbers. -/
namespace Go.Proofs.YtndahomgglpdhaaDoor
open Go.Shelf
def lays169_ren : Go.Shelf.Ren := ⟨fun | 169 => 47 | n => n, fun | 70 => 66 | 9 => 9 | 0 => 0 | 72 => 68 | 37 => 40 | 127 => 111 | 3 => 3 | 5 => 5 | n => n, fun | n => n⟩
theorem lays169 : Go.Proofs.Lays.n169 Tryd.prog lays169_ren := {
  mixed := by kernel_rfl
  f169 := Tryd.func47.trans (congrArg some (by kernel_rfl))
  t0 := Tryd.underlying0
  a0 := Tryd.isAgg0
  z0 := Tryd.sizeOf0
  v0 := Tryd.zeroValue0
  t3 := Tryd.underlying3
  a3 := Tryd.isAgg3
  z3 := Tryd.sizeOf3
  v3 := Tryd.zeroValue3
  t9 := Tryd.underlying9
  a9 := Tryd.isAgg9
  z9 := Tryd.sizeOf9
  v9 := Tryd.zeroValue9
  t37 := Tryd.underlying40
  a37 := Tryd.isAgg40
  z37 := Tryd.sizeOf40
  v37 := Tryd.zeroValue40
  t70 := Tryd.underlying66
  a70 := Tryd.isAgg66
  z70 := Tryd.sizeOf66
  v70 := Tryd.zeroValue66
  t72 := Tryd.underlying68
  a72 := Tryd.isAgg68
  z72 := Tryd.sizeOf68
  v72 := Tryd.zeroValue68
  t127 := Tryd.underlying111
  a127 := Tryd.isAgg111
  z127 := Tryd.sizeOf111
  v127 := Tryd.zeroValue111 }
theorem builder_Extra_169 : Builder.Extra Tryd.prog lays169_ren := {
  sizeBuilder := by kernel_rfl
  liesBuilder := by kernel_rfl
  t5 := Tryd.underlying5
  a5 := Tryd.isAgg5
  z5 := Tryd.sizeOf5
  v5 := Tryd.zeroValue5
  infoByte := by kernel_rfl
  cellsByte := by kernel_rfl
  sizeByte := by kernel_rfl
  neB5 := by decide }
open Go.RowKit in
theorem builder_String_any (B b : Nat) (l : List UInt8) (w : World) (h : Lib.IsBuilder 68 5 B b (Lib.byteCells l) w) (hBw : B ≤ w.heap.size) :
    Calls Tryd.prog 47 #[.pointer (some ⟨b, 0, none⟩)] w fun e w' => e = .returned (.string ⟨l.toArray⟩) ∧ Below B w w' := Any.Builder_String_any lays169 builder_Extra_169 B b l w h hBw
end Go.Proofs.YtndahomgglpdhaaDoor

/- The library's Builder: what WriteString does with one of the call's own. -/
namespace Go.Proofs.YtndahomgglpdhaaDoor
open Go.RowKit

theorem bd_info : ∃ j, Tryd.prog.info? 68 = some j ∧ j.size = 2 := by
  have h : (Tryd.prog.info? 68).map (·.size) = some 2 := by kernel_rfl
  obtain ⟨j, hj, hjs⟩ := Option.map_eq_some_iff.1 h
  exact ⟨j, hj, hjs⟩
theorem bd_lies : liesAt Tryd.prog Tryd.prog.depth 68 (2 / Tryd.prog.cellsOf 68) 0 68 1 = true := by kernel_rfl
set_option maxRecDepth 100000 in
theorem ccheck_used (b : Nat) (w : World) (h0 : w.cell? ⟨b, 0, none⟩ = some (.pointer (some ⟨b, 0, none⟩))) :
    Calls Tryd.prog 80 #[.pointer (some ⟨b, 0, none⟩)] w fun e w' => e = .returned (.tuple #[]) ∧ w' = w := by
  obtain ⟨j, hj, _⟩ := bd_info
  go_enter Tryd.func80, Tryd.ntmps80
  go_wp2
  rw [Lib.run_neq_ptr_same w _ Tryd.underlying66 hj]
  go_wp2
  go_end0
  exact ⟨rfl, rfl⟩
set_option maxRecDepth 100000 in
theorem ccheck_new (b : Nat) (w : World) (h0 : w.cell? ⟨b, 0, none⟩ = some (.pointer none)) (hsh : w.shape? b = some (68, 2)) (hfz : w.frozen? ⟨b, 0, none⟩ = false) :
    Calls Tryd.prog 80 #[.pointer (some ⟨b, 0, none⟩)] w fun e w' => e = .returned (.tuple #[]) ∧ w' = w.setCell ⟨b, 0, none⟩ (.pointer (some ⟨b, 0, none⟩)) := by
  obtain ⟨j, hj, hjs⟩ := bd_info
  go_enter Tryd.func80, Tryd.ntmps80
  go_wp2
  rw [Lib.run_to_unsafe w ⟨b, 0, none⟩ Tryd.underlying66 Tryd.underlying122 hj (by rw [hjs]; decide) hsh (Nat.zero_lt_succ 1)]
  simp only [Result.andThen]
  rw [Oper.upon_value]
  go_wp2
  rw [run_callFunc_extern Tryd.func99 (by kernel_rfl) (by kernel_rfl) (by kernel_rfl) (e := Extern.AbiNoEscape.same) (by kernel_rfl)]
  rw [Lib.run_noEscape]
  simp only [Result.andThen]
  rw [Oper.upon_value]
  go_wp2
  rw [Lib.run_from_unsafe w ⟨b, 0, none⟩ Tryd.underlying122 Tryd.underlying66 hj hsh bd_lies]
  simp only [Result.andThen]
  rw [Oper.upon_value]
  go_wp2
  go_end0
  exact ⟨rfl, rfl⟩

/-- What is no row of bytes and isn't block b stays. -/
def Rest (b : Nat) (w w' : World) : Prop := ∀ k cs T fr, w.heap[k]? = some (.cells cs T fr) → k ≠ b → T ≠ 5 → w'.heap[k]? = w.heap[k]?
theorem Rest.then {b : Nat} {w w1 w2 : World} (h : Rest b w w1) (k : Rest b w1 w2) : Rest b w w2 := fun i cs T fr hi hne hT => by
  have h1 := h i cs T fr hi hne hT
  rw [k i cs T fr (h1.trans hi) hne hT, h1]
theorem Rest.cell (b : Nat) (w : World) (j : Nat) (v : Value) : Rest b w (w.setCell ⟨b, j, none⟩ v) := fun k _ _ _ _ hne _ => Below.heap_setCell _ _ _ _ hne

theorem ccheck_any (B b : Nat) (bs : List Value) (w : World) (h : Lib.IsBuilder 68 5 B b bs w) :
    Calls Tryd.prog 80 #[.pointer (some ⟨b, 0, none⟩)] w fun e w' => e = .returned (.tuple #[]) ∧ Lib.BuilderAt 68 5 B b (.pointer (some ⟨b, 0, none⟩)) bs w' ∧ Below B w w' ∧ Rest b w w' := by
  rcases h with h | h
  · refine (ccheck_new b w h.cell0 h.shape h.frozen0).mono ?_
    rintro e w' ⟨rfl, rfl⟩
    exact ⟨rfl, h.used _, (Below.refl B w).setCell (p := ⟨b, 0, none⟩) h.1 _, Rest.cell b w 0 _⟩
  · refine (ccheck_used b w h.cell0).mono ?_
    rintro e w' ⟨rfl, rfl⟩
    exact ⟨rfl, h, Below.refl B _, fun _ _ _ _ _ _ _ => rfl⟩

set_option maxHeartbeats 1000000 in
set_option maxRecDepth 100000 in
theorem wstr_any (B b : Nat) (bs : List Value) (s : ByteArray) (w : World) (h : Lib.IsBuilder 68 5 B b bs w) (hlen : bs.length + s.size ≤ 140737488355328) (hBw : B ≤ w.heap.size) :
    Calls Tryd.prog 38 #[.pointer (some ⟨b, 0, none⟩), .string s] w fun e w' => e = .returned (.tuple #[.int .i64 s.size, .nilIface]) ∧ Lib.IsBuilder 68 5 B b (bs ++ Lib.strCells s) w' ∧ Below B w w' ∧ Rest b w w' := by
  have X := builder_Extra_169
  obtain ⟨i0, hi, hz0, hz1, hz2⟩ := info_parts X.infoByte
  have C := ccheck_any B b bs w h
  go_enter Tryd.func38, Tryd.ntmps38
  go_wp2_with (go_at_call 80; (with_reducible refine C.mono ?_))
  rintro e w1 ⟨rfl, h1, hb1, hr1⟩
  obtain ⟨hB, v, hbk, hown, hne⟩ := h1
  have c0 : w1.cell? ⟨b, 0, none⟩ = some (.pointer (some ⟨b, 0, none⟩)) := by rw [Lib.cell_of_heap hbk]; rfl
  have c1 : w1.cell? ⟨b, 1, none⟩ = some v := by rw [Lib.cell_of_heap hbk]; rfl
  go_wp2_with (at_builtin; refine Lib.wpList_append_own_string _ rfl _ _ 40 9 rfl B 5 i0 Tryd.underlying40 Tryd.underlying9 hi hz0 hz1 hz2 _ _ _ rfl hown s rfl ?c3 ?c4 ?c5 ?_)
  case c3 => unfold maxLen; omega
  case c4 => omega
  case c5 => have := hb1.size; omega
  intro v' w2 hown' hgrow _
  have hlt : b < w1.heap.size := by
    rcases Nat.lt_or_ge b w1.heap.size with h' | h'
    · exact h'
    · simp [Array.getElem?_eq_none h'] at hbk
  have hb2 : w2.heap[b]? = some (.cells #[.pointer (some ⟨b, 0, none⟩), v] 68 (0, 0)) := by
    rw [hgrow.block b hlt (fun e => hne e.symm)]
    exact hbk
  have d0 : w2.cell? ⟨b, 0, none⟩ = some (.pointer (some ⟨b, 0, none⟩)) := by rw [Lib.cell_of_heap hb2]; rfl
  have d1 : w2.cell? ⟨b, 1, none⟩ = some v := by rw [Lib.cell_of_heap hb2]; rfl
  have f1 : w2.frozen? ⟨b, 1, none⟩ = false := Lib.frozen_of_heap hb2 1
  have hr2 : Rest b w1 w2 := fun k cs T fr hk hkb hT => by
    have hkl : k < w1.heap.size := by
      rcases Nat.lt_or_ge k w1.heap.size with h' | h'
      · exact h'
      · simp [Array.getElem?_eq_none h'] at hk
    exact hgrow.block k hkl (fun e => Lib.ownBlock_ne hown hk hT e.symm)
  obtain ⟨ao, n', cap, rfl⟩ : ∃ ao n' cap, v' = .slice ao n' cap := by
    rcases hown'.2 with ⟨hv, _⟩ | ⟨g, cap, cur, hv, _⟩
    · exact ⟨_, _, _, hv⟩
    · exact ⟨_, _, _, hv⟩
  go_wp2
  go_ret2
  refine ⟨rfl, Or.inr ?_, ?_, (hr1.then hr2).then (Rest.cell b w2 1 _)⟩
  · exact Lib.BuilderAt.put (T := 68) (e := 5) hB hb2 (bs' := bs ++ Lib.strCells s) (by simpa [Lib.strCells_length] using hown') X.neB5
  · exact (hb1.grown hgrow (by have := hb1.size; omega) (fun k hk => (hown.lt k hk).1)).setCell (p := ⟨b, 1, none⟩) hB _
end Go.Proofs.YtndahomgglpdhaaDoor

/- What Print gives, of the program and of the document. -/
namespace Go.Proofs.YtndahomgglpdhaaDoor
open Go.RowKit Tre Nam Cod

theorem strCells_app (a b : ByteArray) : Lib.strCells (a ++ b) = Lib.strCells a ++ Lib.strCells b := by
  unfold Lib.strCells; rw [← List.map_append]; congr 1
theorem back_L (x : ByteArray) : (⟨(L x).toArray⟩ : ByteArray) = x := by cases x; simp [L]
theorem headOf (l : List Pl) (n : Nat) (h : l.length ≤ 1000) : (bytesOf l.length).size ≤ 10 := bytesOf_le _ (by omega) (by omega)
theorem catL_take (l : List Pl) (k : Nat) (h : k < l.length) : catL (l.take (k + 1)) = catL (l.take k) ++ plBytes l[k] := by
  rw [List.take_succ_eq_append_getElem h, catL_snoc]
theorem take_le {l : List Pl} (hf : ∀ p ∈ l, Fit p) (k : Nat) : (catL (l.take k)).size ≤ 46 * l.length := by
  have h := catL_le (l.take k) (fun p hp => hf p (List.mem_of_mem_take hp))
  have : (l.take k).length ≤ l.length := by rw [List.length_take]; omega
  omega
theorem builder_new (w : World) : Lib.IsBuilder 68 5 w.heap.size w.heap.size [] (w.alloc (.cells #[.pointer none, .slice none 0 0] 68)) :=
  Or.inl ⟨Nat.le_refl _, _, heap_alloc_new w _, World.ownsRow_nil _ _ _ _, by simp [Value.ownBlock]⟩
theorem builder_below {B b : Nat} {bs : List Value} {w w' : World} (h : Lib.IsBuilder 68 5 B b bs w) (hb : Below w.heap.size w w') : Lib.IsBuilder 68 5 B b bs w' := by
  have key : ∀ p, Lib.BuilderAt 68 5 B b p bs w → Lib.BuilderAt 68 5 B b p bs w' := fun p h => by
    have hlt := h.lt
    obtain ⟨hB, v, hbk, hown, hne⟩ := h
    refine ⟨hB, v, (hb.block b hlt).trans hbk, hown.kept (row := none) ⟨hb.os, hb.tape, hb.output, hb.size, fun k hk _ => hb.block k hk⟩ ?_, hne⟩
    cases hv : v.ownBlock <;> simp
  rcases h with h | h
  · exact Or.inl (key _ h)
  · exact Or.inr (key _ h)
end Go.Proofs.YtndahomgglpdhaaDoor

/- The program's reports: Print, Read; all calls. -/
namespace Go.Proofs.YtndahomgglpdhaaDoor
open Go.RowKit Nam Cod

set_option maxRecDepth 100000 in
set_option maxHeartbeats 4000000 in
theorem rpPrint_any (r : Rp) (w : World) (hw : RpW r) : Calls Tryd.prog 42 #[.agg #[.int .i64 r.d, .int .i64 r.i, .int .i64 r.b, .int .i64 r.t, .int .i64 r.m, .int .i64 r.p, .int .i64 r.c, .int .i64 r.s, .int .i64 r.k]] w fun e w' => e = .returned (.string (rpBytes r)) ∧ Below w.heap.size w w' := by
  have hP : rpE.In ((w.alloc (.cells #[.int .i64 r.d, .int .i64 r.i, .int .i64 r.b, .int .i64 r.t, .int .i64 r.m, .int .i64 r.p, .int .i64 r.c, .int .i64 r.s, .int .i64 r.k] 54)).alloc (.cells #[.pointer none, .slice none 0 0] 68)) w.heap.size r := (El.In.new (E := rpE) w r _ rfl).alloc _
  have hbd := builder_new (w.alloc (.cells #[.int .i64 r.d, .int .i64 r.i, .int .i64 r.b, .int .i64 r.t, .int .i64 r.m, .int .i64 r.p, .int .i64 r.c, .int .i64 r.s, .int .i64 r.k] 54))
  have hB := below_alloc (below_alloc (Below.refl w.heap.size w) (.cells #[.int .i64 r.d, .int .i64 r.i, .int .i64 r.b, .int .i64 r.t, .int .i64 r.m, .int .i64 r.p, .int .i64 r.c, .int .i64 r.s, .int .i64 r.k] 54)) (.cells #[.pointer none, .slice none 0 0] 68)
  have hL : w.heap.size + 1 < ((w.alloc (.cells #[.int .i64 r.d, .int .i64 r.i, .int .i64 r.b, .int .i64 r.t, .int .i64 r.m, .int .i64 r.p, .int .i64 r.c, .int .i64 r.s, .int .i64 r.k] 54)).alloc (.cells #[.pointer none, .slice none 0 0] 68)).heap.size := by rw [alloc_size, alloc_size]; omega
  rw [alloc_size] at hbd
  have HW := Lib.hid hw
  have CF := Lib.hid (fun wx => fieldsOf_any r wx)
  clear hw
  go_enter Tryd.func42, Tryd.ntmps42
  go_upto_region 2 with fail
  generalize (w.alloc (.cells #[.int .i64 r.d, .int .i64 r.i, .int .i64 r.b, .int .i64 r.t, .int .i64 r.m, .int .i64 r.p, .int .i64 r.c, .int .i64 r.s, .int .i64 r.k] 54)).alloc (.cells #[.pointer none, .slice none 0 0] 68) = W at *
  obtain ⟨nb, hnb⟩ : ∃ n, w.heap.size + 1 = n := ⟨_, rfl⟩
  obtain ⟨n1, hn1⟩ : ∃ n, w.heap.size = n := ⟨_, rfl⟩
  have hwb : w.heap.size ≤ nb := by omega
  rw [hnb] at hbd hL ⊢
  rw [hn1] at hP ⊢
  clear hn1 hnb
  go_wp2_with (first | (refine El.load rpRow rfl _ rfl n1 0 rfl r hP.at #[.int .i64 r.d, .int .i64 r.i, .int .i64 r.b, .int .i64 r.t, .int .i64 r.m, .int .i64 r.p, .int .i64 r.c, .int .i64 r.s, .int .i64 r.k] rfl ?_) | fail)
  refine (CF.out _).mono ?_
  rintro e w2 ⟨rfl, hb2⟩
  replace hbd := builder_below hbd hb2
  replace hB := below_then hB hb2
  replace hL := Nat.lt_of_lt_of_le hL hb2.size
  clear hb2 hP CF
  go_wp2_with fail
  have hbd0 : Lib.IsBuilder 68 5 nb nb (Lib.strCells (catN ((rpL r).take 0))) w2 := hbd
  clear hbd hL
  go_loopw [8] (fun i wr => ∃ k : Nat, k ≤ 9 ∧ i = .int .i64 k ∧ Lib.IsBuilder 68 5 nb nb (Lib.strCells (catN ((rpL r).take k))) wr ∧ Below w.heap.size w wr) (fun i _ => 9 - (intOf i).toNat)
  case atStart => exact ⟨0, Nat.zero_le _, rfl, hbd0, hB⟩
  case round =>
    clear hbd0 hB
    obtain ⟨k, hk, rfl, hbd, hB⟩ := hrel
    have hlt : nb < wr.heap.size := by rcases hbd with h | h <;> exact h.lt
    by_cases hkl : k < 9
    · have hx := fun wx => idxFd r wx k hkl
      have hi := rp9_i64 HW.out hkl
      have HNX := Lib.hid (rp9_next r hkl)
      have hle := catN_le ((rpL r).take k) (fun n hn => HW.out n (List.mem_of_mem_take hn))
      rw [List.length_take] at hle
      generalize (rpL r).getD k 0 = n at *
      have C := Lib.hid (fun wx => num_any n wx hi.1 hi.2)
      have hz : (bytesOf n).size ≤ 10 := by rw [bytesOf_size]; exact enc_ten _ (fold_lt n hi.1 hi.2)
      generalize catN ((rpL r).take k) = T at *
      generalize bytesOf n = x at *
      have hT : T.size ≤ 90 := by omega
      clear hi hle
      go_wp2_with fail
      refine (C.out _).mono ?_
      rintro e w3 ⟨rfl, hb3⟩
      replace hbd := builder_below hbd hb3
      replace hB := below_then hB hb3
      replace hlt := Nat.lt_of_lt_of_le hlt hb3.size
      clear hb3
      go_wp2_with fail
      refine (wstr_any nb nb _ x _ hbd (by simp only [Lib.strCells_length]; omega) (Nat.le_of_lt hlt)).mono ?_
      rintro e w4 ⟨rfl, hbd4, hN4, _⟩
      rw [← strCells_app, ← HNX.out] at hbd4
      replace hB := hB.trans (hN4.mono hwb)
      go_wp2_with fail
      exact ⟨⟨k + 1, by omega, by go_num, hbd4, hB⟩, by simp [intOf]; omega⟩
    · obtain rfl : k = 9 := by omega
      have C := builder_String_any nb nb (L (catN ((rpL r).take 9))) wr hbd (Nat.le_of_lt hlt)
      have he : (⟨(L (catN ((rpL r).take 9))).toArray⟩ : ByteArray) = rpBytes r := back_L _
      rw [he] at C
      have HC := Lib.hid C
      clear C he hbd
      go_wp2_with fail
      refine HC.out.mono ?_
      rintro e w5 ⟨rfl, hb5⟩
      go_wp2_with fail
      go_ret
      exact ⟨rfl, hB.trans (hb5.mono hwb)⟩

set_option maxRecDepth 100000 in
set_option maxHeartbeats 4000000 in
theorem rpRead_uni (w : World) (b p : Nat) (s : ByteArray) (bad : Bool) (hs : s.size ≤ 1000000) (hp : p ≤ s.size) (hr : Rd 44 w b s p bad) :
    Calls Tryd.prog 89 #[.pointer (some ⟨b, 0, none⟩)] w fun e w' => ∃ (x : Rp) (q : Nat) (bad' : Bool), e = .returned (.agg #[.int .i64 x.d, .int .i64 x.i, .int .i64 x.b, .int .i64 x.t, .int .i64 x.m, .int .i64 x.p, .int .i64 x.c, .int .i64 x.s, .int .i64 x.k]) ∧ Rd 44 w' b s q bad' ∧ q ≤ s.size ∧ w.grownBy w' (some b) ∧ rpStep s p bad x q bad' := by
  have hbw := hr.lt
  go_enter Tryd.func89, Tryd.ntmps89
  go_upto_region 2 with fail
  have hZ : rpE.In ((w.alloc (.cells #[.int .i64 0, .int .i64 0, .int .i64 0, .int .i64 0, .int .i64 0, .int .i64 0, .int .i64 0, .int .i64 0, .int .i64 0] 54)).alloc (.cells #[.int .i64 0, .int .i64 0, .int .i64 0, .int .i64 0, .int .i64 0, .int .i64 0, .int .i64 0, .int .i64 0, .int .i64 0] 105)) w.heap.size zeroRp := (El.In.new (E := rpE) w zeroRp #[.int .i64 0, .int .i64 0, .int .i64 0, .int .i64 0, .int .i64 0, .int .i64 0, .int .i64 0, .int .i64 0, .int .i64 0] rfl).alloc _
  have hY := two_fd w #[.int .i64 0, .int .i64 0, .int .i64 0, .int .i64 0, .int .i64 0, .int .i64 0, .int .i64 0, .int .i64 0, .int .i64 0] 54
  have hB := below_alloc (below_alloc (Below.refl w.heap.size w) (.cells #[.int .i64 0, .int .i64 0, .int .i64 0, .int .i64 0, .int .i64 0, .int .i64 0, .int .i64 0, .int .i64 0, .int .i64 0] 54)) (.cells #[.int .i64 0, .int .i64 0, .int .i64 0, .int .i64 0, .int .i64 0, .int .i64 0, .int .i64 0, .int .i64 0, .int .i64 0] 105)
  have hR := hr.below hB
  have hG := by_below hB (some b)
  obtain ⟨n3, h3⟩ : ∃ n, w.heap.size + 1 = n := ⟨_, rfl⟩
  obtain ⟨n2, h2⟩ : ∃ n, w.heap.size = n := ⟨_, rfl⟩
  have hn2 : w.heap.size ≤ n2 := by omega
  have hwn : w.heap.size ≤ n3 := by omega
  have e2 : b ≠ n2 := by omega
  have e3 : b ≠ n3 := by omega
  have e4 : n2 ≠ n3 := by omega
  have i2 : some n2 ≠ some b := fun e => e2 (Option.some.inj e).symm
  have i3 : some n3 ≠ some b := fun e => e3 (Option.some.inj e).symm
  generalize (w.alloc (.cells #[.int .i64 0, .int .i64 0, .int .i64 0, .int .i64 0, .int .i64 0, .int .i64 0, .int .i64 0, .int .i64 0, .int .i64 0] 54)).alloc (.cells #[.int .i64 0, .int .i64 0, .int .i64 0, .int .i64 0, .int .i64 0, .int .i64 0, .int .i64 0, .int .i64 0, .int .i64 0] 105) = W0 at *
  rw [h3] at hY ⊢
  rw [h2] at hZ ⊢
  clear h2 h3 hB hr
  have HS0 := Lib.hid (fdState.zero s p bad zeroRp)
  go_wp2_with fail
  go_loopw [5] (fun i wr => ∃ (k : Nat) (x : Rp) (q : Nat) (b' : Bool), k ≤ 9 ∧ i = .int .i64 k ∧ rpE.In wr n2 zeroRp ∧ fdE.In wr n3 x ∧ Rd 44 wr b s q b' ∧ q ≤ s.size ∧ w.grownBy wr (some b) ∧ Hid (fdState s p bad k x q b')) (fun i _ => 9 - (intOf i).toNat)
  case atStart => exact ⟨0, zeroRp, p, bad, Nat.zero_le _, rfl, hZ, hY, hR, hp, hG, HS0⟩
  case round =>
    clear hZ hY hR hp hG HS0
    obtain ⟨k, x, q, b', hk, rfl, hZ, hY, hR, hq, hG, HS⟩ := hrel
    by_cases hkl : k < 9
    · go_wp2_with fail
      refine (num_uni hs hq hR).mono ?_
      rintro e w1 ⟨v, q', b1, rfl, hR1, hq1, hg, st⟩
      have HS1 := Lib.hid (HS.out.next hkl st)
      replace hZ := hZ.keep hg i2
      replace hY := hY.keep hg i3
      replace hG := by_trans hG hg
      clear hg hR HS st
      have c0 := fdCell hY k hkl
      have cf := hY.frozen k
      have hY1 : fdE.In (w1.setCell ⟨n3, k, none⟩ (.int .i64 v)) n3 (setF x k v) := hY.put _ k _ (setF_c x v k hkl)
      replace hZ := hZ.other n3 k (.int .i64 v) e4
      replace hR1 := hR1.other n3 k (.int .i64 v) e3
      replace hG := by_setNew hG n3 k (.int .i64 v) hwn
      generalize (rpL x).getD k 0 = y at *
      clear hY
      go_wp2_with fail
      exact ⟨⟨k + 1, setF x k v, q', b1, by omega, by go_num, hZ, hY1, hR1, hq1, hG, HS1⟩, by simp [intOf]; omega⟩
    · obtain rfl : k = 9 := by omega
      clear hkl hk
      obtain ⟨r0, r1, r2⟩ := hR.cells
      have rf := hR.frozen
      cases b'
      · have hst := HS.out.last
        have CR := Lib.hid (fun wx => fdRight_any x wx)
        cases hN : rpB x
        · rw [hN, if_neg (by decide)] at hst
          rw [hN] at CR
          have HG := Lib.hid hst
          clear hst hN
          obtain ⟨y0, y1, y2, y3, y4, y5, y6, y7, y8⟩ := fdIn9 hY
          go_wp2_with fail
          clear y0 y1 y2 y3 y4 y5 y6 y7 y8
          refine (CR.out _).mono ?_
          rintro r w5 ⟨rfl, hb5⟩
          replace hZ := hZ.below hb5
          replace hR := hR.below hb5
          replace hG := by_trans hG (by_below hb5 _)
          clear hb5 r0 r1 r2 rf hY
          obtain ⟨r0, r1, r2⟩ := hR.cells
          have rf := hR.frozen
          have hR2 := hR.setBad
          have hG2 := by_set hG 2 (.bool true)
          replace hZ := hZ.other b 2 (.bool true) (fun e => e2 e.symm)
          clear hR hG
          go_upto_region 9 with fail
          clear r0 r1 r2 rf
          generalize w5.setCell ⟨b, 2, none⟩ (.bool true) = W9 at *
          go_wp2_with (first | (refine El.store rpRow rfl _ _ rfl n2 zeroRp #[.int .i64 0, .int .i64 0, .int .i64 0, .int .i64 0, .int .i64 0, .int .i64 0, .int .i64 0, .int .i64 0, .int .i64 0] rfl rfl rfl zeroRp hZ ?_) | fail)
          refine El.ret1 rpRow (hZ.set zeroRp _ rfl) rfl rfl rfl #[.int .i64 0, .int .i64 0, .int .i64 0, .int .i64 0, .int .i64 0, .int .i64 0, .int .i64 0, .int .i64 0, .int .i64 0] rfl ?_
          exact ⟨zeroRp, q, true, rfl, hR2.row n2 _ e2, hq, by_setRow hG2 n2 _ hn2, Or.inr ⟨HG.out, rfl, rfl⟩⟩
        · rw [hN, if_pos rfl] at hst
          rw [hN] at CR
          have HG := Lib.hid hst
          clear hst hN
          obtain ⟨y0, y1, y2, y3, y4, y5, y6, y7, y8⟩ := fdIn9 hY
          go_wp2_with fail
          clear y0 y1 y2 y3 y4 y5 y6 y7 y8
          refine (CR.out _).mono ?_
          rintro r w5 ⟨rfl, hb5⟩
          replace hZ := hZ.below hb5
          replace hY := hY.below hb5
          replace hR := hR.below hb5
          replace hG := by_trans hG (by_below hb5 _)
          clear hb5 r0 r1 r2 rf
          have CT := Lib.hid (fun wx => report_any x wx)
          go_wp2_with (first | (refine El.load fdRow rfl _ rfl n3 0 rfl x hY.at #[.int .i64 x.d, .int .i64 x.i, .int .i64 x.b, .int .i64 x.t, .int .i64 x.m, .int .i64 x.p, .int .i64 x.c, .int .i64 x.s, .int .i64 x.k] rfl ?_) | fail)
          refine (CT.out _).mono ?_
          rintro r w6 ⟨rfl, hb6⟩
          replace hZ := hZ.below hb6
          replace hR := hR.below hb6
          replace hG := by_trans hG (by_below hb6 _)
          clear hb6 hY
          go_wp2_with (first | (refine El.store rpRow rfl _ _ rfl n2 x #[.int .i64 x.d, .int .i64 x.i, .int .i64 x.b, .int .i64 x.t, .int .i64 x.m, .int .i64 x.p, .int .i64 x.c, .int .i64 x.s, .int .i64 x.k] rfl rfl rfl zeroRp hZ ?_) | fail)
          refine El.ret1 rpRow (hZ.set x _ rfl) rfl rfl rfl #[.int .i64 x.d, .int .i64 x.i, .int .i64 x.b, .int .i64 x.t, .int .i64 x.m, .int .i64 x.p, .int .i64 x.c, .int .i64 x.s, .int .i64 x.k] rfl ?_
          exact ⟨x, q, false, rfl, hR.row n2 _ e2, hq, by_setRow hG n2 _ hn2, Or.inl ⟨HG.out, rfl⟩⟩
      · have HG := Lib.hid HS.out.ill
        clear hY HS
        have hR2 := hR.setBad
        have hG2 := by_set hG 2 (.bool true)
        replace hZ := hZ.other b 2 (.bool true) (fun e => e2 e.symm)
        clear hR hG
        go_upto_region 9 with fail
        clear r0 r1 r2 rf
        generalize wr.setCell ⟨b, 2, none⟩ (.bool true) = W9 at *
        go_wp2_with (first | (refine El.store rpRow rfl _ _ rfl n2 zeroRp #[.int .i64 0, .int .i64 0, .int .i64 0, .int .i64 0, .int .i64 0, .int .i64 0, .int .i64 0, .int .i64 0, .int .i64 0] rfl rfl rfl zeroRp hZ ?_) | fail)
        refine El.ret1 rpRow (hZ.set zeroRp _ rfl) rfl rfl rfl #[.int .i64 0, .int .i64 0, .int .i64 0, .int .i64 0, .int .i64 0, .int .i64 0, .int .i64 0, .int .i64 0, .int .i64 0] rfl ?_
        exact ⟨zeroRp, q, true, rfl, hR2.row n2 _ e2, hq, by_setRow hG2 n2 _ hn2, Or.inr ⟨HG.out, rfl, rfl⟩⟩

end Go.Proofs.YtndahomgglpdhaaDoor

/- The program's frames: rightList of four kinds, Right. -/
namespace Go.Proofs.YtndahomgglpdhaaDoor
open Go.RowKit Nam Cod

set_option maxRecDepth 100000 in
set_option maxHeartbeats 2000000 in
theorem rlOp_any (A : Option Addr) (cap : Nat) (l : List Mv) (most : Nat) (bv : Bool) (w : World) (hT : opE.Sl w A l) (hl : l.length ≤ 100000) (hw : ∀ x ∈ l, x.s.size ≤ 1000000) (hbv : (decide (l.length ≤ most) && l.all okB) = bv) :
    Calls Tryd.prog 28 #[.slice A l.length cap, .int .i64 most, .func (.func 29) #[] #[]] w fun r w' => r = .returned (.bool bv) ∧ Below w.heap.size w w' := by
  have HV := Lib.hid hbv
  have HW := Lib.hid hw
  have hB := Below.refl w.heap.size w
  clear hbv hw
  by_cases hlm : l.length ≤ most
  · have f0 : decide ((most : Int) < (l.length : Int)) = false := decide_eq_false (by omega)
    have f1 : decide (most < l.length) = false := decide_eq_false (by omega)
    have HV2 := Lib.hid (show l.all okB = bv from by have h := HV.out; rw [decide_eq_true hlm, Bool.true_and] at h; exact h)
    have HC0 := Lib.hid (fun (j : Nat) (hj : j < 0) (_ : j < l.length) => (absurd hj (Nat.not_lt_zero j) : okB l[j] = true))
    clear HV hlm
    go_enter Tryd.func28, Tryd.ntmps28
    go_wp2_with fail
    go_loopw [15] (fun y wr => ∃ k : Nat, k ≤ l.length ∧ y = .int .i64 k ∧ Hid (∀ j, j < k → ∀ hj : j < l.length, okB l[j] = true) ∧ Below w.heap.size w wr) (fun y _ => l.length - (intOf y).toNat)
    case atStart => exact ⟨0, Nat.zero_le _, rfl, HC0, hB⟩
    case round =>
      clear hB HC0
      obtain ⟨k, hk, rfl, HK, hB⟩ := hrel
      by_cases hkl : k < l.length
      · obtain ⟨b, off, eA, hbw, hc⟩ := hT (by omega)
        have hx := opIdxF (cap := cap) eA hkl
        have hat : opE.At wr b (off + k * 7) l[k] := (hc k hkl).below hB hbw
        have hxw := HW.out l[k] (List.getElem_mem _)
        have HO := Lib.hid (show okB l[k] = false → l.all okB = false from fun h => by
          rw [Bool.eq_false_iff]
          intro ha
          rw [List.all_eq_true.1 ha l[k] (List.getElem_mem _)] at h
          cases h)
        have HN := Lib.hid (fun (h : okB l[k] = true) (j : Nat) (hj : j < k + 1) (hjl : j < l.length) => (by
          by_cases e : j < k
          · exact HK.out j e hjl
          · obtain rfl : j = k := by omega
            exact h : okB l[j] = true))
        generalize l[k] = x at *
        have C := Lib.hid (fun wx => (show Calls Tryd.prog 29 #[.agg #[.int .i64 x.C, .int .i64 x.D, .int .i64 x.I, .int .i64 x.M, .int .i64 x.K, .int .i64 x.U, .string x.s]] wx fun r w' => r = .returned (.bool (okB x)) ∧ Below wx.heap.size wx w' from op_mv x wx (by omega)))
        obtain ⟨bx, hbx⟩ : ∃ bx, okB x = bx := ⟨_, rfl⟩
        rw [hbx] at HO HN C
        clear hxw hbx
        have hal := below_alloc (Below.refl wr.heap.size wr) (.cells #[.int .i64 x.C, .int .i64 x.D, .int .i64 x.I, .int .i64 x.M, .int .i64 x.K, .int .i64 x.U, .string x.s] 50)
        have hE : opE.In (wr.alloc (.cells #[.int .i64 x.C, .int .i64 x.D, .int .i64 x.I, .int .i64 x.M, .int .i64 x.K, .int .i64 x.U, .string x.s] 50)) wr.heap.size x := El.In.new (E := opE) wr x _ rfl
        replace hB := hB.trans (hal.mono hB.size)
        clear hc eA hal
        go_wp2_with (first | (refine El.load opRow rfl _ rfl b (off + k * 7) rfl x hat #[.int .i64 x.C, .int .i64 x.D, .int .i64 x.I, .int .i64 x.M, .int .i64 x.K, .int .i64 x.U, .string x.s] rfl ?_) | (refine El.load opRow rfl _ rfl wr.heap.size 0 rfl x hE.at #[.int .i64 x.C, .int .i64 x.D, .int .i64 x.I, .int .i64 x.M, .int .i64 x.K, .int .i64 x.U, .string x.s] rfl ?_) | fail)
        refine (C.out _).mono ?_
        rintro r w2 ⟨rfl, hb2⟩
        replace hB := below_then hB hb2
        clear hb2 C hE hat
        cases bx
        · have hv := HO.out rfl
          obtain rfl : false = bv := hv.symm.trans HV2.out
          clear hv
          go_wp2_with fail
          go_ret
          exact ⟨rfl, hB⟩
        · have HN2 := Lib.hid (HN.out rfl)
          clear HN HO
          go_wp2_with fail
          exact ⟨⟨k + 1, by omega, by go_num, HN2, hB⟩, by simp [intOf]; omega⟩
      · obtain rfl : k = l.length := by omega
        have hv : l.all okB = true := List.all_eq_true.2 fun x hx => by
          obtain ⟨j, hj, rfl⟩ := List.getElem_of_mem hx
          exact HK.out j hj hj
        obtain rfl : true = bv := hv.symm.trans HV2.out
        clear hv
        go_wp2_with fail
        go_ret
        exact ⟨rfl, hB⟩
  · have f0 : decide ((most : Int) < (l.length : Int)) = true := decide_eq_true (by omega)
    have f1 : decide (most < l.length) = true := decide_eq_true (by omega)
    obtain rfl : false = bv := by have h := HV.out; rw [decide_eq_false hlm, Bool.false_and] at h; exact h
    clear HV
    go_enter Tryd.func28, Tryd.ntmps28
    go_wp2_with fail
    go_ret
    exact ⟨rfl, hB⟩
set_option maxRecDepth 100000 in
set_option maxHeartbeats 2000000 in
theorem rlEn_any (A : Option Addr) (cap : Nat) (l : List En) (most : Nat) (bv : Bool) (w : World) (hT : enE.Sl w A l) (hl : l.length ≤ 100000) (hw : ∀ x ∈ l, x.o.s.size ≤ 1000000) (hbv : (decide (l.length ≤ most) && l.all entB) = bv) :
    Calls Tryd.prog 30 #[.slice A l.length cap, .int .i64 most, .func (.func 31) #[] #[]] w fun r w' => r = .returned (.bool bv) ∧ Below w.heap.size w w' := by
  have HV := Lib.hid hbv
  have HW := Lib.hid hw
  have hB := Below.refl w.heap.size w
  clear hbv hw
  by_cases hlm : l.length ≤ most
  · have f0 : decide ((most : Int) < (l.length : Int)) = false := decide_eq_false (by omega)
    have f1 : decide (most < l.length) = false := decide_eq_false (by omega)
    have HV2 := Lib.hid (show l.all entB = bv from by have h := HV.out; rw [decide_eq_true hlm, Bool.true_and] at h; exact h)
    have HC0 := Lib.hid (fun (j : Nat) (hj : j < 0) (_ : j < l.length) => (absurd hj (Nat.not_lt_zero j) : entB l[j] = true))
    clear HV hlm
    go_enter Tryd.func30, Tryd.ntmps30
    go_wp2_with fail
    go_loopw [15] (fun y wr => ∃ k : Nat, k ≤ l.length ∧ y = .int .i64 k ∧ Hid (∀ j, j < k → ∀ hj : j < l.length, entB l[j] = true) ∧ Below w.heap.size w wr) (fun y _ => l.length - (intOf y).toNat)
    case atStart => exact ⟨0, Nat.zero_le _, rfl, HC0, hB⟩
    case round =>
      clear hB HC0
      obtain ⟨k, hk, rfl, HK, hB⟩ := hrel
      by_cases hkl : k < l.length
      · obtain ⟨b, off, eA, hbw, hc⟩ := hT (by omega)
        have hx := enIdxF (cap := cap) eA hkl
        have hat : enE.At wr b (off + k * 10) l[k] := (hc k hkl).below hB hbw
        have hxw := HW.out l[k] (List.getElem_mem _)
        have HO := Lib.hid (show entB l[k] = false → l.all entB = false from fun h => by
          rw [Bool.eq_false_iff]
          intro ha
          rw [List.all_eq_true.1 ha l[k] (List.getElem_mem _)] at h
          cases h)
        have HN := Lib.hid (fun (h : entB l[k] = true) (j : Nat) (hj : j < k + 1) (hjl : j < l.length) => (by
          by_cases e : j < k
          · exact HK.out j e hjl
          · obtain rfl : j = k := by omega
            exact h : entB l[j] = true))
        generalize l[k] = x at *
        have C := Lib.hid (fun wx => (show Calls Tryd.prog 31 #[.agg #[.int .i64 x.k, .int .i64 x.d, .int .i64 x.i, .int .i64 x.o.C, .int .i64 x.o.D, .int .i64 x.o.I, .int .i64 x.o.M, .int .i64 x.o.K, .int .i64 x.o.U, .string x.o.s]] wx fun r w' => r = .returned (.bool (entB x)) ∧ Below wx.heap.size wx w' from entRight_any x wx (by omega)))
        obtain ⟨bx, hbx⟩ : ∃ bx, entB x = bx := ⟨_, rfl⟩
        rw [hbx] at HO HN C
        clear hxw hbx
        have hal := below_alloc (Below.refl wr.heap.size wr) (.cells #[.int .i64 x.k, .int .i64 x.d, .int .i64 x.i, .int .i64 x.o.C, .int .i64 x.o.D, .int .i64 x.o.I, .int .i64 x.o.M, .int .i64 x.o.K, .int .i64 x.o.U, .string x.o.s] 52)
        have hE : enE.In (wr.alloc (.cells #[.int .i64 x.k, .int .i64 x.d, .int .i64 x.i, .int .i64 x.o.C, .int .i64 x.o.D, .int .i64 x.o.I, .int .i64 x.o.M, .int .i64 x.o.K, .int .i64 x.o.U, .string x.o.s] 52)) wr.heap.size x := El.In.new (E := enE) wr x _ rfl
        replace hB := hB.trans (hal.mono hB.size)
        clear hc eA hal
        go_wp2_with (first | (refine El.load enRow rfl _ rfl b (off + k * 10) rfl x hat #[.int .i64 x.k, .int .i64 x.d, .int .i64 x.i, .int .i64 x.o.C, .int .i64 x.o.D, .int .i64 x.o.I, .int .i64 x.o.M, .int .i64 x.o.K, .int .i64 x.o.U, .string x.o.s] rfl ?_) | (refine El.load enRow rfl _ rfl wr.heap.size 0 rfl x hE.at #[.int .i64 x.k, .int .i64 x.d, .int .i64 x.i, .int .i64 x.o.C, .int .i64 x.o.D, .int .i64 x.o.I, .int .i64 x.o.M, .int .i64 x.o.K, .int .i64 x.o.U, .string x.o.s] rfl ?_) | fail)
        refine (C.out _).mono ?_
        rintro r w2 ⟨rfl, hb2⟩
        replace hB := below_then hB hb2
        clear hb2 C hE hat
        cases bx
        · have hv := HO.out rfl
          obtain rfl : false = bv := hv.symm.trans HV2.out
          clear hv
          go_wp2_with fail
          go_ret
          exact ⟨rfl, hB⟩
        · have HN2 := Lib.hid (HN.out rfl)
          clear HN HO
          go_wp2_with fail
          exact ⟨⟨k + 1, by omega, by go_num, HN2, hB⟩, by simp [intOf]; omega⟩
      · obtain rfl : k = l.length := by omega
        have hv : l.all entB = true := List.all_eq_true.2 fun x hx => by
          obtain ⟨j, hj, rfl⟩ := List.getElem_of_mem hx
          exact HK.out j hj hj
        obtain rfl : true = bv := hv.symm.trans HV2.out
        clear hv
        go_wp2_with fail
        go_ret
        exact ⟨rfl, hB⟩
  · have f0 : decide ((most : Int) < (l.length : Int)) = true := decide_eq_true (by omega)
    have f1 : decide (most < l.length) = true := decide_eq_true (by omega)
    obtain rfl : false = bv := by have h := HV.out; rw [decide_eq_false hlm, Bool.false_and] at h; exact h
    clear HV
    go_enter Tryd.func30, Tryd.ntmps30
    go_wp2_with fail
    go_ret
    exact ⟨rfl, hB⟩
set_option maxRecDepth 100000 in
set_option maxHeartbeats 2000000 in
theorem rlRp_any (A : Option Addr) (cap : Nat) (l : List Rp) (most : Nat) (bv : Bool) (w : World) (hT : rpE.Sl w A l) (hl : l.length ≤ 100000) (hw : ∀ x ∈ l, True) (hbv : (decide (l.length ≤ most) && l.all rpB) = bv) :
    Calls Tryd.prog 32 #[.slice A l.length cap, .int .i64 most, .func (.func 33) #[] #[]] w fun r w' => r = .returned (.bool bv) ∧ Below w.heap.size w w' := by
  have HV := Lib.hid hbv
  have HW := Lib.hid hw
  have hB := Below.refl w.heap.size w
  clear hbv hw
  by_cases hlm : l.length ≤ most
  · have f0 : decide ((most : Int) < (l.length : Int)) = false := decide_eq_false (by omega)
    have f1 : decide (most < l.length) = false := decide_eq_false (by omega)
    have HV2 := Lib.hid (show l.all rpB = bv from by have h := HV.out; rw [decide_eq_true hlm, Bool.true_and] at h; exact h)
    have HC0 := Lib.hid (fun (j : Nat) (hj : j < 0) (_ : j < l.length) => (absurd hj (Nat.not_lt_zero j) : rpB l[j] = true))
    clear HV hlm
    go_enter Tryd.func32, Tryd.ntmps32
    go_wp2_with fail
    go_loopw [15] (fun y wr => ∃ k : Nat, k ≤ l.length ∧ y = .int .i64 k ∧ Hid (∀ j, j < k → ∀ hj : j < l.length, rpB l[j] = true) ∧ Below w.heap.size w wr) (fun y _ => l.length - (intOf y).toNat)
    case atStart => exact ⟨0, Nat.zero_le _, rfl, HC0, hB⟩
    case round =>
      clear hB HC0
      obtain ⟨k, hk, rfl, HK, hB⟩ := hrel
      by_cases hkl : k < l.length
      · obtain ⟨b, off, eA, hbw, hc⟩ := hT (by omega)
        have hx := rpIdxH (cap := cap) eA hkl
        have hat : rpE.At wr b (off + k * 9) l[k] := (hc k hkl).below hB hbw
        have hxw := HW.out l[k] (List.getElem_mem _)
        have HO := Lib.hid (show rpB l[k] = false → l.all rpB = false from fun h => by
          rw [Bool.eq_false_iff]
          intro ha
          rw [List.all_eq_true.1 ha l[k] (List.getElem_mem _)] at h
          cases h)
        have HN := Lib.hid (fun (h : rpB l[k] = true) (j : Nat) (hj : j < k + 1) (hjl : j < l.length) => (by
          by_cases e : j < k
          · exact HK.out j e hjl
          · obtain rfl : j = k := by omega
            exact h : rpB l[j] = true))
        generalize l[k] = x at *
        have C := Lib.hid (fun wx => (show Calls Tryd.prog 33 #[.agg #[.int .i64 x.d, .int .i64 x.i, .int .i64 x.b, .int .i64 x.t, .int .i64 x.m, .int .i64 x.p, .int .i64 x.c, .int .i64 x.s, .int .i64 x.k]] wx fun r w' => r = .returned (.bool (rpB x)) ∧ Below wx.heap.size wx w' from rpRight_any x wx))
        obtain ⟨bx, hbx⟩ : ∃ bx, rpB x = bx := ⟨_, rfl⟩
        rw [hbx] at HO HN C
        clear hxw hbx
        have hal := below_alloc (Below.refl wr.heap.size wr) (.cells #[.int .i64 x.d, .int .i64 x.i, .int .i64 x.b, .int .i64 x.t, .int .i64 x.m, .int .i64 x.p, .int .i64 x.c, .int .i64 x.s, .int .i64 x.k] 54)
        have hE : rpE.In (wr.alloc (.cells #[.int .i64 x.d, .int .i64 x.i, .int .i64 x.b, .int .i64 x.t, .int .i64 x.m, .int .i64 x.p, .int .i64 x.c, .int .i64 x.s, .int .i64 x.k] 54)) wr.heap.size x := El.In.new (E := rpE) wr x _ rfl
        replace hB := hB.trans (hal.mono hB.size)
        clear hc eA hal
        go_wp2_with (first | (refine El.load rpRow rfl _ rfl b (off + k * 9) rfl x hat #[.int .i64 x.d, .int .i64 x.i, .int .i64 x.b, .int .i64 x.t, .int .i64 x.m, .int .i64 x.p, .int .i64 x.c, .int .i64 x.s, .int .i64 x.k] rfl ?_) | (refine El.load rpRow rfl _ rfl wr.heap.size 0 rfl x hE.at #[.int .i64 x.d, .int .i64 x.i, .int .i64 x.b, .int .i64 x.t, .int .i64 x.m, .int .i64 x.p, .int .i64 x.c, .int .i64 x.s, .int .i64 x.k] rfl ?_) | fail)
        refine (C.out _).mono ?_
        rintro r w2 ⟨rfl, hb2⟩
        replace hB := below_then hB hb2
        clear hb2 C hE hat
        cases bx
        · have hv := HO.out rfl
          obtain rfl : false = bv := hv.symm.trans HV2.out
          clear hv
          go_wp2_with fail
          go_ret
          exact ⟨rfl, hB⟩
        · have HN2 := Lib.hid (HN.out rfl)
          clear HN HO
          go_wp2_with fail
          exact ⟨⟨k + 1, by omega, by go_num, HN2, hB⟩, by simp [intOf]; omega⟩
      · obtain rfl : k = l.length := by omega
        have hv : l.all rpB = true := List.all_eq_true.2 fun x hx => by
          obtain ⟨j, hj, rfl⟩ := List.getElem_of_mem hx
          exact HK.out j hj hj
        obtain rfl : true = bv := hv.symm.trans HV2.out
        clear hv
        go_wp2_with fail
        go_ret
        exact ⟨rfl, hB⟩
  · have f0 : decide ((most : Int) < (l.length : Int)) = true := decide_eq_true (by omega)
    have f1 : decide (most < l.length) = true := decide_eq_true (by omega)
    obtain rfl : false = bv := by have h := HV.out; rw [decide_eq_false hlm, Bool.false_and] at h; exact h
    clear HV
    go_enter Tryd.func32, Tryd.ntmps32
    go_wp2_with fail
    go_ret
    exact ⟨rfl, hB⟩
set_option maxRecDepth 100000 in
set_option maxHeartbeats 2000000 in
theorem rlGf_any (A : Option Addr) (cap : Nat) (l : List Gf) (most : Nat) (bv : Bool) (w : World) (hT : gfE.Sl w A l) (hl : l.length ≤ 100000) (hw : ∀ x ∈ l, x.s.size ≤ 1000000) (hbv : (decide (l.length ≤ most) && l.all gfB) = bv) :
    Calls Tryd.prog 34 #[.slice A l.length cap, .int .i64 most, .func (.func 10) #[] #[]] w fun r w' => r = .returned (.bool bv) ∧ Below w.heap.size w w' := by
  have HV := Lib.hid hbv
  have HW := Lib.hid hw
  have hB := Below.refl w.heap.size w
  clear hbv hw
  by_cases hlm : l.length ≤ most
  · have f0 : decide ((most : Int) < (l.length : Int)) = false := decide_eq_false (by omega)
    have f1 : decide (most < l.length) = false := decide_eq_false (by omega)
    have HV2 := Lib.hid (show l.all gfB = bv from by have h := HV.out; rw [decide_eq_true hlm, Bool.true_and] at h; exact h)
    have HC0 := Lib.hid (fun (j : Nat) (hj : j < 0) (_ : j < l.length) => (absurd hj (Nat.not_lt_zero j) : gfB l[j] = true))
    clear HV hlm
    go_enter Tryd.func34, Tryd.ntmps34
    go_wp2_with fail
    go_loopw [15] (fun y wr => ∃ k : Nat, k ≤ l.length ∧ y = .int .i64 k ∧ Hid (∀ j, j < k → ∀ hj : j < l.length, gfB l[j] = true) ∧ Below w.heap.size w wr) (fun y _ => l.length - (intOf y).toNat)
    case atStart => exact ⟨0, Nat.zero_le _, rfl, HC0, hB⟩
    case round =>
      clear hB HC0
      obtain ⟨k, hk, rfl, HK, hB⟩ := hrel
      by_cases hkl : k < l.length
      · obtain ⟨b, off, eA, hbw, hc⟩ := hT (by omega)
        have hx := gfIdxH (cap := cap) eA hkl
        have hat : gfE.At wr b (off + k * 5) l[k] := (hc k hkl).below hB hbw
        have hxw := HW.out l[k] (List.getElem_mem _)
        have HO := Lib.hid (show gfB l[k] = false → l.all gfB = false from fun h => by
          rw [Bool.eq_false_iff]
          intro ha
          rw [List.all_eq_true.1 ha l[k] (List.getElem_mem _)] at h
          cases h)
        have HN := Lib.hid (fun (h : gfB l[k] = true) (j : Nat) (hj : j < k + 1) (hjl : j < l.length) => (by
          by_cases e : j < k
          · exact HK.out j e hjl
          · obtain rfl : j = k := by omega
            exact h : gfB l[j] = true))
        generalize l[k] = x at *
        have C := Lib.hid (fun wx => (show Calls Tryd.prog 10 #[.agg #[.int .i64 x.d, .int .i64 x.i, .int .i64 x.c, .int .i64 x.t, .string x.s]] wx fun r w' => r = .returned (.bool (gfB x)) ∧ Below wx.heap.size wx w' from gfRight_any x wx (by omega)))
        obtain ⟨bx, hbx⟩ : ∃ bx, gfB x = bx := ⟨_, rfl⟩
        rw [hbx] at HO HN C
        clear hxw hbx
        have hal := below_alloc (Below.refl wr.heap.size wr) (.cells #[.int .i64 x.d, .int .i64 x.i, .int .i64 x.c, .int .i64 x.t, .string x.s] 32)
        have hE : gfE.In (wr.alloc (.cells #[.int .i64 x.d, .int .i64 x.i, .int .i64 x.c, .int .i64 x.t, .string x.s] 32)) wr.heap.size x := El.In.new (E := gfE) wr x _ rfl
        replace hB := hB.trans (hal.mono hB.size)
        clear hc eA hal
        go_wp2_with (first | (refine El.load gfRow rfl _ rfl b (off + k * 5) rfl x hat #[.int .i64 x.d, .int .i64 x.i, .int .i64 x.c, .int .i64 x.t, .string x.s] rfl ?_) | (refine El.load gfRow rfl _ rfl wr.heap.size 0 rfl x hE.at #[.int .i64 x.d, .int .i64 x.i, .int .i64 x.c, .int .i64 x.t, .string x.s] rfl ?_) | fail)
        refine (C.out _).mono ?_
        rintro r w2 ⟨rfl, hb2⟩
        replace hB := below_then hB hb2
        clear hb2 C hE hat
        cases bx
        · have hv := HO.out rfl
          obtain rfl : false = bv := hv.symm.trans HV2.out
          clear hv
          go_wp2_with fail
          go_ret
          exact ⟨rfl, hB⟩
        · have HN2 := Lib.hid (HN.out rfl)
          clear HN HO
          go_wp2_with fail
          exact ⟨⟨k + 1, by omega, by go_num, HN2, hB⟩, by simp [intOf]; omega⟩
      · obtain rfl : k = l.length := by omega
        have hv : l.all gfB = true := List.all_eq_true.2 fun x hx => by
          obtain ⟨j, hj, rfl⟩ := List.getElem_of_mem hx
          exact HK.out j hj hj
        obtain rfl : true = bv := hv.symm.trans HV2.out
        clear hv
        go_wp2_with fail
        go_ret
        exact ⟨rfl, hB⟩
  · have f0 : decide ((most : Int) < (l.length : Int)) = true := decide_eq_true (by omega)
    have f1 : decide (most < l.length) = true := decide_eq_true (by omega)
    obtain rfl : false = bv := by have h := HV.out; rw [decide_eq_false hlm, Bool.false_and] at h; exact h
    clear HV
    go_enter Tryd.func34, Tryd.ntmps34
    go_wp2_with fail
    go_ret
    exact ⟨rfl, hB⟩

theorem frB_parts (f : Fr) : frB f = (frN3 f && ((decide (f.os.length ≤ 64) && f.os.all okB) && ((decide (f.es.length ≤ 64) && f.es.all entB) && ((decide (f.rs.length ≤ 8) && f.rs.all rpB) && (decide (f.gs.length ≤ 8) && f.gs.all gfB))))) := by
  unfold frB frN3 frEnd fr6
  generalize f.os.all okB = c1
  generalize f.es.all entB = c2
  generalize f.rs.all rpB = c3
  generalize f.gs.all gfB = c4
  unfold inR cnt0
  simp only [List.all_cons, List.all_nil, Bool.and_true]
  rw [Bool.eq_iff_iff]
  simp only [Bool.and_eq_true, decide_eq_true_iff]
  constructor
  · rintro ⟨⟨h1, h2, h3, h4, h5, h6⟩, h7, h8, h9, h10, h11⟩
    exact ⟨⟨⟨by omega, by omega⟩, ⟨by omega, by omega⟩, h1, h2, h3, h4, h5, h6⟩, ⟨by omega, h7⟩, ⟨by omega, h8⟩, ⟨by omega, h9⟩, by omega, h10⟩
  · rintro ⟨⟨⟨a1, a2⟩, ⟨a3, a4⟩, h1, h2, h3, h4, h5, h6⟩, ⟨a5, h7⟩, ⟨a6, h8⟩, ⟨a7, h9⟩, a8, h10⟩
    exact ⟨⟨h1, h2, h3, h4, h5, h6⟩, h7, h8, h9, h10, by omega⟩

set_option maxRecDepth 100000 in
set_option maxHeartbeats 4000000 in
theorem frRight_any (y : Fw) (w : World) (hw : FrW y.x) (hok : y.ok w) : Calls Tryd.prog 14 #[.agg #[.int .i64 y.x.a, .int .i64 y.x.b, .int .i64 y.x.boot, .int .i64 y.x.first, .slice y.oA y.x.os.length y.oc, .int .i64 y.x.pos, .slice y.rA y.x.rs.length y.rc, .int .i64 y.x.start, .slice y.eA y.x.es.length y.ec, .int .i64 y.x.ack, .int .i64 y.x.grant, .int .i64 y.x.s, .int .i64 y.x.t, .slice y.gA y.x.gs.length y.gc]] w fun e w' => e = .returned (.bool (frB y.x)) ∧ Below w.heap.size w w' := by
  have hP : frE.In (w.alloc (.cells #[.int .i64 y.x.a, .int .i64 y.x.b, .int .i64 y.x.boot, .int .i64 y.x.first, .slice y.oA y.x.os.length y.oc, .int .i64 y.x.pos, .slice y.rA y.x.rs.length y.rc, .int .i64 y.x.start, .slice y.eA y.x.es.length y.ec, .int .i64 y.x.ack, .int .i64 y.x.grant, .int .i64 y.x.s, .int .i64 y.x.t, .slice y.gA y.x.gs.length y.gc] 27)) w.heap.size y := El.In.new (E := frE) w y _ rfl
  have hB := below_alloc (Below.refl w.heap.size w) (.cells #[.int .i64 y.x.a, .int .i64 y.x.b, .int .i64 y.x.boot, .int .i64 y.x.first, .slice y.oA y.x.os.length y.oc, .int .i64 y.x.pos, .slice y.rA y.x.rs.length y.rc, .int .i64 y.x.start, .slice y.eA y.x.es.length y.ec, .int .i64 y.x.ack, .int .i64 y.x.grant, .int .i64 y.x.s, .int .i64 y.x.t, .slice y.gA y.x.gs.length y.gc] 27)
  obtain ⟨bv, hbv⟩ : ∃ bv, frB y.x = bv := ⟨_, rfl⟩
  rw [hbv]
  rw [frB_parts] at hbv
  have HOK := Lib.hid hok
  have HW := Lib.hid hw
  have HL := Lib.hid hw.l
  clear hw hok
  have CN := Lib.hid (fun wx => frNumbers_any y wx)
  go_enter Tryd.func14, Tryd.ntmps14
  go_upto_region 1 with fail
  generalize w.alloc (.cells #[.int .i64 y.x.a, .int .i64 y.x.b, .int .i64 y.x.boot, .int .i64 y.x.first, .slice y.oA y.x.os.length y.oc, .int .i64 y.x.pos, .slice y.rA y.x.rs.length y.rc, .int .i64 y.x.start, .slice y.eA y.x.es.length y.ec, .int .i64 y.x.ack, .int .i64 y.x.grant, .int .i64 y.x.s, .int .i64 y.x.t, .slice y.gA y.x.gs.length y.gc] 27) = W at *
  obtain ⟨n1, h1⟩ : ∃ n, w.heap.size = n := ⟨_, rfl⟩
  rw [h1] at hP ⊢
  clear h1
  go_wp2_with (first | (refine El.load frRow rfl _ rfl n1 0 rfl y hP.at #[.int .i64 y.x.a, .int .i64 y.x.b, .int .i64 y.x.boot, .int .i64 y.x.first, .slice y.oA y.x.os.length y.oc, .int .i64 y.x.pos, .slice y.rA y.x.rs.length y.rc, .int .i64 y.x.start, .slice y.eA y.x.es.length y.ec, .int .i64 y.x.ack, .int .i64 y.x.grant, .int .i64 y.x.s, .int .i64 y.x.t, .slice y.gA y.x.gs.length y.gc] rfl ?_) | fail)
  refine (CN.out _).mono ?_
  rintro e w2 ⟨rfl, hb2⟩
  replace hP := hP.below hb2
  replace hB := below_then hB hb2
  clear hb2 CN
  obtain ⟨p0, p1, p2, p3, p4, p5, p6, p7, p8, p9, p10, p11, p12, p13⟩ := frIn14 hP
  have CO := Lib.hid (fun bx wx (hb : Below w.heap.size w wx) h => rlOp_any y.oA y.oc y.x.os 64 bx wx (HOK.out.o.1.below hb) (by have := HL.out; omega) (fun x hx => (HW.out.os x hx).2) h)
  have CE := Lib.hid (fun bx wx (hb : Below w.heap.size w wx) h => rlEn_any y.eA y.ec y.x.es 64 bx wx (HOK.out.e.1.below hb) (by have := HL.out; omega) (fun x hx => (HW.out.es x hx).2) h)
  have CR := Lib.hid (fun bx wx (hb : Below w.heap.size w wx) h => rlRp_any y.rA y.rc y.x.rs 8 bx wx (HOK.out.r.1.below hb) (by have := HL.out; omega) (fun x hx => trivial) h)
  have CG := Lib.hid (fun bx wx (hb : Below w.heap.size w wx) h => rlGf_any y.gA y.gc y.x.gs 8 bx wx (HOK.out.g.1.below hb) (by have := HL.out; omega) (fun x hx => (HW.out.gs x hx).2.2.2.2) h)
  obtain ⟨b0, hb0⟩ : ∃ b, frN3 y.x = b := ⟨_, rfl⟩
  obtain ⟨b1, hb1⟩ : ∃ b, (decide (y.x.os.length ≤ 64) && y.x.os.all okB) = b := ⟨_, rfl⟩
  obtain ⟨b2, hb2⟩ : ∃ b, (decide (y.x.es.length ≤ 64) && y.x.es.all entB) = b := ⟨_, rfl⟩
  obtain ⟨b3, hb3⟩ : ∃ b, (decide (y.x.rs.length ≤ 8) && y.x.rs.all rpB) = b := ⟨_, rfl⟩
  obtain ⟨b4, hb4⟩ : ∃ b, (decide (y.x.gs.length ≤ 8) && y.x.gs.all gfB) = b := ⟨_, rfl⟩
  rw [hb0, hb1, hb2, hb3, hb4] at hbv
  rw [hb0]
  have HB1 := Lib.hid hb1
  have HB2 := Lib.hid hb2
  have HB3 := Lib.hid hb3
  have HB4 := Lib.hid hb4
  clear hb0 hb1 hb2 hb3 hb4
  subst hbv
  cases b0
  · skip
    go_wp2_with fail
    go_ret
    exact ⟨rfl, hB⟩
  · cases b1
    · skip
      go_wp2_with fail
      refine (CO.out _ _ hB HB1.out).mono ?_
      rintro e w2 ⟨rfl, hb2⟩
      replace hP := hP.below hb2
      replace hB := below_then hB hb2
      clear hb2 p0 p1 p2 p3 p4 p5 p6 p7 p8 p9 p10 p11 p12 p13
      obtain ⟨p0, p1, p2, p3, p4, p5, p6, p7, p8, p9, p10, p11, p12, p13⟩ := frIn14 hP
      go_wp2_with fail
      go_ret
      exact ⟨rfl, hB⟩
    · skip
      go_wp2_with fail
      refine (CO.out _ _ hB HB1.out).mono ?_
      rintro e w2 ⟨rfl, hb2⟩
      replace hP := hP.below hb2
      replace hB := below_then hB hb2
      clear hb2 p0 p1 p2 p3 p4 p5 p6 p7 p8 p9 p10 p11 p12 p13
      obtain ⟨p0, p1, p2, p3, p4, p5, p6, p7, p8, p9, p10, p11, p12, p13⟩ := frIn14 hP
      cases b2
      · skip
        go_wp2_with fail
        refine (CE.out _ _ hB HB2.out).mono ?_
        rintro e w2 ⟨rfl, hb2⟩
        replace hP := hP.below hb2
        replace hB := below_then hB hb2
        clear hb2 p0 p1 p2 p3 p4 p5 p6 p7 p8 p9 p10 p11 p12 p13
        obtain ⟨p0, p1, p2, p3, p4, p5, p6, p7, p8, p9, p10, p11, p12, p13⟩ := frIn14 hP
        go_wp2_with fail
        go_ret
        exact ⟨rfl, hB⟩
      · skip
        go_wp2_with fail
        refine (CE.out _ _ hB HB2.out).mono ?_
        rintro e w2 ⟨rfl, hb2⟩
        replace hP := hP.below hb2
        replace hB := below_then hB hb2
        clear hb2 p0 p1 p2 p3 p4 p5 p6 p7 p8 p9 p10 p11 p12 p13
        obtain ⟨p0, p1, p2, p3, p4, p5, p6, p7, p8, p9, p10, p11, p12, p13⟩ := frIn14 hP
        cases b3
        · skip
          go_wp2_with fail
          refine (CR.out _ _ hB HB3.out).mono ?_
          rintro e w2 ⟨rfl, hb2⟩
          replace hP := hP.below hb2
          replace hB := below_then hB hb2
          clear hb2 p0 p1 p2 p3 p4 p5 p6 p7 p8 p9 p10 p11 p12 p13
          obtain ⟨p0, p1, p2, p3, p4, p5, p6, p7, p8, p9, p10, p11, p12, p13⟩ := frIn14 hP
          go_wp2_with fail
          go_ret
          exact ⟨rfl, hB⟩
        · skip
          go_wp2_with fail
          refine (CR.out _ _ hB HB3.out).mono ?_
          rintro e w2 ⟨rfl, hb2⟩
          replace hP := hP.below hb2
          replace hB := below_then hB hb2
          clear hb2 p0 p1 p2 p3 p4 p5 p6 p7 p8 p9 p10 p11 p12 p13
          obtain ⟨p0, p1, p2, p3, p4, p5, p6, p7, p8, p9, p10, p11, p12, p13⟩ := frIn14 hP
          go_wp2_with fail
          refine (CG.out _ _ hB HB4.out).mono ?_
          rintro e w2 ⟨rfl, hb2⟩
          replace hP := hP.below hb2
          replace hB := below_then hB hb2
          clear hb2 p0 p1 p2 p3 p4 p5 p6 p7 p8 p9 p10 p11 p12 p13
          obtain ⟨p0, p1, p2, p3, p4, p5, p6, p7, p8, p9, p10, p11, p12, p13⟩ := frIn14 hP
          cases b4
          · skip
            go_wp2_with fail
            go_ret
            exact ⟨rfl, hB⟩
          · skip
            go_wp2_with fail
            go_ret
            exact ⟨rfl, hB⟩
end Go.Proofs.YtndahomgglpdhaaDoor

/- The program's frames: printList of four kinds, Print. -/
namespace Go.Proofs.YtndahomgglpdhaaDoor
open Go.RowKit Nam Cod

-- PLISTS
set_option maxRecDepth 100000 in
set_option maxHeartbeats 4000000 in
theorem plOp_any (nb : Nat) (X : ByteArray) (A : Option Addr) (cap : Nat) (l : List Mv) (w0 w : World) (h0 : w0.heap.size ≤ nb) (hB0 : Below w0.heap.size w0 w) (hbd : Lib.IsBuilder 68 5 nb nb (Lib.strCells X) w) (hT : opE.Sl w0 A l) (hl : l.length ≤ 300) (hz : X.size ≤ 5000000) (hz2 : (opK.cat l).size ≤ 2000000) (hw : ∀ x ∈ l, Wide x.C x.D x.I x.M x.K x.U ∧ x.s.size ≤ 1000000) :
    Calls Tryd.prog 39 #[.pointer (some ⟨nb, 0, none⟩), .slice A l.length cap, .func (.func 40) #[] #[]] w fun r w' => r = .returned (.tuple #[]) ∧ Lib.IsBuilder 68 5 nb nb (Lib.strCells (X ++ opK.part l)) w' ∧ Below nb w w' := by
  have HT := Lib.hid hT
  have HW := Lib.hid hw
  have HB0 := Lib.hid hB0
  have C1 := Lib.hid (fun wx => num_any (l.length : Int) wx (by omega) (by omega))
  have z1 := bytesOf_le10 (n := (l.length : Int)) (by unfold i64; omega)
  have HV := Lib.hid (show X ++ opK.part l = X ++ bytesOf l.length ++ opK.cat l by unfold Kd.part; simp only [ByteArray.append_assoc])
  have hlt : nb < w.heap.size := by rcases hbd with h | h <;> exact h.lt
  generalize bytesOf (l.length : Int) = N at *
  clear hT hw hB0
  go_enter Tryd.func39, Tryd.ntmps39
  go_wp2_with fail
  refine (C1.out _).mono ?_
  rintro e w1 ⟨rfl, hb1⟩
  replace hbd := builder_below hbd hb1
  have hlt1 := Nat.lt_of_lt_of_le hlt hb1.size
  have hN : Below nb w w1 := hb1.mono (Nat.le_of_lt hlt)
  clear hb1 C1
  go_wp2_with fail
  refine (wstr_any nb nb _ N _ hbd (by simp only [Lib.strCells_length]; omega) (Nat.le_of_lt hlt1)).mono ?_
  rintro e w2 ⟨rfl, hbd2, hN2, _⟩
  rw [← strCells_app] at hbd2
  replace hN := hN.trans hN2
  have hyz : (X ++ N).size ≤ 5000010 := by rw [ByteArray.size_append]; omega
  generalize X ++ N = Y at *
  have hst : Y = Y ++ opK.cat (l.take 0) := by rw [List.take_zero]; exact L_inj (by rw [L_app]; show L Y = L Y ++ L ⟨#[]⟩; simp [L])
  rw [hst] at hbd2
  clear hst hN2 hbd hlt hlt1 hz z1
  go_wp2_with fail
  go_loopw [15] (fun i wr => ∃ k : Nat, k ≤ l.length ∧ i = .int .i64 k ∧ Lib.IsBuilder 68 5 nb nb (Lib.strCells (Y ++ opK.cat (l.take k))) wr ∧ Below nb w wr) (fun i _ => l.length - (intOf i).toNat)
  case atStart => exact ⟨0, Nat.zero_le _, rfl, hbd2, hN⟩
  case round =>
    clear hbd2 hN
    obtain ⟨k, hk, rfl, hbd, hN⟩ := hrel
    have hlt : nb < wr.heap.size := by rcases hbd with h | h <;> exact h.lt
    by_cases hkl : k < l.length
    · obtain ⟨b, off, eA, hbw, hc⟩ := HT.out (by omega)
      have hx := opIdxF (cap := cap) eA hkl
      have hat : opE.At wr b (off + k * 7) l[k] := (hc k hkl).below (HB0.out.trans (hN.mono h0)) hbw
      have hit := opK.item_le l k hkl
      have HNX := Lib.hid (show Y ++ opK.cat (l.take (k + 1)) = Y ++ opK.cat (l.take k) ++ opK.b l[k] by rw [opK.cat_next l k hkl, ByteArray.append_assoc])
      have hxm : l[k] ∈ l := List.getElem_mem _
      generalize l[k] = x at *
      have hss : (Y ++ opK.cat (l.take k)).size = Y.size + (opK.cat (l.take k)).size := ByteArray.size_append
      have HPR := Lib.hid (fun wx => (show Calls Tryd.prog 40 #[.agg #[.int .i64 x.C, .int .i64 x.D, .int .i64 x.I, .int .i64 x.M, .int .i64 x.K, .int .i64 x.U, .string x.s]] wx fun e w' => e = .returned (.string (opK.b x)) ∧ Below wx.heap.size wx w' from opP_mv x wx (HW.out x hxm).1 (HW.out x hxm).2))
      generalize Y ++ opK.cat (l.take k) = Z at *
      generalize opK.b x = P at *
      have hsz : Z.size + P.size ≤ 7000100 := by omega
      have hE : opE.In (wr.alloc (.cells #[.int .i64 x.C, .int .i64 x.D, .int .i64 x.I, .int .i64 x.M, .int .i64 x.K, .int .i64 x.U, .string x.s] 50)) wr.heap.size x := El.In.new (E := opE) wr x _ rfl
      have hal := below_alloc (Below.refl wr.heap.size wr) (.cells #[.int .i64 x.C, .int .i64 x.D, .int .i64 x.I, .int .i64 x.M, .int .i64 x.K, .int .i64 x.U, .string x.s] 50)
      replace hbd := builder_below hbd hal
      replace hN := hN.trans (hal.mono (Nat.le_of_lt hlt))
      replace hlt := Nat.lt_of_lt_of_le hlt hal.size
      clear hc eA hit hss hxm hal
      go_wp2_with (first | (refine El.load opRow rfl _ rfl b (off + k * 7) rfl x hat #[.int .i64 x.C, .int .i64 x.D, .int .i64 x.I, .int .i64 x.M, .int .i64 x.K, .int .i64 x.U, .string x.s] rfl ?_) | (refine El.load opRow rfl _ rfl wr.heap.size 0 rfl x hE.at #[.int .i64 x.C, .int .i64 x.D, .int .i64 x.I, .int .i64 x.M, .int .i64 x.K, .int .i64 x.U, .string x.s] rfl ?_) | fail)
      refine (HPR.out _).mono ?_
      rintro r w2 ⟨rfl, hb2⟩
      replace hbd := builder_below hbd hb2
      replace hN := hN.trans (hb2.mono (Nat.le_of_lt hlt))
      replace hlt := Nat.lt_of_lt_of_le hlt hb2.size
      clear hE hat hb2
      go_wp2_with fail
      refine (wstr_any nb nb _ P _ hbd (by simp only [Lib.strCells_length]; omega) (Nat.le_of_lt hlt)).mono ?_
      rintro r w3 ⟨rfl, hbd3, hN3, _⟩
      rw [← strCells_app, ← HNX.out] at hbd3
      replace hN := hN.trans hN3
      go_wp2_with fail
      exact ⟨⟨k + 1, by omega, by go_num, hbd3, hN⟩, by simp [intOf]; omega⟩
    · obtain rfl : k = l.length := by omega
      rw [List.take_length, ← HV.out] at hbd
      go_wp2_with fail
      go_end0
      exact ⟨rfl, hbd, hN⟩
set_option maxRecDepth 100000 in
set_option maxHeartbeats 4000000 in
theorem plRp_any (nb : Nat) (X : ByteArray) (A : Option Addr) (cap : Nat) (l : List Rp) (w0 w : World) (h0 : w0.heap.size ≤ nb) (hB0 : Below w0.heap.size w0 w) (hbd : Lib.IsBuilder 68 5 nb nb (Lib.strCells X) w) (hT : rpE.Sl w0 A l) (hl : l.length ≤ 300) (hz : X.size ≤ 5000000) (hz2 : (rpK.cat l).size ≤ 2000000) (hw : ∀ x ∈ l, RpW x) :
    Calls Tryd.prog 41 #[.pointer (some ⟨nb, 0, none⟩), .slice A l.length cap, .func (.func 42) #[] #[]] w fun r w' => r = .returned (.tuple #[]) ∧ Lib.IsBuilder 68 5 nb nb (Lib.strCells (X ++ rpK.part l)) w' ∧ Below nb w w' := by
  have HT := Lib.hid hT
  have HW := Lib.hid hw
  have HB0 := Lib.hid hB0
  have C1 := Lib.hid (fun wx => num_any (l.length : Int) wx (by omega) (by omega))
  have z1 := bytesOf_le10 (n := (l.length : Int)) (by unfold i64; omega)
  have HV := Lib.hid (show X ++ rpK.part l = X ++ bytesOf l.length ++ rpK.cat l by unfold Kd.part; simp only [ByteArray.append_assoc])
  have hlt : nb < w.heap.size := by rcases hbd with h | h <;> exact h.lt
  generalize bytesOf (l.length : Int) = N at *
  clear hT hw hB0
  go_enter Tryd.func41, Tryd.ntmps41
  go_wp2_with fail
  refine (C1.out _).mono ?_
  rintro e w1 ⟨rfl, hb1⟩
  replace hbd := builder_below hbd hb1
  have hlt1 := Nat.lt_of_lt_of_le hlt hb1.size
  have hN : Below nb w w1 := hb1.mono (Nat.le_of_lt hlt)
  clear hb1 C1
  go_wp2_with fail
  refine (wstr_any nb nb _ N _ hbd (by simp only [Lib.strCells_length]; omega) (Nat.le_of_lt hlt1)).mono ?_
  rintro e w2 ⟨rfl, hbd2, hN2, _⟩
  rw [← strCells_app] at hbd2
  replace hN := hN.trans hN2
  have hyz : (X ++ N).size ≤ 5000010 := by rw [ByteArray.size_append]; omega
  generalize X ++ N = Y at *
  have hst : Y = Y ++ rpK.cat (l.take 0) := by rw [List.take_zero]; exact L_inj (by rw [L_app]; show L Y = L Y ++ L ⟨#[]⟩; simp [L])
  rw [hst] at hbd2
  clear hst hN2 hbd hlt hlt1 hz z1
  go_wp2_with fail
  go_loopw [15] (fun i wr => ∃ k : Nat, k ≤ l.length ∧ i = .int .i64 k ∧ Lib.IsBuilder 68 5 nb nb (Lib.strCells (Y ++ rpK.cat (l.take k))) wr ∧ Below nb w wr) (fun i _ => l.length - (intOf i).toNat)
  case atStart => exact ⟨0, Nat.zero_le _, rfl, hbd2, hN⟩
  case round =>
    clear hbd2 hN
    obtain ⟨k, hk, rfl, hbd, hN⟩ := hrel
    have hlt : nb < wr.heap.size := by rcases hbd with h | h <;> exact h.lt
    by_cases hkl : k < l.length
    · obtain ⟨b, off, eA, hbw, hc⟩ := HT.out (by omega)
      have hx := rpIdxH (cap := cap) eA hkl
      have hat : rpE.At wr b (off + k * 9) l[k] := (hc k hkl).below (HB0.out.trans (hN.mono h0)) hbw
      have hit := rpK.item_le l k hkl
      have HNX := Lib.hid (show Y ++ rpK.cat (l.take (k + 1)) = Y ++ rpK.cat (l.take k) ++ rpK.b l[k] by rw [rpK.cat_next l k hkl, ByteArray.append_assoc])
      have hxm : l[k] ∈ l := List.getElem_mem _
      generalize l[k] = x at *
      have hss : (Y ++ rpK.cat (l.take k)).size = Y.size + (rpK.cat (l.take k)).size := ByteArray.size_append
      have HPR := Lib.hid (fun wx => (show Calls Tryd.prog 42 #[.agg #[.int .i64 x.d, .int .i64 x.i, .int .i64 x.b, .int .i64 x.t, .int .i64 x.m, .int .i64 x.p, .int .i64 x.c, .int .i64 x.s, .int .i64 x.k]] wx fun e w' => e = .returned (.string (rpK.b x)) ∧ Below wx.heap.size wx w' from rpPrint_any x wx (HW.out x hxm)))
      generalize Y ++ rpK.cat (l.take k) = Z at *
      generalize rpK.b x = P at *
      have hsz : Z.size + P.size ≤ 7000100 := by omega
      have hE : rpE.In (wr.alloc (.cells #[.int .i64 x.d, .int .i64 x.i, .int .i64 x.b, .int .i64 x.t, .int .i64 x.m, .int .i64 x.p, .int .i64 x.c, .int .i64 x.s, .int .i64 x.k] 54)) wr.heap.size x := El.In.new (E := rpE) wr x _ rfl
      have hal := below_alloc (Below.refl wr.heap.size wr) (.cells #[.int .i64 x.d, .int .i64 x.i, .int .i64 x.b, .int .i64 x.t, .int .i64 x.m, .int .i64 x.p, .int .i64 x.c, .int .i64 x.s, .int .i64 x.k] 54)
      replace hbd := builder_below hbd hal
      replace hN := hN.trans (hal.mono (Nat.le_of_lt hlt))
      replace hlt := Nat.lt_of_lt_of_le hlt hal.size
      clear hc eA hit hss hxm hal
      go_wp2_with (first | (refine El.load rpRow rfl _ rfl b (off + k * 9) rfl x hat #[.int .i64 x.d, .int .i64 x.i, .int .i64 x.b, .int .i64 x.t, .int .i64 x.m, .int .i64 x.p, .int .i64 x.c, .int .i64 x.s, .int .i64 x.k] rfl ?_) | (refine El.load rpRow rfl _ rfl wr.heap.size 0 rfl x hE.at #[.int .i64 x.d, .int .i64 x.i, .int .i64 x.b, .int .i64 x.t, .int .i64 x.m, .int .i64 x.p, .int .i64 x.c, .int .i64 x.s, .int .i64 x.k] rfl ?_) | fail)
      refine (HPR.out _).mono ?_
      rintro r w2 ⟨rfl, hb2⟩
      replace hbd := builder_below hbd hb2
      replace hN := hN.trans (hb2.mono (Nat.le_of_lt hlt))
      replace hlt := Nat.lt_of_lt_of_le hlt hb2.size
      clear hE hat hb2
      go_wp2_with fail
      refine (wstr_any nb nb _ P _ hbd (by simp only [Lib.strCells_length]; omega) (Nat.le_of_lt hlt)).mono ?_
      rintro r w3 ⟨rfl, hbd3, hN3, _⟩
      rw [← strCells_app, ← HNX.out] at hbd3
      replace hN := hN.trans hN3
      go_wp2_with fail
      exact ⟨⟨k + 1, by omega, by go_num, hbd3, hN⟩, by simp [intOf]; omega⟩
    · obtain rfl : k = l.length := by omega
      rw [List.take_length, ← HV.out] at hbd
      go_wp2_with fail
      go_end0
      exact ⟨rfl, hbd, hN⟩
set_option maxRecDepth 100000 in
set_option maxHeartbeats 4000000 in
theorem plEn_any (nb : Nat) (X : ByteArray) (A : Option Addr) (cap : Nat) (l : List En) (w0 w : World) (h0 : w0.heap.size ≤ nb) (hB0 : Below w0.heap.size w0 w) (hbd : Lib.IsBuilder 68 5 nb nb (Lib.strCells X) w) (hT : enE.Sl w0 A l) (hl : l.length ≤ 300) (hz : X.size ≤ 5000000) (hz2 : (enK.cat l).size ≤ 2000000) (hw : ∀ x ∈ l, EnW x ∧ x.o.s.size ≤ 1000000) :
    Calls Tryd.prog 43 #[.pointer (some ⟨nb, 0, none⟩), .slice A l.length cap, .func (.func 44) #[] #[]] w fun r w' => r = .returned (.tuple #[]) ∧ Lib.IsBuilder 68 5 nb nb (Lib.strCells (X ++ enK.part l)) w' ∧ Below nb w w' := by
  have HT := Lib.hid hT
  have HW := Lib.hid hw
  have HB0 := Lib.hid hB0
  have C1 := Lib.hid (fun wx => num_any (l.length : Int) wx (by omega) (by omega))
  have z1 := bytesOf_le10 (n := (l.length : Int)) (by unfold i64; omega)
  have HV := Lib.hid (show X ++ enK.part l = X ++ bytesOf l.length ++ enK.cat l by unfold Kd.part; simp only [ByteArray.append_assoc])
  have hlt : nb < w.heap.size := by rcases hbd with h | h <;> exact h.lt
  generalize bytesOf (l.length : Int) = N at *
  clear hT hw hB0
  go_enter Tryd.func43, Tryd.ntmps43
  go_wp2_with fail
  refine (C1.out _).mono ?_
  rintro e w1 ⟨rfl, hb1⟩
  replace hbd := builder_below hbd hb1
  have hlt1 := Nat.lt_of_lt_of_le hlt hb1.size
  have hN : Below nb w w1 := hb1.mono (Nat.le_of_lt hlt)
  clear hb1 C1
  go_wp2_with fail
  refine (wstr_any nb nb _ N _ hbd (by simp only [Lib.strCells_length]; omega) (Nat.le_of_lt hlt1)).mono ?_
  rintro e w2 ⟨rfl, hbd2, hN2, _⟩
  rw [← strCells_app] at hbd2
  replace hN := hN.trans hN2
  have hyz : (X ++ N).size ≤ 5000010 := by rw [ByteArray.size_append]; omega
  generalize X ++ N = Y at *
  have hst : Y = Y ++ enK.cat (l.take 0) := by rw [List.take_zero]; exact L_inj (by rw [L_app]; show L Y = L Y ++ L ⟨#[]⟩; simp [L])
  rw [hst] at hbd2
  clear hst hN2 hbd hlt hlt1 hz z1
  go_wp2_with fail
  go_loopw [15] (fun i wr => ∃ k : Nat, k ≤ l.length ∧ i = .int .i64 k ∧ Lib.IsBuilder 68 5 nb nb (Lib.strCells (Y ++ enK.cat (l.take k))) wr ∧ Below nb w wr) (fun i _ => l.length - (intOf i).toNat)
  case atStart => exact ⟨0, Nat.zero_le _, rfl, hbd2, hN⟩
  case round =>
    clear hbd2 hN
    obtain ⟨k, hk, rfl, hbd, hN⟩ := hrel
    have hlt : nb < wr.heap.size := by rcases hbd with h | h <;> exact h.lt
    by_cases hkl : k < l.length
    · obtain ⟨b, off, eA, hbw, hc⟩ := HT.out (by omega)
      have hx := enIdxF (cap := cap) eA hkl
      have hat : enE.At wr b (off + k * 10) l[k] := (hc k hkl).below (HB0.out.trans (hN.mono h0)) hbw
      have hit := enK.item_le l k hkl
      have HNX := Lib.hid (show Y ++ enK.cat (l.take (k + 1)) = Y ++ enK.cat (l.take k) ++ enK.b l[k] by rw [enK.cat_next l k hkl, ByteArray.append_assoc])
      have hxm : l[k] ∈ l := List.getElem_mem _
      generalize l[k] = x at *
      have hss : (Y ++ enK.cat (l.take k)).size = Y.size + (enK.cat (l.take k)).size := ByteArray.size_append
      have HPR := Lib.hid (fun wx => (show Calls Tryd.prog 44 #[.agg #[.int .i64 x.k, .int .i64 x.d, .int .i64 x.i, .int .i64 x.o.C, .int .i64 x.o.D, .int .i64 x.o.I, .int .i64 x.o.M, .int .i64 x.o.K, .int .i64 x.o.U, .string x.o.s]] wx fun e w' => e = .returned (.string (enK.b x)) ∧ Below wx.heap.size wx w' from entPrint_any x wx (HW.out x hxm).1 (HW.out x hxm).2))
      generalize Y ++ enK.cat (l.take k) = Z at *
      generalize enK.b x = P at *
      have hsz : Z.size + P.size ≤ 7000100 := by omega
      have hE : enE.In (wr.alloc (.cells #[.int .i64 x.k, .int .i64 x.d, .int .i64 x.i, .int .i64 x.o.C, .int .i64 x.o.D, .int .i64 x.o.I, .int .i64 x.o.M, .int .i64 x.o.K, .int .i64 x.o.U, .string x.o.s] 52)) wr.heap.size x := El.In.new (E := enE) wr x _ rfl
      have hal := below_alloc (Below.refl wr.heap.size wr) (.cells #[.int .i64 x.k, .int .i64 x.d, .int .i64 x.i, .int .i64 x.o.C, .int .i64 x.o.D, .int .i64 x.o.I, .int .i64 x.o.M, .int .i64 x.o.K, .int .i64 x.o.U, .string x.o.s] 52)
      replace hbd := builder_below hbd hal
      replace hN := hN.trans (hal.mono (Nat.le_of_lt hlt))
      replace hlt := Nat.lt_of_lt_of_le hlt hal.size
      clear hc eA hit hss hxm hal
      go_wp2_with (first | (refine El.load enRow rfl _ rfl b (off + k * 10) rfl x hat #[.int .i64 x.k, .int .i64 x.d, .int .i64 x.i, .int .i64 x.o.C, .int .i64 x.o.D, .int .i64 x.o.I, .int .i64 x.o.M, .int .i64 x.o.K, .int .i64 x.o.U, .string x.o.s] rfl ?_) | (refine El.load enRow rfl _ rfl wr.heap.size 0 rfl x hE.at #[.int .i64 x.k, .int .i64 x.d, .int .i64 x.i, .int .i64 x.o.C, .int .i64 x.o.D, .int .i64 x.o.I, .int .i64 x.o.M, .int .i64 x.o.K, .int .i64 x.o.U, .string x.o.s] rfl ?_) | fail)
      refine (HPR.out _).mono ?_
      rintro r w2 ⟨rfl, hb2⟩
      replace hbd := builder_below hbd hb2
      replace hN := hN.trans (hb2.mono (Nat.le_of_lt hlt))
      replace hlt := Nat.lt_of_lt_of_le hlt hb2.size
      clear hE hat hb2
      go_wp2_with fail
      refine (wstr_any nb nb _ P _ hbd (by simp only [Lib.strCells_length]; omega) (Nat.le_of_lt hlt)).mono ?_
      rintro r w3 ⟨rfl, hbd3, hN3, _⟩
      rw [← strCells_app, ← HNX.out] at hbd3
      replace hN := hN.trans hN3
      go_wp2_with fail
      exact ⟨⟨k + 1, by omega, by go_num, hbd3, hN⟩, by simp [intOf]; omega⟩
    · obtain rfl : k = l.length := by omega
      rw [List.take_length, ← HV.out] at hbd
      go_wp2_with fail
      go_end0
      exact ⟨rfl, hbd, hN⟩
set_option maxRecDepth 100000 in
set_option maxHeartbeats 4000000 in
theorem plGf_any (nb : Nat) (X : ByteArray) (A : Option Addr) (cap : Nat) (l : List Gf) (w0 w : World) (h0 : w0.heap.size ≤ nb) (hB0 : Below w0.heap.size w0 w) (hbd : Lib.IsBuilder 68 5 nb nb (Lib.strCells X) w) (hT : gfE.Sl w0 A l) (hl : l.length ≤ 300) (hz : X.size ≤ 5000000) (hz2 : (gfK.cat l).size ≤ 2000000) (hw : ∀ x ∈ l, GfW x) :
    Calls Tryd.prog 45 #[.pointer (some ⟨nb, 0, none⟩), .slice A l.length cap, .func (.func 12) #[] #[]] w fun r w' => r = .returned (.tuple #[]) ∧ Lib.IsBuilder 68 5 nb nb (Lib.strCells (X ++ gfK.part l)) w' ∧ Below nb w w' := by
  have HT := Lib.hid hT
  have HW := Lib.hid hw
  have HB0 := Lib.hid hB0
  have C1 := Lib.hid (fun wx => num_any (l.length : Int) wx (by omega) (by omega))
  have z1 := bytesOf_le10 (n := (l.length : Int)) (by unfold i64; omega)
  have HV := Lib.hid (show X ++ gfK.part l = X ++ bytesOf l.length ++ gfK.cat l by unfold Kd.part; simp only [ByteArray.append_assoc])
  have hlt : nb < w.heap.size := by rcases hbd with h | h <;> exact h.lt
  generalize bytesOf (l.length : Int) = N at *
  clear hT hw hB0
  go_enter Tryd.func45, Tryd.ntmps45
  go_wp2_with fail
  refine (C1.out _).mono ?_
  rintro e w1 ⟨rfl, hb1⟩
  replace hbd := builder_below hbd hb1
  have hlt1 := Nat.lt_of_lt_of_le hlt hb1.size
  have hN : Below nb w w1 := hb1.mono (Nat.le_of_lt hlt)
  clear hb1 C1
  go_wp2_with fail
  refine (wstr_any nb nb _ N _ hbd (by simp only [Lib.strCells_length]; omega) (Nat.le_of_lt hlt1)).mono ?_
  rintro e w2 ⟨rfl, hbd2, hN2, _⟩
  rw [← strCells_app] at hbd2
  replace hN := hN.trans hN2
  have hyz : (X ++ N).size ≤ 5000010 := by rw [ByteArray.size_append]; omega
  generalize X ++ N = Y at *
  have hst : Y = Y ++ gfK.cat (l.take 0) := by rw [List.take_zero]; exact L_inj (by rw [L_app]; show L Y = L Y ++ L ⟨#[]⟩; simp [L])
  rw [hst] at hbd2
  clear hst hN2 hbd hlt hlt1 hz z1
  go_wp2_with fail
  go_loopw [15] (fun i wr => ∃ k : Nat, k ≤ l.length ∧ i = .int .i64 k ∧ Lib.IsBuilder 68 5 nb nb (Lib.strCells (Y ++ gfK.cat (l.take k))) wr ∧ Below nb w wr) (fun i _ => l.length - (intOf i).toNat)
  case atStart => exact ⟨0, Nat.zero_le _, rfl, hbd2, hN⟩
  case round =>
    clear hbd2 hN
    obtain ⟨k, hk, rfl, hbd, hN⟩ := hrel
    have hlt : nb < wr.heap.size := by rcases hbd with h | h <;> exact h.lt
    by_cases hkl : k < l.length
    · obtain ⟨b, off, eA, hbw, hc⟩ := HT.out (by omega)
      have hx := gfIdxH (cap := cap) eA hkl
      have hat : gfE.At wr b (off + k * 5) l[k] := (hc k hkl).below (HB0.out.trans (hN.mono h0)) hbw
      have hit := gfK.item_le l k hkl
      have HNX := Lib.hid (show Y ++ gfK.cat (l.take (k + 1)) = Y ++ gfK.cat (l.take k) ++ gfK.b l[k] by rw [gfK.cat_next l k hkl, ByteArray.append_assoc])
      have hxm : l[k] ∈ l := List.getElem_mem _
      generalize l[k] = x at *
      have hss : (Y ++ gfK.cat (l.take k)).size = Y.size + (gfK.cat (l.take k)).size := ByteArray.size_append
      have HPR := Lib.hid (fun wx => (show Calls Tryd.prog 12 #[.agg #[.int .i64 x.d, .int .i64 x.i, .int .i64 x.c, .int .i64 x.t, .string x.s]] wx fun e w' => e = .returned (.string (gfK.b x)) ∧ Below wx.heap.size wx w' from gfPrint_any x wx (HW.out x hxm)))
      generalize Y ++ gfK.cat (l.take k) = Z at *
      generalize gfK.b x = P at *
      have hsz : Z.size + P.size ≤ 7000100 := by omega
      have hE : gfE.In (wr.alloc (.cells #[.int .i64 x.d, .int .i64 x.i, .int .i64 x.c, .int .i64 x.t, .string x.s] 32)) wr.heap.size x := El.In.new (E := gfE) wr x _ rfl
      have hal := below_alloc (Below.refl wr.heap.size wr) (.cells #[.int .i64 x.d, .int .i64 x.i, .int .i64 x.c, .int .i64 x.t, .string x.s] 32)
      replace hbd := builder_below hbd hal
      replace hN := hN.trans (hal.mono (Nat.le_of_lt hlt))
      replace hlt := Nat.lt_of_lt_of_le hlt hal.size
      clear hc eA hit hss hxm hal
      go_wp2_with (first | (refine El.load gfRow rfl _ rfl b (off + k * 5) rfl x hat #[.int .i64 x.d, .int .i64 x.i, .int .i64 x.c, .int .i64 x.t, .string x.s] rfl ?_) | (refine El.load gfRow rfl _ rfl wr.heap.size 0 rfl x hE.at #[.int .i64 x.d, .int .i64 x.i, .int .i64 x.c, .int .i64 x.t, .string x.s] rfl ?_) | fail)
      refine (HPR.out _).mono ?_
      rintro r w2 ⟨rfl, hb2⟩
      replace hbd := builder_below hbd hb2
      replace hN := hN.trans (hb2.mono (Nat.le_of_lt hlt))
      replace hlt := Nat.lt_of_lt_of_le hlt hb2.size
      clear hE hat hb2
      go_wp2_with fail
      refine (wstr_any nb nb _ P _ hbd (by simp only [Lib.strCells_length]; omega) (Nat.le_of_lt hlt)).mono ?_
      rintro r w3 ⟨rfl, hbd3, hN3, _⟩
      rw [← strCells_app, ← HNX.out] at hbd3
      replace hN := hN.trans hN3
      go_wp2_with fail
      exact ⟨⟨k + 1, by omega, by go_num, hbd3, hN⟩, by simp [intOf]; omega⟩
    · obtain rfl : k = l.length := by omega
      rw [List.take_length, ← HV.out] at hbd
      go_wp2_with fail
      go_end0
      exact ⟨rfl, hbd, hN⟩
-- END
theorem row_lt {w : World} {b : Nat} {o : Obj} (h : w.heap[b]? = some o) : b < w.heap.size := by
  rcases Nat.lt_or_ge b w.heap.size with h1 | h1
  · exact h1
  · simp [Array.getElem?_eq_none h1] at h
theorem rowInts2 {w : World} {b : Nat} {l : List Int} {T : TypeId} (h : w.heap[b]? = some (.cells (l.map fun n => (Value.int .i64 n)).toArray T (0, 0))) (j : Nat) (hj : j < l.length) : w.cell? ⟨b, j, none⟩ = some (.int .i64 l[j]) := by
  rw [cell_of_row w b j _ T (0, 0) h]
  simp [hj]
set_option maxRecDepth 100000 in
set_option maxHeartbeats 8000000 in
theorem frPrint_any (y : Fw) (w : World) (hLd : Crk.Laid w) (hw : FrW y.x) (hok : y.ok w) : Calls Tryd.prog 16 #[.agg #[.int .i64 y.x.a, .int .i64 y.x.b, .int .i64 y.x.boot, .int .i64 y.x.first, .slice y.oA y.x.os.length y.oc, .int .i64 y.x.pos, .slice y.rA y.x.rs.length y.rc, .int .i64 y.x.start, .slice y.eA y.x.es.length y.ec, .int .i64 y.x.ack, .int .i64 y.x.grant, .int .i64 y.x.s, .int .i64 y.x.t, .slice y.gA y.x.gs.length y.gc]] w fun e w' => e = .returned (.string (frBytes y.x)) ∧ Below w.heap.size w w' := by
  have hP : frE.In ((w.alloc (.cells #[.int .i64 y.x.a, .int .i64 y.x.b, .int .i64 y.x.boot, .int .i64 y.x.first, .slice y.oA y.x.os.length y.oc, .int .i64 y.x.pos, .slice y.rA y.x.rs.length y.rc, .int .i64 y.x.start, .slice y.eA y.x.es.length y.ec, .int .i64 y.x.ack, .int .i64 y.x.grant, .int .i64 y.x.s, .int .i64 y.x.t, .slice y.gA y.x.gs.length y.gc] 27)).alloc (.cells #[.pointer none, .slice none 0 0] 68)) w.heap.size y := (El.In.new (E := frE) w y _ rfl).alloc _
  have hbd := builder_new (w.alloc (.cells #[.int .i64 y.x.a, .int .i64 y.x.b, .int .i64 y.x.boot, .int .i64 y.x.first, .slice y.oA y.x.os.length y.oc, .int .i64 y.x.pos, .slice y.rA y.x.rs.length y.rc, .int .i64 y.x.start, .slice y.eA y.x.es.length y.ec, .int .i64 y.x.ack, .int .i64 y.x.grant, .int .i64 y.x.s, .int .i64 y.x.t, .slice y.gA y.x.gs.length y.gc] 27))
  have hB := below_alloc (below_alloc (Below.refl w.heap.size w) (.cells #[.int .i64 y.x.a, .int .i64 y.x.b, .int .i64 y.x.boot, .int .i64 y.x.first, .slice y.oA y.x.os.length y.oc, .int .i64 y.x.pos, .slice y.rA y.x.rs.length y.rc, .int .i64 y.x.start, .slice y.eA y.x.es.length y.ec, .int .i64 y.x.ack, .int .i64 y.x.grant, .int .i64 y.x.s, .int .i64 y.x.t, .slice y.gA y.x.gs.length y.gc] 27)) (.cells #[.pointer none, .slice none 0 0] 68)
  have hL : w.heap.size + 1 < ((w.alloc (.cells #[.int .i64 y.x.a, .int .i64 y.x.b, .int .i64 y.x.boot, .int .i64 y.x.first, .slice y.oA y.x.os.length y.oc, .int .i64 y.x.pos, .slice y.rA y.x.rs.length y.rc, .int .i64 y.x.start, .slice y.eA y.x.es.length y.ec, .int .i64 y.x.ack, .int .i64 y.x.grant, .int .i64 y.x.s, .int .i64 y.x.t, .slice y.gA y.x.gs.length y.gc] 27)).alloc (.cells #[.pointer none, .slice none 0 0] 68)).heap.size := by rw [alloc_size, alloc_size]; omega
  rw [alloc_size] at hbd
  have HOK := Lib.hid hok
  have HLD := Lib.hid hLd
  have hz := hw.z
  have HL := Lib.hid hw.l
  unfold bodyF Kd.part at hz
  simp only [ByteArray.size_append] at hz
  have HWN := Lib.hid hw.n
  have HW := Lib.hid hw
  have HV := Lib.hid (show frBytes y.x = Crk.sealOf (bodyF y.x) from rfl)
  have HX := Lib.hid (show bodyF y.x = catN (frL y.x) ++ opK.part y.x.os ++ rpK.part y.x.rs ++ enK.part y.x.es ++ gfK.part y.x.gs by unfold bodyF; simp only [ByteArray.append_assoc])
  clear hw hok hLd
  go_enter Tryd.func16, Tryd.ntmps16
  go_upto_region 2 with fail
  generalize (w.alloc (.cells #[.int .i64 y.x.a, .int .i64 y.x.b, .int .i64 y.x.boot, .int .i64 y.x.first, .slice y.oA y.x.os.length y.oc, .int .i64 y.x.pos, .slice y.rA y.x.rs.length y.rc, .int .i64 y.x.start, .slice y.eA y.x.es.length y.ec, .int .i64 y.x.ack, .int .i64 y.x.grant, .int .i64 y.x.s, .int .i64 y.x.t, .slice y.gA y.x.gs.length y.gc] 27)).alloc (.cells #[.pointer none, .slice none 0 0] 68) = W at *
  obtain ⟨nb, hnb⟩ : ∃ n, w.heap.size + 1 = n := ⟨_, rfl⟩
  obtain ⟨n1, hn1⟩ : ∃ n, w.heap.size = n := ⟨_, rfl⟩
  have hne : n1 < nb := by omega
  have hwb : w.heap.size ≤ nb := by omega
  rw [hnb] at hbd hL ⊢
  rw [hn1] at hP ⊢
  clear hn1 hnb
  obtain ⟨p0, p1, p2, p3, p4, p5, p6, p7, p8, p9, p10, p11, p12, p13⟩ := frIn14 hP
  have hrow : (W.alloc (.cells #[.int .i64 y.x.a, .int .i64 y.x.b, .int .i64 y.x.boot, .int .i64 y.x.first, .int .i64 y.x.pos, .int .i64 y.x.start, .int .i64 y.x.ack, .int .i64 y.x.grant, .int .i64 y.x.s, .int .i64 y.x.t] 3)).heap[W.heap.size]? = some (.cells ((frL y.x).map fun n => (Value.int .i64 n)).toArray 3 (0, 0)) := heap_alloc_new W _
  have hal := below_alloc (Below.refl W.heap.size W) (.cells #[.int .i64 y.x.a, .int .i64 y.x.b, .int .i64 y.x.boot, .int .i64 y.x.first, .int .i64 y.x.pos, .int .i64 y.x.start, .int .i64 y.x.ack, .int .i64 y.x.grant, .int .i64 y.x.s, .int .i64 y.x.t] 3)
  replace hP := hP.below hal
  replace hbd := builder_below hbd hal
  replace hB := below_then hB hal
  have hnr : W.heap.size ≠ nb := by omega
  replace hL := Nat.lt_of_lt_of_le hL hal.size
  clear hal
  go_wp2_with fail
  clear p0 p1 p2 p3 p4 p5 p6 p7 p8 p9 p10 p11 p12 p13
  generalize W.alloc (.cells #[.int .i64 y.x.a, .int .i64 y.x.b, .int .i64 y.x.boot, .int .i64 y.x.first, .int .i64 y.x.pos, .int .i64 y.x.start, .int .i64 y.x.ack, .int .i64 y.x.grant, .int .i64 y.x.s, .int .i64 y.x.t] 3) = V at *
  generalize W.heap.size = nr at *
  have hbd0 : Lib.IsBuilder 68 5 nb nb (Lib.strCells (catN ((frL y.x).take 0))) V := by
    have h := hbd
    rw [List.take_zero]
    exact h
  clear hbd hL
  go_loopw [28] (fun i wr => ∃ k : Nat, k ≤ 10 ∧ i = .int .i64 k ∧ Lib.IsBuilder 68 5 nb nb (Lib.strCells (catN ((frL y.x).take k))) wr ∧ wr.heap[nr]? = some (.cells ((frL y.x).map fun n => (Value.int .i64 n)).toArray 3 (0, 0)) ∧ frE.In wr n1 y ∧ Below w.heap.size w wr) (fun i _ => 10 - (intOf i).toNat)
  case atStart => exact ⟨0, Nat.zero_le _, rfl, hbd0, hrow, hP, hB⟩
  case round =>
    clear hbd0 hrow hP hB
    obtain ⟨k, hk, rfl, hbd, hrow, hP, hB⟩ := hrel
    have hlt : nb < wr.heap.size := by rcases hbd with h | h <;> exact h.lt
    by_cases hkl : k < 10
    · have hc : wr.cell? ⟨nr, k, none⟩ = some (.int .i64 ((frL y.x).getD k 0)) := by
        rw [List.getD_eq_getElem?_getD, List.getElem?_eq_getElem (by simpa [frL] using hkl)]
        exact rowInts2 hrow k (by simpa [frL] using hkl)
      have hi := fr10_i64 HWN.out hkl
      have HNX := Lib.hid (fr10_next y.x hkl)
      have hle := catN_le ((frL y.x).take k) (fun n hn => HWN.out n (List.mem_of_mem_take hn))
      rw [List.length_take] at hle
      have HROW := Lib.hid hrow
      clear hrow
      generalize (frL y.x).getD k 0 = n at *
      have C := Lib.hid (fun wx => num_any n wx hi.1 hi.2)
      have hz1 := bytesOf_le10 hi
      generalize catN ((frL y.x).take k) = T at *
      generalize bytesOf n = x at *
      have hT : T.size ≤ 100 := by omega
      clear hi hle
      go_wp2_with fail
      refine (C.out _).mono ?_
      rintro e w2 ⟨rfl, hb2⟩
      have hrow := (hb2.block nr (row_lt HROW.out)).trans HROW.out
      replace hP := hP.below hb2
      replace hB := below_then hB hb2
      replace hbd := builder_below hbd hb2
      replace hlt := Nat.lt_of_lt_of_le hlt hb2.size
      clear hb2 HROW C hc
      go_wp2_with fail
      refine (wstr_any nb nb _ x _ hbd (by simp only [Lib.strCells_length]; omega) (Nat.le_of_lt hlt)).mono ?_
      rintro e w3 ⟨rfl, hbd3, hN3, hr3⟩
      rw [← strCells_app, ← HNX.out] at hbd3
      replace hrow := (hr3 nr _ _ _ hrow hnr (by decide)).trans hrow
      replace hP : frE.In w3 n1 y := (hN3.block n1 hne).trans hP
      replace hB := hB.trans (hN3.mono hwb)
      clear hbd hN3 hr3 hlt
      go_wp2_with fail
      exact ⟨⟨k + 1, by omega, by go_num, hbd3, hrow, hP, hB⟩, by simp [intOf]; omega⟩
    · obtain rfl : k = 10 := by omega
      have hv : catN ((frL y.x).take 10) = catN (frL y.x) := rfl
      rw [hv] at hbd
      clear hv hk hkl hrow
      have hX0 := catN_le (frL y.x) HWN.out
      rw [show (frL y.x).length = 10 from rfl] at hX0
      have HB0 := Lib.hid hB
      have HZ := Lib.hid (show (opK.part y.x.os).size ≤ 1000000 ∧ (rpK.part y.x.rs).size ≤ 1000000 ∧ (enK.part y.x.es).size ≤ 1000000 ∧ (gfK.part y.x.gs).size ≤ 1000000 by unfold Kd.part; simp only [ByteArray.size_append]; omega)
      have HZ2 := Lib.hid (show (opK.cat y.x.os).size ≤ 2000000 ∧ (rpK.cat y.x.rs).size ≤ 2000000 ∧ (enK.cat y.x.es).size ≤ 2000000 ∧ (gfK.cat y.x.gs).size ≤ 2000000 by omega)
      have HX0 := Lib.hid (show (bodyF y.x).size ≤ 1000000 from HW.out.z)
      clear hz
      obtain ⟨X0, e0⟩ : ∃ X, catN (frL y.x) = X := ⟨_, rfl⟩
      rw [e0] at hX0 hbd
      have E0 := Lib.hid e0
      clear e0
      obtain ⟨p0, p1, p2, p3, p4, p5, p6, p7, p8, p9, p10, p11, p12, p13⟩ := frIn14 hP
      clear p0 p1 p2 p3 p5 p6 p7 p8 p9 p10 p11 p12 p13
      go_wp2_with fail
      refine (plOp_any nb X0 _ _ y.x.os w _ hwb hB hbd HOK.out.o.1 HL.out.1 (by omega) HZ2.out.1 HW.out.os).mono ?_
      rintro e w1 ⟨rfl, hbd1, hN⟩
      replace hP : frE.In w1 n1 y := (hN.block n1 hne).trans hP
      replace hB := hB.trans (hN.mono hwb)
      clear hN hbd p4
      obtain ⟨X1, e1⟩ : ∃ X, X0 ++ opK.part y.x.os = X := ⟨_, rfl⟩
      have hX1 : X1.size ≤ 1000100 := by have := HZ.out; rw [← e1, ByteArray.size_append]; omega
      rw [e1] at hbd1
      have E1 := Lib.hid e1
      clear e1
      have hbd := hbd1
      clear hbd1
      obtain ⟨p0, p1, p2, p3, p4, p5, p6, p7, p8, p9, p10, p11, p12, p13⟩ := frIn14 hP
      clear p0 p1 p2 p3 p4 p5 p7 p8 p9 p10 p11 p12 p13
      go_wp2_with fail
      refine (plRp_any nb X1 _ _ y.x.rs w _ hwb hB hbd HOK.out.r.1 HL.out.2.1 (by omega) HZ2.out.2.1 HW.out.rs).mono ?_
      rintro e w2 ⟨rfl, hbd2, hN⟩
      replace hP : frE.In w2 n1 y := (hN.block n1 hne).trans hP
      replace hB := hB.trans (hN.mono hwb)
      clear hN hbd p6
      obtain ⟨X2, e2⟩ : ∃ X, X1 ++ rpK.part y.x.rs = X := ⟨_, rfl⟩
      have hX2 : X2.size ≤ 2000100 := by have := HZ.out; rw [← e2, ByteArray.size_append]; omega
      rw [e2] at hbd2
      have E2 := Lib.hid e2
      clear e2
      have hbd := hbd2
      clear hbd2
      obtain ⟨p0, p1, p2, p3, p4, p5, p6, p7, p8, p9, p10, p11, p12, p13⟩ := frIn14 hP
      clear p0 p1 p2 p3 p4 p5 p6 p7 p9 p10 p11 p12 p13
      go_wp2_with fail
      refine (plEn_any nb X2 _ _ y.x.es w _ hwb hB hbd HOK.out.e.1 HL.out.2.2.1 (by omega) HZ2.out.2.2.1 HW.out.es).mono ?_
      rintro e w3 ⟨rfl, hbd3, hN⟩
      replace hP : frE.In w3 n1 y := (hN.block n1 hne).trans hP
      replace hB := hB.trans (hN.mono hwb)
      clear hN hbd p8
      obtain ⟨X3, e3⟩ : ∃ X, X2 ++ enK.part y.x.es = X := ⟨_, rfl⟩
      have hX3 : X3.size ≤ 3000100 := by have := HZ.out; rw [← e3, ByteArray.size_append]; omega
      rw [e3] at hbd3
      have E3 := Lib.hid e3
      clear e3
      have hbd := hbd3
      clear hbd3
      obtain ⟨p0, p1, p2, p3, p4, p5, p6, p7, p8, p9, p10, p11, p12, p13⟩ := frIn14 hP
      clear p0 p1 p2 p3 p4 p5 p6 p7 p8 p9 p10 p11 p12
      go_wp2_with fail
      refine (plGf_any nb X3 _ _ y.x.gs w _ hwb hB hbd HOK.out.g.1 HL.out.2.2.2 (by omega) HZ2.out.2.2.2 HW.out.gs).mono ?_
      rintro e w4 ⟨rfl, hbd4, hN⟩
      replace hP : frE.In w4 n1 y := (hN.block n1 hne).trans hP
      replace hB := hB.trans (hN.mono hwb)
      clear hN hbd p13
      obtain ⟨X4, e4⟩ : ∃ X, X3 ++ gfK.part y.x.gs = X := ⟨_, rfl⟩
      have hX4 : X4.size ≤ 4000100 := by have := HZ.out; rw [← e4, ByteArray.size_append]; omega
      rw [e4] at hbd4
      have E4 := Lib.hid e4
      clear e4
      have hbd := hbd4
      clear hbd4
      have hlt : nb < w4.heap.size := by rcases hbd with h | h <;> exact h.lt
      have hfin : X4 = bodyF y.x := by rw [HX.out, ← E4.out, ← E3.out, ← E2.out, ← E1.out, E0.out]
      rw [hfin] at hbd
      clear hfin hX1 hX2 hX3 hX4 hX0
      generalize hT : bodyF y.x = T at *
      have HTT := Lib.hid hT
      clear hT
      have C := builder_String_any nb nb (L T) w4 hbd (Nat.le_of_lt hlt)
      rw [show (⟨(L T).toArray⟩ : ByteArray) = T from back_L _] at C
      have HC := Lib.hid C
      clear C hbd
      go_wp2_with fail
      refine HC.out.mono ?_
      rintro r w5 ⟨rfl, hb5⟩
      replace hB := hB.trans (hb5.mono hwb)
      clear HC hb5 hP
      have CS := Lib.hid (Crk.seal_any T w5 HX0.out (Crk.laid_below HLD.out hB))
      go_wp2_with fail
      refine CS.out.mono ?_
      rintro r w6 ⟨rfl, hb6⟩
      go_wp2_with fail
      go_ret
      exact ⟨by rw [HV.out]; rfl, below_then hB hb6⟩
end Go.Proofs.YtndahomgglpdhaaDoor

/- The document's Read and Parse of entries. -/
namespace Go.Proofs.YtndahomgglpdhaaDoor
open Go.RowKit Nam Cod

/-- An operation stored in an entry's block. -/
theorem wpList_store_enOp {ops : Array Oper} {rest : List Oper} {o : Oper} {a : Act} {w : World} {Q : Exit → Act → World → Prop} (hgd : o.guard = none) (x y : Operand) (ho : o.op = .store 50 x y)
    (b : Nat) (p : En) (m : Mv) (hx : a.eval x = .pointer (some ⟨b, 3, none⟩)) (hy : a.eval y = .agg #[.int .i64 m.C, .int .i64 m.D, .int .i64 m.I, .int .i64 m.M, .int .i64 m.K, .int .i64 m.U, .string m.s]) (hg : enE.In w b p)
    (h : wpList Tryd.prog ops Q rest (a.put o.dst undef) (w.setRow b #[.int .i64 ({ p with o := m } : En).k, .int .i64 ({ p with o := m } : En).d, .int .i64 ({ p with o := m } : En).i, .int .i64 ({ p with o := m } : En).o.C, .int .i64 ({ p with o := m } : En).o.D, .int .i64 ({ p with o := m } : En).o.I, .int .i64 ({ p with o := m } : En).o.M, .int .i64 ({ p with o := m } : En).o.K, .int .i64 ({ p with o := m } : En).o.U, .string ({ p with o := m } : En).o.s])) : wpList Tryd.prog ops Q (o :: rest) a w :=
  wpList_plain hgd fun _ hK => by
    have hs := run_storeCells_at (P := Tryd.prog) b 3 52 [.int .i64 m.C, .int .i64 m.D, .int .i64 m.I, .int .i64 m.M, .int .i64 m.K, .int .i64 m.U, .string m.s] 0 (enE.c p).toArray w hg (by show 3 + 0 + 7 ≤ 10; omega) (by
      intro v hv
      simp only [List.mem_cons, List.not_mem_nil, or_false] at hv
      rcases hv with rfl | rfl | rfl | rfl | rfl | rfl | rfl <;> rfl)
    have hv : (storeVar 50 ⟨b, 3, none⟩ (.agg #[.int .i64 m.C, .int .i64 m.D, .int .i64 m.I, .int .i64 m.M, .int .i64 m.K, .int .i64 m.U, .string m.s])).run Tryd.prog w = .ok () (w.setRow b #[.int .i64 ({ p with o := m } : En).k, .int .i64 ({ p with o := m } : En).d, .int .i64 ({ p with o := m } : En).i, .int .i64 ({ p with o := m } : En).o.C, .int .i64 ({ p with o := m } : En).o.D, .int .i64 ({ p with o := m } : En).o.I, .int .i64 ({ p with o := m } : En).o.M, .int .i64 ({ p with o := m } : En).o.K, .int .i64 ({ p with o := m } : En).o.U, .string ({ p with o := m } : En).o.s]) := by
      have hR := op_size
      cases hq : Tryd.prog.info? 50 with
      | none => simp [hq] at hR
      | some inf =>
        have hinf : inf.size = 7 := by simpa [hq] using hR
        simp [storeVar, sizeOf, typeInfo, hq, Value.cells, hinf, hs]
        rfl
    unfold Oper.wp execOp
    simp only [ho, hx, hy, Instr.storeAt, Instr.sureAddr, Sem.run_bind, Sem.run_pure, Result.andThen_ok, hv]
    exact hK _ _ h

theorem isNum_one {s : ByteArray} {p : Nat} {bad : Bool} {q : Nat} {b1 : Bool} (h : numStep s p bad 1 q b1) : isNum s p bad = some (1, q) ∧ b1 = false := by
  rcases h with ⟨h1, h2⟩ | ⟨_, h2, _⟩
  · exact ⟨h1, h2⟩
  · cases h2
theorem ent_op_good {s : ByteArray} {p : Nat} {bad : Bool} {q1 q2 : Nat} {b1 : Bool} {o : Mv} (h1 : numStep s p bad 1 q1 b1) (h2 : opStep s q1 b1 o q2 false) : isEnt s p bad = some (⟨1, 0, 0, o⟩, q2) ∧ entB ⟨1, 0, 0, o⟩ = true := by
  obtain ⟨g1, rfl⟩ := isNum_one h1
  rcases h2 with ⟨g2, _⟩ | ⟨_, _, h⟩
  · refine ⟨?_, entB_op (op_bytes g2).1⟩
    unfold isEnt
    rw [g1, Option.bind_some, if_pos rfl, g2, Option.bind_some]
  · cases h
theorem ent_op_ill {s : ByteArray} {p : Nat} {bad : Bool} {q1 q2 : Nat} {b1 : Bool} {o : Mv} (h1 : numStep s p bad 1 q1 b1) (h2 : opStep s q1 b1 o q2 true) : isEnt s p bad = none := by
  obtain ⟨g1, rfl⟩ := isNum_one h1
  rcases h2 with ⟨_, h⟩ | ⟨g2, _, _⟩
  · cases h
  · unfold isEnt
    rw [g1, Option.bind_some, if_pos rfl, g2]; rfl
theorem ent_two_good {s : ByteArray} {p : Nat} {bad : Bool} {k d i : Int} {q1 q2 q3 : Nat} {b1 b2 : Bool} (hk : ¬ k = 1) (h1 : numStep s p bad k q1 b1) (h2 : numStep s q1 b1 d q2 b2) (h3 : numStep s q2 b2 i q3 false) : isEnt s p bad = if entB ⟨k, d, i, zeroMv⟩ = true then some (⟨k, d, i, zeroMv⟩, q3) else none := by
  obtain ⟨rfl, g3⟩ := h3.good
  obtain ⟨rfl, g2⟩ := h2.good
  unfold isEnt
  rw [h1.back, Option.bind_some, if_neg hk, g2, Option.bind_some, g3, Option.bind_some]
theorem ent_two_ill {s : ByteArray} {p : Nat} {bad : Bool} {k d i : Int} {q1 q2 q3 : Nat} {b1 b2 : Bool} (hk : ¬ k = 1) (h1 : numStep s p bad k q1 b1) (h2 : numStep s q1 b1 d q2 b2) (h3 : numStep s q2 b2 i q3 true) : isEnt s p bad = none := by
  unfold isEnt
  cases b1
  · rw [h1.back, Option.bind_some, if_neg hk]
    cases b2
    · rw [h2.back, Option.bind_some, h3.ill]; rfl
    · rw [h2.ill]; rfl
  · rw [h1.ill]; rfl

set_option maxRecDepth 100000 in
set_option maxHeartbeats 4000000 in
theorem refEntRead_uni {w : World} {b p : Nat} {s : ByteArray} {bad : Bool} (hs : s.size ≤ 1000000) (hp : p ≤ s.size) (hr : Rd 87 w b s p bad) :
    Calls Tryd.prog 61 #[.pointer (some ⟨b, 0, none⟩)] w fun r w' => ∃ (x : En) (q : Nat) (bad' : Bool), r = .returned (.agg #[.int .i64 x.k, .int .i64 x.d, .int .i64 x.i, .int .i64 x.o.C, .int .i64 x.o.D, .int .i64 x.o.I, .int .i64 x.o.M, .int .i64 x.o.K, .int .i64 x.o.U, .string x.o.s]) ∧ Rd 87 w' b s q bad' ∧ q ≤ s.size ∧ w.grownBy w' (some b) ∧ entStep s p bad x q bad' := by
  have hbw := hr.lt
  go_enter Tryd.func61, Tryd.ntmps61
  go_wp2_with fail
  have hZ := El.In.new (E := enE) w zeroEn #[.int .i64 0, .int .i64 0, .int .i64 0, .int .i64 0, .int .i64 0, .int .i64 0, .int .i64 0, .int .i64 0, .int .i64 0, .string ⟨#[]⟩] rfl
  have hB := below_alloc (Below.refl w.heap.size w) (.cells #[.int .i64 0, .int .i64 0, .int .i64 0, .int .i64 0, .int .i64 0, .int .i64 0, .int .i64 0, .int .i64 0, .int .i64 0, .string ⟨#[]⟩] 52)
  have hR := hr.below hB
  have hG := by_below hB (some b)
  obtain ⟨n2, h2⟩ : ∃ n, w.heap.size = n := ⟨_, rfl⟩
  have hn2 : w.heap.size ≤ n2 := by omega
  have e2 : b ≠ n2 := by omega
  have i2 : some n2 ≠ some b := fun e => e2 (Option.some.inj e).symm
  replace hZ : enE.In (w.alloc (.cells #[.int .i64 0, .int .i64 0, .int .i64 0, .int .i64 0, .int .i64 0, .int .i64 0, .int .i64 0, .int .i64 0, .int .i64 0, .string ⟨#[]⟩] 52)) w.heap.size zeroEn := hZ
  generalize w.alloc (.cells #[.int .i64 0, .int .i64 0, .int .i64 0, .int .i64 0, .int .i64 0, .int .i64 0, .int .i64 0, .int .i64 0, .int .i64 0, .string ⟨#[]⟩] 52) = W0 at *
  rw [h2] at hZ ⊢
  clear h2 hB hr
  refine (refNum_uni hs hp hR).mono ?_
  clear hR
  rintro e w1 ⟨k, q1, b1, rfl, hR, q1s, hg, st1⟩
  replace hZ := hZ.keep hg i2
  replace hG := by_trans hG hg
  clear hg
  have hE : enE.In (w1.alloc (.cells #[.int .i64 k, .int .i64 0, .int .i64 0, .int .i64 0, .int .i64 0, .int .i64 0, .int .i64 0, .int .i64 0, .int .i64 0, .string ⟨#[]⟩] 52)) w1.heap.size ⟨k, 0, 0, zeroMv⟩ := El.In.new (E := enE) w1 ⟨k, 0, 0, zeroMv⟩ _ rfl
  have hal := below_alloc (Below.refl w1.heap.size w1) (.cells #[.int .i64 k, .int .i64 0, .int .i64 0, .int .i64 0, .int .i64 0, .int .i64 0, .int .i64 0, .int .i64 0, .int .i64 0, .string ⟨#[]⟩] 52)
  have hR1 := hR.below hal
  have hZ1 := hZ.below hal
  have hG1 := by_trans hG (by_below hal _)
  have hbn : b < w1.heap.size := hR.lt
  have hn2n : n2 < w1.heap.size := hZ.lt
  have hwn : w.heap.size ≤ w1.heap.size := by omega
  by_cases hk : k = 1
  · subst hk
    clear hR hZ hG hal
    go_wp2_with fail
    generalize w1.alloc (.cells #[.int .i64 1, .int .i64 0, .int .i64 0, .int .i64 0, .int .i64 0, .int .i64 0, .int .i64 0, .int .i64 0, .int .i64 0, .string ⟨#[]⟩] 52) = W1 at *
    obtain ⟨n3, h3⟩ : ∃ n, w1.heap.size = n := ⟨_, rfl⟩
    rw [h3] at hE hbn hn2n hwn ⊢
    clear h3
    refine (opRefRead_uni hs q1s hR1).mono ?_
    rintro e w2 ⟨o, q2, b2, rfl, hR2, q2s, hg2, st2⟩
    replace hE := hE.keep hg2 (fun e => by have := Option.some.inj e; omega)
    replace hZ1 := hZ1.keep hg2 i2
    replace hG1 := by_trans hG1 hg2
    clear hg2 hR1
    have hS3 : enE.In (w2.setRow n3 #[.int .i64 1, .int .i64 0, .int .i64 0, .int .i64 o.C, .int .i64 o.D, .int .i64 o.I, .int .i64 o.M, .int .i64 o.K, .int .i64 o.U, .string o.s]) n3 ⟨1, 0, 0, o⟩ := hE.set ⟨1, 0, 0, o⟩ _ rfl
    have hR3 := hR2.row n3 #[.int .i64 1, .int .i64 0, .int .i64 0, .int .i64 o.C, .int .i64 o.D, .int .i64 o.I, .int .i64 o.M, .int .i64 o.K, .int .i64 o.U, .string o.s] (by omega)
    have hZ3 := hZ1.rowN n3 #[.int .i64 1, .int .i64 0, .int .i64 0, .int .i64 o.C, .int .i64 o.D, .int .i64 o.I, .int .i64 o.M, .int .i64 o.K, .int .i64 o.U, .string o.s] (by omega)
    have hG3 := by_setRow hG1 n3 #[.int .i64 1, .int .i64 0, .int .i64 0, .int .i64 o.C, .int .i64 o.D, .int .i64 o.I, .int .i64 o.M, .int .i64 o.K, .int .i64 o.U, .string o.s] hwn
    have hos : o.s.size ≤ 9223372036854775807 := by
      rcases st2 with ⟨h, _⟩ | ⟨_, h, _⟩
      · have := (opB_wide (op_bytes h).1).2.2.1; omega
      · rw [h]; exact Nat.zero_le _
    clear hR2 hZ1 hG1
    cases b2
    · obtain ⟨g1, g2⟩ := ent_op_good st1 st2
      have HG := Lib.hid g1
      have CR := Lib.hid (fun wx => (by
        have h := refEntRight_any ⟨1, 0, 0, o⟩ wx hos
        rw [g2] at h
        exact h : Calls Tryd.prog 36 #[.agg #[.int .i64 1, .int .i64 0, .int .i64 0, .int .i64 o.C, .int .i64 o.D, .int .i64 o.I, .int .i64 o.M, .int .i64 o.K, .int .i64 o.U, .string o.s]] wx fun r w' => r = .returned (.bool true) ∧ Below wx.heap.size wx w'))
      clear st1 st2 g1 g2
      obtain ⟨p0, p1, p2, p3, p4, p5, p6, p7, p8, p9⟩ := enIn10 hS3
      obtain ⟨r0, r1, r2⟩ := hR3.cells
      dsimp only at p0 p1 p2 p3 p4 p5 p6 p7 p8 p9
      go_wp2_with (first | (refine wpList_store_enOp rfl _ _ rfl n3 ⟨1, 0, 0, zeroMv⟩ o rfl rfl hE ?_) | fail)
      clear p0 p1 p2 p3 p4 p5 p6 p7 p8 p9 r0 r1 r2 hE
      generalize w2.setRow n3 #[.int .i64 1, .int .i64 0, .int .i64 0, .int .i64 o.C, .int .i64 o.D, .int .i64 o.I, .int .i64 o.M, .int .i64 o.K, .int .i64 o.U, .string o.s] = W3 at *
      refine (CR.out _).mono ?_
      rintro e w4 ⟨rfl, hb4⟩
      replace hS3 := hS3.below hb4
      replace hR3 := hR3.below hb4
      replace hZ3 := hZ3.below hb4
      replace hG3 := by_trans hG3 (by_below hb4 _)
      clear hb4 CR
      go_wp2_with (first | (refine El.load enRow rfl _ rfl n3 0 rfl ⟨1, 0, 0, o⟩ hS3.at #[.int .i64 1, .int .i64 0, .int .i64 0, .int .i64 o.C, .int .i64 o.D, .int .i64 o.I, .int .i64 o.M, .int .i64 o.K, .int .i64 o.U, .string o.s] rfl ?_) | (refine El.store enRow rfl _ _ rfl n2 ⟨1, 0, 0, o⟩ #[.int .i64 1, .int .i64 0, .int .i64 0, .int .i64 o.C, .int .i64 o.D, .int .i64 o.I, .int .i64 o.M, .int .i64 o.K, .int .i64 o.U, .string o.s] rfl rfl rfl zeroEn hZ3 ?_) | fail)
      refine El.ret1 enRow (hZ3.set ⟨1, 0, 0, o⟩ _ rfl) rfl rfl rfl #[.int .i64 1, .int .i64 0, .int .i64 0, .int .i64 o.C, .int .i64 o.D, .int .i64 o.I, .int .i64 o.M, .int .i64 o.K, .int .i64 o.U, .string o.s] rfl ?_
      exact ⟨⟨1, 0, 0, o⟩, q2, false, rfl, hR3.row n2 _ e2, q2s, by_setRow hG3 n2 _ hn2, Or.inl ⟨HG.out, rfl⟩⟩
    · have HG := Lib.hid (ent_op_ill st1 st2)
      clear st1 st2
      obtain ⟨r0, r1, r2⟩ := hR3.cells
      have rf := hR3.frozen
      go_wp2_with (first | (refine wpList_store_enOp rfl _ _ rfl n3 ⟨1, 0, 0, zeroMv⟩ o rfl rfl hE ?_) | (refine El.store enRow rfl _ _ rfl n2 zeroEn #[.int .i64 0, .int .i64 0, .int .i64 0, .int .i64 0, .int .i64 0, .int .i64 0, .int .i64 0, .int .i64 0, .int .i64 0, .string ⟨#[]⟩] rfl rfl rfl zeroEn (hZ3.other b 2 (.bool true) e2.symm) ?_) | fail)
      refine El.ret1 enRow ((hZ3.other b 2 (.bool true) e2.symm).set zeroEn _ rfl) rfl rfl rfl #[.int .i64 0, .int .i64 0, .int .i64 0, .int .i64 0, .int .i64 0, .int .i64 0, .int .i64 0, .int .i64 0, .int .i64 0, .string ⟨#[]⟩] rfl ?_
      exact ⟨zeroEn, q2, true, rfl, (hR3.setBad).row n2 _ e2, q2s, by_setRow (by_set hG3 2 (.bool true)) n2 _ hn2, Or.inr ⟨HG.out, rfl, rfl⟩⟩
  · have e1 : (k == 1) = false := beq_eq_false_iff_ne.2 hk
    clear hR hZ hG hal
    go_wp2_with fail
    clear e1
    generalize w1.alloc (.cells #[.int .i64 k, .int .i64 0, .int .i64 0, .int .i64 0, .int .i64 0, .int .i64 0, .int .i64 0, .int .i64 0, .int .i64 0, .string ⟨#[]⟩] 52) = W1 at *
    obtain ⟨n3, h3⟩ : ∃ n, w1.heap.size = n := ⟨_, rfl⟩
    rw [h3] at hE hbn hn2n hwn ⊢
    clear h3
    have e3 : b ≠ n3 := by omega
    have e4 : n2 ≠ n3 := by omega
    have i3 : some n3 ≠ some b := fun e => e3 (Option.some.inj e).symm
    refine (refNum_uni hs q1s hR1).mono ?_
    rintro e w2 ⟨d, q2, b2, rfl, hR2, q2s, hg2, st2⟩
    replace hE := hE.keep hg2 i3
    replace hZ1 := hZ1.keep hg2 i2
    replace hG1 := by_trans hG1 hg2
    clear hg2 hR1
    have hE2 := hE.put ⟨k, d, 0, zeroMv⟩ 1 (.int .i64 d) rfl
    have hZ2 := hZ1.other n3 1 (.int .i64 d) e4
    have hR3 := hR2.other n3 1 (.int .i64 d) e3
    have hG2 := by_setNew hG1 n3 1 (.int .i64 d) hwn
    have kc := hE.cell 1
    have kf := hE.frozen
    replace kc : w2.cell? ⟨n3, 1, none⟩ = some (.int .i64 0) := kc
    clear hE hZ1 hR2 hG1
    go_wp2_with fail
    clear kc kf
    generalize w2.setCell ⟨n3, 1, none⟩ (.int .i64 d) = W2 at *
    refine (refNum_uni hs q2s hR3).mono ?_
    rintro e w3 ⟨i, q3, b3, rfl, hR4, q3s, hg3, st3⟩
    replace hE2 := hE2.keep hg3 i3
    replace hZ2 := hZ2.keep hg3 i2
    replace hG2 := by_trans hG2 hg3
    clear hg3 hR3
    have hE3 := hE2.put ⟨k, d, i, zeroMv⟩ 2 (.int .i64 i) rfl
    have hZ3 := hZ2.other n3 2 (.int .i64 i) e4
    have hR5 := hR4.other n3 2 (.int .i64 i) e3
    have hG3 := by_setNew hG2 n3 2 (.int .i64 i) hwn
    have kc := hE2.cell 2
    have kf := hE2.frozen
    replace kc : w3.cell? ⟨n3, 2, none⟩ = some (.int .i64 0) := kc
    clear hE2 hZ2 hR4 hG2
    cases b3
    · have HG := Lib.hid (ent_two_good hk st1 st2 st3)
      have CR := Lib.hid (fun wx => refEntRight_any ⟨k, d, i, zeroMv⟩ wx (Nat.zero_le _))
      clear st1 st2 st3
      obtain ⟨p0, p1, p2, p3, p4, p5, p6, p7, p8, p9⟩ := enIn10 hE3
      obtain ⟨r0, r1, r2⟩ := hR5.cells
      dsimp only [zeroMv] at p0 p1 p2 p3 p4 p5 p6 p7 p8 p9
      go_wp2_with fail
      clear p0 p1 p2 p3 p4 p5 p6 p7 p8 p9 r0 r1 r2 kc kf
      generalize w3.setCell ⟨n3, 2, none⟩ (.int .i64 i) = W3 at *
      refine (CR.out _).mono ?_
      rintro e w4 ⟨rfl, hb4⟩
      replace hE3 := hE3.below hb4
      replace hR5 := hR5.below hb4
      replace hZ3 := hZ3.below hb4
      replace hG3 := by_trans hG3 (by_below hb4 _)
      clear hb4 CR
      obtain ⟨eb, heb⟩ : ∃ eb, entB ⟨k, d, i, zeroMv⟩ = eb := ⟨_, rfl⟩
      have HG2 := Lib.hid (show isEnt s p bad = if eb = true then some (⟨k, d, i, zeroMv⟩, q3) else none by rw [HG.out, heb])
      rw [heb]
      clear HG heb
      cases eb
      · obtain ⟨r0, r1, r2⟩ := hR5.cells
        have rf := hR5.frozen
        go_wp2_with (first | (refine El.store enRow rfl _ _ rfl n2 zeroEn #[.int .i64 0, .int .i64 0, .int .i64 0, .int .i64 0, .int .i64 0, .int .i64 0, .int .i64 0, .int .i64 0, .int .i64 0, .string ⟨#[]⟩] rfl rfl rfl zeroEn (hZ3.other b 2 (.bool true) e2.symm) ?_) | fail)
        refine El.ret1 enRow ((hZ3.other b 2 (.bool true) e2.symm).set zeroEn _ rfl) rfl rfl rfl #[.int .i64 0, .int .i64 0, .int .i64 0, .int .i64 0, .int .i64 0, .int .i64 0, .int .i64 0, .int .i64 0, .int .i64 0, .string ⟨#[]⟩] rfl ?_
        exact ⟨zeroEn, q3, true, rfl, (hR5.setBad).row n2 _ e2, q3s, by_setRow (by_set hG3 2 (.bool true)) n2 _ hn2, Or.inr ⟨by rw [HG2.out, if_neg (by decide)], rfl, rfl⟩⟩
      · go_wp2_with (first | (refine El.load enRow rfl _ rfl n3 0 rfl ⟨k, d, i, zeroMv⟩ hE3.at #[.int .i64 k, .int .i64 d, .int .i64 i, .int .i64 0, .int .i64 0, .int .i64 0, .int .i64 0, .int .i64 0, .int .i64 0, .string ⟨#[]⟩] rfl ?_) | (refine El.store enRow rfl _ _ rfl n2 ⟨k, d, i, zeroMv⟩ #[.int .i64 k, .int .i64 d, .int .i64 i, .int .i64 0, .int .i64 0, .int .i64 0, .int .i64 0, .int .i64 0, .int .i64 0, .string ⟨#[]⟩] rfl rfl rfl zeroEn hZ3 ?_) | fail)
        refine El.ret1 enRow (hZ3.set ⟨k, d, i, zeroMv⟩ _ rfl) rfl rfl rfl #[.int .i64 k, .int .i64 d, .int .i64 i, .int .i64 0, .int .i64 0, .int .i64 0, .int .i64 0, .int .i64 0, .int .i64 0, .string ⟨#[]⟩] rfl ?_
        exact ⟨⟨k, d, i, zeroMv⟩, q3, false, rfl, hR5.row n2 _ e2, q3s, by_setRow hG3 n2 _ hn2, Or.inl ⟨by simpa using HG2.out, rfl⟩⟩
    · have HG := Lib.hid (ent_two_ill hk st1 st2 st3)
      clear st1 st2 st3 hE3
      obtain ⟨r0, r1, r2⟩ := hR5.cells
      have rf := hR5.frozen
      go_wp2_with (first | (refine El.store enRow rfl _ _ rfl n2 zeroEn #[.int .i64 0, .int .i64 0, .int .i64 0, .int .i64 0, .int .i64 0, .int .i64 0, .int .i64 0, .int .i64 0, .int .i64 0, .string ⟨#[]⟩] rfl rfl rfl zeroEn (hZ3.other b 2 (.bool true) e2.symm) ?_) | fail)
      refine El.ret1 enRow ((hZ3.other b 2 (.bool true) e2.symm).set zeroEn _ rfl) rfl rfl rfl #[.int .i64 0, .int .i64 0, .int .i64 0, .int .i64 0, .int .i64 0, .int .i64 0, .int .i64 0, .int .i64 0, .int .i64 0, .string ⟨#[]⟩] rfl ?_
      exact ⟨zeroEn, q3, true, rfl, (hR5.setBad).row n2 _ e2, q3s, by_setRow (by_set hG3 2 (.bool true)) n2 _ hn2, Or.inr ⟨HG.out, rfl, rfl⟩⟩

end Go.Proofs.YtndahomgglpdhaaDoor

/- The document's Tally. -/
namespace Go.Proofs.YtndahomgglpdhaaDoor
open Go.RowKit Nam Cod

theorem cutC_next {l : List Cn} {d : Int} {k : Nat} (hk : k ≤ cutC l d) (h : k < l.length) (hd : l[k].d < d) : k + 1 ≤ cutC l d := by
  rcases Nat.lt_or_ge k (cutC l d) with h1 | h1
  · exact h1
  · obtain rfl : k = cutC l d := by omega
    have := cutC_ge l d h; omega
theorem cutC_here {l : List Cn} {d : Int} {k : Nat} (hk : k ≤ cutC l d) (h : k = l.length ∨ ∃ h : k < l.length, d ≤ l[k].d) : k = cutC l d := by
  rcases Nat.lt_or_ge k (cutC l d) with h1 | h1
  · exfalso
    have := cutC_le l d
    rcases h with h | ⟨h, h2⟩
    · omega
    · have := cutC_lt l d k h h1; omega
  · omega
theorem putC_yes {l : List Cn} {c : Cn} {k : Nat} {x : Int} (hk : k = cutC l c.d) (h : k < l.length) (hx : l[k].d = x) (he : x = c.d) : putC l c = (l.take k ++ [c]) ++ l.drop (k + 1) := by
  subst hk he
  have hh : hereC l c.d = 1 := by unfold hereC; rw [dif_pos h, if_pos hx]
  unfold putC
  rw [hh, List.append_assoc]; rfl
theorem putC_no {l : List Cn} {c : Cn} {k : Nat} (hk : k = cutC l c.d) (h : k = l.length ∨ ∃ (h : k < l.length), ¬ l[k].d = c.d) : putC l c = (l.take k ++ [c]) ++ l.drop k := by
  subst hk
  have hh : hereC l c.d = 0 := by
    unfold hereC
    rcases h with h | ⟨h, h2⟩
    · rw [dif_neg (by omega)]
    · rw [dif_pos h, if_neg h2]
  unfold putC
  rw [hh, List.append_assoc]; rfl
def CnS (n : Nat) (x : Cn) (w : World) : Prop := w.cell? ⟨n, 0, none⟩ = some (.int .i64 x.d) ∧ w.cell? ⟨n, 1, none⟩ = some (.int .i64 x.i) ∧ w.cell? ⟨n, 2, none⟩ = some (.int .i64 x.n)

end Go.Proofs.YtndahomgglpdhaaDoor

/- The program's entries: Tally. -/
namespace Go.Proofs.YtndahomgglpdhaaDoor
open Go.RowKit Nam Cod

def pickC {α : Type} (a b c : α) : Nat → α
  | 0 => a
  | 1 => b
  | _ => c

end Go.Proofs.YtndahomgglpdhaaDoor

/- The program's entries: Read, Parse; all calls. -/
namespace Go.Proofs.YtndahomgglpdhaaDoor
open Go.RowKit Nam Cod

set_option maxRecDepth 100000 in
set_option maxHeartbeats 4000000 in
theorem entRead_uni {w : World} {b p : Nat} {s : ByteArray} {bad : Bool} (hs : s.size ≤ 1000000) (hp : p ≤ s.size) (hr : Rd 44 w b s p bad) :
    Calls Tryd.prog 91 #[.pointer (some ⟨b, 0, none⟩)] w fun r w' => ∃ (x : En) (q : Nat) (bad' : Bool), r = .returned (.agg #[.int .i64 x.k, .int .i64 x.d, .int .i64 x.i, .int .i64 x.o.C, .int .i64 x.o.D, .int .i64 x.o.I, .int .i64 x.o.M, .int .i64 x.o.K, .int .i64 x.o.U, .string x.o.s]) ∧ Rd 44 w' b s q bad' ∧ q ≤ s.size ∧ w.grownBy w' (some b) ∧ entStep s p bad x q bad' := by
  have hbw := hr.lt
  go_enter Tryd.func91, Tryd.ntmps91
  go_wp2_with fail
  have hZ : enE.In ((w.alloc (.cells #[.int .i64 0, .int .i64 0, .int .i64 0, .int .i64 0, .int .i64 0, .int .i64 0, .int .i64 0, .int .i64 0, .int .i64 0, .string ⟨#[]⟩] 52)).alloc (.cells #[.int .i64 0, .int .i64 0, .int .i64 0, .int .i64 0, .int .i64 0, .int .i64 0, .int .i64 0, .int .i64 0, .int .i64 0, .string ⟨#[]⟩] 52)) w.heap.size zeroEn := (El.In.new (E := enE) w zeroEn #[.int .i64 0, .int .i64 0, .int .i64 0, .int .i64 0, .int .i64 0, .int .i64 0, .int .i64 0, .int .i64 0, .int .i64 0, .string ⟨#[]⟩] rfl).alloc _
  have hY : enE.In ((w.alloc (.cells #[.int .i64 0, .int .i64 0, .int .i64 0, .int .i64 0, .int .i64 0, .int .i64 0, .int .i64 0, .int .i64 0, .int .i64 0, .string ⟨#[]⟩] 52)).alloc (.cells #[.int .i64 0, .int .i64 0, .int .i64 0, .int .i64 0, .int .i64 0, .int .i64 0, .int .i64 0, .int .i64 0, .int .i64 0, .string ⟨#[]⟩] 52)) (w.alloc (.cells #[.int .i64 0, .int .i64 0, .int .i64 0, .int .i64 0, .int .i64 0, .int .i64 0, .int .i64 0, .int .i64 0, .int .i64 0, .string ⟨#[]⟩] 52)).heap.size zeroEn := El.In.new (E := enE) (w.alloc (.cells #[.int .i64 0, .int .i64 0, .int .i64 0, .int .i64 0, .int .i64 0, .int .i64 0, .int .i64 0, .int .i64 0, .int .i64 0, .string ⟨#[]⟩] 52)) zeroEn #[.int .i64 0, .int .i64 0, .int .i64 0, .int .i64 0, .int .i64 0, .int .i64 0, .int .i64 0, .int .i64 0, .int .i64 0, .string ⟨#[]⟩] rfl
  rw [alloc_size] at hY
  have hB := below_alloc (below_alloc (Below.refl w.heap.size w) (.cells #[.int .i64 0, .int .i64 0, .int .i64 0, .int .i64 0, .int .i64 0, .int .i64 0, .int .i64 0, .int .i64 0, .int .i64 0, .string ⟨#[]⟩] 52)) (.cells #[.int .i64 0, .int .i64 0, .int .i64 0, .int .i64 0, .int .i64 0, .int .i64 0, .int .i64 0, .int .i64 0, .int .i64 0, .string ⟨#[]⟩] 52)
  have hR := hr.below hB
  have hG := by_below hB (some b)
  obtain ⟨n3, h3⟩ : ∃ n, w.heap.size + 1 = n := ⟨_, rfl⟩
  obtain ⟨n2, h2⟩ : ∃ n, w.heap.size = n := ⟨_, rfl⟩
  have hn2 : w.heap.size ≤ n2 := by omega
  have hwn : w.heap.size ≤ n3 := by omega
  have e2 : b ≠ n2 := by omega
  have e3 : b ≠ n3 := by omega
  have e4 : n2 ≠ n3 := by omega
  have i2 : some n2 ≠ some b := fun e => e2 (Option.some.inj e).symm
  have i3 : some n3 ≠ some b := fun e => e3 (Option.some.inj e).symm
  generalize (w.alloc (.cells #[.int .i64 0, .int .i64 0, .int .i64 0, .int .i64 0, .int .i64 0, .int .i64 0, .int .i64 0, .int .i64 0, .int .i64 0, .string ⟨#[]⟩] 52)).alloc (.cells #[.int .i64 0, .int .i64 0, .int .i64 0, .int .i64 0, .int .i64 0, .int .i64 0, .int .i64 0, .int .i64 0, .int .i64 0, .string ⟨#[]⟩] 52) = W0 at *
  rw [h3] at hY ⊢
  rw [h2] at hZ ⊢
  clear h2 h3 hB hr
  refine (num_uni hs hp hR).mono ?_
  clear hR
  rintro e w1 ⟨k, q1, b1, rfl, hR, q1s, hg, st1⟩
  replace hZ := hZ.keep hg i2
  replace hY := hY.keep hg i3
  replace hG := by_trans hG hg
  clear hg
  have hE := hY.put ⟨k, 0, 0, zeroMv⟩ 0 (.int .i64 k) rfl
  have hZ1 := hZ.other n3 0 (.int .i64 k) e4
  have hR1 := hR.other n3 0 (.int .i64 k) e3
  have hG1 := by_setNew hG n3 0 (.int .i64 k) hwn
  have kc := hY.cell 0
  have kf := hY.frozen
  replace kc : w1.cell? ⟨n3, 0, none⟩ = some (.int .i64 0) := kc
  clear hY hZ hR hG
  by_cases hk : k = 1
  · subst hk
    go_wp2_with fail
    clear kc kf
    generalize w1.setCell ⟨n3, 0, none⟩ (.int .i64 1) = W1 at *
    refine (opRead_uni hs q1s hR1).mono ?_
    rintro e w2 ⟨o, q2, b2, rfl, hR2, q2s, hg2, st2⟩
    replace hE := hE.keep hg2 (fun e => by have := Option.some.inj e; omega)
    replace hZ1 := hZ1.keep hg2 i2
    replace hG1 := by_trans hG1 hg2
    clear hg2 hR1
    have hS3 : enE.In (w2.setRow n3 #[.int .i64 1, .int .i64 0, .int .i64 0, .int .i64 o.C, .int .i64 o.D, .int .i64 o.I, .int .i64 o.M, .int .i64 o.K, .int .i64 o.U, .string o.s]) n3 ⟨1, 0, 0, o⟩ := hE.set ⟨1, 0, 0, o⟩ _ rfl
    have hR3 := hR2.row n3 #[.int .i64 1, .int .i64 0, .int .i64 0, .int .i64 o.C, .int .i64 o.D, .int .i64 o.I, .int .i64 o.M, .int .i64 o.K, .int .i64 o.U, .string o.s] (by omega)
    have hZ3 := hZ1.rowN n3 #[.int .i64 1, .int .i64 0, .int .i64 0, .int .i64 o.C, .int .i64 o.D, .int .i64 o.I, .int .i64 o.M, .int .i64 o.K, .int .i64 o.U, .string o.s] (by omega)
    have hG3 := by_setRow hG1 n3 #[.int .i64 1, .int .i64 0, .int .i64 0, .int .i64 o.C, .int .i64 o.D, .int .i64 o.I, .int .i64 o.M, .int .i64 o.K, .int .i64 o.U, .string o.s] hwn
    have hos : o.s.size ≤ 9223372036854775807 := by
      rcases st2 with ⟨h, _⟩ | ⟨_, h, _⟩
      · have := (opB_wide (op_bytes h).1).2.2.1; omega
      · rw [h]; exact Nat.zero_le _
    clear hR2 hZ1 hG1
    cases b2
    · obtain ⟨g1, g2⟩ := ent_op_good st1 st2
      have HG := Lib.hid g1
      have CR := Lib.hid (fun wx => (by
        have h := entRight_any ⟨1, 0, 0, o⟩ wx hos
        rw [g2] at h
        exact h : Calls Tryd.prog 31 #[.agg #[.int .i64 1, .int .i64 0, .int .i64 0, .int .i64 o.C, .int .i64 o.D, .int .i64 o.I, .int .i64 o.M, .int .i64 o.K, .int .i64 o.U, .string o.s]] wx fun r w' => r = .returned (.bool true) ∧ Below wx.heap.size wx w'))
      clear st1 st2 g1 g2
      obtain ⟨p0, p1, p2, p3, p4, p5, p6, p7, p8, p9⟩ := enIn10 hS3
      obtain ⟨r0, r1, r2⟩ := hR3.cells
      dsimp only at p0 p1 p2 p3 p4 p5 p6 p7 p8 p9
      go_wp2_with (first | (refine wpList_store_enOp rfl _ _ rfl n3 ⟨1, 0, 0, zeroMv⟩ o rfl rfl hE ?_) | fail)
      clear p0 p1 p2 p3 p4 p5 p6 p7 p8 p9 r0 r1 r2 hE
      generalize w2.setRow n3 #[.int .i64 1, .int .i64 0, .int .i64 0, .int .i64 o.C, .int .i64 o.D, .int .i64 o.I, .int .i64 o.M, .int .i64 o.K, .int .i64 o.U, .string o.s] = W3 at *
      refine (CR.out _).mono ?_
      rintro e w4 ⟨rfl, hb4⟩
      replace hS3 := hS3.below hb4
      replace hR3 := hR3.below hb4
      replace hZ3 := hZ3.below hb4
      replace hG3 := by_trans hG3 (by_below hb4 _)
      clear hb4 CR
      go_wp2_with (first | (refine El.load enRow rfl _ rfl n3 0 rfl ⟨1, 0, 0, o⟩ hS3.at #[.int .i64 1, .int .i64 0, .int .i64 0, .int .i64 o.C, .int .i64 o.D, .int .i64 o.I, .int .i64 o.M, .int .i64 o.K, .int .i64 o.U, .string o.s] rfl ?_) | (refine El.store enRow rfl _ _ rfl n2 ⟨1, 0, 0, o⟩ #[.int .i64 1, .int .i64 0, .int .i64 0, .int .i64 o.C, .int .i64 o.D, .int .i64 o.I, .int .i64 o.M, .int .i64 o.K, .int .i64 o.U, .string o.s] rfl rfl rfl zeroEn hZ3 ?_) | fail)
      refine El.ret1 enRow (hZ3.set ⟨1, 0, 0, o⟩ _ rfl) rfl rfl rfl #[.int .i64 1, .int .i64 0, .int .i64 0, .int .i64 o.C, .int .i64 o.D, .int .i64 o.I, .int .i64 o.M, .int .i64 o.K, .int .i64 o.U, .string o.s] rfl ?_
      exact ⟨⟨1, 0, 0, o⟩, q2, false, rfl, hR3.row n2 _ e2, q2s, by_setRow hG3 n2 _ hn2, Or.inl ⟨HG.out, rfl⟩⟩
    · have HG := Lib.hid (ent_op_ill st1 st2)
      clear st1 st2
      obtain ⟨r0, r1, r2⟩ := hR3.cells
      have rf := hR3.frozen
      go_wp2_with (first | (refine wpList_store_enOp rfl _ _ rfl n3 ⟨1, 0, 0, zeroMv⟩ o rfl rfl hE ?_) | (refine El.store enRow rfl _ _ rfl n2 zeroEn #[.int .i64 0, .int .i64 0, .int .i64 0, .int .i64 0, .int .i64 0, .int .i64 0, .int .i64 0, .int .i64 0, .int .i64 0, .string ⟨#[]⟩] rfl rfl rfl zeroEn (hZ3.other b 2 (.bool true) e2.symm) ?_) | fail)
      refine El.ret1 enRow ((hZ3.other b 2 (.bool true) e2.symm).set zeroEn _ rfl) rfl rfl rfl #[.int .i64 0, .int .i64 0, .int .i64 0, .int .i64 0, .int .i64 0, .int .i64 0, .int .i64 0, .int .i64 0, .int .i64 0, .string ⟨#[]⟩] rfl ?_
      exact ⟨zeroEn, q2, true, rfl, (hR3.setBad).row n2 _ e2, q2s, by_setRow (by_set hG3 2 (.bool true)) n2 _ hn2, Or.inr ⟨HG.out, rfl, rfl⟩⟩
  · have e1 : (k == 1) = false := beq_eq_false_iff_ne.2 hk
    go_wp2_with fail
    clear kc kf e1
    generalize w1.setCell ⟨n3, 0, none⟩ (.int .i64 k) = W1 at *
    refine (num_uni hs q1s hR1).mono ?_
    rintro e w2 ⟨d, q2, b2, rfl, hR2, q2s, hg2, st2⟩
    replace hE := hE.keep hg2 i3
    replace hZ1 := hZ1.keep hg2 i2
    replace hG1 := by_trans hG1 hg2
    clear hg2 hR1
    have hE2 := hE.put ⟨k, d, 0, zeroMv⟩ 1 (.int .i64 d) rfl
    have hZ2 := hZ1.other n3 1 (.int .i64 d) e4
    have hR3 := hR2.other n3 1 (.int .i64 d) e3
    have hG2 := by_setNew hG1 n3 1 (.int .i64 d) hwn
    have kc := hE.cell 1
    have kf := hE.frozen
    replace kc : w2.cell? ⟨n3, 1, none⟩ = some (.int .i64 0) := kc
    clear hE hZ1 hR2 hG1
    go_wp2_with fail
    clear kc kf
    generalize w2.setCell ⟨n3, 1, none⟩ (.int .i64 d) = W2 at *
    refine (num_uni hs q2s hR3).mono ?_
    rintro e w3 ⟨i, q3, b3, rfl, hR4, q3s, hg3, st3⟩
    replace hE2 := hE2.keep hg3 i3
    replace hZ2 := hZ2.keep hg3 i2
    replace hG2 := by_trans hG2 hg3
    clear hg3 hR3
    have hE3 := hE2.put ⟨k, d, i, zeroMv⟩ 2 (.int .i64 i) rfl
    have hZ3 := hZ2.other n3 2 (.int .i64 i) e4
    have hR5 := hR4.other n3 2 (.int .i64 i) e3
    have hG3 := by_setNew hG2 n3 2 (.int .i64 i) hwn
    have kc := hE2.cell 2
    have kf := hE2.frozen
    replace kc : w3.cell? ⟨n3, 2, none⟩ = some (.int .i64 0) := kc
    clear hE2 hZ2 hR4 hG2
    cases b3
    · have HG := Lib.hid (ent_two_good hk st1 st2 st3)
      have CR := Lib.hid (fun wx => entRight_any ⟨k, d, i, zeroMv⟩ wx (Nat.zero_le _))
      clear st1 st2 st3
      obtain ⟨p0, p1, p2, p3, p4, p5, p6, p7, p8, p9⟩ := enIn10 hE3
      obtain ⟨r0, r1, r2⟩ := hR5.cells
      dsimp only [zeroMv] at p0 p1 p2 p3 p4 p5 p6 p7 p8 p9
      go_wp2_with fail
      clear p0 p1 p2 p3 p4 p5 p6 p7 p8 p9 r0 r1 r2 kc kf
      generalize w3.setCell ⟨n3, 2, none⟩ (.int .i64 i) = W3 at *
      refine (CR.out _).mono ?_
      rintro e w4 ⟨rfl, hb4⟩
      replace hE3 := hE3.below hb4
      replace hR5 := hR5.below hb4
      replace hZ3 := hZ3.below hb4
      replace hG3 := by_trans hG3 (by_below hb4 _)
      clear hb4 CR
      obtain ⟨eb, heb⟩ : ∃ eb, entB ⟨k, d, i, zeroMv⟩ = eb := ⟨_, rfl⟩
      have HG2 := Lib.hid (show isEnt s p bad = if eb = true then some (⟨k, d, i, zeroMv⟩, q3) else none by rw [HG.out, heb])
      rw [heb]
      clear HG heb
      cases eb
      · obtain ⟨r0, r1, r2⟩ := hR5.cells
        have rf := hR5.frozen
        go_wp2_with (first | (refine El.store enRow rfl _ _ rfl n2 zeroEn #[.int .i64 0, .int .i64 0, .int .i64 0, .int .i64 0, .int .i64 0, .int .i64 0, .int .i64 0, .int .i64 0, .int .i64 0, .string ⟨#[]⟩] rfl rfl rfl zeroEn (hZ3.other b 2 (.bool true) e2.symm) ?_) | fail)
        refine El.ret1 enRow ((hZ3.other b 2 (.bool true) e2.symm).set zeroEn _ rfl) rfl rfl rfl #[.int .i64 0, .int .i64 0, .int .i64 0, .int .i64 0, .int .i64 0, .int .i64 0, .int .i64 0, .int .i64 0, .int .i64 0, .string ⟨#[]⟩] rfl ?_
        exact ⟨zeroEn, q3, true, rfl, (hR5.setBad).row n2 _ e2, q3s, by_setRow (by_set hG3 2 (.bool true)) n2 _ hn2, Or.inr ⟨by rw [HG2.out, if_neg (by decide)], rfl, rfl⟩⟩
      · go_wp2_with (first | (refine El.load enRow rfl _ rfl n3 0 rfl ⟨k, d, i, zeroMv⟩ hE3.at #[.int .i64 k, .int .i64 d, .int .i64 i, .int .i64 0, .int .i64 0, .int .i64 0, .int .i64 0, .int .i64 0, .int .i64 0, .string ⟨#[]⟩] rfl ?_) | (refine El.store enRow rfl _ _ rfl n2 ⟨k, d, i, zeroMv⟩ #[.int .i64 k, .int .i64 d, .int .i64 i, .int .i64 0, .int .i64 0, .int .i64 0, .int .i64 0, .int .i64 0, .int .i64 0, .string ⟨#[]⟩] rfl rfl rfl zeroEn hZ3 ?_) | fail)
        refine El.ret1 enRow (hZ3.set ⟨k, d, i, zeroMv⟩ _ rfl) rfl rfl rfl #[.int .i64 k, .int .i64 d, .int .i64 i, .int .i64 0, .int .i64 0, .int .i64 0, .int .i64 0, .int .i64 0, .int .i64 0, .string ⟨#[]⟩] rfl ?_
        exact ⟨⟨k, d, i, zeroMv⟩, q3, false, rfl, hR5.row n2 _ e2, q3s, by_setRow hG3 n2 _ hn2, Or.inl ⟨by simpa using HG2.out, rfl⟩⟩
    · have HG := Lib.hid (ent_two_ill hk st1 st2 st3)
      clear st1 st2 st3 hE3
      obtain ⟨r0, r1, r2⟩ := hR5.cells
      have rf := hR5.frozen
      go_wp2_with (first | (refine El.store enRow rfl _ _ rfl n2 zeroEn #[.int .i64 0, .int .i64 0, .int .i64 0, .int .i64 0, .int .i64 0, .int .i64 0, .int .i64 0, .int .i64 0, .int .i64 0, .string ⟨#[]⟩] rfl rfl rfl zeroEn (hZ3.other b 2 (.bool true) e2.symm) ?_) | fail)
      refine El.ret1 enRow ((hZ3.other b 2 (.bool true) e2.symm).set zeroEn _ rfl) rfl rfl rfl #[.int .i64 0, .int .i64 0, .int .i64 0, .int .i64 0, .int .i64 0, .int .i64 0, .int .i64 0, .int .i64 0, .int .i64 0, .string ⟨#[]⟩] rfl ?_
      exact ⟨zeroEn, q3, true, rfl, (hR5.setBad).row n2 _ e2, q3s, by_setRow (by_set hG3 2 (.bool true)) n2 _ hn2, Or.inr ⟨HG.out, rfl, rfl⟩⟩

end Go.Proofs.YtndahomgglpdhaaDoor
