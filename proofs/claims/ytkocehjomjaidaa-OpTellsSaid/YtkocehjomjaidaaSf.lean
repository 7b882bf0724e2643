/- Floats that hold whole numbers: their words read back as these numbers; sums, differences, comparisons and conversions of them are those of the numbers. Conditions: the numbers are below 2^53. -/
import Derived.Laws.FloatArith
namespace Go.Proofs.Ytkocehjomjaidaa.Flo
open Ieee

theorem shl (m k : Nat) : m <<< k = m * 2 ^ k := Nat.shiftLeft_eq m k

theorem signed_eq (s : Bool) (m k : Nat) : signed s m k = (if s then -1 else 1) * ((m : Int) * 2 ^ k) := by
  unfold signed
  cases s <;> simp [shl]

theorem signed_add (s : Bool) (m a k : Nat) : signed s m (a + k) = signed s m a * 2 ^ k := by
  rw [signed_eq, signed_eq, Int.pow_add, ← Int.mul_assoc (m : Int), ← Int.mul_assoc]

theorem cmp_scale (a b : Int) (k : Nat) : compare (a * 2 ^ k) (b * 2 ^ k) = compare a b := by
  have h : (0 : Int) < 2 ^ k := Int.pow_pos (by decide)
  have h1 : a * 2 ^ k < b * 2 ^ k ↔ a < b := Int.mul_lt_mul_right h
  have h2 : a * 2 ^ k = b * 2 ^ k ↔ a = b := Int.mul_eq_mul_right_iff (by omega)
  simp only [compare, compareOfLessAndEq, h1, h2]

theorem dbl_frac : double.fractionBits = 52 := rfl
theorem dbl_least : double.leastPlace = -1074 := by decide
theorem dbl_bin : double.binade = 4503599627370496 := by decide
theorem dbl_inf : double.infRung = 9218868437227405312 := by decide
theorem dbl_sign : double.signWeight = 9223372036854775808 := by decide

theorem read_word (neg : Bool) (r : Nat) (h : r < 9218868437227405312) : double.read (double.word neg r) =
    if r < 4503599627370496 then .number neg r (-1074)
    else .number neg (4503599627370496 + r % 4503599627370496) (-1074 + ((r / 4503599627370496 - 1 : Nat) : Int)) := by
  have e1 : (double.word neg r) % 9223372036854775808 = r := by
    unfold Format.word; rw [dbl_sign]; split <;> omega
  have e2 : ((double.word neg r) / 9223372036854775808 % 2 == 1) = neg := by
    unfold Format.word; rw [dbl_sign]
    cases neg
    · have : r / 9223372036854775808 = 0 := by omega
      simp [this]
    · have : (9223372036854775808 + r) / 9223372036854775808 = 1 := by omega
      simp [this]
  unfold Format.read
  simp only [dbl_sign, dbl_bin, dbl_inf, dbl_least, e1, e2, h, if_true]

theorem log2_mul_pow (c k : Nat) (h : 0 < c) : (c * 2 ^ k).log2 = c.log2 + k := by
  have hp : 0 < 2 ^ k := Nat.two_pow_pos k
  have hc : c ≠ 0 := by omega
  have hne : c * 2 ^ k ≠ 0 := Nat.mul_ne_zero hc (by omega)
  apply (Nat.log2_eq_iff hne).2
  have a := Nat.log2_self_le hc
  have b := Nat.lt_log2_self (n := c)
  constructor
  · rw [Nat.pow_add]; exact Nat.mul_le_mul_right _ a
  · rw [Nat.add_right_comm, Nat.pow_add]; exact (Nat.mul_lt_mul_right hp).2 b

/-- A cut that drops nothing but noughts. -/
theorem cut_even (neg : Bool) (c k d : Nat) (hd : d ≤ k) (hc : 0 < c) : Toward.even.cut neg (c * 2 ^ k) d = c * 2 ^ (k - d) := by
  have hl := log2_mul_pow c k hc
  have hm : min d ((c * 2 ^ k).log2 + 2) = d := by rw [hl]; omega
  have hk : c * 2 ^ k = (c * 2 ^ (k - d)) * 2 ^ d := by rw [Nat.mul_assoc, ← Nat.pow_add]; congr 2; omega
  have hp : 0 < 2 ^ d := Nat.two_pow_pos d
  unfold Toward.cut
  simp only [hm, shl, Nat.one_mul]
  rw [hk, Nat.mul_mod_left, Nat.mul_div_cancel _ hp]
  simp

theorem nearest_scale (neg : Bool) (c k : Nat) (place : Int) (hc : 0 < c) (hb : c < 2 ^ 53) (hp : -1074 ≤ place + k) :
    double.nearest neg (c * 2 ^ k) place =
      double.word neg (min ((max (place + k + c.log2 - 52) (-1074) + 1074).toNat * 4503599627370496 + c * 2 ^ (place + k - max (place + k + c.log2 - 52) (-1074)).toNat) 9218868437227405312) := by
  have hne : ¬ c * 2 ^ k = 0 := by have := Nat.two_pow_pos k; exact Nat.mul_ne_zero (by omega) (by omega)
  have hlc : c.log2 ≤ 52 := by
    have := (Nat.log2_lt (n := c) (k := 53) (by omega)).2 hb; omega
  unfold Format.nearest
  rw [if_neg hne]
  simp only [log2_mul_pow c k hc, dbl_frac, dbl_least, dbl_bin, dbl_inf]
  have e : place + ((c.log2 + k : Nat) : Int) - ((52 : Nat) : Int) = place + k + c.log2 - 52 := by omega
  rw [e]
  generalize hL : max (place + k + c.log2 - 52) (-1074) = last
  have hle : last ≤ place + k := by omega
  by_cases hpl : last ≤ place
  · have e0 : (last - place).toNat = 0 := by omega
    have e1 : (place + k - last).toNat = k + (place - last).toNat := by omega
    rw [e0, shl, Nat.mul_assoc, ← Nat.pow_add, cut_even neg c _ 0 (by omega) hc, e1, Nat.sub_zero, Int.sub_neg]
  · have e0 : (place - last).toNat = 0 := by omega
    have e1 : (place + k - last).toNat = k - (last - place).toNat := by omega
    rw [e0, shl, Nat.pow_zero, Nat.mul_one, cut_even neg c k _ (by omega) hc, e1, Int.sub_neg]

theorem pow_up (c d : Nat) (hc : c < 2 ^ (c.log2 + 1)) (h : c.log2 + d ≤ 52) : c * 2 ^ d < 9007199254740992 := by
  have h1 : c * 2 ^ d < 2 ^ (c.log2 + 1) * 2 ^ d := (Nat.mul_lt_mul_right (Nat.two_pow_pos _)).2 hc
  rw [← Nat.pow_add] at h1
  have h2 : 2 ^ (c.log2 + 1 + d) ≤ 2 ^ 53 := Nat.pow_le_pow_right (by decide) (by omega)
  exact Nat.lt_of_lt_of_le h1 h2

theorem pow_lo (c d : Nat) (hc : 2 ^ c.log2 ≤ c) (h : 52 ≤ c.log2 + d) : 4503599627370496 ≤ c * 2 ^ d := by
  have h1 : 2 ^ c.log2 * 2 ^ d ≤ c * 2 ^ d := Nat.mul_le_mul_right _ hc
  rw [← Nat.pow_add] at h1
  have h2 : 2 ^ 52 ≤ 2 ^ (c.log2 + d) := Nat.pow_le_pow_right (by decide) h
  exact Nat.le_trans h2 h1

theorem read_rung (neg : Bool) (q K : Nat) (hq : q ≤ 2000) (up : K < 9007199254740992) (lo : q = 0 ∨ 4503599627370496 ≤ K) :
    ∃ m e, double.read (double.word neg (min (q * 4503599627370496 + K) 9218868437227405312)) = .number neg m e ∧ -1074 ≤ e ∧ e ≤ -1074 + q ∧ m * 2 ^ (e + 1074).toNat = K * 2 ^ q := by
  have hmin : min (q * 4503599627370496 + K) 9218868437227405312 = q * 4503599627370496 + K := Nat.min_eq_left (by omega)
  rw [hmin, read_word neg _ (by omega)]
  by_cases hk : q * 4503599627370496 + K < 4503599627370496
  · rw [if_pos hk]
    have h0 : q = 0 := by omega
    have h1 : q * 4503599627370496 + K = K := by omega
    rw [h1]
    exact ⟨K, -1074, rfl, Int.le_refl _, by omega, by rw [h0]; rfl⟩
  · rw [if_neg hk]
    have e2 : 4503599627370496 + (q * 4503599627370496 + K) % 4503599627370496 = K := by omega
    have e1 : (q * 4503599627370496 + K) / 4503599627370496 - 1 = q := by omega
    rw [e1, e2]
    exact ⟨K, -1074 + q, rfl, by omega, Int.le_refl _, by rw [show ((-1074 : Int) + q + 1074).toNat = q by omega]⟩

theorem read_nearest (neg : Bool) (c k : Nat) (place : Int) (hc : 0 < c) (hb : c < 2 ^ 53) (hp : -1074 ≤ place + k) (hu : place + k ≤ 900) :
    ∃ m e, double.read (double.nearest neg (c * 2 ^ k) place) = .number neg m e ∧ -1074 ≤ e ∧ e ≤ max (place + k + c.log2 - 52) (-1074) ∧ m * 2 ^ (e + 1074).toNat = c * 2 ^ (place + k + 1074).toNat := by
  rw [nearest_scale neg c k place hc hb hp]
  have hlc : c.log2 ≤ 52 := by
    have := (Nat.log2_lt (n := c) (k := 53) (by omega)).2 hb; omega
  generalize place + k = P at *
  have hc0 : c ≠ 0 := by omega
  have a := Nat.log2_self_le hc0
  have b := Nat.lt_log2_self (n := c)
  generalize hL : max (P + c.log2 - 52) (-1074) = last
  obtain ⟨q, hq⟩ : ∃ q : Nat, last = -1074 + q := ⟨(last + 1074).toNat, by omega⟩
  have hq4 : (last + 1074).toNat = q := by omega
  rw [hq4]
  obtain ⟨m, e, h1, h2, h3, h4⟩ := read_rung neg q (c * 2 ^ (P - last).toNat) (by omega) (pow_up c _ b (by omega))
    (by by_cases h : q = 0
        · exact Or.inl h
        · exact Or.inr (pow_lo c _ a (by omega)))
  refine ⟨m, e, h1, h2, by omega, ?_⟩
  rw [h4, Nat.mul_assoc, ← Nat.pow_add]
  congr 2; omega

/-- One, in units of 2^-1074. -/
def U : Int := 2 ^ 1074
theorem U_split (g : Int) (h0 : g ≤ 0) (h1 : -1074 ≤ g) : U = 2 ^ (-g).toNat * 2 ^ (g + 1074).toNat := by
  unfold U; rw [← Int.pow_add]; congr 1; omega
theorem U_pos : 0 < U := Int.pow_pos (by decide)
theorem cmp_U (a b : Int) : compare (a * U) (b * U) = compare a b := cmp_scale a b 1074
theorem nat_pow (n k : Nat) : ((n * 2 ^ k : Nat) : Int) = n * 2 ^ k := by rw [Int.natCast_mul, Int.natCast_pow]; rfl
theorem U_nat (n : Nat) : ((n * 2 ^ 1074 : Nat) : Int) = n * U := nat_pow n 1074
theorem mul_pow_add (m k b : Nat) : (m : Int) * 2 ^ (k + b) = ((m * 2 ^ k : Nat) : Int) * 2 ^ b := by rw [nat_pow, Int.pow_add, Int.mul_assoc]
theorem U_mul (m k : Nat) : (m : Int) * 2 ^ (k + 1074) = ((m * 2 ^ k : Nat) : Int) * U := mul_pow_add m k 1074
attribute [irreducible] U

/-- The word x is the float of the whole number n. -/
def IsInt (x : Nat) (n : Int) : Prop := ∃ s m e, double.read x = .number s m e ∧ -1074 ≤ e ∧ e ≤ 0 ∧ signed s m (e + 1074).toNat = n * U

/-- The word x is a number of value v, in units of 2^-1074. -/
def Val (x : Nat) (v : Int) : Prop := ∃ s m e, double.read x = .number s m e ∧ -1074 ≤ e ∧ signed s m (e + 1074).toNat = v

theorem IsInt.val {x : Nat} {n : Int} (h : IsInt x n) : Val x (n * U) := by
  obtain ⟨s, m, e, h1, h2, _, h4⟩ := h; exact ⟨s, m, e, h1, h2, h4⟩

theorem order_val {x y : Nat} {a b : Int} (hx : Val x a) (hy : Val y b) : double.order x y = some (compare a b) := by
  obtain ⟨s, m, i, h1, h2, rfl⟩ := hx
  obtain ⟨t, n, j, k1, k2, rfl⟩ := hy
  unfold Format.order
  rw [h1, k1]
  simp only [Datum.order]
  have e1 : (i + 1074).toNat = (i - min i j).toNat + (min i j + 1074).toNat := by omega
  have e2 : (j + 1074).toNat = (j - min i j).toNat + (min i j + 1074).toNat := by omega
  rw [e1, e2, signed_add, signed_add, cmp_scale]

theorem order_int {x y : Nat} {a b : Int} (hx : IsInt x a) (hy : IsInt y b) : double.order x y = some (compare a b) := by
  rw [order_val hx.val hy.val, cmp_U]

theorem isInt_nearest (neg : Bool) (c k : Nat) (place : Int) (hb : c < 2 ^ 53) (hp : place + k = 0) (hz : c = 0 → neg = neg) :
    IsInt (double.nearest neg (c * 2 ^ k) place) (if neg then -(c : Int) else c) := by
  by_cases hc : c = 0
  · subst hc
    have : double.nearest neg (0 * 2 ^ k) place = double.word neg 0 := by unfold Format.nearest; simp
    rw [this]
    refine ⟨neg, 0, -1074, ?_, by omega, by omega, ?_⟩
    · rw [read_word neg 0 (by decide)]; simp
    · rw [signed_eq]; cases neg <;> simp
  · obtain ⟨m, e, h1, h2, h3, h4⟩ := read_nearest neg c k place (by omega) hb (by omega) (by omega)
    have hlc : c.log2 ≤ 52 := by
      have := (Nat.log2_lt (n := c) (k := 53) hc).2 hb; omega
    refine ⟨neg, m, e, h1, h2, by omega, ?_⟩
    rw [hp, show ((0 : Int) + 1074).toNat = 1074 by rfl] at h4
    have h5 : (m : Int) * 2 ^ (e + 1074).toNat = c * U := by rw [← U_nat, ← h4, Int.natCast_mul, Int.natCast_pow]; rfl
    rw [signed_eq, h5]
    cases neg
    · simp
    · simp [Int.neg_mul]

theorem isInt_ofInt (n : Int) (h : n.natAbs < 2 ^ 53) : IsInt (floatOfInt .f64 n) n := by
  have := isInt_nearest (decide (n < 0)) n.natAbs 0 0 h rfl (fun _ => rfl)
  rw [Nat.pow_zero, Nat.mul_one] at this
  have e : (if decide (n < 0) = true then -(n.natAbs : Int) else n.natAbs) = n := by
    by_cases hn : n < 0
    · simp only [hn, decide_true, if_true]; omega
    · simp only [hn, decide_false]; simp; omega
  rw [e] at this
  exact this

theorem signed_zero (s : Bool) (m k : Nat) : (signed s m k).natAbs = m * 2 ^ k := by
  rw [signed_eq]; cases s <;> simp [Int.natAbs_mul, Int.natAbs_pow]

/-- The sum of two data of whole numbers, written, is the sum's float. -/
theorem isInt_sum {s t : Bool} {m n : Nat} {i j : Int} {a b : Int} (hi : -1074 ≤ i) (hi0 : i ≤ 0) (hj : -1074 ≤ j) (hj0 : j ≤ 0)
    (ha : signed s m (i + 1074).toNat = a * U) (hb : signed t n (j + 1074).toNat = b * U) (hab : (a + b).natAbs < 2 ^ 53) :
    ∃ d, (Datum.number s m i).sum (.number t n j) = some d ∧ IsInt (double.write d) (a + b) := by
  refine ⟨_, rfl, ?_⟩
  simp only [Format.write]
  have e1 : (i + 1074).toNat = (i - min i j).toNat + (min i j + 1074).toNat := by omega
  have e2 : (j + 1074).toNat = (j - min i j).toNat + (min i j + 1074).toNat := by omega
  rw [e1, signed_add] at ha
  rw [e2, signed_add] at hb
  generalize hA : signed s m (i - min i j).toNat = A at *
  generalize hB : signed t n (j - min i j).toNat = B at *
  generalize hg : min i j = g at *
  have hg0 : g ≤ 0 := by omega
  have hg1 : -1074 ≤ g := by omega
  have hU := U_split g hg0 hg1
  have hp : (0 : Int) < 2 ^ (g + 1074).toNat := Int.pow_pos (by decide)
  have hs : A + B = (a + b) * 2 ^ (-g).toNat := by
    apply Int.eq_of_mul_eq_mul_right (a := 2 ^ (g + 1074).toNat) (by omega)
    rw [Int.add_mul, ha, hb, Int.mul_assoc, ← hU, Int.add_mul]
  have hn : (A + B).natAbs = (a + b).natAbs * 2 ^ (-g).toNat := by
    rw [hs, Int.natAbs_mul, Int.natAbs_pow]; rfl
  have hq : (0 : Int) < 2 ^ (-g).toNat := Int.pow_pos (by decide)
  have hlt : A + B < 0 ↔ a + b < 0 := by
    rw [hs]
    constructor
    · intro h
      rcases Int.lt_or_le (a + b) 0 with h' | h'
      · exact h'
      · have := Int.mul_nonneg h' (Int.le_of_lt hq); omega
    · intro h; exact Int.mul_neg_of_neg_of_pos h hq
  have hz : A + B = 0 ↔ a + b = 0 := by
    rw [hs]; constructor
    · intro h; rcases Int.mul_eq_zero.1 h with h' | h'
      · exact h'
      · omega
    · intro h; rw [h]; simp
  rw [hn]
  by_cases h0 : a + b = 0
  · have := isInt_nearest (if A + B = 0 then s && t else decide (A + B < 0)) (a + b).natAbs (-g).toNat g hab (by omega) (fun _ => rfl)
    have e : (if (if A + B = 0 then s && t else decide (A + B < 0)) = true then -((a + b).natAbs : Int) else (a + b).natAbs) = a + b := by
      have : ((a + b).natAbs : Int) = 0 := by omega
      rw [this, h0]; simp
    rw [e] at this
    exact this
  · have hz' : ¬ A + B = 0 := fun h => h0 (hz.1 h)
    rw [if_neg hz']
    have := isInt_nearest (decide (A + B < 0)) (a + b).natAbs (-g).toNat g hab (by omega) (fun _ => rfl)
    have e : (if decide (A + B < 0) = true then -((a + b).natAbs : Int) else (a + b).natAbs) = a + b := by
      by_cases h : a + b < 0
      · have h' := hlt.2 h
        simp only [h', decide_true, if_true]; omega
      · have h' : ¬ A + B < 0 := fun x => h (hlt.1 x)
        simp only [h', decide_false]; simp; omega
    rw [e] at this
    exact this

theorem add_int {x y : Nat} {a b : Int} (hx : IsInt x a) (hy : IsInt y b) (hab : (a + b).natAbs < 2 ^ 53) :
    ∃ r, floatBits .add .f64 x y = some r ∧ IsInt r (a + b) := by
  obtain ⟨s, m, i, h1, h2, h3, h4⟩ := hx
  obtain ⟨t, n, j, k1, k2, k3, k4⟩ := hy
  obtain ⟨d, hd, hi⟩ := isInt_sum h2 h3 k2 k3 h4 k4 hab
  refine ⟨double.write d, ?_, hi⟩
  show ((double.read x).sum (double.read y)).map double.write = _
  rw [h1, k1, hd]; rfl

theorem sub_int {x y : Nat} {a b : Int} (hx : IsInt x a) (hy : IsInt y b) (hab : (a - b).natAbs < 2 ^ 53) :
    ∃ r, floatBits .sub .f64 x y = some r ∧ IsInt r (a - b) := by
  obtain ⟨s, m, i, h1, h2, h3, h4⟩ := hx
  obtain ⟨t, n, j, k1, k2, k3, k4⟩ := hy
  have k5 : signed (!t) n (j + 1074).toNat = (-b) * U := by
    rw [signed_eq] at k4 ⊢
    rw [Int.neg_mul, ← k4]; cases t <;> simp
  obtain ⟨d, hd, hi⟩ := isInt_sum h2 h3 k2 k3 h4 k5 (by rw [← Int.sub_eq_add_neg]; exact hab)
  refine ⟨double.write d, ?_, by rw [Int.sub_eq_add_neg]; exact hi⟩
  show ((double.read x).sum (double.read y).opposite).map double.write = _
  rw [h1, k1]
  show ((Datum.number s m i).sum (Datum.number (!t) n j)).map double.write = _
  rw [hd]; rfl

/-- What a float compares with a whole number as not below and not above is a number. -/
theorem val_of_bounds {x lo hi : Nat} {a b : Int} (hlo : IsInt lo a) (hhi : IsInt hi b)
    (h1 : double.order lo x = some .lt ∨ double.order lo x = some .eq) (h2 : double.order x hi = some .lt ∨ double.order x hi = some .eq) :
    ∃ v, Val x v ∧ a * U ≤ v ∧ v ≤ b * U := by
  have hnum : ∃ s m e, double.read x = .number s m e ∧ -1074 ≤ e := by
    obtain ⟨s, m, i, l1, _, _, _⟩ := hlo
    obtain ⟨t, n, j, k1, _, _, _⟩ := hhi
    unfold Format.order at h1 h2
    rw [l1] at h1
    rw [k1] at h2
    have hread : double.read x = double.read x := rfl
    cases hr : double.read x with
    | number s m e =>
      refine ⟨s, m, e, rfl, ?_⟩
      unfold Format.read at hr
      simp only [dbl_least] at hr
      split at hr
      · cases hr; omega
      · split at hr
        · cases hr; omega
        · split at hr <;> cases hr
    | infinity sg =>
      rw [hr] at h1 h2
      cases sg <;> simp [Datum.order] at h1 h2
    | nan sg f =>
      rw [hr] at h1 h2
      simp [Datum.order] at h1
  obtain ⟨s, m, e, hr, he⟩ := hnum
  have hv : Val x (signed s m (e + 1074).toNat) := ⟨s, m, e, hr, he, rfl⟩
  refine ⟨_, hv, ?_, ?_⟩
  · rw [order_val hlo.val hv] at h1
    simp only [Option.some.injEq] at h1
    rcases h1 with h | h
    · exact Int.le_of_lt (Int.compare_eq_lt.1 h)
    · exact Int.le_of_eq (Int.compare_eq_eq.1 h)
  · rw [order_val hv hhi.val] at h2
    simp only [Option.some.injEq] at h2
    rcases h2 with h | h
    · exact Int.le_of_lt (Int.compare_eq_lt.1 h)
    · exact Int.le_of_eq (Int.compare_eq_eq.1 h)

theorem cut_zero (s : Bool) (n d : Nat) : Toward.zero.cut s n d = n / 2 ^ d := by
  unfold Toward.cut
  simp only [shl, Nat.one_mul, Bool.toNat_false, Nat.add_zero]
  by_cases h : d ≤ n.log2 + 2
  · rw [Nat.min_eq_left h]
  · rw [Nat.min_eq_right (by omega)]
    have h1 : n < 2 ^ (n.log2 + 1) := Nat.lt_log2_self
    have h2 : 2 ^ (n.log2 + 1) ≤ 2 ^ (n.log2 + 2) := Nat.pow_le_pow_right (by decide) (by omega)
    have h3 : 2 ^ (n.log2 + 2) ≤ 2 ^ d := Nat.pow_le_pow_right (by decide) (by omega)
    rw [Nat.div_eq_of_lt (Nat.lt_of_lt_of_le h1 h2), Nat.div_eq_of_lt (Nat.lt_of_lt_of_le h1 (Nat.le_trans h2 h3))]

theorem div_bounds (m d k : Nat) : ((m / 2 ^ d : Nat) : Int) * (2 ^ d * 2 ^ k) ≤ (m : Int) * 2 ^ k ∧ (m : Int) * 2 ^ k < (((m / 2 ^ d : Nat) : Int) + 1) * (2 ^ d * 2 ^ k) := by
  have hp : 0 < 2 ^ d := Nat.two_pow_pos d
  have h1 : m / 2 ^ d * 2 ^ d ≤ m := Nat.div_mul_le_self m (2 ^ d)
  have h2 : m < (m / 2 ^ d + 1) * 2 ^ d := by
    have := Nat.lt_div_mul_add (a := m) hp
    rw [Nat.add_mul, Nat.one_mul]; exact this
  have k0 : (0 : Int) < 2 ^ k := Int.pow_pos (by decide)
  have h1' : ((m / 2 ^ d : Nat) : Int) * 2 ^ d ≤ m := by rw [← nat_pow]; exact Int.ofNat_le.2 h1
  have h2' : (m : Int) < (((m / 2 ^ d : Nat) : Int) + 1) * 2 ^ d := by
    have : ((m / 2 ^ d + 1 : Nat) : Int) = ((m / 2 ^ d : Nat) : Int) + 1 := rfl
    rw [← this, ← nat_pow]; exact Int.ofNat_lt.2 h2
  rw [← Int.mul_assoc, ← Int.mul_assoc]
  exact ⟨Int.mul_le_mul_of_nonneg_right h1' (Int.le_of_lt k0), Int.mul_lt_mul_of_pos_right h2' k0⟩

/-- A number that is not below nought, cut towards nought. -/
theorem toInt_val {x : Nat} {v : Int} (hx : Val x v) (h0 : 0 ≤ v) : ∃ n : Nat, (double.read x).toInt .zero = some (n : Int) ∧ (n : Int) * U ≤ v ∧ v < ((n : Int) + 1) * U := by
  obtain ⟨s, m, e, h1, h2, h3⟩ := hx
  rw [h1]
  simp only [Datum.toInt, Datum.integral, shl, cut_zero]
  have hs : s = false ∨ m = 0 := by
    cases s
    · exact Or.inl rfl
    · right
      rw [signed_eq] at h3
      have hp : (0 : Int) < 2 ^ (e + 1074).toNat := Int.pow_pos (by decide)
      rcases Nat.eq_zero_or_pos m with h | h
      · exact h
      · have : (0 : Int) < (m : Int) * 2 ^ (e + 1074).toNat := Int.mul_pos (by omega) hp
        simp only [if_true] at h3
        omega
  have hv : v = (m : Int) * 2 ^ (e + 1074).toNat := by
    rw [← h3, signed_eq]
    rcases hs with h | h
    · rw [h]; simp
    · rw [h]; simp
  by_cases he : 0 ≤ e
  · refine ⟨m * 2 ^ e.toNat, ?_, ?_⟩
    · have e0 : (-e).toNat = 0 := by omega
      rw [e0, Nat.pow_zero, Nat.div_one, signed_eq]
      rcases hs with h | h
      · rw [h]; simp
      · rw [h]; simp
    · have : v = ((m * 2 ^ e.toNat : Nat) : Int) * U := by
        rw [hv, ← U_mul]; congr 2; omega
      rw [this]
      have := U_pos
      exact ⟨Int.le_refl _, Int.mul_lt_mul_of_pos_right (by omega) this⟩
  · have e0 : e.toNat = 0 := by omega
    refine ⟨m / 2 ^ (-e).toNat, ?_, ?_⟩
    · rw [e0, Nat.pow_zero, Nat.mul_one, signed_eq]
      rcases hs with h | h
      · rw [h]; simp
      · rw [h]; simp
    · rw [hv, U_split e (by omega) h2]
      exact div_bounds m (-e).toNat (e + 1074).toNat

theorem lt_of_mulU {a b : Int} (h : a * U < b * U) : a < b := Int.lt_of_mul_lt_mul_right h (Int.le_of_lt U_pos)
theorem le_of_mulU {a b : Int} (h : a * U ≤ b * U) : a ≤ b := Int.le_of_mul_le_mul_right h U_pos
theorem eq_of_mulU {a b : Int} (h : a * U = b * U) : a = b := Int.eq_of_mul_eq_mul_right (by have := U_pos; omega) h

theorem toIntVal_of {x : Nat} {v b : Int} (hx : Val x v) (h0 : 0 ≤ v) (h1 : v ≤ b * U) (hb : b < 4611686018427387904) :
    ∃ n : Int, floatToIntVal .f64 x .i64 = some n ∧ 0 ≤ n ∧ n ≤ b ∧ n * U ≤ v ∧ v < (n + 1) * U := by
  obtain ⟨n, h2, h3, h4⟩ := toInt_val hx h0
  have hn : (n : Int) ≤ b := le_of_mulU (Int.le_trans h3 h1)
  refine ⟨n, ?_, by omega, hn, h3, h4⟩
  have h5 : (FloatKind.f64.decode x).toInt .zero = some (n : Int) := h2
  have h6 : IntKind.i64.min = -9223372036854775808 := by decide
  have h7 : IntKind.i64.max = 9223372036854775807 := by decide
  unfold floatToIntVal
  rw [h5]
  simp only [h6, h7]
  rw [if_pos (by omega)]

end Go.Proofs.Ytkocehjomjaidaa.Flo
