/- Texts laid one behind the other: Bs, Sf, Sa, Sb, Sc, Sd, Nm, Na, Oa, Cm, Ca, Cb, Cc, Cj, Ob, Od, Oc, Cd, Ce, Cf, Cg. -/
import Derived.Test.YtfpgfclmmdihjaaChecked
import Derived.WalkKit
import Derived.WalkLawsBesides
import Derived.Lib.Hide
import Derived.KernelRfl
import Derived.Handy
import Derived.Lib.Strings
import Derived.Laws.FloatArith
import Derived.Lib.ItoaNum
import Derived.Lib.BufSteps
import Derived.Laws.IdiomStrings
import Derived.WalkMore
import Derived.Deep.Draws
import Derived.BigQuiet
import Derived.Deep.QuietTactic
import Derived.Lib.QuietBelow
import Derived.Laws.ResultCell
import Derived.Laws.CopyOwn
import Derived.Lib.SmallJoins
/- Small words that all texts share. -/
namespace Go.Proofs.Ytfpgfclmmdihjaa
open Go.RowKit

theorem ret_int {k : IntKind} {a b : Int} (h : a = b) : Ending.returned (.int k a) = .returned (.int k b) := by rw [h]
theorem ret_bool {a b : Bool} (h : b = a) : Ending.returned (.bool a) = .returned (.bool b) := by rw [h]
theorem ret_of {a b : Value} (h : a = b) : Ending.returned a = Ending.returned b := by rw [h]

/-- What was there reads as it did. -/
theorem bcell {W w1 : World} (hb : Below W.heap.size W w1) : (∀ b o, b < W.heap.size → w1.cell? ⟨b, o, none⟩ = W.cell? ⟨b, o, none⟩) ∧ (∀ b o, b < W.heap.size → w1.frozen? ⟨b, o, none⟩ = W.frozen? ⟨b, o, none⟩) :=
  ⟨fun b o h => hb.cell (p := ⟨b, o, none⟩) h, fun b o h => hb.frozen (p := ⟨b, o, none⟩) h⟩
theorem below_then {w w1 w2 : World} (h : Below w.heap.size w w1) (k : Below w1.heap.size w1 w2) : Below w.heap.size w w2 := h.trans (k.mono h.size)
theorem below_alloc {w w1 : World} (h : Below w.heap.size w w1) (o : Obj) : Below w.heap.size w (w1.alloc o) := h.alloc h.size o
theorem below_drew {W w : World} (h : Below W.heap.size W w) (n : Nat) : Below W.heap.size W (w.drewN n) := ⟨h.os, h.tape, h.output, h.size, h.block⟩

theorem alloc_size (w : World) (o : Obj) : (w.alloc o).heap.size = w.heap.size + 1 := by simp
def i64 (n : Int) : Prop := -9223372036854775808 ≤ n ∧ n ≤ 9223372036854775807

/-- The bytes of a text. -/
def L (s : ByteArray) : List UInt8 := s.data.toList
theorem L_len (s : ByteArray) : (L s).length = s.size := by unfold L; simp
theorem L_at (s : ByteArray) (i : Nat) (h : i < s.size) : (L s)[i]'(by rw [L_len]; exact h) = s[i] := rfl
theorem L_inj {a b : ByteArray} (h : L a = L b) : a = b := by
  unfold L at h; cases a; cases b; simp at h; rw [h]
theorem L_app (a b : ByteArray) : L (a ++ b) = L a ++ L b := by unfold L; simp
theorem ne_list {a b : ByteArray} (h : ¬ a = b) : ¬ a.toList = b.toList := by
  intro e
  rw [Lib.toList_data, Lib.toList_data] at e
  exact h (L_inj e)
theorem ne_beq {a b : ByteArray} (h : ¬ a = b) : (a.toList == b.toList) = false := by simpa using ne_list h

end Go.Proofs.Ytfpgfclmmdihjaa

/- Floats that hold whole numbers: their words read back as these numbers; sums, differences, comparisons and conversions of them are those of the numbers. Conditions: the numbers are below 2^53. -/
namespace Go.Proofs.Ytfpgfclmmdihjaa.Flo
open Ieee

theorem shl (m k : Nat) : m <<< k = m * 2 ^ k := Nat.shiftLeft_eq m k

theorem signed_eq (s : Bool) (m k : Nat) : signed s m k = (if s then -1 else 1) * ((m : Int) * 2 ^ k) := by
  unfold signed
  cases s <;> simp [shl]

theorem signed_add (s : Bool) (m a k : Nat) : signed s m (a + k) = signed s m a * 2 ^ k := by
  rw [signed_eq, signed_eq, Int.pow_add, ← Int.mul_assoc (m : Int), ← Int.mul_assoc]

theorem cmp_scale (a b : Int) (k : Nat) : compare (a * 2 ^ k) (b * 2 ^ k) = compare a b := by
  have h : (0 : Int) < 2 ^ k := Int.pow_pos (by decide)
  have h1 : a * 2 ^ k < b * 2 ^ k ↔ a < b := Int.mul_lt_mul_right h
  have h2 : a * 2 ^ k = b * 2 ^ k ↔ a = b := Int.mul_eq_mul_right_iff (by omega)
  simp only [compare, compareOfLessAndEq, h1, h2]

theorem dbl_frac : double.fractionBits = 52 := rfl
theorem dbl_least : double.leastPlace = -1074 := by decide
theorem dbl_bin : double.binade = 4503599627370496 := by decide
theorem dbl_inf : double.infRung = 9218868437227405312 := by decide
theorem dbl_sign : double.signWeight = 9223372036854775808 := by decide

theorem read_word (neg : Bool) (r : Nat) (h : r < 9218868437227405312) : double.read (double.word neg r) =
    if r < 4503599627370496 then .number neg r (-1074)
    else .number neg (4503599627370496 + r % 4503599627370496) (-1074 + ((r / 4503599627370496 - 1 : Nat) : Int)) := by
  have e1 : (double.word neg r) % 9223372036854775808 = r := by
    unfold Format.word; rw [dbl_sign]; split <;> omega
  have e2 : ((double.word neg r) / 9223372036854775808 % 2 == 1) = neg := by
    unfold Format.word; rw [dbl_sign]
    cases neg
    · have : r / 9223372036854775808 = 0 := by omega
      simp [this]
    · have : (9223372036854775808 + r) / 9223372036854775808 = 1 := by omega
      simp [this]
  unfold Format.read
  simp only [dbl_sign, dbl_bin, dbl_inf, dbl_least, e1, e2, h, if_true]

theorem log2_mul_pow (c k : Nat) (h : 0 < c) : (c * 2 ^ k).log2 = c.log2 + k := by
  have hp : 0 < 2 ^ k := Nat.two_pow_pos k
  have hc : c ≠ 0 := by omega
  have hne : c * 2 ^ k ≠ 0 := Nat.mul_ne_zero hc (by omega)
  apply (Nat.log2_eq_iff hne).2
  have a := Nat.log2_self_le hc
  have b := Nat.lt_log2_self (n := c)
  constructor
  · rw [Nat.pow_add]; exact Nat.mul_le_mul_right _ a
  · rw [Nat.add_right_comm, Nat.pow_add]; exact (Nat.mul_lt_mul_right hp).2 b

/-- A cut that drops nothing but noughts. -/
theorem cut_even (neg : Bool) (c k d : Nat) (hd : d ≤ k) (hc : 0 < c) : Toward.even.cut neg (c * 2 ^ k) d = c * 2 ^ (k - d) := by
  have hl := log2_mul_pow c k hc
  have hm : min d ((c * 2 ^ k).log2 + 2) = d := by rw [hl]; omega
  have hk : c * 2 ^ k = (c * 2 ^ (k - d)) * 2 ^ d := by rw [Nat.mul_assoc, ← Nat.pow_add]; congr 2; omega
  have hp : 0 < 2 ^ d := Nat.two_pow_pos d
  unfold Toward.cut
  simp only [hm, shl, Nat.one_mul]
  rw [hk, Nat.mul_mod_left, Nat.mul_div_cancel _ hp]
  simp

theorem nearest_scale (neg : Bool) (c k : Nat) (place : Int) (hc : 0 < c) (hb : c < 2 ^ 53) (hp : -1074 ≤ place + k) :
    double.nearest neg (c * 2 ^ k) place =
      double.word neg (min ((max (place + k + c.log2 - 52) (-1074) + 1074).toNat * 4503599627370496 + c * 2 ^ (place + k - max (place + k + c.log2 - 52) (-1074)).toNat) 9218868437227405312) := by
  have hne : ¬ c * 2 ^ k = 0 := by have := Nat.two_pow_pos k; exact Nat.mul_ne_zero (by omega) (by omega)
  have hlc : c.log2 ≤ 52 := by
    have := (Nat.log2_lt (n := c) (k := 53) (by omega)).2 hb; omega
  unfold Format.nearest
  rw [if_neg hne]
  simp only [log2_mul_pow c k hc, dbl_frac, dbl_least, dbl_bin, dbl_inf]
  have e : place + ((c.log2 + k : Nat) : Int) - ((52 : Nat) : Int) = place + k + c.log2 - 52 := by omega
  rw [e]
  generalize hL : max (place + k + c.log2 - 52) (-1074) = last
  have hle : last ≤ place + k := by omega
  by_cases hpl : last ≤ place
  · have e0 : (last - place).toNat = 0 := by omega
    have e1 : (place + k - last).toNat = k + (place - last).toNat := by omega
    rw [e0, shl, Nat.mul_assoc, ← Nat.pow_add, cut_even neg c _ 0 (by omega) hc, e1, Nat.sub_zero, Int.sub_neg]
  · have e0 : (place - last).toNat = 0 := by omega
    have e1 : (place + k - last).toNat = k - (last - place).toNat := by omega
    rw [e0, shl, Nat.pow_zero, Nat.mul_one, cut_even neg c k _ (by omega) hc, e1, Int.sub_neg]

theorem pow_up (c d : Nat) (hc : c < 2 ^ (c.log2 + 1)) (h : c.log2 + d ≤ 52) : c * 2 ^ d < 9007199254740992 := by
  have h1 : c * 2 ^ d < 2 ^ (c.log2 + 1) * 2 ^ d := (Nat.mul_lt_mul_right (Nat.two_pow_pos _)).2 hc
  rw [← Nat.pow_add] at h1
  have h2 : 2 ^ (c.log2 + 1 + d) ≤ 2 ^ 53 := Nat.pow_le_pow_right (by decide) (by omega)
  exact Nat.lt_of_lt_of_le h1 h2

theorem pow_lo (c d : Nat) (hc : 2 ^ c.log2 ≤ c) (h : 52 ≤ c.log2 + d) : 4503599627370496 ≤ c * 2 ^ d := by
  have h1 : 2 ^ c.log2 * 2 ^ d ≤ c * 2 ^ d := Nat.mul_le_mul_right _ hc
  rw [← Nat.pow_add] at h1
  have h2 : 2 ^ 52 ≤ 2 ^ (c.log2 + d) := Nat.pow_le_pow_right (by decide) h
  exact Nat.le_trans h2 h1

theorem read_rung (neg : Bool) (q K : Nat) (hq : q ≤ 2000) (up : K < 9007199254740992) (lo : q = 0 ∨ 4503599627370496 ≤ K) :
    ∃ m e, double.read (double.word neg (min (q * 4503599627370496 + K) 9218868437227405312)) = .number neg m e ∧ -1074 ≤ e ∧ e ≤ -1074 + q ∧ m * 2 ^ (e + 1074).toNat = K * 2 ^ q := by
  have hmin : min (q * 4503599627370496 + K) 9218868437227405312 = q * 4503599627370496 + K := Nat.min_eq_left (by omega)
  rw [hmin, read_word neg _ (by omega)]
  by_cases hk : q * 4503599627370496 + K < 4503599627370496
  · rw [if_pos hk]
    have h0 : q = 0 := by omega
    have h1 : q * 4503599627370496 + K = K := by omega
    rw [h1]
    exact ⟨K, -1074, rfl, Int.le_refl _, by omega, by rw [h0]; rfl⟩
  · rw [if_neg hk]
    have e2 : 4503599627370496 + (q * 4503599627370496 + K) % 4503599627370496 = K := by omega
    have e1 : (q * 4503599627370496 + K) / 4503599627370496 - 1 = q := by omega
    rw [e1, e2]
    exact ⟨K, -1074 + q, rfl, by omega, Int.le_refl _, by rw [show ((-1074 : Int) + q + 1074).toNat = q by omega]⟩

theorem read_nearest (neg : Bool) (c k : Nat) (place : Int) (hc : 0 < c) (hb : c < 2 ^ 53) (hp : -1074 ≤ place + k) (hu : place + k ≤ 900) :
    ∃ m e, double.read (double.nearest neg (c * 2 ^ k) place) = .number neg m e ∧ -1074 ≤ e ∧ e ≤ max (place + k + c.log2 - 52) (-1074) ∧ m * 2 ^ (e + 1074).toNat = c * 2 ^ (place + k + 1074).toNat := by
  rw [nearest_scale neg c k place hc hb hp]
  have hlc : c.log2 ≤ 52 := by
    have := (Nat.log2_lt (n := c) (k := 53) (by omega)).2 hb; omega
  generalize place + k = P at *
  have hc0 : c ≠ 0 := by omega
  have a := Nat.log2_self_le hc0
  have b := Nat.lt_log2_self (n := c)
  generalize hL : max (P + c.log2 - 52) (-1074) = last
  obtain ⟨q, hq⟩ : ∃ q : Nat, last = -1074 + q := ⟨(last + 1074).toNat, by omega⟩
  have hq4 : (last + 1074).toNat = q := by omega
  rw [hq4]
  obtain ⟨m, e, h1, h2, h3, h4⟩ := read_rung neg q (c * 2 ^ (P - last).toNat) (by omega) (pow_up c _ b (by omega))
    (by by_cases h : q = 0
        · exact Or.inl h
        · exact Or.inr (pow_lo c _ a (by omega)))
  refine ⟨m, e, h1, h2, by omega, ?_⟩
  rw [h4, Nat.mul_assoc, ← Nat.pow_add]
  congr 2; omega

/-- One, in units of 2^-1074. -/
def U : Int := 2 ^ 1074
theorem U_split (g : Int) (h0 : g ≤ 0) (h1 : -1074 ≤ g) : U = 2 ^ (-g).toNat * 2 ^ (g + 1074).toNat := by
  unfold U; rw [← Int.pow_add]; congr 1; omega
theorem U_pos : 0 < U := Int.pow_pos (by decide)
theorem cmp_U (a b : Int) : compare (a * U) (b * U) = compare a b := cmp_scale a b 1074
theorem nat_pow (n k : Nat) : ((n * 2 ^ k : Nat) : Int) = n * 2 ^ k := by rw [Int.natCast_mul, Int.natCast_pow]; rfl
theorem U_nat (n : Nat) : ((n * 2 ^ 1074 : Nat) : Int) = n * U := nat_pow n 1074
theorem mul_pow_add (m k b : Nat) : (m : Int) * 2 ^ (k + b) = ((m * 2 ^ k : Nat) : Int) * 2 ^ b := by rw [nat_pow, Int.pow_add, Int.mul_assoc]
theorem U_mul (m k : Nat) : (m : Int) * 2 ^ (k + 1074) = ((m * 2 ^ k : Nat) : Int) * U := mul_pow_add m k 1074
attribute [irreducible] U

/-- The word x is the float of the whole number n. -/
def IsInt (x : Nat) (n : Int) : Prop := ∃ s m e, double.read x = .number s m e ∧ -1074 ≤ e ∧ e ≤ 0 ∧ signed s m (e + 1074).toNat = n * U

/-- The word x is a number of value v, in units of 2^-1074. -/
def Val (x : Nat) (v : Int) : Prop := ∃ s m e, double.read x = .number s m e ∧ -1074 ≤ e ∧ signed s m (e + 1074).toNat = v

theorem IsInt.val {x : Nat} {n : Int} (h : IsInt x n) : Val x (n * U) := by
  obtain ⟨s, m, e, h1, h2, _, h4⟩ := h; exact ⟨s, m, e, h1, h2, h4⟩

theorem order_val {x y : Nat} {a b : Int} (hx : Val x a) (hy : Val y b) : double.order x y = some (compare a b) := by
  obtain ⟨s, m, i, h1, h2, rfl⟩ := hx
  obtain ⟨t, n, j, k1, k2, rfl⟩ := hy
  unfold Format.order
  rw [h1, k1]
  simp only [Datum.order]
  have e1 : (i + 1074).toNat = (i - min i j).toNat + (min i j + 1074).toNat := by omega
  have e2 : (j + 1074).toNat = (j - min i j).toNat + (min i j + 1074).toNat := by omega
  rw [e1, e2, signed_add, signed_add, cmp_scale]

theorem order_int {x y : Nat} {a b : Int} (hx : IsInt x a) (hy : IsInt y b) : double.order x y = some (compare a b) := by
  rw [order_val hx.val hy.val, cmp_U]

theorem isInt_nearest (neg : Bool) (c k : Nat) (place : Int) (hb : c < 2 ^ 53) (hp : place + k = 0) (hz : c = 0 → neg = neg) :
    IsInt (double.nearest neg (c * 2 ^ k) place) (if neg then -(c : Int) else c) := by
  by_cases hc : c = 0
  · subst hc
    have : double.nearest neg (0 * 2 ^ k) place = double.word neg 0 := by unfold Format.nearest; simp
    rw [this]
    refine ⟨neg, 0, -1074, ?_, by omega, by omega, ?_⟩
    · rw [read_word neg 0 (by decide)]; simp
    · rw [signed_eq]; cases neg <;> simp
  · obtain ⟨m, e, h1, h2, h3, h4⟩ := read_nearest neg c k place (by omega) hb (by omega) (by omega)
    have hlc : c.log2 ≤ 52 := by
      have := (Nat.log2_lt (n := c) (k := 53) hc).2 hb; omega
    refine ⟨neg, m, e, h1, h2, by omega, ?_⟩
    rw [hp, show ((0 : Int) + 1074).toNat = 1074 by rfl] at h4
    have h5 : (m : Int) * 2 ^ (e + 1074).toNat = c * U := by rw [← U_nat, ← h4, Int.natCast_mul, Int.natCast_pow]; rfl
    rw [signed_eq, h5]
    cases neg
    · simp
    · simp [Int.neg_mul]

theorem isInt_ofInt (n : Int) (h : n.natAbs < 2 ^ 53) : IsInt (floatOfInt .f64 n) n := by
  have := isInt_nearest (decide (n < 0)) n.natAbs 0 0 h rfl (fun _ => rfl)
  rw [Nat.pow_zero, Nat.mul_one] at this
  have e : (if decide (n < 0) = true then -(n.natAbs : Int) else n.natAbs) = n := by
    by_cases hn : n < 0
    · simp only [hn, decide_true, if_true]; omega
    · simp only [hn, decide_false]; simp; omega
  rw [e] at this
  exact this

theorem signed_zero (s : Bool) (m k : Nat) : (signed s m k).natAbs = m * 2 ^ k := by
  rw [signed_eq]; cases s <;> simp [Int.natAbs_mul, Int.natAbs_pow]

/-- The sum of two data of whole numbers, written, is the sum's float. -/
theorem isInt_sum {s t : Bool} {m n : Nat} {i j : Int} {a b : Int} (hi : -1074 ≤ i) (hi0 : i ≤ 0) (hj : -1074 ≤ j) (hj0 : j ≤ 0)
    (ha : signed s m (i + 1074).toNat = a * U) (hb : signed t n (j + 1074).toNat = b * U) (hab : (a + b).natAbs < 2 ^ 53) :
    ∃ d, (Datum.number s m i).sum (.number t n j) = some d ∧ IsInt (double.write d) (a + b) := by
  refine ⟨_, rfl, ?_⟩
  simp only [Format.write]
  have e1 : (i + 1074).toNat = (i - min i j).toNat + (min i j + 1074).toNat := by omega
  have e2 : (j + 1074).toNat = (j - min i j).toNat + (min i j + 1074).toNat := by omega
  rw [e1, signed_add] at ha
  rw [e2, signed_add] at hb
  generalize hA : signed s m (i - min i j).toNat = A at *
  generalize hB : signed t n (j - min i j).toNat = B at *
  generalize hg : min i j = g at *
  have hg0 : g ≤ 0 := by omega
  have hg1 : -1074 ≤ g := by omega
  have hU := U_split g hg0 hg1
  have hp : (0 : Int) < 2 ^ (g + 1074).toNat := Int.pow_pos (by decide)
  have hs : A + B = (a + b) * 2 ^ (-g).toNat := by
    apply Int.eq_of_mul_eq_mul_right (a := 2 ^ (g + 1074).toNat) (by omega)
    rw [Int.add_mul, ha, hb, Int.mul_assoc, ← hU, Int.add_mul]
  have hn : (A + B).natAbs = (a + b).natAbs * 2 ^ (-g).toNat := by
    rw [hs, Int.natAbs_mul, Int.natAbs_pow]; rfl
  have hq : (0 : Int) < 2 ^ (-g).toNat := Int.pow_pos (by decide)
  have hlt : A + B < 0 ↔ a + b < 0 := by
    rw [hs]
    constructor
    · intro h
      rcases Int.lt_or_le (a + b) 0 with h' | h'
      · exact h'
      · have := Int.mul_nonneg h' (Int.le_of_lt hq); omega
    · intro h; exact Int.mul_neg_of_neg_of_pos h hq
  have hz : A + B = 0 ↔ a + b = 0 := by
    rw [hs]; constructor
    · intro h; rcases Int.mul_eq_zero.1 h with h' | h'
      · exact h'
      · omega
    · intro h; rw [h]; simp
  rw [hn]
  by_cases h0 : a + b = 0
  · have := isInt_nearest (if A + B = 0 then s && t else decide (A + B < 0)) (a + b).natAbs (-g).toNat g hab (by omega) (fun _ => rfl)
    have e : (if (if A + B = 0 then s && t else decide (A + B < 0)) = true then -((a + b).natAbs : Int) else (a + b).natAbs) = a + b := by
      have : ((a + b).natAbs : Int) = 0 := by omega
      rw [this, h0]; simp
    rw [e] at this
    exact this
  · have hz' : ¬ A + B = 0 := fun h => h0 (hz.1 h)
    rw [if_neg hz']
    have := isInt_nearest (decide (A + B < 0)) (a + b).natAbs (-g).toNat g hab (by omega) (fun _ => rfl)
    have e : (if decide (A + B < 0) = true then -((a + b).natAbs : Int) else (a + b).natAbs) = a + b := by
      by_cases h : a + b < 0
      · have h' := hlt.2 h
        simp only [h', decide_true, if_true]; omega
      · have h' : ¬ A + B < 0 := fun x => h (hlt.1 x)
        simp only [h', decide_false]; simp; omega
    rw [e] at this
    exact this

theorem add_int {x y : Nat} {a b : Int} (hx : IsInt x a) (hy : IsInt y b) (hab : (a + b).natAbs < 2 ^ 53) :
    ∃ r, floatBits .add .f64 x y = some r ∧ IsInt r (a + b) := by
  obtain ⟨s, m, i, h1, h2, h3, h4⟩ := hx
  obtain ⟨t, n, j, k1, k2, k3, k4⟩ := hy
  obtain ⟨d, hd, hi⟩ := isInt_sum h2 h3 k2 k3 h4 k4 hab
  refine ⟨double.write d, ?_, hi⟩
  show ((double.read x).sum (double.read y)).map double.write = _
  rw [h1, k1, hd]; rfl

theorem sub_int {x y : Nat} {a b : Int} (hx : IsInt x a) (hy : IsInt y b) (hab : (a - b).natAbs < 2 ^ 53) :
    ∃ r, floatBits .sub .f64 x y = some r ∧ IsInt r (a - b) := by
  obtain ⟨s, m, i, h1, h2, h3, h4⟩ := hx
  obtain ⟨t, n, j, k1, k2, k3, k4⟩ := hy
  have k5 : signed (!t) n (j + 1074).toNat = (-b) * U := by
    rw [signed_eq] at k4 ⊢
    rw [Int.neg_mul, ← k4]; cases t <;> simp
  obtain ⟨d, hd, hi⟩ := isInt_sum h2 h3 k2 k3 h4 k5 (by rw [← Int.sub_eq_add_neg]; exact hab)
  refine ⟨double.write d, ?_, by rw [Int.sub_eq_add_neg]; exact hi⟩
  show ((double.read x).sum (double.read y).opposite).map double.write = _
  rw [h1, k1]
  show ((Datum.number s m i).sum (Datum.number (!t) n j)).map double.write = _
  rw [hd]; rfl

/-- What a float compares with a whole number as not below and not above is a number. -/
theorem val_of_bounds {x lo hi : Nat} {a b : Int} (hlo : IsInt lo a) (hhi : IsInt hi b)
    (h1 : double.order lo x = some .lt ∨ double.order lo x = some .eq) (h2 : double.order x hi = some .lt ∨ double.order x hi = some .eq) :
    ∃ v, Val x v ∧ a * U ≤ v ∧ v ≤ b * U := by
  have hnum : ∃ s m e, double.read x = .number s m e ∧ -1074 ≤ e := by
    obtain ⟨s, m, i, l1, _, _, _⟩ := hlo
    obtain ⟨t, n, j, k1, _, _, _⟩ := hhi
    unfold Format.order at h1 h2
    rw [l1] at h1
    rw [k1] at h2
    have hread : double.read x = double.read x := rfl
    cases hr : double.read x with
    | number s m e =>
      refine ⟨s, m, e, rfl, ?_⟩
      unfold Format.read at hr
      simp only [dbl_least] at hr
      split at hr
      · cases hr; omega
      · split at hr
        · cases hr; omega
        · split at hr <;> cases hr
    | infinity sg =>
      rw [hr] at h1 h2
      cases sg <;> simp [Datum.order] at h1 h2
    | nan sg f =>
      rw [hr] at h1 h2
      simp [Datum.order] at h1
  obtain ⟨s, m, e, hr, he⟩ := hnum
  have hv : Val x (signed s m (e + 1074).toNat) := ⟨s, m, e, hr, he, rfl⟩
  refine ⟨_, hv, ?_, ?_⟩
  · rw [order_val hlo.val hv] at h1
    simp only [Option.some.injEq] at h1
    rcases h1 with h | h
    · exact Int.le_of_lt (Int.compare_eq_lt.1 h)
    · exact Int.le_of_eq (Int.compare_eq_eq.1 h)
  · rw [order_val hv hhi.val] at h2
    simp only [Option.some.injEq] at h2
    rcases h2 with h | h
    · exact Int.le_of_lt (Int.compare_eq_lt.1 h)
    · exact Int.le_of_eq (Int.compare_eq_eq.1 h)

theorem cut_zero (s : Bool) (n d : Nat) : Toward.zero.cut s n d = n / 2 ^ d := by
  unfold Toward.cut
  simp only [shl, Nat.one_mul, Bool.toNat_false, Nat.add_zero]
  by_cases h : d ≤ n.log2 + 2
  · rw [Nat.min_eq_left h]
  · rw [Nat.min_eq_right (by omega)]
    have h1 : n < 2 ^ (n.log2 + 1) := Nat.lt_log2_self
    have h2 : 2 ^ (n.log2 + 1) ≤ 2 ^ (n.log2 + 2) := Nat.pow_le_pow_right (by decide) (by omega)
    have h3 : 2 ^ (n.log2 + 2) ≤ 2 ^ d := Nat.pow_le_pow_right (by decide) (by omega)
    rw [Nat.div_eq_of_lt (Nat.lt_of_lt_of_le h1 h2), Nat.div_eq_of_lt (Nat.lt_of_lt_of_le h1 (Nat.le_trans h2 h3))]

theorem div_bounds (m d k : Nat) : ((m / 2 ^ d : Nat) : Int) * (2 ^ d * 2 ^ k) ≤ (m : Int) * 2 ^ k ∧ (m : Int) * 2 ^ k < (((m / 2 ^ d : Nat) : Int) + 1) * (2 ^ d * 2 ^ k) := by
  have hp : 0 < 2 ^ d := Nat.two_pow_pos d
  have h1 : m / 2 ^ d * 2 ^ d ≤ m := Nat.div_mul_le_self m (2 ^ d)
  have h2 : m < (m / 2 ^ d + 1) * 2 ^ d := by
    have := Nat.lt_div_mul_add (a := m) hp
    rw [Nat.add_mul, Nat.one_mul]; exact this
  have k0 : (0 : Int) < 2 ^ k := Int.pow_pos (by decide)
  have h1' : ((m / 2 ^ d : Nat) : Int) * 2 ^ d ≤ m := by rw [← nat_pow]; exact Int.ofNat_le.2 h1
  have h2' : (m : Int) < (((m / 2 ^ d : Nat) : Int) + 1) * 2 ^ d := by
    have : ((m / 2 ^ d + 1 : Nat) : Int) = ((m / 2 ^ d : Nat) : Int) + 1 := rfl
    rw [← this, ← nat_pow]; exact Int.ofNat_lt.2 h2
  rw [← Int.mul_assoc, ← Int.mul_assoc]
  exact ⟨Int.mul_le_mul_of_nonneg_right h1' (Int.le_of_lt k0), Int.mul_lt_mul_of_pos_right h2' k0⟩

/-- A number that is not below nought, cut towards nought. -/
theorem toInt_val {x : Nat} {v : Int} (hx : Val x v) (h0 : 0 ≤ v) : ∃ n : Nat, (double.read x).toInt .zero = some (n : Int) ∧ (n : Int) * U ≤ v ∧ v < ((n : Int) + 1) * U := by
  obtain ⟨s, m, e, h1, h2, h3⟩ := hx
  rw [h1]
  simp only [Datum.toInt, Datum.integral, shl, cut_zero]
  have hs : s = false ∨ m = 0 := by
    cases s
    · exact Or.inl rfl
    · right
      rw [signed_eq] at h3
      have hp : (0 : Int) < 2 ^ (e + 1074).toNat := Int.pow_pos (by decide)
      rcases Nat.eq_zero_or_pos m with h | h
      · exact h
      · have : (0 : Int) < (m : Int) * 2 ^ (e + 1074).toNat := Int.mul_pos (by omega) hp
        simp only [if_true] at h3
        omega
  have hv : v = (m : Int) * 2 ^ (e + 1074).toNat := by
    rw [← h3, signed_eq]
    rcases hs with h | h
    · rw [h]; simp
    · rw [h]; simp
  by_cases he : 0 ≤ e
  · refine ⟨m * 2 ^ e.toNat, ?_, ?_⟩
    · have e0 : (-e).toNat = 0 := by omega
      rw [e0, Nat.pow_zero, Nat.div_one, signed_eq]
      rcases hs with h | h
      · rw [h]; simp
      · rw [h]; simp
    · have : v = ((m * 2 ^ e.toNat : Nat) : Int) * U := by
        rw [hv, ← U_mul]; congr 2; omega
      rw [this]
      have := U_pos
      exact ⟨Int.le_refl _, Int.mul_lt_mul_of_pos_right (by omega) this⟩
  · have e0 : e.toNat = 0 := by omega
    refine ⟨m / 2 ^ (-e).toNat, ?_, ?_⟩
    · rw [e0, Nat.pow_zero, Nat.mul_one, signed_eq]
      rcases hs with h | h
      · rw [h]; simp
      · rw [h]; simp
    · rw [hv, U_split e (by omega) h2]
      exact div_bounds m (-e).toNat (e + 1074).toNat

theorem lt_of_mulU {a b : Int} (h : a * U < b * U) : a < b := Int.lt_of_mul_lt_mul_right h (Int.le_of_lt U_pos)
theorem le_of_mulU {a b : Int} (h : a * U ≤ b * U) : a ≤ b := Int.le_of_mul_le_mul_right h U_pos
theorem eq_of_mulU {a b : Int} (h : a * U = b * U) : a = b := Int.eq_of_mul_eq_mul_right (by have := U_pos; omega) h

theorem toIntVal_of {x : Nat} {v b : Int} (hx : Val x v) (h0 : 0 ≤ v) (h1 : v ≤ b * U) (hb : b < 4611686018427387904) :
    ∃ n : Int, floatToIntVal .f64 x .i64 = some n ∧ 0 ≤ n ∧ n ≤ b ∧ n * U ≤ v ∧ v < (n + 1) * U := by
  obtain ⟨n, h2, h3, h4⟩ := toInt_val hx h0
  have hn : (n : Int) ≤ b := le_of_mulU (Int.le_trans h3 h1)
  refine ⟨n, ?_, by omega, hn, h3, h4⟩
  have h5 : (FloatKind.f64.decode x).toInt .zero = some (n : Int) := h2
  have h6 : IntKind.i64.min = -9223372036854775808 := by decide
  have h7 : IntKind.i64.max = 9223372036854775807 := by decide
  unfold floatToIntVal
  rw [h5]
  simp only [h6, h7]
  rw [if_pos (by omega)]

end Go.Proofs.Ytfpgfclmmdihjaa.Flo

/- What each function of the stamp layer, and of the document's answer for it, gives. -/
namespace Go.Proofs.Ytfpgfclmmdihjaa
open Go.RowKit

def rightB (C D : Int) : Bool := decide (0 ≤ C ∧ C ≤ 1099511627776 ∧ 0 ≤ D ∧ D < 12)
theorem rightB_of {C D : Int} {b : Bool} (h : b = true ↔ (0 ≤ C ∧ C ≤ 1099511627776 ∧ 0 ≤ D ∧ D < 12)) : Value.bool b = .bool (rightB C D) := by
  unfold rightB; congr 1; rw [Bool.eq_iff_iff, h, decide_eq_true_iff]




theorem stRight_any (C D : Int) (w : World) : Calls Try.prog 102 #[.agg #[.int .i64 C, .int .i64 D]] w fun e w' => e = .returned (.bool (rightB C D)) ∧ Below w.heap.size w w' := by
  by_cases h : 0 ≤ C ∧ C ≤ 1099511627776 ∧ 0 ≤ D ∧ D < 12
  · obtain ⟨h1, h2, h3, h4⟩ := h
    go_enter Try.func102, Try.ntmps102
    go_wp2
    go_ret
    exact ⟨ret_of (rightB_of (by simp; omega)), by go_grown⟩
  · go_enter Try.func102, Try.ntmps102
    go_wp2
    all_goals go_ret
    all_goals exact ⟨ret_of (rightB_of (by simp; omega)), by go_grown⟩

theorem stRefRight_any (C D : Int) (w : World) : Calls Try.prog 56 #[.agg #[.int .i64 C, .int .i64 D]] w fun e w' => e = .returned (.bool (rightB C D)) ∧ Below w.heap.size w w' := by
  by_cases h : 0 ≤ C ∧ C ≤ 1099511627776 ∧ 0 ≤ D ∧ D < 12
  · obtain ⟨h1, h2, h3, h4⟩ := h
    go_enter Try.func56, Try.ntmps56
    go_wp2
    go_ret
    exact ⟨ret_of (rightB_of (by simp; omega)), by go_grown⟩
  · go_enter Try.func56, Try.ntmps56
    go_wp2
    all_goals go_ret
    all_goals exact ⟨ret_of (rightB_of (by simp; omega)), by go_grown⟩

/-- The number of a moment. -/
def numOf (C D : Int) : Value := .complex .f64 (floatOfInt .f64 C) (floatOfInt .f64 D)

theorem to_yes (C D : Int) (w : World) (h : rightB C D = true) : Calls Try.prog 96 #[.agg #[.int .i64 C, .int .i64 D]] w fun e w' => e = .returned (.tuple #[numOf C D, .bool true]) ∧ Below w.heap.size w w' := by
  have H := Lib.hid h
  clear h
  go_enter Try.func96, Try.ntmps96
  go_wp2_with (go_at_call 102; refine (stRight_any C D _).mono ?_; rintro e w1 ⟨rfl, hb⟩; rw [H.out]; obtain ⟨hc, hf⟩ := bcell hb)
  go_ret2
  exact ⟨rfl, below_then (below_alloc (Below.refl _ _) _) hb⟩

theorem to_no (C D : Int) (w : World) (h : rightB C D = false) : Calls Try.prog 96 #[.agg #[.int .i64 C, .int .i64 D]] w fun e w' => e = .returned (.tuple #[.complex .f64 0 0, .bool false]) ∧ Below w.heap.size w w' := by
  have H := Lib.hid h
  clear h
  go_enter Try.func96, Try.ntmps96
  go_wp2_with (go_at_call 102; refine (stRight_any C D _).mono ?_; rintro e w1 ⟨rfl, hb⟩; rw [H.out]; obtain ⟨hc, hf⟩ := bcell hb)
  go_ret2
  exact ⟨rfl, below_then (below_alloc (Below.refl _ _) _) hb⟩

/-- x is not below nought and not above m. -/
def leB (x y : Nat) : Bool := FloatKind.f64.format.order x y == some .lt || FloatKind.f64.format.order x y == some .eq
def wiB (x m : Nat) : Bool := leB 0 x && leB x m

end Go.Proofs.Ytfpgfclmmdihjaa

/- What From, Next and Before give. -/
namespace Go.Proofs.Ytfpgfclmmdihjaa
open Go.RowKit

/-- A moment of that number. -/
structure IsM (re im : Nat) (C D : Int) : Prop where
  vr : Flo.Val re (C * Flo.U)
  vi : Flo.Val im (D * Flo.U)
  ok : rightB C D = true

theorem rightB_iff {C D : Int} : rightB C D = true ↔ (0 ≤ C ∧ C ≤ 1099511627776 ∧ 0 ≤ D ∧ D < 12) := by unfold rightB; exact decide_eq_true_iff

theorem isInt_c0 : Flo.IsInt 0 0 := Flo.isInt_ofInt 0 (by decide)
theorem isInt_max : Flo.IsInt 4787326403894837248 1099511627776 := Flo.isInt_ofInt 1099511627776 (by decide)
theorem isInt_11 : Flo.IsInt 4622382067542392832 11 := Flo.isInt_ofInt 11 (by decide)
theorem isInt_12 : Flo.IsInt 4622945017495814144 12 := Flo.isInt_ofInt 12 (by decide)

theorem leB_int {x y : Nat} {a b : Int} (hx : Flo.Val x a) (hy : Flo.Val y b) : leB x y = decide (a ≤ b) := by
  have h : FloatKind.f64.format.order x y = some (compare a b) := Flo.order_val hx hy
  unfold leB
  rw [h]
  rcases Int.lt_trichotomy a b with h1 | h1 | h1
  · rw [Int.compare_eq_lt.2 h1]; simp; omega
  · rw [Int.compare_eq_eq.2 h1]; simp; omega
  · rw [Int.compare_eq_gt.2 h1]; simp; omega

theorem leB_or {x y : Nat} (h : leB x y = true) : Ieee.double.order x y = some .lt ∨ Ieee.double.order x y = some .eq := by
  unfold leB at h
  simp only [Bool.or_eq_true, beq_iff_eq] at h
  exact h

/-- A float that lies between nought and a whole number. -/
theorem wi_val {x m : Nat} {b : Int} (hm : Flo.IsInt m b) (h : wiB x m = true) : ∃ v, Flo.Val x v ∧ 0 ≤ v ∧ v ≤ b * Flo.U := by
  unfold wiB at h
  simp only [Bool.and_eq_true] at h
  obtain ⟨v, h1, h2, h3⟩ := Flo.val_of_bounds isInt_c0 hm (leB_or h.1) (leB_or h.2)
  exact ⟨v, h1, by omega, h3⟩

theorem wi_of {x m : Nat} {a b : Int} (hm : Flo.IsInt m b) (hx : Flo.Val x (a * Flo.U)) (h0 : 0 ≤ a) (h1 : a ≤ b) : wiB x m = true := by
  unfold wiB
  have hU := Flo.U_pos
  rw [leB_int isInt_c0.val hx, leB_int hx hm.val, Bool.and_eq_true, decide_eq_true_iff, decide_eq_true_iff]
  exact ⟨Int.mul_le_mul_of_nonneg_right h0 (by omega), Int.mul_le_mul_of_nonneg_right h1 (by omega)⟩

theorem order_eq {x y : Nat} {a b : Int} (hx : Flo.Val x a) (hy : Flo.Val y b) : FloatKind.f64.format.order x y = some .eq ↔ a = b := by
  have h : FloatKind.f64.format.order x y = some (compare a b) := Flo.order_val hx hy
  rw [h, Option.some.injEq]
  exact Int.compare_eq_eq

theorem trunc_exact {x : Nat} {a b : Int} (hx : Flo.Val x (a * Flo.U)) (h0 : 0 ≤ a) (h1 : a ≤ b) (hb : b < 4611686018427387904) : floatToIntVal .f64 x .i64 = some a := by
  have hU := Flo.U_pos
  obtain ⟨n, h2, _, _, h5, h6⟩ := Flo.toIntVal_of hx (Int.mul_nonneg h0 (by omega)) (Int.mul_le_mul_of_nonneg_right h1 (by omega)) hb
  have a1 := Flo.le_of_mulU h5
  have a2 := Flo.lt_of_mulU h6
  rw [h2]; congr 1; omega

theorem val_fun {x : Nat} {a b : Int} (h : Flo.Val x a) (k : Flo.Val x b) : a = b := by
  obtain ⟨s, m, e, h1, h2, h3⟩ := h
  obtain ⟨t, n, f, k1, k2, k3⟩ := k
  rw [h1] at k1
  cases k1
  rw [← h3, ← k3]

end Go.Proofs.Ytfpgfclmmdihjaa

/- What Next and Before give, and the document's answers. -/
namespace Go.Proofs.Ytfpgfclmmdihjaa
open Go.RowKit

theorem isInt_one : Flo.IsInt 4607182418800017408 1 := Flo.isInt_ofInt 1 (by decide)

theorem is_next (C D : Int) (re im : Nat) (h : rightB C D = true) (h2 : C < 1099511627776) (hs : cSumBits .add .f64 (floatOfInt .f64 C) (floatOfInt .f64 D) 4607182418800017408 0 = some (re, im)) : IsM re im (C + 1) D := by
  have hr := rightB_iff.1 h
  obtain ⟨a, a1, a2⟩ := Flo.add_int (Flo.isInt_ofInt C (by omega)) isInt_one (by omega)
  obtain ⟨b, b1, b2⟩ := Flo.add_int (Flo.isInt_ofInt D (by omega)) isInt_c0 (by omega)
  simp only [cSumBits, a1, b1, Option.bind_some, Option.some.injEq, Prod.mk.injEq] at hs
  obtain ⟨rfl, rfl⟩ := hs
  rw [Int.add_zero] at b2
  exact ⟨a2.val, b2.val, rightB_iff.2 (by omega)⟩

theorem none_next (C D : Int) (re im : Nat) (h : rightB C D = true) (h2 : ¬ C < 1099511627776) (hs : cSumBits .add .f64 (floatOfInt .f64 C) (floatOfInt .f64 D) 4607182418800017408 0 = some (re, im)) (A B : Int) : ¬ IsM re im A B := by
  have hr := rightB_iff.1 h
  obtain ⟨a, a1, a2⟩ := Flo.add_int (Flo.isInt_ofInt C (by omega)) isInt_one (by omega)
  obtain ⟨b, b1, b2⟩ := Flo.add_int (Flo.isInt_ofInt D (by omega)) isInt_c0 (by omega)
  simp only [cSumBits, a1, b1, Option.bind_some, Option.some.injEq, Prod.mk.injEq] at hs
  obtain ⟨rfl, rfl⟩ := hs
  rintro ⟨h3, h4, h5⟩
  have := Flo.eq_of_mulU (val_fun h3 a2.val)
  have := rightB_iff.1 h5
  omega

theorem has_next (C D : Int) (h : rightB C D = true) : ∃ re im, cSumBits .add .f64 (floatOfInt .f64 C) (floatOfInt .f64 D) 4607182418800017408 0 = some (re, im) := by
  have hr := rightB_iff.1 h
  obtain ⟨a, a1, a2⟩ := Flo.add_int (Flo.isInt_ofInt C (by omega)) isInt_one (by omega)
  obtain ⟨b, b1, b2⟩ := Flo.add_int (Flo.isInt_ofInt D (by omega)) isInt_c0 (by omega)
  exact ⟨a, b, by simp only [cSumBits, a1, b1, Option.bind_some]⟩

/-- The answer of Next, and the document's: some (c + 1, dev), or none. -/
def nextC (C D : Int) : Int := if rightB C D && decide (C < 1099511627776) then C + 1 else 0
def nextD (C D : Int) : Int := if rightB C D && decide (C < 1099511627776) then D else 0
def nextB (C D : Int) : Bool := rightB C D && decide (C < 1099511627776)

end Go.Proofs.Ytfpgfclmmdihjaa

/- What Before gives, and the document's answers. -/
namespace Go.Proofs.Ytfpgfclmmdihjaa
open Go.RowKit

def befB (A B C D : Int) : Bool := decide (A < C ∨ A = C ∧ B < D)
theorem befB_of {A B C D : Int} {b : Bool} (h : b = true ↔ (A < C ∨ A = C ∧ B < D)) : Value.bool b = .bool (befB A B C D) := by
  unfold befB; congr 1; rw [Bool.eq_iff_iff, h, decide_eq_true_iff]

theorem refBefore_any (A B C D : Int) (w : World) : Calls Try.prog 31 #[.agg #[.int .i64 A, .int .i64 B], .agg #[.int .i64 C, .int .i64 D]] w fun e w' => e = .returned (.bool (befB A B C D)) ∧ Below w.heap.size w w' := by
  go_enter Try.func31, Try.ntmps31
  go_wp2
  all_goals go_ret
  all_goals exact ⟨ret_of (befB_of (by simp; omega)), by go_grown⟩

/-- The walk of Before where one of the two may not be. -/
theorem before_plain1 (A B C D : Int) (w : World) (h : rightB A B = false) : Calls Try.prog 84 #[.agg #[.int .i64 A, .int .i64 B], .agg #[.int .i64 C, .int .i64 D]] w fun e w' => e = .returned (.bool (befB A B C D)) ∧ Below w.heap.size w w' := by
  have H := Lib.hid h
  clear h
  by_cases h2 : rightB C D = true
  · have H2 := Lib.hid h2
    clear h2
    go_enter Try.func84, Try.ntmps84
    go_wp2_with (first | (go_at_call 96; (with_reducible refine (to_no A B _ H.out).mono ?_); rintro e w1 ⟨rfl, hb⟩; obtain ⟨hc, hf⟩ := bcell hb; have hz : w.heap.size + 1 < w1.heap.size := (by have := hb.size; simp at this; omega); have hz0 : w.heap.size < w1.heap.size := (by omega))
                                        | (go_at_call 96; (with_reducible refine (to_yes C D _ H2.out).mono ?_); rintro e w2 ⟨rfl, hb2⟩; obtain ⟨hc2, hf2⟩ := bcell hb2; unfold numOf))
    all_goals go_ret
    all_goals exact ⟨ret_of (befB_of (by simp; omega)), below_then (below_then (by go_grown) hb) hb2⟩
  · have H2 := Lib.hid (show rightB C D = false by simpa using h2)
    clear h2
    go_enter Try.func84, Try.ntmps84
    go_wp2_with (first | (go_at_call 96; (with_reducible refine (to_no A B _ H.out).mono ?_); rintro e w1 ⟨rfl, hb⟩; obtain ⟨hc, hf⟩ := bcell hb; have hz : w.heap.size + 1 < w1.heap.size := (by have := hb.size; simp at this; omega); have hz0 : w.heap.size < w1.heap.size := (by omega))
                                        | (go_at_call 96; (with_reducible refine (to_no C D _ H2.out).mono ?_); rintro e w2 ⟨rfl, hb2⟩; obtain ⟨hc2, hf2⟩ := bcell hb2))
    all_goals go_ret
    all_goals exact ⟨ret_of (befB_of (by simp; omega)), below_then (below_then (by go_grown) hb) hb2⟩

theorem before_plain2 (A B C D : Int) (w : World) (h : rightB A B = true) (h2 : rightB C D = false) : Calls Try.prog 84 #[.agg #[.int .i64 A, .int .i64 B], .agg #[.int .i64 C, .int .i64 D]] w fun e w' => e = .returned (.bool (befB A B C D)) ∧ Below w.heap.size w w' := by
  have H := Lib.hid h
  have H2 := Lib.hid h2
  clear h h2
  go_enter Try.func84, Try.ntmps84
  go_wp2_with (first | (go_at_call 96; (with_reducible refine (to_yes A B _ H.out).mono ?_); rintro e w1 ⟨rfl, hb⟩; obtain ⟨hc, hf⟩ := bcell hb; have hz : w.heap.size + 1 < w1.heap.size := (by have := hb.size; simp at this; omega); have hz0 : w.heap.size < w1.heap.size := (by omega); unfold numOf)
                                        | (go_at_call 96; (with_reducible refine (to_no C D _ H2.out).mono ?_); rintro e w2 ⟨rfl, hb2⟩; obtain ⟨hc2, hf2⟩ := bcell hb2))
  all_goals go_ret
  all_goals exact ⟨ret_of (befB_of (by simp; omega)), below_then (below_then (by go_grown) hb) hb2⟩

theorem before_gap (A B C D : Int) (w : World) (re im : Nat) (o1 o2 : Ordering) (h : rightB A B = true) (h2 : rightB C D = true)
    (hs : cSumBits .sub .f64 (floatOfInt .f64 C) (floatOfInt .f64 D) (floatOfInt .f64 A) (floatOfInt .f64 B) = some (re, im))
    (p1 : FloatKind.f64.format.order re 0 = some o1) (p2 : FloatKind.f64.format.order im 0 = some o2) :
    Calls Try.prog 84 #[.agg #[.int .i64 A, .int .i64 B], .agg #[.int .i64 C, .int .i64 D]] w fun e w' => e = .returned (.bool (o1 == .gt || (o1 == .eq && o2 == .gt))) ∧ Below w.heap.size w w' := by
  have hop := fun t w => run_complex_sum (P := Try.prog) w .sub (Or.inr rfl) t .f64 _ _ _ _ re im hs
  have H := Lib.hid h
  have H2 := Lib.hid h2
  clear h h2 hs
  cases o1 <;> cases o2
  all_goals
    go_enter Try.func84, Try.ntmps84
    go_wp2_with (first | (go_at_call 96; (with_reducible refine (to_yes A B _ H.out).mono ?_); rintro e w1 ⟨rfl, hb⟩; obtain ⟨hc, hf⟩ := bcell hb; have hz : w.heap.size + 1 < w1.heap.size := (by have := hb.size; simp at this; omega); have hz0 : w.heap.size < w1.heap.size := (by omega); unfold numOf)
                                        | (go_at_call 96; (with_reducible refine (to_yes C D _ H2.out).mono ?_); rintro e w2 ⟨rfl, hb2⟩; obtain ⟨hc2, hf2⟩ := bcell hb2; unfold numOf))
    go_ret
    exact ⟨rfl, below_then (below_then (by go_grown) hb) hb2⟩

theorem before_any (A B C D : Int) (w : World) : Calls Try.prog 84 #[.agg #[.int .i64 A, .int .i64 B], .agg #[.int .i64 C, .int .i64 D]] w fun e w' => e = .returned (.bool (befB A B C D)) ∧ Below w.heap.size w w' := by
  by_cases h : rightB A B = true
  · by_cases h2 : rightB C D = true
    · have r1 := rightB_iff.1 h
      have r2 := rightB_iff.1 h2
      obtain ⟨a, a1, a2⟩ := Flo.sub_int (Flo.isInt_ofInt C (by omega)) (Flo.isInt_ofInt A (by omega)) (by omega)
      obtain ⟨b, b1, b2⟩ := Flo.sub_int (Flo.isInt_ofInt D (by omega)) (Flo.isInt_ofInt B (by omega)) (by omega)
      refine (before_gap A B C D w a b _ _ h h2 (by simp only [cSumBits, a1, b1, Option.bind_some]) (Flo.order_int a2 isInt_c0) (Flo.order_int b2 isInt_c0)).mono ?_
      rintro e w' ⟨rfl, hb⟩
      refine ⟨ret_of (befB_of ?_), hb⟩
      rw [Bool.or_eq_true, Bool.and_eq_true, beq_iff_eq, beq_iff_eq, beq_iff_eq, Int.compare_eq_gt, Int.compare_eq_eq, Int.compare_eq_gt]
      omega
    · exact before_plain2 A B C D w h (by simpa using h2)
  · exact before_plain1 A B C D w (by simpa using h)

end Go.Proofs.Ytfpgfclmmdihjaa

/- Names, digits and twins as lists of bytes. -/
namespace Go.Proofs.Ytfpgfclmmdihjaa.Nam
open Go.Lib (decDigits decDigits_one)

def okB (b : UInt8) : Bool := decide (33 ≤ b.toNat ∧ b.toNat ≤ 125 ∧ b.toNat ≠ 47)
/-- Is it a name? -/
def isName (l : List UInt8) : Bool := decide (1 ≤ l.length ∧ l.length ≤ 16) && l.all okB

theorem isName_len {l : List UInt8} (h : isName l = true) : 1 ≤ l.length ∧ l.length ≤ 16 := by
  unfold isName at h; simp at h; exact h.1
theorem isName_at {l : List UInt8} (h : isName l = true) (i : Nat) (hi : i < l.length) : 33 ≤ l[i].toNat ∧ l[i].toNat ≤ 125 ∧ l[i].toNat ≠ 47 := by
  unfold isName at h
  rw [Bool.and_eq_true, List.all_eq_true] at h
  exact of_decide_eq_true (h.2 l[i] (List.getElem_mem hi))
theorem isName_short {l : List UInt8} (h : ¬ (1 ≤ l.length ∧ l.length ≤ 16)) : isName l = false := by
  unfold isName; rw [decide_eq_false h]; rfl
theorem isName_bad {l : List UInt8} (i : Nat) (hi : i < l.length) (h : ¬ (33 ≤ l[i].toNat ∧ l[i].toNat ≤ 125 ∧ l[i].toNat ≠ 47)) : isName l = false := by
  cases e : isName l
  · rfl
  · exact absurd (isName_at e i hi) h
theorem isName_of {l : List UInt8} (h1 : 1 ≤ l.length ∧ l.length ≤ 16) (h2 : ∀ b ∈ l, okB b = true) : isName l = true := by
  unfold isName; rw [decide_eq_true h1, List.all_eq_true.2 h2]; rfl

/-- Where the first mark stands, or the length. -/
def endOf : List UInt8 → Nat
  | [] => 0
  | b :: t => if b.toNat = 126 then 0 else endOf t + 1

theorem endOf_le : ∀ l, endOf l ≤ l.length
  | [] => Nat.le_refl _
  | b :: t => by
    rw [endOf]; split
    · exact Nat.zero_le _
    · have := endOf_le t; rw [List.length_cons]; omega
theorem endOf_before : ∀ (l : List UInt8) (i : Nat) (h : i < l.length), i < endOf l → l[i].toNat ≠ 126
  | [], i, h, _ => absurd h (by simp)
  | b :: t, i, h, hi => by
    rw [endOf] at hi
    by_cases hb : b.toNat = 126
    · rw [if_pos hb] at hi; omega
    · rw [if_neg hb] at hi
      cases i with
      | zero => exact hb
      | succ i => exact endOf_before t i (by simpa using h) (by omega)
theorem endOf_at : ∀ (l : List UInt8) (h : endOf l < l.length), l[endOf l].toNat = 126
  | [], h => absurd h (by simp)
  | b :: t, h => by
    by_cases hb : b.toNat = 126
    · have e : endOf (b :: t) = 0 := by rw [endOf, if_pos hb]
      simp [e, hb]
    · have e : endOf (b :: t) = endOf t + 1 := by rw [endOf, if_neg hb]
      have h2 : endOf t < t.length := by rw [e] at h; simpa using h
      have := endOf_at t h2
      simp [e, this]
theorem endOf_app : ∀ (a t : List UInt8), (∀ i (h : i < a.length), a[i].toNat ≠ 126) → endOf (a ++ (126 : UInt8) :: t) = a.length
  | [], t, _ => by
    show endOf ((126 : UInt8) :: t) = 0
    rw [endOf]; rfl
  | b :: a, t, h => by
    have hb : b.toNat ≠ 126 := h 0 (by simp)
    rw [List.cons_append, endOf, if_neg hb, endOf_app a t (fun i hi => h (i + 1) (by simpa using hi))]; rfl
theorem endOf_none : ∀ (a : List UInt8), (∀ i (h : i < a.length), a[i].toNat ≠ 126) → endOf a = a.length
  | [], _ => rfl
  | b :: a, h => by
    have hb : b.toNat ≠ 126 := h 0 (by simp)
    rw [endOf, if_neg hb, endOf_none a (fun i hi => h (i + 1) (by simpa using hi))]; rfl

def isDig (b : UInt8) : Bool := decide (48 ≤ b.toNat ∧ b.toNat ≤ 57)
/-- The number of digits. -/
def val (l : List UInt8) : Nat := l.foldl (fun n b => 10 * n + (b.toNat - 48)) 0

theorem val_snoc (l : List UInt8) (b : UInt8) : val (l ++ [b]) = 10 * val l + (b.toNat - 48) := by unfold val; simp
theorem foldl_ge : ∀ (l : List UInt8) (n : Nat), n ≤ l.foldl (fun n b => 10 * n + (b.toNat - 48)) n
  | [], n => Nat.le_refl _
  | b :: t, n => by
    rw [List.foldl_cons]
    have := foldl_ge t (10 * n + (b.toNat - 48))
    omega
theorem val_app (a b : List UInt8) : val a ≤ val (a ++ b) := by
  unfold val; rw [List.foldl_append]; exact foldl_ge b _
theorem val_take (l : List UInt8) (k : Nat) : val (l.take k) ≤ val l := by
  have h := val_app (l.take k) (l.drop k)
  rwa [List.take_append_drop] at h
theorem take_next (l : List UInt8) (k : Nat) (h : k < l.length) : l.take (k + 1) = l.take k ++ [l[k]] := by
  rw [List.take_succ_eq_append_getElem h]
theorem val_next (l : List UInt8) (k : Nat) (h : k < l.length) : val (l.take (k + 1)) = 10 * val (l.take k) + (l[k].toNat - 48) := by
  rw [take_next l k h, val_snoc]

theorem dec_dig (n : Nat) : ∀ b ∈ decDigits n, isDig b = true := by
  induction n using Nat.strongRecOn with
  | _ n ih =>
    intro b hb
    by_cases h : n < 10
    · rw [decDigits_one h] at hb
      obtain rfl := List.mem_singleton.1 hb
      unfold isDig
      rw [UInt8.toNat_ofNat']
      exact decide_eq_true (by omega)
    · rw [decDigits, dif_neg h] at hb
      rcases List.mem_append.1 hb with h1 | h1
      · exact ih (n / 10) (by omega) b h1
      · obtain rfl := List.mem_singleton.1 h1
        unfold isDig
        rw [UInt8.toNat_ofNat']
        exact decide_eq_true (by omega)
theorem val_dec (n : Nat) : val (decDigits n) = n := by
  induction n using Nat.strongRecOn with
  | _ n ih =>
    by_cases h : n < 10
    · rw [decDigits_one h]
      show 10 * 0 + ((UInt8.ofNat (48 + n)).toNat - 48) = n
      rw [UInt8.toNat_ofNat']; omega
    · rw [decDigits, dif_neg h, val_snoc, ih (n / 10) (by omega), UInt8.toNat_ofNat']; omega
theorem dec_ne (n : Nat) : 1 ≤ (decDigits n).length := by
  by_cases h : n < 10
  · rw [decDigits_one h]; simp
  · rw [decDigits, dif_neg h]; simp
theorem dec_inj {a b : Nat} (h : decDigits a = decDigits b) : a = b := by rw [← val_dec a, h, val_dec]
/-- No number but 0 begins with 0. -/
theorem dec_head (n : Nat) : 0 < n → ∀ b t, decDigits n = b :: t → b.toNat ≠ 48 := by
  induction n using Nat.strongRecOn with
  | _ n ih =>
    intro hn b t e
    by_cases h : n < 10
    · rw [decDigits_one h] at e
      obtain ⟨rfl, _⟩ := List.cons.inj e
      rw [UInt8.toNat_ofNat']; omega
    · rw [decDigits, dif_neg h] at e
      cases e1 : decDigits (n / 10) with
      | nil => have := dec_ne (n / 10); rw [e1] at this; simp at this
      | cons c u =>
        rw [e1, List.cons_append] at e
        obtain ⟨rfl, _⟩ := List.cons.inj e
        exact ih (n / 10) (by omega) (by omega) _ _ e1
theorem val_pos {b : UInt8} {t : List UInt8} (h : 48 < b.toNat) : 0 < val (b :: t) := by
  unfold val
  rw [List.foldl_cons]
  have := foldl_ge t (10 * 0 + (b.toNat - 48))
  omega
theorem dec_ten (v d : Nat) (hv : 0 < v) (hd : d < 10) : decDigits (10 * v + d) = decDigits v ++ [UInt8.ofNat (48 + d)] := by
  rw [decDigits, dif_neg (by omega), show (10 * v + d) / 10 = v by omega, show (10 * v + d) % 10 = d by omega]
theorem rev_rec {P : List UInt8 → Prop} (h0 : P []) (h1 : ∀ l b, P l → P (l ++ [b])) (l : List UInt8) : P l := by
  have key : ∀ m : List UInt8, P m.reverse := by
    intro m
    induction m with
    | nil => exact h0
    | cons b m ih => rw [List.reverse_cons]; exact h1 _ _ ih
  have := key l.reverse
  rwa [List.reverse_reverse] at this
/-- Digits without a 0 ahead are those of their number. -/
theorem dec_val (l : List UInt8) : l ≠ [] → (∀ b ∈ l, isDig b = true) → (∀ b t, l = b :: t → t ≠ [] → b.toNat ≠ 48) → decDigits (val l) = l := by
  refine rev_rec (P := fun l => l ≠ [] → (∀ b ∈ l, isDig b = true) → (∀ b t, l = b :: t → t ≠ [] → b.toNat ≠ 48) → decDigits (val l) = l) (fun h => absurd rfl h) (fun l b ih _ hd h0 => ?_) l
  have hb : 48 ≤ b.toNat ∧ b.toNat ≤ 57 := of_decide_eq_true (hd b (by simp))
  have eb : UInt8.ofNat (48 + (b.toNat - 48)) = b := by rw [show 48 + (b.toNat - 48) = b.toNat by omega, UInt8.ofNat_toNat]
  rw [val_snoc]
  cases l with
  | nil =>
    show decDigits (10 * 0 + (b.toNat - 48)) = [b]
    rw [decDigits_one (by omega), show 10 * 0 + (b.toNat - 48) = b.toNat - 48 by omega, eb]
  | cons c t =>
    have hc : c.toNat ≠ 48 := h0 c (t ++ [b]) rfl (by simp)
    have hc2 : 48 ≤ c.toNat ∧ c.toNat ≤ 57 := of_decide_eq_true (hd c (by simp))
    have hv : 0 < val (c :: t) := val_pos (by omega)
    rw [dec_ten _ _ hv (by omega), eb, ih (by simp) (fun x hx => hd x (by simp at hx ⊢; rcases hx with h | h <;> simp [h])) (fun x u e _ => by obtain ⟨rfl, _⟩ := List.cons.inj e; exact hc)]

/-- The node, below 64, whose digits a text is. -/
def node (l : List UInt8) : Option Nat := if l.all isDig = true ∧ val l < 64 ∧ decDigits (val l) = l then some (val l) else none

theorem node_some {l : List UInt8} {n : Nat} (h : node l = some n) : n < 64 ∧ decDigits n = l := by
  unfold node at h
  split at h
  · rename_i k
    obtain rfl := Option.some.inj h
    exact k.2
  · cases h
theorem node_dec {n : Nat} (h : n < 64) : node (decDigits n) = some n := by
  unfold node
  rw [if_pos ⟨List.all_eq_true.2 (dec_dig n), by rw [val_dec]; exact h, by rw [val_dec]⟩, val_dec]
theorem node_none_of {l : List UInt8} (h : ∀ n, n < 64 → decDigits n = l → False) : node l = none := by
  cases e : node l with
  | none => rfl
  | some n => exact (h n (node_some e).1 (node_some e).2).elim
theorem node_no_dig {l : List UInt8} (i : Nat) (hi : i < l.length) (h : ¬ (48 ≤ l[i].toNat ∧ l[i].toNat ≤ 57)) : node l = none :=
  node_none_of fun n _ e => by subst e; exact h (of_decide_eq_true (dec_dig n _ (List.getElem_mem hi)))
theorem node_no_big {l : List UInt8} (i : Nat) (h : 64 ≤ val (l.take i)) : node l = none :=
  node_none_of fun n hn e => by subst e; have := val_take (decDigits n) i; rw [val_dec] at this; omega
theorem node_no_zero {l : List UInt8} (h1 : 1 < l.length) (h : l[0].toNat = 48) : node l = none :=
  node_none_of fun n hn e => by
    subst e
    by_cases h0 : n < 10
    · rw [decDigits_one h0] at h1; simp at h1
    · cases e1 : decDigits n with
      | nil => rw [e1] at h1; simp at h1
      | cons c t =>
        have := dec_head n (by omega) c t e1
        simp [e1] at h
        exact this h
theorem node_no_nil {l : List UInt8} (h : l.length = 0) : node l = none :=
  node_none_of fun n _ e => by have := dec_ne n; rw [e] at this; omega
theorem node_yes {l : List UInt8} (h1 : 0 < l.length) (h2 : ∀ b ∈ l, isDig b = true) (h3 : val l < 64) (h4 : 1 < l.length → l[0].toNat ≠ 48) : node l = some (val l) := by
  have h0 : ∀ b t, l = b :: t → t ≠ [] → b.toNat ≠ 48 := by
    intro b t e ht
    subst e
    have := h4 (by cases t with | nil => exact absurd rfl ht | cons _ _ => simp)
    simpa using this
  unfold node
  rw [if_pos ⟨List.all_eq_true.2 h2, h3, dec_val l (by intro e; simp [e] at h1) h2 h0⟩]

/-- What a shown name says: a name, and no number; or a name and its number. -/
def says (l : List UInt8) : Option (List UInt8 × Option Nat) :=
  if isName (l.take (endOf l)) = true then
    if endOf l = l.length then some (l, none) else (node (l.drop (endOf l + 1))).map fun n => (l.take (endOf l), some n)
  else none

/-- A twin's shown name. -/
def twin (l : List UInt8) (n : Nat) : List UInt8 := l ++ (126 : UInt8) :: decDigits n

theorem name_no_mark {l : List UInt8} (h : isName l = true) (i : Nat) (hi : i < l.length) : l[i].toNat ≠ 126 := by
  have := isName_at h i hi; omega
theorem says_twin {l : List UInt8} {n : Nat} (h : isName l = true) (hn : n < 64) : says (twin l n) = some (l, some n) := by
  have he : endOf (twin l n) = l.length := endOf_app l (decDigits n) (name_no_mark h)
  have ht : (twin l n).take l.length = l := by unfold twin; simp
  have hd : (twin l n).drop (l.length + 1) = decDigits n := by unfold twin; simp
  have hne : ¬ l.length = (twin l n).length := by unfold twin; simp
  unfold says
  rw [he, ht, if_pos h, if_neg hne, hd, node_dec hn]; rfl
theorem says_name {l : List UInt8} (h : isName l = true) : says l = some (l, none) := by
  have he := endOf_none l (name_no_mark h)
  unfold says
  rw [he, List.take_length, if_pos h, if_pos rfl]
theorem twin_no_name {l : List UInt8} {n : Nat} : isName (twin l n) = false := by
  refine isName_bad l.length (by unfold twin; simp) ?_
  simp [twin]
theorem twin_inj {a b : List UInt8} {m n : Nat} (ha : isName a = true) (hb : isName b = true) (hm : m < 64) (hn : n < 64) (h : twin a m = twin b n) : a = b ∧ m = n := by
  have h1 := says_twin ha hm
  rw [h, says_twin hb hn] at h1
  have h2 := Option.some.inj h1
  exact ⟨(Prod.mk.inj h2).1.symm, (Option.some.inj (Prod.mk.inj h2).2).symm⟩
theorem split_at {l : List UInt8} (h : endOf l < l.length) : l = l.take (endOf l) ++ (126 : UInt8) :: l.drop (endOf l + 1) := by
  have e : l[endOf l] = (126 : UInt8) := UInt8.toNat_inj.1 (endOf_at l h)
  calc l = l.take (endOf l) ++ l.drop (endOf l) := (List.take_append_drop _ _).symm
    _ = _ := by rw [List.drop_eq_getElem_cons h, e]
theorem says_none_name {l : List UInt8} (h : says l = none) : isName l = false := by
  cases e : isName l
  · rfl
  · rw [says_name e] at h; cases h
theorem says_some {l t : List UInt8} {o : Option Nat} (h : says l = some (t, o)) : isName t = true ∧ (o = none ∧ t = l ∨ ∃ n, o = some n ∧ n < 64 ∧ twin t n = l) := by
  unfold says at h
  split at h
  · rename_i h1
    split at h
    · rename_i h2
      obtain ⟨rfl, rfl⟩ := Prod.mk.inj (Option.some.inj h)
      rw [h2, List.take_length] at h1
      exact ⟨h1, Or.inl ⟨rfl, rfl⟩⟩
    · rename_i h2
      obtain ⟨n, h3, h4⟩ := Option.map_eq_some_iff.1 h
      obtain ⟨rfl, rfl⟩ := Prod.mk.inj h4
      obtain ⟨h5, h6⟩ := node_some h3
      refine ⟨h1, Or.inr ⟨n, rfl, h5, ?_⟩⟩
      unfold twin
      rw [h6]
      have := endOf_le l
      exact (split_at (by omega)).symm
  · cases h

end Go.Proofs.Ytfpgfclmmdihjaa.Nam

/- What Right gives, of the program and of the document. -/
namespace Go.Proofs.Ytfpgfclmmdihjaa
open Go.RowKit Nam




theorem name_bad {s : ByteArray} (i : Nat) (hi : i < s.size) (h : ¬ (33 ≤ s[i].toNat ∧ s[i].toNat ≤ 125 ∧ s[i].toNat ≠ 47)) : isName (L s) = false :=
  isName_bad i (by rw [L_len]; exact hi) h
theorem name_short {s : ByteArray} (h : ¬ (1 ≤ s.size ∧ s.size ≤ 16)) : isName (L s) = false := isName_short (by rw [L_len]; exact h)
theorem name_of {s : ByteArray} (h1 : 1 ≤ s.size ∧ s.size ≤ 16) (h2 : ∀ i (h : i < s.size), 33 ≤ s[i].toNat ∧ s[i].toNat ≤ 125 ∧ s[i].toNat ≠ 47) : isName (L s) = true := by
  refine isName_of (by rw [L_len]; exact h1) fun b hb => ?_
  obtain ⟨i, hi, rfl⟩ := List.getElem_of_mem hb
  rw [L_len] at hi
  exact decide_eq_true (h2 i hi)

def good (s : ByteArray) (k : Nat) : Prop := ∀ i (h : i < s.size), i < k → 33 ≤ s[i].toNat ∧ s[i].toNat ≤ 125 ∧ s[i].toNat ≠ 47
theorem good_next {s : ByteArray} {k : Nat} (h : good s k) (hk : k < s.size) (hb : 33 ≤ s[k].toNat ∧ s[k].toNat ≤ 125 ∧ s[k].toNat ≠ 47) : good s (k + 1) := by
  intro i hi hik
  by_cases e : i = k
  · subst e; exact hb
  · exact h i hi (by omega)

set_option maxHeartbeats 1000000 in
theorem nmRight_any (s : ByteArray) (w : World) (hs : s.size ≤ 9223372036854775807) : Calls Try.prog 95 #[.string s] w fun e w' => e = .returned (.bool (isName (L s))) ∧ w = w' := by
  by_cases h0 : s.size = 0
  · have HN := Lib.hid (name_short (s := s) (by omega))
    go_enter Try.func95, Try.ntmps95
    go_wp2
    go_ret
    exact ⟨ret_bool HN.out, rfl⟩
  · have he : ((s.size : Int) == 0) = false := by simp [h0]
    by_cases h16 : 16 < s.size
    · have HN := Lib.hid (name_short (s := s) (by omega))
      go_enter Try.func95, Try.ntmps95
      go_wp2
      go_ret
      exact ⟨ret_bool HN.out, rfl⟩
    · have hd : decide (16 < (s.size : Int)) = false := decide_eq_false (by omega)
      go_enter Try.func95, Try.ntmps95
      go_wp2
      go_loop [14] (fun i => ∃ k : Nat, k ≤ s.size ∧ i = .int .i64 k ∧ Hid (good s k)) (fun i => s.size - (intOf i).toNat)
      case atStart => exact ⟨0, Nat.zero_le _, rfl, fun i _ h => absurd h (by omega)⟩
      case round =>
        obtain ⟨k, hk, rfl, hg⟩ := hrel
        by_cases hlt : k < s.size
        · by_cases hb : 33 ≤ s[k].toNat ∧ s[k].toNat ≤ 125 ∧ s[k].toNat ≠ 47
          · have HG := Lib.hid (good_next hg.out hlt hb)
            obtain ⟨hb1, hb2, hb3⟩ := hb
            have hb4 : ((s[k].toNat : Int) == 47) = false := by simp; omega
            go_wp2
            go_round
            case rel => exact ⟨k + 1, by omega, by go_num, HG.out⟩
            case measure => simp [intOf]; omega
          · have HN := Lib.hid (name_bad k hlt hb)
            by_cases hb1 : s[k].toNat < 33
            · clear hb
              go_wp2
              go_ret
              exact ⟨ret_bool HN.out, rfl⟩
            · by_cases hb2 : 125 < s[k].toNat
              · clear hb
                go_wp2
                go_ret
                exact ⟨ret_bool HN.out, rfl⟩
              · have hb3 : ((s[k].toNat : Int) == 47) = true := by simp; omega
                clear hb
                go_wp2
                go_ret
                exact ⟨ret_bool HN.out, rfl⟩
        · obtain rfl : k = s.size := by omega
          have HN := Lib.hid (name_of (s := s) (by omega) (fun i h => hg.out i h h))
          go_wp2
          go_ret
          exact ⟨ret_bool HN.out, rfl⟩

set_option maxHeartbeats 1000000 in
theorem nmRefRight_any (s : ByteArray) (w : World) (hs : s.size ≤ 9223372036854775807) : Calls Try.prog 54 #[.string s] w fun e w' => e = .returned (.bool (isName (L s))) ∧ w = w' := by
  go_enter Try.func54, Try.ntmps54
  go_wp2
  go_loop [3] (fun i => ∃ k : Nat, k ≤ s.size ∧ i = .int .i64 k ∧ Hid (good s k)) (fun i => s.size - (intOf i).toNat)
  case atStart => exact ⟨0, Nat.zero_le _, rfl, fun i _ h => absurd h (by omega)⟩
  case round =>
    obtain ⟨k, hk, rfl, hg⟩ := hrel
    by_cases hlt : k < s.size
    · by_cases hb : 33 ≤ s[k].toNat ∧ s[k].toNat ≤ 125 ∧ s[k].toNat ≠ 47
      · have HG := Lib.hid (good_next hg.out hlt hb)
        obtain ⟨hb1, hb2, hb3⟩ := hb
        have hb4 : ((s[k].toNat : Int) == 47) = false := by simp; omega
        go_wp2
        go_round
        case rel => exact ⟨k + 1, by omega, by go_num, HG.out⟩
        case measure => simp [intOf]; omega
      · have HN := Lib.hid (name_bad k hlt hb)
        by_cases hb1 : s[k].toNat < 33
        · clear hb
          go_wp2
          go_ret
          exact ⟨ret_bool HN.out, rfl⟩
        · by_cases hb2 : 125 < s[k].toNat
          · clear hb
            go_wp2
            go_ret
            exact ⟨ret_bool HN.out, rfl⟩
          · have hb3 : ((s[k].toNat : Int) == 47) = true := by simp; omega
            clear hb
            go_wp2
            go_ret
            exact ⟨ret_bool HN.out, rfl⟩
    · obtain rfl : k = s.size := by omega
      by_cases h0 : s.size = 0
      · have HN := Lib.hid (name_short (s := s) (by omega))
        go_wp2
        go_ret
        exact ⟨ret_bool HN.out, rfl⟩
      · by_cases h16 : 16 < s.size
        · have HN := Lib.hid (name_short (s := s) (by omega))
          go_wp2
          go_ret
          exact ⟨ret_bool (HN.out.trans (decide_eq_false (by omega)).symm), rfl⟩
        · have HN := Lib.hid (name_of (s := s) (by omega) (fun i h => hg.out i h h))
          go_wp2
          go_ret
          exact ⟨ret_bool (HN.out.trans (decide_eq_true (by omega)).symm), rfl⟩

end Go.Proofs.Ytfpgfclmmdihjaa

/- What Right gives, of the program and of the document: layer op. -/
namespace Go.Proofs.Ytfpgfclmmdihjaa
open Go.RowKit Nam

def atB (C D : Int) : Bool := decide (1 ≤ C ∧ C ≤ 1099511627776 ∧ 0 ≤ D ∧ D < 12)
def cntB (n : Int) : Bool := decide (1 ≤ n ∧ n ≤ 1099511627776)
def mvB (K U : Int) : Bool := decide (2 ≤ K ∧ K < 64 ∧ 0 ≤ U ∧ U < 64 ∧ K ≠ U)
def opB (C D I M K U : Int) (s : ByteArray) : Bool := atB C D && (cntB I && (cntB M && (mvB K U && isName (L s))))
theorem bool_of {p : Prop} [Decidable p] {b : Bool} (h : b = true ↔ p) : Value.bool b = .bool (decide p) := by
  congr 1; rw [Bool.eq_iff_iff, h, decide_eq_true_iff]
theorem atB_right {C D : Int} (h : rightB C D = true) : atB C D = decide (1 ≤ C) := by
  have := rightB_iff.1 h
  unfold atB; rw [Bool.eq_iff_iff, decide_eq_true_iff, decide_eq_true_iff]; omega
theorem atB_wrong {C D : Int} (h : rightB C D = false) : atB C D = false := by
  unfold rightB at h; unfold atB; rw [decide_eq_false_iff_not] at h ⊢; omega

theorem rightAt_any (C D : Int) (w : World) : Calls Try.prog 92 #[.agg #[.int .i64 C, .int .i64 D]] w fun e w' => e = .returned (.bool (atB C D)) ∧ Below w.heap.size w w' := by
  have c := fun w => stRight_any C D w
  cases h : rightB C D
  · have HA := Lib.hid (atB_wrong h)
    rw [h] at c
    have H := Lib.hid c
    clear c h
    go_enter Try.func92, Try.ntmps92
    go_wp2_with (go_at_call 102; (with_reducible refine (H.out _).mono ?_); rintro e w1 ⟨rfl, hb⟩; obtain ⟨hc, hf⟩ := bcell hb)
    go_ret
    exact ⟨ret_bool HA.out, below_then (below_alloc (Below.refl _ _) _) hb⟩
  · have HA := Lib.hid (atB_right h)
    rw [h] at c
    have H := Lib.hid c
    clear c h
    go_enter Try.func92, Try.ntmps92
    go_wp2_with (go_at_call 102; (with_reducible refine (H.out _).mono ?_); rintro e w1 ⟨rfl, hb⟩; obtain ⟨hc, hf⟩ := bcell hb)
    go_ret
    exact ⟨ret_bool HA.out, below_then (below_alloc (Below.refl _ _) _) hb⟩

theorem rightCount_any (n : Int) (w : World) : Calls Try.prog 93 #[.int .i64 n] w fun e w' => e = .returned (.bool (cntB n)) ∧ w = w' := by
  go_enter Try.func93, Try.ntmps93
  go_wp2
  all_goals go_ret
  all_goals exact ⟨ret_of (bool_of (by simp; omega)), rfl⟩

theorem rightMove_any (K U : Int) (w : World) : Calls Try.prog 94 #[.int .i64 K, .int .i64 U] w fun e w' => e = .returned (.bool (mvB K U)) ∧ w = w' := by
  go_enter Try.func94, Try.ntmps94
  go_wp2
  all_goals go_ret
  all_goals exact ⟨ret_of (bool_of (by simp; omega)), rfl⟩

set_option maxHeartbeats 2000000 in
theorem opRight_any (C D I M K U : Int) (s : ByteArray) (w : World) (hs : s.size ≤ 9223372036854775807) :
    Calls Try.prog 83 #[.agg #[.int .i64 C, .int .i64 D, .int .i64 I, .int .i64 M, .int .i64 K, .int .i64 U, .string s]] w fun e w' => e = .returned (.bool (opB C D I M K U s)) ∧ Below w.heap.size w w' := by
  have c1 := fun w => rightAt_any C D w
  have c2 := fun w => rightCount_any I w
  have c3 := fun w => rightCount_any M w
  have c4 := fun w => rightMove_any K U w
  have H5 := Lib.hid (fun w => nmRight_any s w hs)
  unfold opB
  generalize atB C D = a at *
  generalize cntB I = b at *
  generalize cntB M = c at *
  generalize mvB K U = d at *
  have H1 := Lib.hid c1
  have H2 := Lib.hid c2
  have H3 := Lib.hid c3
  have H4 := Lib.hid c4
  clear c1 c2 c3 c4
  generalize isName (L s) = x at *
  rcases a with _ | _
  rotate_left
  rcases b with _ | _
  rotate_left
  rcases c with _ | _
  rotate_left
  rcases d with _ | _
  all_goals
    go_enter Try.func83, Try.ntmps83
    go_wp2_with (first | (go_at_call 92; (with_reducible refine (H1.out _).mono ?_); rintro e w1 ⟨rfl, hb⟩; obtain ⟨hc, hf⟩ := bcell hb) | (go_at_call 93; (with_reducible refine (H2.out _).mono ?_); rintro e w2 ⟨rfl, rfl⟩) | (go_at_call 93; (with_reducible refine (H3.out _).mono ?_); rintro e w2 ⟨rfl, rfl⟩) | (go_at_call 94; (with_reducible refine (H4.out _).mono ?_); rintro e w2 ⟨rfl, rfl⟩) | (go_at_call 95; (with_reducible refine (H5.out _).mono ?_); rintro e w2 ⟨rfl, rfl⟩))
    go_ret
    exact ⟨by simp, below_then (below_alloc (Below.refl _ _) _) hb⟩

theorem opB_wrong {C D I M K U : Int} {s : ByteArray} (h : rightB C D = false) : opB C D I M K U s = false := by
  unfold opB; rw [atB_wrong h]; rfl
theorem opB_out {C D I M K U : Int} {s : ByteArray} (h : ¬ (1 ≤ C ∧ 1 ≤ I ∧ I ≤ 1099511627776 ∧ 1 ≤ M ∧ M ≤ 1099511627776 ∧ 2 ≤ K ∧ K < 64 ∧ 0 ≤ U ∧ U < 64 ∧ K ≠ U)) : opB C D I M K U s = false := by
  unfold opB atB cntB mvB
  rw [Bool.eq_false_iff]; intro e
  simp only [Bool.and_eq_true, decide_eq_true_iff] at e
  omega
theorem opB_in {C D I M K U : Int} {s : ByteArray} (h0 : rightB C D = true) (h : 1 ≤ C ∧ 1 ≤ I ∧ I ≤ 1099511627776 ∧ 1 ≤ M ∧ M ≤ 1099511627776 ∧ 2 ≤ K ∧ K < 64 ∧ 0 ≤ U ∧ U < 64 ∧ K ≠ U) : opB C D I M K U s = isName (L s) := by
  have h0 := rightB_iff.1 h0
  unfold opB atB cntB mvB
  rw [decide_eq_true (by omega), decide_eq_true (by omega), decide_eq_true (by omega), decide_eq_true (by omega)]; simp

set_option maxHeartbeats 4000000 in
theorem opRefRight_any (C D I M K U : Int) (s : ByteArray) (w : World) (hs : s.size ≤ 9223372036854775807) :
    Calls Try.prog 30 #[.agg #[.int .i64 C, .int .i64 D, .int .i64 I, .int .i64 M, .int .i64 K, .int .i64 U, .string s]] w fun e w' => e = .returned (.bool (opB C D I M K U s)) ∧ Below w.heap.size w w' := by
  have c1 := fun w => stRefRight_any C D w
  have H5 := Lib.hid (fun w => nmRefRight_any s w hs)
  cases h0 : rightB C D
  · have HB := Lib.hid (opB_wrong (I := I) (M := M) (K := K) (U := U) (s := s) h0)
    rw [h0] at c1
    have H1 := Lib.hid c1
    clear c1 h0
    go_enter Try.func30, Try.ntmps30
    go_wp2_with (first | (go_at_call 56; (with_reducible refine (H1.out _).mono ?_); rintro e w1 ⟨rfl, hb⟩; obtain ⟨hc, hf⟩ := bcell hb))
    go_ret
    exact ⟨ret_bool HB.out, below_then (below_alloc (Below.refl _ _) _) hb⟩
  · have HB := Lib.hid (fun h => opB_in (I := I) (M := M) (K := K) (U := U) (s := s) h0 h)
    rw [h0] at c1
    have H1 := Lib.hid c1
    clear c1 h0
    by_cases hin : 1 ≤ C ∧ 1 ≤ I ∧ I ≤ 1099511627776 ∧ 1 ≤ M ∧ M ≤ 1099511627776 ∧ 2 ≤ K ∧ K < 64 ∧ 0 ≤ U ∧ U < 64 ∧ K ≠ U
    · have HB := Lib.hid (HB.out hin)
      generalize isName (L s) = x at *
      obtain ⟨h1, h2, h3, h4, h5, h6, h7, h8, h9, h10⟩ := hin
      have h10' : ¬ U = K := fun e => h10 e.symm
      go_enter Try.func30, Try.ntmps30
      go_wp2_with (first | (go_at_call 56; (with_reducible refine (H1.out _).mono ?_); rintro e w1 ⟨rfl, hb⟩; obtain ⟨hc, hf⟩ := bcell hb) | (go_at_call 54; (with_reducible refine (H5.out _).mono ?_); rintro e w2 ⟨rfl, rfl⟩))
      go_ret
      exact ⟨ret_bool (by rw [show (U != K) = true by simpa using h10', Bool.true_and]; exact HB.out), below_then (below_alloc (Below.refl _ _) _) hb⟩
    · have HO := Lib.hid (opB_out (s := s) (D := D) hin)
      have HI := Lib.hid hin
      clear hin
      go_enter Try.func30, Try.ntmps30
      go_wp2_with (first | (go_at_call 56; (with_reducible refine (H1.out _).mono ?_); rintro e w1 ⟨rfl, hb⟩; obtain ⟨hc, hf⟩ := bcell hb) | (go_at_call 54; (with_reducible refine (H5.out _).mono ?_); rintro e w2 ⟨rfl, rfl⟩))
      all_goals go_ret
      all_goals first | exact ⟨ret_bool HO.out, below_then (below_alloc (Below.refl _ _) _) hb⟩ | (have hi := HI.out; have e : (U != K) = false := (by simp; omega); exact ⟨ret_bool (by rw [e]; exact HO.out), below_then (below_alloc (Below.refl _ _) _) hb⟩)
end Go.Proofs.Ytfpgfclmmdihjaa

/- Numbers as bytes: what is written is read, and what is read was written so. -/
namespace Go.Proofs.Ytfpgfclmmdihjaa.Cod

/-- The bytes of u: seven bits each, the lowest first. -/
def enc (u : Nat) : List UInt8 := if u < 128 then [UInt8.ofNat u] else UInt8.ofNat (u % 128 + 128) :: enc (u / 128)
termination_by u
decreasing_by omega

theorem enc_small {u : Nat} (h : u < 128) : enc u = [UInt8.ofNat u] := by rw [enc, if_pos h]
theorem enc_big {u : Nat} (h : 128 ≤ u) : enc u = UInt8.ofNat (u % 128 + 128) :: enc (u / 128) := by rw [enc, if_neg (by omega)]

theorem enc_pos (u : Nat) : 1 ≤ (enc u).length := by
  by_cases h : u < 128
  · rw [enc_small h]; simp
  · rw [enc_big (by omega)]; simp

theorem enc_len (m : Nat) : ∀ u, u < 128 ^ (m + 1) → (enc u).length ≤ m + 1 := by
  induction m with
  | zero => intro u h; rw [enc_small (by simpa using h)]; simp
  | succ m ih =>
    intro u h
    by_cases hu : u < 128
    · rw [enc_small hu]; simp
    · rw [enc_big (by omega), List.length_cons]
      have := ih (u / 128) (by rw [Nat.pow_succ] at h; omega)
      omega

theorem enc_ten (u : Nat) (h : u < 18446744073709551616) : (enc u).length ≤ 10 := enc_len 9 u (by omega)

theorem enc_mono (a : Nat) : ∀ b, a ≤ b → (enc a).length ≤ (enc b).length := by
  induction a using Nat.strongRecOn with
  | _ a ih =>
    intro b h
    by_cases ha : a < 128
    · rw [enc_small ha]; exact enc_pos b
    · rw [enc_big (by omega), enc_big (u := b) (by omega), List.length_cons, List.length_cons]
      have := ih (a / 128) (by omega) (b / 128) (by omega)
      omega

/-- The number that a list begins with: k bytes of it came already, and are u. -/
def num : List UInt8 → Nat → Nat → Option (Nat × Nat)
  | [], _, _ => none
  | b :: t, k, u =>
    if k = 9 ∧ 1 < b.toNat then none
    else if 128 ≤ b.toNat then num t (k + 1) (u + 2 ^ (7 * k) * (b.toNat % 128))
    else if b.toNat = 0 ∧ 0 < k then none
    else some (u + 2 ^ (7 * k) * b.toNat, k + 1)

theorem two_split (k : Nat) (h : k ≤ 8) : 2 ^ (64 - 7 * k) = 128 * 2 ^ (64 - 7 * (k + 1)) := by
  rw [show 64 - 7 * k = (64 - 7 * (k + 1)) + 7 by omega, Nat.pow_add]
  omega

/-- What is read was written so. -/
theorem num_some : ∀ (l : List UInt8) (k u U K : Nat), k ≤ 9 → num l k u = some (U, K) →
    ∃ V m, U = u + 2 ^ (7 * k) * V ∧ K = k + m ∧ l.take m = enc V ∧ m = (enc V).length ∧ m ≤ l.length ∧ (0 < k → 0 < V) ∧ V < 2 ^ (64 - 7 * k)
  | [], k, u, U, K, _, h => by simp [num] at h
  | b :: t, k, u, U, K, hk, h => by
    have hb := b.toNat_lt
    rw [num] at h
    by_cases h9 : k = 9 ∧ 1 < b.toNat
    · rw [if_pos h9] at h; cases h
    · rw [if_neg h9] at h
      by_cases hm : 128 ≤ b.toNat
      · rw [if_pos hm] at h
        have hk8 : k ≤ 8 := by omega
        obtain ⟨V, m, e1, e2, e3, e4, e5, e6, e7⟩ := num_some t (k + 1) _ U K (by omega) h
        have hV := e6 (by omega)
        have hE : enc (b.toNat % 128 + 128 * V) = b :: enc V := by
          rw [enc_big (by omega), show (b.toNat % 128 + 128 * V) / 128 = V by omega, show (b.toNat % 128 + 128 * V) % 128 + 128 = b.toNat by omega, UInt8.ofNat_toNat]
        refine ⟨b.toNat % 128 + 128 * V, m + 1, ?_, by omega, ?_, ?_, ?_, fun _ => by omega, ?_⟩
        · rw [e1, show 7 * (k + 1) = 7 * k + 7 by omega, Nat.pow_add, Nat.mul_add, Nat.add_assoc, Nat.mul_assoc]
        · rw [List.take_succ_cons, e3, hE]
        · rw [hE, List.length_cons, ← e4]
        · rw [List.length_cons]; omega
        · have h2 := two_split k hk8
          omega
      · rw [if_neg hm] at h
        by_cases h0 : b.toNat = 0 ∧ 0 < k
        · rw [if_pos h0] at h; cases h
        · rw [if_neg h0] at h
          obtain ⟨rfl, rfl⟩ := Prod.mk.inj (Option.some.inj h)
          have hE : enc b.toNat = [b] := by rw [enc_small (by omega), UInt8.ofNat_toNat]
          refine ⟨b.toNat, 1, rfl, rfl, ?_, ?_, by simp, fun hk0 => by omega, ?_⟩
          · rw [hE]; rfl
          · rw [hE]; rfl
          · by_cases e9 : k = 9
            · subst e9; show b.toNat < 2 ^ 1; omega
            · have h2 := two_split k (by omega)
              have : 0 < 2 ^ (64 - 7 * (k + 1)) := Nat.two_pow_pos _
              omega

/-- What is written is read. -/
theorem num_enc (V : Nat) : ∀ (t : List UInt8) (k u : Nat), k ≤ 9 → (0 < k → 0 < V) → V < 2 ^ (64 - 7 * k) → num (enc V ++ t) k u = some (u + 2 ^ (7 * k) * V, k + (enc V).length) := by
  induction V using Nat.strongRecOn with
  | _ V ih =>
    intro t k u hk h0 hV
    by_cases h : V < 128
    · have hv : (UInt8.ofNat V).toNat = V := by rw [UInt8.toNat_ofNat']; omega
      rw [enc_small h, List.singleton_append, num, hv]
      rw [if_neg (by rintro ⟨rfl, h1⟩; have : V < 2 ^ 1 := hV; omega), if_neg (by omega), if_neg (by omega)]
      rfl
    · have hk8 : k ≤ 8 := by
        by_cases e : k = 9
        · subst e; have : V < 2 ^ 1 := hV; omega
        · omega
      have h2 := two_split k hk8
      have hv : (UInt8.ofNat (V % 128 + 128)).toNat = V % 128 + 128 := by rw [UInt8.toNat_ofNat']; omega
      rw [enc_big (by omega), List.cons_append, num, hv]
      rw [if_neg (by omega), if_pos (by omega), ih (V / 128) (by omega) t (k + 1) _ (by omega) (by omega) (by omega)]
      rw [show 7 * (k + 1) = 7 * k + 7 by omega, Nat.pow_add, Nat.mul_assoc, Nat.add_assoc, ← Nat.mul_add, List.length_cons]
      congr 2
      · rw [show (V % 128 + 128) % 128 + 2 ^ 7 * (V / 128) = V by omega]
      · omega

/-- A number's number, and back. -/
def fold (n : Int) : Nat := if n < 0 then (2 * (-1 - n) + 1).toNat else (2 * n).toNat
def unfold (u : Nat) : Int := if u % 2 = 1 then -1 - (u / 2 : Nat) else (u / 2 : Nat)
theorem unfold_fold (n : Int) : unfold (fold n) = n := by
  unfold fold unfold
  by_cases h : n < 0
  · rw [if_pos h, if_pos (by omega)]; omega
  · rw [if_neg h, if_neg (by omega)]; omega
theorem fold_unfold (u : Nat) : fold (unfold u) = u := by
  unfold fold unfold
  by_cases h : u % 2 = 1
  · rw [if_pos h, if_pos (by omega)]; omega
  · rw [if_neg h, if_neg (by omega)]; omega
theorem fold_lt (n : Int) (h1 : -9223372036854775808 ≤ n) (h2 : n ≤ 9223372036854775807) : fold n < 18446744073709551616 := by
  unfold fold; split <;> omega
theorem unfold_bd (u : Nat) (h : u < 18446744073709551616) : -9223372036854775808 ≤ unfold u ∧ unfold u ≤ 9223372036854775807 := by
  unfold unfold; split <;> omega
theorem fold_mono (a b : Int) (h : 0 ≤ a ∧ a ≤ b ∨ a < 0 ∧ b ≤ a) : fold a ≤ fold b := by
  unfold fold; split <;> split <;> omega

/-- The bytes of a number. -/
def bytesOf (n : Int) : ByteArray := ⟨(enc (fold n)).toArray⟩
theorem bytesOf_list (n : Int) : (bytesOf n).data.toList = enc (fold n) := rfl
theorem bytesOf_size (n : Int) : (bytesOf n).size = (enc (fold n)).length := rfl

/-- What is read of a list: the number, and how many bytes it has. -/
def rd (l : List UInt8) : Option (Int × Nat) := (num l 0 0).map fun p => (unfold p.1, p.2)
theorem rd_enc (n : Int) (h1 : -9223372036854775808 ≤ n) (h2 : n ≤ 9223372036854775807) (t : List UInt8) : rd (enc (fold n) ++ t) = some (n, (enc (fold n)).length) := by
  have hf := fold_lt n h1 h2
  unfold rd
  rw [num_enc (fold n) t 0 0 (by omega) (fun h => absurd h (by omega)) (by omega)]
  simp [unfold_fold]
theorem rd_some {l : List UInt8} {n : Int} {m : Nat} (h : rd l = some (n, m)) : l.take m = enc (fold n) ∧ m = (enc (fold n)).length ∧ 1 ≤ m ∧ m ≤ 10 ∧ m ≤ l.length ∧ -9223372036854775808 ≤ n ∧ n ≤ 9223372036854775807 := by
  unfold rd at h
  obtain ⟨⟨U, K⟩, h1, h2⟩ := Option.map_eq_some_iff.1 h
  obtain ⟨rfl, rfl⟩ := Prod.mk.inj h2
  obtain ⟨V, m, e1, e2, e3, e4, e5, _, e7⟩ := num_some l 0 0 U K (by omega) h1
  have hU : U = V := by omega
  have hK : K = m := by omega
  subst hU hK
  have hlt : U < 18446744073709551616 := by omega
  have := enc_ten U hlt
  have := enc_pos U
  have := unfold_bd U hlt
  rw [fold_unfold]
  exact ⟨e3, e4, by omega, by omega, e5, this⟩

end Go.Proofs.Ytfpgfclmmdihjaa.Cod

/- What fold, unfold and Num of code give. -/
namespace Go.Proofs.Ytfpgfclmmdihjaa
open Go.RowKit Cod


theorem fold_any (n : Int) (w : World) (h1 : -9223372036854775808 ≤ n) (h2 : n ≤ 9223372036854775807) :
    Calls Try.prog 53 #[.int .i64 n] w fun e w' => e = .returned (.int .u64 (fold n)) ∧ w = w' := by
  by_cases h : n < 0
  · have HF := Lib.hid (show (2 * (-1 - n) + 1 : Int) = (fold n : Nat) by unfold fold; rw [if_pos h]; omega)
    go_enter Try.func53, Try.ntmps53
    go_wp2
    go_ret
    exact ⟨ret_int HF.out, rfl⟩
  · have HF := Lib.hid (show (2 * n : Int) = (fold n : Nat) by unfold fold; rw [if_neg h]; omega)
    go_enter Try.func53, Try.ntmps53
    go_wp2
    go_ret
    exact ⟨ret_int HF.out, rfl⟩

theorem unfold_any (u : Nat) (w : World) (h : u < 18446744073709551616) :
    Calls Try.prog 79 #[.int .u64 u] w fun e w' => e = .returned (.int .i64 (unfold u)) ∧ w = w' := by
  have HF := Lib.hid (show unfold u = if u % 2 = 1 then -1 - ((u / 2 : Nat) : Int) else ((u / 2 : Nat) : Int) from rfl)
  by_cases h1 : u % 2 = 1
  · go_enter Try.func79, Try.ntmps79
    go_wp2
    go_ret
    exact ⟨ret_int (by rw [HF.out, if_pos h1]; omega), rfl⟩
  · go_enter Try.func79, Try.ntmps79
    go_wp2
    go_ret
    exact ⟨ret_int (by rw [HF.out, if_neg h1]; omega), rfl⟩
end Go.Proofs.Ytfpgfclmmdihjaa

/- What Num of code gives. -/
namespace Go.Proofs.Ytfpgfclmmdihjaa
open Go.RowKit Cod

theorem or_128 : ∀ x : Nat, x < 256 → bits .or .u8 (x : Int) 128 = ((x % 128 + 128 : Nat) : Int) := by decide +kernel
theorem info5 : (Try.prog.info? 5).map (fun i => (i.zero, i.size, i.bytes)) = some (some (.int .u8 0), 1, 1) := by kernel_rfl

/-- Bytes as cells. -/
def cellsB (l : List UInt8) : List Value := l.map fun b => .int .u8 (b.toNat : Int)
theorem cellsB_len (l : List UInt8) : (cellsB l).length = l.length := by unfold cellsB; simp
theorem cellsB_snoc (l : List UInt8) (n : Nat) (h : n < 256) : cellsB l ++ [.int .u8 (n : Int)] = cellsB (l ++ [UInt8.ofNat n]) := by
  have hv : (UInt8.ofNat n).toNat = n := by rw [UInt8.toNat_ofNat']; omega
  unfold cellsB; simp [hv]
theorem cellsB_at (l : List UInt8) (j : Nat) (h : j < l.length) : (cellsB l)[j]? = some (.int .u8 (l[j].toNat : Int)) := by
  unfold cellsB; simp [List.getElem?_eq_getElem h]

theorem own_cells {w : World} {B : Nat} {e : TypeId} {v : Value} {n : Nat} {xs : List Value} (h : w.ownsRowF B e 1 v n xs) (hn : 0 < n) :
    ∃ g cap, v = .slice (some ⟨g, 0, none⟩) n cap ∧ ∀ j u, xs[j]? = some u → w.cell? ⟨g, j, none⟩ = some u := by
  have hc := fun g => h.cells (g := g)
  rcases h.2 with ⟨rfl, hz⟩ | ⟨g, cap, cur, fz, rfl, _⟩
  · omega
  · refine ⟨g, cap, rfl, fun j u hu => ?_⟩
    have := hc g rfl j u hu
    rw [Addr.add_lit, Nat.zero_add] at this; exact this

theorem conv_own {w w0 : World} {B : Nat} {v : Value} {xs : List UInt8} (h : Lib.OwnBuf B 5 v xs.length (cellsB xs) w0 w) (hn : 0 < xs.length) :
    (convert 90 9 v).run Try.prog w = .ok (.string ⟨xs.toArray⟩) w := by
  obtain ⟨g, cap, rfl, hc⟩ := own_cells h.1 hn
  refine run_convert_bytes_back (P := Try.prog) w 90 9 5 ⟨g, 0, none⟩ cap xs Try.underlying90 Try.underlying5 Try.underlying9 ?_
  intro j hj
  rw [Addr.add_lit, Nat.zero_add]
  exact hc j _ (cellsB_at xs j hj)

set_option maxRecDepth 100000 in
set_option maxHeartbeats 2000000 in
theorem num_any (n : Int) (w : World) (h1 : -9223372036854775808 ≤ n) (h2 : n ≤ 9223372036854775807) :
    Calls Try.prog 27 #[.int .i64 n] w fun e w' => e = .returned (.string (bytesOf n)) ∧ Below w.heap.size w w' := by
  have hU := fold_lt n h1 h2
  have cF := fun w => fold_any n w h1 h2
  have hlen := enc_ten (fold n) hU
  have HB := Lib.hid (show bytesOf n = ⟨(enc (fold n)).toArray⟩ from rfl)
  generalize bytesOf n = S at HB ⊢
  generalize fold n = U at hU cF hlen HB
  have CF := Lib.hid cF
  clear cF
  obtain ⟨i0, hi, hz0, hz1, hz2⟩ := info_parts info5
  have HI := Lib.hid hi
  have HZ0 := Lib.hid hz0
  have HZ1 := Lib.hid hz1
  have HZ2 := Lib.hid hz2
  clear hi hz0 hz1 hz2
  go_enter Try.func27, Try.ntmps27
  go_wp2_with (go_at_call 53; (with_reducible refine (CF.out _).mono ?_); rintro e w1 ⟨rfl, rfl⟩)
  go_loopw [3, 4] (fun v r wr => ∃ (l : List UInt8) (u : Nat), r = .int .u64 u ∧ u < 18446744073709551616 ∧ Lib.OwnBuf w.heap.size 5 v l.length (cellsB l) w wr ∧ Hid (l ++ enc u = enc U)) (fun _ r _ => (intOf r).toNat)
  case atStart => exact ⟨[], U, rfl, hU, ⟨World.ownsRowF_nil _ _ _ _, Below.refl _ _, Nat.le_refl _⟩, rfl⟩
  case round =>
    obtain ⟨l, u, rfl, hu, hown, hl⟩ := hrel
    have hll : l.length + (enc u).length ≤ 10 := by
      have h := congrArg List.length hl
      rw [List.length_append] at h; omega
    have hep := enc_pos u
    by_cases hb : 128 ≤ u
    · obtain ⟨c, hc⟩ : ∃ c : Nat, (u : Int) % 256 = (c : Int) := ⟨u % 256, by omega⟩
      obtain ⟨d, hd⟩ : ∃ d : Nat, d = c % 128 + 128 := ⟨_, rfl⟩
      have hor := or_128 c (by omega)
      rw [← hd] at hor
      have hd2 : d < 256 := by omega
      have HN := Lib.hid (show (l ++ [UInt8.ofNat d]) ++ enc (u / 128) = enc U by
        rw [List.append_assoc, List.singleton_append, show d = u % 128 + 128 by omega, ← enc_big hb]; exact hl)
      have HL := Lib.hid (show (l ++ [UInt8.ofNat d]).length = l.length + 1 by simp)
      have HC := Lib.hid (cellsB_snoc l d hd2)
      clear hd hl
      go_wp2_with (at_builtin; refine Lib.wpList_append_byte rfl (.tmp 11) (.tmp 15) 90 rfl w.heap.size 5 i0 Try.underlying90 HI.out HZ0.out HZ1.out HZ2.out _ l.length (cellsB l) rfl w _ _ hown rfl (by omega) ?_; intro v' w1 hown1)
      rw [HC.out, ← HL.out] at hown1
      go_roundw
      case rel => exact ⟨l ++ [UInt8.ofNat d], u / 128, by go_num, by omega, hown1, HN.out⟩
      case measure => simp [intOf]; omega
    · have HE := Lib.hid (show l ++ [UInt8.ofNat u] = enc U by rw [← enc_small (by omega)]; exact hl)
      have HC := Lib.hid (cellsB_snoc l u (by omega))
      clear hl
      go_wp2_with (at_builtin; refine Lib.wpList_append_byte rfl (.tmp 17) (.tmp 20) 90 rfl w.heap.size 5 i0 Try.underlying90 HI.out HZ0.out HZ1.out HZ2.out _ l.length (cellsB l) rfl w _ _ hown rfl (by omega) ?_; intro v' w1 hown1)
      have hcv : (convert 90 9 v').run Try.prog w1 = .ok (.string S) w1 := by
        rw [HC.out, show l.length + 1 = (l ++ [UInt8.ofNat u]).length by simp] at hown1
        have h := conv_own hown1 (by simp)
        rw [HE.out, ← HB.out] at h
        exact h
      have HO := Lib.hid hown1.2.1
      clear hown1 hown
      rw [hcv]
      go_wp2
      go_ret
      exact ⟨rfl, HO.out⟩
end Go.Proofs.Ytfpgfclmmdihjaa

/- The document's Num; Text, Bit, Least of both. -/
namespace Go.Proofs.Ytfpgfclmmdihjaa
open Go.RowKit Cod

theorem dl_inj {a b : ByteArray} (h : a.data.toList = b.data.toList) : a = b := by
  cases a; cases b; simp at h; rw [h]
theorem dl_app (a b : ByteArray) : (a ++ b).data.toList = a.data.toList ++ b.data.toList := by simp
theorem dl_len (a : ByteArray) : a.data.toList.length = a.size := by simp

theorem conv1 (d : Nat) (hd : d < 256) (w : World) :
    (convert 90 9 (.slice (some ⟨w.heap.size, 0, none⟩) 1 1)).run Try.prog (w.alloc (.cells #[.int .u8 (d : Int)] 5)) = .ok (.string ⟨#[UInt8.ofNat d]⟩) (w.alloc (.cells #[.int .u8 (d : Int)] 5)) := by
  refine run_convert_bytes_back (P := Try.prog) _ 90 9 5 ⟨w.heap.size, 0, none⟩ 1 [UInt8.ofNat d] Try.underlying90 Try.underlying5 Try.underlying9 ?_
  intro j hj
  have hv : (UInt8.ofNat d).toNat = d := by rw [UInt8.toNat_ofNat']; omega
  match j, hj with
  | 0, _ => simp [Addr.add, hv]

theorem or_one (x : Nat) (hx : x < 9223372036854775808) : bits .or .u64 ((2 * x : Nat) : Int) 1 = ((2 * x + 1 : Nat) : Int) := by
  have h := u64_or_nat (2 * x) 1 (by omega) (by omega)
  rw [show 2 * x = 2 ^ 1 * x by omega, ← Nat.two_pow_add_eq_or_of_lt (by decide) x] at h
  rw [show 2 * x = 2 ^ 1 * x by omega]
  exact h


set_option maxRecDepth 100000 in
set_option maxHeartbeats 2000000 in
theorem refNum_any (n : Int) (w : World) (h1 : -9223372036854775808 ≤ n) (h2 : n ≤ 9223372036854775807) :
    Calls Try.prog 38 #[.int .i64 n] w fun e w' => e = .returned (.string (bytesOf n)) ∧ Below w.heap.size w w' := by
  have hU := fold_lt n h1 h2
  have hlen := enc_ten (fold n) hU
  have HB := Lib.hid (show (bytesOf n).data.toList = enc (fold n) from rfl)
  have HF := Lib.hid (show fold n = if n < 0 then (2 * (-1 - n) + 1).toNat else (2 * n).toNat from rfl)
  generalize bytesOf n = S at HB ⊢
  generalize fold n = U at hU hlen HB HF
  by_cases hn : n < 0
  · obtain ⟨x, hx⟩ : ∃ x : Nat, (-1 - n : Int) = (x : Int) := ⟨(-1 - n).toNat, by omega⟩
    have ho : bits .or .u64 ((x : Int) * 2) 1 = (U : Int) := by
      rw [show ((x : Int) * 2) = ((2 * x : Nat) : Int) by omega, or_one x (by omega), HF.out, if_pos hn]; omega
    go_enter Try.func38, Try.ntmps38
    go_wp2
    clear ho hx hn
    go_loopw [3, 4] (fun r v wr => ∃ (u : Nat) (T : ByteArray), r = .int .u64 u ∧ u < 18446744073709551616 ∧ v = .string T ∧ Hid (T.data.toList ++ enc u = enc U) ∧ Below w.heap.size w wr) (fun r _ _ => (intOf r).toNat)
    case atStart => exact ⟨U, ⟨#[]⟩, by go_num, hU, rfl, rfl, Below.refl _ _⟩
    case round =>
      obtain ⟨u, T, rfl, hu, rfl, hl, hnx⟩ := hrel
      have hll : T.size + (enc u).length ≤ 10 := by
        have h := congrArg List.length hl.out
        rw [List.length_append, dl_len] at h; omega
      have hep := enc_pos u
      by_cases hb : 128 ≤ u
      · obtain ⟨c, hc⟩ : ∃ c : Nat, (u : Int) % 256 = (c : Int) := ⟨u % 256, by omega⟩
        obtain ⟨d, hd⟩ : ∃ d : Nat, d = c % 128 + 128 := ⟨_, rfl⟩
        have hor := or_128 c (by omega)
        rw [← hd] at hor
        have hd2 : d < 256 := by omega
        have HN := Lib.hid (show (T ++ ⟨#[UInt8.ofNat d]⟩).data.toList ++ enc (u / 128) = enc U by
          rw [dl_app, List.append_assoc]
          show _ ++ ([UInt8.ofNat d] ++ _) = _
          rw [List.singleton_append, show d = u % 128 + 128 by omega, ← enc_big hb]; exact hl.out)
        have hcv := conv1 d hd2 wr
        have hsz : (ByteArray.mk #[UInt8.ofNat d]).size = 1 := rfl
        clear hd
        go_wp2
        go_roundw
        case rel => exact ⟨u / 128, T ++ ⟨#[UInt8.ofNat d]⟩, by go_num, by omega, rfl, HN, below_alloc hnx _⟩
        case measure => simp [intOf]; omega
      · have HE := Lib.hid (show T ++ ⟨#[UInt8.ofNat u]⟩ = S from dl_inj (by
          rw [dl_app, HB.out]
          show _ ++ [UInt8.ofNat u] = _
          rw [← enc_small (by omega)]; exact hl.out))
        have hcv := conv1 u (by omega) wr
        have hsz : (ByteArray.mk #[UInt8.ofNat u]).size = 1 := rfl
        go_wp2
        go_ret
        exact ⟨by rw [HE.out]; rfl, below_alloc hnx _⟩
  · have hUn : n * 2 = (U : Int) := by rw [HF.out, if_neg hn]; omega
    have HUN := Lib.hid hUn
    clear hUn
    go_enter Try.func38, Try.ntmps38
    go_wp2
    go_loopw [3, 4] (fun r v wr => ∃ (u : Nat) (T : ByteArray), r = .int .u64 u ∧ u < 18446744073709551616 ∧ v = .string T ∧ Hid (T.data.toList ++ enc u = enc U) ∧ Below w.heap.size w wr) (fun r _ _ => (intOf r).toNat)
    case atStart => exact ⟨U, ⟨#[]⟩, by rw [HUN.out], hU, rfl, rfl, Below.refl _ _⟩
    case round =>
      obtain ⟨u, T, rfl, hu, rfl, hl, hnx⟩ := hrel
      have hll : T.size + (enc u).length ≤ 10 := by
        have h := congrArg List.length hl.out
        rw [List.length_append, dl_len] at h; omega
      have hep := enc_pos u
      by_cases hb : 128 ≤ u
      · obtain ⟨c, hc⟩ : ∃ c : Nat, (u : Int) % 256 = (c : Int) := ⟨u % 256, by omega⟩
        obtain ⟨d, hd⟩ : ∃ d : Nat, d = c % 128 + 128 := ⟨_, rfl⟩
        have hor := or_128 c (by omega)
        rw [← hd] at hor
        have hd2 : d < 256 := by omega
        have HN := Lib.hid (show (T ++ ⟨#[UInt8.ofNat d]⟩).data.toList ++ enc (u / 128) = enc U by
          rw [dl_app, List.append_assoc]
          show _ ++ ([UInt8.ofNat d] ++ _) = _
          rw [List.singleton_append, show d = u % 128 + 128 by omega, ← enc_big hb]; exact hl.out)
        have hcv := conv1 d hd2 wr
        have hsz : (ByteArray.mk #[UInt8.ofNat d]).size = 1 := rfl
        clear hd
        go_wp2
        go_roundw
        case rel => exact ⟨u / 128, T ++ ⟨#[UInt8.ofNat d]⟩, by go_num, by omega, rfl, HN, below_alloc hnx _⟩
        case measure => simp [intOf]; omega
      · have HE := Lib.hid (show T ++ ⟨#[UInt8.ofNat u]⟩ = S from dl_inj (by
          rw [dl_app, HB.out]
          show _ ++ [UInt8.ofNat u] = _
          rw [← enc_small (by omega)]; exact hl.out))
        have hcv := conv1 u (by omega) wr
        have hsz : (ByteArray.mk #[UInt8.ofNat u]).size = 1 := rfl
        go_wp2
        go_ret
        exact ⟨by rw [HE.out]; rfl, below_alloc hnx _⟩
theorem bytesOf_pos (n : Int) : 1 ≤ (bytesOf n).size := by rw [bytesOf_size]; exact enc_pos _
theorem bytesOf_le (n : Int) (h1 : -9223372036854775808 ≤ n) (h2 : n ≤ 9223372036854775807) : (bytesOf n).size ≤ 10 := by
  rw [bytesOf_size]; exact enc_ten _ (fold_lt n h1 h2)

/-- A text's bytes. -/
def textOf (s : ByteArray) : ByteArray := bytesOf s.size ++ s

theorem text_any (s : ByteArray) (w : World) (hs : s.size ≤ 1000000) :
    Calls Try.prog 76 #[.string s] w fun e w' => e = .returned (.string (textOf s)) ∧ Below w.heap.size w w' := by
  have hb := bytesOf_le s.size (by omega) (by omega)
  have cN := fun w => num_any s.size w (by omega) (by omega)
  unfold textOf
  generalize bytesOf s.size = N at hb cN ⊢
  have CN := Lib.hid cN
  clear cN
  go_enter Try.func76, Try.ntmps76
  go_wp2_with (go_at_call 27; (with_reducible refine (CN.out _).mono ?_); rintro e w1 ⟨rfl, hb1⟩)
  go_ret
  exact ⟨rfl, hb1⟩

theorem refText_any (s : ByteArray) (w : World) (hs : s.size ≤ 1000000) :
    Calls Try.prog 77 #[.string s] w fun e w' => e = .returned (.string (textOf s)) ∧ Below w.heap.size w w' := by
  have hb := bytesOf_le s.size (by omega) (by omega)
  have cN := fun w => refNum_any s.size w (by omega) (by omega)
  unfold textOf
  generalize bytesOf s.size = N at hb cN ⊢
  have CN := Lib.hid cN
  clear cN
  go_enter Try.func77, Try.ntmps77
  go_wp2_with (go_at_call 38; (with_reducible refine (CN.out _).mono ?_); rintro e w1 ⟨rfl, hb1⟩)
  go_ret
  exact ⟨rfl, hb1⟩

/-- A bool's bytes. -/
def bitOf (b : Bool) : ByteArray := bytesOf (if b then 1 else 0)

end Go.Proofs.Ytfpgfclmmdihjaa

/- A scope with several labels; a reader in memory. -/
namespace Go.Proofs.Ytfpgfclmmdihjaa
open Go.RowKit Cod

/-- By a goto to label l: J l; else as Q. -/
def jumps (J : Nat → Act → World → Prop) (Q : Exit → Act → World → Prop) : Exit → Act → World → Prop
  | .goto l, a, w => J l a w
  | e, a, w => Q e a w

section
variable {P : Program} {a : Act} {w : World} {Q : Exit → Act → World → Prop} {J : Nat → Act → World → Prop}
theorem jumps_goto (l : Nat) : jumps J Q (.goto l) a w = J l a w := rfl
theorem jumps_ret : jumps J Q .ret a w = Q .ret a w := rfl

/-- What holds at every jump, for each label; a measure that every pass lowers. -/
theorem wp_scope_labels {c : Code} (J : Nat → Act → World → Prop) (μ : Nat → Act → World → Nat) (first : c.wp P (jumps J Q) a w)
    (pass : ∀ l a w, J l a w → ∃ rest, findLabel c l = some rest ∧ rest.wp P (jumps (fun l' a' w' => J l' a' w' ∧ μ l' a' w' < μ l a w) Q) a w) : (Code.scope c).wp P Q a w := by
  intro b k cs
  have key : ∀ n l a w, μ l a w = n → J l a w → ∃ rest, gotoIn l (.inScope c :: k) = some (.code rest :: .inScope c :: k) ∧ ∃ e a' w', Q e a' w' ∧ Arrives P (lone (b.at a (.code rest :: .inScope c :: k)) cs w) b k cs e a' w' := by
    intro n
    induction n using Nat.strongRecOn with
    | _ n ih =>
      intro l a w hn hJ
      obtain ⟨rest, hf, hp⟩ := pass l a w hJ
      refine ⟨rest, by simp [gotoIn, hf], ?_⟩
      obtain ⟨e, a₁, w₁, hq, harr⟩ := hp b (.inScope c :: k) cs
      cases e with
      | normal => exact ⟨.normal, a₁, w₁, hq, Steps.trans harr (.one step_inScope)⟩
      | exit id => exact ⟨.exit id, a₁, w₁, hq, fun k' hk => harr k' (by simp [exitTo, hk])⟩
      | goto l' =>
        obtain ⟨hJ', hlt⟩ := hq
        obtain ⟨rest', hg, e₂, a₂, w₂, hq₂, harr₂⟩ := ih _ (by omega) l' a₁ w₁ rfl hJ'
        exact ⟨e₂, a₂, w₂, hq₂, .of_steps (harr _ hg) harr₂⟩
      | ret => exact ⟨_, a₁, w₁, hq, harr⟩
      | panic ch => exact ⟨_, a₁, w₁, hq, harr⟩
      | outgrown => exact ⟨_, a₁, w₁, hq, harr⟩
  obtain ⟨e, a₁, w₁, hq, harr⟩ := first b (.inScope c :: k) cs
  cases e with
  | normal => exact ⟨.normal, a₁, w₁, hq, .head step_scope (Steps.trans harr (.one step_inScope))⟩
  | exit id => exact ⟨.exit id, a₁, w₁, hq, fun k' hk => .head step_scope (harr k' (by simp [exitTo, hk]))⟩
  | goto l' =>
    obtain ⟨rest', hg, e₂, a₂, w₂, hq₂, harr₂⟩ := key _ l' a₁ w₁ rfl hq
    exact ⟨e₂, a₂, w₂, hq₂, .of_steps (.head step_scope (harr _ hg)) harr₂⟩
  | ret => exact ⟨_, a₁, w₁, hq, .of_steps (.one step_scope) harr⟩
  | panic ch => exact ⟨_, a₁, w₁, hq, .of_steps (.one step_scope) harr⟩
  | outgrown => exact ⟨_, a₁, w₁, hq, .of_steps (.one step_scope) harr⟩
end

/-- In block b lies a reader of type T: its text, where it stands, whether it went wrong. -/
def Rd (T : TypeId) (w : World) (b : Nat) (s : ByteArray) (at_ : Nat) (bad : Bool) : Prop :=
  w.heap[b]? = some (.cells #[.string s, .int .i64 (at_ : Int), .bool bad] T (0, 0))

section
variable {T : TypeId} {w w' : World} {b : Nat} {s : ByteArray} {p : Nat} {bad : Bool}
theorem Rd.lt (h : Rd T w b s p bad) : b < w.heap.size := by
  rcases Nat.lt_or_ge b w.heap.size with hlt | hge
  · exact hlt
  · unfold Rd at h; rw [Array.getElem?_eq_none hge] at h; cases h
theorem Rd.cells (h : Rd T w b s p bad) : w.cell? ⟨b, 0, none⟩ = some (.string s) ∧ w.cell? ⟨b, 1, none⟩ = some (.int .i64 (p : Int)) ∧ w.cell? ⟨b, 2, none⟩ = some (.bool bad) :=
  ⟨cell_of_row w b 0 _ T (0, 0) h, cell_of_row w b 1 _ T (0, 0) h, cell_of_row w b 2 _ T (0, 0) h⟩
theorem Rd.frozen (h : Rd T w b s p bad) (i : Nat) : w.frozen? ⟨b, i, none⟩ = false := by
  unfold Rd at h
  simp [World.frozen?, h]
theorem Rd.new (w : World) (T : TypeId) (s : ByteArray) (p : Int) (h : p = 0) : Rd T (w.alloc (.cells #[.string s, .int .i64 p, .bool false] T)) w.heap.size s 0 false := by
  subst h; exact heap_alloc_new w _
theorem Rd.drewN (h : Rd T w b s p bad) (n : Nat) : Rd T (w.drewN n) b s p bad := h
theorem Rd.keep {row : Option Nat} (h : Rd T w b s p bad) (hg : w.grownBy w' row) (hne : some b ≠ row) : Rd T w' b s p bad := (hg.block b h.lt hne).trans h
theorem Rd.below (h : Rd T w b s p bad) (hg : Below w.heap.size w w') : Rd T w' b s p bad := (hg.block b h.lt).trans h
theorem Rd.setAt (h : Rd T w b s p bad) (q : Nat) : Rd T (w.setCell ⟨b, 1, none⟩ (.int .i64 (q : Int))) b s q bad := by
  unfold Rd at h ⊢
  simp [World.setCell, Array.getElem?_modify, h]
theorem Rd.setBad (h : Rd T w b s p bad) : Rd T (w.setCell ⟨b, 2, none⟩ (.bool true)) b s p true := by
  unfold Rd at h ⊢
  simp [World.setCell, Array.getElem?_modify, h]
end

theorem by_refl (w : World) (r : Option Nat) : w.grownBy w r := ⟨rfl, rfl, rfl, Nat.le_refl _, fun _ _ _ => rfl⟩
theorem by_trans {a b c : World} {r : Option Nat} (h : a.grownBy b r) (k : b.grownBy c r) : a.grownBy c r :=
  ⟨k.os.trans h.os, k.tape.trans h.tape, k.output.trans h.output, Nat.le_trans h.size k.size, fun i hi hn => (k.block i (Nat.lt_of_lt_of_le hi h.size) hn).trans (h.block i hi hn)⟩
theorem by_drewN {a w : World} {r : Option Nat} (h : a.grownBy w r) (n : Nat) : a.grownBy (w.drewN n) r := ⟨h.os, h.tape, h.output, h.size, h.block⟩
theorem by_set {a w : World} {b : Nat} (h : a.grownBy w (some b)) (i : Nat) (u : Value) : a.grownBy (w.setCell ⟨b, i, none⟩ u) (some b) :=
  ⟨h.os, h.tape, h.output, by simpa [World.setCell] using h.size, fun k hk hne => (Below.heap_setCell w _ u k (fun e => hne (congrArg some e))).trans (h.block k hk hne)⟩
theorem by_below {w w' : World} (h : Below w.heap.size w w') (r : Option Nat) : w.grownBy w' r := ⟨h.os, h.tape, h.output, h.size, fun i hi _ => h.block i hi⟩
theorem below_by {W w w' : World} {b : Nat} (h : Below W.heap.size W w) (k : w.grownBy w' (some b)) (hb : W.heap.size ≤ b) : Below W.heap.size W w' :=
  h.grown k h.size (fun _ e => by cases e; exact hb)

end Go.Proofs.Ytfpgfclmmdihjaa

/- What Print gives, of the program and of the document: layer op. -/
namespace Go.Proofs.Ytfpgfclmmdihjaa
open Go.RowKit Cod

structure Wide (C D I M K U : Int) : Prop where
  c : i64 C
  d : i64 D
  i : i64 I
  m : i64 M
  k : i64 K
  u : i64 U
def printOf (C D I M K U : Int) (s : ByteArray) : ByteArray := bytesOf C ++ bytesOf D ++ bytesOf I ++ bytesOf M ++ bytesOf K ++ bytesOf U ++ textOf s

/-- In block b lies an operation. -/
def OpIn (w : World) (b : Nat) (C D I M K U : Int) (s : ByteArray) : Prop :=
  w.heap[b]? = some (.cells #[.int .i64 C, .int .i64 D, .int .i64 I, .int .i64 M, .int .i64 K, .int .i64 U, .string s] 48 (0, 0))
section
variable {w w' : World} {b : Nat} {C D I M K U : Int} {s : ByteArray}
theorem OpIn.lt (h : OpIn w b C D I M K U s) : b < w.heap.size := by
  rcases Nat.lt_or_ge b w.heap.size with hlt | hge
  · exact hlt
  · unfold OpIn at h; rw [Array.getElem?_eq_none hge] at h; cases h
theorem OpIn.cells (h : OpIn w b C D I M K U s) : w.cell? ⟨b, 0, none⟩ = some (.int .i64 C) ∧ w.cell? ⟨b, 1, none⟩ = some (.int .i64 D) ∧ w.cell? ⟨b, 2, none⟩ = some (.int .i64 I) ∧ w.cell? ⟨b, 3, none⟩ = some (.int .i64 M) ∧ w.cell? ⟨b, 4, none⟩ = some (.int .i64 K) ∧ w.cell? ⟨b, 5, none⟩ = some (.int .i64 U) ∧ w.cell? ⟨b, 6, none⟩ = some (.string s) :=
  ⟨cell_of_row w b 0 _ 48 (0, 0) h, cell_of_row w b 1 _ 48 (0, 0) h, cell_of_row w b 2 _ 48 (0, 0) h, cell_of_row w b 3 _ 48 (0, 0) h, cell_of_row w b 4 _ 48 (0, 0) h, cell_of_row w b 5 _ 48 (0, 0) h, cell_of_row w b 6 _ 48 (0, 0) h⟩
theorem OpIn.frozen (h : OpIn w b C D I M K U s) (i : Nat) : w.frozen? ⟨b, i, none⟩ = false := by
  unfold OpIn at h
  simp [World.frozen?, h]
theorem OpIn.new (w : World) (C D I M K U : Int) (s : ByteArray) : OpIn (w.alloc (.cells #[.int .i64 C, .int .i64 D, .int .i64 I, .int .i64 M, .int .i64 K, .int .i64 U, .string s] 48)) w.heap.size C D I M K U s := heap_alloc_new w _
theorem OpIn.below (h : OpIn w b C D I M K U s) (hg : Below w.heap.size w w') : OpIn w' b C D I M K U s := (hg.block b h.lt).trans h
theorem OpIn.keep {row : Option Nat} (h : OpIn w b C D I M K U s) (hg : w.grownBy w' row) (hne : some b ≠ row) : OpIn w' b C D I M K U s := (hg.block b h.lt hne).trans h
end

theorem text_le (s : ByteArray) (hs : s.size ≤ 1000000) : (textOf s).size ≤ 1000010 := by
  unfold textOf; rw [ByteArray.size_append]
  have := bytesOf_le s.size (by omega) (by omega)
  omega

set_option maxHeartbeats 4000000 in
theorem opPrint_any (C D I M K U : Int) (s : ByteArray) (w : World) (hw : Wide C D I M K U) (hs : s.size ≤ 1000000) :
    Calls Try.prog 60 #[.agg #[.int .i64 C, .int .i64 D, .int .i64 I, .int .i64 M, .int .i64 K, .int .i64 U, .string s]] w fun e w' => e = .returned (.string (printOf C D I M K U s)) ∧ Below w.heap.size w w' := by
  obtain ⟨hc, hd, hi, hm, hk, hu⟩ := hw
  have c1 := fun w => num_any C w hc.1 hc.2
  have c2 := fun w => num_any D w hd.1 hd.2
  have c3 := fun w => num_any I w hi.1 hi.2
  have c4 := fun w => num_any M w hm.1 hm.2
  have c5 := fun w => num_any K w hk.1 hk.2
  have c6 := fun w => num_any U w hu.1 hu.2
  have c7 := fun w => text_any s w hs
  have z1 := bytesOf_le C hc.1 hc.2
  have z2 := bytesOf_le D hd.1 hd.2
  have z3 := bytesOf_le I hi.1 hi.2
  have z4 := bytesOf_le M hm.1 hm.2
  have z5 := bytesOf_le K hk.1 hk.2
  have z6 := bytesOf_le U hu.1 hu.2
  have z7 := text_le s hs
  unfold printOf
  clear hc hd hi hm hk hu
  generalize bytesOf C = x1 at *
  generalize bytesOf D = x2 at *
  generalize bytesOf I = x3 at *
  generalize bytesOf M = x4 at *
  generalize bytesOf K = x5 at *
  generalize bytesOf U = x6 at *
  generalize textOf s = x7 at *
  have C1 := Lib.hid c1
  have C2 := Lib.hid c2
  have C3 := Lib.hid c3
  have C4 := Lib.hid c4
  have C5 := Lib.hid c5
  have C6 := Lib.hid c6
  have C7 := Lib.hid c7
  clear c1 c2 c3 c4 c5 c6 c7
  go_enter Try.func60, Try.ntmps60
  go_wp2
  have hO := OpIn.new w C D I M K U s
  have hB0 := below_alloc (Below.refl w.heap.size w) (.cells #[.int .i64 C, .int .i64 D, .int .i64 I, .int .i64 M, .int .i64 K, .int .i64 U, .string s] 48)
  generalize w.alloc (.cells #[.int .i64 C, .int .i64 D, .int .i64 I, .int .i64 M, .int .i64 K, .int .i64 U, .string s] 48) = W at *
  obtain ⟨g0, g1, g2, g3, g4, g5, g6⟩ := hO.cells
  have k0 := cell_regrown g0
  have k1 := cell_regrown g1
  have k2 := cell_regrown g2
  have k3 := cell_regrown g3
  have k4 := cell_regrown g4
  have k5 := cell_regrown g5
  have k6 := cell_regrown g6
  clear g0 g1 g2 g3 g4 g5 g6 hO
  have d1 : ∀ d os, Calls Try.prog 27 #[.int .i64 C] (Sort.grow (redrawn W d) os) fun e w'' => e = .returned (.string x1) ∧ ∃ p : Regrown, w'' = Sort.grow (redrawn W p.d) p.os := fun d os => Calls.regrown_of (C1.out _)
  have d2 : ∀ d os, Calls Try.prog 27 #[.int .i64 D] (Sort.grow (redrawn W d) os) fun e w'' => e = .returned (.string x2) ∧ ∃ p : Regrown, w'' = Sort.grow (redrawn W p.d) p.os := fun d os => Calls.regrown_of (C2.out _)
  have d3 : ∀ d os, Calls Try.prog 27 #[.int .i64 I] (Sort.grow (redrawn W d) os) fun e w'' => e = .returned (.string x3) ∧ ∃ p : Regrown, w'' = Sort.grow (redrawn W p.d) p.os := fun d os => Calls.regrown_of (C3.out _)
  have d4 : ∀ d os, Calls Try.prog 27 #[.int .i64 M] (Sort.grow (redrawn W d) os) fun e w'' => e = .returned (.string x4) ∧ ∃ p : Regrown, w'' = Sort.grow (redrawn W p.d) p.os := fun d os => Calls.regrown_of (C4.out _)
  have d5 : ∀ d os, Calls Try.prog 27 #[.int .i64 K] (Sort.grow (redrawn W d) os) fun e w'' => e = .returned (.string x5) ∧ ∃ p : Regrown, w'' = Sort.grow (redrawn W p.d) p.os := fun d os => Calls.regrown_of (C5.out _)
  have d6 : ∀ d os, Calls Try.prog 27 #[.int .i64 U] (Sort.grow (redrawn W d) os) fun e w'' => e = .returned (.string x6) ∧ ∃ p : Regrown, w'' = Sort.grow (redrawn W p.d) p.os := fun d os => Calls.regrown_of (C6.out _)
  have d7 : ∀ d os, Calls Try.prog 76 #[.string s] (Sort.grow (redrawn W d) os) fun e w'' => e = .returned (.string x7) ∧ ∃ p : Regrown, w'' = Sort.grow (redrawn W p.d) p.os := fun d os => Calls.regrown_of (C7.out _)
  refine wp_region_quiet_below (by kernel_rfl) (by kernel_rfl) ?_
  repeat (go_big_quiet_step ((with_reducible (first | exact d1 _ _ | exact d2 _ _ | exact d3 _ _ | exact d4 _ _ | exact d5 _ _ | exact d6 _ _ | exact d7 _ _))))
  refine wpQuiet_nil ?_
  intro _ hw'
  obtain ⟨⟨dq, osq⟩, hw''⟩ := hw'
  subst hw''
  go_wp2
  go_ret
  exact ⟨rfl, below_then hB0 (below_regrown W dq osq)⟩

set_option maxHeartbeats 4000000 in
theorem opRefPrint_any (C D I M K U : Int) (s : ByteArray) (w : World) (hw : Wide C D I M K U) (hs : s.size ≤ 1000000) :
    Calls Try.prog 62 #[.agg #[.int .i64 C, .int .i64 D, .int .i64 I, .int .i64 M, .int .i64 K, .int .i64 U, .string s]] w fun e w' => e = .returned (.string (printOf C D I M K U s)) ∧ Below w.heap.size w w' := by
  obtain ⟨hc, hd, hi, hm, hk, hu⟩ := hw
  have c1 := fun w => refNum_any C w hc.1 hc.2
  have c2 := fun w => refNum_any D w hd.1 hd.2
  have c3 := fun w => refNum_any I w hi.1 hi.2
  have c4 := fun w => refNum_any M w hm.1 hm.2
  have c5 := fun w => refNum_any K w hk.1 hk.2
  have c6 := fun w => refNum_any U w hu.1 hu.2
  have c7 := fun w => refText_any s w hs
  have z1 := bytesOf_le C hc.1 hc.2
  have z2 := bytesOf_le D hd.1 hd.2
  have z3 := bytesOf_le I hi.1 hi.2
  have z4 := bytesOf_le M hm.1 hm.2
  have z5 := bytesOf_le K hk.1 hk.2
  have z6 := bytesOf_le U hu.1 hu.2
  have z7 := text_le s hs
  unfold printOf
  clear hc hd hi hm hk hu
  generalize bytesOf C = x1 at *
  generalize bytesOf D = x2 at *
  generalize bytesOf I = x3 at *
  generalize bytesOf M = x4 at *
  generalize bytesOf K = x5 at *
  generalize bytesOf U = x6 at *
  generalize textOf s = x7 at *
  have C1 := Lib.hid c1
  have C2 := Lib.hid c2
  have C3 := Lib.hid c3
  have C4 := Lib.hid c4
  have C5 := Lib.hid c5
  have C6 := Lib.hid c6
  have C7 := Lib.hid c7
  clear c1 c2 c3 c4 c5 c6 c7
  go_enter Try.func62, Try.ntmps62
  go_wp2
  have hO := OpIn.new w C D I M K U s
  have hB0 := below_alloc (Below.refl w.heap.size w) (.cells #[.int .i64 C, .int .i64 D, .int .i64 I, .int .i64 M, .int .i64 K, .int .i64 U, .string s] 48)
  generalize w.alloc (.cells #[.int .i64 C, .int .i64 D, .int .i64 I, .int .i64 M, .int .i64 K, .int .i64 U, .string s] 48) = W at *
  obtain ⟨g0, g1, g2, g3, g4, g5, g6⟩ := hO.cells
  have k0 := cell_regrown g0
  have k1 := cell_regrown g1
  have k2 := cell_regrown g2
  have k3 := cell_regrown g3
  have k4 := cell_regrown g4
  have k5 := cell_regrown g5
  have k6 := cell_regrown g6
  clear g0 g1 g2 g3 g4 g5 g6 hO
  have d1 : ∀ d os, Calls Try.prog 38 #[.int .i64 C] (Sort.grow (redrawn W d) os) fun e w'' => e = .returned (.string x1) ∧ ∃ p : Regrown, w'' = Sort.grow (redrawn W p.d) p.os := fun d os => Calls.regrown_of (C1.out _)
  have d2 : ∀ d os, Calls Try.prog 38 #[.int .i64 D] (Sort.grow (redrawn W d) os) fun e w'' => e = .returned (.string x2) ∧ ∃ p : Regrown, w'' = Sort.grow (redrawn W p.d) p.os := fun d os => Calls.regrown_of (C2.out _)
  have d3 : ∀ d os, Calls Try.prog 38 #[.int .i64 I] (Sort.grow (redrawn W d) os) fun e w'' => e = .returned (.string x3) ∧ ∃ p : Regrown, w'' = Sort.grow (redrawn W p.d) p.os := fun d os => Calls.regrown_of (C3.out _)
  have d4 : ∀ d os, Calls Try.prog 38 #[.int .i64 M] (Sort.grow (redrawn W d) os) fun e w'' => e = .returned (.string x4) ∧ ∃ p : Regrown, w'' = Sort.grow (redrawn W p.d) p.os := fun d os => Calls.regrown_of (C4.out _)
  have d5 : ∀ d os, Calls Try.prog 38 #[.int .i64 K] (Sort.grow (redrawn W d) os) fun e w'' => e = .returned (.string x5) ∧ ∃ p : Regrown, w'' = Sort.grow (redrawn W p.d) p.os := fun d os => Calls.regrown_of (C5.out _)
  have d6 : ∀ d os, Calls Try.prog 38 #[.int .i64 U] (Sort.grow (redrawn W d) os) fun e w'' => e = .returned (.string x6) ∧ ∃ p : Regrown, w'' = Sort.grow (redrawn W p.d) p.os := fun d os => Calls.regrown_of (C6.out _)
  have d7 : ∀ d os, Calls Try.prog 77 #[.string s] (Sort.grow (redrawn W d) os) fun e w'' => e = .returned (.string x7) ∧ ∃ p : Regrown, w'' = Sort.grow (redrawn W p.d) p.os := fun d os => Calls.regrown_of (C7.out _)
  refine wp_region_quiet_below (by kernel_rfl) (by kernel_rfl) ?_
  repeat (go_big_quiet_step ((with_reducible (first | exact d1 _ _ | exact d2 _ _ | exact d3 _ _ | exact d4 _ _ | exact d5 _ _ | exact d6 _ _ | exact d7 _ _))))
  refine wpQuiet_nil ?_
  intro _ hw'
  obtain ⟨⟨dq, osq⟩, hw''⟩ := hw'
  subst hw''
  go_wp2
  go_ret
  exact ⟨rfl, below_then hB0 (below_regrown W dq osq)⟩
end Go.Proofs.Ytfpgfclmmdihjaa

/- An operation in a block: stored, loaded, handed back whole. -/
namespace Go.Proofs.Ytfpgfclmmdihjaa
open Go.RowKit Cod

def opCells (C D I M K U : Int) (s : ByteArray) : Array Value := #[.int .i64 C, .int .i64 D, .int .i64 I, .int .i64 M, .int .i64 K, .int .i64 U, .string s]
theorem op_size : (Try.prog.info? 48).map (·.size) = some 7 := by kernel_rfl

theorem OpIn.set {w : World} {b : Nat} {C D I M K U : Int} {s : ByteArray} (h : OpIn w b C D I M K U s) (C' D' I' M' K' U' : Int) (s' : ByteArray) : OpIn (w.setRow b #[.int .i64 C', .int .i64 D', .int .i64 I', .int .i64 M', .int .i64 K', .int .i64 U', .string s']) b C' D' I' M' K' U' s' := setRow_heap _ _ _ _ _ _ h

theorem OpIn.alloc {w : World} {b : Nat} {C D I M K U : Int} {s : ByteArray} (h : OpIn w b C D I M K U s) (o : Obj) : OpIn (w.alloc o) b C D I M K U s := h.below (below_alloc (Below.refl _ _) o)

theorem store_op {ops : Array Oper} {rest : List Oper} {o : Oper} {a : Act} {w : World} {Q : Exit → Act → World → Prop} (hgd : o.guard = none) (x y : Operand) (ho : o.op = .store 48 x y)
    (b : Nat) (C' D' I' M' K' U' : Int) (s' : ByteArray) (hx : a.eval x = .pointer (some ⟨b, 0, none⟩)) (hy : a.eval y = .agg #[.int .i64 C', .int .i64 D', .int .i64 I', .int .i64 M', .int .i64 K', .int .i64 U', .string s'])
    (C D I M K U : Int) (s : ByteArray) (hg : OpIn w b C D I M K U s)
    (h : wpList Try.prog ops Q rest (a.put o.dst undef) (w.setRow b #[.int .i64 C', .int .i64 D', .int .i64 I', .int .i64 M', .int .i64 K', .int .i64 U', .string s'])) : wpList Try.prog ops Q (o :: rest) a w :=
  wpList_store_row hgd 48 x y ho b _ hx hy 48 _ hg op_size rfl (by simp [Value.oneCell']) h

theorem load_op {ops : Array Oper} {rest : List Oper} {o : Oper} {a : Act} {w : World} {Q : Exit → Act → World → Prop} (hgd : o.guard = none) (x : Operand) (ho : o.op = .load 48 x)
    (b : Nat) (hx : a.eval x = .pointer (some ⟨b, 0, none⟩)) (C D I M K U : Int) (s : ByteArray) (hg : OpIn w b C D I M K U s)
    (h : wpList Try.prog ops Q rest (a.put o.dst (.agg #[.int .i64 C, .int .i64 D, .int .i64 I, .int .i64 M, .int .i64 K, .int .i64 U, .string s])) w) : wpList Try.prog ops Q (o :: rest) a w :=
  wpList_load_row hgd 48 x ho b hx 48 _ (0, 0) _ hg Try.underlying48 rfl op_size h

theorem load_op_if {ops : Array Oper} {rest : List Oper} {o : Oper} {a : Act} {w : World} {Q : Exit → Act → World → Prop} (hw : Region.wanted o (yielded ops a.tmps) = true) (x : Operand) (ho : o.op = .load 48 x)
    (b : Nat) (hx : a.eval x = .pointer (some ⟨b, 0, none⟩)) (C D I M K U : Int) (s : ByteArray) (hg : OpIn w b C D I M K U s)
    (h : wpList Try.prog ops Q rest (a.put o.dst (.agg #[.int .i64 C, .int .i64 D, .int .i64 I, .int .i64 M, .int .i64 K, .int .i64 U, .string s])) w) : wpList Try.prog ops Q (o :: rest) a w :=
  BigFrame.wpList_want hw fun _ hK => wp_load_row 48 x ho b hx 48 _ (0, 0) _ hg Try.underlying48 rfl op_size (hK _ _ h)

theorem loadVar_op {w : World} {b : Nat} {C D I M K U : Int} {s : ByteArray} (h : OpIn w b C D I M K U s) : (loadVar 48 ⟨b, 0, none⟩).run Try.prog w = .ok (.agg #[.int .i64 C, .int .i64 D, .int .i64 I, .int .i64 M, .int .i64 K, .int .i64 U, .string s]) w :=
  run_loadVar_row w b 48 48 _ (0, 0) _ h Try.underlying48 rfl op_size

/-- One result, an operation. -/
theorem ret_op1 {fn : Func} {R : Ending → World → Prop} {a : Act} {w : World} {b : Nat} {p : Tmp} {C D I M K U : Int} {s : ByteArray} (h : OpIn w b C D I M K U s) (hr : fn.results = #[.cell p 48]) (hp : a.tmps.getD p undef = .pointer (some ⟨b, 0, none⟩)) (hd : a.defers = [])
    (hR : R (.returned (.agg #[.int .i64 C, .int .i64 D, .int .i64 I, .int .i64 M, .int .i64 K, .int .i64 U, .string s])) w) : bodyPost Try.prog fn R .ret a w := by
  exact bodyPost_ret (results_cell_row hr a.tmps w b 48 _ (0, 0) _ hp h Try.underlying48 rfl op_size) hd hR

/-- Two results, an operation and a word. -/
theorem ret_op2 {fn : Func} {R : Ending → World → Prop} {a : Act} {w : World} {b : Nat} {p u : Tmp} {v : Value} {C D I M K U : Int} {s : ByteArray} (h : OpIn w b C D I M K U s) (hr : fn.results = #[.cell p 48, .tmp u]) (hp : a.tmps.getD p undef = .pointer (some ⟨b, 0, none⟩)) (hv : a.tmps.getD u undef = v) (hd : a.defers = [])
    (hR : R (.returned (.tuple #[.agg #[.int .i64 C, .int .i64 D, .int .i64 I, .int .i64 M, .int .i64 K, .int .i64 U, .string s], v])) w) : bodyPost Try.prog fn R .ret a w := by
  refine bodyPost_ret (v := .tuple #[.agg #[.int .i64 C, .int .i64 D, .int .i64 I, .int .i64 M, .int .i64 K, .int .i64 U, .string s], v]) ?_ hd hR
  rw [results_cell_tmp hr, hp, hv]
  simp only [asAddr, Sem.run_pure, Result.andThen, loadVar_op h]
end Go.Proofs.Ytfpgfclmmdihjaa

/- What Make gives, of the program and of the document: layer op. -/
namespace Go.Proofs.Ytfpgfclmmdihjaa
open Go.RowKit Nam Cod

def mkB (c e I M K U : Int) (s : ByteArray) : Bool := nextB c e && opB (nextC c e) (nextD c e) I M K U s
def mkI (b : Bool) (n : Int) : Int := if b then n else 0
def mkS (b : Bool) (s : ByteArray) : ByteArray := if b then s else ⟨#[]⟩

end Go.Proofs.Ytfpgfclmmdihjaa

/- What Num of code's Reader gives. -/
namespace Go.Proofs.Ytfpgfclmmdihjaa
open Go.RowKit Cod

theorem andNot_128 : ∀ x : Nat, x < 256 → bits .andNot .u8 (x : Int) 128 = ((x % 128 : Nat) : Int) := by decide +kernel

/-- u has 7k bits: the next ones are laid above them. -/
theorem or_above (k u x : Nat) (hk : k ≤ 9) (hu : u < 2 ^ (7 * k)) (hx : x < 128) (h9 : k = 9 → x ≤ 1) :
    2 ^ (7 * k) * x < 18446744073709551616 ∧ u + 2 ^ (7 * k) * x < 18446744073709551616 ∧ u + 2 ^ (7 * k) * x < 2 ^ (7 * (k + 1)) ∧ bits .or .u64 (u : Int) ((2 ^ (7 * k) * x : Nat) : Int) = ((u + 2 ^ (7 * k) * x : Nat) : Int) := by
  have hp : 2 ^ (7 * (k + 1)) = 2 ^ (7 * k) * 128 := by rw [show 7 * (k + 1) = 7 * k + 7 by omega, Nat.pow_add]
  have h1 : 2 ^ (7 * k) * x + 2 ^ (7 * k) ≤ 2 ^ (7 * k) * 128 := by
    rw [← Nat.mul_succ]; exact Nat.mul_le_mul_left _ (by omega)
  have h2 : 2 ^ (7 * k) * x + 2 ^ (7 * k) ≤ 18446744073709551616 := by
    by_cases e : k = 9
    · subst e
      have := h9 rfl
      have h3 : 2 ^ (7 * 9) * x ≤ 2 ^ (7 * 9) * 1 := Nat.mul_le_mul_left _ this
      have h4 : (2 : Nat) ^ (7 * 9) = 9223372036854775808 := by decide
      omega
    · have h3 : 2 ^ (7 * k) ≤ 2 ^ 56 := Nat.pow_le_pow_right (by decide) (by omega)
      have h4 : 2 ^ (7 * k) * 128 ≤ 2 ^ 56 * 128 := Nat.mul_le_mul_right _ h3
      have h5 : (2 : Nat) ^ 56 * 128 = 9223372036854775808 := by decide
      omega
  refine ⟨by omega, by omega, by omega, ?_⟩
  rw [u64_or_nat _ _ (by omega) (by omega), Nat.or_comm, ← Nat.two_pow_add_eq_or_of_lt hu x, Nat.add_comm]

/-- At the label of the next byte; where it goes wrong. -/
def AtNext (b : Nat) (u mv p : Value) (a : Act) : Prop := ∃ x5 x7 x8 x9 x10 x11 x12 x13 x14 x15 x16 x17 x18 x19 x20 x21 x22 x23 x24 x25 x26 x27 x28 x29 x30 x31 x32 x33 x34 x35 x36 x37 x38 x39 x40 x41 x42 x43 x44 x45 x46 x47 x48 x49 x50 x51 x52 x53 x54 x55 x56 x57 x58 x59 x60 x61 x62 x63 x64 x65 : Value, a = { tmps := #[.pointer (some ⟨b, 0, none⟩), undef, .int .i64 0, u, mv, x5, p, x7, x8, x9, x10, x11, x12, x13, x14, x15, x16, x17, x18, x19, x20, x21, x22, x23, x24, x25, x26, x27, x28, x29, x30, x31, x32, x33, x34, x35, x36, x37, x38, x39, x40, x41, x42, x43, x44, x45, x46, x47, x48, x49, x50, x51, x52, x53, x54, x55, x56, x57, x58, x59, x60, x61, x62, x63, x64, x65], defers := [] }
def AtWrong (b : Nat) (a : Act) : Prop := ∃ u mv p : Value, AtNext b u mv p a

/-- What Num leaves. -/
def NumPost (T : TypeId) (b : Nat) (s : ByteArray) (p : Nat) (w : World) (e : Ending) (w' : World) : Prop :=
  (∃ n m, rd (s.data.toList.drop p) = some (n, m) ∧ e = .returned (.int .i64 n) ∧ Rd T w' b s (p + m) false ∧ w.grownBy w' (some b)) ∨
  (rd (s.data.toList.drop p) = none ∧ e = .returned (.int .i64 0) ∧ (∃ q, q ≤ s.size ∧ Rd T w' b s q true) ∧ w.grownBy w' (some b))

theorem rd_none {l : List UInt8} (h : num l 0 0 = none) : rd l = none := by unfold rd; rw [h]; rfl
theorem rd_of {l : List UInt8} {u m : Nat} (h : num l 0 0 = some (u, m)) : rd l = some (unfold u, m) := by unfold rd; rw [h]; rfl

theorem drop_at (s : ByteArray) (i : Nat) (h : i < s.size) : s.data.toList.drop i = s[i] :: s.data.toList.drop (i + 1) := by
  rw [List.drop_eq_getElem_cons (by simpa using h)]; rfl
theorem drop_end (s : ByteArray) (i : Nat) (h : ¬ i < s.size) : s.data.toList.drop i = [] := List.drop_eq_nil_of_le (by simp; omega)
theorem num_end (k u : Nat) : num [] k u = none := rfl
theorem num_go {c : UInt8} {t : List UInt8} {k u : Nat} (hk : k = 9 → c.toNat ≤ 1) (h : 128 ≤ c.toNat) : num (c :: t) k u = num t (k + 1) (u + 2 ^ (7 * k) * (c.toNat % 128)) := by
  rw [num, if_neg (by rintro ⟨h1, h2⟩; have := hk h1; omega), if_pos h]
theorem num_last {c : UInt8} {t : List UInt8} {k u : Nat} (hk : k = 9 → c.toNat ≤ 1) (h : c.toNat < 128) (h0 : 0 < k → 0 < c.toNat) : num (c :: t) k u = some (u + 2 ^ (7 * k) * (c.toNat % 128), k + 1) := by
  rw [num, if_neg (by rintro ⟨h1, h2⟩; have := hk h1; omega), if_neg (by omega), if_neg (by rintro ⟨h1, h2⟩; have := h0 h2; omega), Nat.mod_eq_of_lt h]
theorem num_over {c : UInt8} {t : List UInt8} {u : Nat} (h : 1 < c.toNat) : num (c :: t) 9 u = none := by
  rw [num, if_pos ⟨rfl, h⟩]
theorem num_more {c : UInt8} {t : List UInt8} {k u : Nat} (hk : 0 < k) (h : c.toNat = 0) : num (c :: t) k u = none := by
  rw [num, if_neg (by omega), if_neg (by omega), if_pos ⟨h, hk⟩]

def NextJ (b : Nat) (s : ByteArray) (p : Nat) (w : World) (l : Nat) (a : Act) (w' : World) : Prop :=
  w = w' ∧ ((l = 1 ∧ ∃ k u : Nat, AtNext b (.int .u64 u) (.int .u64 ((7 * k : Nat) : Int)) (.int .i64 ((p + k : Nat) : Int)) a ∧ k ≤ 9 ∧ 1 ≤ k ∧ p + k ≤ s.size ∧ u < 2 ^ (7 * k) ∧ num (s.data.toList.drop (p + k)) k u = num (s.data.toList.drop p) 0 0) ∨
    (l = 0 ∧ AtWrong b a ∧ num (s.data.toList.drop p) 0 0 = none))
def nextM (l : Nat) (a : Act) (_ : World) : Nat := if l = 1 then (100 - intOf (a.tmps.getD 4 undef)).toNat + 1 else 0

set_option maxRecDepth 100000 in
set_option maxHeartbeats 4000000 in
theorem rnum_any (b : Nat) (s : ByteArray) (p : Nat) (w : World) (hs : s.size ≤ 1000000) (hp : p ≤ s.size) (hr : Rd 75 w b s p false) :
    Calls Try.prog 66 #[.pointer (some ⟨b, 0, none⟩)] w (NumPost 75 b s p w) := by
  obtain ⟨hc0, hc1, hc2⟩ := hr.cells
  have hf1 := hr.frozen 1
  have hf2 := hr.frozen 2
  have HR := Lib.hid hr
  clear hr
  go_enter Try.func66, Try.ntmps66
  go_wp2
  refine wp_scope_labels (NextJ b s p w) nextM ?_ ?_
  · by_cases hlt : p < s.size
    · have hx := s[p].toNat_lt
      obtain ⟨x, hxe⟩ : ∃ x : Nat, x = s[p].toNat % 128 := ⟨_, rfl⟩
      have ha := andNot_128 s[p].toNat hx
      rw [← hxe] at ha
      have hx2 : x < 128 := by omega
      have ho : bits .or .u64 0 (x : Int) = (x : Int) := by
        have h := (or_above 0 0 x (by omega) (by decide) hx2 (by omega)).2.2.2
        simpa using h
      by_cases hm : 128 ≤ s[p].toNat
      · have HN := Lib.hid (show num (s.data.toList.drop (p + 1)) 1 x = num (s.data.toList.drop p) 0 0 by
          rw [drop_at s p hlt, num_go (fun h => absurd h (by decide)) hm, hxe]; simp)
        clear hxe
        go_wp2
        go_step3
        go_wp2
        go_step3
        show NextJ b s p w 1 _ _
        exact ⟨rfl, Or.inl ⟨rfl, 1, x, ⟨_, _, _, _, _, _, _, _, _, _, _, _, _, _, _, _, _, _, _, _, _, _, _, _, _, _, _, _, _, _, _, _, _, _, _, _, _, _, _, _, _, _, _, _, _, _, _, _, _, _, _, _, _, _, _, _, _, _, _, _, rfl⟩, by omega, by omega, by omega, by omega, HN.out⟩⟩
      · have HN := Lib.hid (show rd (s.data.toList.drop p) = some (unfold x, 1) from rd_of (by
          rw [drop_at s p hlt, num_last (fun h => absurd h (by decide)) (by omega) (fun h => absurd h (by decide)), hxe]; simp))
        clear hxe
        have HU := Lib.hid (fun w => unfold_any x w (by omega))
        go_wp2
        go_step3
        go_wp2_with (go_at_call 79; (with_reducible refine (HU.out _).mono ?_); rintro e w1 ⟨rfl, rfl⟩)
        all_goals
          rw [jumps_ret]
          go_ret
          exact Or.inl ⟨_, _, HN.out, rfl, HR.out.setAt _, by_set (by_refl _ _) _ _⟩
    · have HN := Lib.hid (show num (s.data.toList.drop p) 0 0 = none by rw [drop_end s p hlt]; rfl)
      go_wp2
      go_step3
      go_wp2
      go_step3
      show NextJ b s p w 0 _ _
      exact ⟨rfl, Or.inr ⟨rfl, ⟨_, _, _, ⟨_, _, _, _, _, _, _, _, _, _, _, _, _, _, _, _, _, _, _, _, _, _, _, _, _, _, _, _, _, _, _, _, _, _, _, _, _, _, _, _, _, _, _, _, _, _, _, _, _, _, _, _, _, _, _, _, _, _, _, _, rfl⟩⟩, HN.out⟩⟩
  · rintro l a w' ⟨rfl, ⟨rfl, k, u, hA, hk9, hk1, hpk, hu, hnum⟩ | ⟨rfl, hA, hnum⟩⟩
    · refine ⟨_, rfl, ?_⟩
      obtain ⟨q, hq⟩ : ∃ q, p + k = q := ⟨_, rfl⟩
      rw [hq] at hA hpk hnum
      have HQ := Lib.hid hq
      have HN := Lib.hid hnum
      clear hnum hq
      by_cases hlt : q < s.size
      · have hx := s[q].toNat_lt
        have HD := Lib.hid (drop_at s q hlt)
        obtain ⟨x, hxe⟩ : ∃ x : Nat, x = s[q].toNat % 128 := ⟨_, rfl⟩
        have ha := andNot_128 s[q].toNat hx
        rw [← hxe] at ha
        have hx2 : x < 128 := by omega
        have HX := Lib.hid hxe
        clear hxe
        by_cases h9 : k = 9
        · subst h9
          have e63 : ((7 * 9 : Nat) : Int) = 63 := rfl
          rw [e63] at hA
          obtain ⟨x5, x7, x8, x9, x10, x11, x12, x13, x14, x15, x16, x17, x18, x19, x20, x21, x22, x23, x24, x25, x26, x27, x28, x29, x30, x31, x32, x33, x34, x35, x36, x37, x38, x39, x40, x41, x42, x43, x44, x45, x46, x47, x48, x49, x50, x51, x52, x53, x54, x55, x56, x57, x58, x59, x60, x61, x62, x63, x64, x65, rfl⟩ := hA
          by_cases hb1 : 1 < s[q].toNat
          · have HW := Lib.hid (show num (s.data.toList.drop p) 0 0 = none by rw [← HN.out, HD.out, num_over hb1])
            go_wp2
            go_step3
            show NextJ b s p w 0 _ _ ∧ _
            exact ⟨⟨rfl, Or.inr ⟨rfl, ⟨_, _, _, ⟨_, _, _, _, _, _, _, _, _, _, _, _, _, _, _, _, _, _, _, _, _, _, _, _, _, _, _, _, _, _, _, _, _, _, _, _, _, _, _, _, _, _, _, _, _, _, _, _, _, _, _, _, _, _, _, _, _, _, _, _, rfl⟩⟩, HW.out⟩⟩, by simp [nextM]⟩
          · by_cases hb0 : s[q].toNat = 0
            · have HW := Lib.hid (show num (s.data.toList.drop p) 0 0 = none by rw [← HN.out, HD.out, num_more (by omega) hb0])
              go_wp2
              go_step3
              show NextJ b s p w 0 _ _ ∧ _
              exact ⟨⟨rfl, Or.inr ⟨rfl, ⟨_, _, _, ⟨_, _, _, _, _, _, _, _, _, _, _, _, _, _, _, _, _, _, _, _, _, _, _, _, _, _, _, _, _, _, _, _, _, _, _, _, _, _, _, _, _, _, _, _, _, _, _, _, _, _, _, _, _, _, _, _, _, _, _, _, rfl⟩⟩, HW.out⟩⟩, by simp [nextM]⟩
            · obtain ⟨y1, y2, y3, y4⟩ := or_above 9 u x (by omega) hu hx2 (fun _ => by have := HX.out; omega)
              obtain ⟨y, hy⟩ : ∃ y, 2 ^ (7 * 9) * x = y := ⟨_, rfl⟩
              obtain ⟨z, hz⟩ : ∃ z, u + y = z := ⟨_, rfl⟩
              rw [hy] at y1 y2 y3 y4
              rw [hz] at y2 y3 y4
              have hsh : IntKind.u64.wrap ((x : Int) * 9223372036854775808) = (y : Int) := by
                rw [show (x : Int) * 9223372036854775808 = (y : Int) by omega, IntWalk.u64_in _ (by omega)]
              have HW := Lib.hid (show rd (s.data.toList.drop p) = some (unfold z, 9 + 1) from rd_of (by
                rw [← HN.out, HD.out, num_last (fun _ => by omega) (by omega) (fun _ => by omega), ← HX.out, hy, hz]))
              have HU := Lib.hid (fun w => unfold_any z w y2)
              have HS := Lib.hid (show p + 10 = q + 1 by have := HQ.out; omega)
              clear hy hz y3 hu
              go_wp2_with (go_at_call 79; (with_reducible refine (HU.out _).mono ?_); rintro e w1 ⟨rfl, rfl⟩)
              rw [jumps_ret]
              go_ret
              exact Or.inl ⟨_, _, HW.out, rfl, by rw [show p + (9 + 1) = q + 1 from HS.out]; exact HR.out.setAt (q + 1), by_set (by_refl _ _) _ _⟩
        · obtain ⟨y1, y2, y3, y4⟩ := or_above k u x (by omega) hu hx2 (by omega)
          obtain ⟨y, hy⟩ : ∃ y, 2 ^ (7 * k) * x = y := ⟨_, rfl⟩
          obtain ⟨z, hz⟩ : ∃ z, u + y = z := ⟨_, rfl⟩
          rw [hy] at y1 y2 y3 y4
          rw [hz] at y2 y3 y4
          obtain ⟨m, hm⟩ : ∃ m, 7 * k = m := ⟨_, rfl⟩
          rw [hm] at hA
          have hm1 : 7 ≤ m := by omega
          have hm2 : m ≤ 56 := by omega
          have hsh : IntKind.u64.wrap ((x : Int) * 2 ^ m) = (y : Int) := by
            rw [← hm, show (x : Int) * 2 ^ (7 * k) = (y : Int) by rw [← hy, Int.natCast_mul, Int.natCast_pow, Int.mul_comm]; rfl, IntWalk.u64_in _ (by omega)]
          have hm63 : ¬ m = 63 := by omega
          have HM := Lib.hid hm
          have HY := Lib.hid hy
          have HZ := Lib.hid hz
          have HZ3 := Lib.hid y3
          clear hm hy hz y3 hu
          obtain ⟨x5, x7, x8, x9, x10, x11, x12, x13, x14, x15, x16, x17, x18, x19, x20, x21, x22, x23, x24, x25, x26, x27, x28, x29, x30, x31, x32, x33, x34, x35, x36, x37, x38, x39, x40, x41, x42, x43, x44, x45, x46, x47, x48, x49, x50, x51, x52, x53, x54, x55, x56, x57, x58, x59, x60, x61, x62, x63, x64, x65, rfl⟩ := hA
          by_cases hm : 128 ≤ s[q].toNat
          · have HW := Lib.hid (show num (s.data.toList.drop (q + 1)) (k + 1) z = num (s.data.toList.drop p) 0 0 by
              rw [← HN.out, HD.out, num_go (fun h => absurd h h9) hm, ← HX.out, HY.out, HZ.out])
            go_wp2
            go_step3
            show NextJ b s p w 1 _ _ ∧ _
            refine ⟨⟨rfl, Or.inl ⟨rfl, k + 1, z, ?_, by omega, by omega, by have := HQ.out; omega, HZ3.out, ?_⟩⟩, ?_⟩
            · have e1 : ((7 * (k + 1) : Nat) : Int) = (m : Int) + 7 := by have := HM.out; omega
              have e2 : ((p + (k + 1) : Nat) : Int) = (q : Int) + 1 := by have := HQ.out; omega
              rw [e1, e2]
              exact ⟨_, _, _, _, _, _, _, _, _, _, _, _, _, _, _, _, _, _, _, _, _, _, _, _, _, _, _, _, _, _, _, _, _, _, _, _, _, _, _, _, _, _, _, _, _, _, _, _, _, _, _, _, _, _, _, _, _, _, _, _, rfl⟩
            · rw [show p + (k + 1) = q + 1 by have := HQ.out; omega]; exact HW.out
            · simp [nextM, intOf]; omega
          · by_cases hb0 : s[q].toNat = 0
            · have HW := Lib.hid (show num (s.data.toList.drop p) 0 0 = none by rw [← HN.out, HD.out, num_more (by omega) hb0])
              go_wp2
              go_step3
              show NextJ b s p w 0 _ _ ∧ _
              exact ⟨⟨rfl, Or.inr ⟨rfl, ⟨_, _, _, ⟨_, _, _, _, _, _, _, _, _, _, _, _, _, _, _, _, _, _, _, _, _, _, _, _, _, _, _, _, _, _, _, _, _, _, _, _, _, _, _, _, _, _, _, _, _, _, _, _, _, _, _, _, _, _, _, _, _, _, _, _, rfl⟩⟩, HW.out⟩⟩, by simp [nextM]⟩
            · have HW := Lib.hid (show rd (s.data.toList.drop p) = some (unfold z, k + 1) from rd_of (by
                rw [← HN.out, HD.out, num_last (fun h => absurd h h9) (by omega) (fun _ => by omega), ← HX.out, HY.out, HZ.out]))
              have HU := Lib.hid (fun w => unfold_any z w y2)
              have HS := Lib.hid (show p + (k + 1) = q + 1 by have := HQ.out; omega)
              go_wp2_with (go_at_call 79; (with_reducible refine (HU.out _).mono ?_); rintro e w1 ⟨rfl, rfl⟩)
              rw [jumps_ret]
              go_ret
              exact Or.inl ⟨_, _, HW.out, rfl, by rw [HS.out]; exact HR.out.setAt (q + 1), by_set (by_refl _ _) _ _⟩
      · have HW := Lib.hid (show num (s.data.toList.drop p) 0 0 = none by rw [← HN.out, drop_end s q hlt]; rfl)
        obtain ⟨x5, x7, x8, x9, x10, x11, x12, x13, x14, x15, x16, x17, x18, x19, x20, x21, x22, x23, x24, x25, x26, x27, x28, x29, x30, x31, x32, x33, x34, x35, x36, x37, x38, x39, x40, x41, x42, x43, x44, x45, x46, x47, x48, x49, x50, x51, x52, x53, x54, x55, x56, x57, x58, x59, x60, x61, x62, x63, x64, x65, rfl⟩ := hA
        go_wp2
        go_step3
        show NextJ b s p w 0 _ _ ∧ _
        exact ⟨⟨rfl, Or.inr ⟨rfl, ⟨_, _, _, ⟨_, _, _, _, _, _, _, _, _, _, _, _, _, _, _, _, _, _, _, _, _, _, _, _, _, _, _, _, _, _, _, _, _, _, _, _, _, _, _, _, _, _, _, _, _, _, _, _, _, _, _, _, _, _, _, _, _, _, _, _, rfl⟩⟩, HW.out⟩⟩, by simp [nextM]⟩
    · refine ⟨_, rfl, ?_⟩
      obtain ⟨u, mv, q, x5, x7, x8, x9, x10, x11, x12, x13, x14, x15, x16, x17, x18, x19, x20, x21, x22, x23, x24, x25, x26, x27, x28, x29, x30, x31, x32, x33, x34, x35, x36, x37, x38, x39, x40, x41, x42, x43, x44, x45, x46, x47, x48, x49, x50, x51, x52, x53, x54, x55, x56, x57, x58, x59, x60, x61, x62, x63, x64, x65, rfl⟩ := hA
      have HN := Lib.hid (rd_none hnum)
      clear hnum
      go_wp2
      rw [jumps_ret]
      go_ret
      exact Or.inr ⟨HN.out, rfl, ⟨p, hp, HR.out.setBad⟩, by_set (by_refl _ _) _ _⟩
end Go.Proofs.Ytfpgfclmmdihjaa

/- What Num of the document's Reader gives; of both, behind Bad. -/
namespace Go.Proofs.Ytfpgfclmmdihjaa
open Go.RowKit Cod

theorem and_127 : ∀ x : Nat, x < 256 → bits .and .u8 (x : Int) 127 = ((x % 128 : Nat) : Int) := by decide +kernel
theorem and_one (z : Nat) (h : z < 18446744073709551616) : bits .and .u64 (z : Int) 1 = ((z % 2 : Nat) : Int) := by
  have k := u64_and_nat z 1 h (by decide)
  rw [Nat.and_one_is_mod] at k
  exact k

set_option maxRecDepth 100000 in
set_option maxHeartbeats 4000000 in
theorem refRnum_any (b : Nat) (s : ByteArray) (p : Nat) (w : World) (hs : s.size ≤ 1000000) (hp : p ≤ s.size) (hr : Rd 77 w b s p false) :
    Calls Try.prog 72 #[.pointer (some ⟨b, 0, none⟩)] w (NumPost 77 b s p w) := by
  have HR := Lib.hid hr
  clear hr
  go_enter Try.func72, Try.ntmps72
  go_wp2
  go_loopw [3, 4] (fun uu i wr => ∃ k u q : Nat, uu = .int .u64 u ∧ i = .int .i64 k ∧ k ≤ 9 ∧ q ≤ s.size ∧ Hid (p + k = q) ∧ Hid (u < 2 ^ (7 * k)) ∧ Hid (num (s.data.toList.drop q) k u = num (s.data.toList.drop p) 0 0) ∧ Rd 77 wr b s q false ∧ w.grownBy wr (some b)) (fun _ i _ => 20 - (intOf i).toNat)
  case atStart => exact ⟨0, 0, p, rfl, rfl, by omega, hp, rfl, Nat.one_pos, rfl, HR.out, by_refl _ _⟩
  case round =>
    obtain ⟨k, u, q, rfl, rfl, hk, hq, HQ, HU, HN, hrr, hby⟩ := hrel
    obtain ⟨hc0, hc1, hc2⟩ := hrr.cells
    have hf1 := hrr.frozen 1
    have hf2 := hrr.frozen 2
    have HRR := Lib.hid hrr
    have HBY := Lib.hid hby
    clear hrr hby
    by_cases hlt : q < s.size
    · have hx := s[q].toNat_lt
      have HD := Lib.hid (drop_at s q hlt)
      obtain ⟨x, hxe⟩ : ∃ x : Nat, x = s[q].toNat % 128 := ⟨_, rfl⟩
      have ha := and_127 s[q].toNat hx
      rw [← hxe] at ha
      have hx2 : x < 128 := by omega
      have HX := Lib.hid hxe
      clear hxe
      have hge : decide (s.size ≤ q) = false := decide_eq_false (by omega)
      have hk10 : ¬ k = 10 := by omega
      by_cases h9 : k = 9
      · subst h9
        by_cases hb1 : 1 < s[q].toNat
        · have HW := Lib.hid (show rd (s.data.toList.drop p) = none from rd_none (by rw [← HN.out, HD.out, num_over hb1]))
          go_wp2
          go_quiet (fail)
          go_wp2
          go_quiet (fail)
          go_wp2
          go_ret
          exact Or.inr ⟨HW.out, rfl, ⟨q + 1, by omega, ((HRR.out.drewN _).setAt (q + 1)).setBad⟩, by_set (by_set (by_drewN HBY.out _) _ _) _ _⟩
        · by_cases hb0 : s[q].toNat = 0
          · have HW := Lib.hid (show rd (s.data.toList.drop p) = none from rd_none (by rw [← HN.out, HD.out, num_more (by omega) hb0]))
            go_wp2
            go_quiet (fail)
            go_wp2
            go_quiet (fail)
            go_wp2
            go_ret
            exact Or.inr ⟨HW.out, rfl, ⟨q + 1, by omega, ((HRR.out.drewN _).setAt (q + 1)).setBad⟩, by_set (by_set (by_drewN HBY.out _) _ _) _ _⟩
          · obtain ⟨y1, y2, y3, y4⟩ := or_above 9 u x (by omega) HU.out hx2 (fun _ => by have := HX.out; omega)
            obtain ⟨y, hy⟩ : ∃ y, 2 ^ (7 * 9) * x = y := ⟨_, rfl⟩
            obtain ⟨z, hz⟩ : ∃ z, u + y = z := ⟨_, rfl⟩
            rw [hy] at y1 y2 y3 y4
            rw [hz] at y2 y3 y4
            have hsh : IntKind.u64.wrap ((x : Int) * 9223372036854775808) = (y : Int) := by
              rw [show (x : Int) * 9223372036854775808 = (y : Int) by omega, IntWalk.u64_in _ (by omega)]
            have HW := Lib.hid (show rd (s.data.toList.drop p) = some (unfold z, 9 + 1) from rd_of (by
              rw [← HN.out, HD.out, num_last (fun _ => by omega) (by omega) (fun _ => by omega), ← HX.out, hy, hz]))
            have HS := Lib.hid (show p + 10 = q + 1 by have := HQ.out; omega)
            have HZ := Lib.hid (show unfold z = if z % 2 = 1 then -1 - ((z / 2 : Nat) : Int) else ((z / 2 : Nat) : Int) from rfl)
            have hand := and_one z y2
            clear hy hz y3
            by_cases hz2 : z % 2 = 1
            · go_wp2
              go_quiet (fail)
              go_wp2
              go_quiet (fail)
              go_wp2
              go_ret
              exact Or.inl ⟨_, _, HW.out, ret_int (by rw [HZ.out, if_pos hz2]; omega), by rw [show p + (9 + 1) = q + 1 from HS.out]; exact (HRR.out.drewN _).setAt (q + 1), by_set (by_drewN HBY.out _) _ _⟩
            · go_wp2
              go_quiet (fail)
              go_wp2
              go_quiet (fail)
              go_wp2
              go_ret
              exact Or.inl ⟨_, _, HW.out, ret_int (by rw [HZ.out, if_neg hz2]; omega), by rw [show p + (9 + 1) = q + 1 from HS.out]; exact (HRR.out.drewN _).setAt (q + 1), by_set (by_drewN HBY.out _) _ _⟩
      · obtain ⟨y1, y2, y3, y4⟩ := or_above k u x (by omega) HU.out hx2 (by omega)
        obtain ⟨y, hy⟩ : ∃ y, 2 ^ (7 * k) * x = y := ⟨_, rfl⟩
        obtain ⟨z, hz⟩ : ∃ z, u + y = z := ⟨_, rfl⟩
        rw [hy] at y1 y2 y3 y4
        rw [hz] at y2 y3 y4
        obtain ⟨m, hm⟩ : ∃ m, 7 * k = m := ⟨_, rfl⟩
        have hm1 : m ≤ 56 := by omega
        have hsh : IntKind.u64.wrap ((x : Int) * 2 ^ m) = (y : Int) := by
          rw [← hm, show (x : Int) * 2 ^ (7 * k) = (y : Int) by rw [← hy, Int.natCast_mul, Int.natCast_pow, Int.mul_comm]; rfl, IntWalk.u64_in _ (by omega)]
        have hmi : 7 * (k : Int) = (m : Int) := by omega
        have HZ3 := Lib.hid y3
        have HY := Lib.hid hy
        have HZZ := Lib.hid hz
        have HM := Lib.hid hm
        clear hm hy hz y3
        by_cases hm : 128 ≤ s[q].toNat
        · have HW := Lib.hid (show num (s.data.toList.drop (q + 1)) (k + 1) z = num (s.data.toList.drop p) 0 0 by
            rw [← HN.out, HD.out, num_go (fun h => absurd h h9) hm, ← HX.out, HY.out, HZZ.out])
          have HS := Lib.hid (show p + (k + 1) = q + 1 by have := HQ.out; omega)
          go_wp2
          go_quiet (fail)
          go_wp2
          go_quiet (fail)
          go_wp2
          go_roundw
          case rel => exact ⟨k + 1, z, q + 1, rfl, by go_num, by omega, by omega, HS, HZ3, HW, (HRR.out.drewN _).setAt (q + 1), by_set (by_drewN HBY.out _) _ _⟩
          case measure => simp [intOf]; omega
        · by_cases hb0 : s[q].toNat = 0
          · by_cases hk0 : k = 0
            · have HS := Lib.hid (show p + (k + 1) = q + 1 by have := HQ.out; omega)
              have HW := Lib.hid (show rd (s.data.toList.drop p) = some (unfold z, k + 1) from rd_of (by
                rw [← HN.out, HD.out, num_last (fun h => absurd h h9) (by omega) (fun _ => by omega), ← HX.out, HY.out, HZZ.out]))
              have HZ := Lib.hid (show unfold z = if z % 2 = 1 then -1 - ((z / 2 : Nat) : Int) else ((z / 2 : Nat) : Int) from rfl)
              have hand := and_one z y2
              have ha0 : bits .and .u8 0 127 = (x : Int) := by have h := ha; rw [hb0] at h; exact h
              have hor0 : bits .or .u64 (u : Int) (x : Int) = (z : Int) := by
                have e : x = y := by have := HY.out; rw [hk0, Nat.mul_zero, Nat.pow_zero, Nat.one_mul] at this; exact this
                rw [e]; exact y4
              by_cases hz2 : z % 2 = 1
              · go_wp2
                go_quiet (fail)
                go_wp2
                go_quiet (fail)
                go_wp2
                go_ret
                exact Or.inl ⟨_, _, HW.out, ret_int (by rw [HZ.out, if_pos hz2]; omega), by rw [HS.out]; exact (HRR.out.drewN _).setAt (q + 1), by_set (by_drewN HBY.out _) _ _⟩
              · go_wp2
                go_quiet (fail)
                go_wp2
                go_quiet (fail)
                go_wp2
                go_ret
                exact Or.inl ⟨_, _, HW.out, ret_int (by rw [HZ.out, if_neg hz2]; omega), by rw [HS.out]; exact (HRR.out.drewN _).setAt (q + 1), by_set (by_drewN HBY.out _) _ _⟩
            · have HW := Lib.hid (show rd (s.data.toList.drop p) = none from rd_none (by rw [← HN.out, HD.out, num_more (by omega) hb0]))
              go_wp2
              go_quiet (fail)
              go_wp2
              go_quiet (fail)
              go_wp2
              go_ret
              exact Or.inr ⟨HW.out, rfl, ⟨q + 1, by omega, ((HRR.out.drewN _).setAt (q + 1)).setBad⟩, by_set (by_set (by_drewN HBY.out _) _ _) _ _⟩
          · have HS := Lib.hid (show p + (k + 1) = q + 1 by have := HQ.out; omega)
            have HW := Lib.hid (show rd (s.data.toList.drop p) = some (unfold z, k + 1) from rd_of (by
              rw [← HN.out, HD.out, num_last (fun h => absurd h h9) (by omega) (fun _ => by omega), ← HX.out, HY.out, HZZ.out]))
            have HZ := Lib.hid (show unfold z = if z % 2 = 1 then -1 - ((z / 2 : Nat) : Int) else ((z / 2 : Nat) : Int) from rfl)
            have hand := and_one z y2
            by_cases hz2 : z % 2 = 1
            · go_wp2
              go_quiet (fail)
              go_wp2
              go_quiet (fail)
              go_wp2
              go_ret
              exact Or.inl ⟨_, _, HW.out, ret_int (by rw [HZ.out, if_pos hz2]; omega), by rw [HS.out]; exact (HRR.out.drewN _).setAt (q + 1), by_set (by_drewN HBY.out _) _ _⟩
            · go_wp2
              go_quiet (fail)
              go_wp2
              go_quiet (fail)
              go_wp2
              go_ret
              exact Or.inl ⟨_, _, HW.out, ret_int (by rw [HZ.out, if_neg hz2]; omega), by rw [HS.out]; exact (HRR.out.drewN _).setAt (q + 1), by_set (by_drewN HBY.out _) _ _⟩
    · have HW := Lib.hid (show rd (s.data.toList.drop p) = none from rd_none (by rw [← HN.out, drop_end s q hlt]; rfl))
      have hge : decide (s.size ≤ q) = true := decide_eq_true (by omega)
      go_wp2
      go_quiet (fail)
      go_wp2
      go_ret
      exact Or.inr ⟨HW.out, rfl, ⟨q, hq, (HRR.out.drewN _).setBad⟩, by_set (by_drewN HBY.out _) _ _⟩
end Go.Proofs.Ytfpgfclmmdihjaa

/- Num of both Readers, in two words: what comes, or that nothing comes. -/
namespace Go.Proofs.Ytfpgfclmmdihjaa
open Go.RowKit Cod

def BadJ (b : Nat) (w : World) (l : Nat) (a : Act) (w' : World) : Prop := w = w' ∧ l = 0 ∧ AtWrong b a

/-- It went wrong already, or nothing comes: the zero value. -/
def No (T : TypeId) (b : Nat) (s : ByteArray) (w : World) (z : Value) (e : Ending) (w' : World) : Prop :=
  e = .returned z ∧ (∃ q, q ≤ s.size ∧ Rd T w' b s q true) ∧ w.grownBy w' (some b)
/-- What comes, and from where on to read. -/
def Yes (T : TypeId) (b : Nat) (s : ByteArray) (w : World) (v : Value) (q : Nat) (e : Ending) (w' : World) : Prop :=
  e = .returned v ∧ Rd T w' b s q false ∧ w.grownBy w' (some b)

set_option maxRecDepth 100000 in
set_option maxHeartbeats 4000000 in
theorem rnum_bad (b : Nat) (s : ByteArray) (p : Nat) (w : World) (hp : p ≤ s.size) (hr : Rd 75 w b s p true) :
    Calls Try.prog 66 #[.pointer (some ⟨b, 0, none⟩)] w (No 75 b s w (.int .i64 0)) := by
  obtain ⟨hc0, hc1, hc2⟩ := hr.cells
  have hf2 := hr.frozen 2
  have HR := Lib.hid hr
  clear hr
  go_enter Try.func66, Try.ntmps66
  go_wp2
  refine wp_scope_labels (BadJ b w) (fun _ _ _ => 0) ?_ ?_
  · go_wp2
    go_step3
    show BadJ b w 0 _ _
    exact ⟨rfl, rfl, ⟨_, _, _, ⟨_, _, _, _, _, _, _, _, _, _, _, _, _, _, _, _, _, _, _, _, _, _, _, _, _, _, _, _, _, _, _, _, _, _, _, _, _, _, _, _, _, _, _, _, _, _, _, _, _, _, _, _, _, _, _, _, _, _, _, _, rfl⟩⟩⟩
  · rintro l a w' ⟨rfl, rfl, hA⟩
    refine ⟨_, rfl, ?_⟩
    obtain ⟨u, mv, q, x5, x7, x8, x9, x10, x11, x12, x13, x14, x15, x16, x17, x18, x19, x20, x21, x22, x23, x24, x25, x26, x27, x28, x29, x30, x31, x32, x33, x34, x35, x36, x37, x38, x39, x40, x41, x42, x43, x44, x45, x46, x47, x48, x49, x50, x51, x52, x53, x54, x55, x56, x57, x58, x59, x60, x61, x62, x63, x64, x65, rfl⟩ := hA
    go_wp2
    rw [jumps_ret]
    go_ret
    exact ⟨rfl, ⟨p, hp, HR.out.setBad⟩, by_set (by_refl _ _) _ _⟩

set_option maxRecDepth 100000 in
set_option maxHeartbeats 4000000 in
theorem refRnum_bad (b : Nat) (s : ByteArray) (p : Nat) (w : World) (hp : p ≤ s.size) (hr : Rd 77 w b s p true) :
    Calls Try.prog 72 #[.pointer (some ⟨b, 0, none⟩)] w (No 77 b s w (.int .i64 0)) := by
  obtain ⟨hc0, hc1, hc2⟩ := hr.cells
  have hf2 := hr.frozen 2
  have HR := Lib.hid hr
  clear hr
  go_enter Try.func72, Try.ntmps72
  go_wp2
  go_loopw [3, 4] (fun u i wr => u = .int .u64 0 ∧ i = .int .i64 0 ∧ w = wr) (fun _ _ _ => 0)
  case atStart => exact ⟨rfl, rfl, rfl⟩
  case round =>
    obtain ⟨rfl, rfl, rfl⟩ := hrel
    go_wp2
    go_ret
    exact ⟨rfl, ⟨p, hp, HR.out.setBad⟩, by_set (by_refl _ _) _ _⟩

theorem list_len (s : ByteArray) (p : Nat) : (s.data.toList.drop p).length = s.size - p := by simp

section
variable {T : TypeId} {b : Nat} {s : ByteArray} {p : Nat} {w : World} {bad : Bool}
theorem post_yes {e : Ending} {w' : World} {n : Int} {m : Nat} (h : rd (s.data.toList.drop p) = some (n, m)) (k : NumPost T b s p w e w') : Yes T b s w (.int .i64 n) (p + m) e w' := by
  rcases k with ⟨n', m', h1, he, hr, hb⟩ | ⟨h1, _⟩
  · rw [h] at h1
    obtain ⟨rfl, rfl⟩ := Prod.mk.inj (Option.some.inj h1)
    exact ⟨he, hr, hb⟩
  · rw [h] at h1; cases h1
theorem post_no {e : Ending} {w' : World} (h : rd (s.data.toList.drop p) = none) (k : NumPost T b s p w e w') : No T b s w (.int .i64 0) e w' := by
  rcases k with ⟨n', m', h1, _⟩ | ⟨_, he, hr, hb⟩
  · rw [h] at h1; cases h1
  · exact ⟨he, hr, hb⟩

/-- The number that stands at p, and what stands behind it. -/
def isNum (s : ByteArray) (p : Nat) (bad : Bool) : Option (Int × Nat) := if bad then none else (rd (s.data.toList.drop p)).map fun x => (x.1, p + x.2)
theorem isNum_some {n : Int} {q : Nat} (h : isNum s p bad = some (n, q)) : bad = false ∧ (∃ m, rd (s.data.toList.drop p) = some (n, m) ∧ q = p + m) ∧ q ≤ s.size ∧ p < q ∧ -9223372036854775808 ≤ n ∧ n ≤ 9223372036854775807 := by
  unfold isNum at h
  cases bad
  · obtain ⟨⟨n', m⟩, h1, h2⟩ := Option.map_eq_some_iff.1 h
    obtain ⟨rfl, rfl⟩ := Prod.mk.inj h2
    obtain ⟨_, _, k1, _, k2, k3, k4⟩ := rd_some h1
    rw [list_len] at k2
    exact ⟨rfl, ⟨m, h1, rfl⟩, by show p + m ≤ _; omega, by show p < p + m; omega, k3, k4⟩
  · cases h
theorem isNum_none (h : isNum s p bad = none) : bad = true ∨ bad = false ∧ rd (s.data.toList.drop p) = none := by
  unfold isNum at h
  cases bad
  · exact Or.inr ⟨rfl, by simpa using h⟩
  · exact Or.inl rfl

theorem rnum_yes {n : Int} {q : Nat} (hs : s.size ≤ 1000000) (hp : p ≤ s.size) (hr : Rd 75 w b s p bad) (h : isNum s p bad = some (n, q)) :
    Calls Try.prog 66 #[.pointer (some ⟨b, 0, none⟩)] w (Yes 75 b s w (.int .i64 n) q) := by
  obtain ⟨rfl, ⟨m, h1, rfl⟩, _⟩ := isNum_some h
  exact (rnum_any b s p w hs hp hr).mono fun _ _ k => post_yes h1 k
theorem rnum_no (hs : s.size ≤ 1000000) (hp : p ≤ s.size) (hr : Rd 75 w b s p bad) (h : isNum s p bad = none) :
    Calls Try.prog 66 #[.pointer (some ⟨b, 0, none⟩)] w (No 75 b s w (.int .i64 0)) := by
  rcases isNum_none h with rfl | ⟨rfl, h1⟩
  · exact rnum_bad b s p w hp hr
  · exact (rnum_any b s p w hs hp hr).mono fun _ _ k => post_no h1 k
theorem refRnum_yes {n : Int} {q : Nat} (hs : s.size ≤ 1000000) (hp : p ≤ s.size) (hr : Rd 77 w b s p bad) (h : isNum s p bad = some (n, q)) :
    Calls Try.prog 72 #[.pointer (some ⟨b, 0, none⟩)] w (Yes 77 b s w (.int .i64 n) q) := by
  obtain ⟨rfl, ⟨m, h1, rfl⟩, _⟩ := isNum_some h
  exact (refRnum_any b s p w hs hp hr).mono fun _ _ k => post_yes h1 k
theorem refRnum_no (hs : s.size ≤ 1000000) (hp : p ≤ s.size) (hr : Rd 77 w b s p bad) (h : isNum s p bad = none) :
    Calls Try.prog 72 #[.pointer (some ⟨b, 0, none⟩)] w (No 77 b s w (.int .i64 0)) := by
  rcases isNum_none h with rfl | ⟨rfl, h1⟩
  · exact refRnum_bad b s p w hp hr
  · exact (refRnum_any b s p w hs hp hr).mono fun _ _ k => post_no h1 k
end

end Go.Proofs.Ytfpgfclmmdihjaa

/- Count and Bool of both Readers. -/
namespace Go.Proofs.Ytfpgfclmmdihjaa
open Go.RowKit Cod

/-- The number from 0 to most that stands at p. -/
def isCount (s : ByteArray) (p : Nat) (bad : Bool) (most : Int) : Option (Int × Nat) :=
  match isNum s p bad with
  | some (n, q) => if 0 ≤ n ∧ n ≤ most then some (n, q) else none
  | none => none

section
variable {b : Nat} {s : ByteArray} {p : Nat} {w : World} {bad : Bool}
theorem isCount_some {most n : Int} {q : Nat} (h : isCount s p bad most = some (n, q)) : isNum s p bad = some (n, q) ∧ 0 ≤ n ∧ n ≤ most := by
  unfold isCount at h
  split at h
  · rename_i n' q' h1
    split at h
    · rename_i h2
      obtain ⟨rfl, rfl⟩ := Prod.mk.inj (Option.some.inj h)
      exact ⟨h1, h2⟩
    · cases h
  · cases h
theorem isCount_none {most : Int} (h : isCount s p bad most = none) : isNum s p bad = none ∨ ∃ n q, isNum s p bad = some (n, q) ∧ (n < 0 ∨ most < n) := by
  unfold isCount at h
  split at h
  · rename_i n' q' h1
    split at h
    · cases h
    · exact Or.inr ⟨n', q', h1, by omega⟩
  · exact Or.inl ‹_›

theorem count_yes {most n : Int} {q : Nat} (hs : s.size ≤ 1000000) (hp : p ≤ s.size) (hr : Rd 75 w b s p bad) (h : isCount s p bad most = some (n, q)) :
    Calls Try.prog 47 #[.pointer (some ⟨b, 0, none⟩), .int .i64 most] w (Yes 75 b s w (.int .i64 n) q) := by
  obtain ⟨h1, h2, h3⟩ := isCount_some h
  have CN := Lib.hid (rnum_yes hs hp hr h1)
  clear h h1 hr
  go_enter Try.func47, Try.ntmps47
  go_wp2_with (go_at_call 66; (with_reducible refine CN.out.mono ?_); rintro e w1 ⟨rfl, hr1, hb1⟩)
  go_ret
  exact ⟨rfl, hr1, hb1⟩

theorem count_no {most : Int} (hs : s.size ≤ 1000000) (hp : p ≤ s.size) (hr : Rd 75 w b s p bad) (h : isCount s p bad most = none) :
    Calls Try.prog 47 #[.pointer (some ⟨b, 0, none⟩), .int .i64 most] w (No 75 b s w (.int .i64 0)) := by
  rcases isCount_none h with h1 | ⟨n, q, h1, h2⟩
  · have CN := Lib.hid (rnum_no hs hp hr h1)
    clear h h1 hr
    by_cases hm : most < 0
    · go_enter Try.func47, Try.ntmps47
      go_wp2_with (go_at_call 66; (with_reducible refine CN.out.mono ?_); rintro e w1 ⟨rfl, ⟨q, hq, hr1⟩, hb1⟩; obtain ⟨hc0, hc1, hc2⟩ := hr1.cells; have hf2 := hr1.frozen 2; have HR := Lib.hid hr1; clear hr1)
      go_ret
      exact ⟨rfl, ⟨q, hq, HR.out.setBad⟩, by_set hb1 _ _⟩
    · go_enter Try.func47, Try.ntmps47
      go_wp2_with (go_at_call 66; (with_reducible refine CN.out.mono ?_); rintro e w1 ⟨rfl, ⟨q, hq, hr1⟩, hb1⟩)
      go_ret
      exact ⟨rfl, ⟨q, hq, hr1⟩, hb1⟩
  · have CN := Lib.hid (rnum_yes hs hp hr h1)
    have hq := (isNum_some h1).2.2.1
    clear h h1 hr
    rcases h2 with h2 | h2
    · go_enter Try.func47, Try.ntmps47
      go_wp2_with (go_at_call 66; (with_reducible refine CN.out.mono ?_); rintro e w1 ⟨rfl, hr1, hb1⟩; obtain ⟨hc0, hc1, hc2⟩ := hr1.cells; have hf2 := hr1.frozen 2; have HR := Lib.hid hr1; clear hr1)
      go_ret
      exact ⟨rfl, ⟨q, hq, HR.out.setBad⟩, by_set hb1 _ _⟩
    · by_cases h0 : n < 0
      · go_enter Try.func47, Try.ntmps47
        go_wp2_with (go_at_call 66; (with_reducible refine CN.out.mono ?_); rintro e w1 ⟨rfl, hr1, hb1⟩; obtain ⟨hc0, hc1, hc2⟩ := hr1.cells; have hf2 := hr1.frozen 2; have HR := Lib.hid hr1; clear hr1)
        go_ret
        exact ⟨rfl, ⟨q, hq, HR.out.setBad⟩, by_set hb1 _ _⟩
      · go_enter Try.func47, Try.ntmps47
        go_wp2_with (go_at_call 66; (with_reducible refine CN.out.mono ?_); rintro e w1 ⟨rfl, hr1, hb1⟩; obtain ⟨hc0, hc1, hc2⟩ := hr1.cells; have hf2 := hr1.frozen 2; have HR := Lib.hid hr1; clear hr1)
        go_ret
        exact ⟨rfl, ⟨q, hq, HR.out.setBad⟩, by_set hb1 _ _⟩

theorem refCount_yes {most n : Int} {q : Nat} (hs : s.size ≤ 1000000) (hp : p ≤ s.size) (hr : Rd 77 w b s p bad) (h : isCount s p bad most = some (n, q)) :
    Calls Try.prog 71 #[.pointer (some ⟨b, 0, none⟩), .int .i64 most] w (Yes 77 b s w (.int .i64 n) q) := by
  obtain ⟨h1, h2, h3⟩ := isCount_some h
  have CN := Lib.hid (refRnum_yes hs hp hr h1)
  clear h h1 hr
  go_enter Try.func71, Try.ntmps71
  go_wp2_with (go_at_call 72; (with_reducible refine CN.out.mono ?_); rintro e w1 ⟨rfl, hr1, hb1⟩; obtain ⟨hc0, hc1, hc2⟩ := hr1.cells)
  go_ret
  exact ⟨rfl, hr1, hb1⟩

theorem refCount_no {most : Int} (hs : s.size ≤ 1000000) (hp : p ≤ s.size) (hr : Rd 77 w b s p bad) (h : isCount s p bad most = none) :
    Calls Try.prog 71 #[.pointer (some ⟨b, 0, none⟩), .int .i64 most] w (No 77 b s w (.int .i64 0)) := by
  rcases isCount_none h with h1 | ⟨n, q, h1, h2⟩
  · have CN := Lib.hid (refRnum_no hs hp hr h1)
    clear h h1 hr
    go_enter Try.func71, Try.ntmps71
    go_wp2_with (go_at_call 72; (with_reducible refine CN.out.mono ?_); rintro e w1 ⟨rfl, ⟨q, hq, hr1⟩, hb1⟩; obtain ⟨hc0, hc1, hc2⟩ := hr1.cells; have hf2 := hr1.frozen 2; have HR := Lib.hid hr1; clear hr1)
    go_ret
    exact ⟨rfl, ⟨q, hq, HR.out.setBad⟩, by_set hb1 _ _⟩
  · have CN := Lib.hid (refRnum_yes hs hp hr h1)
    have hq := (isNum_some h1).2.2.1
    clear h h1 hr
    by_cases h0 : n < 0
    · go_enter Try.func71, Try.ntmps71
      go_wp2_with (go_at_call 72; (with_reducible refine CN.out.mono ?_); rintro e w1 ⟨rfl, hr1, hb1⟩; obtain ⟨hc0, hc1, hc2⟩ := hr1.cells; have hf2 := hr1.frozen 2; have HR := Lib.hid hr1; clear hr1)
      go_ret
      exact ⟨rfl, ⟨q, hq, HR.out.setBad⟩, by_set hb1 _ _⟩
    · have h3 : most < n := by omega
      go_enter Try.func71, Try.ntmps71
      go_wp2_with (go_at_call 72; (with_reducible refine CN.out.mono ?_); rintro e w1 ⟨rfl, hr1, hb1⟩; obtain ⟨hc0, hc1, hc2⟩ := hr1.cells; have hf2 := hr1.frozen 2; have HR := Lib.hid hr1; clear hr1)
      go_ret
      exact ⟨rfl, ⟨q, hq, HR.out.setBad⟩, by_set hb1 _ _⟩

/-- The bool that stands at p. -/
def isBool (s : ByteArray) (p : Nat) (bad : Bool) : Option (Bool × Nat) := (isCount s p bad 1).map fun x => (decide (x.1 = 1), x.2)
theorem isBool_some {v : Bool} {q : Nat} (h : isBool s p bad = some (v, q)) : ∃ n, isCount s p bad 1 = some (n, q) ∧ (n = 1 ∧ v = true ∨ n = 0 ∧ v = false) := by
  unfold isBool at h
  obtain ⟨⟨n, q'⟩, h1, h2⟩ := Option.map_eq_some_iff.1 h
  obtain ⟨rfl, rfl⟩ := Prod.mk.inj h2
  obtain ⟨_, h3, h4⟩ := isCount_some h1
  refine ⟨n, h1, ?_⟩
  by_cases h5 : n = 1
  · exact Or.inl ⟨h5, by simp [h5]⟩
  · exact Or.inr ⟨by omega, by simp [h5]⟩
theorem isBool_none (h : isBool s p bad = none) : isCount s p bad 1 = none := by simpa [isBool] using h

end

end Go.Proofs.Ytfpgfclmmdihjaa
