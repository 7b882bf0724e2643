/- Texts laid one behind the other: Bs, Sf, Sa, Sb, Sc, Sd, Nm, Na, Oa, Cm, Cb, Cc, Cj, Ob, Od, Oc, Cf, Cg, Ch, Ui, Oe, Of, Ck, Og, Frm, Ar, Oi, Ea, Qa, Ia, Ib, Gk, Ka, Kb, Kd, Ke, Kg, Fa. -/
import Derived.Test.YtdcjffajmckleaaGreatDoorChecked
import Derived.WalkKit
import Derived.WalkLawsBesides
import Derived.Lib.Hide
import Derived.KernelRfl
import Derived.Handy
import Derived.Lib.Strings
import Derived.Laws.FloatArith
import Derived.Lib.ItoaNum
import Derived.WalkMore
import Derived.Deep.Draws
import Derived.BigQuiet
import Derived.Deep.QuietTactic
import Derived.Lib.QuietBelow
import Derived.Laws.ResultCell
import Derived.Laws.CopyOwn
import Derived.Lib.SmallJoins
import Derived.Test.YtdcjffajmckleaaGreatDoorRows
import Derived.ProofKit
import Derived.OpenShut
import Derived.ChangeSame
import Derived.Carry
import Derived.Deep.SlicePairs
import Derived.ChangeSlices
import Derived.ChangeShapes
import Derived.Laws.IdiomStrings
/- Small words that all texts share. -/
namespace Go.Proofs.YtdcjffajmckleaaGreatDoor
open Go.RowKit
theorem ret_bool {a b : Bool} (h : b = a) : Ending.returned (.bool a) = .returned (.bool b) := by rw [h]
theorem ret_of {a b : Value} (h : a = b) : Ending.returned a = Ending.returned b := by rw [h]

/-- What was there reads as it did. -/
theorem bcell {W w1 : World} (hb : Below W.heap.size W w1) : (∀ b o, b < W.heap.size → w1.cell? ⟨b, o, none⟩ = W.cell? ⟨b, o, none⟩) ∧ (∀ b o, b < W.heap.size → w1.frozen? ⟨b, o, none⟩ = W.frozen? ⟨b, o, none⟩) :=
  ⟨fun b o h => hb.cell (p := ⟨b, o, none⟩) h, fun b o h => hb.frozen (p := ⟨b, o, none⟩) h⟩
theorem below_then {w w1 w2 : World} (h : Below w.heap.size w w1) (k : Below w1.heap.size w1 w2) : Below w.heap.size w w2 := h.trans (k.mono h.size)
theorem below_alloc {w w1 : World} (h : Below w.heap.size w w1) (o : Obj) : Below w.heap.size w (w1.alloc o) := h.alloc h.size o
theorem below_drew {W w : World} (h : Below W.heap.size W w) (n : Nat) : Below W.heap.size W (w.drewN n) := ⟨h.os, h.tape, h.output, h.size, h.block⟩

theorem alloc_size (w : World) (o : Obj) : (w.alloc o).heap.size = w.heap.size + 1 := by simp
def i64 (n : Int) : Prop := -9223372036854775808 ≤ n ∧ n ≤ 9223372036854775807

/-- The bytes of a text. -/
def L (s : ByteArray) : List UInt8 := s.data.toList
theorem L_len (s : ByteArray) : (L s).length = s.size := by unfold L; simp
theorem L_inj {a b : ByteArray} (h : L a = L b) : a = b := by
  unfold L at h; cases a; cases b; simp at h; rw [h]
theorem L_app (a b : ByteArray) : L (a ++ b) = L a ++ L b := by unfold L; simp
theorem ne_list {a b : ByteArray} (h : ¬ a = b) : ¬ a.toList = b.toList := by
  intro e
  rw [Lib.toList_data, Lib.toList_data] at e
  exact h (L_inj e)
theorem ne_beq {a b : ByteArray} (h : ¬ a = b) : (a.toList == b.toList) = false := by simpa using ne_list h

end Go.Proofs.YtdcjffajmckleaaGreatDoor

/- Floats that hold whole numbers: their words read back as these numbers; sums, differences, comparisons and conversions of them are those of the numbers. Conditions: the numbers are below 2^53. -/
namespace Go.Proofs.YtdcjffajmckleaaGreatDoor.Flo
open Ieee

theorem shl (m k : Nat) : m <<< k = m * 2 ^ k := Nat.shiftLeft_eq m k

theorem signed_eq (s : Bool) (m k : Nat) : signed s m k = (if s then -1 else 1) * ((m : Int) * 2 ^ k) := by
  unfold signed
  cases s <;> simp [shl]

theorem signed_add (s : Bool) (m a k : Nat) : signed s m (a + k) = signed s m a * 2 ^ k := by
  rw [signed_eq, signed_eq, Int.pow_add, ← Int.mul_assoc (m : Int), ← Int.mul_assoc]

theorem cmp_scale (a b : Int) (k : Nat) : compare (a * 2 ^ k) (b * 2 ^ k) = compare a b := by
  have h : (0 : Int) < 2 ^ k := Int.pow_pos (by decide)
  have h1 : a * 2 ^ k < b * 2 ^ k ↔ a < b := Int.mul_lt_mul_right h
  have h2 : a * 2 ^ k = b * 2 ^ k ↔ a = b := Int.mul_eq_mul_right_iff (by omega)
  simp only [compare, compareOfLessAndEq, h1, h2]

theorem dbl_frac : double.fractionBits = 52 := rfl
theorem dbl_least : double.leastPlace = -1074 := by decide
theorem dbl_bin : double.binade = 4503599627370496 := by decide
theorem dbl_inf : double.infRung = 9218868437227405312 := by decide
theorem dbl_sign : double.signWeight = 9223372036854775808 := by decide

theorem read_word (neg : Bool) (r : Nat) (h : r < 9218868437227405312) : double.read (double.word neg r) =
    if r < 4503599627370496 then .number neg r (-1074)
    else .number neg (4503599627370496 + r % 4503599627370496) (-1074 + ((r / 4503599627370496 - 1 : Nat) : Int)) := by
  have e1 : (double.word neg r) % 9223372036854775808 = r := by
    unfold Format.word; rw [dbl_sign]; split <;> omega
  have e2 : ((double.word neg r) / 9223372036854775808 % 2 == 1) = neg := by
    unfold Format.word; rw [dbl_sign]
    cases neg
    · have : r / 9223372036854775808 = 0 := by omega
      simp [this]
    · have : (9223372036854775808 + r) / 9223372036854775808 = 1 := by omega
      simp [this]
  unfold Format.read
  simp only [dbl_sign, dbl_bin, dbl_inf, dbl_least, e1, e2, h, if_true]

theorem log2_mul_pow (c k : Nat) (h : 0 < c) : (c * 2 ^ k).log2 = c.log2 + k := by
  have hp : 0 < 2 ^ k := Nat.two_pow_pos k
  have hc : c ≠ 0 := by omega
  have hne : c * 2 ^ k ≠ 0 := Nat.mul_ne_zero hc (by omega)
  apply (Nat.log2_eq_iff hne).2
  have a := Nat.log2_self_le hc
  have b := Nat.lt_log2_self (n := c)
  constructor
  · rw [Nat.pow_add]; exact Nat.mul_le_mul_right _ a
  · rw [Nat.add_right_comm, Nat.pow_add]; exact (Nat.mul_lt_mul_right hp).2 b

/-- A cut that drops nothing but noughts. -/
theorem cut_even (neg : Bool) (c k d : Nat) (hd : d ≤ k) (hc : 0 < c) : Toward.even.cut neg (c * 2 ^ k) d = c * 2 ^ (k - d) := by
  have hl := log2_mul_pow c k hc
  have hm : min d ((c * 2 ^ k).log2 + 2) = d := by rw [hl]; omega
  have hk : c * 2 ^ k = (c * 2 ^ (k - d)) * 2 ^ d := by rw [Nat.mul_assoc, ← Nat.pow_add]; congr 2; omega
  have hp : 0 < 2 ^ d := Nat.two_pow_pos d
  unfold Toward.cut
  simp only [hm, shl, Nat.one_mul]
  rw [hk, Nat.mul_mod_left, Nat.mul_div_cancel _ hp]
  simp

theorem nearest_scale (neg : Bool) (c k : Nat) (place : Int) (hc : 0 < c) (hb : c < 2 ^ 53) (hp : -1074 ≤ place + k) :
    double.nearest neg (c * 2 ^ k) place =
      double.word neg (min ((max (place + k + c.log2 - 52) (-1074) + 1074).toNat * 4503599627370496 + c * 2 ^ (place + k - max (place + k + c.log2 - 52) (-1074)).toNat) 9218868437227405312) := by
  have hne : ¬ c * 2 ^ k = 0 := by have := Nat.two_pow_pos k; exact Nat.mul_ne_zero (by omega) (by omega)
  have hlc : c.log2 ≤ 52 := by
    have := (Nat.log2_lt (n := c) (k := 53) (by omega)).2 hb; omega
  unfold Format.nearest
  rw [if_neg hne]
  simp only [log2_mul_pow c k hc, dbl_frac, dbl_least, dbl_bin, dbl_inf]
  have e : place + ((c.log2 + k : Nat) : Int) - ((52 : Nat) : Int) = place + k + c.log2 - 52 := by omega
  rw [e]
  generalize hL : max (place + k + c.log2 - 52) (-1074) = last
  have hle : last ≤ place + k := by omega
  by_cases hpl : last ≤ place
  · have e0 : (last - place).toNat = 0 := by omega
    have e1 : (place + k - last).toNat = k + (place - last).toNat := by omega
    rw [e0, shl, Nat.mul_assoc, ← Nat.pow_add, cut_even neg c _ 0 (by omega) hc, e1, Nat.sub_zero, Int.sub_neg]
  · have e0 : (place - last).toNat = 0 := by omega
    have e1 : (place + k - last).toNat = k - (last - place).toNat := by omega
    rw [e0, shl, Nat.pow_zero, Nat.mul_one, cut_even neg c k _ (by omega) hc, e1, Int.sub_neg]

theorem pow_up (c d : Nat) (hc : c < 2 ^ (c.log2 + 1)) (h : c.log2 + d ≤ 52) : c * 2 ^ d < 9007199254740992 := by
  have h1 : c * 2 ^ d < 2 ^ (c.log2 + 1) * 2 ^ d := (Nat.mul_lt_mul_right (Nat.two_pow_pos _)).2 hc
  rw [← Nat.pow_add] at h1
  have h2 : 2 ^ (c.log2 + 1 + d) ≤ 2 ^ 53 := Nat.pow_le_pow_right (by decide) (by omega)
  exact Nat.lt_of_lt_of_le h1 h2

theorem pow_lo (c d : Nat) (hc : 2 ^ c.log2 ≤ c) (h : 52 ≤ c.log2 + d) : 4503599627370496 ≤ c * 2 ^ d := by
  have h1 : 2 ^ c.log2 * 2 ^ d ≤ c * 2 ^ d := Nat.mul_le_mul_right _ hc
  rw [← Nat.pow_add] at h1
  have h2 : 2 ^ 52 ≤ 2 ^ (c.log2 + d) := Nat.pow_le_pow_right (by decide) h
  exact Nat.le_trans h2 h1

theorem read_rung (neg : Bool) (q K : Nat) (hq : q ≤ 2000) (up : K < 9007199254740992) (lo : q = 0 ∨ 4503599627370496 ≤ K) :
    ∃ m e, double.read (double.word neg (min (q * 4503599627370496 + K) 9218868437227405312)) = .number neg m e ∧ -1074 ≤ e ∧ e ≤ -1074 + q ∧ m * 2 ^ (e + 1074).toNat = K * 2 ^ q := by
  have hmin : min (q * 4503599627370496 + K) 9218868437227405312 = q * 4503599627370496 + K := Nat.min_eq_left (by omega)
  rw [hmin, read_word neg _ (by omega)]
  by_cases hk : q * 4503599627370496 + K < 4503599627370496
  · rw [if_pos hk]
    have h0 : q = 0 := by omega
    have h1 : q * 4503599627370496 + K = K := by omega
    rw [h1]
    exact ⟨K, -1074, rfl, Int.le_refl _, by omega, by rw [h0]; rfl⟩
  · rw [if_neg hk]
    have e2 : 4503599627370496 + (q * 4503599627370496 + K) % 4503599627370496 = K := by omega
    have e1 : (q * 4503599627370496 + K) / 4503599627370496 - 1 = q := by omega
    rw [e1, e2]
    exact ⟨K, -1074 + q, rfl, by omega, Int.le_refl _, by rw [show ((-1074 : Int) + q + 1074).toNat = q by omega]⟩

theorem read_nearest (neg : Bool) (c k : Nat) (place : Int) (hc : 0 < c) (hb : c < 2 ^ 53) (hp : -1074 ≤ place + k) (hu : place + k ≤ 900) :
    ∃ m e, double.read (double.nearest neg (c * 2 ^ k) place) = .number neg m e ∧ -1074 ≤ e ∧ e ≤ max (place + k + c.log2 - 52) (-1074) ∧ m * 2 ^ (e + 1074).toNat = c * 2 ^ (place + k + 1074).toNat := by
  rw [nearest_scale neg c k place hc hb hp]
  have hlc : c.log2 ≤ 52 := by
    have := (Nat.log2_lt (n := c) (k := 53) (by omega)).2 hb; omega
  generalize place + k = P at *
  have hc0 : c ≠ 0 := by omega
  have a := Nat.log2_self_le hc0
  have b := Nat.lt_log2_self (n := c)
  generalize hL : max (P + c.log2 - 52) (-1074) = last
  obtain ⟨q, hq⟩ : ∃ q : Nat, last = -1074 + q := ⟨(last + 1074).toNat, by omega⟩
  have hq4 : (last + 1074).toNat = q := by omega
  rw [hq4]
  obtain ⟨m, e, h1, h2, h3, h4⟩ := read_rung neg q (c * 2 ^ (P - last).toNat) (by omega) (pow_up c _ b (by omega))
    (by by_cases h : q = 0
        · exact Or.inl h
        · exact Or.inr (pow_lo c _ a (by omega)))
  refine ⟨m, e, h1, h2, by omega, ?_⟩
  rw [h4, Nat.mul_assoc, ← Nat.pow_add]
  congr 2; omega

/-- One, in units of 2^-1074. -/
def U : Int := 2 ^ 1074
theorem U_split (g : Int) (h0 : g ≤ 0) (h1 : -1074 ≤ g) : U = 2 ^ (-g).toNat * 2 ^ (g + 1074).toNat := by
  unfold U; rw [← Int.pow_add]; congr 1; omega
theorem U_pos : 0 < U := Int.pow_pos (by decide)
theorem cmp_U (a b : Int) : compare (a * U) (b * U) = compare a b := cmp_scale a b 1074
theorem nat_pow (n k : Nat) : ((n * 2 ^ k : Nat) : Int) = n * 2 ^ k := by rw [Int.natCast_mul, Int.natCast_pow]; rfl
theorem U_nat (n : Nat) : ((n * 2 ^ 1074 : Nat) : Int) = n * U := nat_pow n 1074
theorem mul_pow_add (m k b : Nat) : (m : Int) * 2 ^ (k + b) = ((m * 2 ^ k : Nat) : Int) * 2 ^ b := by rw [nat_pow, Int.pow_add, Int.mul_assoc]
theorem U_mul (m k : Nat) : (m : Int) * 2 ^ (k + 1074) = ((m * 2 ^ k : Nat) : Int) * U := mul_pow_add m k 1074
attribute [irreducible] U

/-- The word x is the float of the whole number n. -/
def IsInt (x : Nat) (n : Int) : Prop := ∃ s m e, double.read x = .number s m e ∧ -1074 ≤ e ∧ e ≤ 0 ∧ signed s m (e + 1074).toNat = n * U

/-- The word x is a number of value v, in units of 2^-1074. -/
def Val (x : Nat) (v : Int) : Prop := ∃ s m e, double.read x = .number s m e ∧ -1074 ≤ e ∧ signed s m (e + 1074).toNat = v

theorem IsInt.val {x : Nat} {n : Int} (h : IsInt x n) : Val x (n * U) := by
  obtain ⟨s, m, e, h1, h2, _, h4⟩ := h; exact ⟨s, m, e, h1, h2, h4⟩

theorem order_val {x y : Nat} {a b : Int} (hx : Val x a) (hy : Val y b) : double.order x y = some (compare a b) := by
  obtain ⟨s, m, i, h1, h2, rfl⟩ := hx
  obtain ⟨t, n, j, k1, k2, rfl⟩ := hy
  unfold Format.order
  rw [h1, k1]
  simp only [Datum.order]
  have e1 : (i + 1074).toNat = (i - min i j).toNat + (min i j + 1074).toNat := by omega
  have e2 : (j + 1074).toNat = (j - min i j).toNat + (min i j + 1074).toNat := by omega
  rw [e1, e2, signed_add, signed_add, cmp_scale]

theorem order_int {x y : Nat} {a b : Int} (hx : IsInt x a) (hy : IsInt y b) : double.order x y = some (compare a b) := by
  rw [order_val hx.val hy.val, cmp_U]

theorem isInt_nearest (neg : Bool) (c k : Nat) (place : Int) (hb : c < 2 ^ 53) (hp : place + k = 0) (hz : c = 0 → neg = neg) :
    IsInt (double.nearest neg (c * 2 ^ k) place) (if neg then -(c : Int) else c) := by
  by_cases hc : c = 0
  · subst hc
    have : double.nearest neg (0 * 2 ^ k) place = double.word neg 0 := by unfold Format.nearest; simp
    rw [this]
    refine ⟨neg, 0, -1074, ?_, by omega, by omega, ?_⟩
    · rw [read_word neg 0 (by decide)]; simp
    · rw [signed_eq]; cases neg <;> simp
  · obtain ⟨m, e, h1, h2, h3, h4⟩ := read_nearest neg c k place (by omega) hb (by omega) (by omega)
    have hlc : c.log2 ≤ 52 := by
      have := (Nat.log2_lt (n := c) (k := 53) hc).2 hb; omega
    refine ⟨neg, m, e, h1, h2, by omega, ?_⟩
    rw [hp, show ((0 : Int) + 1074).toNat = 1074 by rfl] at h4
    have h5 : (m : Int) * 2 ^ (e + 1074).toNat = c * U := by rw [← U_nat, ← h4, Int.natCast_mul, Int.natCast_pow]; rfl
    rw [signed_eq, h5]
    cases neg
    · simp
    · simp [Int.neg_mul]

theorem isInt_ofInt (n : Int) (h : n.natAbs < 2 ^ 53) : IsInt (floatOfInt .f64 n) n := by
  have := isInt_nearest (decide (n < 0)) n.natAbs 0 0 h rfl (fun _ => rfl)
  rw [Nat.pow_zero, Nat.mul_one] at this
  have e : (if decide (n < 0) = true then -(n.natAbs : Int) else n.natAbs) = n := by
    by_cases hn : n < 0
    · simp only [hn, decide_true, if_true]; omega
    · simp only [hn, decide_false]; simp; omega
  rw [e] at this
  exact this

/-- The sum of two data of whole numbers, written, is the sum's float. -/
theorem isInt_sum {s t : Bool} {m n : Nat} {i j : Int} {a b : Int} (hi : -1074 ≤ i) (hi0 : i ≤ 0) (hj : -1074 ≤ j) (hj0 : j ≤ 0)
    (ha : signed s m (i + 1074).toNat = a * U) (hb : signed t n (j + 1074).toNat = b * U) (hab : (a + b).natAbs < 2 ^ 53) :
    ∃ d, (Datum.number s m i).sum (.number t n j) = some d ∧ IsInt (double.write d) (a + b) := by
  refine ⟨_, rfl, ?_⟩
  simp only [Format.write]
  have e1 : (i + 1074).toNat = (i - min i j).toNat + (min i j + 1074).toNat := by omega
  have e2 : (j + 1074).toNat = (j - min i j).toNat + (min i j + 1074).toNat := by omega
  rw [e1, signed_add] at ha
  rw [e2, signed_add] at hb
  generalize hA : signed s m (i - min i j).toNat = A at *
  generalize hB : signed t n (j - min i j).toNat = B at *
  generalize hg : min i j = g at *
  have hg0 : g ≤ 0 := by omega
  have hg1 : -1074 ≤ g := by omega
  have hU := U_split g hg0 hg1
  have hp : (0 : Int) < 2 ^ (g + 1074).toNat := Int.pow_pos (by decide)
  have hs : A + B = (a + b) * 2 ^ (-g).toNat := by
    apply Int.eq_of_mul_eq_mul_right (a := 2 ^ (g + 1074).toNat) (by omega)
    rw [Int.add_mul, ha, hb, Int.mul_assoc, ← hU, Int.add_mul]
  have hn : (A + B).natAbs = (a + b).natAbs * 2 ^ (-g).toNat := by
    rw [hs, Int.natAbs_mul, Int.natAbs_pow]; rfl
  have hq : (0 : Int) < 2 ^ (-g).toNat := Int.pow_pos (by decide)
  have hlt : A + B < 0 ↔ a + b < 0 := by
    rw [hs]
    constructor
    · intro h
      rcases Int.lt_or_le (a + b) 0 with h' | h'
      · exact h'
      · have := Int.mul_nonneg h' (Int.le_of_lt hq); omega
    · intro h; exact Int.mul_neg_of_neg_of_pos h hq
  have hz : A + B = 0 ↔ a + b = 0 := by
    rw [hs]; constructor
    · intro h; rcases Int.mul_eq_zero.1 h with h' | h'
      · exact h'
      · omega
    · intro h; rw [h]; simp
  rw [hn]
  by_cases h0 : a + b = 0
  · have := isInt_nearest (if A + B = 0 then s && t else decide (A + B < 0)) (a + b).natAbs (-g).toNat g hab (by omega) (fun _ => rfl)
    have e : (if (if A + B = 0 then s && t else decide (A + B < 0)) = true then -((a + b).natAbs : Int) else (a + b).natAbs) = a + b := by
      have : ((a + b).natAbs : Int) = 0 := by omega
      rw [this, h0]; simp
    rw [e] at this
    exact this
  · have hz' : ¬ A + B = 0 := fun h => h0 (hz.1 h)
    rw [if_neg hz']
    have := isInt_nearest (decide (A + B < 0)) (a + b).natAbs (-g).toNat g hab (by omega) (fun _ => rfl)
    have e : (if decide (A + B < 0) = true then -((a + b).natAbs : Int) else (a + b).natAbs) = a + b := by
      by_cases h : a + b < 0
      · have h' := hlt.2 h
        simp only [h', decide_true, if_true]; omega
      · have h' : ¬ A + B < 0 := fun x => h (hlt.1 x)
        simp only [h', decide_false]; simp; omega
    rw [e] at this
    exact this

theorem add_int {x y : Nat} {a b : Int} (hx : IsInt x a) (hy : IsInt y b) (hab : (a + b).natAbs < 2 ^ 53) :
    ∃ r, floatBits .add .f64 x y = some r ∧ IsInt r (a + b) := by
  obtain ⟨s, m, i, h1, h2, h3, h4⟩ := hx
  obtain ⟨t, n, j, k1, k2, k3, k4⟩ := hy
  obtain ⟨d, hd, hi⟩ := isInt_sum h2 h3 k2 k3 h4 k4 hab
  refine ⟨double.write d, ?_, hi⟩
  show ((double.read x).sum (double.read y)).map double.write = _
  rw [h1, k1, hd]; rfl

theorem sub_int {x y : Nat} {a b : Int} (hx : IsInt x a) (hy : IsInt y b) (hab : (a - b).natAbs < 2 ^ 53) :
    ∃ r, floatBits .sub .f64 x y = some r ∧ IsInt r (a - b) := by
  obtain ⟨s, m, i, h1, h2, h3, h4⟩ := hx
  obtain ⟨t, n, j, k1, k2, k3, k4⟩ := hy
  have k5 : signed (!t) n (j + 1074).toNat = (-b) * U := by
    rw [signed_eq] at k4 ⊢
    rw [Int.neg_mul, ← k4]; cases t <;> simp
  obtain ⟨d, hd, hi⟩ := isInt_sum h2 h3 k2 k3 h4 k5 (by rw [← Int.sub_eq_add_neg]; exact hab)
  refine ⟨double.write d, ?_, by rw [Int.sub_eq_add_neg]; exact hi⟩
  show ((double.read x).sum (double.read y).opposite).map double.write = _
  rw [h1, k1]
  show ((Datum.number s m i).sum (Datum.number (!t) n j)).map double.write = _
  rw [hd]; rfl

/-- What a float compares with a whole number as not below and not above is a number. -/
theorem val_of_bounds {x lo hi : Nat} {a b : Int} (hlo : IsInt lo a) (hhi : IsInt hi b)
    (h1 : double.order lo x = some .lt ∨ double.order lo x = some .eq) (h2 : double.order x hi = some .lt ∨ double.order x hi = some .eq) :
    ∃ v, Val x v ∧ a * U ≤ v ∧ v ≤ b * U := by
  have hnum : ∃ s m e, double.read x = .number s m e ∧ -1074 ≤ e := by
    obtain ⟨s, m, i, l1, _, _, _⟩ := hlo
    obtain ⟨t, n, j, k1, _, _, _⟩ := hhi
    unfold Format.order at h1 h2
    rw [l1] at h1
    rw [k1] at h2
    have hread : double.read x = double.read x := rfl
    cases hr : double.read x with
    | number s m e =>
      refine ⟨s, m, e, rfl, ?_⟩
      unfold Format.read at hr
      simp only [dbl_least] at hr
      split at hr
      · cases hr; omega
      · split at hr
        · cases hr; omega
        · split at hr <;> cases hr
    | infinity sg =>
      rw [hr] at h1 h2
      cases sg <;> simp [Datum.order] at h1 h2
    | nan sg f =>
      rw [hr] at h1 h2
      simp [Datum.order] at h1
  obtain ⟨s, m, e, hr, he⟩ := hnum
  have hv : Val x (signed s m (e + 1074).toNat) := ⟨s, m, e, hr, he, rfl⟩
  refine ⟨_, hv, ?_, ?_⟩
  · rw [order_val hlo.val hv] at h1
    simp only [Option.some.injEq] at h1
    rcases h1 with h | h
    · exact Int.le_of_lt (Int.compare_eq_lt.1 h)
    · exact Int.le_of_eq (Int.compare_eq_eq.1 h)
  · rw [order_val hv hhi.val] at h2
    simp only [Option.some.injEq] at h2
    rcases h2 with h | h
    · exact Int.le_of_lt (Int.compare_eq_lt.1 h)
    · exact Int.le_of_eq (Int.compare_eq_eq.1 h)

theorem cut_zero (s : Bool) (n d : Nat) : Toward.zero.cut s n d = n / 2 ^ d := by
  unfold Toward.cut
  simp only [shl, Nat.one_mul, Bool.toNat_false, Nat.add_zero]
  by_cases h : d ≤ n.log2 + 2
  · rw [Nat.min_eq_left h]
  · rw [Nat.min_eq_right (by omega)]
    have h1 : n < 2 ^ (n.log2 + 1) := Nat.lt_log2_self
    have h2 : 2 ^ (n.log2 + 1) ≤ 2 ^ (n.log2 + 2) := Nat.pow_le_pow_right (by decide) (by omega)
    have h3 : 2 ^ (n.log2 + 2) ≤ 2 ^ d := Nat.pow_le_pow_right (by decide) (by omega)
    rw [Nat.div_eq_of_lt (Nat.lt_of_lt_of_le h1 h2), Nat.div_eq_of_lt (Nat.lt_of_lt_of_le h1 (Nat.le_trans h2 h3))]

theorem div_bounds (m d k : Nat) : ((m / 2 ^ d : Nat) : Int) * (2 ^ d * 2 ^ k) ≤ (m : Int) * 2 ^ k ∧ (m : Int) * 2 ^ k < (((m / 2 ^ d : Nat) : Int) + 1) * (2 ^ d * 2 ^ k) := by
  have hp : 0 < 2 ^ d := Nat.two_pow_pos d
  have h1 : m / 2 ^ d * 2 ^ d ≤ m := Nat.div_mul_le_self m (2 ^ d)
  have h2 : m < (m / 2 ^ d + 1) * 2 ^ d := by
    have := Nat.lt_div_mul_add (a := m) hp
    rw [Nat.add_mul, Nat.one_mul]; exact this
  have k0 : (0 : Int) < 2 ^ k := Int.pow_pos (by decide)
  have h1' : ((m / 2 ^ d : Nat) : Int) * 2 ^ d ≤ m := by rw [← nat_pow]; exact Int.ofNat_le.2 h1
  have h2' : (m : Int) < (((m / 2 ^ d : Nat) : Int) + 1) * 2 ^ d := by
    have : ((m / 2 ^ d + 1 : Nat) : Int) = ((m / 2 ^ d : Nat) : Int) + 1 := rfl
    rw [← this, ← nat_pow]; exact Int.ofNat_lt.2 h2
  rw [← Int.mul_assoc, ← Int.mul_assoc]
  exact ⟨Int.mul_le_mul_of_nonneg_right h1' (Int.le_of_lt k0), Int.mul_lt_mul_of_pos_right h2' k0⟩

/-- A number that is not below nought, cut towards nought. -/
theorem toInt_val {x : Nat} {v : Int} (hx : Val x v) (h0 : 0 ≤ v) : ∃ n : Nat, (double.read x).toInt .zero = some (n : Int) ∧ (n : Int) * U ≤ v ∧ v < ((n : Int) + 1) * U := by
  obtain ⟨s, m, e, h1, h2, h3⟩ := hx
  rw [h1]
  simp only [Datum.toInt, Datum.integral, shl, cut_zero]
  have hs : s = false ∨ m = 0 := by
    cases s
    · exact Or.inl rfl
    · right
      rw [signed_eq] at h3
      have hp : (0 : Int) < 2 ^ (e + 1074).toNat := Int.pow_pos (by decide)
      rcases Nat.eq_zero_or_pos m with h | h
      · exact h
      · have : (0 : Int) < (m : Int) * 2 ^ (e + 1074).toNat := Int.mul_pos (by omega) hp
        simp only [if_true] at h3
        omega
  have hv : v = (m : Int) * 2 ^ (e + 1074).toNat := by
    rw [← h3, signed_eq]
    rcases hs with h | h
    · rw [h]; simp
    · rw [h]; simp
  by_cases he : 0 ≤ e
  · refine ⟨m * 2 ^ e.toNat, ?_, ?_⟩
    · have e0 : (-e).toNat = 0 := by omega
      rw [e0, Nat.pow_zero, Nat.div_one, signed_eq]
      rcases hs with h | h
      · rw [h]; simp
      · rw [h]; simp
    · have : v = ((m * 2 ^ e.toNat : Nat) : Int) * U := by
        rw [hv, ← U_mul]; congr 2; omega
      rw [this]
      have := U_pos
      exact ⟨Int.le_refl _, Int.mul_lt_mul_of_pos_right (by omega) this⟩
  · have e0 : e.toNat = 0 := by omega
    refine ⟨m / 2 ^ (-e).toNat, ?_, ?_⟩
    · rw [e0, Nat.pow_zero, Nat.mul_one, signed_eq]
      rcases hs with h | h
      · rw [h]; simp
      · rw [h]; simp
    · rw [hv, U_split e (by omega) h2]
      exact div_bounds m (-e).toNat (e + 1074).toNat

theorem lt_of_mulU {a b : Int} (h : a * U < b * U) : a < b := Int.lt_of_mul_lt_mul_right h (Int.le_of_lt U_pos)
theorem le_of_mulU {a b : Int} (h : a * U ≤ b * U) : a ≤ b := Int.le_of_mul_le_mul_right h U_pos
theorem eq_of_mulU {a b : Int} (h : a * U = b * U) : a = b := Int.eq_of_mul_eq_mul_right (by have := U_pos; omega) h

theorem toIntVal_of {x : Nat} {v b : Int} (hx : Val x v) (h0 : 0 ≤ v) (h1 : v ≤ b * U) (hb : b < 4611686018427387904) :
    ∃ n : Int, floatToIntVal .f64 x .i64 = some n ∧ 0 ≤ n ∧ n ≤ b ∧ n * U ≤ v ∧ v < (n + 1) * U := by
  obtain ⟨n, h2, h3, h4⟩ := toInt_val hx h0
  have hn : (n : Int) ≤ b := le_of_mulU (Int.le_trans h3 h1)
  refine ⟨n, ?_, by omega, hn, h3, h4⟩
  have h5 : (FloatKind.f64.decode x).toInt .zero = some (n : Int) := h2
  have h6 : IntKind.i64.min = -9223372036854775808 := by decide
  have h7 : IntKind.i64.max = 9223372036854775807 := by decide
  unfold floatToIntVal
  rw [h5]
  simp only [h6, h7]
  rw [if_pos (by omega)]

end Go.Proofs.YtdcjffajmckleaaGreatDoor.Flo

/- What each function of the stamp layer, and of the document's answer for it, gives. -/
namespace Go.Proofs.YtdcjffajmckleaaGreatDoor
open Go.RowKit

def rightB (C D : Int) : Bool := decide (0 ≤ C ∧ C ≤ 1099511627776 ∧ 0 ≤ D ∧ D < 12)
theorem rightB_of {C D : Int} {b : Bool} (h : b = true ↔ (0 ≤ C ∧ C ≤ 1099511627776 ∧ 0 ≤ D ∧ D < 12)) : Value.bool b = .bool (rightB C D) := by
  unfold rightB; congr 1; rw [Bool.eq_iff_iff, h, decide_eq_true_iff]




theorem stRight_any (C D : Int) (w : World) : Calls Tryz.prog 102 #[.agg #[.int .i64 C, .int .i64 D]] w fun e w' => e = .returned (.bool (rightB C D)) ∧ Below w.heap.size w w' := by
  by_cases h : 0 ≤ C ∧ C ≤ 1099511627776 ∧ 0 ≤ D ∧ D < 12
  · obtain ⟨h1, h2, h3, h4⟩ := h
    go_enter Tryz.func102, Tryz.ntmps102
    go_wp2
    go_ret
    exact ⟨ret_of (rightB_of (by simp; omega)), by go_grown⟩
  · go_enter Tryz.func102, Tryz.ntmps102
    go_wp2
    all_goals go_ret
    all_goals exact ⟨ret_of (rightB_of (by simp; omega)), by go_grown⟩

theorem stRefRight_any (C D : Int) (w : World) : Calls Tryz.prog 27 #[.agg #[.int .i64 C, .int .i64 D]] w fun e w' => e = .returned (.bool (rightB C D)) ∧ Below w.heap.size w w' := by
  by_cases h : 0 ≤ C ∧ C ≤ 1099511627776 ∧ 0 ≤ D ∧ D < 12
  · obtain ⟨h1, h2, h3, h4⟩ := h
    go_enter Tryz.func27, Tryz.ntmps27
    go_wp2
    go_ret
    exact ⟨ret_of (rightB_of (by simp; omega)), by go_grown⟩
  · go_enter Tryz.func27, Tryz.ntmps27
    go_wp2
    all_goals go_ret
    all_goals exact ⟨ret_of (rightB_of (by simp; omega)), by go_grown⟩

/-- The number of a moment. -/
def numOf (C D : Int) : Value := .complex .f64 (floatOfInt .f64 C) (floatOfInt .f64 D)

theorem to_yes (C D : Int) (w : World) (h : rightB C D = true) : Calls Tryz.prog 73 #[.agg #[.int .i64 C, .int .i64 D]] w fun e w' => e = .returned (.tuple #[numOf C D, .bool true]) ∧ Below w.heap.size w w' := by
  have H := Lib.hid h
  clear h
  go_enter Tryz.func73, Tryz.ntmps73
  go_wp2_with (go_at_call 102; refine (stRight_any C D _).mono ?_; rintro e w1 ⟨rfl, hb⟩; rw [H.out]; obtain ⟨hc, hf⟩ := bcell hb)
  go_ret2
  exact ⟨rfl, below_then (below_alloc (Below.refl _ _) _) hb⟩

theorem to_no (C D : Int) (w : World) (h : rightB C D = false) : Calls Tryz.prog 73 #[.agg #[.int .i64 C, .int .i64 D]] w fun e w' => e = .returned (.tuple #[.complex .f64 0 0, .bool false]) ∧ Below w.heap.size w w' := by
  have H := Lib.hid h
  clear h
  go_enter Tryz.func73, Tryz.ntmps73
  go_wp2_with (go_at_call 102; refine (stRight_any C D _).mono ?_; rintro e w1 ⟨rfl, hb⟩; rw [H.out]; obtain ⟨hc, hf⟩ := bcell hb)
  go_ret2
  exact ⟨rfl, below_then (below_alloc (Below.refl _ _) _) hb⟩

/-- x is not below nought and not above m. -/
def leB (x y : Nat) : Bool := FloatKind.f64.format.order x y == some .lt || FloatKind.f64.format.order x y == some .eq
def wiB (x m : Nat) : Bool := leB 0 x && leB x m

theorem within_any (x m : Nat) (w : World) : Calls Tryz.prog 103 #[.float .f64 x, .float .f64 m] w fun e w' => e = .returned (.bool (wiB x m)) ∧ w = w' := by
  go_enter Tryz.func103, Tryz.ntmps103
  go_wp2
  all_goals go_ret
  all_goals exact ⟨ret_of (by simp [wiB, leB, *]), rfl⟩

theorem from_out1 (re im : Nat) (w : World) (h : wiB re 4787326403894837248 = false) : Calls Tryz.prog 74 #[.complex .f64 re im] w fun e w' => e = .returned (.tuple #[.agg #[.int .i64 0, .int .i64 0], .bool false]) ∧ Below w.heap.size w w' := by
  have H := Lib.hid h
  clear h
  go_enter Tryz.func74, Tryz.ntmps74
  go_wp2_with (go_at_call 103; refine (within_any _ _ _).mono ?_; rintro e w1 ⟨rfl, rfl⟩; rw [H.out])
  go_returns
  exact ⟨rfl, by go_grown⟩

end Go.Proofs.YtdcjffajmckleaaGreatDoor

/- What From, Next and Before give. -/
namespace Go.Proofs.YtdcjffajmckleaaGreatDoor
open Go.RowKit

theorem from_out2 (re im : Nat) (w : World) (h : wiB re 4787326403894837248 = true) (h2 : wiB im 4622382067542392832 = false) : Calls Tryz.prog 74 #[.complex .f64 re im] w fun e w' => e = .returned (.tuple #[.agg #[.int .i64 0, .int .i64 0], .bool false]) ∧ Below w.heap.size w w' := by
  have H := Lib.hid h
  have H2 := Lib.hid h2
  clear h h2
  go_enter Tryz.func74, Tryz.ntmps74
  go_wp2_with (go_at_call 103; refine (within_any _ _ _).mono ?_; rintro e w1 ⟨rfl, rfl⟩; (first | rw [H.out] | rw [H2.out]))
  go_returns
  exact ⟨rfl, by go_grown⟩

theorem from_yes (re im : Nat) (C D : Int) (w : World) (h : wiB re 4787326403894837248 = true) (h2 : wiB im 4622382067542392832 = true)
    (h3 : floatToIntVal .f64 re .i64 = some C) (h4 : floatToIntVal .f64 im .i64 = some D) (h5 : rightB C D = true)
    (h6 : FloatKind.f64.format.order (floatOfInt .f64 C) re = some .eq) (h7 : FloatKind.f64.format.order (floatOfInt .f64 D) im = some .eq) :
    Calls Tryz.prog 74 #[.complex .f64 re im] w fun e w' => e = .returned (.tuple #[.agg #[.int .i64 C, .int .i64 D], .bool true]) ∧ Below w.heap.size w w' := by
  have H := Lib.hid h
  have H2 := Lib.hid h2
  have c1 : ∀ w, (convert 163 3 (.float .f64 re)).run Tryz.prog w = .ok (.int .i64 C) w := fun w => run_convert_float_int w 163 3 .f64 .i64 re C (by rw [Tryz.underlying163]; rfl) Tryz.underlying3 h3
  have c2 : ∀ w, (convert 163 3 (.float .f64 im)).run Tryz.prog w = .ok (.int .i64 D) w := fun w => run_convert_float_int w 163 3 .f64 .i64 im D (by rw [Tryz.underlying163]; rfl) Tryz.underlying3 h4
  have H5 := Lib.hid h5
  clear h h2 h3 h4 h5
  go_enter Tryz.func74, Tryz.ntmps74
  go_wp2_with (first | (go_at_call 103; refine (within_any _ _ _).mono ?_; rintro e w1 ⟨rfl, rfl⟩; (first | rw [H.out] | rw [H2.out]))
                      | (go_at_call 73; refine (to_yes C D _ H5.out).mono ?_; rintro e w1 ⟨rfl, hb⟩; obtain ⟨hc, hf⟩ := bcell hb; unfold numOf))
  have k0 : w1.cell? ⟨w.heap.size, 0, none⟩ = some (.int .i64 0) := by rw [hc _ _ (by simp; omega)]; simp [go_sem]
  have k1 : w1.cell? ⟨w.heap.size, 1, none⟩ = some (.int .i64 0) := by rw [hc _ _ (by simp; omega)]; simp [go_sem]
  exact bodyPost_ret (v := .tuple #[.agg #[.int .i64 C, .int .i64 D], .bool true]) (by simp [results, Tryz.results74, go_sem, k0, k1]) rfl ⟨rfl, Below.setCell (Below.setCell (below_then (by go_grown) hb) (Nat.le_refl _) _) (Nat.le_refl _) _⟩

theorem from_no (re im : Nat) (C D : Int) (w : World) (h : wiB re 4787326403894837248 = true) (h2 : wiB im 4622382067542392832 = true)
    (h3 : floatToIntVal .f64 re .i64 = some C) (h4 : floatToIntVal .f64 im .i64 = some D) (h5 : rightB C D = true)
    (h6 : ¬ (FloatKind.f64.format.order (floatOfInt .f64 C) re = some .eq ∧ FloatKind.f64.format.order (floatOfInt .f64 D) im = some .eq)) :
    Calls Tryz.prog 74 #[.complex .f64 re im] w fun e w' => e = .returned (.tuple #[.agg #[.int .i64 0, .int .i64 0], .bool false]) ∧ Below w.heap.size w w' := by
  have H := Lib.hid h
  have H2 := Lib.hid h2
  have c1 : ∀ w, (convert 163 3 (.float .f64 re)).run Tryz.prog w = .ok (.int .i64 C) w := fun w => run_convert_float_int w 163 3 .f64 .i64 re C (by rw [Tryz.underlying163]; rfl) Tryz.underlying3 h3
  have c2 : ∀ w, (convert 163 3 (.float .f64 im)).run Tryz.prog w = .ok (.int .i64 D) w := fun w => run_convert_float_int w 163 3 .f64 .i64 im D (by rw [Tryz.underlying163]; rfl) Tryz.underlying3 h4
  have H5 := Lib.hid h5
  have H6 := Lib.hid h6
  clear h h2 h3 h4 h5 h6
  go_enter Tryz.func74, Tryz.ntmps74
  go_wp2_with (first | (go_at_call 103; refine (within_any _ _ _).mono ?_; rintro e w1 ⟨rfl, rfl⟩; (first | rw [H.out] | rw [H2.out]))
                      | (go_at_call 73; refine (to_yes C D _ H5.out).mono ?_; rintro e w1 ⟨rfl, hb⟩; obtain ⟨hc, hf⟩ := bcell hb; unfold numOf))
  · have k0 : w1.cell? ⟨w.heap.size, 0, none⟩ = some (.int .i64 0) := by rw [hc _ _ (by simp; omega)]; simp [go_sem]
    have k1 : w1.cell? ⟨w.heap.size, 1, none⟩ = some (.int .i64 0) := by rw [hc _ _ (by simp; omega)]; simp [go_sem]
    exact bodyPost_ret (v := .tuple #[.agg #[.int .i64 0, .int .i64 0], .bool false]) (by simp [results, Tryz.results74, go_sem, k0, k1]) rfl ⟨rfl, Below.setCell (Below.setCell (below_then (by go_grown) hb) (Nat.le_refl _) _) (Nat.le_refl _) _⟩
  · rename_i hh
    exact absurd (by simpa using hh) H6.out

/-- A moment of that number. -/
structure IsM (re im : Nat) (C D : Int) : Prop where
  vr : Flo.Val re (C * Flo.U)
  vi : Flo.Val im (D * Flo.U)
  ok : rightB C D = true

theorem rightB_iff {C D : Int} : rightB C D = true ↔ (0 ≤ C ∧ C ≤ 1099511627776 ∧ 0 ≤ D ∧ D < 12) := by unfold rightB; exact decide_eq_true_iff

theorem isInt_c0 : Flo.IsInt 0 0 := Flo.isInt_ofInt 0 (by decide)
theorem isInt_max : Flo.IsInt 4787326403894837248 1099511627776 := Flo.isInt_ofInt 1099511627776 (by decide)
theorem isInt_11 : Flo.IsInt 4622382067542392832 11 := Flo.isInt_ofInt 11 (by decide)
theorem leB_int {x y : Nat} {a b : Int} (hx : Flo.Val x a) (hy : Flo.Val y b) : leB x y = decide (a ≤ b) := by
  have h : FloatKind.f64.format.order x y = some (compare a b) := Flo.order_val hx hy
  unfold leB
  rw [h]
  rcases Int.lt_trichotomy a b with h1 | h1 | h1
  · rw [Int.compare_eq_lt.2 h1]; simp; omega
  · rw [Int.compare_eq_eq.2 h1]; simp; omega
  · rw [Int.compare_eq_gt.2 h1]; simp; omega

theorem leB_or {x y : Nat} (h : leB x y = true) : Ieee.double.order x y = some .lt ∨ Ieee.double.order x y = some .eq := by
  unfold leB at h
  simp only [Bool.or_eq_true, beq_iff_eq] at h
  exact h

/-- A float that lies between nought and a whole number. -/
theorem wi_val {x m : Nat} {b : Int} (hm : Flo.IsInt m b) (h : wiB x m = true) : ∃ v, Flo.Val x v ∧ 0 ≤ v ∧ v ≤ b * Flo.U := by
  unfold wiB at h
  simp only [Bool.and_eq_true] at h
  obtain ⟨v, h1, h2, h3⟩ := Flo.val_of_bounds isInt_c0 hm (leB_or h.1) (leB_or h.2)
  exact ⟨v, h1, by omega, h3⟩

theorem wi_of {x m : Nat} {a b : Int} (hm : Flo.IsInt m b) (hx : Flo.Val x (a * Flo.U)) (h0 : 0 ≤ a) (h1 : a ≤ b) : wiB x m = true := by
  unfold wiB
  have hU := Flo.U_pos
  rw [leB_int isInt_c0.val hx, leB_int hx hm.val, Bool.and_eq_true, decide_eq_true_iff, decide_eq_true_iff]
  exact ⟨Int.mul_le_mul_of_nonneg_right h0 (by omega), Int.mul_le_mul_of_nonneg_right h1 (by omega)⟩

theorem order_eq {x y : Nat} {a b : Int} (hx : Flo.Val x a) (hy : Flo.Val y b) : FloatKind.f64.format.order x y = some .eq ↔ a = b := by
  have h : FloatKind.f64.format.order x y = some (compare a b) := Flo.order_val hx hy
  rw [h, Option.some.injEq]
  exact Int.compare_eq_eq

theorem trunc_exact {x : Nat} {a b : Int} (hx : Flo.Val x (a * Flo.U)) (h0 : 0 ≤ a) (h1 : a ≤ b) (hb : b < 4611686018427387904) : floatToIntVal .f64 x .i64 = some a := by
  have hU := Flo.U_pos
  obtain ⟨n, h2, _, _, h5, h6⟩ := Flo.toIntVal_of hx (Int.mul_nonneg h0 (by omega)) (Int.mul_le_mul_of_nonneg_right h1 (by omega)) hb
  have a1 := Flo.le_of_mulU h5
  have a2 := Flo.lt_of_mulU h6
  rw [h2]; congr 1; omega

theorem val_fun {x : Nat} {a b : Int} (h : Flo.Val x a) (k : Flo.Val x b) : a = b := by
  obtain ⟨s, m, e, h1, h2, h3⟩ := h
  obtain ⟨t, n, f, k1, k2, k3⟩ := k
  rw [h1] at k1
  cases k1
  rw [← h3, ← k3]

/-- WHAT From GIVES: the moment of that number. -/
theorem from_is {re im : Nat} {C D : Int} (h : IsM re im C D) (w : World) : Calls Tryz.prog 74 #[.complex .f64 re im] w fun e w' => e = .returned (.tuple #[.agg #[.int .i64 C, .int .i64 D], .bool true]) ∧ Below w.heap.size w w' := by
  obtain ⟨h1, h2, h3⟩ := h
  have hr := rightB_iff.1 h3
  exact from_yes re im C D w (wi_of isInt_max h1 (by omega) (by omega)) (wi_of isInt_11 h2 (by omega) (by omega)) (trunc_exact h1 (by omega) hr.2.1 (by omega)) (trunc_exact (b := 11) h2 (by omega) (by omega) (by omega)) h3
    ((order_eq (Flo.isInt_ofInt C (by omega)).val h1).2 rfl) ((order_eq (Flo.isInt_ofInt D (by omega)).val h2).2 rfl)

/-- WHAT From GIVES: none. -/
theorem from_none {re im : Nat} (h : ∀ C D, ¬ IsM re im C D) (w : World) : Calls Tryz.prog 74 #[.complex .f64 re im] w fun e w' => e = .returned (.tuple #[.agg #[.int .i64 0, .int .i64 0], .bool false]) ∧ Below w.heap.size w w' := by
  by_cases h1 : wiB re 4787326403894837248 = true
  · by_cases h2 : wiB im 4622382067542392832 = true
    · obtain ⟨v, v1, v2, v3⟩ := wi_val isInt_max h1
      obtain ⟨u, u1, u2, u3⟩ := wi_val isInt_11 h2
      obtain ⟨C, c1, c2, c3, _, _⟩ := Flo.toIntVal_of v1 v2 v3 (by omega)
      obtain ⟨D, d1, d2, d3, _, _⟩ := Flo.toIntVal_of u1 u2 u3 (by omega)
      have hr : rightB C D = true := rightB_iff.2 (by omega)
      refine from_no re im C D w h1 h2 c1 d1 hr (fun ⟨q1, q2⟩ => h C D ⟨?_, ?_, hr⟩)
      · rw [(order_eq (Flo.isInt_ofInt C (by omega)).val v1).1 q1]; exact v1
      · rw [(order_eq (Flo.isInt_ofInt D (by omega)).val u1).1 q2]; exact u1
    · exact from_out2 re im w h1 (by simpa using h2)
  · exact from_out1 re im w (by simpa using h1)

end Go.Proofs.YtdcjffajmckleaaGreatDoor

/- What Next and Before give, and the document's answers. -/
namespace Go.Proofs.YtdcjffajmckleaaGreatDoor
open Go.RowKit

theorem next_no (C D : Int) (w : World) (h : rightB C D = false) : Calls Tryz.prog 46 #[.int .i64 C, .int .i64 D] w fun e w' => e = .returned (.tuple #[.agg #[.int .i64 0, .int .i64 0], .bool false]) ∧ Below w.heap.size w w' := by
  have H := Lib.hid h
  clear h
  go_enter Tryz.func46, Tryz.ntmps46
  go_wp2_with (go_at_call 73; refine (to_no C D _ H.out).mono ?_; rintro e w1 ⟨rfl, hb⟩; obtain ⟨hc, hf⟩ := bcell hb)
  have k0 : w1.cell? ⟨w.heap.size, 0, none⟩ = some (.int .i64 0) := by rw [hc _ _ (by simp)]; simp [go_sem]
  have k1 : w1.cell? ⟨w.heap.size, 1, none⟩ = some (.int .i64 0) := by rw [hc _ _ (by simp)]; simp [go_sem]
  exact bodyPost_ret (v := .tuple #[.agg #[.int .i64 0, .int .i64 0], .bool false]) (by simp [results, Tryz.results46, go_sem, k0, k1]) rfl ⟨rfl, Below.setCell (Below.setCell (below_then (by go_grown) hb) (Nat.le_refl _) _) (Nat.le_refl _) _⟩

theorem isInt_one : Flo.IsInt 4607182418800017408 1 := Flo.isInt_ofInt 1 (by decide)

theorem is_next (C D : Int) (re im : Nat) (h : rightB C D = true) (h2 : C < 1099511627776) (hs : cSumBits .add .f64 (floatOfInt .f64 C) (floatOfInt .f64 D) 4607182418800017408 0 = some (re, im)) : IsM re im (C + 1) D := by
  have hr := rightB_iff.1 h
  obtain ⟨a, a1, a2⟩ := Flo.add_int (Flo.isInt_ofInt C (by omega)) isInt_one (by omega)
  obtain ⟨b, b1, b2⟩ := Flo.add_int (Flo.isInt_ofInt D (by omega)) isInt_c0 (by omega)
  simp only [cSumBits, a1, b1, Option.bind_some, Option.some.injEq, Prod.mk.injEq] at hs
  obtain ⟨rfl, rfl⟩ := hs
  rw [Int.add_zero] at b2
  exact ⟨a2.val, b2.val, rightB_iff.2 (by omega)⟩

theorem none_next (C D : Int) (re im : Nat) (h : rightB C D = true) (h2 : ¬ C < 1099511627776) (hs : cSumBits .add .f64 (floatOfInt .f64 C) (floatOfInt .f64 D) 4607182418800017408 0 = some (re, im)) (A B : Int) : ¬ IsM re im A B := by
  have hr := rightB_iff.1 h
  obtain ⟨a, a1, a2⟩ := Flo.add_int (Flo.isInt_ofInt C (by omega)) isInt_one (by omega)
  obtain ⟨b, b1, b2⟩ := Flo.add_int (Flo.isInt_ofInt D (by omega)) isInt_c0 (by omega)
  simp only [cSumBits, a1, b1, Option.bind_some, Option.some.injEq, Prod.mk.injEq] at hs
  obtain ⟨rfl, rfl⟩ := hs
  rintro ⟨h3, h4, h5⟩
  have := Flo.eq_of_mulU (val_fun h3 a2.val)
  have := rightB_iff.1 h5
  omega

theorem has_next (C D : Int) (h : rightB C D = true) : ∃ re im, cSumBits .add .f64 (floatOfInt .f64 C) (floatOfInt .f64 D) 4607182418800017408 0 = some (re, im) := by
  have hr := rightB_iff.1 h
  obtain ⟨a, a1, a2⟩ := Flo.add_int (Flo.isInt_ofInt C (by omega)) isInt_one (by omega)
  obtain ⟨b, b1, b2⟩ := Flo.add_int (Flo.isInt_ofInt D (by omega)) isInt_c0 (by omega)
  exact ⟨a, b, by simp only [cSumBits, a1, b1, Option.bind_some]⟩

theorem next_yes (C D : Int) (w : World) (h : rightB C D = true) (h2 : C < 1099511627776) : Calls Tryz.prog 46 #[.int .i64 C, .int .i64 D] w fun e w' => e = .returned (.tuple #[.agg #[.int .i64 (C + 1), .int .i64 D], .bool true]) ∧ Below w.heap.size w w' := by
  obtain ⟨re, im, hs⟩ : ∃ re im, cSumBits .add .f64 (floatOfInt .f64 C) (floatOfInt .f64 D) 4607182418800017408 0 = some (re, im) := has_next C D h
  have hm := Lib.hid (is_next C D re im h h2 hs)
  have hop := fun t w => run_complex_sum (P := Tryz.prog) w .add (Or.inl rfl) t .f64 _ _ _ _ re im hs
  have H := Lib.hid h
  clear h hs
  go_enter Tryz.func46, Tryz.ntmps46
  go_wp2_with (first | (go_at_call 73; refine (to_yes C D _ H.out).mono ?_; rintro e w1 ⟨rfl, hb⟩; obtain ⟨hc, hf⟩ := bcell hb; have hz : w.heap.size < w1.heap.size := (by have := hb.size; simp at this; omega); unfold numOf)
                      | (go_at_call 74; refine (from_is hm.out _).mono ?_; rintro e w2 ⟨rfl, hb2⟩; obtain ⟨hc2, hf2⟩ := bcell hb2))
  have k0 : w2.cell? ⟨w.heap.size, 0, none⟩ = some (.int .i64 0) := by rw [hc2 _ _ hz, hc _ _ (by simp)]; simp [go_sem]
  have k1 : w2.cell? ⟨w.heap.size, 1, none⟩ = some (.int .i64 0) := by rw [hc2 _ _ hz, hc _ _ (by simp)]; simp [go_sem]
  exact bodyPost_ret (v := .tuple #[.agg #[.int .i64 (C + 1), .int .i64 D], .bool true]) (by simp [results, Tryz.results46, go_sem, k0, k1]) rfl ⟨rfl, Below.setCell (Below.setCell (below_then (below_then (by go_grown) hb) hb2) (Nat.le_refl _) _) (Nat.le_refl _) _⟩

/-- The moment behind the last counter: none. -/
theorem next_end (C D : Int) (w : World) (h : rightB C D = true) (h2 : ¬ C < 1099511627776) : Calls Tryz.prog 46 #[.int .i64 C, .int .i64 D] w fun e w' => e = .returned (.tuple #[.agg #[.int .i64 0, .int .i64 0], .bool false]) ∧ Below w.heap.size w w' := by
  obtain ⟨re, im, hs⟩ := has_next C D h
  have hm : Hid (∀ A B, ¬ IsM re im A B) := Lib.hid (none_next C D re im h h2 hs)
  have hop := fun t w => run_complex_sum (P := Tryz.prog) w .add (Or.inl rfl) t .f64 _ _ _ _ re im hs
  have H := Lib.hid h
  clear h hs
  go_enter Tryz.func46, Tryz.ntmps46
  go_wp2_with (first | (go_at_call 73; refine (to_yes C D _ H.out).mono ?_; rintro e w1 ⟨rfl, hb⟩; obtain ⟨hc, hf⟩ := bcell hb; have hz : w.heap.size < w1.heap.size := (by have := hb.size; simp at this; omega); unfold numOf)
                      | (go_at_call 74; refine (from_none hm.out _).mono ?_; rintro e w2 ⟨rfl, hb2⟩; obtain ⟨hc2, hf2⟩ := bcell hb2))
  have k0 : w2.cell? ⟨w.heap.size, 0, none⟩ = some (.int .i64 0) := by rw [hc2 _ _ hz, hc _ _ (by simp)]; simp [go_sem]
  have k1 : w2.cell? ⟨w.heap.size, 1, none⟩ = some (.int .i64 0) := by rw [hc2 _ _ hz, hc _ _ (by simp)]; simp [go_sem]
  exact bodyPost_ret (v := .tuple #[.agg #[.int .i64 0, .int .i64 0], .bool false]) (by simp [results, Tryz.results46, go_sem, k0, k1]) rfl ⟨rfl, Below.setCell (Below.setCell (below_then (below_then (by go_grown) hb) hb2) (Nat.le_refl _) _) (Nat.le_refl _) _⟩

/-- The answer of Next, and the document's: some (c + 1, dev), or none. -/
def nextC (C D : Int) : Int := if rightB C D && decide (C < 1099511627776) then C + 1 else 0
def nextD (C D : Int) : Int := if rightB C D && decide (C < 1099511627776) then D else 0
def nextB (C D : Int) : Bool := rightB C D && decide (C < 1099511627776)

theorem next_any (C D : Int) (w : World) : Calls Tryz.prog 46 #[.int .i64 C, .int .i64 D] w fun e w' => e = .returned (.tuple #[.agg #[.int .i64 (nextC C D), .int .i64 (nextD C D)], .bool (nextB C D)]) ∧ Below w.heap.size w w' := by
  by_cases h : rightB C D = true
  · by_cases h2 : C < 1099511627776
    · have e1 : nextC C D = C + 1 := by simp [nextC, h, h2]
      have e2 : nextD C D = D := by simp [nextD, h, h2]
      have e3 : nextB C D = true := by simp [nextB, h, h2]
      rw [e1, e2, e3]; exact next_yes C D w h h2
    · have e1 : nextC C D = 0 := by simp [nextC, h2]
      have e2 : nextD C D = 0 := by simp [nextD, h2]
      have e3 : nextB C D = false := by simp [nextB, h2]
      rw [e1, e2, e3]; exact next_end C D w h h2
  · have h' : rightB C D = false := by simpa using h
    have e1 : nextC C D = 0 := by simp [nextC, h']
    have e2 : nextD C D = 0 := by simp [nextD, h']
    have e3 : nextB C D = false := by simp [nextB, h']
    rw [e1, e2, e3]; exact next_no C D w h'

end Go.Proofs.YtdcjffajmckleaaGreatDoor

/- What Before gives, and the document's answers. -/
namespace Go.Proofs.YtdcjffajmckleaaGreatDoor
open Go.RowKit

def befB (A B C D : Int) : Bool := decide (A < C ∨ A = C ∧ B < D)
theorem befB_of {A B C D : Int} {b : Bool} (h : b = true ↔ (A < C ∨ A = C ∧ B < D)) : Value.bool b = .bool (befB A B C D) := by
  unfold befB; congr 1; rw [Bool.eq_iff_iff, h, decide_eq_true_iff]

/-- The walk of Before where one of the two may not be. -/
theorem before_plain1 (A B C D : Int) (w : World) (h : rightB A B = false) : Calls Tryz.prog 81 #[.agg #[.int .i64 A, .int .i64 B], .agg #[.int .i64 C, .int .i64 D]] w fun e w' => e = .returned (.bool (befB A B C D)) ∧ Below w.heap.size w w' := by
  have H := Lib.hid h
  clear h
  by_cases h2 : rightB C D = true
  · have H2 := Lib.hid h2
    clear h2
    go_enter Tryz.func81, Tryz.ntmps81
    go_wp2_with (first | (go_at_call 73; (with_reducible refine (to_no A B _ H.out).mono ?_); rintro e w1 ⟨rfl, hb⟩; obtain ⟨hc, hf⟩ := bcell hb; have hz : w.heap.size + 1 < w1.heap.size := (by have := hb.size; simp at this; omega); have hz0 : w.heap.size < w1.heap.size := (by omega))
                                        | (go_at_call 73; (with_reducible refine (to_yes C D _ H2.out).mono ?_); rintro e w2 ⟨rfl, hb2⟩; obtain ⟨hc2, hf2⟩ := bcell hb2; unfold numOf))
    all_goals go_ret
    all_goals exact ⟨ret_of (befB_of (by simp; omega)), below_then (below_then (by go_grown) hb) hb2⟩
  · have H2 := Lib.hid (show rightB C D = false by simpa using h2)
    clear h2
    go_enter Tryz.func81, Tryz.ntmps81
    go_wp2_with (first | (go_at_call 73; (with_reducible refine (to_no A B _ H.out).mono ?_); rintro e w1 ⟨rfl, hb⟩; obtain ⟨hc, hf⟩ := bcell hb; have hz : w.heap.size + 1 < w1.heap.size := (by have := hb.size; simp at this; omega); have hz0 : w.heap.size < w1.heap.size := (by omega))
                                        | (go_at_call 73; (with_reducible refine (to_no C D _ H2.out).mono ?_); rintro e w2 ⟨rfl, hb2⟩; obtain ⟨hc2, hf2⟩ := bcell hb2))
    all_goals go_ret
    all_goals exact ⟨ret_of (befB_of (by simp; omega)), below_then (below_then (by go_grown) hb) hb2⟩

theorem before_plain2 (A B C D : Int) (w : World) (h : rightB A B = true) (h2 : rightB C D = false) : Calls Tryz.prog 81 #[.agg #[.int .i64 A, .int .i64 B], .agg #[.int .i64 C, .int .i64 D]] w fun e w' => e = .returned (.bool (befB A B C D)) ∧ Below w.heap.size w w' := by
  have H := Lib.hid h
  have H2 := Lib.hid h2
  clear h h2
  go_enter Tryz.func81, Tryz.ntmps81
  go_wp2_with (first | (go_at_call 73; (with_reducible refine (to_yes A B _ H.out).mono ?_); rintro e w1 ⟨rfl, hb⟩; obtain ⟨hc, hf⟩ := bcell hb; have hz : w.heap.size + 1 < w1.heap.size := (by have := hb.size; simp at this; omega); have hz0 : w.heap.size < w1.heap.size := (by omega); unfold numOf)
                                        | (go_at_call 73; (with_reducible refine (to_no C D _ H2.out).mono ?_); rintro e w2 ⟨rfl, hb2⟩; obtain ⟨hc2, hf2⟩ := bcell hb2))
  all_goals go_ret
  all_goals exact ⟨ret_of (befB_of (by simp; omega)), below_then (below_then (by go_grown) hb) hb2⟩

theorem before_gap (A B C D : Int) (w : World) (re im : Nat) (o1 o2 : Ordering) (h : rightB A B = true) (h2 : rightB C D = true)
    (hs : cSumBits .sub .f64 (floatOfInt .f64 C) (floatOfInt .f64 D) (floatOfInt .f64 A) (floatOfInt .f64 B) = some (re, im))
    (p1 : FloatKind.f64.format.order re 0 = some o1) (p2 : FloatKind.f64.format.order im 0 = some o2) :
    Calls Tryz.prog 81 #[.agg #[.int .i64 A, .int .i64 B], .agg #[.int .i64 C, .int .i64 D]] w fun e w' => e = .returned (.bool (o1 == .gt || (o1 == .eq && o2 == .gt))) ∧ Below w.heap.size w w' := by
  have hop := fun t w => run_complex_sum (P := Tryz.prog) w .sub (Or.inr rfl) t .f64 _ _ _ _ re im hs
  have H := Lib.hid h
  have H2 := Lib.hid h2
  clear h h2 hs
  cases o1 <;> cases o2
  all_goals
    go_enter Tryz.func81, Tryz.ntmps81
    go_wp2_with (first | (go_at_call 73; (with_reducible refine (to_yes A B _ H.out).mono ?_); rintro e w1 ⟨rfl, hb⟩; obtain ⟨hc, hf⟩ := bcell hb; have hz : w.heap.size + 1 < w1.heap.size := (by have := hb.size; simp at this; omega); have hz0 : w.heap.size < w1.heap.size := (by omega); unfold numOf)
                                        | (go_at_call 73; (with_reducible refine (to_yes C D _ H2.out).mono ?_); rintro e w2 ⟨rfl, hb2⟩; obtain ⟨hc2, hf2⟩ := bcell hb2; unfold numOf))
    go_ret
    exact ⟨rfl, below_then (below_then (by go_grown) hb) hb2⟩

theorem before_any (A B C D : Int) (w : World) : Calls Tryz.prog 81 #[.agg #[.int .i64 A, .int .i64 B], .agg #[.int .i64 C, .int .i64 D]] w fun e w' => e = .returned (.bool (befB A B C D)) ∧ Below w.heap.size w w' := by
  by_cases h : rightB A B = true
  · by_cases h2 : rightB C D = true
    · have r1 := rightB_iff.1 h
      have r2 := rightB_iff.1 h2
      obtain ⟨a, a1, a2⟩ := Flo.sub_int (Flo.isInt_ofInt C (by omega)) (Flo.isInt_ofInt A (by omega)) (by omega)
      obtain ⟨b, b1, b2⟩ := Flo.sub_int (Flo.isInt_ofInt D (by omega)) (Flo.isInt_ofInt B (by omega)) (by omega)
      refine (before_gap A B C D w a b _ _ h h2 (by simp only [cSumBits, a1, b1, Option.bind_some]) (Flo.order_int a2 isInt_c0) (Flo.order_int b2 isInt_c0)).mono ?_
      rintro e w' ⟨rfl, hb⟩
      refine ⟨ret_of (befB_of ?_), hb⟩
      rw [Bool.or_eq_true, Bool.and_eq_true, beq_iff_eq, beq_iff_eq, beq_iff_eq, Int.compare_eq_gt, Int.compare_eq_eq, Int.compare_eq_gt]
      omega
    · exact before_plain2 A B C D w h (by simpa using h2)
  · exact before_plain1 A B C D w (by simpa using h)

end Go.Proofs.YtdcjffajmckleaaGreatDoor

/- Names, digits and twins as lists of bytes. -/
namespace Go.Proofs.YtdcjffajmckleaaGreatDoor.Nam
open Go.Lib (decDigits decDigits_one)

def okB (b : UInt8) : Bool := decide (33 ≤ b.toNat ∧ b.toNat ≤ 125 ∧ b.toNat ≠ 47)
/-- Is it a name? -/
def isName (l : List UInt8) : Bool := decide (1 ≤ l.length ∧ l.length ≤ 16) && l.all okB

theorem isName_len {l : List UInt8} (h : isName l = true) : 1 ≤ l.length ∧ l.length ≤ 16 := by
  unfold isName at h; simp at h; exact h.1
theorem isName_at {l : List UInt8} (h : isName l = true) (i : Nat) (hi : i < l.length) : 33 ≤ l[i].toNat ∧ l[i].toNat ≤ 125 ∧ l[i].toNat ≠ 47 := by
  unfold isName at h
  rw [Bool.and_eq_true, List.all_eq_true] at h
  exact of_decide_eq_true (h.2 l[i] (List.getElem_mem hi))
theorem isName_short {l : List UInt8} (h : ¬ (1 ≤ l.length ∧ l.length ≤ 16)) : isName l = false := by
  unfold isName; rw [decide_eq_false h]; rfl
theorem isName_bad {l : List UInt8} (i : Nat) (hi : i < l.length) (h : ¬ (33 ≤ l[i].toNat ∧ l[i].toNat ≤ 125 ∧ l[i].toNat ≠ 47)) : isName l = false := by
  cases e : isName l
  · rfl
  · exact absurd (isName_at e i hi) h
theorem isName_of {l : List UInt8} (h1 : 1 ≤ l.length ∧ l.length ≤ 16) (h2 : ∀ b ∈ l, okB b = true) : isName l = true := by
  unfold isName; rw [decide_eq_true h1, List.all_eq_true.2 h2]; rfl

def isDig (b : UInt8) : Bool := decide (48 ≤ b.toNat ∧ b.toNat ≤ 57)
/-- The number of digits. -/
def val (l : List UInt8) : Nat := l.foldl (fun n b => 10 * n + (b.toNat - 48)) 0

/-- The node, below 64, whose digits a text is. -/
def node (l : List UInt8) : Option Nat := if l.all isDig = true ∧ val l < 64 ∧ decDigits (val l) = l then some (val l) else none

end Go.Proofs.YtdcjffajmckleaaGreatDoor.Nam

/- What Right gives, of the program and of the document. -/
namespace Go.Proofs.YtdcjffajmckleaaGreatDoor
open Go.RowKit Nam




theorem name_bad {s : ByteArray} (i : Nat) (hi : i < s.size) (h : ¬ (33 ≤ s[i].toNat ∧ s[i].toNat ≤ 125 ∧ s[i].toNat ≠ 47)) : isName (L s) = false :=
  isName_bad i (by rw [L_len]; exact hi) h
theorem name_short {s : ByteArray} (h : ¬ (1 ≤ s.size ∧ s.size ≤ 16)) : isName (L s) = false := isName_short (by rw [L_len]; exact h)
theorem name_of {s : ByteArray} (h1 : 1 ≤ s.size ∧ s.size ≤ 16) (h2 : ∀ i (h : i < s.size), 33 ≤ s[i].toNat ∧ s[i].toNat ≤ 125 ∧ s[i].toNat ≠ 47) : isName (L s) = true := by
  refine isName_of (by rw [L_len]; exact h1) fun b hb => ?_
  obtain ⟨i, hi, rfl⟩ := List.getElem_of_mem hb
  rw [L_len] at hi
  exact decide_eq_true (h2 i hi)

def good (s : ByteArray) (k : Nat) : Prop := ∀ i (h : i < s.size), i < k → 33 ≤ s[i].toNat ∧ s[i].toNat ≤ 125 ∧ s[i].toNat ≠ 47
theorem good_next {s : ByteArray} {k : Nat} (h : good s k) (hk : k < s.size) (hb : 33 ≤ s[k].toNat ∧ s[k].toNat ≤ 125 ∧ s[k].toNat ≠ 47) : good s (k + 1) := by
  intro i hi hik
  by_cases e : i = k
  · subst e; exact hb
  · exact h i hi (by omega)

set_option maxHeartbeats 1000000 in
theorem nmRight_any (s : ByteArray) (w : World) (hs : s.size ≤ 9223372036854775807) : Calls Tryz.prog 78 #[.string s] w fun e w' => e = .returned (.bool (isName (L s))) ∧ w = w' := by
  by_cases h0 : s.size = 0
  · have HN := Lib.hid (name_short (s := s) (by omega))
    go_enter Tryz.func78, Tryz.ntmps78
    go_wp2
    go_ret
    exact ⟨ret_bool HN.out, rfl⟩
  · have he : ((s.size : Int) == 0) = false := by simp [h0]
    by_cases h16 : 16 < s.size
    · have HN := Lib.hid (name_short (s := s) (by omega))
      go_enter Tryz.func78, Tryz.ntmps78
      go_wp2
      go_ret
      exact ⟨ret_bool HN.out, rfl⟩
    · have hd : decide (16 < (s.size : Int)) = false := decide_eq_false (by omega)
      go_enter Tryz.func78, Tryz.ntmps78
      go_wp2
      go_loop [14] (fun i => ∃ k : Nat, k ≤ s.size ∧ i = .int .i64 k ∧ Hid (good s k)) (fun i => s.size - (intOf i).toNat)
      case atStart => exact ⟨0, Nat.zero_le _, rfl, fun i _ h => absurd h (by omega)⟩
      case round =>
        obtain ⟨k, hk, rfl, hg⟩ := hrel
        by_cases hlt : k < s.size
        · by_cases hb : 33 ≤ s[k].toNat ∧ s[k].toNat ≤ 125 ∧ s[k].toNat ≠ 47
          · have HG := Lib.hid (good_next hg.out hlt hb)
            obtain ⟨hb1, hb2, hb3⟩ := hb
            have hb4 : ((s[k].toNat : Int) == 47) = false := by simp; omega
            go_wp2
            go_round
            case rel => exact ⟨k + 1, by omega, by go_num, HG.out⟩
            case measure => simp [intOf]; omega
          · have HN := Lib.hid (name_bad k hlt hb)
            by_cases hb1 : s[k].toNat < 33
            · clear hb
              go_wp2
              go_ret
              exact ⟨ret_bool HN.out, rfl⟩
            · by_cases hb2 : 125 < s[k].toNat
              · clear hb
                go_wp2
                go_ret
                exact ⟨ret_bool HN.out, rfl⟩
              · have hb3 : ((s[k].toNat : Int) == 47) = true := by simp; omega
                clear hb
                go_wp2
                go_ret
                exact ⟨ret_bool HN.out, rfl⟩
        · obtain rfl : k = s.size := by omega
          have HN := Lib.hid (name_of (s := s) (by omega) (fun i h => hg.out i h h))
          go_wp2
          go_ret
          exact ⟨ret_bool HN.out, rfl⟩

set_option maxHeartbeats 1000000 in
theorem nmRefRight_any (s : ByteArray) (w : World) (hs : s.size ≤ 9223372036854775807) : Calls Tryz.prog 28 #[.string s] w fun e w' => e = .returned (.bool (isName (L s))) ∧ w = w' := by
  go_enter Tryz.func28, Tryz.ntmps28
  go_wp2
  go_loop [3] (fun i => ∃ k : Nat, k ≤ s.size ∧ i = .int .i64 k ∧ Hid (good s k)) (fun i => s.size - (intOf i).toNat)
  case atStart => exact ⟨0, Nat.zero_le _, rfl, fun i _ h => absurd h (by omega)⟩
  case round =>
    obtain ⟨k, hk, rfl, hg⟩ := hrel
    by_cases hlt : k < s.size
    · by_cases hb : 33 ≤ s[k].toNat ∧ s[k].toNat ≤ 125 ∧ s[k].toNat ≠ 47
      · have HG := Lib.hid (good_next hg.out hlt hb)
        obtain ⟨hb1, hb2, hb3⟩ := hb
        have hb4 : ((s[k].toNat : Int) == 47) = false := by simp; omega
        go_wp2
        go_round
        case rel => exact ⟨k + 1, by omega, by go_num, HG.out⟩
        case measure => simp [intOf]; omega
      · have HN := Lib.hid (name_bad k hlt hb)
        by_cases hb1 : s[k].toNat < 33
        · clear hb
          go_wp2
          go_ret
          exact ⟨ret_bool HN.out, rfl⟩
        · by_cases hb2 : 125 < s[k].toNat
          · clear hb
            go_wp2
            go_ret
            exact ⟨ret_bool HN.out, rfl⟩
          · have hb3 : ((s[k].toNat : Int) == 47) = true := by simp; omega
            clear hb
            go_wp2
            go_ret
            exact ⟨ret_bool HN.out, rfl⟩
    · obtain rfl : k = s.size := by omega
      by_cases h0 : s.size = 0
      · have HN := Lib.hid (name_short (s := s) (by omega))
        go_wp2
        go_ret
        exact ⟨ret_bool HN.out, rfl⟩
      · by_cases h16 : 16 < s.size
        · have HN := Lib.hid (name_short (s := s) (by omega))
          go_wp2
          go_ret
          exact ⟨ret_bool (HN.out.trans (decide_eq_false (by omega)).symm), rfl⟩
        · have HN := Lib.hid (name_of (s := s) (by omega) (fun i h => hg.out i h h))
          go_wp2
          go_ret
          exact ⟨ret_bool (HN.out.trans (decide_eq_true (by omega)).symm), rfl⟩

end Go.Proofs.YtdcjffajmckleaaGreatDoor

/- What Right gives, of the program and of the document: layer op. -/
namespace Go.Proofs.YtdcjffajmckleaaGreatDoor
open Go.RowKit Nam

def atB (C D : Int) : Bool := decide (1 ≤ C ∧ C ≤ 1099511627776 ∧ 0 ≤ D ∧ D < 12)
def cntB (n : Int) : Bool := decide (1 ≤ n ∧ n ≤ 1099511627776)
def mvB (K U : Int) : Bool := decide (2 ≤ K ∧ K < 64 ∧ 0 ≤ U ∧ U < 64 ∧ K ≠ U)
def opB (C D I M K U : Int) (s : ByteArray) : Bool := atB C D && (cntB I && (cntB M && (mvB K U && isName (L s))))
theorem bool_of {p : Prop} [Decidable p] {b : Bool} (h : b = true ↔ p) : Value.bool b = .bool (decide p) := by
  congr 1; rw [Bool.eq_iff_iff, h, decide_eq_true_iff]
theorem atB_right {C D : Int} (h : rightB C D = true) : atB C D = decide (1 ≤ C) := by
  have := rightB_iff.1 h
  unfold atB; rw [Bool.eq_iff_iff, decide_eq_true_iff, decide_eq_true_iff]; omega
theorem atB_wrong {C D : Int} (h : rightB C D = false) : atB C D = false := by
  unfold rightB at h; unfold atB; rw [decide_eq_false_iff_not] at h ⊢; omega

theorem rightAt_any (C D : Int) (w : World) : Calls Tryz.prog 75 #[.agg #[.int .i64 C, .int .i64 D]] w fun e w' => e = .returned (.bool (atB C D)) ∧ Below w.heap.size w w' := by
  have c := fun w => stRight_any C D w
  cases h : rightB C D
  · have HA := Lib.hid (atB_wrong h)
    rw [h] at c
    have H := Lib.hid c
    clear c h
    go_enter Tryz.func75, Tryz.ntmps75
    go_wp2_with (go_at_call 102; (with_reducible refine (H.out _).mono ?_); rintro e w1 ⟨rfl, hb⟩; obtain ⟨hc, hf⟩ := bcell hb)
    go_ret
    exact ⟨ret_bool HA.out, below_then (below_alloc (Below.refl _ _) _) hb⟩
  · have HA := Lib.hid (atB_right h)
    rw [h] at c
    have H := Lib.hid c
    clear c h
    go_enter Tryz.func75, Tryz.ntmps75
    go_wp2_with (go_at_call 102; (with_reducible refine (H.out _).mono ?_); rintro e w1 ⟨rfl, hb⟩; obtain ⟨hc, hf⟩ := bcell hb)
    go_ret
    exact ⟨ret_bool HA.out, below_then (below_alloc (Below.refl _ _) _) hb⟩

theorem rightCount_any (n : Int) (w : World) : Calls Tryz.prog 76 #[.int .i64 n] w fun e w' => e = .returned (.bool (cntB n)) ∧ w = w' := by
  go_enter Tryz.func76, Tryz.ntmps76
  go_wp2
  all_goals go_ret
  all_goals exact ⟨ret_of (bool_of (by simp; omega)), rfl⟩

theorem rightMove_any (K U : Int) (w : World) : Calls Tryz.prog 77 #[.int .i64 K, .int .i64 U] w fun e w' => e = .returned (.bool (mvB K U)) ∧ w = w' := by
  go_enter Tryz.func77, Tryz.ntmps77
  go_wp2
  all_goals go_ret
  all_goals exact ⟨ret_of (bool_of (by simp; omega)), rfl⟩

set_option maxHeartbeats 2000000 in
theorem opRight_any (C D I M K U : Int) (s : ByteArray) (w : World) (hs : s.size ≤ 9223372036854775807) :
    Calls Tryz.prog 47 #[.agg #[.int .i64 C, .int .i64 D, .int .i64 I, .int .i64 M, .int .i64 K, .int .i64 U, .string s]] w fun e w' => e = .returned (.bool (opB C D I M K U s)) ∧ Below w.heap.size w w' := by
  have c1 := fun w => rightAt_any C D w
  have c2 := fun w => rightCount_any I w
  have c3 := fun w => rightCount_any M w
  have c4 := fun w => rightMove_any K U w
  have H5 := Lib.hid (fun w => nmRight_any s w hs)
  unfold opB
  generalize atB C D = a at *
  generalize cntB I = b at *
  generalize cntB M = c at *
  generalize mvB K U = d at *
  have H1 := Lib.hid c1
  have H2 := Lib.hid c2
  have H3 := Lib.hid c3
  have H4 := Lib.hid c4
  clear c1 c2 c3 c4
  generalize isName (L s) = x at *
  rcases a with _ | _
  rotate_left
  rcases b with _ | _
  rotate_left
  rcases c with _ | _
  rotate_left
  rcases d with _ | _
  all_goals
    go_enter Tryz.func47, Tryz.ntmps47
    go_wp2_with (first | (go_at_call 75; (with_reducible refine (H1.out _).mono ?_); rintro e w1 ⟨rfl, hb⟩; obtain ⟨hc, hf⟩ := bcell hb) | (go_at_call 76; (with_reducible refine (H2.out _).mono ?_); rintro e w2 ⟨rfl, rfl⟩) | (go_at_call 76; (with_reducible refine (H3.out _).mono ?_); rintro e w2 ⟨rfl, rfl⟩) | (go_at_call 77; (with_reducible refine (H4.out _).mono ?_); rintro e w2 ⟨rfl, rfl⟩) | (go_at_call 78; (with_reducible refine (H5.out _).mono ?_); rintro e w2 ⟨rfl, rfl⟩))
    go_ret
    exact ⟨by simp, below_then (below_alloc (Below.refl _ _) _) hb⟩

theorem opB_wrong {C D I M K U : Int} {s : ByteArray} (h : rightB C D = false) : opB C D I M K U s = false := by
  unfold opB; rw [atB_wrong h]; rfl
theorem opB_out {C D I M K U : Int} {s : ByteArray} (h : ¬ (1 ≤ C ∧ 1 ≤ I ∧ I ≤ 1099511627776 ∧ 1 ≤ M ∧ M ≤ 1099511627776 ∧ 2 ≤ K ∧ K < 64 ∧ 0 ≤ U ∧ U < 64 ∧ K ≠ U)) : opB C D I M K U s = false := by
  unfold opB atB cntB mvB
  rw [Bool.eq_false_iff]; intro e
  simp only [Bool.and_eq_true, decide_eq_true_iff] at e
  omega
theorem opB_in {C D I M K U : Int} {s : ByteArray} (h0 : rightB C D = true) (h : 1 ≤ C ∧ 1 ≤ I ∧ I ≤ 1099511627776 ∧ 1 ≤ M ∧ M ≤ 1099511627776 ∧ 2 ≤ K ∧ K < 64 ∧ 0 ≤ U ∧ U < 64 ∧ K ≠ U) : opB C D I M K U s = isName (L s) := by
  have h0 := rightB_iff.1 h0
  unfold opB atB cntB mvB
  rw [decide_eq_true (by omega), decide_eq_true (by omega), decide_eq_true (by omega), decide_eq_true (by omega)]; simp

set_option maxHeartbeats 4000000 in
theorem opRefRight_any (C D I M K U : Int) (s : ByteArray) (w : World) (hs : s.size ≤ 9223372036854775807) :
    Calls Tryz.prog 10 #[.agg #[.int .i64 C, .int .i64 D, .int .i64 I, .int .i64 M, .int .i64 K, .int .i64 U, .string s]] w fun e w' => e = .returned (.bool (opB C D I M K U s)) ∧ Below w.heap.size w w' := by
  have c1 := fun w => stRefRight_any C D w
  have H5 := Lib.hid (fun w => nmRefRight_any s w hs)
  cases h0 : rightB C D
  · have HB := Lib.hid (opB_wrong (I := I) (M := M) (K := K) (U := U) (s := s) h0)
    rw [h0] at c1
    have H1 := Lib.hid c1
    clear c1 h0
    go_enter Tryz.func10, Tryz.ntmps10
    go_wp2_with (first | (go_at_call 27; (with_reducible refine (H1.out _).mono ?_); rintro e w1 ⟨rfl, hb⟩; obtain ⟨hc, hf⟩ := bcell hb))
    go_ret
    exact ⟨ret_bool HB.out, below_then (below_alloc (Below.refl _ _) _) hb⟩
  · have HB := Lib.hid (fun h => opB_in (I := I) (M := M) (K := K) (U := U) (s := s) h0 h)
    rw [h0] at c1
    have H1 := Lib.hid c1
    clear c1 h0
    by_cases hin : 1 ≤ C ∧ 1 ≤ I ∧ I ≤ 1099511627776 ∧ 1 ≤ M ∧ M ≤ 1099511627776 ∧ 2 ≤ K ∧ K < 64 ∧ 0 ≤ U ∧ U < 64 ∧ K ≠ U
    · have HB := Lib.hid (HB.out hin)
      generalize isName (L s) = x at *
      obtain ⟨h1, h2, h3, h4, h5, h6, h7, h8, h9, h10⟩ := hin
      have h10' : ¬ U = K := fun e => h10 e.symm
      go_enter Tryz.func10, Tryz.ntmps10
      go_wp2_with (first | (go_at_call 27; (with_reducible refine (H1.out _).mono ?_); rintro e w1 ⟨rfl, hb⟩; obtain ⟨hc, hf⟩ := bcell hb) | (go_at_call 28; (with_reducible refine (H5.out _).mono ?_); rintro e w2 ⟨rfl, rfl⟩))
      go_ret
      exact ⟨ret_bool (by rw [show (U != K) = true by simpa using h10', Bool.true_and]; exact HB.out), below_then (below_alloc (Below.refl _ _) _) hb⟩
    · have HO := Lib.hid (opB_out (s := s) (D := D) hin)
      have HI := Lib.hid hin
      clear hin
      go_enter Tryz.func10, Tryz.ntmps10
      go_wp2_with (first | (go_at_call 27; (with_reducible refine (H1.out _).mono ?_); rintro e w1 ⟨rfl, hb⟩; obtain ⟨hc, hf⟩ := bcell hb) | (go_at_call 28; (with_reducible refine (H5.out _).mono ?_); rintro e w2 ⟨rfl, rfl⟩))
      all_goals go_ret
      all_goals first | exact ⟨ret_bool HO.out, below_then (below_alloc (Below.refl _ _) _) hb⟩ | (have hi := HI.out; have e : (U != K) = false := (by simp; omega); exact ⟨ret_bool (by rw [e]; exact HO.out), below_then (below_alloc (Below.refl _ _) _) hb⟩)
end Go.Proofs.YtdcjffajmckleaaGreatDoor

/- Numbers as bytes: what is written is read, and what is read was written so. -/
namespace Go.Proofs.YtdcjffajmckleaaGreatDoor.Cod

/-- The bytes of u: seven bits each, the lowest first. -/
def enc (u : Nat) : List UInt8 := if u < 128 then [UInt8.ofNat u] else UInt8.ofNat (u % 128 + 128) :: enc (u / 128)
termination_by u
decreasing_by omega

theorem enc_small {u : Nat} (h : u < 128) : enc u = [UInt8.ofNat u] := by rw [enc, if_pos h]
theorem enc_big {u : Nat} (h : 128 ≤ u) : enc u = UInt8.ofNat (u % 128 + 128) :: enc (u / 128) := by rw [enc, if_neg (by omega)]

theorem enc_pos (u : Nat) : 1 ≤ (enc u).length := by
  by_cases h : u < 128
  · rw [enc_small h]; simp
  · rw [enc_big (by omega)]; simp

theorem enc_len (m : Nat) : ∀ u, u < 128 ^ (m + 1) → (enc u).length ≤ m + 1 := by
  induction m with
  | zero => intro u h; rw [enc_small (by simpa using h)]; simp
  | succ m ih =>
    intro u h
    by_cases hu : u < 128
    · rw [enc_small hu]; simp
    · rw [enc_big (by omega), List.length_cons]
      have := ih (u / 128) (by rw [Nat.pow_succ] at h; omega)
      omega

theorem enc_ten (u : Nat) (h : u < 18446744073709551616) : (enc u).length ≤ 10 := enc_len 9 u (by omega)

/-- The number that a list begins with: k bytes of it came already, and are u. -/
def num : List UInt8 → Nat → Nat → Option (Nat × Nat)
  | [], _, _ => none
  | b :: t, k, u =>
    if k = 9 ∧ 1 < b.toNat then none
    else if 128 ≤ b.toNat then num t (k + 1) (u + 2 ^ (7 * k) * (b.toNat % 128))
    else if b.toNat = 0 ∧ 0 < k then none
    else some (u + 2 ^ (7 * k) * b.toNat, k + 1)

theorem two_split (k : Nat) (h : k ≤ 8) : 2 ^ (64 - 7 * k) = 128 * 2 ^ (64 - 7 * (k + 1)) := by
  rw [show 64 - 7 * k = (64 - 7 * (k + 1)) + 7 by omega, Nat.pow_add]
  omega

/-- What is read was written so. -/
theorem num_some : ∀ (l : List UInt8) (k u U K : Nat), k ≤ 9 → num l k u = some (U, K) →
    ∃ V m, U = u + 2 ^ (7 * k) * V ∧ K = k + m ∧ l.take m = enc V ∧ m = (enc V).length ∧ m ≤ l.length ∧ (0 < k → 0 < V) ∧ V < 2 ^ (64 - 7 * k)
  | [], k, u, U, K, _, h => by simp [num] at h
  | b :: t, k, u, U, K, hk, h => by
    have hb := b.toNat_lt
    rw [num] at h
    by_cases h9 : k = 9 ∧ 1 < b.toNat
    · rw [if_pos h9] at h; cases h
    · rw [if_neg h9] at h
      by_cases hm : 128 ≤ b.toNat
      · rw [if_pos hm] at h
        have hk8 : k ≤ 8 := by omega
        obtain ⟨V, m, e1, e2, e3, e4, e5, e6, e7⟩ := num_some t (k + 1) _ U K (by omega) h
        have hV := e6 (by omega)
        have hE : enc (b.toNat % 128 + 128 * V) = b :: enc V := by
          rw [enc_big (by omega), show (b.toNat % 128 + 128 * V) / 128 = V by omega, show (b.toNat % 128 + 128 * V) % 128 + 128 = b.toNat by omega, UInt8.ofNat_toNat]
        refine ⟨b.toNat % 128 + 128 * V, m + 1, ?_, by omega, ?_, ?_, ?_, fun _ => by omega, ?_⟩
        · rw [e1, show 7 * (k + 1) = 7 * k + 7 by omega, Nat.pow_add, Nat.mul_add, Nat.add_assoc, Nat.mul_assoc]
        · rw [List.take_succ_cons, e3, hE]
        · rw [hE, List.length_cons, ← e4]
        · rw [List.length_cons]; omega
        · have h2 := two_split k hk8
          omega
      · rw [if_neg hm] at h
        by_cases h0 : b.toNat = 0 ∧ 0 < k
        · rw [if_pos h0] at h; cases h
        · rw [if_neg h0] at h
          obtain ⟨rfl, rfl⟩ := Prod.mk.inj (Option.some.inj h)
          have hE : enc b.toNat = [b] := by rw [enc_small (by omega), UInt8.ofNat_toNat]
          refine ⟨b.toNat, 1, rfl, rfl, ?_, ?_, by simp, fun hk0 => by omega, ?_⟩
          · rw [hE]; rfl
          · rw [hE]; rfl
          · by_cases e9 : k = 9
            · subst e9; show b.toNat < 2 ^ 1; omega
            · have h2 := two_split k (by omega)
              have : 0 < 2 ^ (64 - 7 * (k + 1)) := Nat.two_pow_pos _
              omega

/-- What is written is read. -/
theorem num_enc (V : Nat) : ∀ (t : List UInt8) (k u : Nat), k ≤ 9 → (0 < k → 0 < V) → V < 2 ^ (64 - 7 * k) → num (enc V ++ t) k u = some (u + 2 ^ (7 * k) * V, k + (enc V).length) := by
  induction V using Nat.strongRecOn with
  | _ V ih =>
    intro t k u hk h0 hV
    by_cases h : V < 128
    · have hv : (UInt8.ofNat V).toNat = V := by rw [UInt8.toNat_ofNat']; omega
      rw [enc_small h, List.singleton_append, num, hv]
      rw [if_neg (by rintro ⟨rfl, h1⟩; have : V < 2 ^ 1 := hV; omega), if_neg (by omega), if_neg (by omega)]
      rfl
    · have hk8 : k ≤ 8 := by
        by_cases e : k = 9
        · subst e; have : V < 2 ^ 1 := hV; omega
        · omega
      have h2 := two_split k hk8
      have hv : (UInt8.ofNat (V % 128 + 128)).toNat = V % 128 + 128 := by rw [UInt8.toNat_ofNat']; omega
      rw [enc_big (by omega), List.cons_append, num, hv]
      rw [if_neg (by omega), if_pos (by omega), ih (V / 128) (by omega) t (k + 1) _ (by omega) (by omega) (by omega)]
      rw [show 7 * (k + 1) = 7 * k + 7 by omega, Nat.pow_add, Nat.mul_assoc, Nat.add_assoc, ← Nat.mul_add, List.length_cons]
      congr 2
      · rw [show (V % 128 + 128) % 128 + 2 ^ 7 * (V / 128) = V by omega]
      · omega

/-- A number's number, and back. -/
def fold (n : Int) : Nat := if n < 0 then (2 * (-1 - n) + 1).toNat else (2 * n).toNat
def unfold (u : Nat) : Int := if u % 2 = 1 then -1 - (u / 2 : Nat) else (u / 2 : Nat)
theorem unfold_fold (n : Int) : unfold (fold n) = n := by
  unfold fold unfold
  by_cases h : n < 0
  · rw [if_pos h, if_pos (by omega)]; omega
  · rw [if_neg h, if_neg (by omega)]; omega
theorem fold_unfold (u : Nat) : fold (unfold u) = u := by
  unfold fold unfold
  by_cases h : u % 2 = 1
  · rw [if_pos h, if_pos (by omega)]; omega
  · rw [if_neg h, if_neg (by omega)]; omega
theorem fold_lt (n : Int) (h1 : -9223372036854775808 ≤ n) (h2 : n ≤ 9223372036854775807) : fold n < 18446744073709551616 := by
  unfold fold; split <;> omega
theorem unfold_bd (u : Nat) (h : u < 18446744073709551616) : -9223372036854775808 ≤ unfold u ∧ unfold u ≤ 9223372036854775807 := by
  unfold unfold; split <;> omega
/-- The bytes of a number. -/
def bytesOf (n : Int) : ByteArray := ⟨(enc (fold n)).toArray⟩
theorem bytesOf_list (n : Int) : (bytesOf n).data.toList = enc (fold n) := rfl
theorem bytesOf_size (n : Int) : (bytesOf n).size = (enc (fold n)).length := rfl

/-- What is read of a list: the number, and how many bytes it has. -/
def rd (l : List UInt8) : Option (Int × Nat) := (num l 0 0).map fun p => (unfold p.1, p.2)
theorem rd_enc (n : Int) (h1 : -9223372036854775808 ≤ n) (h2 : n ≤ 9223372036854775807) (t : List UInt8) : rd (enc (fold n) ++ t) = some (n, (enc (fold n)).length) := by
  have hf := fold_lt n h1 h2
  unfold rd
  rw [num_enc (fold n) t 0 0 (by omega) (fun h => absurd h (by omega)) (by omega)]
  simp [unfold_fold]
theorem rd_some {l : List UInt8} {n : Int} {m : Nat} (h : rd l = some (n, m)) : l.take m = enc (fold n) ∧ m = (enc (fold n)).length ∧ 1 ≤ m ∧ m ≤ 10 ∧ m ≤ l.length ∧ -9223372036854775808 ≤ n ∧ n ≤ 9223372036854775807 := by
  unfold rd at h
  obtain ⟨⟨U, K⟩, h1, h2⟩ := Option.map_eq_some_iff.1 h
  obtain ⟨rfl, rfl⟩ := Prod.mk.inj h2
  obtain ⟨V, m, e1, e2, e3, e4, e5, _, e7⟩ := num_some l 0 0 U K (by omega) h1
  have hU : U = V := by omega
  have hK : K = m := by omega
  subst hU hK
  have hlt : U < 18446744073709551616 := by omega
  have := enc_ten U hlt
  have := enc_pos U
  have := unfold_bd U hlt
  rw [fold_unfold]
  exact ⟨e3, e4, by omega, by omega, e5, this⟩

end Go.Proofs.YtdcjffajmckleaaGreatDoor.Cod

/- What Num of code gives. -/
namespace Go.Proofs.YtdcjffajmckleaaGreatDoor
open Go.RowKit Cod

theorem or_128 : ∀ x : Nat, x < 256 → bits .or .u8 (x : Int) 128 = ((x % 128 + 128 : Nat) : Int) := by decide +kernel
end Go.Proofs.YtdcjffajmckleaaGreatDoor

/- The document's Num; Text, Bit, Least of both. -/
namespace Go.Proofs.YtdcjffajmckleaaGreatDoor
open Go.RowKit Cod

theorem dl_inj {a b : ByteArray} (h : a.data.toList = b.data.toList) : a = b := by
  cases a; cases b; simp at h; rw [h]
theorem dl_app (a b : ByteArray) : (a ++ b).data.toList = a.data.toList ++ b.data.toList := by simp
theorem dl_len (a : ByteArray) : a.data.toList.length = a.size := by simp

theorem conv1 (d : Nat) (hd : d < 256) (w : World) :
    (convert 58 9 (.slice (some ⟨w.heap.size, 0, none⟩) 1 1)).run Tryz.prog (w.alloc (.cells #[.int .u8 (d : Int)] 5)) = .ok (.string ⟨#[UInt8.ofNat d]⟩) (w.alloc (.cells #[.int .u8 (d : Int)] 5)) := by
  refine run_convert_bytes_back (P := Tryz.prog) _ 58 9 5 ⟨w.heap.size, 0, none⟩ 1 [UInt8.ofNat d] Tryz.underlying58 Tryz.underlying5 Tryz.underlying9 ?_
  intro j hj
  have hv : (UInt8.ofNat d).toNat = d := by rw [UInt8.toNat_ofNat']; omega
  match j, hj with
  | 0, _ => simp [Addr.add, hv]

theorem or_one (x : Nat) (hx : x < 9223372036854775808) : bits .or .u64 ((2 * x : Nat) : Int) 1 = ((2 * x + 1 : Nat) : Int) := by
  have h := u64_or_nat (2 * x) 1 (by omega) (by omega)
  rw [show 2 * x = 2 ^ 1 * x by omega, ← Nat.two_pow_add_eq_or_of_lt (by decide) x] at h
  rw [show 2 * x = 2 ^ 1 * x by omega]
  exact h


set_option maxRecDepth 100000 in
set_option maxHeartbeats 2000000 in
theorem refNum_any (n : Int) (w : World) (h1 : -9223372036854775808 ≤ n) (h2 : n ≤ 9223372036854775807) :
    Calls Tryz.prog 56 #[.int .i64 n] w fun e w' => e = .returned (.string (bytesOf n)) ∧ Below w.heap.size w w' := by
  have hU := fold_lt n h1 h2
  have hlen := enc_ten (fold n) hU
  have HB := Lib.hid (show (bytesOf n).data.toList = enc (fold n) from rfl)
  have HF := Lib.hid (show fold n = if n < 0 then (2 * (-1 - n) + 1).toNat else (2 * n).toNat from rfl)
  generalize bytesOf n = S at HB ⊢
  generalize fold n = U at hU hlen HB HF
  by_cases hn : n < 0
  · obtain ⟨x, hx⟩ : ∃ x : Nat, (-1 - n : Int) = (x : Int) := ⟨(-1 - n).toNat, by omega⟩
    have ho : bits .or .u64 ((x : Int) * 2) 1 = (U : Int) := by
      rw [show ((x : Int) * 2) = ((2 * x : Nat) : Int) by omega, or_one x (by omega), HF.out, if_pos hn]; omega
    go_enter Tryz.func56, Tryz.ntmps56
    go_wp2
    clear ho hx hn
    go_loopw [3, 4] (fun r v wr => ∃ (u : Nat) (T : ByteArray), r = .int .u64 u ∧ u < 18446744073709551616 ∧ v = .string T ∧ Hid (T.data.toList ++ enc u = enc U) ∧ Below w.heap.size w wr) (fun r _ _ => (intOf r).toNat)
    case atStart => exact ⟨U, ⟨#[]⟩, by go_num, hU, rfl, rfl, Below.refl _ _⟩
    case round =>
      obtain ⟨u, T, rfl, hu, rfl, hl, hnx⟩ := hrel
      have hll : T.size + (enc u).length ≤ 10 := by
        have h := congrArg List.length hl.out
        rw [List.length_append, dl_len] at h; omega
      have hep := enc_pos u
      by_cases hb : 128 ≤ u
      · obtain ⟨c, hc⟩ : ∃ c : Nat, (u : Int) % 256 = (c : Int) := ⟨u % 256, by omega⟩
        obtain ⟨d, hd⟩ : ∃ d : Nat, d = c % 128 + 128 := ⟨_, rfl⟩
        have hor := or_128 c (by omega)
        rw [← hd] at hor
        have hd2 : d < 256 := by omega
        have HN := Lib.hid (show (T ++ ⟨#[UInt8.ofNat d]⟩).data.toList ++ enc (u / 128) = enc U by
          rw [dl_app, List.append_assoc]
          show _ ++ ([UInt8.ofNat d] ++ _) = _
          rw [List.singleton_append, show d = u % 128 + 128 by omega, ← enc_big hb]; exact hl.out)
        have hcv := conv1 d hd2 wr
        have hsz : (ByteArray.mk #[UInt8.ofNat d]).size = 1 := rfl
        clear hd
        go_wp2
        go_roundw
        case rel => exact ⟨u / 128, T ++ ⟨#[UInt8.ofNat d]⟩, by go_num, by omega, rfl, HN, below_alloc hnx _⟩
        case measure => simp [intOf]; omega
      · have HE := Lib.hid (show T ++ ⟨#[UInt8.ofNat u]⟩ = S from dl_inj (by
          rw [dl_app, HB.out]
          show _ ++ [UInt8.ofNat u] = _
          rw [← enc_small (by omega)]; exact hl.out))
        have hcv := conv1 u (by omega) wr
        have hsz : (ByteArray.mk #[UInt8.ofNat u]).size = 1 := rfl
        go_wp2
        go_ret
        exact ⟨by rw [HE.out]; rfl, below_alloc hnx _⟩
  · have hUn : n * 2 = (U : Int) := by rw [HF.out, if_neg hn]; omega
    have HUN := Lib.hid hUn
    clear hUn
    go_enter Tryz.func56, Tryz.ntmps56
    go_wp2
    go_loopw [3, 4] (fun r v wr => ∃ (u : Nat) (T : ByteArray), r = .int .u64 u ∧ u < 18446744073709551616 ∧ v = .string T ∧ Hid (T.data.toList ++ enc u = enc U) ∧ Below w.heap.size w wr) (fun r _ _ => (intOf r).toNat)
    case atStart => exact ⟨U, ⟨#[]⟩, by rw [HUN.out], hU, rfl, rfl, Below.refl _ _⟩
    case round =>
      obtain ⟨u, T, rfl, hu, rfl, hl, hnx⟩ := hrel
      have hll : T.size + (enc u).length ≤ 10 := by
        have h := congrArg List.length hl.out
        rw [List.length_append, dl_len] at h; omega
      have hep := enc_pos u
      by_cases hb : 128 ≤ u
      · obtain ⟨c, hc⟩ : ∃ c : Nat, (u : Int) % 256 = (c : Int) := ⟨u % 256, by omega⟩
        obtain ⟨d, hd⟩ : ∃ d : Nat, d = c % 128 + 128 := ⟨_, rfl⟩
        have hor := or_128 c (by omega)
        rw [← hd] at hor
        have hd2 : d < 256 := by omega
        have HN := Lib.hid (show (T ++ ⟨#[UInt8.ofNat d]⟩).data.toList ++ enc (u / 128) = enc U by
          rw [dl_app, List.append_assoc]
          show _ ++ ([UInt8.ofNat d] ++ _) = _
          rw [List.singleton_append, show d = u % 128 + 128 by omega, ← enc_big hb]; exact hl.out)
        have hcv := conv1 d hd2 wr
        have hsz : (ByteArray.mk #[UInt8.ofNat d]).size = 1 := rfl
        clear hd
        go_wp2
        go_roundw
        case rel => exact ⟨u / 128, T ++ ⟨#[UInt8.ofNat d]⟩, by go_num, by omega, rfl, HN, below_alloc hnx _⟩
        case measure => simp [intOf]; omega
      · have HE := Lib.hid (show T ++ ⟨#[UInt8.ofNat u]⟩ = S from dl_inj (by
          rw [dl_app, HB.out]
          show _ ++ [UInt8.ofNat u] = _
          rw [← enc_small (by omega)]; exact hl.out))
        have hcv := conv1 u (by omega) wr
        have hsz : (ByteArray.mk #[UInt8.ofNat u]).size = 1 := rfl
        go_wp2
        go_ret
        exact ⟨by rw [HE.out]; rfl, below_alloc hnx _⟩
theorem bytesOf_le (n : Int) (h1 : -9223372036854775808 ≤ n) (h2 : n ≤ 9223372036854775807) : (bytesOf n).size ≤ 10 := by
  rw [bytesOf_size]; exact enc_ten _ (fold_lt n h1 h2)

/-- A text's bytes. -/
def textOf (s : ByteArray) : ByteArray := bytesOf s.size ++ s

theorem refText_any (s : ByteArray) (w : World) (hs : s.size ≤ 1000000) :
    Calls Tryz.prog 108 #[.string s] w fun e w' => e = .returned (.string (textOf s)) ∧ Below w.heap.size w w' := by
  have hb := bytesOf_le s.size (by omega) (by omega)
  have cN := fun w => refNum_any s.size w (by omega) (by omega)
  unfold textOf
  generalize bytesOf s.size = N at hb cN ⊢
  have CN := Lib.hid cN
  clear cN
  go_enter Tryz.func108, Tryz.ntmps108
  go_wp2_with (go_at_call 56; (with_reducible refine (CN.out _).mono ?_); rintro e w1 ⟨rfl, hb1⟩)
  go_ret
  exact ⟨rfl, hb1⟩

end Go.Proofs.YtdcjffajmckleaaGreatDoor

/- A scope with several labels; a reader in memory. -/
namespace Go.Proofs.YtdcjffajmckleaaGreatDoor
open Go.RowKit Cod
section
variable {P : Program} {a : Act} {w : World} {Q : Exit → Act → World → Prop} {J : Nat → Act → World → Prop}
end

/-- In block b lies a reader of type T: its text, where it stands, whether it went wrong. -/
def Rd (T : TypeId) (w : World) (b : Nat) (s : ByteArray) (at_ : Nat) (bad : Bool) : Prop :=
  w.heap[b]? = some (.cells #[.string s, .int .i64 (at_ : Int), .bool bad] T (0, 0))

section
variable {T : TypeId} {w w' : World} {b : Nat} {s : ByteArray} {p : Nat} {bad : Bool}
theorem Rd.lt (h : Rd T w b s p bad) : b < w.heap.size := by
  rcases Nat.lt_or_ge b w.heap.size with hlt | hge
  · exact hlt
  · unfold Rd at h; rw [Array.getElem?_eq_none hge] at h; cases h
theorem Rd.cells (h : Rd T w b s p bad) : w.cell? ⟨b, 0, none⟩ = some (.string s) ∧ w.cell? ⟨b, 1, none⟩ = some (.int .i64 (p : Int)) ∧ w.cell? ⟨b, 2, none⟩ = some (.bool bad) :=
  ⟨cell_of_row w b 0 _ T (0, 0) h, cell_of_row w b 1 _ T (0, 0) h, cell_of_row w b 2 _ T (0, 0) h⟩
theorem Rd.frozen (h : Rd T w b s p bad) (i : Nat) : w.frozen? ⟨b, i, none⟩ = false := by
  unfold Rd at h
  simp [World.frozen?, h]
theorem Rd.new (w : World) (T : TypeId) (s : ByteArray) (p : Int) (h : p = 0) : Rd T (w.alloc (.cells #[.string s, .int .i64 p, .bool false] T)) w.heap.size s 0 false := by
  subst h; exact heap_alloc_new w _
theorem Rd.drewN (h : Rd T w b s p bad) (n : Nat) : Rd T (w.drewN n) b s p bad := h
theorem Rd.keep {row : Option Nat} (h : Rd T w b s p bad) (hg : w.grownBy w' row) (hne : some b ≠ row) : Rd T w' b s p bad := (hg.block b h.lt hne).trans h
theorem Rd.below (h : Rd T w b s p bad) (hg : Below w.heap.size w w') : Rd T w' b s p bad := (hg.block b h.lt).trans h
end
theorem by_set {a w : World} {b : Nat} (h : a.grownBy w (some b)) (i : Nat) (u : Value) : a.grownBy (w.setCell ⟨b, i, none⟩ u) (some b) :=
  ⟨h.os, h.tape, h.output, by simpa [World.setCell] using h.size, fun k hk hne => (Below.heap_setCell w _ u k (fun e => hne (congrArg some e))).trans (h.block k hk hne)⟩
theorem by_below {w w' : World} (h : Below w.heap.size w w') (r : Option Nat) : w.grownBy w' r := ⟨h.os, h.tape, h.output, h.size, fun i hi _ => h.block i hi⟩
end Go.Proofs.YtdcjffajmckleaaGreatDoor

/- What Print gives, of the program and of the document: layer op. -/
namespace Go.Proofs.YtdcjffajmckleaaGreatDoor
open Go.RowKit Cod

structure Wide (C D I M K U : Int) : Prop where
  c : i64 C
  d : i64 D
  i : i64 I
  m : i64 M
  k : i64 K
  u : i64 U
def printOf (C D I M K U : Int) (s : ByteArray) : ByteArray := bytesOf C ++ bytesOf D ++ bytesOf I ++ bytesOf M ++ bytesOf K ++ bytesOf U ++ textOf s

/-- In block b lies an operation. -/
def OpIn (w : World) (b : Nat) (C D I M K U : Int) (s : ByteArray) : Prop :=
  w.heap[b]? = some (.cells #[.int .i64 C, .int .i64 D, .int .i64 I, .int .i64 M, .int .i64 K, .int .i64 U, .string s] 55 (0, 0))
section
variable {w w' : World} {b : Nat} {C D I M K U : Int} {s : ByteArray}
theorem OpIn.lt (h : OpIn w b C D I M K U s) : b < w.heap.size := by
  rcases Nat.lt_or_ge b w.heap.size with hlt | hge
  · exact hlt
  · unfold OpIn at h; rw [Array.getElem?_eq_none hge] at h; cases h
theorem OpIn.cells (h : OpIn w b C D I M K U s) : w.cell? ⟨b, 0, none⟩ = some (.int .i64 C) ∧ w.cell? ⟨b, 1, none⟩ = some (.int .i64 D) ∧ w.cell? ⟨b, 2, none⟩ = some (.int .i64 I) ∧ w.cell? ⟨b, 3, none⟩ = some (.int .i64 M) ∧ w.cell? ⟨b, 4, none⟩ = some (.int .i64 K) ∧ w.cell? ⟨b, 5, none⟩ = some (.int .i64 U) ∧ w.cell? ⟨b, 6, none⟩ = some (.string s) :=
  ⟨cell_of_row w b 0 _ 55 (0, 0) h, cell_of_row w b 1 _ 55 (0, 0) h, cell_of_row w b 2 _ 55 (0, 0) h, cell_of_row w b 3 _ 55 (0, 0) h, cell_of_row w b 4 _ 55 (0, 0) h, cell_of_row w b 5 _ 55 (0, 0) h, cell_of_row w b 6 _ 55 (0, 0) h⟩
theorem OpIn.frozen (h : OpIn w b C D I M K U s) (i : Nat) : w.frozen? ⟨b, i, none⟩ = false := by
  unfold OpIn at h
  simp [World.frozen?, h]
theorem OpIn.new (w : World) (C D I M K U : Int) (s : ByteArray) : OpIn (w.alloc (.cells #[.int .i64 C, .int .i64 D, .int .i64 I, .int .i64 M, .int .i64 K, .int .i64 U, .string s] 55)) w.heap.size C D I M K U s := heap_alloc_new w _
theorem OpIn.below (h : OpIn w b C D I M K U s) (hg : Below w.heap.size w w') : OpIn w' b C D I M K U s := (hg.block b h.lt).trans h
theorem OpIn.keep {row : Option Nat} (h : OpIn w b C D I M K U s) (hg : w.grownBy w' row) (hne : some b ≠ row) : OpIn w' b C D I M K U s := (hg.block b h.lt hne).trans h
end

theorem text_le (s : ByteArray) (hs : s.size ≤ 1000000) : (textOf s).size ≤ 1000010 := by
  unfold textOf; rw [ByteArray.size_append]
  have := bytesOf_le s.size (by omega) (by omega)
  omega

set_option maxHeartbeats 4000000 in
theorem opRefPrint_any (C D I M K U : Int) (s : ByteArray) (w : World) (hw : Wide C D I M K U) (hs : s.size ≤ 1000000) :
    Calls Tryz.prog 89 #[.agg #[.int .i64 C, .int .i64 D, .int .i64 I, .int .i64 M, .int .i64 K, .int .i64 U, .string s]] w fun e w' => e = .returned (.string (printOf C D I M K U s)) ∧ Below w.heap.size w w' := by
  obtain ⟨hc, hd, hi, hm, hk, hu⟩ := hw
  have c1 := fun w => refNum_any C w hc.1 hc.2
  have c2 := fun w => refNum_any D w hd.1 hd.2
  have c3 := fun w => refNum_any I w hi.1 hi.2
  have c4 := fun w => refNum_any M w hm.1 hm.2
  have c5 := fun w => refNum_any K w hk.1 hk.2
  have c6 := fun w => refNum_any U w hu.1 hu.2
  have c7 := fun w => refText_any s w hs
  have z1 := bytesOf_le C hc.1 hc.2
  have z2 := bytesOf_le D hd.1 hd.2
  have z3 := bytesOf_le I hi.1 hi.2
  have z4 := bytesOf_le M hm.1 hm.2
  have z5 := bytesOf_le K hk.1 hk.2
  have z6 := bytesOf_le U hu.1 hu.2
  have z7 := text_le s hs
  unfold printOf
  clear hc hd hi hm hk hu
  generalize bytesOf C = x1 at *
  generalize bytesOf D = x2 at *
  generalize bytesOf I = x3 at *
  generalize bytesOf M = x4 at *
  generalize bytesOf K = x5 at *
  generalize bytesOf U = x6 at *
  generalize textOf s = x7 at *
  have C1 := Lib.hid c1
  have C2 := Lib.hid c2
  have C3 := Lib.hid c3
  have C4 := Lib.hid c4
  have C5 := Lib.hid c5
  have C6 := Lib.hid c6
  have C7 := Lib.hid c7
  clear c1 c2 c3 c4 c5 c6 c7
  go_enter Tryz.func89, Tryz.ntmps89
  go_wp2
  have hO := OpIn.new w C D I M K U s
  have hB0 := below_alloc (Below.refl w.heap.size w) (.cells #[.int .i64 C, .int .i64 D, .int .i64 I, .int .i64 M, .int .i64 K, .int .i64 U, .string s] 55)
  generalize w.alloc (.cells #[.int .i64 C, .int .i64 D, .int .i64 I, .int .i64 M, .int .i64 K, .int .i64 U, .string s] 55) = W at *
  obtain ⟨g0, g1, g2, g3, g4, g5, g6⟩ := hO.cells
  have k0 := cell_regrown g0
  have k1 := cell_regrown g1
  have k2 := cell_regrown g2
  have k3 := cell_regrown g3
  have k4 := cell_regrown g4
  have k5 := cell_regrown g5
  have k6 := cell_regrown g6
  clear g0 g1 g2 g3 g4 g5 g6 hO
  have d1 : ∀ d os, Calls Tryz.prog 56 #[.int .i64 C] (Sort.grow (redrawn W d) os) fun e w'' => e = .returned (.string x1) ∧ ∃ p : Regrown, w'' = Sort.grow (redrawn W p.d) p.os := fun d os => Calls.regrown_of (C1.out _)
  have d2 : ∀ d os, Calls Tryz.prog 56 #[.int .i64 D] (Sort.grow (redrawn W d) os) fun e w'' => e = .returned (.string x2) ∧ ∃ p : Regrown, w'' = Sort.grow (redrawn W p.d) p.os := fun d os => Calls.regrown_of (C2.out _)
  have d3 : ∀ d os, Calls Tryz.prog 56 #[.int .i64 I] (Sort.grow (redrawn W d) os) fun e w'' => e = .returned (.string x3) ∧ ∃ p : Regrown, w'' = Sort.grow (redrawn W p.d) p.os := fun d os => Calls.regrown_of (C3.out _)
  have d4 : ∀ d os, Calls Tryz.prog 56 #[.int .i64 M] (Sort.grow (redrawn W d) os) fun e w'' => e = .returned (.string x4) ∧ ∃ p : Regrown, w'' = Sort.grow (redrawn W p.d) p.os := fun d os => Calls.regrown_of (C4.out _)
  have d5 : ∀ d os, Calls Tryz.prog 56 #[.int .i64 K] (Sort.grow (redrawn W d) os) fun e w'' => e = .returned (.string x5) ∧ ∃ p : Regrown, w'' = Sort.grow (redrawn W p.d) p.os := fun d os => Calls.regrown_of (C5.out _)
  have d6 : ∀ d os, Calls Tryz.prog 56 #[.int .i64 U] (Sort.grow (redrawn W d) os) fun e w'' => e = .returned (.string x6) ∧ ∃ p : Regrown, w'' = Sort.grow (redrawn W p.d) p.os := fun d os => Calls.regrown_of (C6.out _)
  have d7 : ∀ d os, Calls Tryz.prog 108 #[.string s] (Sort.grow (redrawn W d) os) fun e w'' => e = .returned (.string x7) ∧ ∃ p : Regrown, w'' = Sort.grow (redrawn W p.d) p.os := fun d os => Calls.regrown_of (C7.out _)
  refine wp_region_quiet_below (by kernel_rfl) (by kernel_rfl) ?_
  repeat (go_big_quiet_step ((with_reducible (first | exact d1 _ _ | exact d2 _ _ | exact d3 _ _ | exact d4 _ _ | exact d5 _ _ | exact d6 _ _ | exact d7 _ _))))
  refine wpQuiet_nil ?_
  intro _ hw'
  obtain ⟨⟨dq, osq⟩, hw''⟩ := hw'
  subst hw''
  go_wp2
  go_ret
  exact ⟨rfl, below_then hB0 (below_regrown W dq osq)⟩
end Go.Proofs.YtdcjffajmckleaaGreatDoor

/- An operation in a block: stored, loaded, handed back whole. -/
namespace Go.Proofs.YtdcjffajmckleaaGreatDoor
open Go.RowKit Cod
theorem op_size : (Tryz.prog.info? 55).map (·.size) = some 7 := by kernel_rfl

theorem OpIn.set {w : World} {b : Nat} {C D I M K U : Int} {s : ByteArray} (h : OpIn w b C D I M K U s) (C' D' I' M' K' U' : Int) (s' : ByteArray) : OpIn (w.setRow b #[.int .i64 C', .int .i64 D', .int .i64 I', .int .i64 M', .int .i64 K', .int .i64 U', .string s']) b C' D' I' M' K' U' s' := setRow_heap _ _ _ _ _ _ h

theorem OpIn.alloc {w : World} {b : Nat} {C D I M K U : Int} {s : ByteArray} (h : OpIn w b C D I M K U s) (o : Obj) : OpIn (w.alloc o) b C D I M K U s := h.below (below_alloc (Below.refl _ _) o)

theorem store_op {ops : Array Oper} {rest : List Oper} {o : Oper} {a : Act} {w : World} {Q : Exit → Act → World → Prop} (hgd : o.guard = none) (x y : Operand) (ho : o.op = .store 55 x y)
    (b : Nat) (C' D' I' M' K' U' : Int) (s' : ByteArray) (hx : a.eval x = .pointer (some ⟨b, 0, none⟩)) (hy : a.eval y = .agg #[.int .i64 C', .int .i64 D', .int .i64 I', .int .i64 M', .int .i64 K', .int .i64 U', .string s'])
    (C D I M K U : Int) (s : ByteArray) (hg : OpIn w b C D I M K U s)
    (h : wpList Tryz.prog ops Q rest (a.put o.dst undef) (w.setRow b #[.int .i64 C', .int .i64 D', .int .i64 I', .int .i64 M', .int .i64 K', .int .i64 U', .string s'])) : wpList Tryz.prog ops Q (o :: rest) a w :=
  wpList_store_row hgd 55 x y ho b _ hx hy 55 _ hg op_size rfl (by simp [Value.oneCell']) h

theorem load_op {ops : Array Oper} {rest : List Oper} {o : Oper} {a : Act} {w : World} {Q : Exit → Act → World → Prop} (hgd : o.guard = none) (x : Operand) (ho : o.op = .load 55 x)
    (b : Nat) (hx : a.eval x = .pointer (some ⟨b, 0, none⟩)) (C D I M K U : Int) (s : ByteArray) (hg : OpIn w b C D I M K U s)
    (h : wpList Tryz.prog ops Q rest (a.put o.dst (.agg #[.int .i64 C, .int .i64 D, .int .i64 I, .int .i64 M, .int .i64 K, .int .i64 U, .string s])) w) : wpList Tryz.prog ops Q (o :: rest) a w :=
  wpList_load_row hgd 55 x ho b hx 55 _ (0, 0) _ hg Tryz.underlying55 rfl op_size h

theorem loadVar_op {w : World} {b : Nat} {C D I M K U : Int} {s : ByteArray} (h : OpIn w b C D I M K U s) : (loadVar 55 ⟨b, 0, none⟩).run Tryz.prog w = .ok (.agg #[.int .i64 C, .int .i64 D, .int .i64 I, .int .i64 M, .int .i64 K, .int .i64 U, .string s]) w :=
  run_loadVar_row w b 55 55 _ (0, 0) _ h Tryz.underlying55 rfl op_size

/-- Two results, an operation and a word. -/
theorem ret_op2 {fn : Func} {R : Ending → World → Prop} {a : Act} {w : World} {b : Nat} {p u : Tmp} {v : Value} {C D I M K U : Int} {s : ByteArray} (h : OpIn w b C D I M K U s) (hr : fn.results = #[.cell p 55, .tmp u]) (hp : a.tmps.getD p undef = .pointer (some ⟨b, 0, none⟩)) (hv : a.tmps.getD u undef = v) (hd : a.defers = [])
    (hR : R (.returned (.tuple #[.agg #[.int .i64 C, .int .i64 D, .int .i64 I, .int .i64 M, .int .i64 K, .int .i64 U, .string s], v])) w) : bodyPost Tryz.prog fn R .ret a w := by
  refine bodyPost_ret (v := .tuple #[.agg #[.int .i64 C, .int .i64 D, .int .i64 I, .int .i64 M, .int .i64 K, .int .i64 U, .string s], v]) ?_ hd hR
  rw [results_cell_tmp hr, hp, hv]
  simp only [asAddr, Sem.run_pure, Result.andThen, loadVar_op h]
end Go.Proofs.YtdcjffajmckleaaGreatDoor

/- What Make gives, of the program and of the document: layer op. -/
namespace Go.Proofs.YtdcjffajmckleaaGreatDoor
open Go.RowKit Nam Cod

def mkB (c e I M K U : Int) (s : ByteArray) : Bool := nextB c e && opB (nextC c e) (nextD c e) I M K U s
def mkI (b : Bool) (n : Int) : Int := if b then n else 0
def mkS (b : Bool) (s : ByteArray) : ByteArray := if b then s else ⟨#[]⟩

set_option maxHeartbeats 4000000 in
theorem opMake_any (c e I M K U : Int) (s : ByteArray) (w : World) (hs : s.size ≤ 9223372036854775807) :
    Calls Tryz.prog 24 #[.int .i64 c, .int .i64 e, .int .i64 I, .int .i64 M, .agg #[.int .i64 K, .int .i64 U, .string s]] w fun x w' => x = .returned (.tuple #[.agg #[.int .i64 (mkI (mkB c e I M K U s) (nextC c e)), .int .i64 (mkI (mkB c e I M K U s) (nextD c e)), .int .i64 (mkI (mkB c e I M K U s) I), .int .i64 (mkI (mkB c e I M K U s) M), .int .i64 (mkI (mkB c e I M K U s) K), .int .i64 (mkI (mkB c e I M K U s) U), .string (mkS (mkB c e I M K U s) s)], .bool (mkB c e I M K U s)]) ∧ Below w.heap.size w w' := by
  have c1 := fun w => next_any c e w
  have c2 := fun w => opRight_any (nextC c e) (nextD c e) I M K U s w hs
  obtain ⟨b1, h1⟩ : ∃ b, nextB c e = b := ⟨_, rfl⟩
  obtain ⟨b2, h2⟩ : ∃ b, opB (nextC c e) (nextD c e) I M K U s = b := ⟨_, rfl⟩
  unfold mkB
  rw [h1] at c1 ⊢
  rw [h2] at c2 ⊢
  generalize nextC c e = X at *
  generalize nextD c e = Y at *
  clear h1 h2
  cases b1
  · have C1 := Lib.hid c1
    clear c1 c2
    go_enter Tryz.func24, Tryz.ntmps24
    go_wp2_with fail
    have hB0 : Below w.heap.size w ((w.alloc (.cells #[.int .i64 K, .int .i64 U, .string s] 50)).alloc (.cells #[.int .i64 0, .int .i64 0, .int .i64 0, .int .i64 0, .int .i64 0, .int .i64 0, .string ⟨#[]⟩] 55)) := below_alloc (below_alloc (Below.refl _ _) _) _
    have hO : OpIn ((w.alloc (.cells #[.int .i64 K, .int .i64 U, .string s] 50)).alloc (.cells #[.int .i64 0, .int .i64 0, .int .i64 0, .int .i64 0, .int .i64 0, .int .i64 0, .string ⟨#[]⟩] 55)) (w.heap.size + 1) 0 0 0 0 0 0 ⟨#[]⟩ := by
      have h := OpIn.new (w.alloc (.cells #[.int .i64 K, .int .i64 U, .string s] 50)) 0 0 0 0 0 0 ⟨#[]⟩
      rwa [show (w.alloc (.cells #[.int .i64 K, .int .i64 U, .string s] 50)).heap.size = w.heap.size + 1 from alloc_size _ _] at h
    have g0 : ((w.alloc (.cells #[.int .i64 K, .int .i64 U, .string s] 50)).alloc (.cells #[.int .i64 0, .int .i64 0, .int .i64 0, .int .i64 0, .int .i64 0, .int .i64 0, .string ⟨#[]⟩] 55)).heap[w.heap.size]? = some (.cells #[.int .i64 K, .int .i64 U, .string s] 50 (0, 0)) := by
      rw [(below_alloc (Below.refl _ _) _).block _ (by rw [alloc_size]; exact Nat.lt_succ_self _)]; exact heap_alloc_new w _
    generalize ((w.alloc (.cells #[.int .i64 K, .int .i64 U, .string s] 50)).alloc (.cells #[.int .i64 0, .int .i64 0, .int .i64 0, .int .i64 0, .int .i64 0, .int .i64 0, .string ⟨#[]⟩] 55)) = W0 at *
    refine (C1.out _).mono ?_
    rintro x w1 ⟨rfl, hb1⟩
    have hO1 := hO.below hb1
    have g1 := (hb1.block _ (Nat.lt_of_le_of_lt (Nat.le_succ _) hO.lt)).trans g0
    have hz := hO1.lt
    have hn2 : w.heap.size ≤ w.heap.size + 1 := Nat.le_succ _
    have hlt : w.heap.size < w1.heap.size := by omega
    have hne : w.heap.size ≠ w1.heap.size := by omega
    have k0 : w1.cell? ⟨w.heap.size, 0, none⟩ = some (.int .i64 K) := cell_of_row w1 w.heap.size 0 _ 50 (0, 0) g1
    have k1 : w1.cell? ⟨w.heap.size, 1, none⟩ = some (.int .i64 U) := cell_of_row w1 w.heap.size 1 _ 50 (0, 0) g1
    have k2 : w1.cell? ⟨w.heap.size, 2, none⟩ = some (.string s) := cell_of_row w1 w.heap.size 2 _ 50 (0, 0) g1
    have hb := below_then hB0 hb1
    clear hb1 hO g0 g1 hB0
    generalize w.heap.size + 1 = n2 at *
    go_wp2_with (refine store_op rfl _ _ rfl _ _ _ _ _ _ _ _ rfl rfl _ _ _ _ _ _ _ ((hO1.alloc _).alloc _) ?_)
    refine ret_op2 (((hO1.alloc _).alloc _).set _ _ _ _ _ _ _) rfl rfl rfl rfl ?_
    exact ⟨rfl, below_setRow (below_alloc (below_alloc hb _) _) hn2 _⟩
  · have C1 := Lib.hid c1
    have C2 := Lib.hid c2
    clear c1 c2
    go_enter Tryz.func24, Tryz.ntmps24
    go_wp2_with fail
    have hB0 : Below w.heap.size w ((w.alloc (.cells #[.int .i64 K, .int .i64 U, .string s] 50)).alloc (.cells #[.int .i64 0, .int .i64 0, .int .i64 0, .int .i64 0, .int .i64 0, .int .i64 0, .string ⟨#[]⟩] 55)) := below_alloc (below_alloc (Below.refl _ _) _) _
    have hO : OpIn ((w.alloc (.cells #[.int .i64 K, .int .i64 U, .string s] 50)).alloc (.cells #[.int .i64 0, .int .i64 0, .int .i64 0, .int .i64 0, .int .i64 0, .int .i64 0, .string ⟨#[]⟩] 55)) (w.heap.size + 1) 0 0 0 0 0 0 ⟨#[]⟩ := by
      have h := OpIn.new (w.alloc (.cells #[.int .i64 K, .int .i64 U, .string s] 50)) 0 0 0 0 0 0 ⟨#[]⟩
      rwa [show (w.alloc (.cells #[.int .i64 K, .int .i64 U, .string s] 50)).heap.size = w.heap.size + 1 from alloc_size _ _] at h
    have g0 : ((w.alloc (.cells #[.int .i64 K, .int .i64 U, .string s] 50)).alloc (.cells #[.int .i64 0, .int .i64 0, .int .i64 0, .int .i64 0, .int .i64 0, .int .i64 0, .string ⟨#[]⟩] 55)).heap[w.heap.size]? = some (.cells #[.int .i64 K, .int .i64 U, .string s] 50 (0, 0)) := by
      rw [(below_alloc (Below.refl _ _) _).block _ (by rw [alloc_size]; exact Nat.lt_succ_self _)]; exact heap_alloc_new w _
    generalize ((w.alloc (.cells #[.int .i64 K, .int .i64 U, .string s] 50)).alloc (.cells #[.int .i64 0, .int .i64 0, .int .i64 0, .int .i64 0, .int .i64 0, .int .i64 0, .string ⟨#[]⟩] 55)) = W0 at *
    refine (C1.out _).mono ?_
    rintro x w1 ⟨rfl, hb1⟩
    have hO1 := hO.below hb1
    have g1 := (hb1.block _ (Nat.lt_of_le_of_lt (Nat.le_succ _) hO.lt)).trans g0
    have hz := hO1.lt
    have hn2 : w.heap.size ≤ w.heap.size + 1 := Nat.le_succ _
    have hlt : w.heap.size < w1.heap.size := by omega
    have hne : w.heap.size ≠ w1.heap.size := by omega
    have k0 : w1.cell? ⟨w.heap.size, 0, none⟩ = some (.int .i64 K) := cell_of_row w1 w.heap.size 0 _ 50 (0, 0) g1
    have k1 : w1.cell? ⟨w.heap.size, 1, none⟩ = some (.int .i64 U) := cell_of_row w1 w.heap.size 1 _ 50 (0, 0) g1
    have k2 : w1.cell? ⟨w.heap.size, 2, none⟩ = some (.string s) := cell_of_row w1 w.heap.size 2 _ 50 (0, 0) g1
    have hb := below_then hB0 hb1
    clear hb1 hO g0 g1 hB0
    generalize w.heap.size + 1 = n2 at *
    go_wp2_with fail
    have hO2 := (hO1.alloc (.cells #[.int .i64 X, .int .i64 Y] 53)).alloc (.cells #[.int .i64 X, .int .i64 Y, .int .i64 I, .int .i64 M, .int .i64 K, .int .i64 U, .string s] 55)
    have hP2 := OpIn.new (w1.alloc (.cells #[.int .i64 X, .int .i64 Y] 53)) X Y I M K U s
    rw [show (w1.alloc (.cells #[.int .i64 X, .int .i64 Y] 53)).heap.size = w1.heap.size + 1 from alloc_size _ _] at hP2
    have hb2 := below_alloc (below_alloc hb (.cells #[.int .i64 X, .int .i64 Y] 53)) (.cells #[.int .i64 X, .int .i64 Y, .int .i64 I, .int .i64 M, .int .i64 K, .int .i64 U, .string s] 55)
    clear k0 k1 k2 hlt hne hz hO1 hb
    generalize (w1.alloc (.cells #[.int .i64 X, .int .i64 Y] 53)).alloc (.cells #[.int .i64 X, .int .i64 Y, .int .i64 I, .int .i64 M, .int .i64 K, .int .i64 U, .string s] 55) = W2 at *
    generalize w1.heap.size + 1 = n3 at *
    refine (C2.out _).mono ?_
    rintro x w3 ⟨rfl, hb3⟩
    have hO3 := hO2.below hb3
    have hP3 := hP2.below hb3
    have hb := below_then hb2 hb3
    clear hO2 hP2 hb2 hb3
    cases b2
    · go_wp2_with (refine store_op rfl _ _ rfl _ _ _ _ _ _ _ _ rfl rfl _ _ _ _ _ _ _ hO3 ?_)
      refine ret_op2 (hO3.set _ _ _ _ _ _ _) rfl rfl rfl rfl ?_
      exact ⟨rfl, below_setRow hb hn2 _⟩
    · go_wp2_with (first | (refine store_op rfl _ _ rfl _ _ _ _ _ _ _ _ rfl rfl _ _ _ _ _ _ _ hO3 ?_) | (refine load_op rfl _ rfl _ rfl _ _ _ _ _ _ _ hP3 ?_))
      refine ret_op2 (hO3.set _ _ _ _ _ _ _) rfl rfl rfl rfl ?_
      exact ⟨rfl, below_setRow hb hn2 _⟩

end Go.Proofs.YtdcjffajmckleaaGreatDoor

/- Num of both Readers, in two words: what comes, or that nothing comes. -/
namespace Go.Proofs.YtdcjffajmckleaaGreatDoor
open Go.RowKit Cod
theorem list_len (s : ByteArray) (p : Nat) : (s.data.toList.drop p).length = s.size - p := by simp

section
variable {T : TypeId} {b : Nat} {s : ByteArray} {p : Nat} {w : World} {bad : Bool}
/-- The number that stands at p, and what stands behind it. -/
def isNum (s : ByteArray) (p : Nat) (bad : Bool) : Option (Int × Nat) := if bad then none else (rd (s.data.toList.drop p)).map fun x => (x.1, p + x.2)
theorem isNum_some {n : Int} {q : Nat} (h : isNum s p bad = some (n, q)) : bad = false ∧ (∃ m, rd (s.data.toList.drop p) = some (n, m) ∧ q = p + m) ∧ q ≤ s.size ∧ p < q ∧ -9223372036854775808 ≤ n ∧ n ≤ 9223372036854775807 := by
  unfold isNum at h
  cases bad
  · obtain ⟨⟨n', m⟩, h1, h2⟩ := Option.map_eq_some_iff.1 h
    obtain ⟨rfl, rfl⟩ := Prod.mk.inj h2
    obtain ⟨_, _, k1, _, k2, k3, k4⟩ := rd_some h1
    rw [list_len] at k2
    exact ⟨rfl, ⟨m, h1, rfl⟩, by show p + m ≤ _; omega, by show p < p + m; omega, k3, k4⟩
  · cases h
end

end Go.Proofs.YtdcjffajmckleaaGreatDoor

/- Count and Bool of both Readers. -/
namespace Go.Proofs.YtdcjffajmckleaaGreatDoor
open Go.RowKit Cod

/-- The number from 0 to most that stands at p. -/
def isCount (s : ByteArray) (p : Nat) (bad : Bool) (most : Int) : Option (Int × Nat) :=
  match isNum s p bad with
  | some (n, q) => if 0 ≤ n ∧ n ≤ most then some (n, q) else none
  | none => none

section
variable {b : Nat} {s : ByteArray} {p : Nat} {w : World} {bad : Bool}
theorem isCount_some {most n : Int} {q : Nat} (h : isCount s p bad most = some (n, q)) : isNum s p bad = some (n, q) ∧ 0 ≤ n ∧ n ≤ most := by
  unfold isCount at h
  split at h
  · rename_i n' q' h1
    split at h
    · rename_i h2
      obtain ⟨rfl, rfl⟩ := Prod.mk.inj (Option.some.inj h)
      exact ⟨h1, h2⟩
    · cases h
  · cases h
end

end Go.Proofs.YtdcjffajmckleaaGreatDoor

/- Text and Done of both Readers. -/
namespace Go.Proofs.YtdcjffajmckleaaGreatDoor
open Go.RowKit Cod

/-- The text that stands at p. -/
def isText (s : ByteArray) (p : Nat) (bad : Bool) (most : Int) : Option (ByteArray × Nat) :=
  match isCount s p bad most with
  | some (n, q) => if n.toNat + q ≤ s.size then some (s.extract q (q + n.toNat), q + n.toNat) else none
  | none => none

section
variable {b : Nat} {s : ByteArray} {p : Nat} {w : World} {bad : Bool}
theorem isText_some {most : Int} {t : ByteArray} {e : Nat} (h : isText s p bad most = some (t, e)) : ∃ n q : Nat, isCount s p bad most = some ((n : Int), q) ∧ n + q ≤ s.size ∧ t = s.extract q (q + n) ∧ e = q + n := by
  unfold isText at h
  split at h
  · rename_i n' q' h1
    split at h
    · rename_i h2
      obtain ⟨rfl, rfl⟩ := Prod.mk.inj (Option.some.inj h)
      obtain ⟨_, h3, _⟩ := isCount_some h1
      exact ⟨n'.toNat, q', by rw [Int.toNat_of_nonneg h3]; exact h1, h2, rfl, rfl⟩
    · cases h
  · cases h
end

end Go.Proofs.YtdcjffajmckleaaGreatDoor

/- A number, a text read, whatever the reader's state; small steps on worlds. -/
namespace Go.Proofs.YtdcjffajmckleaaGreatDoor
open Go.RowKit Cod

def numStep (s : ByteArray) (p : Nat) (bad : Bool) (v : Int) (q : Nat) (bad' : Bool) : Prop := (isNum s p bad = some (v, q) ∧ bad' = false) ∨ (isNum s p bad = none ∧ v = 0 ∧ bad' = true)
def textStep (s : ByteArray) (p : Nat) (bad : Bool) (v : ByteArray) (q : Nat) (bad' : Bool) : Prop := (isText s p bad 16 = some (v, q) ∧ bad' = false) ∨ (isText s p bad 16 = none ∧ v = ⟨#[]⟩ ∧ bad' = true)
theorem isNum_bad (s : ByteArray) (p : Nat) : isNum s p true = none := rfl
theorem isText_bad (s : ByteArray) (p : Nat) (m : Int) : isText s p true m = none := by
  rcases h : isText s p true m with _ | ⟨t, e⟩
  · rfl
  · obtain ⟨n, q, h1, _⟩ := isText_some h
    have := (isCount_some h1).1
    rw [isNum_bad] at this; cases this
theorem numStep.good {s : ByteArray} {p : Nat} {bad : Bool} {v : Int} {q : Nat} (h : numStep s p bad v q false) : bad = false ∧ isNum s p false = some (v, q) := by
  rcases h with ⟨h, _⟩ | ⟨_, _, h⟩
  · cases bad
    · exact ⟨rfl, h⟩
    · rw [isNum_bad] at h; cases h
  · cases h
theorem numStep.back {s : ByteArray} {p : Nat} {bad : Bool} {v : Int} {q : Nat} (h : numStep s p bad v q false) : isNum s p bad = some (v, q) := by
  rcases h with ⟨h, _⟩ | ⟨_, _, h⟩
  · exact h
  · cases h
theorem textStep.good {s : ByteArray} {p : Nat} {bad : Bool} {v : ByteArray} {q : Nat} (h : textStep s p bad v q false) : bad = false ∧ isText s p false 16 = some (v, q) := by
  rcases h with ⟨h, _⟩ | ⟨_, _, h⟩
  · cases bad
    · exact ⟨rfl, h⟩
    · rw [isText_bad] at h; cases h
  · cases h
section
variable {w a : World} {b : Nat} {s : ByteArray}
theorem Rd.other {T : TypeId} {q : Nat} {bad : Bool} (h : Rd T w b s q bad) (n i : Nat) (v : Value) (hne : b ≠ n) : Rd T (w.setCell ⟨n, i, none⟩ v) b s q bad :=
  (Below.heap_setCell w ⟨n, i, none⟩ v b hne).trans h
theorem Rd.row {T : TypeId} {q : Nat} {bad : Bool} (h : Rd T w b s q bad) (n : Nat) (cs : Array Value) (hne : b ≠ n) : Rd T (w.setRow n cs) b s q bad := (setRow_other w n b cs hne).trans h
end
end Go.Proofs.YtdcjffajmckleaaGreatDoor

/- What Read gives, of the program and of the document: layer op. -/
namespace Go.Proofs.YtdcjffajmckleaaGreatDoor
open Go.RowKit Nam Cod

structure Mv where
  C : Int
  D : Int
  I : Int
  M : Int
  K : Int
  U : Int
  s : ByteArray
def zeroMv : Mv := ⟨0, 0, 0, 0, 0, 0, ⟨#[]⟩⟩
def isOp (s : ByteArray) (p : Nat) (bad : Bool) : Option (Mv × Nat) :=
  (isNum s p bad).bind fun a => (isNum s a.2 false).bind fun b => (isNum s b.2 false).bind fun c => (isNum s c.2 false).bind fun d => (isNum s d.2 false).bind fun e => (isNum s e.2 false).bind fun f => (isText s f.2 false 16).bind fun g =>
    if opB a.1 b.1 c.1 d.1 e.1 f.1 g.1 = true then some (⟨a.1, b.1, c.1, d.1, e.1, f.1, g.1⟩, g.2) else none
/-- The seven steps, one behind the other. -/
structure Steps7 (s : ByteArray) (p : Nat) (bad : Bool) (C D I M K U : Int) (t : ByteArray) (q7 : Nat) (b7 : Bool) : Prop where
  all : ∃ q1 q2 q3 q4 q5 q6 b1 b2 b3 b4 b5 b6, numStep s p bad C q1 b1 ∧ numStep s q1 b1 D q2 b2 ∧ numStep s q2 b2 I q3 b3 ∧ numStep s q3 b3 M q4 b4 ∧ numStep s q4 b4 K q5 b5 ∧ numStep s q5 b5 U q6 b6 ∧ textStep s q6 b6 t q7 b7
theorem Steps7.good {s : ByteArray} {p : Nat} {bad : Bool} {C D I M K U : Int} {t : ByteArray} {q7 : Nat} (h : Steps7 s p bad C D I M K U t q7 false) : isOp s p bad = if opB C D I M K U t = true then some (⟨C, D, I, M, K, U, t⟩, q7) else none := by
  obtain ⟨q1, q2, q3, q4, q5, q6, b1, b2, b3, b4, b5, b6, h1, h2, h3, h4, h5, h6, h7⟩ := h.all
  obtain ⟨e7, g7⟩ := h7.good
  subst e7
  obtain ⟨e6, g6⟩ := h6.good
  subst e6
  obtain ⟨e5, g5⟩ := h5.good
  subst e5
  obtain ⟨e4, g4⟩ := h4.good
  subst e4
  obtain ⟨e3, g3⟩ := h3.good
  subst e3
  obtain ⟨e2, g2⟩ := h2.good
  subst e2
  have g1 := h1.back
  unfold isOp
  simp only [g1, g2, g3, g4, g5, g6, g7, Option.bind_some]
section
variable {w a : World} {b : Nat} {C D I M K U : Int} {s : ByteArray}
theorem OpIn.putC (h : OpIn w b C D I M K U s) (x : Int) : OpIn (w.setCell ⟨b, 0, none⟩ (.int .i64 x)) b x D I M K U s := by
  unfold OpIn at h ⊢
  simp [World.setCell, Array.getElem?_modify, h]
theorem OpIn.other (h : OpIn w b C D I M K U s) (n i : Nat) (v : Value) (hne : b ≠ n) : OpIn (w.setCell ⟨n, i, none⟩ v) b C D I M K U s :=
  (Below.heap_setCell w ⟨n, i, none⟩ v b hne).trans h
end
end Go.Proofs.YtdcjffajmckleaaGreatDoor

/- What Parse gives, of the program and of the document: layer op. -/
namespace Go.Proofs.YtdcjffajmckleaaGreatDoor
open Go.RowKit Nam Cod
def Mv.val (o : Mv) : Value := .agg #[.int .i64 o.C, .int .i64 o.D, .int .i64 o.I, .int .i64 o.M, .int .i64 o.K, .int .i64 o.U, .string o.s]

end Go.Proofs.YtdcjffajmckleaaGreatDoor

/- Numbers, a text and a bool, one behind the other: what stands where. -/
namespace Go.Proofs.YtdcjffajmckleaaGreatDoor
open Go.RowKit Cod

theorem drop_of (A R : ByteArray) : (A ++ R).data.toList.drop A.size = R.data.toList := by
  rw [dl_app, ← dl_len A]; exact List.drop_left' rfl

theorem num_there (A Z : ByteArray) (n : Int) (h1 : -9223372036854775808 ≤ n) (h2 : n ≤ 9223372036854775807) : isNum (A ++ (bytesOf n ++ Z)) A.size false = some (n, A.size + (bytesOf n).size) := by
  unfold isNum
  rw [drop_of, dl_app, bytesOf_list, rd_enc n h1 h2, bytesOf_size]
  rfl

/-- The first k numbers, one behind the other. -/
def catF (f : Nat → Int) : Nat → ByteArray
  | 0 => ⟨#[]⟩
  | k + 1 => catF f k ++ bytesOf (f k)
def Fits (f : Nat → Int) (n : Nat) : Prop := ∀ j, j < n → -9223372036854775808 ≤ f j ∧ f j ≤ 9223372036854775807
theorem cat_le (f : Nat → Int) (n : Nat) (h : Fits f n) : ∀ k, k ≤ n → (catF f k).size ≤ 10 * k
  | 0, _ => Nat.le_refl 0
  | k + 1, hk => by
    have h1 := cat_le f n h k (by omega)
    have h2 := h k (by omega)
    have h3 := bytesOf_le (f k) h2.1 h2.2
    rw [catF, ByteArray.size_append]; omega
end Go.Proofs.YtdcjffajmckleaaGreatDoor

/- An operation's bytes are read as it was; what is read has just these bytes; the document's examples hold. -/
namespace Go.Proofs.YtdcjffajmckleaaGreatDoor
open Go.RowKit Nam Cod

theorem opB_wide {C D I M K U : Int} {s : ByteArray} (h : opB C D I M K U s = true) : Wide C D I M K U ∧ 1 ≤ C ∧ s.size ≤ 16 ∧ 1 ≤ s.size := by
  unfold opB atB cntB mvB at h
  simp only [Bool.and_eq_true, decide_eq_true_iff] at h
  have hl := isName_len h.2.2.2.2
  rw [L_len] at hl
  exact ⟨⟨⟨by omega, by omega⟩, ⟨by omega, by omega⟩, ⟨by omega, by omega⟩, ⟨by omega, by omega⟩, ⟨by omega, by omega⟩, ⟨by omega, by omega⟩⟩, by omega, by omega, by omega⟩

end Go.Proofs.YtdcjffajmckleaaGreatDoor

/- The frame of a law that reads its arguments, makes memory of its own, and answers true: its row's end, out of 'Below' alone. -/
namespace Go.Proofs.YtdcjffajmckleaaGreatDoor.Frm
open Go.ChangeShapes Go.WideShapes Go.ChangeAt Go.RowKit

section
variable {H : Type} {enc : TypeId × Value → H} {P : Program}

/-- Each type of a list can be read, and is a row of the table. -/
def rowed (P : Program) (ts : List TypeId) : Bool := ts.all fun t => P.readableRec t && decide (t < P.types.size)

theorem trodAll_below (hl : laidOutB P = true) {W W' : World} (hb : Below W.heap.size W W') (sp : Nat → Bool) :
    ∀ {ts : List TypeId} {vs : List Value} {ds : List (DataW H)} {ps : List MemPlace}, rowed P ts = true → DataW.TrodAll enc P W 0 (fun _ => true) true ts vs ds ps → (∀ p ∈ ps, p.block < W.heap.size) → (∀ p ∈ ps, sp p.block = true) →
      DataW.TrodAll enc P W' 0 sp true ts vs ds ps
  | [], [], [], _, _, h, _, _ => h
  | [], [], _ :: _, _, _, h, _, _ => h.elim
  | [], _ :: _, _, _, _, h, _, _ => h.elim
  | _ :: _, [], _, _, _, h, _, _ => h.elim
  | _ :: _, _ :: _, [], _, _, h, _, _ => h.elim
  | t :: ts, v :: vs, d :: ds, ps, hr, h, hlt, hsp => by
    obtain ⟨p, q, h1, h2, rfl⟩ := h
    simp only [rowed, List.all_cons, Bool.and_eq_true, decide_eq_true_iff] at hr
    refine ⟨p, q, ?_, trodAll_below hl hb sp (by simpa [rowed] using hr.2) h2 (fun x hx => hlt x (by simp [hx])) (fun x hx => hsp x (by simp [hx])), rfl⟩
    exact WideElems.Trod_stays hl hr.1.1 hr.1.2 h1 (fun x hx => hb.same (hlt x (by simp [hx]))) (fun x hx => hsp x (by simp [hx]))

/-- THE ROW's END: what was there has not turned, the answer is true, the arguments read as they did. -/
theorem law_post {f : Func} {s : ChangeSpec} {apart fresh handsOn again : Bool} {W W' : World} {args : Array Value} {ds gs : List (DataW H)} {before : List MemPlace} {tb : TypeId}
    (hl : laidOutB P = true) (hrow : rowed P f.params.toList = true) (hres : f.resultTypes = #[tb]) (hbool : P.underlying tb = some .bool) (hvars : s.vars = [])
    (hspec : s.fn H ds = { results := [.lit (.bool true)], args := ds })
    (hW : DataW.Whole enc P f.params.toList s.vars apart W args.toList ds gs before) (hb : Below W.heap.size W W') :
    s.post enc P f apart fresh handsOn again W args (.bool true) W' := by
  have hlt : ∀ p ∈ before, p.block < W.heap.size := fun p hp => hW.lt p hp
  have hold : ∀ p ∈ before, (fun b => decide (b < W.heap.size)) p.block = true := fun p hp => by simpa using hlt p hp
  obtain ⟨p, q, hA, hV, hpq, hfz, hnd⟩ := hW
  have hgs : gs = [] ∧ q = [] := by rw [hvars] at hV; exact trodVars_none hV
  obtain ⟨rfl, rfl⟩ := hgs
  rw [List.append_nil] at hpq
  subst hpq
  have hs2 : (s.fn H (ds ++ [])).results = [.lit (.bool true)] := by rw [List.append_nil, hspec]
  have hs3 : (s.fn H (ds ++ [])).args = ds := by rw [List.append_nil, hspec]
  have hs4 : (s.fn H (ds ++ [])).vars = [] := by rw [List.append_nil, hspec]
  have hargs : ∀ sp : Nat → Bool, (∀ p ∈ before, sp p.block = true) → DataW.TrodAll enc P W' 0 sp true f.params.toList args.toList (s.fn H (ds ++ [])).args before := by
    intro sp hsp
    rw [hs3]
    exact trodAll_below hl hb sp hrow hA hlt hsp
  have hR : ∀ (b : Nat) (sp : Nat → Bool) (hd : Bool), DataW.TrodAll enc P W' b sp hd f.resultTypes.toList ((Value.bool true).resultList f.resultTypes.size) (s.fn H (ds ++ [])).results [] := by
    intro b sp hd
    rw [hs2, hres]
    exact trodAll_mk1 (shut_bool hbool true)
  have hvr : ∀ sp : Nat → Bool, DataW.TrodVars enc P W' sp s.vars (s.fn H (ds ++ [])).vars [] := by
    intro sp; rw [hs4, hvars]; rfl
  have hW0 : DataW.Whole enc P f.params.toList s.vars apart W args.toList ds [] before := ⟨before, [], hA, hV, by simp, hfz, hnd⟩
  refine ⟨ds, [], before, [], before, [], hW0, hR _ _ _, hargs _ hold, hvr _, World.keptBut_mono (fun p hp => ⟨hp, by simpa using hp⟩) (hb.frame (· ∈ before)), fun _ => ?_⟩
  refine ⟨ok_one hres rfl (okWide_bool_mk hbool true), _, _, ([] ++ before) ++ [], ⟨[] ++ before, [], trodAll_append (hargs _ (fun _ _ => rfl)) (hR _ _ _), hvr _, rfl, ?_, ?_⟩, ?_⟩
  · intro b off hp
    have hin : MemPlace.cell b off ∈ before := by simpa using hp
    rw [hb.frozen (hlt _ hin)]
    exact hfz b off hin
  · intro ha
    simpa using hnd ha
  · intro p hp _
    simpa using hp

end
end Go.Proofs.YtdcjffajmckleaaGreatDoor.Frm

/- How words and texts among the arguments of the laws are opened. -/
namespace Go.Proofs.YtdcjffajmckleaaGreatDoor
open Go.ChangeShapes Go.WideShapes Go.ChangeAt Go.RowKit Go.Deep

theorem own : ownKnob Tryz.prog.godebug = none := by kernel_rfl
theorem cells3 : Tryz.prog.cellsOf 3 = 1 := by kernel_rfl
theorem cells9 : Tryz.prog.cellsOf 9 = 1 := by kernel_rfl

end Go.Proofs.YtdcjffajmckleaaGreatDoor

/- Operations, one behind the other: what stands where. -/
namespace Go.Proofs.YtdcjffajmckleaaGreatDoor
open Go.RowKit Nam Cod

instance : Inhabited Mv := ⟨zeroMv⟩
def Mv.ok (m : Mv) : Prop := opB m.C m.D m.I m.M m.K m.U m.s = true
def Mv.bytes (m : Mv) : ByteArray := printOf m.C m.D m.I m.M m.K m.U m.s
theorem bytes_le {m : Mv} (h : m.ok) : m.bytes.size ≤ 86 := by
  obtain ⟨⟨c, d, i, n, k, u⟩, _, hs, _⟩ := opB_wide h
  unfold Mv.bytes printOf textOf
  simp only [ByteArray.size_append]
  have z1 := bytesOf_le m.C c.1 c.2
  have z2 := bytesOf_le m.D d.1 d.2
  have z3 := bytesOf_le m.I i.1 i.2
  have z4 := bytesOf_le m.M n.1 n.2
  have z5 := bytesOf_le m.K k.1 k.2
  have z6 := bytesOf_le m.U u.1 u.2
  have z7 := bytesOf_le m.s.size (by omega) (by omega)
  omega
/-- From the cell o of block b on an operation lies. -/
def AtOp (w : World) (b o : Nat) (m : Mv) : Prop :=
  w.cell? ⟨b, o, none⟩ = some (.int .i64 m.C) ∧ w.cell? ⟨b, o + 1, none⟩ = some (.int .i64 m.D) ∧ w.cell? ⟨b, o + 2, none⟩ = some (.int .i64 m.I) ∧ w.cell? ⟨b, o + 3, none⟩ = some (.int .i64 m.M) ∧ w.cell? ⟨b, o + 4, none⟩ = some (.int .i64 m.K) ∧ w.cell? ⟨b, o + 5, none⟩ = some (.int .i64 m.U) ∧ w.cell? ⟨b, o + 6, none⟩ = some (.string m.s)
theorem AtOp.below {W w : World} {b o : Nat} {m : Mv} (h : AtOp W b o m) (hb : Below W.heap.size W w) (hl : b < W.heap.size) : AtOp w b o m := by
  unfold AtOp at h ⊢
  rw [(bcell hb).1 _ _ hl, (bcell hb).1 _ _ hl, (bcell hb).1 _ _ hl, (bcell hb).1 _ _ hl, (bcell hb).1 _ _ hl, (bcell hb).1 _ _ hl, (bcell hb).1 _ _ hl]; exact h
end Go.Proofs.YtdcjffajmckleaaGreatDoor

/- Entries as values: which may be, their bytes, what is read of bytes, what counts come to behind them. No call in it. -/
namespace Go.Proofs.YtdcjffajmckleaaGreatDoor
open Go.RowKit Nam Cod

structure En where
  k : Int
  d : Int
  i : Int
  o : Mv
def zeroB (o : Mv) : Bool := decide (o.C = 0 ∧ o.D = 0 ∧ o.I = 0 ∧ o.M = 0 ∧ o.K = 0 ∧ o.U = 0 ∧ o.s = ⟨#[]⟩)
def okB (o : Mv) : Bool := opB o.C o.D o.I o.M o.K o.U o.s
def lifeB (d i : Int) : Bool := decide (0 ≤ d ∧ d < 12 ∧ 1 ≤ i ∧ i ≤ 1099511627776)
def entB (e : En) : Bool := if e.k = 1 then decide (e.d = 0 ∧ e.i = 0) && okB e.o else if e.k = 2 ∨ e.k = 3 then lifeB e.d e.i && zeroB e.o else false
def entBytes (e : En) : ByteArray := if e.k = 1 then bytesOf e.k ++ e.o.bytes else bytesOf e.k ++ bytesOf e.d ++ bytesOf e.i
def zeroEn : En := ⟨0, 0, 0, zeroMv⟩
/-- Entries one behind the other. -/
def ecat : List En → ByteArray
  | [] => ⟨#[]⟩
  | e :: l => entBytes e ++ ecat l
/-- Counts. -/
structure Cn where
  d : Int
  i : Int
  n : Int
deriving DecidableEq
def cntOf (e : En) : Option Cn := if e.k = 1 then some ⟨e.o.D, e.o.I, e.o.M⟩ else if e.k = 3 then some ⟨e.d, e.i, 0⟩ else none
/-- Where a device's count stands, or would stand. -/
def cutC (l : List Cn) (d : Int) : Nat := match l with
  | [] => 0
  | x :: r => if x.d < d then cutC r d + 1 else 0
theorem cutC_le : ∀ (l : List Cn) (d : Int), cutC l d ≤ l.length
  | [], _ => Nat.le_refl _
  | x :: r, d => by
    unfold cutC
    have := cutC_le r d
    split
    · rw [List.length_cons]; omega
    · omega
theorem cutC_lt : ∀ (l : List Cn) (d : Int) (j : Nat) (h : j < l.length), j < cutC l d → l[j].d < d
  | x :: r, d, j, h, hj => by
    unfold cutC at hj
    split at hj
    · cases j with
      | zero => assumption
      | succ j => exact cutC_lt r d j (by simpa using h) (by omega)
    · omega
theorem cutC_ge : ∀ (l : List Cn) (d : Int) (h : cutC l d < l.length), d ≤ l[cutC l d].d
  | x :: r, d, h => by
    by_cases e : x.d < d
    · have hc : cutC (x :: r) d = cutC r d + 1 := by
        conv => lhs; unfold cutC
        rw [if_pos e]
      rw [hc] at h
      have := cutC_ge r d (by simpa using h)
      simp only [hc, List.getElem_cons_succ]
      exact this
    · have hc : cutC (x :: r) d = 0 := by
        conv => lhs; unfold cutC
        rw [if_neg e]
      simp only [hc, List.getElem_cons_zero]
      omega
/-- How many stand there of the device: none or one. -/
def hereC (l : List Cn) (d : Int) : Nat := if h : cutC l d < l.length then (if l[cutC l d].d = d then 1 else 0) else 0
def putC (l : List Cn) (c : Cn) : List Cn := l.take (cutC l c.d) ++ c :: l.drop (cutC l c.d + hereC l c.d)
def tally (l : List Cn) (e : En) : List Cn := match cntOf e with
  | some c => putC l c
  | none => l
def RisC (l : List Cn) : Prop := l.Pairwise fun a b => a.d < b.d
theorem putC_len (l : List Cn) (c : Cn) : (putC l c).length ≤ l.length + 1 := by
  unfold putC
  have := cutC_le l c.d
  rw [List.length_append, List.length_cons, List.length_take, List.length_drop]; omega
theorem tally_len (l : List Cn) (e : En) : (tally l e).length ≤ l.length + 1 := by
  unfold tally
  cases cntOf e with
  | none => exact Nat.le_succ _
  | some c => exact putC_len l c
end Go.Proofs.YtdcjffajmckleaaGreatDoor

/- Queues of operations as values: what is pushed, acknowledged, allowed, sent, told, read. No call in it. -/
namespace Go.Proofs.YtdcjffajmckleaaGreatDoor
open Go.RowKit Nam Cod

structure Qu where
  f : Int
  g : Int
  os : List Mv
def newQu : Qu := ⟨1, 0, []⟩
def nilQu : Qu := ⟨0, 0, []⟩
def pushQ (x : Qu) (o : Mv) : Qu := ⟨x.f, x.g, x.os ++ [o]⟩
def ackQ (x : Qu) (a : Int) : Qu := if a < x.f then x else ⟨x.f + min (a - x.f + 1) x.os.length, x.g, x.os.drop (min (a - x.f + 1) x.os.length).toNat⟩
def allowQ (x : Qu) (g : Int) : Qu := ⟨x.f, max x.g g, x.os⟩
def outQ (x : Qu) (most : Int) : List Mv := x.os.take (min most (x.g - x.f + 1)).toNat
end Go.Proofs.YtdcjffajmckleaaGreatDoor

/- Reports as values: which may be, which is newer, what merging comes to, their bytes. No call in it. -/
namespace Go.Proofs.YtdcjffajmckleaaGreatDoor
open Go.RowKit Cod

structure Rp where
  d : Int
  i : Int
  b : Int
  t : Int
  m : Int
  p : Int
  c : Int
  s : Int
  k : Int
def zeroRp : Rp := ⟨0, 0, 0, 0, 0, 0, 0, 0, 0⟩
structure RpR (r : Rp) : Prop where
  d : 0 ≤ r.d ∧ r.d < 12
  m : r.m = 1 ∨ r.m = 2
  i : 1 ≤ r.i ∧ r.i ≤ 1099511627776
  b : 0 ≤ r.b ∧ r.b ≤ 1099511627776
  t : 0 ≤ r.t ∧ r.t ≤ 1099511627776
  p : 0 ≤ r.p ∧ r.p ≤ 1099511627776
  c : 0 ≤ r.c ∧ r.c ≤ 1099511627776
  s : 0 ≤ r.s ∧ r.s ≤ 1099511627776
  k : 0 ≤ r.k ∧ r.k ≤ 1099511627776
end Go.Proofs.YtdcjffajmckleaaGreatDoor

/- Reports' bytes: nine numbers, one behind the other; what is read of bytes. No call in it. -/
namespace Go.Proofs.YtdcjffajmckleaaGreatDoor
open Go.RowKit Cod

theorem num_atR (X A Z : ByteArray) (n : Int) (p : Nat) (hX : X = A ++ (bytesOf n ++ Z)) (hp : p = A.size) (h : i64 n) : isNum X p false = some (n, p + (bytesOf n).size) := by
  subst hX hp; exact num_there A Z n h.1 h.2
theorem num_bytesR {s : ByteArray} {p : Nat} {bad : Bool} {n : Int} {q : Nat} (h : isNum s p bad = some (n, q)) : (L s).drop p = L (bytesOf n) ++ (L s).drop q := by
  obtain ⟨_, ⟨m, hr, rfl⟩, _⟩ := isNum_some h
  have h1 := (rd_some hr).1
  show s.data.toList.drop p = enc (fold n) ++ s.data.toList.drop (p + m)
  rw [← h1, ← List.drop_drop, List.take_append_drop]
def rpL (r : Rp) : List Int := [r.d, r.i, r.b, r.t, r.m, r.p, r.c, r.s, r.k]
theorem RpR.i64 {r : Rp} (h : RpR r) : ∀ n ∈ rpL r, i64 n := fun n hn => by
  obtain ⟨h1, h2, h3, h4, h5, h6, h7, h8, h9⟩ := h
  unfold rpL at hn
  simp only [List.mem_cons, List.not_mem_nil, or_false] at hn
  unfold Go.Proofs.YtdcjffajmckleaaGreatDoor.i64
  rcases hn with rfl | rfl | rfl | rfl | rfl | rfl | rfl | rfl | rfl <;> omega
end Go.Proofs.YtdcjffajmckleaaGreatDoor

/- Lists of things that have bytes, whatever the things: their bytes, what is read of bytes, step by step. No call in it. -/
namespace Go.Proofs.YtdcjffajmckleaaGreatDoor
open Go.RowKit Cod

/-- A kind of things: which may be, their bytes, what is read of bytes. -/
structure Kd (α : Type) where
  ok : α → Bool
  b : α → ByteArray
  is : ByteArray → Nat → Bool → Option (α × Nat)
  there : ∀ (A Z : ByteArray) (x : α), ok x = true → is (A ++ (b x ++ Z)) A.size false = some (x, A.size + (b x).size)
  back : ∀ {s : ByteArray} {p : Nat} {bad : Bool} {x : α} {q : Nat}, is s p bad = some (x, q) → ok x = true ∧ (L s).drop p = L (b x) ++ (L s).drop q
namespace Kd
variable {α : Type} (K : Kd α)
def cat : List α → ByteArray
  | [] => ⟨#[]⟩
  | x :: l => K.b x ++ cat l
def isL (s : ByteArray) : Nat → Nat → Option (List α × Nat)
  | 0, p => some ([], p)
  | n + 1, p => (K.is s p false).bind fun a => (isL s n a.2).bind fun b => some (a.1 :: b.1, b.2)
theorem cat_next (l : List α) (k : Nat) (h : k < l.length) : K.cat (l.take (k + 1)) = K.cat (l.take k) ++ K.b l[k] := by
  induction l generalizing k with
  | nil => exact absurd h (Nat.not_lt_zero _)
  | cons a l ih =>
    cases k with
    | zero =>
      show K.cat [a] = K.cat [] ++ K.b a
      apply L_inj
      show L (K.b a ++ ⟨#[]⟩) = L (⟨#[]⟩ ++ K.b a)
      rw [L_app, L_app]; simp [L]
    | succ k =>
      rw [List.length_cons] at h
      rw [List.take_succ_cons, List.take_succ_cons, cat, cat, ih k (by omega), ByteArray.append_assoc]
      rfl
theorem cat_le (n : Nat) : ∀ l : List α, (∀ x ∈ l, (K.b x).size ≤ n) → (K.cat l).size ≤ n * l.length
  | [], _ => Nat.zero_le _
  | x :: l, h => by
    have h1 := h x (by simp)
    have h2 := cat_le n l (fun y hy => h y (by simp [hy]))
    rw [cat, ByteArray.size_append, List.length_cons, Nat.mul_add, Nat.mul_one]; omega
theorem isL_next (s : ByteArray) : ∀ (k p : Nat), K.isL s (k + 1) p = (K.isL s k p).bind fun a => (K.is s a.2 false).bind fun e => some (a.1 ++ [e.1], e.2)
  | 0, p => by
    rw [isL, isL, Option.bind_some]
    cases K.is s p false with
    | none => rfl
    | some a => rfl
  | k + 1, p => by
    rw [isL]
    cases h : K.is s p false with
    | none => rw [isL, h]; rfl
    | some a =>
      rw [Option.bind_some, isL_next s k a.2, isL, h, Option.bind_some]
      cases K.isL s k a.2 with
      | none => rfl
      | some b =>
        simp only [Option.bind_some]
        cases K.is s b.2 false with
        | none => rfl
        | some c => rfl
theorem isL_none (s : ByteArray) (p k : Nat) (h : K.isL s k p = none) : ∀ d, K.isL s (k + d) p = none
  | 0 => h
  | d + 1 => by rw [← Nat.add_assoc, isL_next, isL_none s p k h d]; rfl
/-- How many, and the things. -/
def part (l : List α) : ByteArray := bytesOf l.length ++ K.cat l
def isPart (most : Int) (s : ByteArray) (p : Nat) (bad : Bool) : Option (List α × Nat) := (isCount s p bad most).bind fun c => K.isL s c.1.toNat c.2
end Kd
theorem Kd.cat_take_le {α : Type} (K : Kd α) (l : List α) : ∀ k, (K.cat (l.take k)).size ≤ (K.cat l).size := by
  induction l with
  | nil => intro k; simp
  | cons x l ih =>
    intro k
    cases k with
    | zero => exact Nat.zero_le _
    | succ k => rw [List.take_succ_cons, Kd.cat, Kd.cat, ByteArray.size_append, ByteArray.size_append]; have := ih k; omega
def cStepF (most : Int) (s : ByteArray) (p : Nat) (bad : Bool) (v : Nat) (q : Nat) (bad' : Bool) : Prop := (isCount s p bad most = some ((v : Int), q) ∧ bad' = false) ∨ (isCount s p bad most = none ∧ v = 0 ∧ bad' = true)
/-- A list that is read: there, or it went wrong. -/
def pStep {α : Type} (K : Kd α) (most : Int) (s : ByteArray) (p : Nat) (bad : Bool) (l : List α) (q : Nat) (bd : Bool) : Prop := (K.isPart most s p bad = some (l, q) ∧ bd = false) ∨ (K.isPart most s p bad = none ∧ bd = true)
/-- Behind some of n. -/
def pAt {α : Type} (K : Kd α) (most : Int) (s : ByteArray) (p : Nat) (bad : Bool) (n : Nat) (l : List α) (q : Nat) (bd : Bool) : Prop := (bd = false ∧ ∃ qc, isCount s p bad most = some ((n : Int), qc) ∧ K.isL s l.length qc = some (l, q)) ∨ (bd = true ∧ K.isPart most s p bad = none)
section
variable {α : Type} {K : Kd α} {most : Int} {s : ByteArray} {p : Nat} {bad : Bool} {n : Nat} {l : List α} {q : Nat} {bd : Bool}
theorem pAt.start (h : cStepF most s p bad n q bd) : pAt K most s p bad n [] q bd := by
  rcases h with ⟨h, rfl⟩ | ⟨h, _, rfl⟩
  · exact Or.inl ⟨rfl, q, h, rfl⟩
  · refine Or.inr ⟨rfl, ?_⟩
    unfold Kd.isPart; rw [h]; rfl
theorem pAt.next {x : α} {q' : Nat} {b' : Bool} (h : pAt K most s p bad n l q false) (hj : l.length < n) (hx : (K.is s q false = some (x, q') ∧ b' = false) ∨ (K.is s q false = none ∧ b' = true)) : pAt K most s p bad n (l ++ [x]) q' b' := by
  rcases h with ⟨_, qc, h1, h2⟩ | ⟨h, _⟩
  · rcases hx with ⟨hx, rfl⟩ | ⟨hx, rfl⟩
    · refine Or.inl ⟨rfl, qc, h1, ?_⟩
      rw [List.length_append, List.length_singleton, K.isL_next, h2, Option.bind_some, hx, Option.bind_some]
    · refine Or.inr ⟨rfl, ?_⟩
      have h4 : K.isL s (l.length + 1) qc = none := by rw [K.isL_next, h2, Option.bind_some, hx]; rfl
      have h5 := K.isL_none s qc (l.length + 1) h4 (n - (l.length + 1))
      rw [show l.length + 1 + (n - (l.length + 1)) = n by omega] at h5
      unfold Kd.isPart
      rw [h1, Option.bind_some]
      exact h5
  · cases h
theorem pAt.good (h : pAt K most s p bad n l q false) (hj : ¬ l.length < n) (hl : l.length ≤ n) : pStep K most s p bad l q false := by
  rcases h with ⟨_, qc, h1, h2⟩ | ⟨h, _⟩
  · obtain rfl : l.length = n := by omega
    refine Or.inl ⟨?_, rfl⟩
    unfold Kd.isPart
    rw [h1, Option.bind_some]
    exact h2
  · cases h
end
end Go.Proofs.YtdcjffajmckleaaGreatDoor

/- The plain mathematics of the sum: one step of a bit is linear and loses nothing; four steps are one look into the table; four bytes side by side that turn, turn the sum. -/
namespace Go.Proofs.YtdcjffajmckleaaGreatDoor.Crc

def P : BitVec 32 := 0xedb88320#32
/-- One step of a bit. -/
def T (x : BitVec 32) : BitVec 32 := if x.getLsbD 0 then (x >>> 1) ^^^ P else x >>> 1
/-- n steps. -/
def Tn : Nat → BitVec 32 → BitVec 32
  | 0, x => x
  | n + 1, x => Tn n (T x)

/-- One byte more. -/
def up (n : BitVec 32) (b : UInt8) : BitVec 32 := Tn 8 (n ^^^ BitVec.ofNat 32 b.toNat)
def run (n : BitVec 32) (l : List UInt8) : BitVec 32 := l.foldl up n
/-- Masks as one number, the first the lowest. -/
def val : List UInt8 → Nat
  | [] => 0
  | m :: l => m.toNat + 256 * val l

end Go.Proofs.YtdcjffajmckleaaGreatDoor.Crc

/- What Sum gives. -/
namespace Go.Proofs.YtdcjffajmckleaaGreatDoor.Crk
open Go.RowKit Crc
/-- The state behind k bytes. -/
def st (s : ByteArray) (k : Nat) : BitVec 32 := run (BitVec.allOnes 32) (s.data.toList.take k)
end Go.Proofs.YtdcjffajmckleaaGreatDoor.Crk

/- number and Four, of both. -/
namespace Go.Proofs.YtdcjffajmckleaaGreatDoor.Crk
open Go.RowKit Crc

/-- The number of four bytes, the lowest first. -/
def num (s : ByteArray) : Nat := (s.data.toList.getD 0 0).toNat + 256 * (s.data.toList.getD 1 0).toNat + 65536 * (s.data.toList.getD 2 0).toNat + 16777216 * (s.data.toList.getD 3 0).toNat
end Go.Proofs.YtdcjffajmckleaaGreatDoor.Crk

/- Seal and Open, of both. -/
namespace Go.Proofs.YtdcjffajmckleaaGreatDoor.Crk
open Go.RowKit Crc

/-- What was there reads as it did. -/
theorem bcell {W w1 : World} (hb : Below W.heap.size W w1) : (∀ b o, b < W.heap.size → w1.cell? ⟨b, o, none⟩ = W.cell? ⟨b, o, none⟩) ∧ (∀ b o, b < W.heap.size → w1.frozen? ⟨b, o, none⟩ = W.frozen? ⟨b, o, none⟩) :=
  ⟨fun b o h => hb.cell (p := ⟨b, o, none⟩) h, fun b o h => hb.frozen (p := ⟨b, o, none⟩) h⟩
theorem below_then {w w1 w2 : World} (h : Below w.heap.size w w1) (k : Below w1.heap.size w1 w2) : Below w.heap.size w w2 := h.trans (k.mono h.size)
theorem below_alloc {w w1 : World} (h : Below w.heap.size w w1) (o : Obj) : Below w.heap.size w (w1.alloc o) := h.alloc h.size o
end Go.Proofs.YtdcjffajmckleaaGreatDoor.Crk

/- What a Seal is, as lists of bytes: it is opened, whatever stands behind; what is opened was sealed just so; what is cut isn't open. -/
namespace Go.Proofs.YtdcjffajmckleaaGreatDoor.Crk
open Go.RowKit Crc

abbrev L (s : ByteArray) : List UInt8 := s.data.toList
theorem L_inj {a b : ByteArray} (h : L a = L b) : a = b := by
  apply ByteArray.ext
  exact Array.toList_inj.1 h
theorem L_len (s : ByteArray) : (L s).length = s.size := Array.length_toList
theorem L_app (a b : ByteArray) : L (a ++ b) = L a ++ L b := by simp [L, ByteArray.data_append]
end Go.Proofs.YtdcjffajmckleaaGreatDoor.Crk

/- Lists of things that have bytes, whatever the things: their bytes, what is read of bytes. Gifts and frames as values. No call in it. -/
namespace Go.Proofs.YtdcjffajmckleaaGreatDoor
open Go.RowKit Nam Cod

structure Gf where
  d : Int
  i : Int
  c : Int
  t : Int
  s : ByteArray
structure Fr where
  a : Int
  b : Int
  boot : Int
  first : Int
  pos : Int
  start : Int
  ack : Int
  grant : Int
  s : Int
  t : Int
  os : List Mv
  rs : List Rp
  es : List En
  gs : List Gf
def zeroFr : Fr := ⟨0, 0, 0, 0, 0, 0, 0, 0, 0, 0, [], [], [], []⟩
def frL (f : Fr) : List Int := [f.a, f.b, f.boot, f.first, f.pos, f.start, f.ack, f.grant, f.s, f.t]
end Go.Proofs.YtdcjffajmckleaaGreatDoor
