/- Texts laid one behind the other: Bs, Sf, Sa, Sb, Sc, Sd, Nm, Na, Oa, Cm, Cc, Cj, Ob, Od, Oc, Cf, Cg, Ch, Ui, Oe, Of, Frm, Ar, Oo, Oi, Ea, Qa, Ia, Ib, Gk, Ka, Kb, Kd, Ke, Kg, Fa, Ge, Gf. -/
import Derived.Test.YtdcjffajmckleaaGreatDoorChecked
import Derived.WalkKit
import Derived.WalkLawsBesides
import Derived.Lib.Hide
import Derived.KernelRfl
import Derived.Handy
import Derived.Lib.Strings
import Derived.Laws.FloatArith
import Derived.Lib.ItoaNum
import Derived.WalkMore
import Derived.Deep.Draws
import Derived.BigQuiet
import Derived.Deep.QuietTactic
import Derived.Lib.QuietBelow
import Derived.Laws.ResultCell
import Derived.Laws.CopyOwn
import Derived.Lib.SmallJoins
import Derived.Test.YtdcjffajmckleaaGreatDoorRows
import Derived.ProofKit
import Derived.OpenShut
import Derived.ChangeSame
import Derived.Carry
import Derived.Deep.SlicePairs
import Derived.ChangeSlices
import Derived.ChangeShapes
import Derived.Laws.IdiomStrings
import Derived.Maps.AppendAt
import Derived.Laws.OwnMore
import Derived.Lib.AppendZeros
import Derived.Laws.CopyRow
/- Small words that all texts share. -/
namespace Go.Proofs.YtdcjffajmckleaaGreatDoor
open Go.RowKit
theorem ret_bool {a b : Bool} (h : b = a) : Ending.returned (.bool a) = .returned (.bool b) := by rw [h]
theorem ret_of {a b : Value} (h : a = b) : Ending.returned a = Ending.returned b := by rw [h]

/-- What was there reads as it did. -/
theorem bcell {W w1 : World} (hb : Below W.heap.size W w1) : (∀ b o, b < W.heap.size → w1.cell? ⟨b, o, none⟩ = W.cell? ⟨b, o, none⟩) ∧ (∀ b o, b < W.heap.size → w1.frozen? ⟨b, o, none⟩ = W.frozen? ⟨b, o, none⟩) :=
  ⟨fun b o h => hb.cell (p := ⟨b, o, none⟩) h, fun b o h => hb.frozen (p := ⟨b, o, none⟩) h⟩
theorem below_then {w w1 w2 : World} (h : Below w.heap.size w w1) (k : Below w1.heap.size w1 w2) : Below w.heap.size w w2 := h.trans (k.mono h.size)
theorem below_alloc {w w1 : World} (h : Below w.heap.size w w1) (o : Obj) : Below w.heap.size w (w1.alloc o) := h.alloc h.size o
theorem below_drew {W w : World} (h : Below W.heap.size W w) (n : Nat) : Below W.heap.size W (w.drewN n) := ⟨h.os, h.tape, h.output, h.size, h.block⟩

theorem alloc_size (w : World) (o : Obj) : (w.alloc o).heap.size = w.heap.size + 1 := by simp
def i64 (n : Int) : Prop := -9223372036854775808 ≤ n ∧ n ≤ 9223372036854775807

/-- The bytes of a text. -/
def L (s : ByteArray) : List UInt8 := s.data.toList
theorem L_len (s : ByteArray) : (L s).length = s.size := by unfold L; simp
theorem L_inj {a b : ByteArray} (h : L a = L b) : a = b := by
  unfold L at h; cases a; cases b; simp at h; rw [h]
theorem L_app (a b : ByteArray) : L (a ++ b) = L a ++ L b := by unfold L; simp
theorem ne_list {a b : ByteArray} (h : ¬ a = b) : ¬ a.toList = b.toList := by
  intro e
  rw [Lib.toList_data, Lib.toList_data] at e
  exact h (L_inj e)
theorem ne_beq {a b : ByteArray} (h : ¬ a = b) : (a.toList == b.toList) = false := by simpa using ne_list h

end Go.Proofs.YtdcjffajmckleaaGreatDoor

/- Floats that hold whole numbers: their words read back as these numbers; sums, differences, comparisons and conversions of them are those of the numbers. Conditions: the numbers are below 2^53. -/
namespace Go.Proofs.YtdcjffajmckleaaGreatDoor.Flo
open Ieee

theorem shl (m k : Nat) : m <<< k = m * 2 ^ k := Nat.shiftLeft_eq m k

theorem signed_eq (s : Bool) (m k : Nat) : signed s m k = (if s then -1 else 1) * ((m : Int) * 2 ^ k) := by
  unfold signed
  cases s <;> simp [shl]

theorem signed_add (s : Bool) (m a k : Nat) : signed s m (a + k) = signed s m a * 2 ^ k := by
  rw [signed_eq, signed_eq, Int.pow_add, ← Int.mul_assoc (m : Int), ← Int.mul_assoc]

theorem cmp_scale (a b : Int) (k : Nat) : compare (a * 2 ^ k) (b * 2 ^ k) = compare a b := by
  have h : (0 : Int) < 2 ^ k := Int.pow_pos (by decide)
  have h1 : a * 2 ^ k < b * 2 ^ k ↔ a < b := Int.mul_lt_mul_right h
  have h2 : a * 2 ^ k = b * 2 ^ k ↔ a = b := Int.mul_eq_mul_right_iff (by omega)
  simp only [compare, compareOfLessAndEq, h1, h2]

theorem dbl_frac : double.fractionBits = 52 := rfl
theorem dbl_least : double.leastPlace = -1074 := by decide
theorem dbl_bin : double.binade = 4503599627370496 := by decide
theorem dbl_inf : double.infRung = 9218868437227405312 := by decide
theorem dbl_sign : double.signWeight = 9223372036854775808 := by decide

theorem read_word (neg : Bool) (r : Nat) (h : r < 9218868437227405312) : double.read (double.word neg r) =
    if r < 4503599627370496 then .number neg r (-1074)
    else .number neg (4503599627370496 + r % 4503599627370496) (-1074 + ((r / 4503599627370496 - 1 : Nat) : Int)) := by
  have e1 : (double.word neg r) % 9223372036854775808 = r := by
    unfold Format.word; rw [dbl_sign]; split <;> omega
  have e2 : ((double.word neg r) / 9223372036854775808 % 2 == 1) = neg := by
    unfold Format.word; rw [dbl_sign]
    cases neg
    · have : r / 9223372036854775808 = 0 := by omega
      simp [this]
    · have : (9223372036854775808 + r) / 9223372036854775808 = 1 := by omega
      simp [this]
  unfold Format.read
  simp only [dbl_sign, dbl_bin, dbl_inf, dbl_least, e1, e2, h, if_true]

theorem log2_mul_pow (c k : Nat) (h : 0 < c) : (c * 2 ^ k).log2 = c.log2 + k := by
  have hp : 0 < 2 ^ k := Nat.two_pow_pos k
  have hc : c ≠ 0 := by omega
  have hne : c * 2 ^ k ≠ 0 := Nat.mul_ne_zero hc (by omega)
  apply (Nat.log2_eq_iff hne).2
  have a := Nat.log2_self_le hc
  have b := Nat.lt_log2_self (n := c)
  constructor
  · rw [Nat.pow_add]; exact Nat.mul_le_mul_right _ a
  · rw [Nat.add_right_comm, Nat.pow_add]; exact (Nat.mul_lt_mul_right hp).2 b

/-- A cut that drops nothing but noughts. -/
theorem cut_even (neg : Bool) (c k d : Nat) (hd : d ≤ k) (hc : 0 < c) : Toward.even.cut neg (c * 2 ^ k) d = c * 2 ^ (k - d) := by
  have hl := log2_mul_pow c k hc
  have hm : min d ((c * 2 ^ k).log2 + 2) = d := by rw [hl]; omega
  have hk : c * 2 ^ k = (c * 2 ^ (k - d)) * 2 ^ d := by rw [Nat.mul_assoc, ← Nat.pow_add]; congr 2; omega
  have hp : 0 < 2 ^ d := Nat.two_pow_pos d
  unfold Toward.cut
  simp only [hm, shl, Nat.one_mul]
  rw [hk, Nat.mul_mod_left, Nat.mul_div_cancel _ hp]
  simp

theorem nearest_scale (neg : Bool) (c k : Nat) (place : Int) (hc : 0 < c) (hb : c < 2 ^ 53) (hp : -1074 ≤ place + k) :
    double.nearest neg (c * 2 ^ k) place =
      double.word neg (min ((max (place + k + c.log2 - 52) (-1074) + 1074).toNat * 4503599627370496 + c * 2 ^ (place + k - max (place + k + c.log2 - 52) (-1074)).toNat) 9218868437227405312) := by
  have hne : ¬ c * 2 ^ k = 0 := by have := Nat.two_pow_pos k; exact Nat.mul_ne_zero (by omega) (by omega)
  have hlc : c.log2 ≤ 52 := by
    have := (Nat.log2_lt (n := c) (k := 53) (by omega)).2 hb; omega
  unfold Format.nearest
  rw [if_neg hne]
  simp only [log2_mul_pow c k hc, dbl_frac, dbl_least, dbl_bin, dbl_inf]
  have e : place + ((c.log2 + k : Nat) : Int) - ((52 : Nat) : Int) = place + k + c.log2 - 52 := by omega
  rw [e]
  generalize hL : max (place + k + c.log2 - 52) (-1074) = last
  have hle : last ≤ place + k := by omega
  by_cases hpl : last ≤ place
  · have e0 : (last - place).toNat = 0 := by omega
    have e1 : (place + k - last).toNat = k + (place - last).toNat := by omega
    rw [e0, shl, Nat.mul_assoc, ← Nat.pow_add, cut_even neg c _ 0 (by omega) hc, e1, Nat.sub_zero, Int.sub_neg]
  · have e0 : (place - last).toNat = 0 := by omega
    have e1 : (place + k - last).toNat = k - (last - place).toNat := by omega
    rw [e0, shl, Nat.pow_zero, Nat.mul_one, cut_even neg c k _ (by omega) hc, e1, Int.sub_neg]

theorem pow_up (c d : Nat) (hc : c < 2 ^ (c.log2 + 1)) (h : c.log2 + d ≤ 52) : c * 2 ^ d < 9007199254740992 := by
  have h1 : c * 2 ^ d < 2 ^ (c.log2 + 1) * 2 ^ d := (Nat.mul_lt_mul_right (Nat.two_pow_pos _)).2 hc
  rw [← Nat.pow_add] at h1
  have h2 : 2 ^ (c.log2 + 1 + d) ≤ 2 ^ 53 := Nat.pow_le_pow_right (by decide) (by omega)
  exact Nat.lt_of_lt_of_le h1 h2

theorem pow_lo (c d : Nat) (hc : 2 ^ c.log2 ≤ c) (h : 52 ≤ c.log2 + d) : 4503599627370496 ≤ c * 2 ^ d := by
  have h1 : 2 ^ c.log2 * 2 ^ d ≤ c * 2 ^ d := Nat.mul_le_mul_right _ hc
  rw [← Nat.pow_add] at h1
  have h2 : 2 ^ 52 ≤ 2 ^ (c.log2 + d) := Nat.pow_le_pow_right (by decide) h
  exact Nat.le_trans h2 h1

theorem read_rung (neg : Bool) (q K : Nat) (hq : q ≤ 2000) (up : K < 9007199254740992) (lo : q = 0 ∨ 4503599627370496 ≤ K) :
    ∃ m e, double.read (double.word neg (min (q * 4503599627370496 + K) 9218868437227405312)) = .number neg m e ∧ -1074 ≤ e ∧ e ≤ -1074 + q ∧ m * 2 ^ (e + 1074).toNat = K * 2 ^ q := by
  have hmin : min (q * 4503599627370496 + K) 9218868437227405312 = q * 4503599627370496 + K := Nat.min_eq_left (by omega)
  rw [hmin, read_word neg _ (by omega)]
  by_cases hk : q * 4503599627370496 + K < 4503599627370496
  · rw [if_pos hk]
    have h0 : q = 0 := by omega
    have h1 : q * 4503599627370496 + K = K := by omega
    rw [h1]
    exact ⟨K, -1074, rfl, Int.le_refl _, by omega, by rw [h0]; rfl⟩
  · rw [if_neg hk]
    have e2 : 4503599627370496 + (q * 4503599627370496 + K) % 4503599627370496 = K := by omega
    have e1 : (q * 4503599627370496 + K) / 4503599627370496 - 1 = q := by omega
    rw [e1, e2]
    exact ⟨K, -1074 + q, rfl, by omega, Int.le_refl _, by rw [show ((-1074 : Int) + q + 1074).toNat = q by omega]⟩

theorem read_nearest (neg : Bool) (c k : Nat) (place : Int) (hc : 0 < c) (hb : c < 2 ^ 53) (hp : -1074 ≤ place + k) (hu : place + k ≤ 900) :
    ∃ m e, double.read (double.nearest neg (c * 2 ^ k) place) = .number neg m e ∧ -1074 ≤ e ∧ e ≤ max (place + k + c.log2 - 52) (-1074) ∧ m * 2 ^ (e + 1074).toNat = c * 2 ^ (place + k + 1074).toNat := by
  rw [nearest_scale neg c k place hc hb hp]
  have hlc : c.log2 ≤ 52 := by
    have := (Nat.log2_lt (n := c) (k := 53) (by omega)).2 hb; omega
  generalize place + k = P at *
  have hc0 : c ≠ 0 := by omega
  have a := Nat.log2_self_le hc0
  have b := Nat.lt_log2_self (n := c)
  generalize hL : max (P + c.log2 - 52) (-1074) = last
  obtain ⟨q, hq⟩ : ∃ q : Nat, last = -1074 + q := ⟨(last + 1074).toNat, by omega⟩
  have hq4 : (last + 1074).toNat = q := by omega
  rw [hq4]
  obtain ⟨m, e, h1, h2, h3, h4⟩ := read_rung neg q (c * 2 ^ (P - last).toNat) (by omega) (pow_up c _ b (by omega))
    (by by_cases h : q = 0
        · exact Or.inl h
        · exact Or.inr (pow_lo c _ a (by omega)))
  refine ⟨m, e, h1, h2, by omega, ?_⟩
  rw [h4, Nat.mul_assoc, ← Nat.pow_add]
  congr 2; omega

/-- One, in units of 2^-1074. -/
def U : Int := 2 ^ 1074
theorem U_split (g : Int) (h0 : g ≤ 0) (h1 : -1074 ≤ g) : U = 2 ^ (-g).toNat * 2 ^ (g + 1074).toNat := by
  unfold U; rw [← Int.pow_add]; congr 1; omega
theorem U_pos : 0 < U := Int.pow_pos (by decide)
theorem cmp_U (a b : Int) : compare (a * U) (b * U) = compare a b := cmp_scale a b 1074
theorem nat_pow (n k : Nat) : ((n * 2 ^ k : Nat) : Int) = n * 2 ^ k := by rw [Int.natCast_mul, Int.natCast_pow]; rfl
theorem U_nat (n : Nat) : ((n * 2 ^ 1074 : Nat) : Int) = n * U := nat_pow n 1074
theorem mul_pow_add (m k b : Nat) : (m : Int) * 2 ^ (k + b) = ((m * 2 ^ k : Nat) : Int) * 2 ^ b := by rw [nat_pow, Int.pow_add, Int.mul_assoc]
theorem U_mul (m k : Nat) : (m : Int) * 2 ^ (k + 1074) = ((m * 2 ^ k : Nat) : Int) * U := mul_pow_add m k 1074
attribute [irreducible] U

/-- The word x is the float of the whole number n. -/
def IsInt (x : Nat) (n : Int) : Prop := ∃ s m e, double.read x = .number s m e ∧ -1074 ≤ e ∧ e ≤ 0 ∧ signed s m (e + 1074).toNat = n * U

/-- The word x is a number of value v, in units of 2^-1074. -/
def Val (x : Nat) (v : Int) : Prop := ∃ s m e, double.read x = .number s m e ∧ -1074 ≤ e ∧ signed s m (e + 1074).toNat = v

theorem IsInt.val {x : Nat} {n : Int} (h : IsInt x n) : Val x (n * U) := by
  obtain ⟨s, m, e, h1, h2, _, h4⟩ := h; exact ⟨s, m, e, h1, h2, h4⟩

theorem order_val {x y : Nat} {a b : Int} (hx : Val x a) (hy : Val y b) : double.order x y = some (compare a b) := by
  obtain ⟨s, m, i, h1, h2, rfl⟩ := hx
  obtain ⟨t, n, j, k1, k2, rfl⟩ := hy
  unfold Format.order
  rw [h1, k1]
  simp only [Datum.order]
  have e1 : (i + 1074).toNat = (i - min i j).toNat + (min i j + 1074).toNat := by omega
  have e2 : (j + 1074).toNat = (j - min i j).toNat + (min i j + 1074).toNat := by omega
  rw [e1, e2, signed_add, signed_add, cmp_scale]

theorem order_int {x y : Nat} {a b : Int} (hx : IsInt x a) (hy : IsInt y b) : double.order x y = some (compare a b) := by
  rw [order_val hx.val hy.val, cmp_U]

theorem isInt_nearest (neg : Bool) (c k : Nat) (place : Int) (hb : c < 2 ^ 53) (hp : place + k = 0) (hz : c = 0 → neg = neg) :
    IsInt (double.nearest neg (c * 2 ^ k) place) (if neg then -(c : Int) else c) := by
  by_cases hc : c = 0
  · subst hc
    have : double.nearest neg (0 * 2 ^ k) place = double.word neg 0 := by unfold Format.nearest; simp
    rw [this]
    refine ⟨neg, 0, -1074, ?_, by omega, by omega, ?_⟩
    · rw [read_word neg 0 (by decide)]; simp
    · rw [signed_eq]; cases neg <;> simp
  · obtain ⟨m, e, h1, h2, h3, h4⟩ := read_nearest neg c k place (by omega) hb (by omega) (by omega)
    have hlc : c.log2 ≤ 52 := by
      have := (Nat.log2_lt (n := c) (k := 53) hc).2 hb; omega
    refine ⟨neg, m, e, h1, h2, by omega, ?_⟩
    rw [hp, show ((0 : Int) + 1074).toNat = 1074 by rfl] at h4
    have h5 : (m : Int) * 2 ^ (e + 1074).toNat = c * U := by rw [← U_nat, ← h4, Int.natCast_mul, Int.natCast_pow]; rfl
    rw [signed_eq, h5]
    cases neg
    · simp
    · simp [Int.neg_mul]

theorem isInt_ofInt (n : Int) (h : n.natAbs < 2 ^ 53) : IsInt (floatOfInt .f64 n) n := by
  have := isInt_nearest (decide (n < 0)) n.natAbs 0 0 h rfl (fun _ => rfl)
  rw [Nat.pow_zero, Nat.mul_one] at this
  have e : (if decide (n < 0) = true then -(n.natAbs : Int) else n.natAbs) = n := by
    by_cases hn : n < 0
    · simp only [hn, decide_true, if_true]; omega
    · simp only [hn, decide_false]; simp; omega
  rw [e] at this
  exact this

/-- The sum of two data of whole numbers, written, is the sum's float. -/
theorem isInt_sum {s t : Bool} {m n : Nat} {i j : Int} {a b : Int} (hi : -1074 ≤ i) (hi0 : i ≤ 0) (hj : -1074 ≤ j) (hj0 : j ≤ 0)
    (ha : signed s m (i + 1074).toNat = a * U) (hb : signed t n (j + 1074).toNat = b * U) (hab : (a + b).natAbs < 2 ^ 53) :
    ∃ d, (Datum.number s m i).sum (.number t n j) = some d ∧ IsInt (double.write d) (a + b) := by
  refine ⟨_, rfl, ?_⟩
  simp only [Format.write]
  have e1 : (i + 1074).toNat = (i - min i j).toNat + (min i j + 1074).toNat := by omega
  have e2 : (j + 1074).toNat = (j - min i j).toNat + (min i j + 1074).toNat := by omega
  rw [e1, signed_add] at ha
  rw [e2, signed_add] at hb
  generalize hA : signed s m (i - min i j).toNat = A at *
  generalize hB : signed t n (j - min i j).toNat = B at *
  generalize hg : min i j = g at *
  have hg0 : g ≤ 0 := by omega
  have hg1 : -1074 ≤ g := by omega
  have hU := U_split g hg0 hg1
  have hp : (0 : Int) < 2 ^ (g + 1074).toNat := Int.pow_pos (by decide)
  have hs : A + B = (a + b) * 2 ^ (-g).toNat := by
    apply Int.eq_of_mul_eq_mul_right (a := 2 ^ (g + 1074).toNat) (by omega)
    rw [Int.add_mul, ha, hb, Int.mul_assoc, ← hU, Int.add_mul]
  have hn : (A + B).natAbs = (a + b).natAbs * 2 ^ (-g).toNat := by
    rw [hs, Int.natAbs_mul, Int.natAbs_pow]; rfl
  have hq : (0 : Int) < 2 ^ (-g).toNat := Int.pow_pos (by decide)
  have hlt : A + B < 0 ↔ a + b < 0 := by
    rw [hs]
    constructor
    · intro h
      rcases Int.lt_or_le (a + b) 0 with h' | h'
      · exact h'
      · have := Int.mul_nonneg h' (Int.le_of_lt hq); omega
    · intro h; exact Int.mul_neg_of_neg_of_pos h hq
  have hz : A + B = 0 ↔ a + b = 0 := by
    rw [hs]; constructor
    · intro h; rcases Int.mul_eq_zero.1 h with h' | h'
      · exact h'
      · omega
    · intro h; rw [h]; simp
  rw [hn]
  by_cases h0 : a + b = 0
  · have := isInt_nearest (if A + B = 0 then s && t else decide (A + B < 0)) (a + b).natAbs (-g).toNat g hab (by omega) (fun _ => rfl)
    have e : (if (if A + B = 0 then s && t else decide (A + B < 0)) = true then -((a + b).natAbs : Int) else (a + b).natAbs) = a + b := by
      have : ((a + b).natAbs : Int) = 0 := by omega
      rw [this, h0]; simp
    rw [e] at this
    exact this
  · have hz' : ¬ A + B = 0 := fun h => h0 (hz.1 h)
    rw [if_neg hz']
    have := isInt_nearest (decide (A + B < 0)) (a + b).natAbs (-g).toNat g hab (by omega) (fun _ => rfl)
    have e : (if decide (A + B < 0) = true then -((a + b).natAbs : Int) else (a + b).natAbs) = a + b := by
      by_cases h : a + b < 0
      · have h' := hlt.2 h
        simp only [h', decide_true, if_true]; omega
      · have h' : ¬ A + B < 0 := fun x => h (hlt.1 x)
        simp only [h', decide_false]; simp; omega
    rw [e] at this
    exact this

theorem add_int {x y : Nat} {a b : Int} (hx : IsInt x a) (hy : IsInt y b) (hab : (a + b).natAbs < 2 ^ 53) :
    ∃ r, floatBits .add .f64 x y = some r ∧ IsInt r (a + b) := by
  obtain ⟨s, m, i, h1, h2, h3, h4⟩ := hx
  obtain ⟨t, n, j, k1, k2, k3, k4⟩ := hy
  obtain ⟨d, hd, hi⟩ := isInt_sum h2 h3 k2 k3 h4 k4 hab
  refine ⟨double.write d, ?_, hi⟩
  show ((double.read x).sum (double.read y)).map double.write = _
  rw [h1, k1, hd]; rfl

theorem sub_int {x y : Nat} {a b : Int} (hx : IsInt x a) (hy : IsInt y b) (hab : (a - b).natAbs < 2 ^ 53) :
    ∃ r, floatBits .sub .f64 x y = some r ∧ IsInt r (a - b) := by
  obtain ⟨s, m, i, h1, h2, h3, h4⟩ := hx
  obtain ⟨t, n, j, k1, k2, k3, k4⟩ := hy
  have k5 : signed (!t) n (j + 1074).toNat = (-b) * U := by
    rw [signed_eq] at k4 ⊢
    rw [Int.neg_mul, ← k4]; cases t <;> simp
  obtain ⟨d, hd, hi⟩ := isInt_sum h2 h3 k2 k3 h4 k5 (by rw [← Int.sub_eq_add_neg]; exact hab)
  refine ⟨double.write d, ?_, by rw [Int.sub_eq_add_neg]; exact hi⟩
  show ((double.read x).sum (double.read y).opposite).map double.write = _
  rw [h1, k1]
  show ((Datum.number s m i).sum (Datum.number (!t) n j)).map double.write = _
  rw [hd]; rfl

/-- What a float compares with a whole number as not below and not above is a number. -/
theorem val_of_bounds {x lo hi : Nat} {a b : Int} (hlo : IsInt lo a) (hhi : IsInt hi b)
    (h1 : double.order lo x = some .lt ∨ double.order lo x = some .eq) (h2 : double.order x hi = some .lt ∨ double.order x hi = some .eq) :
    ∃ v, Val x v ∧ a * U ≤ v ∧ v ≤ b * U := by
  have hnum : ∃ s m e, double.read x = .number s m e ∧ -1074 ≤ e := by
    obtain ⟨s, m, i, l1, _, _, _⟩ := hlo
    obtain ⟨t, n, j, k1, _, _, _⟩ := hhi
    unfold Format.order at h1 h2
    rw [l1] at h1
    rw [k1] at h2
    have hread : double.read x = double.read x := rfl
    cases hr : double.read x with
    | number s m e =>
      refine ⟨s, m, e, rfl, ?_⟩
      unfold Format.read at hr
      simp only [dbl_least] at hr
      split at hr
      · cases hr; omega
      · split at hr
        · cases hr; omega
        · split at hr <;> cases hr
    | infinity sg =>
      rw [hr] at h1 h2
      cases sg <;> simp [Datum.order] at h1 h2
    | nan sg f =>
      rw [hr] at h1 h2
      simp [Datum.order] at h1
  obtain ⟨s, m, e, hr, he⟩ := hnum
  have hv : Val x (signed s m (e + 1074).toNat) := ⟨s, m, e, hr, he, rfl⟩
  refine ⟨_, hv, ?_, ?_⟩
  · rw [order_val hlo.val hv] at h1
    simp only [Option.some.injEq] at h1
    rcases h1 with h | h
    · exact Int.le_of_lt (Int.compare_eq_lt.1 h)
    · exact Int.le_of_eq (Int.compare_eq_eq.1 h)
  · rw [order_val hv hhi.val] at h2
    simp only [Option.some.injEq] at h2
    rcases h2 with h | h
    · exact Int.le_of_lt (Int.compare_eq_lt.1 h)
    · exact Int.le_of_eq (Int.compare_eq_eq.1 h)

theorem cut_zero (s : Bool) (n d : Nat) : Toward.zero.cut s n d = n / 2 ^ d := by
  unfold Toward.cut
  simp only [shl, Nat.one_mul, Bool.toNat_false, Nat.add_zero]
  by_cases h : d ≤ n.log2 + 2
  · rw [Nat.min_eq_left h]
  · rw [Nat.min_eq_right (by omega)]
    have h1 : n < 2 ^ (n.log2 + 1) := Nat.lt_log2_self
    have h2 : 2 ^ (n.log2 + 1) ≤ 2 ^ (n.log2 + 2) := Nat.pow_le_pow_right (by decide) (by omega)
    have h3 : 2 ^ (n.log2 + 2) ≤ 2 ^ d := Nat.pow_le_pow_right (by decide) (by omega)
    rw [Nat.div_eq_of_lt (Nat.lt_of_lt_of_le h1 h2), Nat.div_eq_of_lt (Nat.lt_of_lt_of_le h1 (Nat.le_trans h2 h3))]

theorem div_bounds (m d k : Nat) : ((m / 2 ^ d : Nat) : Int) * (2 ^ d * 2 ^ k) ≤ (m : Int) * 2 ^ k ∧ (m : Int) * 2 ^ k < (((m / 2 ^ d : Nat) : Int) + 1) * (2 ^ d * 2 ^ k) := by
  have hp : 0 < 2 ^ d := Nat.two_pow_pos d
  have h1 : m / 2 ^ d * 2 ^ d ≤ m := Nat.div_mul_le_self m (2 ^ d)
  have h2 : m < (m / 2 ^ d + 1) * 2 ^ d := by
    have := Nat.lt_div_mul_add (a := m) hp
    rw [Nat.add_mul, Nat.one_mul]; exact this
  have k0 : (0 : Int) < 2 ^ k := Int.pow_pos (by decide)
  have h1' : ((m / 2 ^ d : Nat) : Int) * 2 ^ d ≤ m := by rw [← nat_pow]; exact Int.ofNat_le.2 h1
  have h2' : (m : Int) < (((m / 2 ^ d : Nat) : Int) + 1) * 2 ^ d := by
    have : ((m / 2 ^ d + 1 : Nat) : Int) = ((m / 2 ^ d : Nat) : Int) + 1 := rfl
    rw [← this, ← nat_pow]; exact Int.ofNat_lt.2 h2
  rw [← Int.mul_assoc, ← Int.mul_assoc]
  exact ⟨Int.mul_le_mul_of_nonneg_right h1' (Int.le_of_lt k0), Int.mul_lt_mul_of_pos_right h2' k0⟩

/-- A number that is not below nought, cut towards nought. -/
theorem toInt_val {x : Nat} {v : Int} (hx : Val x v) (h0 : 0 ≤ v) : ∃ n : Nat, (double.read x).toInt .zero = some (n : Int) ∧ (n : Int) * U ≤ v ∧ v < ((n : Int) + 1) * U := by
  obtain ⟨s, m, e, h1, h2, h3⟩ := hx
  rw [h1]
  simp only [Datum.toInt, Datum.integral, shl, cut_zero]
  have hs : s = false ∨ m = 0 := by
    cases s
    · exact Or.inl rfl
    · right
      rw [signed_eq] at h3
      have hp : (0 : Int) < 2 ^ (e + 1074).toNat := Int.pow_pos (by decide)
      rcases Nat.eq_zero_or_pos m with h | h
      · exact h
      · have : (0 : Int) < (m : Int) * 2 ^ (e + 1074).toNat := Int.mul_pos (by omega) hp
        simp only [if_true] at h3
        omega
  have hv : v = (m : Int) * 2 ^ (e + 1074).toNat := by
    rw [← h3, signed_eq]
    rcases hs with h | h
    · rw [h]; simp
    · rw [h]; simp
  by_cases he : 0 ≤ e
  · refine ⟨m * 2 ^ e.toNat, ?_, ?_⟩
    · have e0 : (-e).toNat = 0 := by omega
      rw [e0, Nat.pow_zero, Nat.div_one, signed_eq]
      rcases hs with h | h
      · rw [h]; simp
      · rw [h]; simp
    · have : v = ((m * 2 ^ e.toNat : Nat) : Int) * U := by
        rw [hv, ← U_mul]; congr 2; omega
      rw [this]
      have := U_pos
      exact ⟨Int.le_refl _, Int.mul_lt_mul_of_pos_right (by omega) this⟩
  · have e0 : e.toNat = 0 := by omega
    refine ⟨m / 2 ^ (-e).toNat, ?_, ?_⟩
    · rw [e0, Nat.pow_zero, Nat.mul_one, signed_eq]
      rcases hs with h | h
      · rw [h]; simp
      · rw [h]; simp
    · rw [hv, U_split e (by omega) h2]
      exact div_bounds m (-e).toNat (e + 1074).toNat

theorem lt_of_mulU {a b : Int} (h : a * U < b * U) : a < b := Int.lt_of_mul_lt_mul_right h (Int.le_of_lt U_pos)
theorem le_of_mulU {a b : Int} (h : a * U ≤ b * U) : a ≤ b := Int.le_of_mul_le_mul_right h U_pos
theorem eq_of_mulU {a b : Int} (h : a * U = b * U) : a = b := Int.eq_of_mul_eq_mul_right (by have := U_pos; omega) h

theorem toIntVal_of {x : Nat} {v b : Int} (hx : Val x v) (h0 : 0 ≤ v) (h1 : v ≤ b * U) (hb : b < 4611686018427387904) :
    ∃ n : Int, floatToIntVal .f64 x .i64 = some n ∧ 0 ≤ n ∧ n ≤ b ∧ n * U ≤ v ∧ v < (n + 1) * U := by
  obtain ⟨n, h2, h3, h4⟩ := toInt_val hx h0
  have hn : (n : Int) ≤ b := le_of_mulU (Int.le_trans h3 h1)
  refine ⟨n, ?_, by omega, hn, h3, h4⟩
  have h5 : (FloatKind.f64.decode x).toInt .zero = some (n : Int) := h2
  have h6 : IntKind.i64.min = -9223372036854775808 := by decide
  have h7 : IntKind.i64.max = 9223372036854775807 := by decide
  unfold floatToIntVal
  rw [h5]
  simp only [h6, h7]
  rw [if_pos (by omega)]

end Go.Proofs.YtdcjffajmckleaaGreatDoor.Flo

/- What each function of the stamp layer, and of the document's answer for it, gives. -/
namespace Go.Proofs.YtdcjffajmckleaaGreatDoor
open Go.RowKit

def rightB (C D : Int) : Bool := decide (0 ≤ C ∧ C ≤ 1099511627776 ∧ 0 ≤ D ∧ D < 12)
theorem rightB_of {C D : Int} {b : Bool} (h : b = true ↔ (0 ≤ C ∧ C ≤ 1099511627776 ∧ 0 ≤ D ∧ D < 12)) : Value.bool b = .bool (rightB C D) := by
  unfold rightB; congr 1; rw [Bool.eq_iff_iff, h, decide_eq_true_iff]




theorem stRight_any (C D : Int) (w : World) : Calls Tryz.prog 102 #[.agg #[.int .i64 C, .int .i64 D]] w fun e w' => e = .returned (.bool (rightB C D)) ∧ Below w.heap.size w w' := by
  by_cases h : 0 ≤ C ∧ C ≤ 1099511627776 ∧ 0 ≤ D ∧ D < 12
  · obtain ⟨h1, h2, h3, h4⟩ := h
    go_enter Tryz.func102, Tryz.ntmps102
    go_wp2
    go_ret
    exact ⟨ret_of (rightB_of (by simp; omega)), by go_grown⟩
  · go_enter Tryz.func102, Tryz.ntmps102
    go_wp2
    all_goals go_ret
    all_goals exact ⟨ret_of (rightB_of (by simp; omega)), by go_grown⟩

theorem stRefRight_any (C D : Int) (w : World) : Calls Tryz.prog 27 #[.agg #[.int .i64 C, .int .i64 D]] w fun e w' => e = .returned (.bool (rightB C D)) ∧ Below w.heap.size w w' := by
  by_cases h : 0 ≤ C ∧ C ≤ 1099511627776 ∧ 0 ≤ D ∧ D < 12
  · obtain ⟨h1, h2, h3, h4⟩ := h
    go_enter Tryz.func27, Tryz.ntmps27
    go_wp2
    go_ret
    exact ⟨ret_of (rightB_of (by simp; omega)), by go_grown⟩
  · go_enter Tryz.func27, Tryz.ntmps27
    go_wp2
    all_goals go_ret
    all_goals exact ⟨ret_of (rightB_of (by simp; omega)), by go_grown⟩

/-- The number of a moment. -/
def numOf (C D : Int) : Value := .complex .f64 (floatOfInt .f64 C) (floatOfInt .f64 D)

theorem to_yes (C D : Int) (w : World) (h : rightB C D = true) : Calls Tryz.prog 73 #[.agg #[.int .i64 C, .int .i64 D]] w fun e w' => e = .returned (.tuple #[numOf C D, .bool true]) ∧ Below w.heap.size w w' := by
  have H := Lib.hid h
  clear h
  go_enter Tryz.func73, Tryz.ntmps73
  go_wp2_with (go_at_call 102; refine (stRight_any C D _).mono ?_; rintro e w1 ⟨rfl, hb⟩; rw [H.out]; obtain ⟨hc, hf⟩ := bcell hb)
  go_ret2
  exact ⟨rfl, below_then (below_alloc (Below.refl _ _) _) hb⟩

theorem to_no (C D : Int) (w : World) (h : rightB C D = false) : Calls Tryz.prog 73 #[.agg #[.int .i64 C, .int .i64 D]] w fun e w' => e = .returned (.tuple #[.complex .f64 0 0, .bool false]) ∧ Below w.heap.size w w' := by
  have H := Lib.hid h
  clear h
  go_enter Tryz.func73, Tryz.ntmps73
  go_wp2_with (go_at_call 102; refine (stRight_any C D _).mono ?_; rintro e w1 ⟨rfl, hb⟩; rw [H.out]; obtain ⟨hc, hf⟩ := bcell hb)
  go_ret2
  exact ⟨rfl, below_then (below_alloc (Below.refl _ _) _) hb⟩

/-- x is not below nought and not above m. -/
def leB (x y : Nat) : Bool := FloatKind.f64.format.order x y == some .lt || FloatKind.f64.format.order x y == some .eq
def wiB (x m : Nat) : Bool := leB 0 x && leB x m

theorem within_any (x m : Nat) (w : World) : Calls Tryz.prog 103 #[.float .f64 x, .float .f64 m] w fun e w' => e = .returned (.bool (wiB x m)) ∧ w = w' := by
  go_enter Tryz.func103, Tryz.ntmps103
  go_wp2
  all_goals go_ret
  all_goals exact ⟨ret_of (by simp [wiB, leB, *]), rfl⟩

theorem from_out1 (re im : Nat) (w : World) (h : wiB re 4787326403894837248 = false) : Calls Tryz.prog 74 #[.complex .f64 re im] w fun e w' => e = .returned (.tuple #[.agg #[.int .i64 0, .int .i64 0], .bool false]) ∧ Below w.heap.size w w' := by
  have H := Lib.hid h
  clear h
  go_enter Tryz.func74, Tryz.ntmps74
  go_wp2_with (go_at_call 103; refine (within_any _ _ _).mono ?_; rintro e w1 ⟨rfl, rfl⟩; rw [H.out])
  go_returns
  exact ⟨rfl, by go_grown⟩

end Go.Proofs.YtdcjffajmckleaaGreatDoor

/- What From, Next and Before give. -/
namespace Go.Proofs.YtdcjffajmckleaaGreatDoor
open Go.RowKit

theorem from_out2 (re im : Nat) (w : World) (h : wiB re 4787326403894837248 = true) (h2 : wiB im 4622382067542392832 = false) : Calls Tryz.prog 74 #[.complex .f64 re im] w fun e w' => e = .returned (.tuple #[.agg #[.int .i64 0, .int .i64 0], .bool false]) ∧ Below w.heap.size w w' := by
  have H := Lib.hid h
  have H2 := Lib.hid h2
  clear h h2
  go_enter Tryz.func74, Tryz.ntmps74
  go_wp2_with (go_at_call 103; refine (within_any _ _ _).mono ?_; rintro e w1 ⟨rfl, rfl⟩; (first | rw [H.out] | rw [H2.out]))
  go_returns
  exact ⟨rfl, by go_grown⟩

theorem from_yes (re im : Nat) (C D : Int) (w : World) (h : wiB re 4787326403894837248 = true) (h2 : wiB im 4622382067542392832 = true)
    (h3 : floatToIntVal .f64 re .i64 = some C) (h4 : floatToIntVal .f64 im .i64 = some D) (h5 : rightB C D = true)
    (h6 : FloatKind.f64.format.order (floatOfInt .f64 C) re = some .eq) (h7 : FloatKind.f64.format.order (floatOfInt .f64 D) im = some .eq) :
    Calls Tryz.prog 74 #[.complex .f64 re im] w fun e w' => e = .returned (.tuple #[.agg #[.int .i64 C, .int .i64 D], .bool true]) ∧ Below w.heap.size w w' := by
  have H := Lib.hid h
  have H2 := Lib.hid h2
  have c1 : ∀ w, (convert 163 3 (.float .f64 re)).run Tryz.prog w = .ok (.int .i64 C) w := fun w => run_convert_float_int w 163 3 .f64 .i64 re C (by rw [Tryz.underlying163]; rfl) Tryz.underlying3 h3
  have c2 : ∀ w, (convert 163 3 (.float .f64 im)).run Tryz.prog w = .ok (.int .i64 D) w := fun w => run_convert_float_int w 163 3 .f64 .i64 im D (by rw [Tryz.underlying163]; rfl) Tryz.underlying3 h4
  have H5 := Lib.hid h5
  clear h h2 h3 h4 h5
  go_enter Tryz.func74, Tryz.ntmps74
  go_wp2_with (first | (go_at_call 103; refine (within_any _ _ _).mono ?_; rintro e w1 ⟨rfl, rfl⟩; (first | rw [H.out] | rw [H2.out]))
                      | (go_at_call 73; refine (to_yes C D _ H5.out).mono ?_; rintro e w1 ⟨rfl, hb⟩; obtain ⟨hc, hf⟩ := bcell hb; unfold numOf))
  have k0 : w1.cell? ⟨w.heap.size, 0, none⟩ = some (.int .i64 0) := by rw [hc _ _ (by simp; omega)]; simp [go_sem]
  have k1 : w1.cell? ⟨w.heap.size, 1, none⟩ = some (.int .i64 0) := by rw [hc _ _ (by simp; omega)]; simp [go_sem]
  exact bodyPost_ret (v := .tuple #[.agg #[.int .i64 C, .int .i64 D], .bool true]) (by simp [results, Tryz.results74, go_sem, k0, k1]) rfl ⟨rfl, Below.setCell (Below.setCell (below_then (by go_grown) hb) (Nat.le_refl _) _) (Nat.le_refl _) _⟩

theorem from_no (re im : Nat) (C D : Int) (w : World) (h : wiB re 4787326403894837248 = true) (h2 : wiB im 4622382067542392832 = true)
    (h3 : floatToIntVal .f64 re .i64 = some C) (h4 : floatToIntVal .f64 im .i64 = some D) (h5 : rightB C D = true)
    (h6 : ¬ (FloatKind.f64.format.order (floatOfInt .f64 C) re = some .eq ∧ FloatKind.f64.format.order (floatOfInt .f64 D) im = some .eq)) :
    Calls Tryz.prog 74 #[.complex .f64 re im] w fun e w' => e = .returned (.tuple #[.agg #[.int .i64 0, .int .i64 0], .bool false]) ∧ Below w.heap.size w w' := by
  have H := Lib.hid h
  have H2 := Lib.hid h2
  have c1 : ∀ w, (convert 163 3 (.float .f64 re)).run Tryz.prog w = .ok (.int .i64 C) w := fun w => run_convert_float_int w 163 3 .f64 .i64 re C (by rw [Tryz.underlying163]; rfl) Tryz.underlying3 h3
  have c2 : ∀ w, (convert 163 3 (.float .f64 im)).run Tryz.prog w = .ok (.int .i64 D) w := fun w => run_convert_float_int w 163 3 .f64 .i64 im D (by rw [Tryz.underlying163]; rfl) Tryz.underlying3 h4
  have H5 := Lib.hid h5
  have H6 := Lib.hid h6
  clear h h2 h3 h4 h5 h6
  go_enter Tryz.func74, Tryz.ntmps74
  go_wp2_with (first | (go_at_call 103; refine (within_any _ _ _).mono ?_; rintro e w1 ⟨rfl, rfl⟩; (first | rw [H.out] | rw [H2.out]))
                      | (go_at_call 73; refine (to_yes C D _ H5.out).mono ?_; rintro e w1 ⟨rfl, hb⟩; obtain ⟨hc, hf⟩ := bcell hb; unfold numOf))
  · have k0 : w1.cell? ⟨w.heap.size, 0, none⟩ = some (.int .i64 0) := by rw [hc _ _ (by simp; omega)]; simp [go_sem]
    have k1 : w1.cell? ⟨w.heap.size, 1, none⟩ = some (.int .i64 0) := by rw [hc _ _ (by simp; omega)]; simp [go_sem]
    exact bodyPost_ret (v := .tuple #[.agg #[.int .i64 0, .int .i64 0], .bool false]) (by simp [results, Tryz.results74, go_sem, k0, k1]) rfl ⟨rfl, Below.setCell (Below.setCell (below_then (by go_grown) hb) (Nat.le_refl _) _) (Nat.le_refl _) _⟩
  · rename_i hh
    exact absurd (by simpa using hh) H6.out

/-- A moment of that number. -/
structure IsM (re im : Nat) (C D : Int) : Prop where
  vr : Flo.Val re (C * Flo.U)
  vi : Flo.Val im (D * Flo.U)
  ok : rightB C D = true

theorem rightB_iff {C D : Int} : rightB C D = true ↔ (0 ≤ C ∧ C ≤ 1099511627776 ∧ 0 ≤ D ∧ D < 12) := by unfold rightB; exact decide_eq_true_iff

theorem isInt_c0 : Flo.IsInt 0 0 := Flo.isInt_ofInt 0 (by decide)
theorem isInt_max : Flo.IsInt 4787326403894837248 1099511627776 := Flo.isInt_ofInt 1099511627776 (by decide)
theorem isInt_11 : Flo.IsInt 4622382067542392832 11 := Flo.isInt_ofInt 11 (by decide)
theorem leB_int {x y : Nat} {a b : Int} (hx : Flo.Val x a) (hy : Flo.Val y b) : leB x y = decide (a ≤ b) := by
  have h : FloatKind.f64.format.order x y = some (compare a b) := Flo.order_val hx hy
  unfold leB
  rw [h]
  rcases Int.lt_trichotomy a b with h1 | h1 | h1
  · rw [Int.compare_eq_lt.2 h1]; simp; omega
  · rw [Int.compare_eq_eq.2 h1]; simp; omega
  · rw [Int.compare_eq_gt.2 h1]; simp; omega

theorem leB_or {x y : Nat} (h : leB x y = true) : Ieee.double.order x y = some .lt ∨ Ieee.double.order x y = some .eq := by
  unfold leB at h
  simp only [Bool.or_eq_true, beq_iff_eq] at h
  exact h

/-- A float that lies between nought and a whole number. -/
theorem wi_val {x m : Nat} {b : Int} (hm : Flo.IsInt m b) (h : wiB x m = true) : ∃ v, Flo.Val x v ∧ 0 ≤ v ∧ v ≤ b * Flo.U := by
  unfold wiB at h
  simp only [Bool.and_eq_true] at h
  obtain ⟨v, h1, h2, h3⟩ := Flo.val_of_bounds isInt_c0 hm (leB_or h.1) (leB_or h.2)
  exact ⟨v, h1, by omega, h3⟩

theorem wi_of {x m : Nat} {a b : Int} (hm : Flo.IsInt m b) (hx : Flo.Val x (a * Flo.U)) (h0 : 0 ≤ a) (h1 : a ≤ b) : wiB x m = true := by
  unfold wiB
  have hU := Flo.U_pos
  rw [leB_int isInt_c0.val hx, leB_int hx hm.val, Bool.and_eq_true, decide_eq_true_iff, decide_eq_true_iff]
  exact ⟨Int.mul_le_mul_of_nonneg_right h0 (by omega), Int.mul_le_mul_of_nonneg_right h1 (by omega)⟩

theorem order_eq {x y : Nat} {a b : Int} (hx : Flo.Val x a) (hy : Flo.Val y b) : FloatKind.f64.format.order x y = some .eq ↔ a = b := by
  have h : FloatKind.f64.format.order x y = some (compare a b) := Flo.order_val hx hy
  rw [h, Option.some.injEq]
  exact Int.compare_eq_eq

theorem trunc_exact {x : Nat} {a b : Int} (hx : Flo.Val x (a * Flo.U)) (h0 : 0 ≤ a) (h1 : a ≤ b) (hb : b < 4611686018427387904) : floatToIntVal .f64 x .i64 = some a := by
  have hU := Flo.U_pos
  obtain ⟨n, h2, _, _, h5, h6⟩ := Flo.toIntVal_of hx (Int.mul_nonneg h0 (by omega)) (Int.mul_le_mul_of_nonneg_right h1 (by omega)) hb
  have a1 := Flo.le_of_mulU h5
  have a2 := Flo.lt_of_mulU h6
  rw [h2]; congr 1; omega

theorem val_fun {x : Nat} {a b : Int} (h : Flo.Val x a) (k : Flo.Val x b) : a = b := by
  obtain ⟨s, m, e, h1, h2, h3⟩ := h
  obtain ⟨t, n, f, k1, k2, k3⟩ := k
  rw [h1] at k1
  cases k1
  rw [← h3, ← k3]

/-- WHAT From GIVES: the moment of that number. -/
theorem from_is {re im : Nat} {C D : Int} (h : IsM re im C D) (w : World) : Calls Tryz.prog 74 #[.complex .f64 re im] w fun e w' => e = .returned (.tuple #[.agg #[.int .i64 C, .int .i64 D], .bool true]) ∧ Below w.heap.size w w' := by
  obtain ⟨h1, h2, h3⟩ := h
  have hr := rightB_iff.1 h3
  exact from_yes re im C D w (wi_of isInt_max h1 (by omega) (by omega)) (wi_of isInt_11 h2 (by omega) (by omega)) (trunc_exact h1 (by omega) hr.2.1 (by omega)) (trunc_exact (b := 11) h2 (by omega) (by omega) (by omega)) h3
    ((order_eq (Flo.isInt_ofInt C (by omega)).val h1).2 rfl) ((order_eq (Flo.isInt_ofInt D (by omega)).val h2).2 rfl)

/-- WHAT From GIVES: none. -/
theorem from_none {re im : Nat} (h : ∀ C D, ¬ IsM re im C D) (w : World) : Calls Tryz.prog 74 #[.complex .f64 re im] w fun e w' => e = .returned (.tuple #[.agg #[.int .i64 0, .int .i64 0], .bool false]) ∧ Below w.heap.size w w' := by
  by_cases h1 : wiB re 4787326403894837248 = true
  · by_cases h2 : wiB im 4622382067542392832 = true
    · obtain ⟨v, v1, v2, v3⟩ := wi_val isInt_max h1
      obtain ⟨u, u1, u2, u3⟩ := wi_val isInt_11 h2
      obtain ⟨C, c1, c2, c3, _, _⟩ := Flo.toIntVal_of v1 v2 v3 (by omega)
      obtain ⟨D, d1, d2, d3, _, _⟩ := Flo.toIntVal_of u1 u2 u3 (by omega)
      have hr : rightB C D = true := rightB_iff.2 (by omega)
      refine from_no re im C D w h1 h2 c1 d1 hr (fun ⟨q1, q2⟩ => h C D ⟨?_, ?_, hr⟩)
      · rw [(order_eq (Flo.isInt_ofInt C (by omega)).val v1).1 q1]; exact v1
      · rw [(order_eq (Flo.isInt_ofInt D (by omega)).val u1).1 q2]; exact u1
    · exact from_out2 re im w h1 (by simpa using h2)
  · exact from_out1 re im w (by simpa using h1)

end Go.Proofs.YtdcjffajmckleaaGreatDoor

/- What Next and Before give, and the document's answers. -/
namespace Go.Proofs.YtdcjffajmckleaaGreatDoor
open Go.RowKit

theorem next_no (C D : Int) (w : World) (h : rightB C D = false) : Calls Tryz.prog 46 #[.int .i64 C, .int .i64 D] w fun e w' => e = .returned (.tuple #[.agg #[.int .i64 0, .int .i64 0], .bool false]) ∧ Below w.heap.size w w' := by
  have H := Lib.hid h
  clear h
  go_enter Tryz.func46, Tryz.ntmps46
  go_wp2_with (go_at_call 73; refine (to_no C D _ H.out).mono ?_; rintro e w1 ⟨rfl, hb⟩; obtain ⟨hc, hf⟩ := bcell hb)
  have k0 : w1.cell? ⟨w.heap.size, 0, none⟩ = some (.int .i64 0) := by rw [hc _ _ (by simp)]; simp [go_sem]
  have k1 : w1.cell? ⟨w.heap.size, 1, none⟩ = some (.int .i64 0) := by rw [hc _ _ (by simp)]; simp [go_sem]
  exact bodyPost_ret (v := .tuple #[.agg #[.int .i64 0, .int .i64 0], .bool false]) (by simp [results, Tryz.results46, go_sem, k0, k1]) rfl ⟨rfl, Below.setCell (Below.setCell (below_then (by go_grown) hb) (Nat.le_refl _) _) (Nat.le_refl _) _⟩

theorem isInt_one : Flo.IsInt 4607182418800017408 1 := Flo.isInt_ofInt 1 (by decide)

theorem is_next (C D : Int) (re im : Nat) (h : rightB C D = true) (h2 : C < 1099511627776) (hs : cSumBits .add .f64 (floatOfInt .f64 C) (floatOfInt .f64 D) 4607182418800017408 0 = some (re, im)) : IsM re im (C + 1) D := by
  have hr := rightB_iff.1 h
  obtain ⟨a, a1, a2⟩ := Flo.add_int (Flo.isInt_ofInt C (by omega)) isInt_one (by omega)
  obtain ⟨b, b1, b2⟩ := Flo.add_int (Flo.isInt_ofInt D (by omega)) isInt_c0 (by omega)
  simp only [cSumBits, a1, b1, Option.bind_some, Option.some.injEq, Prod.mk.injEq] at hs
  obtain ⟨rfl, rfl⟩ := hs
  rw [Int.add_zero] at b2
  exact ⟨a2.val, b2.val, rightB_iff.2 (by omega)⟩

theorem none_next (C D : Int) (re im : Nat) (h : rightB C D = true) (h2 : ¬ C < 1099511627776) (hs : cSumBits .add .f64 (floatOfInt .f64 C) (floatOfInt .f64 D) 4607182418800017408 0 = some (re, im)) (A B : Int) : ¬ IsM re im A B := by
  have hr := rightB_iff.1 h
  obtain ⟨a, a1, a2⟩ := Flo.add_int (Flo.isInt_ofInt C (by omega)) isInt_one (by omega)
  obtain ⟨b, b1, b2⟩ := Flo.add_int (Flo.isInt_ofInt D (by omega)) isInt_c0 (by omega)
  simp only [cSumBits, a1, b1, Option.bind_some, Option.some.injEq, Prod.mk.injEq] at hs
  obtain ⟨rfl, rfl⟩ := hs
  rintro ⟨h3, h4, h5⟩
  have := Flo.eq_of_mulU (val_fun h3 a2.val)
  have := rightB_iff.1 h5
  omega

theorem has_next (C D : Int) (h : rightB C D = true) : ∃ re im, cSumBits .add .f64 (floatOfInt .f64 C) (floatOfInt .f64 D) 4607182418800017408 0 = some (re, im) := by
  have hr := rightB_iff.1 h
  obtain ⟨a, a1, a2⟩ := Flo.add_int (Flo.isInt_ofInt C (by omega)) isInt_one (by omega)
  obtain ⟨b, b1, b2⟩ := Flo.add_int (Flo.isInt_ofInt D (by omega)) isInt_c0 (by omega)
  exact ⟨a, b, by simp only [cSumBits, a1, b1, Option.bind_some]⟩

theorem next_yes (C D : Int) (w : World) (h : rightB C D = true) (h2 : C < 1099511627776) : Calls Tryz.prog 46 #[.int .i64 C, .int .i64 D] w fun e w' => e = .returned (.tuple #[.agg #[.int .i64 (C + 1), .int .i64 D], .bool true]) ∧ Below w.heap.size w w' := by
  obtain ⟨re, im, hs⟩ : ∃ re im, cSumBits .add .f64 (floatOfInt .f64 C) (floatOfInt .f64 D) 4607182418800017408 0 = some (re, im) := has_next C D h
  have hm := Lib.hid (is_next C D re im h h2 hs)
  have hop := fun t w => run_complex_sum (P := Tryz.prog) w .add (Or.inl rfl) t .f64 _ _ _ _ re im hs
  have H := Lib.hid h
  clear h hs
  go_enter Tryz.func46, Tryz.ntmps46
  go_wp2_with (first | (go_at_call 73; refine (to_yes C D _ H.out).mono ?_; rintro e w1 ⟨rfl, hb⟩; obtain ⟨hc, hf⟩ := bcell hb; have hz : w.heap.size < w1.heap.size := (by have := hb.size; simp at this; omega); unfold numOf)
                      | (go_at_call 74; refine (from_is hm.out _).mono ?_; rintro e w2 ⟨rfl, hb2⟩; obtain ⟨hc2, hf2⟩ := bcell hb2))
  have k0 : w2.cell? ⟨w.heap.size, 0, none⟩ = some (.int .i64 0) := by rw [hc2 _ _ hz, hc _ _ (by simp)]; simp [go_sem]
  have k1 : w2.cell? ⟨w.heap.size, 1, none⟩ = some (.int .i64 0) := by rw [hc2 _ _ hz, hc _ _ (by simp)]; simp [go_sem]
  exact bodyPost_ret (v := .tuple #[.agg #[.int .i64 (C + 1), .int .i64 D], .bool true]) (by simp [results, Tryz.results46, go_sem, k0, k1]) rfl ⟨rfl, Below.setCell (Below.setCell (below_then (below_then (by go_grown) hb) hb2) (Nat.le_refl _) _) (Nat.le_refl _) _⟩

/-- The moment behind the last counter: none. -/
theorem next_end (C D : Int) (w : World) (h : rightB C D = true) (h2 : ¬ C < 1099511627776) : Calls Tryz.prog 46 #[.int .i64 C, .int .i64 D] w fun e w' => e = .returned (.tuple #[.agg #[.int .i64 0, .int .i64 0], .bool false]) ∧ Below w.heap.size w w' := by
  obtain ⟨re, im, hs⟩ := has_next C D h
  have hm : Hid (∀ A B, ¬ IsM re im A B) := Lib.hid (none_next C D re im h h2 hs)
  have hop := fun t w => run_complex_sum (P := Tryz.prog) w .add (Or.inl rfl) t .f64 _ _ _ _ re im hs
  have H := Lib.hid h
  clear h hs
  go_enter Tryz.func46, Tryz.ntmps46
  go_wp2_with (first | (go_at_call 73; refine (to_yes C D _ H.out).mono ?_; rintro e w1 ⟨rfl, hb⟩; obtain ⟨hc, hf⟩ := bcell hb; have hz : w.heap.size < w1.heap.size := (by have := hb.size; simp at this; omega); unfold numOf)
                      | (go_at_call 74; refine (from_none hm.out _).mono ?_; rintro e w2 ⟨rfl, hb2⟩; obtain ⟨hc2, hf2⟩ := bcell hb2))
  have k0 : w2.cell? ⟨w.heap.size, 0, none⟩ = some (.int .i64 0) := by rw [hc2 _ _ hz, hc _ _ (by simp)]; simp [go_sem]
  have k1 : w2.cell? ⟨w.heap.size, 1, none⟩ = some (.int .i64 0) := by rw [hc2 _ _ hz, hc _ _ (by simp)]; simp [go_sem]
  exact bodyPost_ret (v := .tuple #[.agg #[.int .i64 0, .int .i64 0], .bool false]) (by simp [results, Tryz.results46, go_sem, k0, k1]) rfl ⟨rfl, Below.setCell (Below.setCell (below_then (below_then (by go_grown) hb) hb2) (Nat.le_refl _) _) (Nat.le_refl _) _⟩

/-- The answer of Next, and the document's: some (c + 1, dev), or none. -/
def nextC (C D : Int) : Int := if rightB C D && decide (C < 1099511627776) then C + 1 else 0
def nextD (C D : Int) : Int := if rightB C D && decide (C < 1099511627776) then D else 0
def nextB (C D : Int) : Bool := rightB C D && decide (C < 1099511627776)

theorem next_any (C D : Int) (w : World) : Calls Tryz.prog 46 #[.int .i64 C, .int .i64 D] w fun e w' => e = .returned (.tuple #[.agg #[.int .i64 (nextC C D), .int .i64 (nextD C D)], .bool (nextB C D)]) ∧ Below w.heap.size w w' := by
  by_cases h : rightB C D = true
  · by_cases h2 : C < 1099511627776
    · have e1 : nextC C D = C + 1 := by simp [nextC, h, h2]
      have e2 : nextD C D = D := by simp [nextD, h, h2]
      have e3 : nextB C D = true := by simp [nextB, h, h2]
      rw [e1, e2, e3]; exact next_yes C D w h h2
    · have e1 : nextC C D = 0 := by simp [nextC, h2]
      have e2 : nextD C D = 0 := by simp [nextD, h2]
      have e3 : nextB C D = false := by simp [nextB, h2]
      rw [e1, e2, e3]; exact next_end C D w h h2
  · have h' : rightB C D = false := by simpa using h
    have e1 : nextC C D = 0 := by simp [nextC, h']
    have e2 : nextD C D = 0 := by simp [nextD, h']
    have e3 : nextB C D = false := by simp [nextB, h']
    rw [e1, e2, e3]; exact next_no C D w h'

end Go.Proofs.YtdcjffajmckleaaGreatDoor

/- What Before gives, and the document's answers. -/
namespace Go.Proofs.YtdcjffajmckleaaGreatDoor
open Go.RowKit

def befB (A B C D : Int) : Bool := decide (A < C ∨ A = C ∧ B < D)
theorem befB_of {A B C D : Int} {b : Bool} (h : b = true ↔ (A < C ∨ A = C ∧ B < D)) : Value.bool b = .bool (befB A B C D) := by
  unfold befB; congr 1; rw [Bool.eq_iff_iff, h, decide_eq_true_iff]

theorem refBefore_any (A B C D : Int) (w : World) : Calls Tryz.prog 31 #[.agg #[.int .i64 A, .int .i64 B], .agg #[.int .i64 C, .int .i64 D]] w fun e w' => e = .returned (.bool (befB A B C D)) ∧ Below w.heap.size w w' := by
  go_enter Tryz.func31, Tryz.ntmps31
  go_wp2
  all_goals go_ret
  all_goals exact ⟨ret_of (befB_of (by simp; omega)), by go_grown⟩

/-- The walk of Before where one of the two may not be. -/
theorem before_plain1 (A B C D : Int) (w : World) (h : rightB A B = false) : Calls Tryz.prog 81 #[.agg #[.int .i64 A, .int .i64 B], .agg #[.int .i64 C, .int .i64 D]] w fun e w' => e = .returned (.bool (befB A B C D)) ∧ Below w.heap.size w w' := by
  have H := Lib.hid h
  clear h
  by_cases h2 : rightB C D = true
  · have H2 := Lib.hid h2
    clear h2
    go_enter Tryz.func81, Tryz.ntmps81
    go_wp2_with (first | (go_at_call 73; (with_reducible refine (to_no A B _ H.out).mono ?_); rintro e w1 ⟨rfl, hb⟩; obtain ⟨hc, hf⟩ := bcell hb; have hz : w.heap.size + 1 < w1.heap.size := (by have := hb.size; simp at this; omega); have hz0 : w.heap.size < w1.heap.size := (by omega))
                                        | (go_at_call 73; (with_reducible refine (to_yes C D _ H2.out).mono ?_); rintro e w2 ⟨rfl, hb2⟩; obtain ⟨hc2, hf2⟩ := bcell hb2; unfold numOf))
    all_goals go_ret
    all_goals exact ⟨ret_of (befB_of (by simp; omega)), below_then (below_then (by go_grown) hb) hb2⟩
  · have H2 := Lib.hid (show rightB C D = false by simpa using h2)
    clear h2
    go_enter Tryz.func81, Tryz.ntmps81
    go_wp2_with (first | (go_at_call 73; (with_reducible refine (to_no A B _ H.out).mono ?_); rintro e w1 ⟨rfl, hb⟩; obtain ⟨hc, hf⟩ := bcell hb; have hz : w.heap.size + 1 < w1.heap.size := (by have := hb.size; simp at this; omega); have hz0 : w.heap.size < w1.heap.size := (by omega))
                                        | (go_at_call 73; (with_reducible refine (to_no C D _ H2.out).mono ?_); rintro e w2 ⟨rfl, hb2⟩; obtain ⟨hc2, hf2⟩ := bcell hb2))
    all_goals go_ret
    all_goals exact ⟨ret_of (befB_of (by simp; omega)), below_then (below_then (by go_grown) hb) hb2⟩

theorem before_plain2 (A B C D : Int) (w : World) (h : rightB A B = true) (h2 : rightB C D = false) : Calls Tryz.prog 81 #[.agg #[.int .i64 A, .int .i64 B], .agg #[.int .i64 C, .int .i64 D]] w fun e w' => e = .returned (.bool (befB A B C D)) ∧ Below w.heap.size w w' := by
  have H := Lib.hid h
  have H2 := Lib.hid h2
  clear h h2
  go_enter Tryz.func81, Tryz.ntmps81
  go_wp2_with (first | (go_at_call 73; (with_reducible refine (to_yes A B _ H.out).mono ?_); rintro e w1 ⟨rfl, hb⟩; obtain ⟨hc, hf⟩ := bcell hb; have hz : w.heap.size + 1 < w1.heap.size := (by have := hb.size; simp at this; omega); have hz0 : w.heap.size < w1.heap.size := (by omega); unfold numOf)
                                        | (go_at_call 73; (with_reducible refine (to_no C D _ H2.out).mono ?_); rintro e w2 ⟨rfl, hb2⟩; obtain ⟨hc2, hf2⟩ := bcell hb2))
  all_goals go_ret
  all_goals exact ⟨ret_of (befB_of (by simp; omega)), below_then (below_then (by go_grown) hb) hb2⟩

theorem before_gap (A B C D : Int) (w : World) (re im : Nat) (o1 o2 : Ordering) (h : rightB A B = true) (h2 : rightB C D = true)
    (hs : cSumBits .sub .f64 (floatOfInt .f64 C) (floatOfInt .f64 D) (floatOfInt .f64 A) (floatOfInt .f64 B) = some (re, im))
    (p1 : FloatKind.f64.format.order re 0 = some o1) (p2 : FloatKind.f64.format.order im 0 = some o2) :
    Calls Tryz.prog 81 #[.agg #[.int .i64 A, .int .i64 B], .agg #[.int .i64 C, .int .i64 D]] w fun e w' => e = .returned (.bool (o1 == .gt || (o1 == .eq && o2 == .gt))) ∧ Below w.heap.size w w' := by
  have hop := fun t w => run_complex_sum (P := Tryz.prog) w .sub (Or.inr rfl) t .f64 _ _ _ _ re im hs
  have H := Lib.hid h
  have H2 := Lib.hid h2
  clear h h2 hs
  cases o1 <;> cases o2
  all_goals
    go_enter Tryz.func81, Tryz.ntmps81
    go_wp2_with (first | (go_at_call 73; (with_reducible refine (to_yes A B _ H.out).mono ?_); rintro e w1 ⟨rfl, hb⟩; obtain ⟨hc, hf⟩ := bcell hb; have hz : w.heap.size + 1 < w1.heap.size := (by have := hb.size; simp at this; omega); have hz0 : w.heap.size < w1.heap.size := (by omega); unfold numOf)
                                        | (go_at_call 73; (with_reducible refine (to_yes C D _ H2.out).mono ?_); rintro e w2 ⟨rfl, hb2⟩; obtain ⟨hc2, hf2⟩ := bcell hb2; unfold numOf))
    go_ret
    exact ⟨rfl, below_then (below_then (by go_grown) hb) hb2⟩

theorem before_any (A B C D : Int) (w : World) : Calls Tryz.prog 81 #[.agg #[.int .i64 A, .int .i64 B], .agg #[.int .i64 C, .int .i64 D]] w fun e w' => e = .returned (.bool (befB A B C D)) ∧ Below w.heap.size w w' := by
  by_cases h : rightB A B = true
  · by_cases h2 : rightB C D = true
    · have r1 := rightB_iff.1 h
      have r2 := rightB_iff.1 h2
      obtain ⟨a, a1, a2⟩ := Flo.sub_int (Flo.isInt_ofInt C (by omega)) (Flo.isInt_ofInt A (by omega)) (by omega)
      obtain ⟨b, b1, b2⟩ := Flo.sub_int (Flo.isInt_ofInt D (by omega)) (Flo.isInt_ofInt B (by omega)) (by omega)
      refine (before_gap A B C D w a b _ _ h h2 (by simp only [cSumBits, a1, b1, Option.bind_some]) (Flo.order_int a2 isInt_c0) (Flo.order_int b2 isInt_c0)).mono ?_
      rintro e w' ⟨rfl, hb⟩
      refine ⟨ret_of (befB_of ?_), hb⟩
      rw [Bool.or_eq_true, Bool.and_eq_true, beq_iff_eq, beq_iff_eq, beq_iff_eq, Int.compare_eq_gt, Int.compare_eq_eq, Int.compare_eq_gt]
      omega
    · exact before_plain2 A B C D w h (by simpa using h2)
  · exact before_plain1 A B C D w (by simpa using h)

end Go.Proofs.YtdcjffajmckleaaGreatDoor

/- Names, digits and twins as lists of bytes. -/
namespace Go.Proofs.YtdcjffajmckleaaGreatDoor.Nam
open Go.Lib (decDigits decDigits_one)

def okB (b : UInt8) : Bool := decide (33 ≤ b.toNat ∧ b.toNat ≤ 125 ∧ b.toNat ≠ 47)
/-- Is it a name? -/
def isName (l : List UInt8) : Bool := decide (1 ≤ l.length ∧ l.length ≤ 16) && l.all okB

theorem isName_len {l : List UInt8} (h : isName l = true) : 1 ≤ l.length ∧ l.length ≤ 16 := by
  unfold isName at h; simp at h; exact h.1
theorem isName_at {l : List UInt8} (h : isName l = true) (i : Nat) (hi : i < l.length) : 33 ≤ l[i].toNat ∧ l[i].toNat ≤ 125 ∧ l[i].toNat ≠ 47 := by
  unfold isName at h
  rw [Bool.and_eq_true, List.all_eq_true] at h
  exact of_decide_eq_true (h.2 l[i] (List.getElem_mem hi))
theorem isName_short {l : List UInt8} (h : ¬ (1 ≤ l.length ∧ l.length ≤ 16)) : isName l = false := by
  unfold isName; rw [decide_eq_false h]; rfl
theorem isName_bad {l : List UInt8} (i : Nat) (hi : i < l.length) (h : ¬ (33 ≤ l[i].toNat ∧ l[i].toNat ≤ 125 ∧ l[i].toNat ≠ 47)) : isName l = false := by
  cases e : isName l
  · rfl
  · exact absurd (isName_at e i hi) h
theorem isName_of {l : List UInt8} (h1 : 1 ≤ l.length ∧ l.length ≤ 16) (h2 : ∀ b ∈ l, okB b = true) : isName l = true := by
  unfold isName; rw [decide_eq_true h1, List.all_eq_true.2 h2]; rfl

def isDig (b : UInt8) : Bool := decide (48 ≤ b.toNat ∧ b.toNat ≤ 57)
/-- The number of digits. -/
def val (l : List UInt8) : Nat := l.foldl (fun n b => 10 * n + (b.toNat - 48)) 0

/-- The node, below 64, whose digits a text is. -/
def node (l : List UInt8) : Option Nat := if l.all isDig = true ∧ val l < 64 ∧ decDigits (val l) = l then some (val l) else none

/-- A twin's shown name. -/
def twin (l : List UInt8) (n : Nat) : List UInt8 := l ++ (126 : UInt8) :: decDigits n

end Go.Proofs.YtdcjffajmckleaaGreatDoor.Nam

/- What Right gives, of the program and of the document. -/
namespace Go.Proofs.YtdcjffajmckleaaGreatDoor
open Go.RowKit Nam




theorem name_bad {s : ByteArray} (i : Nat) (hi : i < s.size) (h : ¬ (33 ≤ s[i].toNat ∧ s[i].toNat ≤ 125 ∧ s[i].toNat ≠ 47)) : isName (L s) = false :=
  isName_bad i (by rw [L_len]; exact hi) h
theorem name_short {s : ByteArray} (h : ¬ (1 ≤ s.size ∧ s.size ≤ 16)) : isName (L s) = false := isName_short (by rw [L_len]; exact h)
theorem name_of {s : ByteArray} (h1 : 1 ≤ s.size ∧ s.size ≤ 16) (h2 : ∀ i (h : i < s.size), 33 ≤ s[i].toNat ∧ s[i].toNat ≤ 125 ∧ s[i].toNat ≠ 47) : isName (L s) = true := by
  refine isName_of (by rw [L_len]; exact h1) fun b hb => ?_
  obtain ⟨i, hi, rfl⟩ := List.getElem_of_mem hb
  rw [L_len] at hi
  exact decide_eq_true (h2 i hi)

def good (s : ByteArray) (k : Nat) : Prop := ∀ i (h : i < s.size), i < k → 33 ≤ s[i].toNat ∧ s[i].toNat ≤ 125 ∧ s[i].toNat ≠ 47
theorem good_next {s : ByteArray} {k : Nat} (h : good s k) (hk : k < s.size) (hb : 33 ≤ s[k].toNat ∧ s[k].toNat ≤ 125 ∧ s[k].toNat ≠ 47) : good s (k + 1) := by
  intro i hi hik
  by_cases e : i = k
  · subst e; exact hb
  · exact h i hi (by omega)

set_option maxHeartbeats 1000000 in
theorem nmRight_any (s : ByteArray) (w : World) (hs : s.size ≤ 9223372036854775807) : Calls Tryz.prog 78 #[.string s] w fun e w' => e = .returned (.bool (isName (L s))) ∧ w = w' := by
  by_cases h0 : s.size = 0
  · have HN := Lib.hid (name_short (s := s) (by omega))
    go_enter Tryz.func78, Tryz.ntmps78
    go_wp2
    go_ret
    exact ⟨ret_bool HN.out, rfl⟩
  · have he : ((s.size : Int) == 0) = false := by simp [h0]
    by_cases h16 : 16 < s.size
    · have HN := Lib.hid (name_short (s := s) (by omega))
      go_enter Tryz.func78, Tryz.ntmps78
      go_wp2
      go_ret
      exact ⟨ret_bool HN.out, rfl⟩
    · have hd : decide (16 < (s.size : Int)) = false := decide_eq_false (by omega)
      go_enter Tryz.func78, Tryz.ntmps78
      go_wp2
      go_loop [14] (fun i => ∃ k : Nat, k ≤ s.size ∧ i = .int .i64 k ∧ Hid (good s k)) (fun i => s.size - (intOf i).toNat)
      case atStart => exact ⟨0, Nat.zero_le _, rfl, fun i _ h => absurd h (by omega)⟩
      case round =>
        obtain ⟨k, hk, rfl, hg⟩ := hrel
        by_cases hlt : k < s.size
        · by_cases hb : 33 ≤ s[k].toNat ∧ s[k].toNat ≤ 125 ∧ s[k].toNat ≠ 47
          · have HG := Lib.hid (good_next hg.out hlt hb)
            obtain ⟨hb1, hb2, hb3⟩ := hb
            have hb4 : ((s[k].toNat : Int) == 47) = false := by simp; omega
            go_wp2
            go_round
            case rel => exact ⟨k + 1, by omega, by go_num, HG.out⟩
            case measure => simp [intOf]; omega
          · have HN := Lib.hid (name_bad k hlt hb)
            by_cases hb1 : s[k].toNat < 33
            · clear hb
              go_wp2
              go_ret
              exact ⟨ret_bool HN.out, rfl⟩
            · by_cases hb2 : 125 < s[k].toNat
              · clear hb
                go_wp2
                go_ret
                exact ⟨ret_bool HN.out, rfl⟩
              · have hb3 : ((s[k].toNat : Int) == 47) = true := by simp; omega
                clear hb
                go_wp2
                go_ret
                exact ⟨ret_bool HN.out, rfl⟩
        · obtain rfl : k = s.size := by omega
          have HN := Lib.hid (name_of (s := s) (by omega) (fun i h => hg.out i h h))
          go_wp2
          go_ret
          exact ⟨ret_bool HN.out, rfl⟩

set_option maxHeartbeats 1000000 in
theorem nmRefRight_any (s : ByteArray) (w : World) (hs : s.size ≤ 9223372036854775807) : Calls Tryz.prog 28 #[.string s] w fun e w' => e = .returned (.bool (isName (L s))) ∧ w = w' := by
  go_enter Tryz.func28, Tryz.ntmps28
  go_wp2
  go_loop [3] (fun i => ∃ k : Nat, k ≤ s.size ∧ i = .int .i64 k ∧ Hid (good s k)) (fun i => s.size - (intOf i).toNat)
  case atStart => exact ⟨0, Nat.zero_le _, rfl, fun i _ h => absurd h (by omega)⟩
  case round =>
    obtain ⟨k, hk, rfl, hg⟩ := hrel
    by_cases hlt : k < s.size
    · by_cases hb : 33 ≤ s[k].toNat ∧ s[k].toNat ≤ 125 ∧ s[k].toNat ≠ 47
      · have HG := Lib.hid (good_next hg.out hlt hb)
        obtain ⟨hb1, hb2, hb3⟩ := hb
        have hb4 : ((s[k].toNat : Int) == 47) = false := by simp; omega
        go_wp2
        go_round
        case rel => exact ⟨k + 1, by omega, by go_num, HG.out⟩
        case measure => simp [intOf]; omega
      · have HN := Lib.hid (name_bad k hlt hb)
        by_cases hb1 : s[k].toNat < 33
        · clear hb
          go_wp2
          go_ret
          exact ⟨ret_bool HN.out, rfl⟩
        · by_cases hb2 : 125 < s[k].toNat
          · clear hb
            go_wp2
            go_ret
            exact ⟨ret_bool HN.out, rfl⟩
          · have hb3 : ((s[k].toNat : Int) == 47) = true := by simp; omega
            clear hb
            go_wp2
            go_ret
            exact ⟨ret_bool HN.out, rfl⟩
    · obtain rfl : k = s.size := by omega
      by_cases h0 : s.size = 0
      · have HN := Lib.hid (name_short (s := s) (by omega))
        go_wp2
        go_ret
        exact ⟨ret_bool HN.out, rfl⟩
      · by_cases h16 : 16 < s.size
        · have HN := Lib.hid (name_short (s := s) (by omega))
          go_wp2
          go_ret
          exact ⟨ret_bool (HN.out.trans (decide_eq_false (by omega)).symm), rfl⟩
        · have HN := Lib.hid (name_of (s := s) (by omega) (fun i h => hg.out i h h))
          go_wp2
          go_ret
          exact ⟨ret_bool (HN.out.trans (decide_eq_true (by omega)).symm), rfl⟩

end Go.Proofs.YtdcjffajmckleaaGreatDoor

/- What Right gives, of the program and of the document: layer op. -/
namespace Go.Proofs.YtdcjffajmckleaaGreatDoor
open Go.RowKit Nam

def atB (C D : Int) : Bool := decide (1 ≤ C ∧ C ≤ 1099511627776 ∧ 0 ≤ D ∧ D < 12)
def cntB (n : Int) : Bool := decide (1 ≤ n ∧ n ≤ 1099511627776)
def mvB (K U : Int) : Bool := decide (2 ≤ K ∧ K < 64 ∧ 0 ≤ U ∧ U < 64 ∧ K ≠ U)
def opB (C D I M K U : Int) (s : ByteArray) : Bool := atB C D && (cntB I && (cntB M && (mvB K U && isName (L s))))
theorem bool_of {p : Prop} [Decidable p] {b : Bool} (h : b = true ↔ p) : Value.bool b = .bool (decide p) := by
  congr 1; rw [Bool.eq_iff_iff, h, decide_eq_true_iff]
theorem atB_right {C D : Int} (h : rightB C D = true) : atB C D = decide (1 ≤ C) := by
  have := rightB_iff.1 h
  unfold atB; rw [Bool.eq_iff_iff, decide_eq_true_iff, decide_eq_true_iff]; omega
theorem atB_wrong {C D : Int} (h : rightB C D = false) : atB C D = false := by
  unfold rightB at h; unfold atB; rw [decide_eq_false_iff_not] at h ⊢; omega

theorem rightAt_any (C D : Int) (w : World) : Calls Tryz.prog 75 #[.agg #[.int .i64 C, .int .i64 D]] w fun e w' => e = .returned (.bool (atB C D)) ∧ Below w.heap.size w w' := by
  have c := fun w => stRight_any C D w
  cases h : rightB C D
  · have HA := Lib.hid (atB_wrong h)
    rw [h] at c
    have H := Lib.hid c
    clear c h
    go_enter Tryz.func75, Tryz.ntmps75
    go_wp2_with (go_at_call 102; (with_reducible refine (H.out _).mono ?_); rintro e w1 ⟨rfl, hb⟩; obtain ⟨hc, hf⟩ := bcell hb)
    go_ret
    exact ⟨ret_bool HA.out, below_then (below_alloc (Below.refl _ _) _) hb⟩
  · have HA := Lib.hid (atB_right h)
    rw [h] at c
    have H := Lib.hid c
    clear c h
    go_enter Tryz.func75, Tryz.ntmps75
    go_wp2_with (go_at_call 102; (with_reducible refine (H.out _).mono ?_); rintro e w1 ⟨rfl, hb⟩; obtain ⟨hc, hf⟩ := bcell hb)
    go_ret
    exact ⟨ret_bool HA.out, below_then (below_alloc (Below.refl _ _) _) hb⟩

theorem rightCount_any (n : Int) (w : World) : Calls Tryz.prog 76 #[.int .i64 n] w fun e w' => e = .returned (.bool (cntB n)) ∧ w = w' := by
  go_enter Tryz.func76, Tryz.ntmps76
  go_wp2
  all_goals go_ret
  all_goals exact ⟨ret_of (bool_of (by simp; omega)), rfl⟩

theorem rightMove_any (K U : Int) (w : World) : Calls Tryz.prog 77 #[.int .i64 K, .int .i64 U] w fun e w' => e = .returned (.bool (mvB K U)) ∧ w = w' := by
  go_enter Tryz.func77, Tryz.ntmps77
  go_wp2
  all_goals go_ret
  all_goals exact ⟨ret_of (bool_of (by simp; omega)), rfl⟩

set_option maxHeartbeats 2000000 in
theorem opRight_any (C D I M K U : Int) (s : ByteArray) (w : World) (hs : s.size ≤ 9223372036854775807) :
    Calls Tryz.prog 47 #[.agg #[.int .i64 C, .int .i64 D, .int .i64 I, .int .i64 M, .int .i64 K, .int .i64 U, .string s]] w fun e w' => e = .returned (.bool (opB C D I M K U s)) ∧ Below w.heap.size w w' := by
  have c1 := fun w => rightAt_any C D w
  have c2 := fun w => rightCount_any I w
  have c3 := fun w => rightCount_any M w
  have c4 := fun w => rightMove_any K U w
  have H5 := Lib.hid (fun w => nmRight_any s w hs)
  unfold opB
  generalize atB C D = a at *
  generalize cntB I = b at *
  generalize cntB M = c at *
  generalize mvB K U = d at *
  have H1 := Lib.hid c1
  have H2 := Lib.hid c2
  have H3 := Lib.hid c3
  have H4 := Lib.hid c4
  clear c1 c2 c3 c4
  generalize isName (L s) = x at *
  rcases a with _ | _
  rotate_left
  rcases b with _ | _
  rotate_left
  rcases c with _ | _
  rotate_left
  rcases d with _ | _
  all_goals
    go_enter Tryz.func47, Tryz.ntmps47
    go_wp2_with (first | (go_at_call 75; (with_reducible refine (H1.out _).mono ?_); rintro e w1 ⟨rfl, hb⟩; obtain ⟨hc, hf⟩ := bcell hb) | (go_at_call 76; (with_reducible refine (H2.out _).mono ?_); rintro e w2 ⟨rfl, rfl⟩) | (go_at_call 76; (with_reducible refine (H3.out _).mono ?_); rintro e w2 ⟨rfl, rfl⟩) | (go_at_call 77; (with_reducible refine (H4.out _).mono ?_); rintro e w2 ⟨rfl, rfl⟩) | (go_at_call 78; (with_reducible refine (H5.out _).mono ?_); rintro e w2 ⟨rfl, rfl⟩))
    go_ret
    exact ⟨by simp, below_then (below_alloc (Below.refl _ _) _) hb⟩

theorem opB_wrong {C D I M K U : Int} {s : ByteArray} (h : rightB C D = false) : opB C D I M K U s = false := by
  unfold opB; rw [atB_wrong h]; rfl
theorem opB_out {C D I M K U : Int} {s : ByteArray} (h : ¬ (1 ≤ C ∧ 1 ≤ I ∧ I ≤ 1099511627776 ∧ 1 ≤ M ∧ M ≤ 1099511627776 ∧ 2 ≤ K ∧ K < 64 ∧ 0 ≤ U ∧ U < 64 ∧ K ≠ U)) : opB C D I M K U s = false := by
  unfold opB atB cntB mvB
  rw [Bool.eq_false_iff]; intro e
  simp only [Bool.and_eq_true, decide_eq_true_iff] at e
  omega
theorem opB_in {C D I M K U : Int} {s : ByteArray} (h0 : rightB C D = true) (h : 1 ≤ C ∧ 1 ≤ I ∧ I ≤ 1099511627776 ∧ 1 ≤ M ∧ M ≤ 1099511627776 ∧ 2 ≤ K ∧ K < 64 ∧ 0 ≤ U ∧ U < 64 ∧ K ≠ U) : opB C D I M K U s = isName (L s) := by
  have h0 := rightB_iff.1 h0
  unfold opB atB cntB mvB
  rw [decide_eq_true (by omega), decide_eq_true (by omega), decide_eq_true (by omega), decide_eq_true (by omega)]; simp

set_option maxHeartbeats 4000000 in
theorem opRefRight_any (C D I M K U : Int) (s : ByteArray) (w : World) (hs : s.size ≤ 9223372036854775807) :
    Calls Tryz.prog 10 #[.agg #[.int .i64 C, .int .i64 D, .int .i64 I, .int .i64 M, .int .i64 K, .int .i64 U, .string s]] w fun e w' => e = .returned (.bool (opB C D I M K U s)) ∧ Below w.heap.size w w' := by
  have c1 := fun w => stRefRight_any C D w
  have H5 := Lib.hid (fun w => nmRefRight_any s w hs)
  cases h0 : rightB C D
  · have HB := Lib.hid (opB_wrong (I := I) (M := M) (K := K) (U := U) (s := s) h0)
    rw [h0] at c1
    have H1 := Lib.hid c1
    clear c1 h0
    go_enter Tryz.func10, Tryz.ntmps10
    go_wp2_with (first | (go_at_call 27; (with_reducible refine (H1.out _).mono ?_); rintro e w1 ⟨rfl, hb⟩; obtain ⟨hc, hf⟩ := bcell hb))
    go_ret
    exact ⟨ret_bool HB.out, below_then (below_alloc (Below.refl _ _) _) hb⟩
  · have HB := Lib.hid (fun h => opB_in (I := I) (M := M) (K := K) (U := U) (s := s) h0 h)
    rw [h0] at c1
    have H1 := Lib.hid c1
    clear c1 h0
    by_cases hin : 1 ≤ C ∧ 1 ≤ I ∧ I ≤ 1099511627776 ∧ 1 ≤ M ∧ M ≤ 1099511627776 ∧ 2 ≤ K ∧ K < 64 ∧ 0 ≤ U ∧ U < 64 ∧ K ≠ U
    · have HB := Lib.hid (HB.out hin)
      generalize isName (L s) = x at *
      obtain ⟨h1, h2, h3, h4, h5, h6, h7, h8, h9, h10⟩ := hin
      have h10' : ¬ U = K := fun e => h10 e.symm
      go_enter Tryz.func10, Tryz.ntmps10
      go_wp2_with (first | (go_at_call 27; (with_reducible refine (H1.out _).mono ?_); rintro e w1 ⟨rfl, hb⟩; obtain ⟨hc, hf⟩ := bcell hb) | (go_at_call 28; (with_reducible refine (H5.out _).mono ?_); rintro e w2 ⟨rfl, rfl⟩))
      go_ret
      exact ⟨ret_bool (by rw [show (U != K) = true by simpa using h10', Bool.true_and]; exact HB.out), below_then (below_alloc (Below.refl _ _) _) hb⟩
    · have HO := Lib.hid (opB_out (s := s) (D := D) hin)
      have HI := Lib.hid hin
      clear hin
      go_enter Tryz.func10, Tryz.ntmps10
      go_wp2_with (first | (go_at_call 27; (with_reducible refine (H1.out _).mono ?_); rintro e w1 ⟨rfl, hb⟩; obtain ⟨hc, hf⟩ := bcell hb) | (go_at_call 28; (with_reducible refine (H5.out _).mono ?_); rintro e w2 ⟨rfl, rfl⟩))
      all_goals go_ret
      all_goals first | exact ⟨ret_bool HO.out, below_then (below_alloc (Below.refl _ _) _) hb⟩ | (have hi := HI.out; have e : (U != K) = false := (by simp; omega); exact ⟨ret_bool (by rw [e]; exact HO.out), below_then (below_alloc (Below.refl _ _) _) hb⟩)
end Go.Proofs.YtdcjffajmckleaaGreatDoor

/- Numbers as bytes: what is written is read, and what is read was written so. -/
namespace Go.Proofs.YtdcjffajmckleaaGreatDoor.Cod

/-- The bytes of u: seven bits each, the lowest first. -/
def enc (u : Nat) : List UInt8 := if u < 128 then [UInt8.ofNat u] else UInt8.ofNat (u % 128 + 128) :: enc (u / 128)
termination_by u
decreasing_by omega

/-- The number that a list begins with: k bytes of it came already, and are u. -/
def num : List UInt8 → Nat → Nat → Option (Nat × Nat)
  | [], _, _ => none
  | b :: t, k, u =>
    if k = 9 ∧ 1 < b.toNat then none
    else if 128 ≤ b.toNat then num t (k + 1) (u + 2 ^ (7 * k) * (b.toNat % 128))
    else if b.toNat = 0 ∧ 0 < k then none
    else some (u + 2 ^ (7 * k) * b.toNat, k + 1)

/-- A number's number, and back. -/
def fold (n : Int) : Nat := if n < 0 then (2 * (-1 - n) + 1).toNat else (2 * n).toNat
def unfold (u : Nat) : Int := if u % 2 = 1 then -1 - (u / 2 : Nat) else (u / 2 : Nat)
/-- The bytes of a number. -/
def bytesOf (n : Int) : ByteArray := ⟨(enc (fold n)).toArray⟩
/-- What is read of a list: the number, and how many bytes it has. -/
def rd (l : List UInt8) : Option (Int × Nat) := (num l 0 0).map fun p => (unfold p.1, p.2)
end Go.Proofs.YtdcjffajmckleaaGreatDoor.Cod

/- The document's Num; Text, Bit, Least of both. -/
namespace Go.Proofs.YtdcjffajmckleaaGreatDoor
open Go.RowKit Cod
theorem conv1 (d : Nat) (hd : d < 256) (w : World) :
    (convert 58 9 (.slice (some ⟨w.heap.size, 0, none⟩) 1 1)).run Tryz.prog (w.alloc (.cells #[.int .u8 (d : Int)] 5)) = .ok (.string ⟨#[UInt8.ofNat d]⟩) (w.alloc (.cells #[.int .u8 (d : Int)] 5)) := by
  refine run_convert_bytes_back (P := Tryz.prog) _ 58 9 5 ⟨w.heap.size, 0, none⟩ 1 [UInt8.ofNat d] Tryz.underlying58 Tryz.underlying5 Tryz.underlying9 ?_
  intro j hj
  have hv : (UInt8.ofNat d).toNat = d := by rw [UInt8.toNat_ofNat']; omega
  match j, hj with
  | 0, _ => simp [Addr.add, hv]

/-- A text's bytes. -/
def textOf (s : ByteArray) : ByteArray := bytesOf s.size ++ s

end Go.Proofs.YtdcjffajmckleaaGreatDoor

/- A scope with several labels; a reader in memory. -/
namespace Go.Proofs.YtdcjffajmckleaaGreatDoor
open Go.RowKit Cod
section
variable {P : Program} {a : Act} {w : World} {Q : Exit → Act → World → Prop} {J : Nat → Act → World → Prop}
end

/-- In block b lies a reader of type T: its text, where it stands, whether it went wrong. -/
def Rd (T : TypeId) (w : World) (b : Nat) (s : ByteArray) (at_ : Nat) (bad : Bool) : Prop :=
  w.heap[b]? = some (.cells #[.string s, .int .i64 (at_ : Int), .bool bad] T (0, 0))

section
variable {T : TypeId} {w w' : World} {b : Nat} {s : ByteArray} {p : Nat} {bad : Bool}
theorem Rd.lt (h : Rd T w b s p bad) : b < w.heap.size := by
  rcases Nat.lt_or_ge b w.heap.size with hlt | hge
  · exact hlt
  · unfold Rd at h; rw [Array.getElem?_eq_none hge] at h; cases h
theorem Rd.cells (h : Rd T w b s p bad) : w.cell? ⟨b, 0, none⟩ = some (.string s) ∧ w.cell? ⟨b, 1, none⟩ = some (.int .i64 (p : Int)) ∧ w.cell? ⟨b, 2, none⟩ = some (.bool bad) :=
  ⟨cell_of_row w b 0 _ T (0, 0) h, cell_of_row w b 1 _ T (0, 0) h, cell_of_row w b 2 _ T (0, 0) h⟩
theorem Rd.frozen (h : Rd T w b s p bad) (i : Nat) : w.frozen? ⟨b, i, none⟩ = false := by
  unfold Rd at h
  simp [World.frozen?, h]
theorem Rd.new (w : World) (T : TypeId) (s : ByteArray) (p : Int) (h : p = 0) : Rd T (w.alloc (.cells #[.string s, .int .i64 p, .bool false] T)) w.heap.size s 0 false := by
  subst h; exact heap_alloc_new w _
theorem Rd.drewN (h : Rd T w b s p bad) (n : Nat) : Rd T (w.drewN n) b s p bad := h
theorem Rd.keep {row : Option Nat} (h : Rd T w b s p bad) (hg : w.grownBy w' row) (hne : some b ≠ row) : Rd T w' b s p bad := (hg.block b h.lt hne).trans h
theorem Rd.below (h : Rd T w b s p bad) (hg : Below w.heap.size w w') : Rd T w' b s p bad := (hg.block b h.lt).trans h
end
theorem by_below {w w' : World} (h : Below w.heap.size w w') (r : Option Nat) : w.grownBy w' r := ⟨h.os, h.tape, h.output, h.size, fun i hi _ => h.block i hi⟩
end Go.Proofs.YtdcjffajmckleaaGreatDoor

/- What Print gives, of the program and of the document: layer op. -/
namespace Go.Proofs.YtdcjffajmckleaaGreatDoor
open Go.RowKit Cod

structure Wide (C D I M K U : Int) : Prop where
  c : i64 C
  d : i64 D
  i : i64 I
  m : i64 M
  k : i64 K
  u : i64 U
def printOf (C D I M K U : Int) (s : ByteArray) : ByteArray := bytesOf C ++ bytesOf D ++ bytesOf I ++ bytesOf M ++ bytesOf K ++ bytesOf U ++ textOf s

/-- In block b lies an operation. -/
def OpIn (w : World) (b : Nat) (C D I M K U : Int) (s : ByteArray) : Prop :=
  w.heap[b]? = some (.cells #[.int .i64 C, .int .i64 D, .int .i64 I, .int .i64 M, .int .i64 K, .int .i64 U, .string s] 55 (0, 0))
section
variable {w w' : World} {b : Nat} {C D I M K U : Int} {s : ByteArray}
theorem OpIn.lt (h : OpIn w b C D I M K U s) : b < w.heap.size := by
  rcases Nat.lt_or_ge b w.heap.size with hlt | hge
  · exact hlt
  · unfold OpIn at h; rw [Array.getElem?_eq_none hge] at h; cases h
theorem OpIn.cells (h : OpIn w b C D I M K U s) : w.cell? ⟨b, 0, none⟩ = some (.int .i64 C) ∧ w.cell? ⟨b, 1, none⟩ = some (.int .i64 D) ∧ w.cell? ⟨b, 2, none⟩ = some (.int .i64 I) ∧ w.cell? ⟨b, 3, none⟩ = some (.int .i64 M) ∧ w.cell? ⟨b, 4, none⟩ = some (.int .i64 K) ∧ w.cell? ⟨b, 5, none⟩ = some (.int .i64 U) ∧ w.cell? ⟨b, 6, none⟩ = some (.string s) :=
  ⟨cell_of_row w b 0 _ 55 (0, 0) h, cell_of_row w b 1 _ 55 (0, 0) h, cell_of_row w b 2 _ 55 (0, 0) h, cell_of_row w b 3 _ 55 (0, 0) h, cell_of_row w b 4 _ 55 (0, 0) h, cell_of_row w b 5 _ 55 (0, 0) h, cell_of_row w b 6 _ 55 (0, 0) h⟩
theorem OpIn.frozen (h : OpIn w b C D I M K U s) (i : Nat) : w.frozen? ⟨b, i, none⟩ = false := by
  unfold OpIn at h
  simp [World.frozen?, h]
theorem OpIn.new (w : World) (C D I M K U : Int) (s : ByteArray) : OpIn (w.alloc (.cells #[.int .i64 C, .int .i64 D, .int .i64 I, .int .i64 M, .int .i64 K, .int .i64 U, .string s] 55)) w.heap.size C D I M K U s := heap_alloc_new w _
theorem OpIn.below (h : OpIn w b C D I M K U s) (hg : Below w.heap.size w w') : OpIn w' b C D I M K U s := (hg.block b h.lt).trans h
theorem OpIn.keep {row : Option Nat} (h : OpIn w b C D I M K U s) (hg : w.grownBy w' row) (hne : some b ≠ row) : OpIn w' b C D I M K U s := (hg.block b h.lt hne).trans h
end
end Go.Proofs.YtdcjffajmckleaaGreatDoor

/- An operation in a block: stored, loaded, handed back whole. -/
namespace Go.Proofs.YtdcjffajmckleaaGreatDoor
open Go.RowKit Cod
theorem op_size : (Tryz.prog.info? 55).map (·.size) = some 7 := by kernel_rfl

theorem OpIn.set {w : World} {b : Nat} {C D I M K U : Int} {s : ByteArray} (h : OpIn w b C D I M K U s) (C' D' I' M' K' U' : Int) (s' : ByteArray) : OpIn (w.setRow b #[.int .i64 C', .int .i64 D', .int .i64 I', .int .i64 M', .int .i64 K', .int .i64 U', .string s']) b C' D' I' M' K' U' s' := setRow_heap _ _ _ _ _ _ h

theorem OpIn.alloc {w : World} {b : Nat} {C D I M K U : Int} {s : ByteArray} (h : OpIn w b C D I M K U s) (o : Obj) : OpIn (w.alloc o) b C D I M K U s := h.below (below_alloc (Below.refl _ _) o)

theorem store_op {ops : Array Oper} {rest : List Oper} {o : Oper} {a : Act} {w : World} {Q : Exit → Act → World → Prop} (hgd : o.guard = none) (x y : Operand) (ho : o.op = .store 55 x y)
    (b : Nat) (C' D' I' M' K' U' : Int) (s' : ByteArray) (hx : a.eval x = .pointer (some ⟨b, 0, none⟩)) (hy : a.eval y = .agg #[.int .i64 C', .int .i64 D', .int .i64 I', .int .i64 M', .int .i64 K', .int .i64 U', .string s'])
    (C D I M K U : Int) (s : ByteArray) (hg : OpIn w b C D I M K U s)
    (h : wpList Tryz.prog ops Q rest (a.put o.dst undef) (w.setRow b #[.int .i64 C', .int .i64 D', .int .i64 I', .int .i64 M', .int .i64 K', .int .i64 U', .string s'])) : wpList Tryz.prog ops Q (o :: rest) a w :=
  wpList_store_row hgd 55 x y ho b _ hx hy 55 _ hg op_size rfl (by simp [Value.oneCell']) h

theorem load_op {ops : Array Oper} {rest : List Oper} {o : Oper} {a : Act} {w : World} {Q : Exit → Act → World → Prop} (hgd : o.guard = none) (x : Operand) (ho : o.op = .load 55 x)
    (b : Nat) (hx : a.eval x = .pointer (some ⟨b, 0, none⟩)) (C D I M K U : Int) (s : ByteArray) (hg : OpIn w b C D I M K U s)
    (h : wpList Tryz.prog ops Q rest (a.put o.dst (.agg #[.int .i64 C, .int .i64 D, .int .i64 I, .int .i64 M, .int .i64 K, .int .i64 U, .string s])) w) : wpList Tryz.prog ops Q (o :: rest) a w :=
  wpList_load_row hgd 55 x ho b hx 55 _ (0, 0) _ hg Tryz.underlying55 rfl op_size h

theorem loadVar_op {w : World} {b : Nat} {C D I M K U : Int} {s : ByteArray} (h : OpIn w b C D I M K U s) : (loadVar 55 ⟨b, 0, none⟩).run Tryz.prog w = .ok (.agg #[.int .i64 C, .int .i64 D, .int .i64 I, .int .i64 M, .int .i64 K, .int .i64 U, .string s]) w :=
  run_loadVar_row w b 55 55 _ (0, 0) _ h Tryz.underlying55 rfl op_size

/-- Two results, an operation and a word. -/
theorem ret_op2 {fn : Func} {R : Ending → World → Prop} {a : Act} {w : World} {b : Nat} {p u : Tmp} {v : Value} {C D I M K U : Int} {s : ByteArray} (h : OpIn w b C D I M K U s) (hr : fn.results = #[.cell p 55, .tmp u]) (hp : a.tmps.getD p undef = .pointer (some ⟨b, 0, none⟩)) (hv : a.tmps.getD u undef = v) (hd : a.defers = [])
    (hR : R (.returned (.tuple #[.agg #[.int .i64 C, .int .i64 D, .int .i64 I, .int .i64 M, .int .i64 K, .int .i64 U, .string s], v])) w) : bodyPost Tryz.prog fn R .ret a w := by
  refine bodyPost_ret (v := .tuple #[.agg #[.int .i64 C, .int .i64 D, .int .i64 I, .int .i64 M, .int .i64 K, .int .i64 U, .string s], v]) ?_ hd hR
  rw [results_cell_tmp hr, hp, hv]
  simp only [asAddr, Sem.run_pure, Result.andThen, loadVar_op h]
end Go.Proofs.YtdcjffajmckleaaGreatDoor

/- What Make gives, of the program and of the document: layer op. -/
namespace Go.Proofs.YtdcjffajmckleaaGreatDoor
open Go.RowKit Nam Cod

def mkB (c e I M K U : Int) (s : ByteArray) : Bool := nextB c e && opB (nextC c e) (nextD c e) I M K U s
def mkI (b : Bool) (n : Int) : Int := if b then n else 0
def mkS (b : Bool) (s : ByteArray) : ByteArray := if b then s else ⟨#[]⟩

set_option maxHeartbeats 4000000 in
theorem opMake_any (c e I M K U : Int) (s : ByteArray) (w : World) (hs : s.size ≤ 9223372036854775807) :
    Calls Tryz.prog 24 #[.int .i64 c, .int .i64 e, .int .i64 I, .int .i64 M, .agg #[.int .i64 K, .int .i64 U, .string s]] w fun x w' => x = .returned (.tuple #[.agg #[.int .i64 (mkI (mkB c e I M K U s) (nextC c e)), .int .i64 (mkI (mkB c e I M K U s) (nextD c e)), .int .i64 (mkI (mkB c e I M K U s) I), .int .i64 (mkI (mkB c e I M K U s) M), .int .i64 (mkI (mkB c e I M K U s) K), .int .i64 (mkI (mkB c e I M K U s) U), .string (mkS (mkB c e I M K U s) s)], .bool (mkB c e I M K U s)]) ∧ Below w.heap.size w w' := by
  have c1 := fun w => next_any c e w
  have c2 := fun w => opRight_any (nextC c e) (nextD c e) I M K U s w hs
  obtain ⟨b1, h1⟩ : ∃ b, nextB c e = b := ⟨_, rfl⟩
  obtain ⟨b2, h2⟩ : ∃ b, opB (nextC c e) (nextD c e) I M K U s = b := ⟨_, rfl⟩
  unfold mkB
  rw [h1] at c1 ⊢
  rw [h2] at c2 ⊢
  generalize nextC c e = X at *
  generalize nextD c e = Y at *
  clear h1 h2
  cases b1
  · have C1 := Lib.hid c1
    clear c1 c2
    go_enter Tryz.func24, Tryz.ntmps24
    go_wp2_with fail
    have hB0 : Below w.heap.size w ((w.alloc (.cells #[.int .i64 K, .int .i64 U, .string s] 50)).alloc (.cells #[.int .i64 0, .int .i64 0, .int .i64 0, .int .i64 0, .int .i64 0, .int .i64 0, .string ⟨#[]⟩] 55)) := below_alloc (below_alloc (Below.refl _ _) _) _
    have hO : OpIn ((w.alloc (.cells #[.int .i64 K, .int .i64 U, .string s] 50)).alloc (.cells #[.int .i64 0, .int .i64 0, .int .i64 0, .int .i64 0, .int .i64 0, .int .i64 0, .string ⟨#[]⟩] 55)) (w.heap.size + 1) 0 0 0 0 0 0 ⟨#[]⟩ := by
      have h := OpIn.new (w.alloc (.cells #[.int .i64 K, .int .i64 U, .string s] 50)) 0 0 0 0 0 0 ⟨#[]⟩
      rwa [show (w.alloc (.cells #[.int .i64 K, .int .i64 U, .string s] 50)).heap.size = w.heap.size + 1 from alloc_size _ _] at h
    have g0 : ((w.alloc (.cells #[.int .i64 K, .int .i64 U, .string s] 50)).alloc (.cells #[.int .i64 0, .int .i64 0, .int .i64 0, .int .i64 0, .int .i64 0, .int .i64 0, .string ⟨#[]⟩] 55)).heap[w.heap.size]? = some (.cells #[.int .i64 K, .int .i64 U, .string s] 50 (0, 0)) := by
      rw [(below_alloc (Below.refl _ _) _).block _ (by rw [alloc_size]; exact Nat.lt_succ_self _)]; exact heap_alloc_new w _
    generalize ((w.alloc (.cells #[.int .i64 K, .int .i64 U, .string s] 50)).alloc (.cells #[.int .i64 0, .int .i64 0, .int .i64 0, .int .i64 0, .int .i64 0, .int .i64 0, .string ⟨#[]⟩] 55)) = W0 at *
    refine (C1.out _).mono ?_
    rintro x w1 ⟨rfl, hb1⟩
    have hO1 := hO.below hb1
    have g1 := (hb1.block _ (Nat.lt_of_le_of_lt (Nat.le_succ _) hO.lt)).trans g0
    have hz := hO1.lt
    have hn2 : w.heap.size ≤ w.heap.size + 1 := Nat.le_succ _
    have hlt : w.heap.size < w1.heap.size := by omega
    have hne : w.heap.size ≠ w1.heap.size := by omega
    have k0 : w1.cell? ⟨w.heap.size, 0, none⟩ = some (.int .i64 K) := cell_of_row w1 w.heap.size 0 _ 50 (0, 0) g1
    have k1 : w1.cell? ⟨w.heap.size, 1, none⟩ = some (.int .i64 U) := cell_of_row w1 w.heap.size 1 _ 50 (0, 0) g1
    have k2 : w1.cell? ⟨w.heap.size, 2, none⟩ = some (.string s) := cell_of_row w1 w.heap.size 2 _ 50 (0, 0) g1
    have hb := below_then hB0 hb1
    clear hb1 hO g0 g1 hB0
    generalize w.heap.size + 1 = n2 at *
    go_wp2_with (refine store_op rfl _ _ rfl _ _ _ _ _ _ _ _ rfl rfl _ _ _ _ _ _ _ ((hO1.alloc _).alloc _) ?_)
    refine ret_op2 (((hO1.alloc _).alloc _).set _ _ _ _ _ _ _) rfl rfl rfl rfl ?_
    exact ⟨rfl, below_setRow (below_alloc (below_alloc hb _) _) hn2 _⟩
  · have C1 := Lib.hid c1
    have C2 := Lib.hid c2
    clear c1 c2
    go_enter Tryz.func24, Tryz.ntmps24
    go_wp2_with fail
    have hB0 : Below w.heap.size w ((w.alloc (.cells #[.int .i64 K, .int .i64 U, .string s] 50)).alloc (.cells #[.int .i64 0, .int .i64 0, .int .i64 0, .int .i64 0, .int .i64 0, .int .i64 0, .string ⟨#[]⟩] 55)) := below_alloc (below_alloc (Below.refl _ _) _) _
    have hO : OpIn ((w.alloc (.cells #[.int .i64 K, .int .i64 U, .string s] 50)).alloc (.cells #[.int .i64 0, .int .i64 0, .int .i64 0, .int .i64 0, .int .i64 0, .int .i64 0, .string ⟨#[]⟩] 55)) (w.heap.size + 1) 0 0 0 0 0 0 ⟨#[]⟩ := by
      have h := OpIn.new (w.alloc (.cells #[.int .i64 K, .int .i64 U, .string s] 50)) 0 0 0 0 0 0 ⟨#[]⟩
      rwa [show (w.alloc (.cells #[.int .i64 K, .int .i64 U, .string s] 50)).heap.size = w.heap.size + 1 from alloc_size _ _] at h
    have g0 : ((w.alloc (.cells #[.int .i64 K, .int .i64 U, .string s] 50)).alloc (.cells #[.int .i64 0, .int .i64 0, .int .i64 0, .int .i64 0, .int .i64 0, .int .i64 0, .string ⟨#[]⟩] 55)).heap[w.heap.size]? = some (.cells #[.int .i64 K, .int .i64 U, .string s] 50 (0, 0)) := by
      rw [(below_alloc (Below.refl _ _) _).block _ (by rw [alloc_size]; exact Nat.lt_succ_self _)]; exact heap_alloc_new w _
    generalize ((w.alloc (.cells #[.int .i64 K, .int .i64 U, .string s] 50)).alloc (.cells #[.int .i64 0, .int .i64 0, .int .i64 0, .int .i64 0, .int .i64 0, .int .i64 0, .string ⟨#[]⟩] 55)) = W0 at *
    refine (C1.out _).mono ?_
    rintro x w1 ⟨rfl, hb1⟩
    have hO1 := hO.below hb1
    have g1 := (hb1.block _ (Nat.lt_of_le_of_lt (Nat.le_succ _) hO.lt)).trans g0
    have hz := hO1.lt
    have hn2 : w.heap.size ≤ w.heap.size + 1 := Nat.le_succ _
    have hlt : w.heap.size < w1.heap.size := by omega
    have hne : w.heap.size ≠ w1.heap.size := by omega
    have k0 : w1.cell? ⟨w.heap.size, 0, none⟩ = some (.int .i64 K) := cell_of_row w1 w.heap.size 0 _ 50 (0, 0) g1
    have k1 : w1.cell? ⟨w.heap.size, 1, none⟩ = some (.int .i64 U) := cell_of_row w1 w.heap.size 1 _ 50 (0, 0) g1
    have k2 : w1.cell? ⟨w.heap.size, 2, none⟩ = some (.string s) := cell_of_row w1 w.heap.size 2 _ 50 (0, 0) g1
    have hb := below_then hB0 hb1
    clear hb1 hO g0 g1 hB0
    generalize w.heap.size + 1 = n2 at *
    go_wp2_with fail
    have hO2 := (hO1.alloc (.cells #[.int .i64 X, .int .i64 Y] 53)).alloc (.cells #[.int .i64 X, .int .i64 Y, .int .i64 I, .int .i64 M, .int .i64 K, .int .i64 U, .string s] 55)
    have hP2 := OpIn.new (w1.alloc (.cells #[.int .i64 X, .int .i64 Y] 53)) X Y I M K U s
    rw [show (w1.alloc (.cells #[.int .i64 X, .int .i64 Y] 53)).heap.size = w1.heap.size + 1 from alloc_size _ _] at hP2
    have hb2 := below_alloc (below_alloc hb (.cells #[.int .i64 X, .int .i64 Y] 53)) (.cells #[.int .i64 X, .int .i64 Y, .int .i64 I, .int .i64 M, .int .i64 K, .int .i64 U, .string s] 55)
    clear k0 k1 k2 hlt hne hz hO1 hb
    generalize (w1.alloc (.cells #[.int .i64 X, .int .i64 Y] 53)).alloc (.cells #[.int .i64 X, .int .i64 Y, .int .i64 I, .int .i64 M, .int .i64 K, .int .i64 U, .string s] 55) = W2 at *
    generalize w1.heap.size + 1 = n3 at *
    refine (C2.out _).mono ?_
    rintro x w3 ⟨rfl, hb3⟩
    have hO3 := hO2.below hb3
    have hP3 := hP2.below hb3
    have hb := below_then hb2 hb3
    clear hO2 hP2 hb2 hb3
    cases b2
    · go_wp2_with (refine store_op rfl _ _ rfl _ _ _ _ _ _ _ _ rfl rfl _ _ _ _ _ _ _ hO3 ?_)
      refine ret_op2 (hO3.set _ _ _ _ _ _ _) rfl rfl rfl rfl ?_
      exact ⟨rfl, below_setRow hb hn2 _⟩
    · go_wp2_with (first | (refine store_op rfl _ _ rfl _ _ _ _ _ _ _ _ rfl rfl _ _ _ _ _ _ _ hO3 ?_) | (refine load_op rfl _ rfl _ rfl _ _ _ _ _ _ _ hP3 ?_))
      refine ret_op2 (hO3.set _ _ _ _ _ _ _) rfl rfl rfl rfl ?_
      exact ⟨rfl, below_setRow hb hn2 _⟩

end Go.Proofs.YtdcjffajmckleaaGreatDoor

/- Num of both Readers, in two words: what comes, or that nothing comes. -/
namespace Go.Proofs.YtdcjffajmckleaaGreatDoor
open Go.RowKit Cod
section
variable {T : TypeId} {b : Nat} {s : ByteArray} {p : Nat} {w : World} {bad : Bool}
/-- The number that stands at p, and what stands behind it. -/
def isNum (s : ByteArray) (p : Nat) (bad : Bool) : Option (Int × Nat) := if bad then none else (rd (s.data.toList.drop p)).map fun x => (x.1, p + x.2)
end

end Go.Proofs.YtdcjffajmckleaaGreatDoor

/- Count and Bool of both Readers. -/
namespace Go.Proofs.YtdcjffajmckleaaGreatDoor
open Go.RowKit Cod

/-- The number from 0 to most that stands at p. -/
def isCount (s : ByteArray) (p : Nat) (bad : Bool) (most : Int) : Option (Int × Nat) :=
  match isNum s p bad with
  | some (n, q) => if 0 ≤ n ∧ n ≤ most then some (n, q) else none
  | none => none

section
variable {b : Nat} {s : ByteArray} {p : Nat} {w : World} {bad : Bool}
theorem isCount_some {most n : Int} {q : Nat} (h : isCount s p bad most = some (n, q)) : isNum s p bad = some (n, q) ∧ 0 ≤ n ∧ n ≤ most := by
  unfold isCount at h
  split at h
  · rename_i n' q' h1
    split at h
    · rename_i h2
      obtain ⟨rfl, rfl⟩ := Prod.mk.inj (Option.some.inj h)
      exact ⟨h1, h2⟩
    · cases h
  · cases h
end

end Go.Proofs.YtdcjffajmckleaaGreatDoor

/- Text and Done of both Readers. -/
namespace Go.Proofs.YtdcjffajmckleaaGreatDoor
open Go.RowKit Cod

/-- The text that stands at p. -/
def isText (s : ByteArray) (p : Nat) (bad : Bool) (most : Int) : Option (ByteArray × Nat) :=
  match isCount s p bad most with
  | some (n, q) => if n.toNat + q ≤ s.size then some (s.extract q (q + n.toNat), q + n.toNat) else none
  | none => none

section
variable {b : Nat} {s : ByteArray} {p : Nat} {w : World} {bad : Bool}
theorem isText_some {most : Int} {t : ByteArray} {e : Nat} (h : isText s p bad most = some (t, e)) : ∃ n q : Nat, isCount s p bad most = some ((n : Int), q) ∧ n + q ≤ s.size ∧ t = s.extract q (q + n) ∧ e = q + n := by
  unfold isText at h
  split at h
  · rename_i n' q' h1
    split at h
    · rename_i h2
      obtain ⟨rfl, rfl⟩ := Prod.mk.inj (Option.some.inj h)
      obtain ⟨_, h3, _⟩ := isCount_some h1
      exact ⟨n'.toNat, q', by rw [Int.toNat_of_nonneg h3]; exact h1, h2, rfl, rfl⟩
    · cases h
  · cases h
end

end Go.Proofs.YtdcjffajmckleaaGreatDoor

/- A number, a text read, whatever the reader's state; small steps on worlds. -/
namespace Go.Proofs.YtdcjffajmckleaaGreatDoor
open Go.RowKit Cod

def numStep (s : ByteArray) (p : Nat) (bad : Bool) (v : Int) (q : Nat) (bad' : Bool) : Prop := (isNum s p bad = some (v, q) ∧ bad' = false) ∨ (isNum s p bad = none ∧ v = 0 ∧ bad' = true)
def textStep (s : ByteArray) (p : Nat) (bad : Bool) (v : ByteArray) (q : Nat) (bad' : Bool) : Prop := (isText s p bad 16 = some (v, q) ∧ bad' = false) ∨ (isText s p bad 16 = none ∧ v = ⟨#[]⟩ ∧ bad' = true)
theorem isNum_bad (s : ByteArray) (p : Nat) : isNum s p true = none := rfl
theorem isText_bad (s : ByteArray) (p : Nat) (m : Int) : isText s p true m = none := by
  rcases h : isText s p true m with _ | ⟨t, e⟩
  · rfl
  · obtain ⟨n, q, h1, _⟩ := isText_some h
    have := (isCount_some h1).1
    rw [isNum_bad] at this; cases this
theorem numStep.good {s : ByteArray} {p : Nat} {bad : Bool} {v : Int} {q : Nat} (h : numStep s p bad v q false) : bad = false ∧ isNum s p false = some (v, q) := by
  rcases h with ⟨h, _⟩ | ⟨_, _, h⟩
  · cases bad
    · exact ⟨rfl, h⟩
    · rw [isNum_bad] at h; cases h
  · cases h
theorem numStep.back {s : ByteArray} {p : Nat} {bad : Bool} {v : Int} {q : Nat} (h : numStep s p bad v q false) : isNum s p bad = some (v, q) := by
  rcases h with ⟨h, _⟩ | ⟨_, _, h⟩
  · exact h
  · cases h
theorem textStep.good {s : ByteArray} {p : Nat} {bad : Bool} {v : ByteArray} {q : Nat} (h : textStep s p bad v q false) : bad = false ∧ isText s p false 16 = some (v, q) := by
  rcases h with ⟨h, _⟩ | ⟨_, _, h⟩
  · cases bad
    · exact ⟨rfl, h⟩
    · rw [isText_bad] at h; cases h
  · cases h
section
variable {w a : World} {b : Nat} {s : ByteArray}
theorem Rd.other {T : TypeId} {q : Nat} {bad : Bool} (h : Rd T w b s q bad) (n i : Nat) (v : Value) (hne : b ≠ n) : Rd T (w.setCell ⟨n, i, none⟩ v) b s q bad :=
  (Below.heap_setCell w ⟨n, i, none⟩ v b hne).trans h
theorem Rd.row {T : TypeId} {q : Nat} {bad : Bool} (h : Rd T w b s q bad) (n : Nat) (cs : Array Value) (hne : b ≠ n) : Rd T (w.setRow n cs) b s q bad := (setRow_other w n b cs hne).trans h
end
end Go.Proofs.YtdcjffajmckleaaGreatDoor

/- What Read gives, of the program and of the document: layer op. -/
namespace Go.Proofs.YtdcjffajmckleaaGreatDoor
open Go.RowKit Nam Cod

structure Mv where
  C : Int
  D : Int
  I : Int
  M : Int
  K : Int
  U : Int
  s : ByteArray
def zeroMv : Mv := ⟨0, 0, 0, 0, 0, 0, ⟨#[]⟩⟩
def isOp (s : ByteArray) (p : Nat) (bad : Bool) : Option (Mv × Nat) :=
  (isNum s p bad).bind fun a => (isNum s a.2 false).bind fun b => (isNum s b.2 false).bind fun c => (isNum s c.2 false).bind fun d => (isNum s d.2 false).bind fun e => (isNum s e.2 false).bind fun f => (isText s f.2 false 16).bind fun g =>
    if opB a.1 b.1 c.1 d.1 e.1 f.1 g.1 = true then some (⟨a.1, b.1, c.1, d.1, e.1, f.1, g.1⟩, g.2) else none
/-- The seven steps, one behind the other. -/
structure Steps7 (s : ByteArray) (p : Nat) (bad : Bool) (C D I M K U : Int) (t : ByteArray) (q7 : Nat) (b7 : Bool) : Prop where
  all : ∃ q1 q2 q3 q4 q5 q6 b1 b2 b3 b4 b5 b6, numStep s p bad C q1 b1 ∧ numStep s q1 b1 D q2 b2 ∧ numStep s q2 b2 I q3 b3 ∧ numStep s q3 b3 M q4 b4 ∧ numStep s q4 b4 K q5 b5 ∧ numStep s q5 b5 U q6 b6 ∧ textStep s q6 b6 t q7 b7
theorem Steps7.good {s : ByteArray} {p : Nat} {bad : Bool} {C D I M K U : Int} {t : ByteArray} {q7 : Nat} (h : Steps7 s p bad C D I M K U t q7 false) : isOp s p bad = if opB C D I M K U t = true then some (⟨C, D, I, M, K, U, t⟩, q7) else none := by
  obtain ⟨q1, q2, q3, q4, q5, q6, b1, b2, b3, b4, b5, b6, h1, h2, h3, h4, h5, h6, h7⟩ := h.all
  obtain ⟨e7, g7⟩ := h7.good
  subst e7
  obtain ⟨e6, g6⟩ := h6.good
  subst e6
  obtain ⟨e5, g5⟩ := h5.good
  subst e5
  obtain ⟨e4, g4⟩ := h4.good
  subst e4
  obtain ⟨e3, g3⟩ := h3.good
  subst e3
  obtain ⟨e2, g2⟩ := h2.good
  subst e2
  have g1 := h1.back
  unfold isOp
  simp only [g1, g2, g3, g4, g5, g6, g7, Option.bind_some]
section
variable {w a : World} {b : Nat} {C D I M K U : Int} {s : ByteArray}
theorem OpIn.putC (h : OpIn w b C D I M K U s) (x : Int) : OpIn (w.setCell ⟨b, 0, none⟩ (.int .i64 x)) b x D I M K U s := by
  unfold OpIn at h ⊢
  simp [World.setCell, Array.getElem?_modify, h]
theorem OpIn.other (h : OpIn w b C D I M K U s) (n i : Nat) (v : Value) (hne : b ≠ n) : OpIn (w.setCell ⟨n, i, none⟩ v) b C D I M K U s :=
  (Below.heap_setCell w ⟨n, i, none⟩ v b hne).trans h
end
end Go.Proofs.YtdcjffajmckleaaGreatDoor

/- What Parse gives, of the program and of the document: layer op. -/
namespace Go.Proofs.YtdcjffajmckleaaGreatDoor
open Go.RowKit Nam Cod
def Mv.val (o : Mv) : Value := .agg #[.int .i64 o.C, .int .i64 o.D, .int .i64 o.I, .int .i64 o.M, .int .i64 o.K, .int .i64 o.U, .string o.s]

end Go.Proofs.YtdcjffajmckleaaGreatDoor

/- The frame of a law that reads its arguments, makes memory of its own, and answers true: its row's end, out of 'Below' alone. -/
namespace Go.Proofs.YtdcjffajmckleaaGreatDoor.Frm
open Go.ChangeShapes Go.WideShapes Go.ChangeAt Go.RowKit

section
variable {H : Type} {enc : TypeId × Value → H} {P : Program}

/-- Each type of a list can be read, and is a row of the table. -/
def rowed (P : Program) (ts : List TypeId) : Bool := ts.all fun t => P.readableRec t && decide (t < P.types.size)

theorem trodAll_below (hl : laidOutB P = true) {W W' : World} (hb : Below W.heap.size W W') (sp : Nat → Bool) :
    ∀ {ts : List TypeId} {vs : List Value} {ds : List (DataW H)} {ps : List MemPlace}, rowed P ts = true → DataW.TrodAll enc P W 0 (fun _ => true) true ts vs ds ps → (∀ p ∈ ps, p.block < W.heap.size) → (∀ p ∈ ps, sp p.block = true) →
      DataW.TrodAll enc P W' 0 sp true ts vs ds ps
  | [], [], [], _, _, h, _, _ => h
  | [], [], _ :: _, _, _, h, _, _ => h.elim
  | [], _ :: _, _, _, _, h, _, _ => h.elim
  | _ :: _, [], _, _, _, h, _, _ => h.elim
  | _ :: _, _ :: _, [], _, _, h, _, _ => h.elim
  | t :: ts, v :: vs, d :: ds, ps, hr, h, hlt, hsp => by
    obtain ⟨p, q, h1, h2, rfl⟩ := h
    simp only [rowed, List.all_cons, Bool.and_eq_true, decide_eq_true_iff] at hr
    refine ⟨p, q, ?_, trodAll_below hl hb sp (by simpa [rowed] using hr.2) h2 (fun x hx => hlt x (by simp [hx])) (fun x hx => hsp x (by simp [hx])), rfl⟩
    exact WideElems.Trod_stays hl hr.1.1 hr.1.2 h1 (fun x hx => hb.same (hlt x (by simp [hx]))) (fun x hx => hsp x (by simp [hx]))

/-- THE ROW's END: what was there has not turned, the answer is true, the arguments read as they did. -/
theorem law_post {f : Func} {s : ChangeSpec} {apart fresh handsOn again : Bool} {W W' : World} {args : Array Value} {ds gs : List (DataW H)} {before : List MemPlace} {tb : TypeId}
    (hl : laidOutB P = true) (hrow : rowed P f.params.toList = true) (hres : f.resultTypes = #[tb]) (hbool : P.underlying tb = some .bool) (hvars : s.vars = [])
    (hspec : s.fn H ds = { results := [.lit (.bool true)], args := ds })
    (hW : DataW.Whole enc P f.params.toList s.vars apart W args.toList ds gs before) (hb : Below W.heap.size W W') :
    s.post enc P f apart fresh handsOn again W args (.bool true) W' := by
  have hlt : ∀ p ∈ before, p.block < W.heap.size := fun p hp => hW.lt p hp
  have hold : ∀ p ∈ before, (fun b => decide (b < W.heap.size)) p.block = true := fun p hp => by simpa using hlt p hp
  obtain ⟨p, q, hA, hV, hpq, hfz, hnd⟩ := hW
  have hgs : gs = [] ∧ q = [] := by rw [hvars] at hV; exact trodVars_none hV
  obtain ⟨rfl, rfl⟩ := hgs
  rw [List.append_nil] at hpq
  subst hpq
  have hs2 : (s.fn H (ds ++ [])).results = [.lit (.bool true)] := by rw [List.append_nil, hspec]
  have hs3 : (s.fn H (ds ++ [])).args = ds := by rw [List.append_nil, hspec]
  have hs4 : (s.fn H (ds ++ [])).vars = [] := by rw [List.append_nil, hspec]
  have hargs : ∀ sp : Nat → Bool, (∀ p ∈ before, sp p.block = true) → DataW.TrodAll enc P W' 0 sp true f.params.toList args.toList (s.fn H (ds ++ [])).args before := by
    intro sp hsp
    rw [hs3]
    exact trodAll_below hl hb sp hrow hA hlt hsp
  have hR : ∀ (b : Nat) (sp : Nat → Bool) (hd : Bool), DataW.TrodAll enc P W' b sp hd f.resultTypes.toList ((Value.bool true).resultList f.resultTypes.size) (s.fn H (ds ++ [])).results [] := by
    intro b sp hd
    rw [hs2, hres]
    exact trodAll_mk1 (shut_bool hbool true)
  have hvr : ∀ sp : Nat → Bool, DataW.TrodVars enc P W' sp s.vars (s.fn H (ds ++ [])).vars [] := by
    intro sp; rw [hs4, hvars]; rfl
  have hW0 : DataW.Whole enc P f.params.toList s.vars apart W args.toList ds [] before := ⟨before, [], hA, hV, by simp, hfz, hnd⟩
  refine ⟨ds, [], before, [], before, [], hW0, hR _ _ _, hargs _ hold, hvr _, World.keptBut_mono (fun p hp => ⟨hp, by simpa using hp⟩) (hb.frame (· ∈ before)), fun _ => ?_⟩
  refine ⟨ok_one hres rfl (okWide_bool_mk hbool true), _, _, ([] ++ before) ++ [], ⟨[] ++ before, [], trodAll_append (hargs _ (fun _ _ => rfl)) (hR _ _ _), hvr _, rfl, ?_, ?_⟩, ?_⟩
  · intro b off hp
    have hin : MemPlace.cell b off ∈ before := by simpa using hp
    rw [hb.frozen (hlt _ hin)]
    exact hfz b off hin
  · intro ha
    simpa using hnd ha
  · intro p hp _
    simpa using hp

end
end Go.Proofs.YtdcjffajmckleaaGreatDoor.Frm

/- How words and texts among the arguments of the laws are opened. -/
namespace Go.Proofs.YtdcjffajmckleaaGreatDoor
open Go.ChangeShapes Go.WideShapes Go.ChangeAt Go.RowKit Go.Deep

theorem own : ownKnob Tryz.prog.godebug = none := by kernel_rfl
theorem cells3 : Tryz.prog.cellsOf 3 = 1 := by kernel_rfl
theorem cells5 : Tryz.prog.cellsOf 5 = 1 := by kernel_rfl
theorem cells9 : Tryz.prog.cellsOf 9 = 1 := by kernel_rfl

end Go.Proofs.YtdcjffajmckleaaGreatDoor

/- How the arguments of the laws are opened. -/
namespace Go.Proofs.YtdcjffajmckleaaGreatDoor
open Go.ChangeShapes Go.WideShapes Go.ChangeAt Go.RowKit Go.Deep Nam Cod

theorem cells25 : Tryz.prog.cellsOf 55 = 7 := by kernel_rfl
theorem cells23 : Tryz.prog.cellsOf 53 = 2 := by kernel_rfl

set_option maxRecDepth 100000 in
/-- Seven cells that read as an operation. -/
theorem read_op {H : Type} {enc : TypeId × Value → H} {W : World} {base : Nat} {sp : Nat → Bool} {held : Bool} {fuel : Nat} {cs : List Value} {x : DataW H × List MemPlace}
    (h : DataW.trod enc Tryz.prog W base sp held fuel 55 cs = some x) : ∃ (C D I M K U : Int) (s : ByteArray), cs = [.int .i64 C, .int .i64 D, .int .i64 I, .int .i64 M, .int .i64 K, .int .i64 U, .string s] ∧ Wide C D I M K U ∧ s.size ≤ maxLen := by
  obtain ⟨xs, n, _, _, hl, hlen, hf⟩ := DataW.trod_struct Tryz.underlying55 h
  have hl7 : cs.length = 7 := hl.trans cells25
  have hl6 : xs.length = 6 := hlen
  match cs, hl7, xs, hl6 with
  | [c0, c1, c2, c3, c4, c5, c6], _, [y0, y1, y2, y3, y4, y5], _ =>
    have h0 := hf 0 _ rfl
    have h1 := hf 1 _ rfl
    have h2 := hf 2 _ rfl
    have h3 := hf 3 _ rfl
    have h4 := hf 4 _ rfl
    have h5 := hf 5 _ rfl
    simp [cells23, cells3, cells9] at h0 h1 h2 h3 h4 h5
    obtain ⟨zs, n', _, _, _, hlen2, hg⟩ := DataW.trod_struct Tryz.underlying53 h0
    have hl2 : zs.length = 2 := hlen2
    match zs, hl2 with
    | [z0, z1], _ =>
      have g0 := hg 0 _ rfl
      have g1 := hg 1 _ rfl
      simp [cells3] at g0 g1
      obtain ⟨C, e0, _, w0⟩ := DataW.trod_int Tryz.underlying3 g0
      obtain ⟨D, e1, _, w1⟩ := DataW.trod_int Tryz.underlying3 g1
      obtain ⟨I, e2, _, w2⟩ := DataW.trod_int Tryz.underlying3 h1
      obtain ⟨M, e3, _, w3⟩ := DataW.trod_int Tryz.underlying3 h2
      obtain ⟨K, e4, _, w4⟩ := DataW.trod_int Tryz.underlying3 h3
      obtain ⟨U, e5, _, w5⟩ := DataW.trod_int Tryz.underlying3 h4
      obtain ⟨s, e6, _, w6⟩ := DataW.trod_string Tryz.underlying9 h5
      simp at e0 e1 e2 e3 e4 e5 e6
      subst e0 e1 e2 e3 e4 e5 e6
      have b0 := bounds_i64 w0
      have b1 := bounds_i64 w1
      have b2 := bounds_i64 w2
      have b3 := bounds_i64 w3
      have b4 := bounds_i64 w4
      have b5 := bounds_i64 w5
      exact ⟨C, D, I, M, K, U, s, rfl, ⟨⟨by omega, by omega⟩, ⟨by omega, by omega⟩, ⟨by omega, by omega⟩, ⟨by omega, by omega⟩, ⟨by omega, by omega⟩, ⟨by omega, by omega⟩⟩, w6⟩

end Go.Proofs.YtdcjffajmckleaaGreatDoor

/- Operations, one behind the other: what stands where. -/
namespace Go.Proofs.YtdcjffajmckleaaGreatDoor
open Go.RowKit Nam Cod

instance : Inhabited Mv := ⟨zeroMv⟩
def Mv.ok (m : Mv) : Prop := opB m.C m.D m.I m.M m.K m.U m.s = true
def Mv.bytes (m : Mv) : ByteArray := printOf m.C m.D m.I m.M m.K m.U m.s
/-- From the cell o of block b on an operation lies. -/
def AtOp (w : World) (b o : Nat) (m : Mv) : Prop :=
  w.cell? ⟨b, o, none⟩ = some (.int .i64 m.C) ∧ w.cell? ⟨b, o + 1, none⟩ = some (.int .i64 m.D) ∧ w.cell? ⟨b, o + 2, none⟩ = some (.int .i64 m.I) ∧ w.cell? ⟨b, o + 3, none⟩ = some (.int .i64 m.M) ∧ w.cell? ⟨b, o + 4, none⟩ = some (.int .i64 m.K) ∧ w.cell? ⟨b, o + 5, none⟩ = some (.int .i64 m.U) ∧ w.cell? ⟨b, o + 6, none⟩ = some (.string m.s)
theorem AtOp.below {W w : World} {b o : Nat} {m : Mv} (h : AtOp W b o m) (hb : Below W.heap.size W w) (hl : b < W.heap.size) : AtOp w b o m := by
  unfold AtOp at h ⊢
  rw [(bcell hb).1 _ _ hl, (bcell hb).1 _ _ hl, (bcell hb).1 _ _ hl, (bcell hb).1 _ _ hl, (bcell hb).1 _ _ hl, (bcell hb).1 _ _ hl, (bcell hb).1 _ _ hl]; exact h
end Go.Proofs.YtdcjffajmckleaaGreatDoor

/- Entries as values: which may be, their bytes, what is read of bytes, what counts come to behind them. No call in it. -/
namespace Go.Proofs.YtdcjffajmckleaaGreatDoor
open Go.RowKit Nam Cod

structure En where
  k : Int
  d : Int
  i : Int
  o : Mv
def zeroB (o : Mv) : Bool := decide (o.C = 0 ∧ o.D = 0 ∧ o.I = 0 ∧ o.M = 0 ∧ o.K = 0 ∧ o.U = 0 ∧ o.s = ⟨#[]⟩)
def okB (o : Mv) : Bool := opB o.C o.D o.I o.M o.K o.U o.s
def lifeB (d i : Int) : Bool := decide (0 ≤ d ∧ d < 12 ∧ 1 ≤ i ∧ i ≤ 1099511627776)
def entB (e : En) : Bool := if e.k = 1 then decide (e.d = 0 ∧ e.i = 0) && okB e.o else if e.k = 2 ∨ e.k = 3 then lifeB e.d e.i && zeroB e.o else false
def entBytes (e : En) : ByteArray := if e.k = 1 then bytesOf e.k ++ e.o.bytes else bytesOf e.k ++ bytesOf e.d ++ bytesOf e.i
def zeroEn : En := ⟨0, 0, 0, zeroMv⟩
/-- Entries one behind the other. -/
def ecat : List En → ByteArray
  | [] => ⟨#[]⟩
  | e :: l => entBytes e ++ ecat l
/-- Counts. -/
structure Cn where
  d : Int
  i : Int
  n : Int
deriving DecidableEq
def cntOf (e : En) : Option Cn := if e.k = 1 then some ⟨e.o.D, e.o.I, e.o.M⟩ else if e.k = 3 then some ⟨e.d, e.i, 0⟩ else none
/-- Where a device's count stands, or would stand. -/
def cutC (l : List Cn) (d : Int) : Nat := match l with
  | [] => 0
  | x :: r => if x.d < d then cutC r d + 1 else 0
theorem cutC_le : ∀ (l : List Cn) (d : Int), cutC l d ≤ l.length
  | [], _ => Nat.le_refl _
  | x :: r, d => by
    unfold cutC
    have := cutC_le r d
    split
    · rw [List.length_cons]; omega
    · omega
theorem cutC_lt : ∀ (l : List Cn) (d : Int) (j : Nat) (h : j < l.length), j < cutC l d → l[j].d < d
  | x :: r, d, j, h, hj => by
    unfold cutC at hj
    split at hj
    · cases j with
      | zero => assumption
      | succ j => exact cutC_lt r d j (by simpa using h) (by omega)
    · omega
theorem cutC_ge : ∀ (l : List Cn) (d : Int) (h : cutC l d < l.length), d ≤ l[cutC l d].d
  | x :: r, d, h => by
    by_cases e : x.d < d
    · have hc : cutC (x :: r) d = cutC r d + 1 := by
        conv => lhs; unfold cutC
        rw [if_pos e]
      rw [hc] at h
      have := cutC_ge r d (by simpa using h)
      simp only [hc, List.getElem_cons_succ]
      exact this
    · have hc : cutC (x :: r) d = 0 := by
        conv => lhs; unfold cutC
        rw [if_neg e]
      simp only [hc, List.getElem_cons_zero]
      omega
/-- How many stand there of the device: none or one. -/
def hereC (l : List Cn) (d : Int) : Nat := if h : cutC l d < l.length then (if l[cutC l d].d = d then 1 else 0) else 0
def putC (l : List Cn) (c : Cn) : List Cn := l.take (cutC l c.d) ++ c :: l.drop (cutC l c.d + hereC l c.d)
def tally (l : List Cn) (e : En) : List Cn := match cntOf e with
  | some c => putC l c
  | none => l
def RisC (l : List Cn) : Prop := l.Pairwise fun a b => a.d < b.d
theorem putC_len (l : List Cn) (c : Cn) : (putC l c).length ≤ l.length + 1 := by
  unfold putC
  have := cutC_le l c.d
  rw [List.length_append, List.length_cons, List.length_take, List.length_drop]; omega
theorem tally_len (l : List Cn) (e : En) : (tally l e).length ≤ l.length + 1 := by
  unfold tally
  cases cntOf e with
  | none => exact Nat.le_succ _
  | some c => exact putC_len l c
end Go.Proofs.YtdcjffajmckleaaGreatDoor

/- Queues of operations as values: what is pushed, acknowledged, allowed, sent, told, read. No call in it. -/
namespace Go.Proofs.YtdcjffajmckleaaGreatDoor
open Go.RowKit Nam Cod

structure Qu where
  f : Int
  g : Int
  os : List Mv
def newQu : Qu := ⟨1, 0, []⟩
def nilQu : Qu := ⟨0, 0, []⟩
def pushQ (x : Qu) (o : Mv) : Qu := ⟨x.f, x.g, x.os ++ [o]⟩
def ackQ (x : Qu) (a : Int) : Qu := if a < x.f then x else ⟨x.f + min (a - x.f + 1) x.os.length, x.g, x.os.drop (min (a - x.f + 1) x.os.length).toNat⟩
def allowQ (x : Qu) (g : Int) : Qu := ⟨x.f, max x.g g, x.os⟩
def outQ (x : Qu) (most : Int) : List Mv := x.os.take (min most (x.g - x.f + 1)).toNat
end Go.Proofs.YtdcjffajmckleaaGreatDoor

/- Reports as values: which may be, which is newer, what merging comes to, their bytes. No call in it. -/
namespace Go.Proofs.YtdcjffajmckleaaGreatDoor
open Go.RowKit Cod

structure Rp where
  d : Int
  i : Int
  b : Int
  t : Int
  m : Int
  p : Int
  c : Int
  s : Int
  k : Int
def zeroRp : Rp := ⟨0, 0, 0, 0, 0, 0, 0, 0, 0⟩
structure RpR (r : Rp) : Prop where
  d : 0 ≤ r.d ∧ r.d < 12
  m : r.m = 1 ∨ r.m = 2
  i : 1 ≤ r.i ∧ r.i ≤ 1099511627776
  b : 0 ≤ r.b ∧ r.b ≤ 1099511627776
  t : 0 ≤ r.t ∧ r.t ≤ 1099511627776
  p : 0 ≤ r.p ∧ r.p ≤ 1099511627776
  c : 0 ≤ r.c ∧ r.c ≤ 1099511627776
  s : 0 ≤ r.s ∧ r.s ≤ 1099511627776
  k : 0 ≤ r.k ∧ r.k ≤ 1099511627776
end Go.Proofs.YtdcjffajmckleaaGreatDoor

/- Reports' bytes: nine numbers, one behind the other; what is read of bytes. No call in it. -/
namespace Go.Proofs.YtdcjffajmckleaaGreatDoor
open Go.RowKit Cod
def rpL (r : Rp) : List Int := [r.d, r.i, r.b, r.t, r.m, r.p, r.c, r.s, r.k]
theorem RpR.i64 {r : Rp} (h : RpR r) : ∀ n ∈ rpL r, i64 n := fun n hn => by
  obtain ⟨h1, h2, h3, h4, h5, h6, h7, h8, h9⟩ := h
  unfold rpL at hn
  simp only [List.mem_cons, List.not_mem_nil, or_false] at hn
  unfold Go.Proofs.YtdcjffajmckleaaGreatDoor.i64
  rcases hn with rfl | rfl | rfl | rfl | rfl | rfl | rfl | rfl | rfl <;> omega
end Go.Proofs.YtdcjffajmckleaaGreatDoor

/- Lists of things that have bytes, whatever the things: their bytes, what is read of bytes, step by step. No call in it. -/
namespace Go.Proofs.YtdcjffajmckleaaGreatDoor
open Go.RowKit Cod

/-- A kind of things: which may be, their bytes, what is read of bytes. -/
structure Kd (α : Type) where
  ok : α → Bool
  b : α → ByteArray
  is : ByteArray → Nat → Bool → Option (α × Nat)
  there : ∀ (A Z : ByteArray) (x : α), ok x = true → is (A ++ (b x ++ Z)) A.size false = some (x, A.size + (b x).size)
  back : ∀ {s : ByteArray} {p : Nat} {bad : Bool} {x : α} {q : Nat}, is s p bad = some (x, q) → ok x = true ∧ (L s).drop p = L (b x) ++ (L s).drop q
namespace Kd
variable {α : Type} (K : Kd α)
def isL (s : ByteArray) : Nat → Nat → Option (List α × Nat)
  | 0, p => some ([], p)
  | n + 1, p => (K.is s p false).bind fun a => (isL s n a.2).bind fun b => some (a.1 :: b.1, b.2)
theorem isL_next (s : ByteArray) : ∀ (k p : Nat), K.isL s (k + 1) p = (K.isL s k p).bind fun a => (K.is s a.2 false).bind fun e => some (a.1 ++ [e.1], e.2)
  | 0, p => by
    rw [isL, isL, Option.bind_some]
    cases K.is s p false with
    | none => rfl
    | some a => rfl
  | k + 1, p => by
    rw [isL]
    cases h : K.is s p false with
    | none => rw [isL, h]; rfl
    | some a =>
      rw [Option.bind_some, isL_next s k a.2, isL, h, Option.bind_some]
      cases K.isL s k a.2 with
      | none => rfl
      | some b =>
        simp only [Option.bind_some]
        cases K.is s b.2 false with
        | none => rfl
        | some c => rfl
theorem isL_none (s : ByteArray) (p k : Nat) (h : K.isL s k p = none) : ∀ d, K.isL s (k + d) p = none
  | 0 => h
  | d + 1 => by rw [← Nat.add_assoc, isL_next, isL_none s p k h d]; rfl
def isPart (most : Int) (s : ByteArray) (p : Nat) (bad : Bool) : Option (List α × Nat) := (isCount s p bad most).bind fun c => K.isL s c.1.toNat c.2
end Kd
def cStepF (most : Int) (s : ByteArray) (p : Nat) (bad : Bool) (v : Nat) (q : Nat) (bad' : Bool) : Prop := (isCount s p bad most = some ((v : Int), q) ∧ bad' = false) ∨ (isCount s p bad most = none ∧ v = 0 ∧ bad' = true)
/-- A list that is read: there, or it went wrong. -/
def pStep {α : Type} (K : Kd α) (most : Int) (s : ByteArray) (p : Nat) (bad : Bool) (l : List α) (q : Nat) (bd : Bool) : Prop := (K.isPart most s p bad = some (l, q) ∧ bd = false) ∨ (K.isPart most s p bad = none ∧ bd = true)
/-- Behind some of n. -/
def pAt {α : Type} (K : Kd α) (most : Int) (s : ByteArray) (p : Nat) (bad : Bool) (n : Nat) (l : List α) (q : Nat) (bd : Bool) : Prop := (bd = false ∧ ∃ qc, isCount s p bad most = some ((n : Int), qc) ∧ K.isL s l.length qc = some (l, q)) ∨ (bd = true ∧ K.isPart most s p bad = none)
section
variable {α : Type} {K : Kd α} {most : Int} {s : ByteArray} {p : Nat} {bad : Bool} {n : Nat} {l : List α} {q : Nat} {bd : Bool}
theorem pAt.start (h : cStepF most s p bad n q bd) : pAt K most s p bad n [] q bd := by
  rcases h with ⟨h, rfl⟩ | ⟨h, _, rfl⟩
  · exact Or.inl ⟨rfl, q, h, rfl⟩
  · refine Or.inr ⟨rfl, ?_⟩
    unfold Kd.isPart; rw [h]; rfl
theorem pAt.next {x : α} {q' : Nat} {b' : Bool} (h : pAt K most s p bad n l q false) (hj : l.length < n) (hx : (K.is s q false = some (x, q') ∧ b' = false) ∨ (K.is s q false = none ∧ b' = true)) : pAt K most s p bad n (l ++ [x]) q' b' := by
  rcases h with ⟨_, qc, h1, h2⟩ | ⟨h, _⟩
  · rcases hx with ⟨hx, rfl⟩ | ⟨hx, rfl⟩
    · refine Or.inl ⟨rfl, qc, h1, ?_⟩
      rw [List.length_append, List.length_singleton, K.isL_next, h2, Option.bind_some, hx, Option.bind_some]
    · refine Or.inr ⟨rfl, ?_⟩
      have h4 : K.isL s (l.length + 1) qc = none := by rw [K.isL_next, h2, Option.bind_some, hx]; rfl
      have h5 := K.isL_none s qc (l.length + 1) h4 (n - (l.length + 1))
      rw [show l.length + 1 + (n - (l.length + 1)) = n by omega] at h5
      unfold Kd.isPart
      rw [h1, Option.bind_some]
      exact h5
  · cases h
theorem pAt.good (h : pAt K most s p bad n l q false) (hj : ¬ l.length < n) (hl : l.length ≤ n) : pStep K most s p bad l q false := by
  rcases h with ⟨_, qc, h1, h2⟩ | ⟨h, _⟩
  · obtain rfl : l.length = n := by omega
    refine Or.inl ⟨?_, rfl⟩
    unfold Kd.isPart
    rw [h1, Option.bind_some]
    exact h2
  · cases h
end
end Go.Proofs.YtdcjffajmckleaaGreatDoor

/- The plain mathematics of the sum: one step of a bit is linear and loses nothing; four steps are one look into the table; four bytes side by side that turn, turn the sum. -/
namespace Go.Proofs.YtdcjffajmckleaaGreatDoor.Crc

def P : BitVec 32 := 0xedb88320#32
/-- One step of a bit. -/
def T (x : BitVec 32) : BitVec 32 := if x.getLsbD 0 then (x >>> 1) ^^^ P else x >>> 1
/-- n steps. -/
def Tn : Nat → BitVec 32 → BitVec 32
  | 0, x => x
  | n + 1, x => Tn n (T x)

/-- One byte more. -/
def up (n : BitVec 32) (b : UInt8) : BitVec 32 := Tn 8 (n ^^^ BitVec.ofNat 32 b.toNat)
def run (n : BitVec 32) (l : List UInt8) : BitVec 32 := l.foldl up n
/-- Masks as one number, the first the lowest. -/
def val : List UInt8 → Nat
  | [] => 0
  | m :: l => m.toNat + 256 * val l

end Go.Proofs.YtdcjffajmckleaaGreatDoor.Crc

/- What Sum gives. -/
namespace Go.Proofs.YtdcjffajmckleaaGreatDoor.Crk
open Go.RowKit Crc
/-- The state behind k bytes. -/
def st (s : ByteArray) (k : Nat) : BitVec 32 := run (BitVec.allOnes 32) (s.data.toList.take k)
end Go.Proofs.YtdcjffajmckleaaGreatDoor.Crk

/- number and Four, of both. -/
namespace Go.Proofs.YtdcjffajmckleaaGreatDoor.Crk
open Go.RowKit Crc

/-- The number of four bytes, the lowest first. -/
def num (s : ByteArray) : Nat := (s.data.toList.getD 0 0).toNat + 256 * (s.data.toList.getD 1 0).toNat + 65536 * (s.data.toList.getD 2 0).toNat + 16777216 * (s.data.toList.getD 3 0).toNat
end Go.Proofs.YtdcjffajmckleaaGreatDoor.Crk

/- Seal and Open, of both. -/
namespace Go.Proofs.YtdcjffajmckleaaGreatDoor.Crk
open Go.RowKit Crc

/-- What was there reads as it did. -/
theorem bcell {W w1 : World} (hb : Below W.heap.size W w1) : (∀ b o, b < W.heap.size → w1.cell? ⟨b, o, none⟩ = W.cell? ⟨b, o, none⟩) ∧ (∀ b o, b < W.heap.size → w1.frozen? ⟨b, o, none⟩ = W.frozen? ⟨b, o, none⟩) :=
  ⟨fun b o h => hb.cell (p := ⟨b, o, none⟩) h, fun b o h => hb.frozen (p := ⟨b, o, none⟩) h⟩
theorem below_then {w w1 w2 : World} (h : Below w.heap.size w w1) (k : Below w1.heap.size w1 w2) : Below w.heap.size w w2 := h.trans (k.mono h.size)
theorem below_alloc {w w1 : World} (h : Below w.heap.size w w1) (o : Obj) : Below w.heap.size w (w1.alloc o) := h.alloc h.size o
end Go.Proofs.YtdcjffajmckleaaGreatDoor.Crk

/- What a Seal is, as lists of bytes: it is opened, whatever stands behind; what is opened was sealed just so; what is cut isn't open. -/
namespace Go.Proofs.YtdcjffajmckleaaGreatDoor.Crk
open Go.RowKit Crc

abbrev L (s : ByteArray) : List UInt8 := s.data.toList
theorem L_inj {a b : ByteArray} (h : L a = L b) : a = b := by
  apply ByteArray.ext
  exact Array.toList_inj.1 h
theorem L_len (s : ByteArray) : (L s).length = s.size := Array.length_toList
theorem L_app (a b : ByteArray) : L (a ++ b) = L a ++ L b := by simp [L, ByteArray.data_append]
end Go.Proofs.YtdcjffajmckleaaGreatDoor.Crk

/- Lists of things that have bytes, whatever the things: their bytes, what is read of bytes. Gifts and frames as values. No call in it. -/
namespace Go.Proofs.YtdcjffajmckleaaGreatDoor
open Go.RowKit Nam Cod

structure Gf where
  d : Int
  i : Int
  c : Int
  t : Int
  s : ByteArray
structure Fr where
  a : Int
  b : Int
  boot : Int
  first : Int
  pos : Int
  start : Int
  ack : Int
  grant : Int
  s : Int
  t : Int
  os : List Mv
  rs : List Rp
  es : List En
  gs : List Gf
def zeroFr : Fr := ⟨0, 0, 0, 0, 0, 0, 0, 0, 0, 0, [], [], [], []⟩
def frL (f : Fr) : List Int := [f.a, f.b, f.boot, f.first, f.pos, f.start, f.ack, f.grant, f.s, f.t]
end Go.Proofs.YtdcjffajmckleaaGreatDoor

/- Rows and slices of structs, whatever the struct: what lies where, what is cut out, what append makes. No function of the program in it. -/
namespace Go.Proofs.YtdcjffajmckleaaGreatDoor
open Go.RowKit

/-- A kind of element: its type, how many cells it has, and which. -/
structure El (α : Type) where
  e : TypeId
  k : Nat
  c : α → List Value
  len : ∀ x, (c x).length = k
  one : ∀ x, ∀ u ∈ c x, u.oneCell' = true
  pos : 0 < k
section
variable {α : Type} (E : El α)
/-- From the cell o of block b on x lies. -/
def El.At (w : World) (b o : Nat) (x : α) : Prop := ∀ j u, (E.c x)[j]? = some u → w.cell? ⟨b, o + j, none⟩ = some u
/-- The slice at A holds these. -/
def El.Sl (w : World) (A : Option Addr) (l : List α) : Prop :=
  0 < l.length → ∃ b off, A = some ⟨b, off, none⟩ ∧ b < w.heap.size ∧ ∀ i (h : i < l.length), E.At w b (off + i * E.k) l[i]
/-- So, in a block ahead of B. -/
def El.SlB (B : Nat) (w : World) (A : Option Addr) (l : List α) : Prop :=
  0 < l.length → ∃ b off, A = some ⟨b, off, none⟩ ∧ b < B ∧ ∀ i (h : i < l.length), E.At w b (off + i * E.k) l[i]
/-- Block b is x's own. -/
def El.In (w : World) (b : Nat) (x : α) : Prop := w.heap[b]? = some (.cells (E.c x).toArray E.e (0, 0))
variable {E}
section
variable {W w w' : World} {b o B : Nat} {x : α} {A : Option Addr} {l : List α} {row : Option Nat}
theorem El.At.below (h : E.At W b o x) (hb : Below W.heap.size W w) (hl : b < W.heap.size) : E.At w b o x := fun j u hu => by rw [(bcell hb).1 _ _ hl]; exact h j u hu
theorem El.At.grown (h : E.At w b o x) (hg : w.grownBy w' row) (hne : some b ≠ row) : E.At w' b o x := fun j u hu => hg.cell (h j u hu) hne
theorem El.Sl.below (h : E.Sl W A l) (hb : Below W.heap.size W w) : E.Sl w A l := fun h0 => by
  obtain ⟨b, off, e, hl, hc⟩ := h h0
  exact ⟨b, off, e, Nat.lt_of_lt_of_le hl hb.size, fun i hi => (hc i hi).below hb hl⟩
theorem El.Sl.nil (w : World) (A : Option Addr) : E.Sl w A [] := fun h => by simp at h
theorem El.Sl.none_nil (h : E.Sl w none l) : l = [] := by
  rcases Nat.eq_zero_or_pos l.length with h0 | h0
  · exact List.eq_nil_of_length_eq_zero h0
  · obtain ⟨_, _, e, _⟩ := h h0; cases e
theorem El.Sl.take (h : E.Sl w A l) (n : Nat) : E.Sl w A (l.take n) := fun h0 => by
  have hk : (l.take n).length ≤ l.length := by rw [List.length_take]; omega
  obtain ⟨b, off, e, hb, hc⟩ := h (by omega)
  exact ⟨b, off, e, hb, fun i hi => by rw [List.getElem_take]; exact hc i (by omega)⟩
theorem El.Sl.drop {A3 : Option Addr} {cap tz : Nat} (h : E.Sl w A l) (hcap : l.length ≤ cap) (he : (if cap = tz then A else Option.map (fun x => x.add (tz * E.k)) A) = A3) : E.Sl w A3 (l.drop tz) := fun h0 => by
  rw [List.length_drop] at h0
  obtain ⟨b, off, e, hb, hc⟩ := h (by omega)
  rw [if_neg (by omega), e] at he
  refine ⟨b, off + tz * E.k, by rw [← he]; simp [Addr.add_lit], hb, fun i hi => ?_⟩
  rw [List.length_drop] at hi
  rw [List.getElem_drop, Nat.add_assoc, ← Nat.add_mul]
  exact hc _ (by omega)
theorem El.drop_none {A3 : Option Addr} {cap tz n : Nat} (hn : A = none → cap = 0) (he : (if cap = tz then A else Option.map (fun x => x.add n) A) = A3) (h : A3 = none) : cap - tz = 0 := by
  by_cases e : cap = tz
  · omega
  · rw [if_neg e, h, Option.map_eq_none_iff] at he
    have := hn he; omega
theorem El.SlB.of (h : E.Sl w A l) (hB : w.heap.size ≤ B) : E.SlB B w A l := fun h0 => by
  obtain ⟨b, off, e, hl, hc⟩ := h h0
  exact ⟨b, off, e, by omega, hc⟩
theorem El.SlB.sl (h : E.SlB B w A l) (hB : B ≤ w.heap.size) : E.Sl w A l := fun h0 => by
  obtain ⟨b, off, e, hl, hc⟩ := h h0
  exact ⟨b, off, e, by omega, hc⟩
theorem El.SlB.keep (h : E.SlB B w A l) (hg : w.grownBy w' row) (hrow : ∀ n, row = some n → B ≤ n) : E.SlB B w' A l := fun h0 => by
  obtain ⟨b, off, e, hl, hc⟩ := h h0
  exact ⟨b, off, e, hl, fun i hi => (hc i hi).grown hg (fun e => by have := hrow b e.symm; omega)⟩
theorem El.Sl.keep1 {a : Addr} (h : E.Sl w (some a) l) (hg : w.grownBy w' row) (hne : some a.block ≠ row) : E.Sl w' (some a) l := fun h0 => by
  obtain ⟨b, off, e, hl, hc⟩ := h h0
  cases e
  exact ⟨b, off, rfl, Nat.lt_of_lt_of_le hl hg.size, fun i hi => (hc i hi).grown hg hne⟩
theorem El.Sl.keep (h : E.Sl w A l) (hg : w.grownBy w' row) (hne : ∀ a, A = some a → some a.block ≠ row) : E.Sl w' A l := fun h0 => by
  obtain ⟨b, off, e, hl, hc⟩ := h h0
  exact ⟨b, off, e, Nat.lt_of_lt_of_le hl hg.size, fun i hi => (hc i hi).grown hg (hne _ e)⟩

theorem El.In.lt (h : E.In w b x) : b < w.heap.size := by
  rcases Nat.lt_or_ge b w.heap.size with hlt | hge
  · exact hlt
  · unfold El.In at h; rw [Array.getElem?_eq_none hge] at h; cases h
theorem El.In.cell (h : E.In w b x) (j : Nat) : w.cell? ⟨b, j, none⟩ = (E.c x)[j]? := by
  have := cell_of_row w b j _ E.e (0, 0) h
  rw [this]; simp
theorem El.In.at (h : E.In w b x) : E.At w b 0 x := fun j u hu => by rw [Nat.zero_add, h.cell]; exact hu
theorem El.In.frozen (h : E.In w b x) (i : Nat) : w.frozen? ⟨b, i, none⟩ = false := by
  unfold El.In at h
  simp [World.frozen?, h]
theorem El.In.new (w : World) (x : α) (cs : Array Value) (hc : cs = (E.c x).toArray) : E.In (w.alloc (.cells cs E.e)) w.heap.size x := by subst hc; exact heap_alloc_new w _
theorem El.In.below (h : E.In w b x) (hg : Below w.heap.size w w') : E.In w' b x := (hg.block b h.lt).trans h
theorem El.In.keep (h : E.In w b x) (hg : w.grownBy w' row) (hne : some b ≠ row) : E.In w' b x := (hg.block b h.lt hne).trans h
theorem El.In.alloc (h : E.In w b x) (o : Obj) : E.In (w.alloc o) b x := h.below (below_alloc (Below.refl _ _) o)
theorem El.In.set (h : E.In w b x) (y : α) (cs : Array Value) (hc : cs = (E.c y).toArray) : E.In (w.setRow b cs) b y := by subst hc; exact setRow_heap _ _ _ _ _ _ h
theorem El.In.put (h : E.In w b x) (y : α) (j : Nat) (u : Value) (hy : E.c y = (E.c x).set j u) : E.In (w.setCell ⟨b, j, none⟩ u) b y := by
  unfold El.In at h ⊢
  rw [hy]
  simp [World.setCell, Array.getElem?_modify, h]
theorem El.In.other (h : E.In w b x) (n i : Nat) (v : Value) (hne : b ≠ n) : E.In (w.setCell ⟨n, i, none⟩ v) b x :=
  (Below.heap_setCell w ⟨n, i, none⟩ v b hne).trans h
theorem El.In.rowN (h : E.In w b x) (n : Nat) (cs : Array Value) (hne : b ≠ n) : E.In (w.setRow n cs) b x := (setRow_other w n b cs hne).trans h
theorem El.In.sl (h : E.In w b x) : E.Sl w (some ⟨b, 0, none⟩) [x] := fun _ =>
  ⟨b, 0, rfl, h.lt, fun i hi => by
    obtain rfl : i = 0 := by simpa using hi
    rw [Nat.zero_mul]; exact h.at⟩
end

variable (E)
/-- The cells of a list. -/
def El.cells : List α → List Value
  | [] => []
  | x :: l => E.c x ++ El.cells l
variable {E}
theorem El.cells_len : ∀ l : List α, (E.cells l).length = l.length * E.k
  | [] => by simp [El.cells]
  | x :: l => by rw [El.cells, List.length_append, E.len, El.cells_len l, List.length_cons, Nat.succ_mul, Nat.add_comm]
theorem El.cells_app : ∀ l r : List α, E.cells (l ++ r) = E.cells l ++ E.cells r
  | [], r => rfl
  | x :: l, r => by rw [List.cons_append, El.cells, El.cells, El.cells_app l r, List.append_assoc]
theorem El.cells_one : ∀ l : List α, ∀ u ∈ E.cells l, u.oneCell' = true
  | [], u, h => by cases h
  | x :: l, u, h => by
    rcases List.mem_append.1 h with h | h
    · exact E.one x u h
    · exact El.cells_one l u h
theorem El.cells_at : ∀ (l : List α) (i : Nat) (h : i < l.length) (j : Nat) (u : Value), (E.c l[i])[j]? = some u → (E.cells l)[i * E.k + j]? = some u
  | x :: l, 0, _, j, u, hu => by
    rw [Nat.zero_mul, Nat.zero_add, El.cells, List.getElem?_append_left]
    · exact hu
    · have := (List.getElem?_eq_some_iff.1 hu).1; exact this
  | x :: l, i + 1, h, j, u, hu => by
    have := El.cells_at l i (by simpa using h) j u hu
    rw [El.cells, List.getElem?_append_right (by rw [E.len, Nat.succ_mul]; omega), E.len, Nat.succ_mul]
    rw [show i * E.k + E.k + j - E.k = i * E.k + j by omega]; exact this
theorem El.cells_get : ∀ (l : List α) (n : Nat) (u : Value), (E.cells l)[n]? = some u → ∃ i, ∃ h : i < l.length, ∃ j, n = i * E.k + j ∧ (E.c l[i])[j]? = some u
  | [], n, u, h => by simp [El.cells] at h
  | x :: l, n, u, h => by
    rw [El.cells] at h
    by_cases hn : n < E.k
    · rw [List.getElem?_append_left (by rw [E.len]; exact hn)] at h
      exact ⟨0, by simp, n, by rw [Nat.zero_mul, Nat.zero_add], h⟩
    · rw [List.getElem?_append_right (by rw [E.len]; omega), E.len] at h
      obtain ⟨i, hi, j, e, hu⟩ := El.cells_get l (n - E.k) u h
      exact ⟨i + 1, by simpa using hi, j, by rw [Nat.succ_mul]; omega, hu⟩
theorem El.Sl.cells {w : World} {a : Addr} {l : List α} (h : E.Sl w (some a) l) : ∀ j u, (E.cells l)[j]? = some u → w.cell? (a.add j) = some u := by
  intro n u hu
  obtain ⟨i, hi, j, rfl, hc⟩ := El.cells_get l n u hu
  obtain ⟨b, off, e, _, hat⟩ := h (by omega)
  obtain rfl := Option.some.inj e
  rw [Addr.add_lit, ← Nat.add_assoc]
  exact hat i hi j u hc

variable (E)
/-- The slice v holds these, in a row that the call has made. -/
def El.Own (w : World) (B : Nat) (v : Value) (l : List α) : Prop := w.ownsRow B E.e E.k v l.length (E.cells l)
variable {E}
section
variable {w w' : World} {B : Nat} {v : Value} {l : List α} {row : Option Nat}
theorem El.Own.nil (w : World) (B : Nat) : E.Own w B (.slice none 0 0) [] := World.ownsRow_nil w B E.e E.k
theorem El.Own.kept (h : E.Own w B v l) (hg : w.grownBy w' row) (hne : v.ownBlock = none ∨ v.ownBlock ≠ row) : E.Own w' B v l := World.ownsRow.kept h hg hne
theorem El.Own.below (h : E.Own w B v l) (hb : Below w.heap.size w w') : E.Own w' B v l :=
  World.ownsRow.kept h (row := none) ⟨hb.os, hb.tape, hb.output, hb.size, fun k hk _ => hb.block k hk⟩ (by cases hv : v.ownBlock <;> simp)
theorem El.Own.lt (h : E.Own w B v l) : ∀ n, v.ownBlock = some n → B ≤ n ∧ n < w.heap.size := World.ownsRow.lt h
theorem El.Own.rows (h : E.Own w B v l) : ∀ n, v.ownBlock = some n → B ≤ n := fun n e => (World.ownsRow.lt h n e).1
theorem El.Own.sl (h : E.Own w B v l) : ∃ A cap, v = .slice A l.length cap ∧ E.Sl w A l ∧ (A = none → cap = 0) ∧ l.length ≤ cap := by
  have hc := fun g (hg : v.ownBlock = some g) => World.ownsRow.cells h hg
  have hlt := World.ownsRow.lt h
  unfold El.Own at h
  rcases h.2 with ⟨rfl, h0⟩ | ⟨g, cap, cur, rfl, _, _, hnc, _⟩
  · have : l = [] := List.eq_nil_of_length_eq_zero h0
    subst this
    exact ⟨none, 0, rfl, El.Sl.nil w none, fun _ => rfl, Nat.le_refl _⟩
  · refine ⟨some ⟨g, 0, none⟩, cap, rfl, fun _ => ⟨g, 0, rfl, (hlt g rfl).2, fun i hi j u hu => ?_⟩, (fun e => by cases e), hnc⟩
    have := hc g rfl _ _ (El.cells_at l i hi j u hu)
    rw [Addr.add_lit, ← Nat.add_assoc] at this; exact this
theorem El.Own.empty (w : World) (B : Nat) (hB : B ≤ w.heap.size) : E.Own (w.alloc (.cells #[] E.e)) B (.slice (some ⟨w.heap.size, 0, none⟩) 0 0) [] :=
  World.ownsRow_made w #[] 0 hB (by unfold maxLen; omega) (Nat.zero_mul _).symm
end

/-- What a program says of the kind: its slices' type, and the type's zero. -/
structure El.Inn (E : El α) (P : Program) (st : TypeId) : Prop where
  und : P.underlying st = some (.slice E.e)
  info : ∃ i z, P.info? E.e = some i ∧ i.zero = some z ∧ i.size = E.k ∧ i.bytes ≤ 1000 ∧ z.cells.size = E.k
theorem El.inn_of {P : Program} {st : TypeId} {z : Value} {bytes : Nat} (hu : P.underlying st = some (.slice E.e)) (h : (P.info? E.e).map (fun i => (i.zero, i.size, i.bytes)) = some (some z, E.k, bytes)) (hz : z.cells.size = E.k) (hb : bytes ≤ 1000) : E.Inn P st := by
  obtain ⟨i, hi, hz0, hz1, hz2⟩ := info_parts h
  exact ⟨hu, i, z, hi, hz0, hz1, by rw [hz2]; exact hb, hz⟩
variable {P : Program} {st : TypeId}
theorem El.run_app (I : E.Inn P st) (w : World) (ty : TypeId) (B : Nat) (v : Value) (l r : List α) (hown : E.Own w B v l) (A : Option Addr) (m c : Nat) (hm : r.length = m) (hT : E.Sl w A r) (hc : A = none → c = 0) (hl : l.length + r.length ≤ 100000) (hB : B ≤ w.heap.size) :
    ∃ v' w', (Builtin.append_ #[st, st] ty #[v, .slice A m c]).run P w = .ok v' w' ∧ E.Own w' B v' (l ++ r) ∧ w.grownBy w' v.ownBlock ∧ (v'.ownBlock = v.ownBlock ∨ v'.ownBlock = some w.heap.size) := by
  subst hm
  obtain ⟨hu, i, z, hi, hz, hsz, hby, hzs⟩ := I
  cases A with
  | none =>
    obtain rfl := hT.none_nil
    obtain rfl := hc rfl
    refine ⟨v, w, run_append_owned_none (P := P) (w := w) B st ty E.e i E.k hu hi v l.length (E.cells l) hown, ?_, ⟨rfl, rfl, rfl, Nat.le_refl _, fun _ _ _ => rfl⟩, Or.inl rfl⟩
    rw [List.append_nil]; exact hown
  | some a =>
    have hb : (l.length + r.length) * i.bytes ≤ 100000 * 1000 := Nat.mul_le_mul hl hby
    obtain ⟨v', w', h1, h2, h3, _, h5⟩ := run_append_own_at (P := P) w B st ty E.e i z E.k i.bytes hu hi hz hsz rfl hzs E.pos v l.length (E.cells l) hown a r.length c (E.cells r) (El.cells_len r) hT.cells (El.cells_one r) (by unfold maxLen; omega) (by omega) hB
    refine ⟨v', w', h1, ?_, h3, h5⟩
    unfold El.Own
    rw [List.length_append, El.cells_app]; exact h2
theorem El.wp_app (I : E.Inn P st) {o : Oper} {a : Act} {w : World} {K : Act → World → Prop} {Q : Exit → Act → World → Prop} (s x : Operand)
    (ho : o.op = .call { callee := .builtin .append, args := #[s, x], argTypes := #[st, st] }) (B : Nat) (v : Value) (l r : List α) (hs : a.eval s = v) (hown : E.Own w B v l) (A : Option Addr) (m c : Nat) (hx : a.eval x = .slice A m c)
    (hm : r.length = m) (hT : E.Sl w A r) (hc : A = none → c = 0) (hl : l.length + r.length ≤ 100000) (hB : B ≤ w.heap.size)
    (h : ∀ v' w', E.Own w' B v' (l ++ r) → w.grownBy w' v.ownBlock → (v'.ownBlock = v.ownBlock ∨ v'.ownBlock = some w.heap.size) → K (a.put o.dst v') w') : o.wp P a w K Q := by
  obtain ⟨v', w', hr, h2, h3, h4⟩ := El.run_app I w o.type B v l r hown A m c hm hT hc hl hB
  unfold Oper.wp execOp
  simp only [ho, resolve, invoke, builtin, Sem.run_bind, Sem.run_pure, Result.andThen_ok, List.map_toArray, List.map_cons, List.map_nil, hs, hx, hr]
  exact h v' w' h2 h3 h4
theorem El.wpList_app (I : E.Inn P st) {ops : Array Oper} {rest : List Oper} {o : Oper} {a : Act} {w : World} {Q : Exit → Act → World → Prop} (hgd : o.guard = none) (s x : Operand)
    (ho : o.op = .call { callee := .builtin .append, args := #[s, x], argTypes := #[st, st] }) (B : Nat) (v : Value) (l r : List α) (hs : a.eval s = v) (hown : E.Own w B v l) (A : Option Addr) (m c : Nat) (hx : a.eval x = .slice A m c)
    (hm : r.length = m) (hT : E.Sl w A r) (hc : A = none → c = 0) (hl : l.length + r.length ≤ 100000) (hB : B ≤ w.heap.size)
    (h : ∀ v' w', E.Own w' B v' (l ++ r) → w.grownBy w' v.ownBlock → (v'.ownBlock = v.ownBlock ∨ v'.ownBlock = some w.heap.size) → wpList P ops Q rest (a.put o.dst v') w') : wpList P ops Q (o :: rest) a w :=
  wpList_plain hgd fun _ hK => El.wp_app I s x ho B v l r hs hown A m c hx hm hT hc hl hB fun v' w' h2 h3 h4 => hK _ _ (h v' w' h2 h3 h4)
theorem El.step_app (I : E.Inn P st) {ops : Array Oper} {o : Oper} {a : Act} {w : World} {K : Act → World → Prop} {Q : Exit → Act → World → Prop} {F : Prop} (hgd : o.guard = none) (s x : Operand)
    (ho : o.op = .call { callee := .builtin .append, args := #[s, x], argTypes := #[st, st] }) (B : Nat) (v : Value) (l r : List α) (hs : a.eval s = v) (hown : E.Own w B v l) (A : Option Addr) (m c : Nat) (hx : a.eval x = .slice A m c)
    (hm : r.length = m) (hT : E.Sl w A r) (hc : A = none → c = 0) (hl : l.length + r.length ≤ 100000) (hB : B ≤ w.heap.size)
    (h : ∀ v' w', E.Own w' B v' (l ++ r) → w.grownBy w' v.ownBlock → (v'.ownBlock = v.ownBlock ∨ v'.ownBlock = some w.heap.size) → K (a.put o.dst v') w') :
    if Region.wanted o (yielded ops a.tmps) = true then Oper.wp P o a w K Q else F := by
  rw [if_pos (by simp [Region.wanted, hgd])]
  exact El.wp_app I s x ho B v l r hs hown A m c hx hm hT hc hl hB h

/-- What a program says of the kind as a struct. -/
def isRow : TypeDesc → Bool
  | .struct _ => true
  | .array _ _ => true
  | _ => false
structure El.Row (E : El α) (P : Program) : Prop where
  size : (P.info? E.e).map (·.size) = some E.k
  desc : ∃ d, P.underlying E.e = some d ∧ isRow d = true
theorem El.run_load (R : El.Row E P) {w : World} {b off : Nat} {x : α} (h : E.At w b off x) : (loadVar E.e ⟨b, off, none⟩).run P w = .ok (.agg (E.c x).toArray) w := by
  obtain ⟨d, hu, hd⟩ := R.desc
  have hs0 := R.size
  have hl : (loadCells ⟨b, off, none⟩ (E.c x).length).run P w = .ok (E.c x).toArray w :=
    run_loadCells_list (P := P) w ⟨b, off, none⟩ (E.c x) (fun j v hv => by rw [Addr.add_lit]; exact h j v hv)
  cases hq : P.info? E.e with
  | none => simp [hq] at hs0
  | some i =>
    have hs : i.size = (E.c x).length := by rw [E.len]; simpa [hq] using hs0
    have hagg : (isAgg E.e).run P w = .ok true w := by
      unfold isAgg
      rw [Sem.run_bind, run_underlying hu w]
      cases d <;> simp_all [isRow]
    simp [loadVar, Sem.run_bind, hagg, sizeOf, typeInfo, hq, hs, hl]
theorem El.wp_load (R : El.Row E P) {o : Oper} {a : Act} {w : World} {K : Act → World → Prop} {Q : Exit → Act → World → Prop} (x : Operand) (ho : o.op = .load E.e x)
    (b off : Nat) (hx : a.eval x = .pointer (some ⟨b, off, none⟩)) (p : α) (hg : E.At w b off p) (cs : Array Value) (hc : cs = (E.c p).toArray)
    (h : K (a.put o.dst (.agg cs)) w) : o.wp P a w K Q := by
  subst hc
  unfold Oper.wp execOp
  simp only [ho, hx, Instr.loadAt, Instr.sureAddr, Sem.run_bind, Sem.run_pure, Result.andThen_ok, El.run_load R hg]
  exact h
theorem El.load (R : El.Row E P) {ops : Array Oper} {rest : List Oper} {o : Oper} {a : Act} {w : World} {Q : Exit → Act → World → Prop} (hgd : o.guard = none) (x : Operand) (ho : o.op = .load E.e x)
    (b off : Nat) (hx : a.eval x = .pointer (some ⟨b, off, none⟩)) (p : α) (hg : E.At w b off p) (cs : Array Value) (hc : cs = (E.c p).toArray)
    (h : wpList P ops Q rest (a.put o.dst (.agg cs)) w) : wpList P ops Q (o :: rest) a w :=
  wpList_plain hgd fun _ hK => El.wp_load R x ho b off hx p hg cs hc (hK _ _ h)
theorem El.store (R : El.Row E P) {ops : Array Oper} {rest : List Oper} {o : Oper} {a : Act} {w : World} {Q : Exit → Act → World → Prop} (hgd : o.guard = none) (x y : Operand) (ho : o.op = .store E.e x y)
    (b : Nat) (q : α) (cs : Array Value) (hc : cs = (E.c q).toArray) (hx : a.eval x = .pointer (some ⟨b, 0, none⟩)) (hy : a.eval y = .agg cs)
    (p : α) (hg : E.In w b p)
    (h : wpList P ops Q rest (a.put o.dst undef) (w.setRow b cs)) : wpList P ops Q (o :: rest) a w := by
  subst hc
  exact wpList_store_row hgd E.e x y ho b _ hx hy E.e _ hg (by simpa [E.len] using R.size) (by simp [E.len]) (by simpa using E.one q) h
theorem El.step_store (R : El.Row E P) {ops : Array Oper} {o : Oper} {a : Act} {w : World} {K : Act → World → Prop} {Q : Exit → Act → World → Prop} {F : Prop} (hgd : o.guard = none) (x y : Operand) (ho : o.op = .store E.e x y)
    (b : Nat) (q : α) (cs : Array Value) (hc : cs = (E.c q).toArray) (hx : a.eval x = .pointer (some ⟨b, 0, none⟩)) (hy : a.eval y = .agg cs)
    (p : α) (hg : E.In w b p)
    (h : K (a.put o.dst undef) (w.setRow b cs)) : if Region.wanted o (yielded ops a.tmps) = true then Oper.wp P o a w K Q else F := by
  rw [if_pos (by simp [Region.wanted, hgd])]
  subst hc
  exact wp_store_row E.e x y ho b _ hx hy E.e _ hg (by simpa [E.len] using R.size) (by simp [E.len]) (by simpa using E.one q) h
/-- One result, a struct of a block. -/
theorem El.ret1 (R : El.Row E P) {fn : Func} {K : Ending → World → Prop} {a : Act} {w : World} {b : Nat} {t : Tmp} {p : α} (h : E.In w b p) (hr : fn.results = #[.cell t E.e]) (hp : a.tmps.getD t undef = .pointer (some ⟨b, 0, none⟩)) (hd : a.defers = [])
    (cs : Array Value) (hc : cs = (E.c p).toArray) (hR : K (.returned (.agg cs)) w) : bodyPost P fn K .ret a w := by
  subst hc
  have hp' : a.tmps[t]?.getD undef = .pointer (some ⟨b, 0, none⟩) := by simpa using hp
  refine bodyPost_ret (v := .agg (E.c p).toArray) ?_ hd hR
  simp [results, hr, hp', asAddr, El.run_load R h.at]
/-- Two results, a struct of a block and a word. -/
theorem El.ret2 (R : El.Row E P) {fn : Func} {K : Ending → World → Prop} {a : Act} {w : World} {b : Nat} {t u : Tmp} {v : Value} {p : α} (h : E.In w b p) (hr : fn.results = #[.cell t E.e, .tmp u]) (hp : a.tmps.getD t undef = .pointer (some ⟨b, 0, none⟩)) (hv : a.tmps.getD u undef = v) (hd : a.defers = [])
    (cs : Array Value) (hc : cs = (E.c p).toArray) (hR : K (.returned (.tuple #[.agg cs, v])) w) : bodyPost P fn K .ret a w := by
  subst hc
  refine bodyPost_ret (v := .tuple #[.agg (E.c p).toArray, v]) ?_ hd hR
  rw [results_cell_tmp hr, hp, hv]
  simp only [asAddr, Sem.run_pure, Result.andThen, El.run_load R h.at]
/-- Two results, a word and a struct of a block. -/
theorem El.ret3 (R : El.Row E P) {fn : Func} {K : Ending → World → Prop} {a : Act} {w : World} {b : Nat} {t u : Tmp} {v : Value} {p : α} (h : E.In w b p) (hr : fn.results = #[.tmp u, .cell t E.e]) (hp : a.tmps.getD t undef = .pointer (some ⟨b, 0, none⟩)) (hv : a.tmps.getD u undef = v) (hd : a.defers = [])
    (cs : Array Value) (hc : cs = (E.c p).toArray) (hR : K (.returned (.tuple #[v, .agg cs])) w) : bodyPost P fn K .ret a w := by
  subst hc
  refine bodyPost_ret (v := .tuple #[v, .agg (E.c p).toArray]) ?_ hd hR
  have hp' : a.tmps[t]?.getD undef = .pointer (some ⟨b, 0, none⟩) := by simpa using hp
  have hv' : a.tmps[u]?.getD undef = v := by simpa using hv
  simp [results, hr, hp', hv', asAddr, El.run_load R h.at]
end
end Go.Proofs.YtdcjffajmckleaaGreatDoor

/- Rows of structs, whatever the struct: made, written at a place, built of one. No function of the program in it. -/
namespace Go.Proofs.YtdcjffajmckleaaGreatDoor
open Go.RowKit

section
variable {α : Type} {E : El α}
theorem El.cells_take (l : List α) (i : Nat) (h : i ≤ l.length) : E.cells (l.take i) = (E.cells l).take (i * E.k) := by
  have e : E.cells l = E.cells (l.take i) ++ E.cells (l.drop i) := by rw [← El.cells_app, List.take_append_drop]
  have hl : (E.cells (l.take i)).length = i * E.k := by rw [El.cells_len, List.length_take, Nat.min_eq_left h]
  rw [e]; exact (List.take_left' hl).symm
theorem El.cells_drop (l : List α) (i : Nat) (h : i ≤ l.length) : E.cells (l.drop i) = (E.cells l).drop (i * E.k) := by
  have e : E.cells l = E.cells (l.take i) ++ E.cells (l.drop i) := by rw [← El.cells_app, List.take_append_drop]
  have hl : (E.cells (l.take i)).length = i * E.k := by rw [El.cells_len, List.length_take, Nat.min_eq_left h]
  rw [e]; exact (List.drop_left' hl).symm
theorem El.cells_set (l : List α) (i : Nat) (h : i < l.length) (x : α) : E.cells (l.set i x) = (E.cells l).take (i * E.k) ++ E.c x ++ (E.cells l).drop (i * E.k + E.k) := by
  rw [List.set_eq_take_append_cons_drop, if_pos h, El.cells_app, El.cells, El.cells_take l i (by omega), El.cells_drop l (i + 1) h, Nat.succ_mul, List.append_assoc]
theorem El.cells_rep (x : α) : ∀ n, (E.cells (List.replicate n x)).length = n * E.k := fun n => by rw [El.cells_len, List.length_replicate]
theorem El.made (x : α) (z : Array Value) (hz : z.toList = E.c x) (n : Nat) : (madeCells z (n * E.k)).toList = E.cells (List.replicate n x) := by
  have hzs : z.size = E.k := by rw [← Array.length_toList, hz, E.len]
  have hpos := E.pos
  apply List.ext_getElem?
  intro m
  by_cases hm : m < n * E.k
  · have h1 : m / E.k < n := Nat.div_lt_of_lt_mul (by rw [Nat.mul_comm]; exact hm)
    have h2 : m % E.k < E.k := Nat.mod_lt _ hpos
    have hu : (E.c x)[m % E.k]? = some ((E.c x)[m % E.k]'(by rw [E.len]; exact h2)) := List.getElem?_eq_getElem _
    have h3 := El.cells_at (E := E) (List.replicate n x) (m / E.k) (by simpa using h1) (m % E.k) _ (by rw [List.getElem_replicate]; exact hu)
    rw [Nat.mul_comm, Nat.div_add_mod] at h3
    rw [h3]
    simp only [madeCells, Array.getElem?_toList, Array.getElem?_map, Array.getElem?_range, hm, if_true, Option.map_some, hzs]
    congr 1
    simp only [← hz, Array.getElem_toList]
    exact getElem!_pos z _ (by omega)
  · rw [List.getElem?_eq_none (by rw [Array.length_toList, size_madeCells]; omega), List.getElem?_eq_none (by rw [El.cells_rep]; omega)]

variable {P : Program} {st : TypeId}
/-- make([]T, n). -/
theorem El.wp_make (I : E.Inn P st) (x : α) (hx : ∃ i z, P.info? E.e = some i ∧ i.zero = some z ∧ z.cells.toList = E.c x) {o : Oper} {a : Act} {w : World} {K : Act → World → Prop} {Q : Exit → Act → World → Prop} (lx cx : Operand)
    (ho : o.op = .makeSlice st lx cx) (B n c : Nat) (hl : a.eval lx = .int .i64 n) (hc : a.eval cx = .int .i64 c) (hn : c ≤ 100000) (hnc : n ≤ c) (hB : B ≤ w.heap.size)
    (h : ∀ w', E.Own w' B (.slice (some ⟨w.heap.size, 0, none⟩) n c) (List.replicate n x) → w.grownBy w' none → w.heap.size < w'.heap.size → K (a.put o.dst (.slice (some ⟨w.heap.size, 0, none⟩) n c)) w') : o.wp P a w K Q := by
  obtain ⟨hu, i, z, hi, hz, hsz, hby, hzs⟩ := I
  obtain ⟨i', z', hi', hz', hzc⟩ := hx
  rw [hi] at hi'; cases hi'
  rw [hz] at hz'; cases hz'
  have hb : i.bytes * c ≤ 1000 * 100000 := Nat.mul_le_mul hby hn
  have hb' : (i.bytes : Int) * (c : Int) ≤ 281474976710656 := by
    have h : ((i.bytes * c : Nat) : Int) ≤ 281474976710656 := by omega
    rwa [Int.natCast_mul] at h
  have hr := run_make (P := P) w st E.e i z hu hi hz .i64 .i64 n c (by omega) (by omega) hb' (by omega)
  simp only [Int.toNat_natCast] at hr
  unfold Oper.wp execOp
  simp only [ho, hl, hc, Sem.run_bind, Sem.run_pure, Result.andThen_ok, hr]
  refine h _ ⟨by rw [List.length_replicate, El.cells_rep], .inr ⟨w.heap.size, c, _, ?_, hB, heap_alloc_new w _, ?_, by unfold maxLen; omega, ?_, ?_⟩⟩ (World.grownBy_alloc w _ none) (by simp)
  · rw [List.length_replicate]
  · rw [List.length_replicate]; exact hnc
  · rw [size_madeCells, hsz]
  · rw [hsz, El.made x z.cells hzc c, List.length_replicate, ← El.cells_rep (E := E) x n]
    obtain ⟨d, rfl⟩ : ∃ d, c = n + d := ⟨c - n, by omega⟩
    rw [← List.replicate_append_replicate, El.cells_app]
    exact List.take_left
theorem El.wpList_make (I : E.Inn P st) (x : α) (hx : ∃ i z, P.info? E.e = some i ∧ i.zero = some z ∧ z.cells.toList = E.c x) {ops : Array Oper} {rest : List Oper} {o : Oper} {a : Act} {w : World} {Q : Exit → Act → World → Prop} (hgd : o.guard = none) (lx cx : Operand)
    (ho : o.op = .makeSlice st lx cx) (B n c : Nat) (hl : a.eval lx = .int .i64 n) (hc : a.eval cx = .int .i64 c) (hn : c ≤ 100000) (hnc : n ≤ c) (hB : B ≤ w.heap.size)
    (h : ∀ w', E.Own w' B (.slice (some ⟨w.heap.size, 0, none⟩) n c) (List.replicate n x) → w.grownBy w' none → w.heap.size < w'.heap.size → wpList P ops Q rest (a.put o.dst (.slice (some ⟨w.heap.size, 0, none⟩) n c)) w') : wpList P ops Q (o :: rest) a w :=
  wpList_plain hgd fun _ hK => El.wp_make I x hx lx cx ho B n c hl hc hn hnc hB fun w' h1 h2 h3 => hK _ _ (h w' h1 h2 h3)

/-- s[i] = x, in a row of the call's own. -/
theorem El.wp_setAt (R : El.Row E P) {o : Oper} {a : Act} {w : World} {K : Act → World → Prop} {Q : Exit → Act → World → Prop} (x y : Operand) (ho : o.op = .store E.e x y)
    (B g cap i : Nat) (l : List α) (q : α) (hown : E.Own w B (.slice (some ⟨g, 0, none⟩) l.length cap) l) (hi : i < l.length) (cs : Array Value) (hcs : cs = (E.c q).toArray) (hx : a.eval x = .pointer (some ⟨g, i * E.k, none⟩)) (hy : a.eval y = .agg cs)
    (h : ∀ w', E.Own w' B (.slice (some ⟨g, 0, none⟩) l.length cap) (l.set i q) → w.grownBy w' (some g) → w'.heap.size = w.heap.size → K (a.put o.dst undef) w') : o.wp P a w K Q := by
  subst hcs
  unfold El.Own at hown
  rcases hown.2 with ⟨h', _⟩ | ⟨g', cap', cur, h', hb, hg, hnc, hcm, hcsz, htake⟩
  · simp at h'
  · simp only [Value.slice.injEq, Option.some.injEq, Addr.mk.injEq, and_true, true_and] at h'
    obtain ⟨rfl, rfl⟩ := h'
    have hlen := hown.1
    have hik : i * E.k + E.k ≤ l.length * E.k := by rw [← Nat.succ_mul]; exact Nat.mul_le_mul_right _ hi
    have hck : l.length * E.k ≤ cap * E.k := Nat.mul_le_mul_right _ hnc
    have hs := run_storeCells_at (P := P) g (i * E.k) E.e (E.c q) 0 cur w hg (by rw [E.len]; omega) (E.one q)
    have hsz : ((E.c q).toArray).size = E.k := by simp [E.len]
    have hv : (storeVar E.e ⟨g, i * E.k, none⟩ (.agg (E.c q).toArray)).run P w = .ok () (w.setRow g (cur.toList.take (i * E.k) ++ E.c q ++ cur.toList.drop (i * E.k + E.k)).toArray) := by
      have hR := R.size
      cases hq : P.info? E.e with
      | none => simp [hq] at hR
      | some inf =>
        have hinf : inf.size = E.k := by simpa [hq] using hR
        simp only [Nat.add_zero, E.len] at hs
        simp [storeVar, sizeOf, typeInfo, hq, Value.cells, hinf, E.len, hs]
    unfold Oper.wp execOp
    simp only [ho, hx, hy, Instr.storeAt, Instr.sureAddr, Sem.run_bind, Sem.run_pure, Result.andThen_ok, hv]
    refine h _ ⟨by rw [List.length_set, El.cells_len, List.length_set], .inr ⟨g, cap, _, by rw [List.length_set], hb, setRow_heap w g cur _ E.e (0, 0) hg, by rw [List.length_set]; exact hnc, hcm, ?_, ?_⟩⟩ ⟨rfl, rfl, rfl, by simp, fun k _ hk => setRow_other w g k _ (fun e => hk (by simp [e]))⟩ (by simp)
    · simp only [List.size_toArray, List.length_append, List.length_take, List.length_drop, Array.length_toList, E.len]; omega
    · rw [List.length_set, El.cells_set l i hi q, ← htake]
      have hcl : cur.toList.length = cap * E.k := by rw [Array.length_toList, hcsz]
      generalize cur.toList = C at *
      simp only [List.toList_toArray]
      rw [List.take_take, Nat.min_eq_left (by omega), List.drop_take]
      have e1 : (C.take (i * E.k)).length = i * E.k := by rw [List.length_take]; omega
      have e2 : (C.take (i * E.k) ++ E.c q).length = i * E.k + E.k := by rw [List.length_append, e1, E.len]
      rw [List.take_append (l₁ := C.take (i * E.k) ++ E.c q), e2, List.take_of_length_le (by omega : (C.take (i * E.k) ++ E.c q).length ≤ l.length * E.k)]
theorem El.wpList_setAt (R : El.Row E P) {ops : Array Oper} {rest : List Oper} {o : Oper} {a : Act} {w : World} {Q : Exit → Act → World → Prop} (hgd : o.guard = none) (x y : Operand) (ho : o.op = .store E.e x y)
    (B g cap i : Nat) (l : List α) (q : α) (hown : E.Own w B (.slice (some ⟨g, 0, none⟩) l.length cap) l) (hi : i < l.length) (cs : Array Value) (hcs : cs = (E.c q).toArray) (hx : a.eval x = .pointer (some ⟨g, i * E.k, none⟩)) (hy : a.eval y = .agg cs)
    (h : ∀ w', E.Own w' B (.slice (some ⟨g, 0, none⟩) l.length cap) (l.set i q) → w.grownBy w' (some g) → w'.heap.size = w.heap.size → wpList P ops Q rest (a.put o.dst undef) w') : wpList P ops Q (o :: rest) a w :=
  wpList_plain hgd fun _ hK => El.wp_setAt R x y ho B g cap i l q hown hi cs hcs hx hy fun w' h1 h2 h3 => hK _ _ (h w' h1 h2 h3)
end
end Go.Proofs.YtdcjffajmckleaaGreatDoor
