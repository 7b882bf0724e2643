/- The plain mathematics of the sum: one step of a bit is linear and loses nothing; four steps are one look into the table; four bytes side by side that turn, turn the sum. -/
namespace Go.Proofs.YtajiekodfdbkkaaDoor.Crc

def P : BitVec 32 := 0xedb88320#32
/-- One step of a bit. -/
def T (x : BitVec 32) : BitVec 32 := if x.getLsbD 0 then (x >>> 1) ^^^ P else x >>> 1
/-- n steps. -/
def Tn : Nat → BitVec 32 → BitVec 32
  | 0, x => x
  | n + 1, x => Tn n (T x)

theorem xor_four (a b c d : BitVec 32) : (a ^^^ b) ^^^ (c ^^^ d) = (a ^^^ c) ^^^ (b ^^^ d) := by
  rw [BitVec.xor_assoc, BitVec.xor_assoc, ← BitVec.xor_assoc b c d, BitVec.xor_comm b c, BitVec.xor_assoc]

theorem T_xor (x y : BitVec 32) : T (x ^^^ y) = T x ^^^ T y := by
  unfold T
  rw [BitVec.getLsbD_xor, BitVec.ushiftRight_xor_distrib]
  cases x.getLsbD 0 <;> cases y.getLsbD 0
  · simp
  · simp [BitVec.xor_assoc]
  · simp [BitVec.xor_assoc, BitVec.xor_comm P]
  · simp only [Bool.xor_self, if_true]
    rw [xor_four, BitVec.xor_self, BitVec.xor_zero]; rfl

theorem Tn_xor (n : Nat) : ∀ x y : BitVec 32, Tn n (x ^^^ y) = Tn n x ^^^ Tn n y := by
  induction n with
  | zero => intro x y; rfl
  | succ n ih => intro x y; simp only [Tn]; rw [T_xor, ih]

theorem Tn_add (m n : Nat) (x : BitVec 32) : Tn (m + n) x = Tn n (Tn m x) := by
  induction m generalizing x with
  | zero => simp [Tn]
  | succ m ih => rw [Nat.succ_add]; simp only [Tn]; exact ih _

theorem T_eq_zero {x : BitVec 32} (h : T x = 0#32) : x = 0#32 := by
  unfold T at h
  by_cases hb : x.getLsbD 0 = true
  · rw [if_pos hb] at h
    have h31 := congrArg (·.getLsbD 31) h
    simp [P, BitVec.getLsbD_ushiftRight] at h31
  · rw [if_neg hb] at h
    apply BitVec.eq_of_getLsbD_eq
    intro i hi
    rcases i with _ | i
    · simpa using hb
    · have := congrArg (·.getLsbD i) h
      simp [BitVec.getLsbD_ushiftRight] at this
      rw [Nat.add_comm] at this
      simpa using this

theorem Tn_eq_zero {n : Nat} : ∀ {x : BitVec 32}, Tn n x = 0#32 → x = 0#32 := by
  induction n with
  | zero => intro x h; exact h
  | succ n ih => intro x h; exact T_eq_zero (ih h)

theorem Tn_inj {n : Nat} {x y : BitVec 32} (h : Tn n x = Tn n y) : x = y := by
  have h2 : Tn n (x ^^^ y) = 0#32 := by rw [Tn_xor, h, BitVec.xor_self]
  exact BitVec.xor_eq_zero_iff.1 (Tn_eq_zero h2)

/-- Low bits that are nought go out without a trace. -/
theorem Tn_shift (n : Nat) (x : BitVec 32) (h : ∀ i, i < n → x.getLsbD i = false) : Tn n x = x >>> n := by
  induction n generalizing x with
  | zero => simp [Tn]
  | succ n ih =>
    simp only [Tn]
    have e : T x = x >>> 1 := by
      have h0 := h 0 (by omega)
      unfold T; rw [h0]; rfl
    rw [e, ih _ (fun i hi => by rw [BitVec.getLsbD_ushiftRight]; exact h _ (by omega))]
    rw [← BitVec.shiftRight_add, Nat.add_comm]

/-- The table. -/
def tab (k : Nat) : BitVec 32 := Tn 4 (BitVec.ofNat 32 k)

theorem split4 (x : BitVec 32) : x = ((x >>> 4) <<< 4) ^^^ BitVec.ofNat 32 (x.toNat % 16) := by
  apply BitVec.eq_of_getLsbD_eq
  intro i hi
  rw [BitVec.getLsbD_xor, BitVec.getLsbD_shiftLeft, BitVec.getLsbD_ushiftRight, BitVec.getLsbD_ofNat]
  have e : (x.toNat % 16).testBit i = (decide (i < 4) && x.getLsbD i) := by
    rw [show (16 : Nat) = 2 ^ 4 from rfl, Nat.testBit_mod_two_pow, BitVec.testBit_toNat]
  rw [e]
  by_cases h4 : i < 4
  · simp [h4, hi]
  · have : 4 + (i - 4) = i := by omega
    simp [h4, hi, this]

theorem Tn4 (x : BitVec 32) : Tn 4 x = (x >>> 4) ^^^ tab (x.toNat % 16) := by
  have h := congrArg (Tn 4) (split4 x)
  rw [Tn_xor, Tn_shift 4 ((x >>> 4) <<< 4) (fun i hi => by rw [BitVec.getLsbD_shiftLeft]; simp [hi])] at h
  rw [h]
  congr 1
  apply BitVec.eq_of_getLsbD_eq
  intro i hi
  rw [BitVec.getLsbD_ushiftRight, BitVec.getLsbD_shiftLeft, BitVec.getLsbD_ushiftRight]
  by_cases h4 : 4 + i < 32
  · have : 4 + i - 4 = i := by omega
    simp [h4, this]
  · simp [h4, BitVec.getLsbD_of_ge x (4 + i) (by omega)]

/-- One byte more. -/
def up (n : BitVec 32) (b : UInt8) : BitVec 32 := Tn 8 (n ^^^ BitVec.ofNat 32 b.toNat)
def run (n : BitVec 32) (l : List UInt8) : BitVec 32 := l.foldl up n
def sumOf (l : List UInt8) : BitVec 32 := ~~~ (run (BitVec.allOnes 32) l)

theorem run_nil (n : BitVec 32) : run n [] = n := rfl
theorem run_cons (n : BitVec 32) (b : UInt8) (l : List UInt8) : run n (b :: l) = run (up n b) l := rfl
theorem run_append (n : BitVec 32) (l r : List UInt8) : run n (l ++ r) = run (run n l) r := by unfold run; rw [List.foldl_append]
theorem run_snoc (n : BitVec 32) (l : List UInt8) (b : UInt8) : run n (l ++ [b]) = up (run n l) b := by rw [run_append]; rfl

theorem ofNat_xor_u8 (a b : UInt8) : BitVec.ofNat 32 (a ^^^ b).toNat = BitVec.ofNat 32 a.toNat ^^^ BitVec.ofNat 32 b.toNat := by
  apply BitVec.eq_of_getLsbD_eq
  intro i hi
  rw [BitVec.getLsbD_xor, BitVec.getLsbD_ofNat, BitVec.getLsbD_ofNat, BitVec.getLsbD_ofNat, UInt8.toNat_xor, Nat.testBit_xor]
  simp [hi]

theorem up_xor (x y : BitVec 32) (a b : UInt8) : up (x ^^^ y) (a ^^^ b) = up x a ^^^ up y b := by
  unfold up
  rw [← Tn_xor, ofNat_xor_u8, xor_four]

theorem run_zip : ∀ (A M : List UInt8) (x y : BitVec 32), A.length = M.length → run (x ^^^ y) (List.zipWith (· ^^^ ·) A M) = run x A ^^^ run y M
  | [], [], _, _, _ => rfl
  | [], _ :: _, _, _, h => by simp at h
  | _ :: _, [], _, _, h => by simp at h
  | a :: A, m :: M, x, y, h => by
    simp only [List.zipWith_cons_cons, run_cons]
    rw [up_xor]
    exact run_zip A M _ _ (by simpa using h)

theorem run_inj : ∀ (l : List UInt8) (x y : BitVec 32), run x l = run y l → x = y
  | [], _, _, h => h
  | b :: l, x, y, h => by
    have h2 := run_inj l _ _ h
    have h3 := Tn_inj h2
    have h4 : (x ^^^ BitVec.ofNat 32 b.toNat) ^^^ BitVec.ofNat 32 b.toNat = (y ^^^ BitVec.ofNat 32 b.toNat) ^^^ BitVec.ofNat 32 b.toNat := by rw [h3]
    rwa [BitVec.xor_assoc, BitVec.xor_assoc, BitVec.xor_self, BitVec.xor_zero, BitVec.xor_zero] at h4

/-- Masks as one number, the first the lowest. -/
def val : List UInt8 → Nat
  | [] => 0
  | m :: l => m.toNat + 256 * val l

theorem val_lt : ∀ l : List UInt8, val l < 256 ^ l.length
  | [] => by decide
  | m :: l => by
    have h := val_lt l
    have hm : m.toNat < 256 := m.toNat_lt
    simp only [val, List.length_cons, Nat.pow_succ]
    omega

theorem val_zero : ∀ {l : List UInt8}, val l = 0 → ∀ m ∈ l, m = 0
  | [], _, m, hm => by cases hm
  | a :: l, h, m, hm => by
    simp only [val] at h
    have h1 : a.toNat = 0 := by omega
    have h2 : val l = 0 := by omega
    rcases List.mem_cons.1 hm with rfl | hm
    · exact UInt8.toNat_inj.1 (by simpa using h1)
    · exact val_zero h2 m hm

theorem join8 (m v : Nat) (hm : m < 256) : BitVec.ofNat 32 m ^^^ BitVec.ofNat 32 (256 * v) = BitVec.ofNat 32 (m + 256 * v) := by
  apply BitVec.eq_of_getLsbD_eq
  intro i hi
  rw [BitVec.getLsbD_xor, BitVec.getLsbD_ofNat, BitVec.getLsbD_ofNat, BitVec.getLsbD_ofNat]
  have e : m + 256 * v = 2 ^ 8 * v + m := by omega
  have e2 : 256 * v = 2 ^ 8 * v := by omega
  rw [e, e2, Nat.testBit_two_pow_mul_add v (by simpa using hm) i, Nat.testBit_two_pow_mul]
  by_cases h8 : i < 8
  · simp [hi, h8, show ¬ 8 ≤ i from by omega]
  · have : m.testBit i = false := Nat.testBit_lt_two_pow (Nat.lt_of_lt_of_le (show m < 2 ^ 8 by simpa using hm) (Nat.pow_le_pow_right (by decide) (by omega)))
    simp [hi, h8, this, show 8 ≤ i from by omega]

theorem shift8 (v : Nat) (hv : v < 16777216) : Tn 8 (BitVec.ofNat 32 (256 * v)) = BitVec.ofNat 32 v := by
  rw [Tn_shift]
  · apply BitVec.eq_of_toNat_eq
    rw [BitVec.toNat_ushiftRight, BitVec.toNat_ofNat, BitVec.toNat_ofNat, Nat.shiftRight_eq_div_pow]
    omega
  · intro i hi
    rw [BitVec.getLsbD_ofNat, show 256 * v = 2 ^ 8 * v from by omega, Nat.testBit_two_pow_mul]
    simp [show ¬ 8 ≤ i from by omega]

theorem run_masks : ∀ (M : List UInt8) (x : BitVec 32), M.length ≤ 4 → run x M = Tn (8 * M.length) (x ^^^ BitVec.ofNat 32 (val M))
  | [], x, _ => by simp [run, Tn, val]
  | m :: l, x, h => by
    have hl : l.length ≤ 3 := by simpa using h
    have hv := val_lt l
    have hp : 256 ^ l.length ≤ 256 ^ 3 := Nat.pow_le_pow_right (by decide) hl
    have hv2 : val l < 16777216 := by omega
    rw [run_cons, run_masks l _ (by omega)]
    unfold up
    rw [← shift8 (val l) hv2, ← Tn_xor, BitVec.xor_assoc, join8 _ _ m.toNat_lt, ← Tn_add, List.length_cons, show 8 * (l.length + 1) = 8 + 8 * l.length from by omega]
    rfl

theorem run_masks_zero {M : List UInt8} (h : M.length ≤ 4) (h0 : run 0#32 M = 0#32) : ∀ m ∈ M, m = 0 := by
  rw [run_masks M _ h, BitVec.zero_xor] at h0
  have h1 := congrArg BitVec.toNat (Tn_eq_zero h0)
  have hv := val_lt M
  have hp : 256 ^ M.length ≤ 256 ^ 4 := Nat.pow_le_pow_right (by decide) h
  rw [BitVec.toNat_ofNat] at h1
  simp at h1
  exact val_zero (by omega)

/-- UP TO FOUR BYTES SIDE BY SIDE THAT TURN, TURN THE SUM. -/
theorem sum_turned (A B M C : List UInt8) (hl : B.length = M.length) (hM : M.length ≤ 4) (h : sumOf (A ++ (List.zipWith (· ^^^ ·) B M ++ C)) = sumOf (A ++ (B ++ C))) : ∀ m ∈ M, m = 0 := by
  unfold sumOf at h
  have h1 := congrArg (~~~ ·) h
  simp only [BitVec.not_not] at h1
  rw [run_append, run_append, run_append, run_append] at h1
  have h2 := run_inj _ _ _ h1
  have h3 := run_zip B M (run (BitVec.allOnes 32) A) 0#32 hl
  rw [BitVec.xor_zero, h2] at h3
  have h4 : run (run (BitVec.allOnes 32) A) B ^^^ (run (run (BitVec.allOnes 32) A) B ^^^ run 0#32 M) = 0#32 := by rw [← h3, BitVec.xor_self]
  rw [← BitVec.xor_assoc, BitVec.xor_self, BitVec.zero_xor] at h4
  exact run_masks_zero hM h4

theorem zip_zero : ∀ (B M : List UInt8), B.length = M.length → (∀ m ∈ M, m = 0) → List.zipWith (· ^^^ ·) B M = B
  | [], [], _, _ => rfl
  | [], _ :: _, h, _ => by simp at h
  | _ :: _, [], h, _ => by simp at h
  | b :: B, m :: M, h, hz => by
    have e : m = 0 := hz m (by simp)
    subst e
    rw [List.zipWith_cons_cons, zip_zero B M (by simpa using h) (fun x hx => hz x (by simp [hx]))]
    simp

end Go.Proofs.YtajiekodfdbkkaaDoor.Crc
