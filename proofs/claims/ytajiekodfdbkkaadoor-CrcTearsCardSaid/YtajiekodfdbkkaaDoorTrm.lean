/- Bytes that are mixed with others, one by one. -/
import Derived.Test.YtajiekodfdbkkaaDoorSl
namespace Go.Proofs.YtajiekodfdbkkaaDoor
open Go.RowKit Crc

/-- The i-th byte of a number. -/
def byt (by_ : Nat) (i : Nat) : UInt8 := UInt8.ofNat (by_ / 2 ^ (8 * i) % 256)
def msk (n i : Nat) : List UInt8 := (List.range i).map (byt n)
theorem msk_len (n i : Nat) : (msk n i).length = i := by simp [msk]
theorem msk_succ (n i : Nat) : msk n (i + 1) = msk n i ++ [byt n i] := by simp [msk, List.range_succ]
/-- Behind i rounds. -/
def cu (H R : List UInt8) (n i : Nat) : List UInt8 := H ++ (List.zipWith (· ^^^ ·) (R.take i) (msk n i) ++ R.drop i)
/-- Was anything turned? -/
def tur (n : Nat) : Nat → Bool
  | 0 => false
  | i + 1 => tur n i || !(byt n i == 0)

theorem cu_zero (H R : List UInt8) (n : Nat) : cu H R n 0 = H ++ R := by simp [cu, msk]
theorem zip_len (R : List UInt8) (n i : Nat) (hi : i ≤ R.length) : (List.zipWith (· ^^^ ·) (R.take i) (msk n i)).length = i := by
  rw [List.length_zipWith, msk_len, List.length_take]; omega
theorem cu_len (H R : List UInt8) (n i : Nat) (hi : i ≤ R.length) : (cu H R n i).length = H.length + R.length := by
  unfold cu
  rw [List.length_append, List.length_append, zip_len R n i hi, List.length_drop]; omega
theorem cu_at (H R : List UInt8) (n i : Nat) (hi : i < R.length) : (cu H R n i).getD (H.length + i) 0 = R[i] := by
  unfold cu
  rw [List.getD_eq_getElem?_getD, List.getElem?_append_right (by omega), List.getElem?_append_right (by rw [zip_len R n i (by omega)]; omega), zip_len R n i (by omega)]
  rw [List.getElem?_drop, show i + (H.length + i - H.length - i) = i from by omega, List.getElem?_eq_getElem hi]; rfl
theorem cu_succ (H R : List UInt8) (n i : Nat) (hi : i < R.length) : cu H R n (i + 1) = (cu H R n i).set (H.length + i) (R[i] ^^^ byt n i) := by
  unfold cu
  rw [List.set_append_right _ _ (by omega), show H.length + i - H.length = i from by omega, List.set_append_right _ _ (by rw [zip_len R n i (by omega)]; omega), zip_len R n i (by omega), Nat.sub_self]
  rw [List.drop_eq_getElem_cons hi, List.set_cons_zero, msk_succ, List.take_succ_eq_append_getElem hi]
  rw [List.zipWith_append (by rw [msk_len, List.length_take]; omega), List.append_assoc]
  rfl
theorem getD_set (l : List UInt8) (i j : Nat) (x : UInt8) (hj : j < l.length) : (l.set i x).getD j 0 = if i = j then x else l.getD j 0 := by
  rw [List.getD_eq_getElem?_getD, List.getElem?_set, List.getD_eq_getElem?_getD]
  by_cases h : i = j
  · subst h; simp [hj]
  · simp [h]

theorem tur_false (n : Nat) : ∀ i, tur n i = false → ∀ m ∈ msk n i, m = 0
  | 0, _, m, hm => by simp [msk] at hm
  | i + 1, h, m, hm => by
    simp only [tur, Bool.or_eq_false_iff] at h
    rw [msk_succ, List.mem_append] at hm
    rcases hm with hm | hm
    · exact tur_false n i h.1 m hm
    · have e : m = byt n i := by simpa using hm
      rw [e]; simpa using h.2
theorem tur_true (n : Nat) : ∀ i, tur n i = true → ¬ ∀ m ∈ msk n i, m = 0
  | 0, h, _ => by simp [tur] at h
  | i + 1, h, ha => by
    simp only [tur, Bool.or_eq_true] at h
    rcases h with h | h
    · exact tur_true n i h (fun m hm => ha m (by rw [msk_succ]; simp [hm]))
    · have e := ha (byt n i) (by rw [msk_succ]; simp)
      rw [e] at h
      simp at h

/-- WHAT IS TURNED ISN'T OPEN; what isn't, is. -/
theorem turned_shut (s : ByteArray) (p n q : Nat) (hs : s.size < 4294967296) (hp : p < s.size) (hq : q ≤ s.size - p) (hq4 : q ≤ 4) :
    (tur n q = true → opC ⟨(cu (fourL s.size ++ (fourL (sumB s) ++ (L s).take p)) ((L s).drop p) n q).toArray⟩ = -1) ∧
    (tur n q = false → opC ⟨(cu (fourL s.size ++ (fourL (sumB s) ++ (L s).take p)) ((L s).drop p) n q).toArray⟩ = 8 + (s.size : Int)) := by
  obtain ⟨U, hU⟩ : ∃ U : ByteArray, U = ⟨(cu (fourL s.size ++ (fourL (sumB s) ++ (L s).take p)) ((L s).drop p) n q).toArray⟩ := ⟨_, rfl⟩
  rw [← hU]
  have hLs : (L s).length = s.size := L_len s
  have hR : ((L s).drop p).length = s.size - p := by rw [List.length_drop, hLs]
  obtain ⟨B, hB⟩ : ∃ B, B = ((L s).drop p).take q := ⟨_, rfl⟩
  obtain ⟨C, hC⟩ : ∃ C, C = ((L s).drop p).drop q := ⟨_, rfl⟩
  obtain ⟨A, hA⟩ : ∃ A, A = (L s).take p := ⟨_, rfl⟩
  have hABC : L s = A ++ (B ++ C) := by rw [hA, hB, hC, List.take_append_drop, List.take_append_drop]
  have hBl : B.length = (msk n q).length := by rw [hB, List.length_take, hR, msk_len]; omega
  have hLU : L U = fourL s.size ++ (fourL (sumB s) ++ (A ++ (List.zipWith (· ^^^ ·) B (msk n q) ++ C))) := by
    rw [hU]
    show cu _ _ n q = _
    unfold cu
    rw [hA, hB, hC]
    simp only [List.append_assoc]
  obtain ⟨h1, h2, h3, h4⟩ := head_facts _ _ _ _ hs (sumB_lt s) hLU
  have hlen : (A ++ (List.zipWith (· ^^^ ·) B (msk n q) ++ C)).length = s.size := by
    have e : (A ++ (B ++ C)).length = s.size := by rw [← hABC, hLs]
    rw [List.length_append, List.length_append] at e ⊢
    rw [List.length_zipWith, ← hBl, Nat.min_self]; exact e
  rw [← hlen, List.take_length] at h4
  rw [hlen] at h1
  constructor
  · intro ht
    have hg : ¬ isSeal U = true := by
      intro h
      have hx := (of_decide_eq_true h).2.2
      rw [h3] at hx
      have hx2 : sumOf (A ++ (List.zipWith (· ^^^ ·) B (msk n q) ++ C)) = sumOf (A ++ (B ++ C)) := by
        rw [← h4, ← hABC]
        exact BitVec.eq_of_toNat_eq hx
      exact tur_true n q ht (sum_turned A B (msk n q) C hBl (by rw [msk_len]; exact hq4) hx2)
    rw [opC, if_neg hg]
  · intro ht
    rw [zip_zero B (msk n q) hBl (tur_false n q ht), ← hABC] at h4
    have hg : isSeal U = true := by
      refine decide_eq_true ⟨by omega, by omega, ?_⟩
      rw [h3]; exact sumB_L h4
    rw [opC, if_pos hg, h2]

end Go.Proofs.YtajiekodfdbkkaaDoor
