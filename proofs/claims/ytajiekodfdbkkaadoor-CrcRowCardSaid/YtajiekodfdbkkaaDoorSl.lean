/- What a Seal is, as lists of bytes: it is opened, whatever stands behind; what is opened was sealed just so; what is cut isn't open. -/
import Derived.Test.YtajiekodfdbkkaaDoorWe
namespace Go.Proofs.YtajiekodfdbkkaaDoor
open Go.RowKit Crc

abbrev L (s : ByteArray) : List UInt8 := s.data.toList
theorem L_inj {a b : ByteArray} (h : L a = L b) : a = b := by
  apply ByteArray.ext
  exact Array.toList_inj.1 h
theorem L_len (s : ByteArray) : (L s).length = s.size := Array.length_toList
theorem L_app (a b : ByteArray) : L (a ++ b) = L a ++ L b := by simp [L, ByteArray.data_append]
theorem L_ext (s : ByteArray) (i j : Nat) : L (s.extract i j) = ((L s).take j).drop i := by
  simp only [L, ByteArray.data_extract, Array.toList_extract]
  rw [List.extract_eq_take_drop, List.drop_take]

theorem L_four (n : Nat) : L (four n) = fourL n := rfl
theorem fourL_len (n : Nat) : (fourL n).length = 4 := rfl

/-- The number of the first four. -/
def numL (l : List UInt8) : Nat := (l.getD 0 0).toNat + 256 * (l.getD 1 0).toNat + 65536 * (l.getD 2 0).toNat + 16777216 * (l.getD 3 0).toNat
theorem num_L (s : ByteArray) : num s = numL (L s) := rfl

theorem u8_val (n : Nat) (h : n < 256) : (UInt8.ofNat n).toNat = n := by rw [UInt8.toNat_ofNat']; omega

theorem numL_four (n : Nat) (r : List UInt8) (h : n < 4294967296) : numL (fourL n ++ r) = n := by
  have h0 := u8_val (n % 256) (by omega)
  have h1 := u8_val (n / 256 % 256) (by omega)
  have h2 := u8_val (n / 65536 % 256) (by omega)
  have h3 := u8_val (n / 16777216) (by omega)
  have e : numL (fourL n ++ r) = (UInt8.ofNat (n % 256)).toNat + 256 * (UInt8.ofNat (n / 256 % 256)).toNat + 65536 * (UInt8.ofNat (n / 65536 % 256)).toNat + 16777216 * (UInt8.ofNat (n / 16777216)).toNat := rfl
  rw [e, h0, h1, h2, h3]
  omega

theorem fourL_num (l : List UInt8) (h : 4 ≤ l.length) : fourL (numL l) = l.take 4 := by
  match l, h with
  | a :: b :: c :: d :: r, _ =>
    have ha := a.toNat_lt
    have hb := b.toNat_lt
    have hc := c.toNat_lt
    have hd := d.toNat_lt
    have e : numL (a :: b :: c :: d :: r) = a.toNat + 256 * b.toNat + 65536 * c.toNat + 16777216 * d.toNat := rfl
    rw [e]
    have e0 : (a.toNat + 256 * b.toNat + 65536 * c.toNat + 16777216 * d.toNat) % 256 = a.toNat := by omega
    have e1 : (a.toNat + 256 * b.toNat + 65536 * c.toNat + 16777216 * d.toNat) / 256 % 256 = b.toNat := by omega
    have e2 : (a.toNat + 256 * b.toNat + 65536 * c.toNat + 16777216 * d.toNat) / 65536 % 256 = c.toNat := by omega
    have e3 : (a.toNat + 256 * b.toNat + 65536 * c.toNat + 16777216 * d.toNat) / 16777216 = d.toNat := by omega
    unfold fourL
    rw [e0, e1, e2, e3]
    simp

/-- A Seal's bytes. -/
theorem L_seal (s : ByteArray) : L (sealOf s) = fourL s.size ++ (fourL (sumB s) ++ L s) := by
  unfold sealOf
  rw [L_app, L_app, L_four, L_four, List.append_assoc]
theorem seal_size (s : ByteArray) : (sealOf s).size = 8 + s.size := by
  rw [← L_len, L_seal, List.length_append, List.length_append, fourL_len, fourL_len, L_len]; omega

/-- Whatever begins with those eight bytes. -/
theorem head_facts (t : ByteArray) (n m : Nat) (r : List UInt8) (hn : n < 4294967296) (hm : m < 4294967296) (h : L t = fourL n ++ (fourL m ++ r)) :
    t.size = 8 + r.length ∧ num t = n ∧ num (t.extract 4 t.size) = m ∧ L (bodyOf t) = r.take n := by
  have hs : t.size = 8 + r.length := by rw [← L_len, h, List.length_append, List.length_append, fourL_len, fourL_len]; omega
  have h1 : num t = n := by rw [num_L, h, numL_four n _ hn]
  refine ⟨hs, h1, ?_, ?_⟩
  · rw [num_L, L_ext, ← L_len, List.take_length, h, List.drop_left' (fourL_len n), numL_four m _ hm]
  · unfold bodyOf
    rw [h1, L_ext, h, ← List.append_assoc, show 8 + n = (fourL n ++ fourL m).length + n from rfl, List.take_length_add_append]
    exact List.drop_left' rfl

theorem sumB_L {a b : ByteArray} (h : L a = L b) : sumB a = sumB b := by rw [L_inj h]

/-- WHAT WAS SEALED IS OPENED, whatever stands behind. -/
theorem seal_opens (s b : ByteArray) (hs : s.size < 4294967296) : opT (sealOf s ++ b) = s ∧ opC (sealOf s ++ b) = 8 + (s.size : Int) := by
  have hL : L (sealOf s ++ b) = fourL s.size ++ (fourL (sumB s) ++ (L s ++ L b)) := by
    rw [L_app, L_seal, List.append_assoc, List.append_assoc]
  obtain ⟨h1, h2, h3, h4⟩ := head_facts _ _ _ _ hs (sumB_lt s) hL
  have h5 : bodyOf (sealOf s ++ b) = s := L_inj (by rw [h4, ← L_len]; exact List.take_left' rfl)
  have hg : isSeal (sealOf s ++ b) = true := by
    refine decide_eq_true ⟨by omega, ?_, ?_⟩
    · rw [h2, h1, List.length_append, L_len, L_len]; omega
    · rw [h5, h3]
  rw [opT, opC, if_pos hg, if_pos hg, h5, h2]
  exact ⟨rfl, rfl⟩

theorem seal_opens' (s : ByteArray) (hs : s.size < 4294967296) : opT (sealOf s) = s ∧ opC (sealOf s) = 8 + (s.size : Int) := by
  have h := seal_opens s ⟨#[]⟩ hs
  rwa [show sealOf s ++ ⟨#[]⟩ = sealOf s from L_inj (by rw [L_app]; exact List.append_nil _)] at h

/-- WHAT IS OPENED WAS SEALED JUST SO. -/
theorem opened_was (t : ByteArray) (h : isSeal t = true) : sealOf (opT t) = t.extract 0 (8 + num t) ∧ num t + 8 ≤ t.size := by
  obtain ⟨h8, hn, hx⟩ := of_decide_eq_true h
  refine ⟨L_inj ?_, hn⟩
  rw [opT, if_pos h, L_seal, hx]
  have hb : (bodyOf t).size = num t := by unfold bodyOf; rw [ByteArray.size_extract]; omega
  have hl : 8 ≤ (L t).length := by rw [L_len]; exact h8
  rw [hb, num_L t, fourL_num _ (by omega), num_L (t.extract 4 t.size), L_ext, ← L_len, List.take_length, fourL_num _ (by rw [List.length_drop]; omega)]
  unfold bodyOf
  rw [L_ext, L_ext, List.drop_zero, ← num_L]
  rw [← List.append_assoc]
  have e : (L t).take 4 ++ ((L t).drop 4).take 4 = (L t).take 8 := by rw [← List.take_add]
  rw [e, List.drop_take]
  rw [← List.take_add, Nat.add_sub_cancel_left]

/-- WHAT IS CUT ISN'T OPEN. -/
theorem cut_shut (s : ByteArray) (k : Nat) (hs : s.size < 4294967296) (hk : k < 8 + s.size) : opC ((sealOf s).extract 0 k) = -1 := by
  have hsz : ((sealOf s).extract 0 k).size = k := by rw [ByteArray.size_extract, seal_size]; omega
  have hg : ¬ isSeal ((sealOf s).extract 0 k) = true := by
    intro h
    obtain ⟨h8, hn, _⟩ := of_decide_eq_true h
    rw [hsz] at h8 hn
    have e : num ((sealOf s).extract 0 k) = s.size := by
      rw [num_L, L_ext, List.drop_zero, L_seal]
      have e2 : (fourL s.size ++ (fourL (sumB s) ++ L s)).take k = fourL s.size ++ (fourL (sumB s) ++ L s).take (k - 4) := by
        rw [List.take_append, List.take_of_length_le (by rw [fourL_len]; omega), fourL_len]
      rw [e2, numL_four _ _ hs]
    omega
  rw [opC, if_neg hg]

end Go.Proofs.YtajiekodfdbkkaaDoor
