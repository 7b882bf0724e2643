/- The document's Num; Text, Bit, Least of both. -/
import Derived.Test.YtfhonobaddkmhaaCb
namespace Go.Proofs.Ytfhonobaddkmhaa
open Go.RowKit Cod

theorem dl_inj {a b : ByteArray} (h : a.data.toList = b.data.toList) : a = b := by
  cases a; cases b; simp at h; rw [h]
theorem dl_app (a b : ByteArray) : (a ++ b).data.toList = a.data.toList ++ b.data.toList := by simp
theorem dl_len (a : ByteArray) : a.data.toList.length = a.size := by simp

theorem conv1 (d : Nat) (hd : d < 256) (w : World) :
    (convert 53 9 (.slice (some ⟨w.heap.size, 0, none⟩) 1 1)).run Try.prog (w.alloc (.cells #[.int .u8 (d : Int)] 5)) = .ok (.string ⟨#[UInt8.ofNat d]⟩) (w.alloc (.cells #[.int .u8 (d : Int)] 5)) := by
  refine run_convert_bytes_back (P := Try.prog) _ 53 9 5 ⟨w.heap.size, 0, none⟩ 1 [UInt8.ofNat d] Try.underlying53 Try.underlying5 Try.underlying9 ?_
  intro j hj
  have hv : (UInt8.ofNat d).toNat = d := by rw [UInt8.toNat_ofNat']; omega
  match j, hj with
  | 0, _ => simp [Addr.add, hv]

theorem or_one (x : Nat) (hx : x < 9223372036854775808) : bits .or .u64 ((2 * x : Nat) : Int) 1 = ((2 * x + 1 : Nat) : Int) := by
  have h := u64_or_nat (2 * x) 1 (by omega) (by omega)
  rw [show 2 * x = 2 ^ 1 * x by omega, ← Nat.two_pow_add_eq_or_of_lt (by decide) x] at h
  rw [show 2 * x = 2 ^ 1 * x by omega]
  exact h


set_option maxRecDepth 100000 in
set_option maxHeartbeats 2000000 in
theorem refNum_any (n : Int) (w : World) (h1 : -9223372036854775808 ≤ n) (h2 : n ≤ 9223372036854775807) :
    Calls Try.prog 38 #[.int .i64 n] w fun e w' => e = .returned (.string (bytesOf n)) ∧ Below w.heap.size w w' := by
  have hU := fold_lt n h1 h2
  have hlen := enc_ten (fold n) hU
  have HB := Lib.hid (show (bytesOf n).data.toList = enc (fold n) from rfl)
  have HF := Lib.hid (show fold n = if n < 0 then (2 * (-1 - n) + 1).toNat else (2 * n).toNat from rfl)
  generalize bytesOf n = S at HB ⊢
  generalize fold n = U at hU hlen HB HF
  by_cases hn : n < 0
  · obtain ⟨x, hx⟩ : ∃ x : Nat, (-1 - n : Int) = (x : Int) := ⟨(-1 - n).toNat, by omega⟩
    have ho : bits .or .u64 ((x : Int) * 2) 1 = (U : Int) := by
      rw [show ((x : Int) * 2) = ((2 * x : Nat) : Int) by omega, or_one x (by omega), HF.out, if_pos hn]; omega
    go_enter Try.func38, Try.ntmps38
    go_wp2
    clear ho hx hn
    go_loopw [3, 4] (fun r v wr => ∃ (u : Nat) (T : ByteArray), r = .int .u64 u ∧ u < 18446744073709551616 ∧ v = .string T ∧ Hid (T.data.toList ++ enc u = enc U) ∧ Below w.heap.size w wr) (fun r _ _ => (intOf r).toNat)
    case atStart => exact ⟨U, ⟨#[]⟩, by go_num, hU, rfl, rfl, Below.refl _ _⟩
    case round =>
      obtain ⟨u, T, rfl, hu, rfl, hl, hnx⟩ := hrel
      have hll : T.size + (enc u).length ≤ 10 := by
        have h := congrArg List.length hl.out
        rw [List.length_append, dl_len] at h; omega
      have hep := enc_pos u
      by_cases hb : 128 ≤ u
      · obtain ⟨c, hc⟩ : ∃ c : Nat, (u : Int) % 256 = (c : Int) := ⟨u % 256, by omega⟩
        obtain ⟨d, hd⟩ : ∃ d : Nat, d = c % 128 + 128 := ⟨_, rfl⟩
        have hor := or_128 c (by omega)
        rw [← hd] at hor
        have hd2 : d < 256 := by omega
        have HN := Lib.hid (show (T ++ ⟨#[UInt8.ofNat d]⟩).data.toList ++ enc (u / 128) = enc U by
          rw [dl_app, List.append_assoc]
          show _ ++ ([UInt8.ofNat d] ++ _) = _
          rw [List.singleton_append, show d = u % 128 + 128 by omega, ← enc_big hb]; exact hl.out)
        have hcv := conv1 d hd2 wr
        have hsz : (ByteArray.mk #[UInt8.ofNat d]).size = 1 := rfl
        clear hd
        go_wp2
        go_roundw
        case rel => exact ⟨u / 128, T ++ ⟨#[UInt8.ofNat d]⟩, by go_num, by omega, rfl, HN, below_alloc hnx _⟩
        case measure => simp [intOf]; omega
      · have HE := Lib.hid (show T ++ ⟨#[UInt8.ofNat u]⟩ = S from dl_inj (by
          rw [dl_app, HB.out]
          show _ ++ [UInt8.ofNat u] = _
          rw [← enc_small (by omega)]; exact hl.out))
        have hcv := conv1 u (by omega) wr
        have hsz : (ByteArray.mk #[UInt8.ofNat u]).size = 1 := rfl
        go_wp2
        go_ret
        exact ⟨by rw [HE.out]; rfl, below_alloc hnx _⟩
  · have hUn : n * 2 = (U : Int) := by rw [HF.out, if_neg hn]; omega
    have HUN := Lib.hid hUn
    clear hUn
    go_enter Try.func38, Try.ntmps38
    go_wp2
    go_loopw [3, 4] (fun r v wr => ∃ (u : Nat) (T : ByteArray), r = .int .u64 u ∧ u < 18446744073709551616 ∧ v = .string T ∧ Hid (T.data.toList ++ enc u = enc U) ∧ Below w.heap.size w wr) (fun r _ _ => (intOf r).toNat)
    case atStart => exact ⟨U, ⟨#[]⟩, by rw [HUN.out], hU, rfl, rfl, Below.refl _ _⟩
    case round =>
      obtain ⟨u, T, rfl, hu, rfl, hl, hnx⟩ := hrel
      have hll : T.size + (enc u).length ≤ 10 := by
        have h := congrArg List.length hl.out
        rw [List.length_append, dl_len] at h; omega
      have hep := enc_pos u
      by_cases hb : 128 ≤ u
      · obtain ⟨c, hc⟩ : ∃ c : Nat, (u : Int) % 256 = (c : Int) := ⟨u % 256, by omega⟩
        obtain ⟨d, hd⟩ : ∃ d : Nat, d = c % 128 + 128 := ⟨_, rfl⟩
        have hor := or_128 c (by omega)
        rw [← hd] at hor
        have hd2 : d < 256 := by omega
        have HN := Lib.hid (show (T ++ ⟨#[UInt8.ofNat d]⟩).data.toList ++ enc (u / 128) = enc U by
          rw [dl_app, List.append_assoc]
          show _ ++ ([UInt8.ofNat d] ++ _) = _
          rw [List.singleton_append, show d = u % 128 + 128 by omega, ← enc_big hb]; exact hl.out)
        have hcv := conv1 d hd2 wr
        have hsz : (ByteArray.mk #[UInt8.ofNat d]).size = 1 := rfl
        clear hd
        go_wp2
        go_roundw
        case rel => exact ⟨u / 128, T ++ ⟨#[UInt8.ofNat d]⟩, by go_num, by omega, rfl, HN, below_alloc hnx _⟩
        case measure => simp [intOf]; omega
      · have HE := Lib.hid (show T ++ ⟨#[UInt8.ofNat u]⟩ = S from dl_inj (by
          rw [dl_app, HB.out]
          show _ ++ [UInt8.ofNat u] = _
          rw [← enc_small (by omega)]; exact hl.out))
        have hcv := conv1 u (by omega) wr
        have hsz : (ByteArray.mk #[UInt8.ofNat u]).size = 1 := rfl
        go_wp2
        go_ret
        exact ⟨by rw [HE.out]; rfl, below_alloc hnx _⟩
theorem bytesOf_pos (n : Int) : 1 ≤ (bytesOf n).size := by rw [bytesOf_size]; exact enc_pos _
theorem bytesOf_le (n : Int) (h1 : -9223372036854775808 ≤ n) (h2 : n ≤ 9223372036854775807) : (bytesOf n).size ≤ 10 := by
  rw [bytesOf_size]; exact enc_ten _ (fold_lt n h1 h2)

/-- A text's bytes. -/
def textOf (s : ByteArray) : ByteArray := bytesOf s.size ++ s

theorem text_any (s : ByteArray) (w : World) (hs : s.size ≤ 1000000) :
    Calls Try.prog 36 #[.string s] w fun e w' => e = .returned (.string (textOf s)) ∧ Below w.heap.size w w' := by
  have hb := bytesOf_le s.size (by omega) (by omega)
  have cN := fun w => num_any s.size w (by omega) (by omega)
  unfold textOf
  generalize bytesOf s.size = N at hb cN ⊢
  have CN := Lib.hid cN
  clear cN
  go_enter Try.func36, Try.ntmps36
  go_wp2_with (go_at_call 35; (with_reducible refine (CN.out _).mono ?_); rintro e w1 ⟨rfl, hb1⟩)
  go_ret
  exact ⟨rfl, hb1⟩

theorem refText_any (s : ByteArray) (w : World) (hs : s.size ≤ 1000000) :
    Calls Try.prog 39 #[.string s] w fun e w' => e = .returned (.string (textOf s)) ∧ Below w.heap.size w w' := by
  have hb := bytesOf_le s.size (by omega) (by omega)
  have cN := fun w => refNum_any s.size w (by omega) (by omega)
  unfold textOf
  generalize bytesOf s.size = N at hb cN ⊢
  have CN := Lib.hid cN
  clear cN
  go_enter Try.func39, Try.ntmps39
  go_wp2_with (go_at_call 38; (with_reducible refine (CN.out _).mono ?_); rintro e w1 ⟨rfl, hb1⟩)
  go_ret
  exact ⟨rfl, hb1⟩

/-- A bool's bytes. -/
def bitOf (b : Bool) : ByteArray := bytesOf (if b then 1 else 0)

end Go.Proofs.Ytfhonobaddkmhaa
