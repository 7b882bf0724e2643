/- What Twin gives, of the program and of the document. -/
import Derived.Test.YtmomolmdkendiaaDoorShf
import Derived.Test.YtmomolmdkendiaaDoorWb
import Derived.Lib.SmallJoins
import Derived.Laws.IdiomStrings
namespace Go.Proofs.YtmomolmdkendiaaDoor
open Go.RowKit Nam
open Go.Lib (decDigits decDigits_one)

theorem L_app (a b : ByteArray) : L (a ++ b) = L a ++ L b := by unfold L; simp

/-- A twin's shown name. -/
def twinOf (s : ByteArray) (n : Nat) : ByteArray := s ++ ⟨#[126]⟩ ++ ⟨(decDigits n).toArray⟩
theorem L_twin (s : ByteArray) (n : Nat) : L (twinOf s n) = twin (L s) n := by
  unfold twinOf
  rw [L_app, L_app, List.append_assoc]; rfl
theorem dec_len (n : Nat) (h : n < 18446744073709551616) : (decDigits n).length ≤ 20 := by
  rw [Lib.decDigits_length]
  by_cases h0 : n < 1
  · rw [show n = 0 by omega, Lib.nDigits_small (by decide)]; decide
  · have h1 := (Lib.numDigits_eq n (by omega) h)
    have := h1.2
    rw [← h1.1]; split <;> omega
theorem dec_size (n : Nat) (h : n < 18446744073709551616) : (⟨(decDigits n).toArray⟩ : ByteArray).size ≤ 20 := dec_len n h
theorem twin_size (s : ByteArray) (n : Nat) (h : n < 18446744073709551616) : (twinOf s n).size ≤ s.size + 21 := by
  have := dec_size n h
  unfold twinOf
  rw [ByteArray.size_append, ByteArray.size_append]
  have : (⟨#[126]⟩ : ByteArray).size = 1 := rfl
  omega

theorem twin_small (s : ByteArray) (n : Nat) (w : World) (hn : n < 100) (hs : s.size ≤ 1000000) : Calls Tryd.prog 11 #[.string s, .int .i64 n] w fun e w' => e = .returned (.string (twinOf s n)) ∧ w = w' := by
  have HC := Lib.hid (fun w => Tryd.strconv_Itoa_small n hn w)
  have hz := dec_size n (by omega)
  have HT := Lib.hid (show twinOf s n = s ++ ⟨#[126]⟩ ++ ⟨(decDigits n).toArray⟩ from rfl)
  generalize twinOf s n = T at HT ⊢
  generalize (⟨(decDigits n).toArray⟩ : ByteArray) = D at HC HT hz
  go_enter Tryd.func11, Tryd.ntmps11
  go_wp2_with (go_at_call 15; (with_reducible refine (HC.out _).mono ?_); rintro e w1 ⟨rfl, rfl⟩)
  go_ret
  exact ⟨by rw [HT.out]; rfl, rfl⟩

/-- The table of powers of ten is laid. -/
def Laid (w : World) : Prop := Lib.TabIs Tryd.prog w "internal/strconv.uint64pow10" .u64 Lib.pow10Tab
theorem gPow : Tryd.prog.globalNamed "internal/strconv.uint64pow10" = some 0 := by kernel_rfl
theorem laid_below {w w' : World} (h : Laid w) (hb : Below w.heap.size w w') : Laid w' := Go.Joins.tab_stays gPow h hb (Nat.le_refl _)
theorem below_then {w w1 w2 : World} (h : Below w.heap.size w w1) (k : Below w1.heap.size w1 w2) : Below w.heap.size w w2 := h.trans (k.mono h.size)
theorem below_alloc {w w1 : World} (h : Below w.heap.size w w1) (o : Obj) : Below w.heap.size w (w1.alloc o) := h.alloc h.size o
theorem below_grow (w : World) (k : Nat) (os : Array Obj) : Below w.heap.size w (Sort.grow (w.drewN k) os) :=
  ⟨rfl, rfl, rfl, by simp [Sort.grow, World.drewN], fun i hi => by simp [Sort.grow, World.drewN, Array.getElem?_append_left hi]⟩
theorem itoa_nat (n : Nat) : Lib.itoa (n : Int) = decDigits n := by
  unfold Lib.itoa
  rw [if_neg (by omega)]; rfl

theorem twin_any (s : ByteArray) (n : Nat) (w : World) (hL : Laid w) (hn : n ≤ 9223372036854775807) (hs : s.size ≤ 1000000) : Calls Tryd.prog 11 #[.string s, .int .i64 n] w fun e w' => e = .returned (.string (twinOf s n)) ∧ Below w.heap.size w w' := by
  have hc := Tryd.strconv_Itoa (n : Int) (by omega) (by omega) w hL
  rw [itoa_nat] at hc
  have HC := Lib.hid (hc.mono (fun e w' (h : e = .returned (.string ⟨(decDigits n).toArray⟩) ∧ ∃ k os, w' = Sort.grow (w.drewN k) os) => (⟨h.1, by obtain ⟨k, os, e⟩ := h.2; rw [e]; exact below_grow w k os⟩ : e = .returned (.string ⟨(decDigits n).toArray⟩) ∧ Below w.heap.size w w')))
  have hz := dec_size n (by omega)
  have HT := Lib.hid (show twinOf s n = s ++ ⟨#[126]⟩ ++ ⟨(decDigits n).toArray⟩ from rfl)
  clear hc
  generalize twinOf s n = T at HT ⊢
  generalize (⟨(decDigits n).toArray⟩ : ByteArray) = D at HC HT hz
  go_enter Tryd.func11, Tryd.ntmps11
  go_wp2_with (go_at_call 15; (with_reducible refine HC.out.mono ?_); rintro e w1 ⟨rfl, hb⟩)
  go_ret
  exact ⟨by rw [HT.out]; rfl, hb⟩

theorem conv1 (d : Nat) (hd : d < 256) (w : World) :
    (convert 35 9 (.slice (some ⟨w.heap.size, 0, none⟩) 1 1)).run Tryd.prog (w.alloc (.cells #[.int .u8 (d : Int)] 5)) = .ok (.string ⟨#[UInt8.ofNat d]⟩) (w.alloc (.cells #[.int .u8 (d : Int)] 5)) := by
  refine run_convert_bytes_back (P := Tryd.prog) _ 35 9 5 ⟨w.heap.size, 0, none⟩ 1 [UInt8.ofNat d] Tryd.underlying35 Tryd.underlying5 Tryd.underlying9 ?_
  intro j hj
  have hv : (UInt8.ofNat d).toNat = d := by rw [UInt8.toNat_ofNat']; omega
  match j, hj with
  | 0, _ => simp [Addr.add, hv]

theorem dec_big {u : Nat} (h : ¬ u < 10) : decDigits u = decDigits (u / 10) ++ [UInt8.ofNat (48 + u % 10)] := by rw [decDigits, dif_neg h]

set_option maxRecDepth 100000 in
set_option maxHeartbeats 2000000 in
theorem refTwin_any (s : ByteArray) (n : Nat) (w : World) (hn : n ≤ 9223372036854775807) (hs : s.size ≤ 1000000) : Calls Tryd.prog 12 #[.string s, .int .i64 n] w fun e w' => e = .returned (.string (twinOf s n)) ∧ Below w.heap.size w w' := by
  have hlen := dec_len n (by omega)
  have HT := Lib.hid (show L (twinOf s n) = L s ++ (126 : UInt8) :: decDigits n from L_twin s n)
  generalize twinOf s n = T at HT ⊢
  have HD : Hid (decDigits n = decDigits n) := Lib.hid rfl
  generalize hD : decDigits n = D at hlen HT
  have HE := Lib.hid hD
  clear hD HD
  go_enter Tryd.func12, Tryd.ntmps12
  go_wp2
  go_loopw [5, 6] (fun d r wr => ∃ (u : Nat) (S : ByteArray), r = .int .u64 u ∧ u < 18446744073709551616 ∧ d = .string S ∧ Hid (decDigits u ++ L S = D) ∧ Below w.heap.size w wr) (fun _ r _ => (intOf r).toNat)
  case atStart => exact ⟨n, ⟨#[]⟩, by go_num, by omega, rfl, by show decDigits n ++ [] = D; rw [List.append_nil]; exact HE.out, Below.refl _ _⟩
  case round =>
    obtain ⟨u, S, rfl, hu, rfl, hl, hnx⟩ := hrel
    have hll : (decDigits u).length + S.size ≤ 20 := by
      have h := congrArg List.length hl.out
      rw [List.length_append, L_len] at h; omega
    by_cases hb : u < 10
    · have HF := Lib.hid (show s ++ ⟨#[126]⟩ ++ ⟨#[UInt8.ofNat (48 + u)]⟩ ++ S = T from L_inj (by
        rw [L_app, L_app, L_app, HT.out, ← hl.out, decDigits_one hb, List.append_assoc, List.append_assoc]; rfl))
      have hcv := conv1 (48 + u) (by omega) wr
      rw [show ((48 + u : Nat) : Int) = 48 + (u : Int) by omega] at hcv
      have hsz : (ByteArray.mk #[UInt8.ofNat (48 + u)]).size = 1 := rfl
      generalize UInt8.ofNat (48 + u) = b at HF hcv hsz
      have hsz2 : (ByteArray.mk #[126]).size = 1 := rfl
      go_wp2
      go_ret
      exact ⟨by rw [← HF.out]; rfl, below_alloc hnx _⟩
    · have HN := Lib.hid (show decDigits (u / 10) ++ L (⟨#[UInt8.ofNat (48 + u % 10)]⟩ ++ S) = D by
        rw [L_app, ← List.append_assoc]
        show (decDigits (u / 10) ++ [UInt8.ofNat (48 + u % 10)]) ++ L S = D
        rw [← dec_big hb]; exact hl.out)
      have hcv := conv1 (48 + u % 10) (by omega) wr
      rw [show ((48 + u % 10 : Nat) : Int) = 48 + (u : Int) % 10 by omega] at hcv
      have hsz : (ByteArray.mk #[UInt8.ofNat (48 + u % 10)]).size = 1 := rfl
      generalize UInt8.ofNat (48 + u % 10) = b at HN hcv hsz
      go_wp2
      go_roundw
      case rel => exact ⟨u / 10, ⟨#[b]⟩ ++ S, by go_num, by omega, rfl, HN, below_alloc hnx _⟩
      case measure => simp [intOf]; omega

end Go.Proofs.YtmomolmdkendiaaDoor
