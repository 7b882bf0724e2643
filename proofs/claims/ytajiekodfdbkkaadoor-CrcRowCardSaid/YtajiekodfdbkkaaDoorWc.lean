/- number and Four, of both. -/
import Derived.Test.YtajiekodfdbkkaaDoorWb
import Derived.BigQuiet
import Derived.Deep.QuietTactic
import Derived.Laws.IdiomStrings
namespace Go.Proofs.YtajiekodfdbkkaaDoor
open Go.RowKit Crc

/-- The number of four bytes, the lowest first. -/
def num (s : ByteArray) : Nat := (s.data.toList.getD 0 0).toNat + 256 * (s.data.toList.getD 1 0).toNat + 65536 * (s.data.toList.getD 2 0).toNat + 16777216 * (s.data.toList.getD 3 0).toNat
theorem num_lt (s : ByteArray) : num s < 4294967296 := by
  unfold num
  have h0 := (s.data.toList.getD 0 0).toNat_lt
  have h1 := (s.data.toList.getD 1 0).toNat_lt
  have h2 := (s.data.toList.getD 2 0).toNat_lt
  have h3 := (s.data.toList.getD 3 0).toNat_lt
  omega
theorem getD_at (s : ByteArray) (i : Nat) (h : i < s.size) : s.data.toList.getD i 0 = s[i] := by
  have h2 : i < s.data.toList.length := by simpa using h
  rw [List.getD_eq_getElem?_getD, List.getElem?_eq_getElem h2]; rfl

theorem or_join (i : Nat) (x y : Nat) (hx : x < 2 ^ i) (hx2 : x < 4294967296) (hy : 2 ^ i * y < 4294967296) : bits .or .u32 (x : Int) ((2 ^ i * y : Nat) : Int) = ((x + 2 ^ i * y : Nat) : Int) := by
  rw [u32_or_nat _ _ hx2 hy, Nat.or_comm, ← Nat.two_pow_add_eq_or_of_lt hx y, Nat.add_comm]

theorem num_eqs (s : ByteArray) (hs : 4 ≤ s.size) : ∃ b0 b1 b2 b3 c1 c2 c3 o1 o2 : Nat,
    IntKind.u32.wrap (s[0].toNat : Int) = (b0 : Int) ∧ IntKind.u32.wrap (s[1].toNat : Int) = (b1 : Int) ∧ IntKind.u32.wrap (s[2].toNat : Int) = (b2 : Int) ∧ IntKind.u32.wrap (s[3].toNat : Int) = (b3 : Int) ∧
    IntKind.u32.wrap ((b1 : Int) * 256) = (c1 : Int) ∧ IntKind.u32.wrap ((b2 : Int) * 65536) = (c2 : Int) ∧ IntKind.u32.wrap ((b3 : Int) * 16777216) = (c3 : Int) ∧
    bits .or .u32 (b0 : Int) (c1 : Int) = (o1 : Int) ∧ bits .or .u32 (o1 : Int) (c2 : Int) = (o2 : Int) ∧ bits .or .u32 (o2 : Int) (c3 : Int) = (num s : Int) := by
  have h0 := s[0].toNat_lt
  have h1 := s[1].toNat_lt
  have h2 := s[2].toNat_lt
  have h3 := s[3].toNat_lt
  refine ⟨s[0].toNat, s[1].toNat, s[2].toNat, s[3].toNat, 2 ^ 8 * s[1].toNat, 2 ^ 16 * s[2].toNat, 2 ^ 24 * s[3].toNat, s[0].toNat + 2 ^ 8 * s[1].toNat, s[0].toNat + 2 ^ 8 * s[1].toNat + 2 ^ 16 * s[2].toNat, ?_, ?_, ?_, ?_, ?_, ?_, ?_, ?_, ?_, ?_⟩
  · exact IntWalk.u32_in _ (by omega)
  · exact IntWalk.u32_in _ (by omega)
  · exact IntWalk.u32_in _ (by omega)
  · exact IntWalk.u32_in _ (by omega)
  · rw [IntWalk.u32_in _ (by omega)]; simp; omega
  · rw [IntWalk.u32_in _ (by omega)]; simp; omega
  · rw [IntWalk.u32_in _ (by omega)]; simp; omega
  · exact or_join 8 _ _ (by omega) (by omega) (by omega)
  · exact or_join 16 _ _ (by omega) (by omega) (by omega)
  · rw [or_join 24 _ _ (by omega) (by omega) (by omega)]
    unfold num
    rw [getD_at s 0 (by omega), getD_at s 1 (by omega), getD_at s 2 (by omega), getD_at s 3 (by omega)]

set_option maxHeartbeats 4000000 in
theorem number_any (s : ByteArray) (w : World) (hs : 4 ≤ s.size) :
    Calls Tryd.prog 16 #[.string s] w fun e w' => e = .returned (.int .u32 (num s)) ∧ ∃ n, w' = w.drewN n := by
  have h0 : 0 < s.size := by omega
  have h1 : 1 < s.size := by omega
  have h2 : 2 < s.size := by omega
  have h3 : 3 < s.size := by omega
  have g0 : (0 : Int) < (s.size : Int) := by omega
  have g1 : (1 : Int) < (s.size : Int) := by omega
  have g2 : (2 : Int) < (s.size : Int) := by omega
  have g3 : (3 : Int) < (s.size : Int) := by omega
  obtain ⟨b0, b1, b2, b3, c1, c2, c3, o1, o2, e0, e1, e2, e3, f1, f2, f3, q1, q2, q3⟩ := num_eqs s hs
  generalize num s = N at q3 ⊢
  go_enter Tryd.func16, Tryd.ntmps16
  go_wp2
  go_quiet (fail)
  go_wp2
  go_ret
  exact ⟨rfl, _, rfl⟩

set_option maxHeartbeats 4000000 in
theorem refNumber_any (s : ByteArray) (w : World) (hs : 4 ≤ s.size) :
    Calls Tryd.prog 17 #[.string s] w fun e w' => e = .returned (.int .u32 (num s)) ∧ ∃ n, w' = w.drewN n := by
  have h0 : 0 < s.size := by omega
  have h1 : 1 < s.size := by omega
  have h2 : 2 < s.size := by omega
  have h3 : 3 < s.size := by omega
  have g0 : (0 : Int) < (s.size : Int) := by omega
  have g1 : (1 : Int) < (s.size : Int) := by omega
  have g2 : (2 : Int) < (s.size : Int) := by omega
  have g3 : (3 : Int) < (s.size : Int) := by omega
  obtain ⟨b0, b1, b2, b3, c1, c2, c3, o1, o2, e0, e1, e2, e3, f1, f2, f3, q1, q2, q3⟩ := num_eqs s hs
  generalize num s = N at q3 ⊢
  go_enter Tryd.func17, Tryd.ntmps17
  go_wp2
  go_quiet (fail)
  go_wp2
  go_ret
  exact ⟨rfl, _, rfl⟩

/-- A number in four bytes. -/
def fourL (n : Nat) : List UInt8 := [UInt8.ofNat (n % 256), UInt8.ofNat (n / 256 % 256), UInt8.ofNat (n / 65536 % 256), UInt8.ofNat (n / 16777216)]
def four (n : Nat) : ByteArray := ⟨(fourL n).toArray⟩
theorem four_size (n : Nat) : (four n).size = 4 := rfl

theorem four_conv (b0 b1 b2 b3 : UInt8) (w : World) :
    (convert 32 9 (.slice (some ⟨w.heap.size, 0, none⟩) 4 4)).run Tryd.prog (w.alloc (.cells #[.int .u8 b0.toNat, .int .u8 b1.toNat, .int .u8 b2.toNat, .int .u8 b3.toNat] 5)) =
      .ok (.string ⟨#[b0, b1, b2, b3]⟩) (w.alloc (.cells #[.int .u8 b0.toNat, .int .u8 b1.toNat, .int .u8 b2.toNat, .int .u8 b3.toNat] 5)) := by
  refine run_convert_bytes_back (P := Tryd.prog) _ 32 9 5 ⟨w.heap.size, 0, none⟩ 4 [b0, b1, b2, b3] Tryd.underlying32 Tryd.underlying5 Tryd.underlying9 ?_
  intro j hj
  match j, hj with
  | 0, _ => simp [Addr.add]
  | 1, _ => simp [Addr.add]
  | 2, _ => simp [Addr.add]
  | 3, _ => simp [Addr.add]

theorem ofNat_val (n : Nat) (h : n < 256) : ((UInt8.ofNat n).toNat : Int) = n := by
  rw [UInt8.toNat_ofNat']; omega

theorem four_eqs (n : Nat) (hn : n < 4294967296) : ∃ b0 b1 b2 b3 : UInt8, (n : Int) % 256 = (b0.toNat : Int) ∧ (n : Int) / 256 % 256 = (b1.toNat : Int) ∧ (n : Int) / 65536 % 256 = (b2.toNat : Int) ∧ (n : Int) / 16777216 = (b3.toNat : Int) ∧ four n = ⟨#[b0, b1, b2, b3]⟩ := by
  refine ⟨UInt8.ofNat (n % 256), UInt8.ofNat (n / 256 % 256), UInt8.ofNat (n / 65536 % 256), UInt8.ofNat (n / 16777216), ?_, ?_, ?_, ?_, rfl⟩
  · rw [ofNat_val _ (by omega)]; omega
  · rw [ofNat_val _ (by omega)]; omega
  · rw [ofNat_val _ (by omega)]; omega
  · rw [ofNat_val _ (by omega)]; omega

set_option maxHeartbeats 4000000 in
theorem four_any (n : Nat) (w : World) (hn : n < 4294967296) :
    Calls Tryd.prog 14 #[.int .u32 n] w fun e w' => e = .returned (.string (four n)) ∧ Below w.heap.size w w' := by
  obtain ⟨b0, b1, b2, b3, e0, e1, e2, e3, hf⟩ := four_eqs n hn
  rw [hf]
  clear hf
  have hc := four_conv b0 b1 b2 b3 w
  go_enter Tryd.func14, Tryd.ntmps14
  go_wp2
  go_ret
  exact ⟨rfl, (Below.refl _ _).alloc (Nat.le_refl _) _⟩

set_option maxHeartbeats 4000000 in
theorem refFour_any (n : Nat) (w : World) (hn : n < 4294967296) :
    Calls Tryd.prog 15 #[.int .u32 n] w fun e w' => e = .returned (.string (four n)) ∧ Below w.heap.size w w' := by
  obtain ⟨b0, b1, b2, b3, e0, e1, e2, e3, hf⟩ := four_eqs n hn
  rw [hf]
  clear hf
  have hc := four_conv b0 b1 b2 b3 w
  go_enter Tryd.func15, Tryd.ntmps15
  go_wp2
  go_ret
  exact ⟨rfl, (Below.refl _ _).alloc (Nat.le_refl _) _⟩

end Go.Proofs.YtajiekodfdbkkaaDoor
