/- What Sum gives. -/
import Derived.Test.YtajiekodfdbkkaaDoorChecked
import Derived.Test.YtajiekodfdbkkaaDoorMth
import Derived.WalkKit
import Derived.Lib.Hide
import Derived.KernelRfl
import Derived.Handy
namespace Go.Proofs.YtajiekodfdbkkaaDoor
open Go.RowKit Crc

theorem xorU (x y : BitVec 32) : bits .xor .u32 (x.toNat : Int) (y.toNat : Int) = ((x ^^^ y).toNat : Int) := by
  rw [u32_xor_nat _ _ x.isLt y.isLt, BitVec.toNat_xor]

theorem notU (x : BitVec 32) : bits .xor .u32 IntKind.u32.max (x.toNat : Int) = ((~~~x).toNat : Int) := by
  have h := xorU (BitVec.allOnes 32) x
  rw [BitVec.allOnes_xor] at h
  exact h

theorem byteU (b : UInt8) : (b.toNat : Int) % 4294967296 = ((BitVec.ofNat 32 b.toNat).toNat : Int) := by
  have := b.toNat_lt
  rw [BitVec.toNat_ofNat]; omega

/-- The table lies where it is read. -/
def Laid (w : World) : Prop := 0 < w.heap.size ∧ ∀ k : Nat, k < 16 → w.cell? ⟨0, k, none⟩ = some (.int .u32 (tab k).toNat)

/-- One look into the table. -/
theorem look (w : World) (hL : Laid w) (m : BitVec 32) : ∃ (i : Nat) (q t m' : BitVec 32), i < 16 ∧ bits .and .u32 (m.toNat : Int) 15 = (i : Int) ∧ (m.toNat : Int) / 16 = (q.toNat : Int) ∧
    w.cell? ⟨0, i, none⟩ = some (.int .u32 t.toNat) ∧ bits .xor .u32 (q.toNat : Int) (t.toNat : Int) = (m'.toNat : Int) ∧ m' = Tn 4 m := by
  refine ⟨m.toNat % 16, m >>> 4, tab (m.toNat % 16), _, by omega, ?_, ?_, hL.2 _ (by omega), xorU _ _, ?_⟩
  · have h := u32_and_nat m.toNat 15 m.isLt (by decide)
    rw [nat_mask4] at h
    exact h
  · rw [BitVec.toNat_ushiftRight, Nat.shiftRight_eq_div_pow]; omega
  · rw [Tn4]

theorem take_snoc (s : ByteArray) (k : Nat) (h : k < s.size) : s.data.toList.take (k + 1) = s.data.toList.take k ++ [s[k]] := by
  rw [List.take_succ_eq_append_getElem (by simpa using h)]; rfl

/-- The state behind k bytes. -/
def st (s : ByteArray) (k : Nat) : BitVec 32 := run (BitVec.allOnes 32) (s.data.toList.take k)
theorem st_succ (s : ByteArray) (k : Nat) (h : k < s.size) : st s (k + 1) = Tn 4 (Tn 4 (st s k ^^^ BitVec.ofNat 32 s[k].toNat)) := by
  unfold st; rw [take_snoc s k h, run_snoc, ← Tn_add]; rfl
theorem st_end (s : ByteArray) : ~~~ (st s s.size) = sumOf s.data.toList := by
  unfold st sumOf; rw [List.take_of_length_le (by simp)]

theorem ret_int {k : IntKind} {a b : Int} (h : a = b) : Ending.returned (.int k a) = .returned (.int k b) := by rw [h]
theorem val_of {k : IntKind} {x y : BitVec 32} (h : x = y) : Value.int k x.toNat = .int k y.toNat := by rw [h]

set_option maxHeartbeats 4000000 in
theorem sum_any (s : ByteArray) (w : World) (hs : s.size ≤ maxLen) (hL : Laid w) :
    Calls Tryd.prog 10 #[.string s] w fun e w' => e = .returned (.int .u32 (sumOf s.data.toList).toNat) ∧ w = w' := by
  unfold maxLen at hs
  have HL := Lib.hid hL
  clear hL
  go_enter Tryd.func10, Tryd.ntmps10
  go_wp2
  go_loop [3, 7] (fun n i => ∃ k : Nat, k ≤ s.size ∧ i = .int .i64 k ∧ n = .int .u32 (st s k).toNat) (fun _ i => s.size - (intOf i).toNat)
  case atStart => exact ⟨0, Nat.zero_le _, rfl, rfl⟩
  case round =>
    obtain ⟨k, hk, rfl, rfl⟩ := hrel
    by_cases hlt : k < s.size
    · obtain ⟨b, m0, e0, x0, h0⟩ : ∃ b m : BitVec 32, (s[k].toNat : Int) % 4294967296 = (b.toNat : Int) ∧ bits .xor .u32 ((st s k).toNat : Int) (b.toNat : Int) = (m.toNat : Int) ∧ m = st s k ^^^ BitVec.ofNat 32 s[k].toNat := ⟨_, _, byteU s[k], xorU _ _, rfl⟩
      obtain ⟨i1, q1, t1, m1, hi1, ha1, hd1, hc1, hx1, hm1⟩ := look w HL.out m0
      obtain ⟨i2, q2, t2, m2, hi2, ha2, hd2, hc2, hx2, hm2⟩ := look w HL.out m1
      have HE := Lib.hid (show m2 = st s (k + 1) by rw [st_succ s k hlt, ← h0, ← hm1, hm2])
      clear h0 hm1 hm2
      go_wp2
      go_round
      case rel => exact ⟨k + 1, by omega, by go_num, val_of HE.out⟩
      case measure => simp [intOf]; omega
    · have x0 := notU (st s k)
      have HE := Lib.hid (show ~~~ (st s k) = sumOf s.data.toList by rw [← st_end, show k = s.size from by omega])
      generalize ~~~ (st s k) = m at x0 HE
      have hsg : IntKind.u32.signed = false := rfl
      go_wp2
      go_ret
      exact ⟨ret_int (by rw [HE.out]), rfl⟩
end Go.Proofs.YtajiekodfdbkkaaDoor
