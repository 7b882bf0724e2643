/- What the document's Sum gives; number and Four, of both. -/
import Derived.Test.YtajiekodfdbkkaaDoorWa
import Derived.BigQuiet
import Derived.Deep.QuietTactic
namespace Go.Proofs.YtajiekodfdbkkaaDoor
open Go.RowKit Crc

theorem Tn_succ (j : Nat) (x : BitVec 32) : Tn (j + 1) x = T (Tn j x) := by rw [Tn_add]; rfl

/-- One step of a bit, as the document's answer goes. -/
theorem bit1 (m : BitVec 32) : (∃ q m' : BitVec 32, bits .and .u32 (m.toNat : Int) 1 = 1 ∧ (m.toNat : Int) / 2 = (q.toNat : Int) ∧ bits .xor .u32 (q.toNat : Int) 3988292384 = (m'.toNat : Int) ∧ m' = T m) ∨
    (∃ m' : BitVec 32, bits .and .u32 (m.toNat : Int) 1 = 0 ∧ (m.toNat : Int) / 2 = (m'.toNat : Int) ∧ m' = T m) := by
  have ha : bits .and .u32 (m.toNat : Int) 1 = ((m.toNat % 2 : Nat) : Int) := by
    have h := u32_and_nat m.toNat 1 m.isLt (by decide)
    rw [nat_mask1] at h
    exact h
  have hd : (m.toNat : Int) / 2 = ((m >>> 1).toNat : Int) := by
    rw [BitVec.toNat_ushiftRight, Nat.shiftRight_eq_div_pow]; omega
  have hb : m.getLsbD 0 = decide (m.toNat % 2 = 1) := by
    rw [← BitVec.testBit_toNat, Nat.testBit_zero]
  by_cases h : m.toNat % 2 = 1
  · refine Or.inl ⟨_, _, by rw [ha, h]; rfl, hd, xorU _ P, ?_⟩
    unfold T; rw [if_pos (by rw [hb]; simp [h])]
  · have h0 : m.toNat % 2 = 0 := by omega
    refine Or.inr ⟨_, by rw [ha, h0]; rfl, hd, ?_⟩
    unfold T; rw [if_neg (by rw [hb]; simp [h])]

set_option maxHeartbeats 4000000 in
theorem refSum_any (s : ByteArray) (w : World) (hs : s.size ≤ maxLen) :
    Calls Tryd.prog 11 #[.string s] w fun e w' => e = .returned (.int .u32 (sumOf s.data.toList).toNat) ∧ w = w' := by
  unfold maxLen at hs
  go_enter Tryd.func11, Tryd.ntmps11
  go_wp2
  go_loop [3, 4] (fun n i => ∃ k : Nat, k ≤ s.size ∧ i = .int .i64 k ∧ n = .int .u32 (st s k).toNat) (fun _ i => s.size - (intOf i).toNat)
  case atStart => exact ⟨0, Nat.zero_le _, rfl, rfl⟩
  case round =>
    obtain ⟨k, hk, rfl, rfl⟩ := hrel
    by_cases hlt : k < s.size
    · obtain ⟨b, m0, e0, x0, h0⟩ : ∃ b m : BitVec 32, (s[k].toNat : Int) % 4294967296 = (b.toNat : Int) ∧ bits .xor .u32 ((st s k).toNat : Int) (b.toNat : Int) = (m.toNat : Int) ∧ m = st s k ^^^ BitVec.ofNat 32 s[k].toNat := ⟨_, _, byteU s[k], xorU _ _, rfl⟩
      have HE := Lib.hid (show Tn 8 m0 = st s (k + 1) by rw [st_succ s k hlt, ← h0, ← Tn_add])
      clear h0
      go_wp2
      clear e0 x0
      go_loop [3, 5] (fun n i => ∃ j : Nat, j ≤ 8 ∧ i = .int .i64 j ∧ n = .int .u32 (Tn j m0).toNat) (fun _ i => 8 - (intOf i).toNat)
      case atStart => exact ⟨0, Nat.zero_le _, rfl, rfl⟩
      case round =>
        obtain ⟨j, hj, rfl, rfl⟩ := hrel
        by_cases hj8 : j < 8
        · have HS := Lib.hid (Tn_succ j m0)
          rcases bit1 (Tn j m0) with ⟨q, m', ha, hd, hx, hm⟩ | ⟨m', ha, hd, hm⟩
          · have HM := Lib.hid (show m' = Tn (j + 1) m0 by rw [HS.out, hm])
            clear hm
            go_wp2
            go_round
            case rel => exact ⟨j + 1, by omega, by go_num, val_of HM.out⟩
            case measure => simp [intOf]; omega
          · have HM := Lib.hid (show m' = Tn (j + 1) m0 by rw [HS.out, hm])
            clear hm
            go_wp2
            go_round
            case rel => exact ⟨j + 1, by omega, by go_num, val_of HM.out⟩
            case measure => simp [intOf]; omega
        · have HJ := Lib.hid (show Tn j m0 = st s (k + 1) by rw [show j = 8 from by omega, HE.out])
          go_wp2
          go_round
          case rel => exact ⟨k + 1, by omega, by go_num, val_of HJ.out⟩
          case measure => simp [intOf]; omega
    · have x0 := notU (st s k)
      have HE := Lib.hid (show ~~~ (st s k) = sumOf s.data.toList by rw [← st_end, show k = s.size from by omega])
      generalize ~~~ (st s k) = m at x0 HE
      have hsg : IntKind.u32.signed = false := rfl
      go_wp2
      go_ret
      exact ⟨ret_int (by rw [HE.out]), rfl⟩

end Go.Proofs.YtajiekodfdbkkaaDoor
