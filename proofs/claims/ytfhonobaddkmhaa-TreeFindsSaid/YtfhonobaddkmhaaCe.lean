/- What Num of the document's Reader gives; of both, behind Bad. -/
import Derived.Test.YtfhonobaddkmhaaCd
import Derived.BigQuiet
import Derived.Deep.QuietTactic
namespace Go.Proofs.Ytfhonobaddkmhaa
open Go.RowKit Cod

theorem and_127 : ∀ x : Nat, x < 256 → bits .and .u8 (x : Int) 127 = ((x % 128 : Nat) : Int) := by decide +kernel
theorem and_one (z : Nat) (h : z < 18446744073709551616) : bits .and .u64 (z : Int) 1 = ((z % 2 : Nat) : Int) := by
  have k := u64_and_nat z 1 h (by decide)
  rw [Nat.and_one_is_mod] at k
  exact k

set_option maxRecDepth 100000 in
set_option maxHeartbeats 4000000 in
theorem refRnum_any (b : Nat) (s : ByteArray) (p : Nat) (w : World) (hs : s.size ≤ 1000000) (hp : p ≤ s.size) (hr : Rd 66 w b s p false) :
    Calls Try.prog 52 #[.pointer (some ⟨b, 0, none⟩)] w (NumPost 66 b s p w) := by
  have HR := Lib.hid hr
  clear hr
  go_enter Try.func52, Try.ntmps52
  go_wp2
  go_loopw [3, 4] (fun uu i wr => ∃ k u q : Nat, uu = .int .u64 u ∧ i = .int .i64 k ∧ k ≤ 9 ∧ q ≤ s.size ∧ Hid (p + k = q) ∧ Hid (u < 2 ^ (7 * k)) ∧ Hid (num (s.data.toList.drop q) k u = num (s.data.toList.drop p) 0 0) ∧ Rd 66 wr b s q false ∧ w.grownBy wr (some b)) (fun _ i _ => 20 - (intOf i).toNat)
  case atStart => exact ⟨0, 0, p, rfl, rfl, by omega, hp, rfl, Nat.one_pos, rfl, HR.out, by_refl _ _⟩
  case round =>
    obtain ⟨k, u, q, rfl, rfl, hk, hq, HQ, HU, HN, hrr, hby⟩ := hrel
    obtain ⟨hc0, hc1, hc2⟩ := hrr.cells
    have hf1 := hrr.frozen 1
    have hf2 := hrr.frozen 2
    have HRR := Lib.hid hrr
    have HBY := Lib.hid hby
    clear hrr hby
    by_cases hlt : q < s.size
    · have hx := s[q].toNat_lt
      have HD := Lib.hid (drop_at s q hlt)
      obtain ⟨x, hxe⟩ : ∃ x : Nat, x = s[q].toNat % 128 := ⟨_, rfl⟩
      have ha := and_127 s[q].toNat hx
      rw [← hxe] at ha
      have hx2 : x < 128 := by omega
      have HX := Lib.hid hxe
      clear hxe
      have hge : decide (s.size ≤ q) = false := decide_eq_false (by omega)
      have hk10 : ¬ k = 10 := by omega
      by_cases h9 : k = 9
      · subst h9
        by_cases hb1 : 1 < s[q].toNat
        · have HW := Lib.hid (show rd (s.data.toList.drop p) = none from rd_none (by rw [← HN.out, HD.out, num_over hb1]))
          go_wp2
          go_quiet (fail)
          go_wp2
          go_quiet (fail)
          go_wp2
          go_ret
          exact Or.inr ⟨HW.out, rfl, ⟨q + 1, by omega, ((HRR.out.drewN _).setAt (q + 1)).setBad⟩, by_set (by_set (by_drewN HBY.out _) _ _) _ _⟩
        · by_cases hb0 : s[q].toNat = 0
          · have HW := Lib.hid (show rd (s.data.toList.drop p) = none from rd_none (by rw [← HN.out, HD.out, num_more (by omega) hb0]))
            go_wp2
            go_quiet (fail)
            go_wp2
            go_quiet (fail)
            go_wp2
            go_ret
            exact Or.inr ⟨HW.out, rfl, ⟨q + 1, by omega, ((HRR.out.drewN _).setAt (q + 1)).setBad⟩, by_set (by_set (by_drewN HBY.out _) _ _) _ _⟩
          · obtain ⟨y1, y2, y3, y4⟩ := or_above 9 u x (by omega) HU.out hx2 (fun _ => by have := HX.out; omega)
            obtain ⟨y, hy⟩ : ∃ y, 2 ^ (7 * 9) * x = y := ⟨_, rfl⟩
            obtain ⟨z, hz⟩ : ∃ z, u + y = z := ⟨_, rfl⟩
            rw [hy] at y1 y2 y3 y4
            rw [hz] at y2 y3 y4
            have hsh : IntKind.u64.wrap ((x : Int) * 9223372036854775808) = (y : Int) := by
              rw [show (x : Int) * 9223372036854775808 = (y : Int) by omega, IntWalk.u64_in _ (by omega)]
            have HW := Lib.hid (show rd (s.data.toList.drop p) = some (unfold z, 9 + 1) from rd_of (by
              rw [← HN.out, HD.out, num_last (fun _ => by omega) (by omega) (fun _ => by omega), ← HX.out, hy, hz]))
            have HS := Lib.hid (show p + 10 = q + 1 by have := HQ.out; omega)
            have HZ := Lib.hid (show unfold z = if z % 2 = 1 then -1 - ((z / 2 : Nat) : Int) else ((z / 2 : Nat) : Int) from rfl)
            have hand := and_one z y2
            clear hy hz y3
            by_cases hz2 : z % 2 = 1
            · go_wp2
              go_quiet (fail)
              go_wp2
              go_quiet (fail)
              go_wp2
              go_ret
              exact Or.inl ⟨_, _, HW.out, ret_int (by rw [HZ.out, if_pos hz2]; omega), by rw [show p + (9 + 1) = q + 1 from HS.out]; exact (HRR.out.drewN _).setAt (q + 1), by_set (by_drewN HBY.out _) _ _⟩
            · go_wp2
              go_quiet (fail)
              go_wp2
              go_quiet (fail)
              go_wp2
              go_ret
              exact Or.inl ⟨_, _, HW.out, ret_int (by rw [HZ.out, if_neg hz2]; omega), by rw [show p + (9 + 1) = q + 1 from HS.out]; exact (HRR.out.drewN _).setAt (q + 1), by_set (by_drewN HBY.out _) _ _⟩
      · obtain ⟨y1, y2, y3, y4⟩ := or_above k u x (by omega) HU.out hx2 (by omega)
        obtain ⟨y, hy⟩ : ∃ y, 2 ^ (7 * k) * x = y := ⟨_, rfl⟩
        obtain ⟨z, hz⟩ : ∃ z, u + y = z := ⟨_, rfl⟩
        rw [hy] at y1 y2 y3 y4
        rw [hz] at y2 y3 y4
        obtain ⟨m, hm⟩ : ∃ m, 7 * k = m := ⟨_, rfl⟩
        have hm1 : m ≤ 56 := by omega
        have hsh : IntKind.u64.wrap ((x : Int) * 2 ^ m) = (y : Int) := by
          rw [← hm, show (x : Int) * 2 ^ (7 * k) = (y : Int) by rw [← hy, Int.natCast_mul, Int.natCast_pow, Int.mul_comm]; rfl, IntWalk.u64_in _ (by omega)]
        have hmi : 7 * (k : Int) = (m : Int) := by omega
        have HZ3 := Lib.hid y3
        have HY := Lib.hid hy
        have HZZ := Lib.hid hz
        have HM := Lib.hid hm
        clear hm hy hz y3
        by_cases hm : 128 ≤ s[q].toNat
        · have HW := Lib.hid (show num (s.data.toList.drop (q + 1)) (k + 1) z = num (s.data.toList.drop p) 0 0 by
            rw [← HN.out, HD.out, num_go (fun h => absurd h h9) hm, ← HX.out, HY.out, HZZ.out])
          have HS := Lib.hid (show p + (k + 1) = q + 1 by have := HQ.out; omega)
          go_wp2
          go_quiet (fail)
          go_wp2
          go_quiet (fail)
          go_wp2
          go_roundw
          case rel => exact ⟨k + 1, z, q + 1, rfl, by go_num, by omega, by omega, HS, HZ3, HW, (HRR.out.drewN _).setAt (q + 1), by_set (by_drewN HBY.out _) _ _⟩
          case measure => simp [intOf]; omega
        · by_cases hb0 : s[q].toNat = 0
          · by_cases hk0 : k = 0
            · have HS := Lib.hid (show p + (k + 1) = q + 1 by have := HQ.out; omega)
              have HW := Lib.hid (show rd (s.data.toList.drop p) = some (unfold z, k + 1) from rd_of (by
                rw [← HN.out, HD.out, num_last (fun h => absurd h h9) (by omega) (fun _ => by omega), ← HX.out, HY.out, HZZ.out]))
              have HZ := Lib.hid (show unfold z = if z % 2 = 1 then -1 - ((z / 2 : Nat) : Int) else ((z / 2 : Nat) : Int) from rfl)
              have hand := and_one z y2
              have ha0 : bits .and .u8 0 127 = (x : Int) := by have h := ha; rw [hb0] at h; exact h
              have hor0 : bits .or .u64 (u : Int) (x : Int) = (z : Int) := by
                have e : x = y := by have := HY.out; rw [hk0, Nat.mul_zero, Nat.pow_zero, Nat.one_mul] at this; exact this
                rw [e]; exact y4
              by_cases hz2 : z % 2 = 1
              · go_wp2
                go_quiet (fail)
                go_wp2
                go_quiet (fail)
                go_wp2
                go_ret
                exact Or.inl ⟨_, _, HW.out, ret_int (by rw [HZ.out, if_pos hz2]; omega), by rw [HS.out]; exact (HRR.out.drewN _).setAt (q + 1), by_set (by_drewN HBY.out _) _ _⟩
              · go_wp2
                go_quiet (fail)
                go_wp2
                go_quiet (fail)
                go_wp2
                go_ret
                exact Or.inl ⟨_, _, HW.out, ret_int (by rw [HZ.out, if_neg hz2]; omega), by rw [HS.out]; exact (HRR.out.drewN _).setAt (q + 1), by_set (by_drewN HBY.out _) _ _⟩
            · have HW := Lib.hid (show rd (s.data.toList.drop p) = none from rd_none (by rw [← HN.out, HD.out, num_more (by omega) hb0]))
              go_wp2
              go_quiet (fail)
              go_wp2
              go_quiet (fail)
              go_wp2
              go_ret
              exact Or.inr ⟨HW.out, rfl, ⟨q + 1, by omega, ((HRR.out.drewN _).setAt (q + 1)).setBad⟩, by_set (by_set (by_drewN HBY.out _) _ _) _ _⟩
          · have HS := Lib.hid (show p + (k + 1) = q + 1 by have := HQ.out; omega)
            have HW := Lib.hid (show rd (s.data.toList.drop p) = some (unfold z, k + 1) from rd_of (by
              rw [← HN.out, HD.out, num_last (fun h => absurd h h9) (by omega) (fun _ => by omega), ← HX.out, HY.out, HZZ.out]))
            have HZ := Lib.hid (show unfold z = if z % 2 = 1 then -1 - ((z / 2 : Nat) : Int) else ((z / 2 : Nat) : Int) from rfl)
            have hand := and_one z y2
            by_cases hz2 : z % 2 = 1
            · go_wp2
              go_quiet (fail)
              go_wp2
              go_quiet (fail)
              go_wp2
              go_ret
              exact Or.inl ⟨_, _, HW.out, ret_int (by rw [HZ.out, if_pos hz2]; omega), by rw [HS.out]; exact (HRR.out.drewN _).setAt (q + 1), by_set (by_drewN HBY.out _) _ _⟩
            · go_wp2
              go_quiet (fail)
              go_wp2
              go_quiet (fail)
              go_wp2
              go_ret
              exact Or.inl ⟨_, _, HW.out, ret_int (by rw [HZ.out, if_neg hz2]; omega), by rw [HS.out]; exact (HRR.out.drewN _).setAt (q + 1), by_set (by_drewN HBY.out _) _ _⟩
    · have HW := Lib.hid (show rd (s.data.toList.drop p) = none from rd_none (by rw [← HN.out, drop_end s q hlt]; rfl))
      have hge : decide (s.size ≤ q) = true := decide_eq_true (by omega)
      go_wp2
      go_quiet (fail)
      go_wp2
      go_ret
      exact Or.inr ⟨HW.out, rfl, ⟨q, hq, (HRR.out.drewN _).setBad⟩, by_set (by_drewN HBY.out _) _ _⟩
end Go.Proofs.Ytfhonobaddkmhaa
