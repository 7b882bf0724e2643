/- What Num of code's Reader gives. -/
import Derived.Test.YtfhonobaddkmhaaCj
namespace Go.Proofs.Ytfhonobaddkmhaa
open Go.RowKit Cod

theorem andNot_128 : ∀ x : Nat, x < 256 → bits .andNot .u8 (x : Int) 128 = ((x % 128 : Nat) : Int) := by decide +kernel

/-- u has 7k bits: the next ones are laid above them. -/
theorem or_above (k u x : Nat) (hk : k ≤ 9) (hu : u < 2 ^ (7 * k)) (hx : x < 128) (h9 : k = 9 → x ≤ 1) :
    2 ^ (7 * k) * x < 18446744073709551616 ∧ u + 2 ^ (7 * k) * x < 18446744073709551616 ∧ u + 2 ^ (7 * k) * x < 2 ^ (7 * (k + 1)) ∧ bits .or .u64 (u : Int) ((2 ^ (7 * k) * x : Nat) : Int) = ((u + 2 ^ (7 * k) * x : Nat) : Int) := by
  have hp : 2 ^ (7 * (k + 1)) = 2 ^ (7 * k) * 128 := by rw [show 7 * (k + 1) = 7 * k + 7 by omega, Nat.pow_add]
  have h1 : 2 ^ (7 * k) * x + 2 ^ (7 * k) ≤ 2 ^ (7 * k) * 128 := by
    rw [← Nat.mul_succ]; exact Nat.mul_le_mul_left _ (by omega)
  have h2 : 2 ^ (7 * k) * x + 2 ^ (7 * k) ≤ 18446744073709551616 := by
    by_cases e : k = 9
    · subst e
      have := h9 rfl
      have h3 : 2 ^ (7 * 9) * x ≤ 2 ^ (7 * 9) * 1 := Nat.mul_le_mul_left _ this
      have h4 : (2 : Nat) ^ (7 * 9) = 9223372036854775808 := by decide
      omega
    · have h3 : 2 ^ (7 * k) ≤ 2 ^ 56 := Nat.pow_le_pow_right (by decide) (by omega)
      have h4 : 2 ^ (7 * k) * 128 ≤ 2 ^ 56 * 128 := Nat.mul_le_mul_right _ h3
      have h5 : (2 : Nat) ^ 56 * 128 = 9223372036854775808 := by decide
      omega
  refine ⟨by omega, by omega, by omega, ?_⟩
  rw [u64_or_nat _ _ (by omega) (by omega), Nat.or_comm, ← Nat.two_pow_add_eq_or_of_lt hu x, Nat.add_comm]

/-- At the label of the next byte; where it goes wrong. -/
def AtNext (b : Nat) (u mv p : Value) (a : Act) : Prop := ∃ x5 x7 x8 x9 x10 x11 x12 x13 x14 x15 x16 x17 x18 x19 x20 x21 x22 x23 x24 x25 x26 x27 x28 x29 x30 x31 x32 x33 x34 x35 x36 x37 x38 x39 x40 x41 x42 x43 x44 x45 x46 x47 x48 x49 x50 x51 x52 x53 x54 x55 x56 x57 x58 x59 x60 x61 x62 x63 x64 x65 : Value, a = { tmps := #[.pointer (some ⟨b, 0, none⟩), undef, .int .i64 0, u, mv, x5, p, x7, x8, x9, x10, x11, x12, x13, x14, x15, x16, x17, x18, x19, x20, x21, x22, x23, x24, x25, x26, x27, x28, x29, x30, x31, x32, x33, x34, x35, x36, x37, x38, x39, x40, x41, x42, x43, x44, x45, x46, x47, x48, x49, x50, x51, x52, x53, x54, x55, x56, x57, x58, x59, x60, x61, x62, x63, x64, x65], defers := [] }
def AtWrong (b : Nat) (a : Act) : Prop := ∃ u mv p : Value, AtNext b u mv p a

/-- What Num leaves. -/
def NumPost (T : TypeId) (b : Nat) (s : ByteArray) (p : Nat) (w : World) (e : Ending) (w' : World) : Prop :=
  (∃ n m, rd (s.data.toList.drop p) = some (n, m) ∧ e = .returned (.int .i64 n) ∧ Rd T w' b s (p + m) false ∧ w.grownBy w' (some b)) ∨
  (rd (s.data.toList.drop p) = none ∧ e = .returned (.int .i64 0) ∧ (∃ q, q ≤ s.size ∧ Rd T w' b s q true) ∧ w.grownBy w' (some b))

theorem rd_none {l : List UInt8} (h : num l 0 0 = none) : rd l = none := by unfold rd; rw [h]; rfl
theorem rd_of {l : List UInt8} {u m : Nat} (h : num l 0 0 = some (u, m)) : rd l = some (unfold u, m) := by unfold rd; rw [h]; rfl

theorem drop_at (s : ByteArray) (i : Nat) (h : i < s.size) : s.data.toList.drop i = s[i] :: s.data.toList.drop (i + 1) := by
  rw [List.drop_eq_getElem_cons (by simpa using h)]; rfl
theorem drop_end (s : ByteArray) (i : Nat) (h : ¬ i < s.size) : s.data.toList.drop i = [] := List.drop_eq_nil_of_le (by simp; omega)
theorem num_end (k u : Nat) : num [] k u = none := rfl
theorem num_go {c : UInt8} {t : List UInt8} {k u : Nat} (hk : k = 9 → c.toNat ≤ 1) (h : 128 ≤ c.toNat) : num (c :: t) k u = num t (k + 1) (u + 2 ^ (7 * k) * (c.toNat % 128)) := by
  rw [num, if_neg (by rintro ⟨h1, h2⟩; have := hk h1; omega), if_pos h]
theorem num_last {c : UInt8} {t : List UInt8} {k u : Nat} (hk : k = 9 → c.toNat ≤ 1) (h : c.toNat < 128) (h0 : 0 < k → 0 < c.toNat) : num (c :: t) k u = some (u + 2 ^ (7 * k) * (c.toNat % 128), k + 1) := by
  rw [num, if_neg (by rintro ⟨h1, h2⟩; have := hk h1; omega), if_neg (by omega), if_neg (by rintro ⟨h1, h2⟩; have := h0 h2; omega), Nat.mod_eq_of_lt h]
theorem num_over {c : UInt8} {t : List UInt8} {u : Nat} (h : 1 < c.toNat) : num (c :: t) 9 u = none := by
  rw [num, if_pos ⟨rfl, h⟩]
theorem num_more {c : UInt8} {t : List UInt8} {k u : Nat} (hk : 0 < k) (h : c.toNat = 0) : num (c :: t) k u = none := by
  rw [num, if_neg (by omega), if_neg (by omega), if_pos ⟨h, hk⟩]

def NextJ (b : Nat) (s : ByteArray) (p : Nat) (w : World) (l : Nat) (a : Act) (w' : World) : Prop :=
  w = w' ∧ ((l = 1 ∧ ∃ k u : Nat, AtNext b (.int .u64 u) (.int .u64 ((7 * k : Nat) : Int)) (.int .i64 ((p + k : Nat) : Int)) a ∧ k ≤ 9 ∧ 1 ≤ k ∧ p + k ≤ s.size ∧ u < 2 ^ (7 * k) ∧ num (s.data.toList.drop (p + k)) k u = num (s.data.toList.drop p) 0 0) ∨
    (l = 0 ∧ AtWrong b a ∧ num (s.data.toList.drop p) 0 0 = none))
def nextM (l : Nat) (a : Act) (_ : World) : Nat := if l = 1 then (100 - intOf (a.tmps.getD 4 undef)).toNat + 1 else 0

set_option maxRecDepth 100000 in
set_option maxHeartbeats 4000000 in
theorem rnum_any (b : Nat) (s : ByteArray) (p : Nat) (w : World) (hs : s.size ≤ 1000000) (hp : p ≤ s.size) (hr : Rd 39 w b s p false) :
    Calls Try.prog 49 #[.pointer (some ⟨b, 0, none⟩)] w (NumPost 39 b s p w) := by
  obtain ⟨hc0, hc1, hc2⟩ := hr.cells
  have hf1 := hr.frozen 1
  have hf2 := hr.frozen 2
  have HR := Lib.hid hr
  clear hr
  go_enter Try.func49, Try.ntmps49
  go_wp2
  refine wp_scope_labels (NextJ b s p w) nextM ?_ ?_
  · by_cases hlt : p < s.size
    · have hx := s[p].toNat_lt
      obtain ⟨x, hxe⟩ : ∃ x : Nat, x = s[p].toNat % 128 := ⟨_, rfl⟩
      have ha := andNot_128 s[p].toNat hx
      rw [← hxe] at ha
      have hx2 : x < 128 := by omega
      have ho : bits .or .u64 0 (x : Int) = (x : Int) := by
        have h := (or_above 0 0 x (by omega) (by decide) hx2 (by omega)).2.2.2
        simpa using h
      by_cases hm : 128 ≤ s[p].toNat
      · have HN := Lib.hid (show num (s.data.toList.drop (p + 1)) 1 x = num (s.data.toList.drop p) 0 0 by
          rw [drop_at s p hlt, num_go (fun h => absurd h (by decide)) hm, hxe]; simp)
        clear hxe
        go_wp2
        go_step3
        go_wp2
        go_step3
        show NextJ b s p w 1 _ _
        exact ⟨rfl, Or.inl ⟨rfl, 1, x, ⟨_, _, _, _, _, _, _, _, _, _, _, _, _, _, _, _, _, _, _, _, _, _, _, _, _, _, _, _, _, _, _, _, _, _, _, _, _, _, _, _, _, _, _, _, _, _, _, _, _, _, _, _, _, _, _, _, _, _, _, _, rfl⟩, by omega, by omega, by omega, by omega, HN.out⟩⟩
      · have HN := Lib.hid (show rd (s.data.toList.drop p) = some (unfold x, 1) from rd_of (by
          rw [drop_at s p hlt, num_last (fun h => absurd h (by decide)) (by omega) (fun h => absurd h (by decide)), hxe]; simp))
        clear hxe
        have HU := Lib.hid (fun w => unfold_any x w (by omega))
        go_wp2
        go_step3
        go_wp2_with (go_at_call 57; (with_reducible refine (HU.out _).mono ?_); rintro e w1 ⟨rfl, rfl⟩)
        all_goals
          rw [jumps_ret]
          go_ret
          exact Or.inl ⟨_, _, HN.out, rfl, HR.out.setAt _, by_set (by_refl _ _) _ _⟩
    · have HN := Lib.hid (show num (s.data.toList.drop p) 0 0 = none by rw [drop_end s p hlt]; rfl)
      go_wp2
      go_step3
      go_wp2
      go_step3
      show NextJ b s p w 0 _ _
      exact ⟨rfl, Or.inr ⟨rfl, ⟨_, _, _, ⟨_, _, _, _, _, _, _, _, _, _, _, _, _, _, _, _, _, _, _, _, _, _, _, _, _, _, _, _, _, _, _, _, _, _, _, _, _, _, _, _, _, _, _, _, _, _, _, _, _, _, _, _, _, _, _, _, _, _, _, _, rfl⟩⟩, HN.out⟩⟩
  · rintro l a w' ⟨rfl, ⟨rfl, k, u, hA, hk9, hk1, hpk, hu, hnum⟩ | ⟨rfl, hA, hnum⟩⟩
    · refine ⟨_, rfl, ?_⟩
      obtain ⟨q, hq⟩ : ∃ q, p + k = q := ⟨_, rfl⟩
      rw [hq] at hA hpk hnum
      have HQ := Lib.hid hq
      have HN := Lib.hid hnum
      clear hnum hq
      by_cases hlt : q < s.size
      · have hx := s[q].toNat_lt
        have HD := Lib.hid (drop_at s q hlt)
        obtain ⟨x, hxe⟩ : ∃ x : Nat, x = s[q].toNat % 128 := ⟨_, rfl⟩
        have ha := andNot_128 s[q].toNat hx
        rw [← hxe] at ha
        have hx2 : x < 128 := by omega
        have HX := Lib.hid hxe
        clear hxe
        by_cases h9 : k = 9
        · subst h9
          have e63 : ((7 * 9 : Nat) : Int) = 63 := rfl
          rw [e63] at hA
          obtain ⟨x5, x7, x8, x9, x10, x11, x12, x13, x14, x15, x16, x17, x18, x19, x20, x21, x22, x23, x24, x25, x26, x27, x28, x29, x30, x31, x32, x33, x34, x35, x36, x37, x38, x39, x40, x41, x42, x43, x44, x45, x46, x47, x48, x49, x50, x51, x52, x53, x54, x55, x56, x57, x58, x59, x60, x61, x62, x63, x64, x65, rfl⟩ := hA
          by_cases hb1 : 1 < s[q].toNat
          · have HW := Lib.hid (show num (s.data.toList.drop p) 0 0 = none by rw [← HN.out, HD.out, num_over hb1])
            go_wp2
            go_step3
            show NextJ b s p w 0 _ _ ∧ _
            exact ⟨⟨rfl, Or.inr ⟨rfl, ⟨_, _, _, ⟨_, _, _, _, _, _, _, _, _, _, _, _, _, _, _, _, _, _, _, _, _, _, _, _, _, _, _, _, _, _, _, _, _, _, _, _, _, _, _, _, _, _, _, _, _, _, _, _, _, _, _, _, _, _, _, _, _, _, _, _, rfl⟩⟩, HW.out⟩⟩, by simp [nextM]⟩
          · by_cases hb0 : s[q].toNat = 0
            · have HW := Lib.hid (show num (s.data.toList.drop p) 0 0 = none by rw [← HN.out, HD.out, num_more (by omega) hb0])
              go_wp2
              go_step3
              show NextJ b s p w 0 _ _ ∧ _
              exact ⟨⟨rfl, Or.inr ⟨rfl, ⟨_, _, _, ⟨_, _, _, _, _, _, _, _, _, _, _, _, _, _, _, _, _, _, _, _, _, _, _, _, _, _, _, _, _, _, _, _, _, _, _, _, _, _, _, _, _, _, _, _, _, _, _, _, _, _, _, _, _, _, _, _, _, _, _, _, rfl⟩⟩, HW.out⟩⟩, by simp [nextM]⟩
            · obtain ⟨y1, y2, y3, y4⟩ := or_above 9 u x (by omega) hu hx2 (fun _ => by have := HX.out; omega)
              obtain ⟨y, hy⟩ : ∃ y, 2 ^ (7 * 9) * x = y := ⟨_, rfl⟩
              obtain ⟨z, hz⟩ : ∃ z, u + y = z := ⟨_, rfl⟩
              rw [hy] at y1 y2 y3 y4
              rw [hz] at y2 y3 y4
              have hsh : IntKind.u64.wrap ((x : Int) * 9223372036854775808) = (y : Int) := by
                rw [show (x : Int) * 9223372036854775808 = (y : Int) by omega, IntWalk.u64_in _ (by omega)]
              have HW := Lib.hid (show rd (s.data.toList.drop p) = some (unfold z, 9 + 1) from rd_of (by
                rw [← HN.out, HD.out, num_last (fun _ => by omega) (by omega) (fun _ => by omega), ← HX.out, hy, hz]))
              have HU := Lib.hid (fun w => unfold_any z w y2)
              have HS := Lib.hid (show p + 10 = q + 1 by have := HQ.out; omega)
              clear hy hz y3 hu
              go_wp2_with (go_at_call 57; (with_reducible refine (HU.out _).mono ?_); rintro e w1 ⟨rfl, rfl⟩)
              rw [jumps_ret]
              go_ret
              exact Or.inl ⟨_, _, HW.out, rfl, by rw [show p + (9 + 1) = q + 1 from HS.out]; exact HR.out.setAt (q + 1), by_set (by_refl _ _) _ _⟩
        · obtain ⟨y1, y2, y3, y4⟩ := or_above k u x (by omega) hu hx2 (by omega)
          obtain ⟨y, hy⟩ : ∃ y, 2 ^ (7 * k) * x = y := ⟨_, rfl⟩
          obtain ⟨z, hz⟩ : ∃ z, u + y = z := ⟨_, rfl⟩
          rw [hy] at y1 y2 y3 y4
          rw [hz] at y2 y3 y4
          obtain ⟨m, hm⟩ : ∃ m, 7 * k = m := ⟨_, rfl⟩
          rw [hm] at hA
          have hm1 : 7 ≤ m := by omega
          have hm2 : m ≤ 56 := by omega
          have hsh : IntKind.u64.wrap ((x : Int) * 2 ^ m) = (y : Int) := by
            rw [← hm, show (x : Int) * 2 ^ (7 * k) = (y : Int) by rw [← hy, Int.natCast_mul, Int.natCast_pow, Int.mul_comm]; rfl, IntWalk.u64_in _ (by omega)]
          have hm63 : ¬ m = 63 := by omega
          have HM := Lib.hid hm
          have HY := Lib.hid hy
          have HZ := Lib.hid hz
          have HZ3 := Lib.hid y3
          clear hm hy hz y3 hu
          obtain ⟨x5, x7, x8, x9, x10, x11, x12, x13, x14, x15, x16, x17, x18, x19, x20, x21, x22, x23, x24, x25, x26, x27, x28, x29, x30, x31, x32, x33, x34, x35, x36, x37, x38, x39, x40, x41, x42, x43, x44, x45, x46, x47, x48, x49, x50, x51, x52, x53, x54, x55, x56, x57, x58, x59, x60, x61, x62, x63, x64, x65, rfl⟩ := hA
          by_cases hm : 128 ≤ s[q].toNat
          · have HW := Lib.hid (show num (s.data.toList.drop (q + 1)) (k + 1) z = num (s.data.toList.drop p) 0 0 by
              rw [← HN.out, HD.out, num_go (fun h => absurd h h9) hm, ← HX.out, HY.out, HZ.out])
            go_wp2
            go_step3
            show NextJ b s p w 1 _ _ ∧ _
            refine ⟨⟨rfl, Or.inl ⟨rfl, k + 1, z, ?_, by omega, by omega, by have := HQ.out; omega, HZ3.out, ?_⟩⟩, ?_⟩
            · have e1 : ((7 * (k + 1) : Nat) : Int) = (m : Int) + 7 := by have := HM.out; omega
              have e2 : ((p + (k + 1) : Nat) : Int) = (q : Int) + 1 := by have := HQ.out; omega
              rw [e1, e2]
              exact ⟨_, _, _, _, _, _, _, _, _, _, _, _, _, _, _, _, _, _, _, _, _, _, _, _, _, _, _, _, _, _, _, _, _, _, _, _, _, _, _, _, _, _, _, _, _, _, _, _, _, _, _, _, _, _, _, _, _, _, _, _, rfl⟩
            · rw [show p + (k + 1) = q + 1 by have := HQ.out; omega]; exact HW.out
            · simp [nextM, intOf]; omega
          · by_cases hb0 : s[q].toNat = 0
            · have HW := Lib.hid (show num (s.data.toList.drop p) 0 0 = none by rw [← HN.out, HD.out, num_more (by omega) hb0])
              go_wp2
              go_step3
              show NextJ b s p w 0 _ _ ∧ _
              exact ⟨⟨rfl, Or.inr ⟨rfl, ⟨_, _, _, ⟨_, _, _, _, _, _, _, _, _, _, _, _, _, _, _, _, _, _, _, _, _, _, _, _, _, _, _, _, _, _, _, _, _, _, _, _, _, _, _, _, _, _, _, _, _, _, _, _, _, _, _, _, _, _, _, _, _, _, _, _, rfl⟩⟩, HW.out⟩⟩, by simp [nextM]⟩
            · have HW := Lib.hid (show rd (s.data.toList.drop p) = some (unfold z, k + 1) from rd_of (by
                rw [← HN.out, HD.out, num_last (fun h => absurd h h9) (by omega) (fun _ => by omega), ← HX.out, HY.out, HZ.out]))
              have HU := Lib.hid (fun w => unfold_any z w y2)
              have HS := Lib.hid (show p + (k + 1) = q + 1 by have := HQ.out; omega)
              go_wp2_with (go_at_call 57; (with_reducible refine (HU.out _).mono ?_); rintro e w1 ⟨rfl, rfl⟩)
              rw [jumps_ret]
              go_ret
              exact Or.inl ⟨_, _, HW.out, rfl, by rw [HS.out]; exact HR.out.setAt (q + 1), by_set (by_refl _ _) _ _⟩
      · have HW := Lib.hid (show num (s.data.toList.drop p) 0 0 = none by rw [← HN.out, drop_end s q hlt]; rfl)
        obtain ⟨x5, x7, x8, x9, x10, x11, x12, x13, x14, x15, x16, x17, x18, x19, x20, x21, x22, x23, x24, x25, x26, x27, x28, x29, x30, x31, x32, x33, x34, x35, x36, x37, x38, x39, x40, x41, x42, x43, x44, x45, x46, x47, x48, x49, x50, x51, x52, x53, x54, x55, x56, x57, x58, x59, x60, x61, x62, x63, x64, x65, rfl⟩ := hA
        go_wp2
        go_step3
        show NextJ b s p w 0 _ _ ∧ _
        exact ⟨⟨rfl, Or.inr ⟨rfl, ⟨_, _, _, ⟨_, _, _, _, _, _, _, _, _, _, _, _, _, _, _, _, _, _, _, _, _, _, _, _, _, _, _, _, _, _, _, _, _, _, _, _, _, _, _, _, _, _, _, _, _, _, _, _, _, _, _, _, _, _, _, _, _, _, _, _, rfl⟩⟩, HW.out⟩⟩, by simp [nextM]⟩
    · refine ⟨_, rfl, ?_⟩
      obtain ⟨u, mv, q, x5, x7, x8, x9, x10, x11, x12, x13, x14, x15, x16, x17, x18, x19, x20, x21, x22, x23, x24, x25, x26, x27, x28, x29, x30, x31, x32, x33, x34, x35, x36, x37, x38, x39, x40, x41, x42, x43, x44, x45, x46, x47, x48, x49, x50, x51, x52, x53, x54, x55, x56, x57, x58, x59, x60, x61, x62, x63, x64, x65, rfl⟩ := hA
      have HN := Lib.hid (rd_none hnum)
      clear hnum
      go_wp2
      rw [jumps_ret]
      go_ret
      exact Or.inr ⟨HN.out, rfl, ⟨p, hp, HR.out.setBad⟩, by_set (by_refl _ _) _ _⟩
end Go.Proofs.Ytfhonobaddkmhaa
