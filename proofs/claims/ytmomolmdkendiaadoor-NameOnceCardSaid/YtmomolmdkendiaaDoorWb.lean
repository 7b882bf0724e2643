/- What Split gives. -/
import Derived.Test.YtmomolmdkendiaaDoorWa
import Derived.Lib.Strings
namespace Go.Proofs.YtmomolmdkendiaaDoor
open Go.RowKit Nam

theorem end_le (s : ByteArray) : endOf (L s) ≤ s.size := by rw [← L_len]; exact endOf_le _
theorem end_before {s : ByteArray} {k : Nat} (h : k < s.size) (hk : k < endOf (L s)) : s[k].toNat ≠ 126 := endOf_before (L s) k (by rw [L_len]; exact h) hk
theorem end_here {s : ByteArray} (h : endOf (L s) < s.size) : s[endOf (L s)].toNat = 126 := endOf_at (L s) (by rw [L_len]; exact h)

theorem nameEnd_any (s : ByteArray) (w : World) (hs : s.size ≤ 9223372036854775807) : Calls Tryd.prog 13 #[.string s] w fun e w' => e = .returned (.int .i64 (endOf (L s))) ∧ w = w' := by
  have hle := end_le s
  have HB := Lib.hid (fun k (h : k < s.size) => end_before (s := s) h)
  have HA := Lib.hid (fun (h : endOf (L s) < s.size) => end_here (s := s) h)
  generalize endOf (L s) = E at hle HB HA ⊢
  go_enter Tryd.func13, Tryd.ntmps13
  go_wp2
  go_loop [6] (fun i => ∃ k : Nat, k ≤ E ∧ i = .int .i64 k) (fun i => s.size - (intOf i).toNat)
  case atStart => exact ⟨0, Nat.zero_le _, rfl⟩
  case round =>
    obtain ⟨k, hk, rfl⟩ := hrel
    by_cases hlt : k < s.size
    · by_cases he : k < E
      · have hb : ((s[k].toNat : Int) == 126) = false := by have := HB.out k hlt he; simp; omega
        go_wp2
        go_round
        case rel => exact ⟨k + 1, by omega, by go_num⟩
        case measure => simp [intOf]; omega
      · obtain rfl : k = E := by omega
        have hb : ((s[k].toNat : Int) == 126) = true := by have := HA.out hlt; simp; omega
        go_wp2
        go_ret
        exact ⟨rfl, rfl⟩
    · obtain rfl : k = E := by omega
      have hsz : s.size = k := by omega
      have HS := Lib.hid (show (s.size : Int) = (k : Int) by omega)
      clear hsz
      go_wp2
      go_ret
      exact ⟨ret_int HS.out, rfl⟩

/-- Of a text of digits: the node, and whether there is one. -/
def nodeN (l : List UInt8) : Int := match node l with | some n => (n : Int) | none => 0
theorem nodeN_some {l : List UInt8} {n : Nat} (h : node l = some n) : nodeN l = n ∧ (node l).isSome = true := by unfold nodeN; rw [h]; exact ⟨rfl, rfl⟩
theorem nodeN_none {l : List UInt8} (h : node l = none) : nodeN l = 0 ∧ (node l).isSome = false := by unfold nodeN; rw [h]; exact ⟨rfl, rfl⟩
theorem ret_two {a b : Int} {p q : Bool} (h : a = b ∧ p = q) : Ending.returned (.tuple #[.int .i64 b, .bool q]) = .returned (.tuple #[.int .i64 a, .bool p]) := by rw [h.1, h.2]

def digs (s : ByteArray) (k : Nat) : Prop := ∀ i (h : i < s.size), i < k → 48 ≤ s[i].toNat ∧ s[i].toNat ≤ 57
theorem digs_next {s : ByteArray} {k : Nat} (h : digs s k) (hk : k < s.size) (hb : 48 ≤ s[k].toNat ∧ s[k].toNat ≤ 57) : digs s (k + 1) := by
  intro i hi hik
  by_cases e : i = k
  · subst e; exact hb
  · exact h i hi (by omega)
theorem digs_all {s : ByteArray} (h : digs s s.size) : ∀ b ∈ L s, isDig b = true := by
  intro b hb
  obtain ⟨i, hi, rfl⟩ := List.getElem_of_mem hb
  rw [L_len] at hi
  exact decide_eq_true (h i hi hi)
theorem val_step {s : ByteArray} {k : Nat} (hk : k < s.size) : val ((L s).take (k + 1)) = 10 * val ((L s).take k) + (s[k].toNat - 48) := val_next (L s) k (by rw [L_len]; exact hk)

set_option maxHeartbeats 2000000 in
theorem parse_any (s : ByteArray) (w : World) (hs : s.size ≤ 9223372036854775807) :
    Calls Tryd.prog 14 #[.string s] w fun e w' => e = .returned (.tuple #[.int .i64 (nodeN (L s)), .bool (node (L s)).isSome]) ∧ w = w' := by
  by_cases h0 : s.size = 0
  · have HN := Lib.hid (nodeN_none (node_no_nil (l := L s) (by rw [L_len]; exact h0)))
    obtain rfl : s = ⟨#[]⟩ := L_inj (List.eq_nil_of_length_eq_zero (by rw [L_len]; exact h0))
    clear h0
    go_enter Tryd.func14, Tryd.ntmps14
    go_wp2
    go_ret2
    exact ⟨ret_two HN.out, rfl⟩
  · have hp : 0 < s.size := by omega
    have hem : s.toList.isEmpty = false := by
      have hl := L_len s
      unfold L at hl
      rw [← Lib.toList_data] at hl
      cases e : s.toList with
      | nil => rw [e] at hl; exact absurd hl.symm h0
      | cons _ _ => rfl
    have hem2 : ¬ s.toList = [] := by intro e; rw [e] at hem; exact absurd hem (by decide)
    by_cases hbad : s[0].toNat = 48 ∧ 1 < s.size
    · obtain ⟨hz, h1⟩ := hbad
      have HN := Lib.hid (nodeN_none (node_no_zero (l := L s) (by rw [L_len]; exact h1) hz))
      have hz2 : ((s[0].toNat : Int) == 48) = true := by simp; omega
      have hd : decide (1 < (s.size : Int)) = true := decide_eq_true (by omega)
      clear hz
      go_enter Tryd.func14, Tryd.ntmps14
      go_wp2
      go_ret2
      exact ⟨ret_two HN.out, rfl⟩
    · have HZ := Lib.hid (show ∀ (h : 1 < (L s).length), (L s)[0].toNat ≠ 48 from fun h e => hbad ⟨e, by rw [L_len] at h; exact h⟩)
      by_cases hz : s[0].toNat = 48
      · have hz2 : ((s[0].toNat : Int) == 48) = true := by simp; omega
        have hd : decide (1 < (s.size : Int)) = false := decide_eq_false (by omega)
        clear hz hbad
        go_enter Tryd.func14, Tryd.ntmps14
        go_wp2
        go_loop [4, 20] (fun v i => ∃ k : Nat, k ≤ s.size ∧ i = .int .i64 k ∧ v = .int .i64 (val ((L s).take k)) ∧ val ((L s).take k) < 64 ∧ Hid (digs s k)) (fun _ i => s.size - (intOf i).toNat)
        case atStart => exact ⟨0, Nat.zero_le _, rfl, rfl, by show (0 : Nat) < 64; omega, fun i _ h => absurd h (by omega)⟩
        case round =>
          obtain ⟨k, hk, rfl, rfl, hv, hg⟩ := hrel
          by_cases hlt : k < s.size
          · have hvs := val_step (s := s) hlt
            have hx := s[k].toNat_lt
            by_cases hb : 48 ≤ s[k].toNat ∧ s[k].toNat ≤ 57
            · have HG := Lib.hid (digs_next hg.out hlt hb)
              obtain ⟨hb1, hb2⟩ := hb
              have HB := Lib.hid (fun (h : 64 ≤ val ((L s).take (k + 1))) => nodeN_none (node_no_big (l := L s) (k + 1) h))
              generalize val ((L s).take k) = V at hv hvs ⊢
              have HV := Lib.hid hvs
              clear hvs
              by_cases h64 : 10 * V + (s[k].toNat - 48) < 64
              · go_wp2
                go_round
                case rel => exact ⟨k + 1, by omega, by go_num, by rw [HV.out]; go_num, by rw [HV.out]; omega, HG.out⟩
                case measure => simp [intOf]; omega
              · go_wp2
                go_ret2
                exact ⟨ret_two (HB.out (by rw [HV.out]; omega)), rfl⟩
            · have HN := Lib.hid (nodeN_none (node_no_dig (l := L s) k (by rw [L_len]; exact hlt) hb))
              clear hvs
              by_cases hb1 : s[k].toNat < 48
              · clear hb
                go_wp2
                go_ret2
                exact ⟨ret_two HN.out, rfl⟩
              · have hb2 : 57 < s[k].toNat := by omega
                clear hb
                go_wp2
                go_ret2
                exact ⟨ret_two HN.out, rfl⟩
          · obtain rfl : k = s.size := by omega
            have ht : (L s).take s.size = L s := List.take_of_length_le (by rw [L_len]; exact Nat.le_refl _)
            rw [ht] at hv ⊢
            have HN := Lib.hid (nodeN_some (node_yes (l := L s) (by rw [L_len]; exact hp) (digs_all hg.out) hv HZ.out))
            clear ht
            go_wp2
            go_ret2
            exact ⟨ret_two HN.out, rfl⟩
      · have hz2 : ((s[0].toNat : Int) == 48) = false := by simp; omega
        clear hz hbad
        go_enter Tryd.func14, Tryd.ntmps14
        go_wp2
        go_loop [4, 20] (fun v i => ∃ k : Nat, k ≤ s.size ∧ i = .int .i64 k ∧ v = .int .i64 (val ((L s).take k)) ∧ val ((L s).take k) < 64 ∧ Hid (digs s k)) (fun _ i => s.size - (intOf i).toNat)
        case atStart => exact ⟨0, Nat.zero_le _, rfl, rfl, by show (0 : Nat) < 64; omega, fun i _ h => absurd h (by omega)⟩
        case round =>
          obtain ⟨k, hk, rfl, rfl, hv, hg⟩ := hrel
          by_cases hlt : k < s.size
          · have hvs := val_step (s := s) hlt
            have hx := s[k].toNat_lt
            by_cases hb : 48 ≤ s[k].toNat ∧ s[k].toNat ≤ 57
            · have HG := Lib.hid (digs_next hg.out hlt hb)
              obtain ⟨hb1, hb2⟩ := hb
              have HB := Lib.hid (fun (h : 64 ≤ val ((L s).take (k + 1))) => nodeN_none (node_no_big (l := L s) (k + 1) h))
              generalize val ((L s).take k) = V at hv hvs ⊢
              have HV := Lib.hid hvs
              clear hvs
              by_cases h64 : 10 * V + (s[k].toNat - 48) < 64
              · go_wp2
                go_round
                case rel => exact ⟨k + 1, by omega, by go_num, by rw [HV.out]; go_num, by rw [HV.out]; omega, HG.out⟩
                case measure => simp [intOf]; omega
              · go_wp2
                go_ret2
                exact ⟨ret_two (HB.out (by rw [HV.out]; omega)), rfl⟩
            · have HN := Lib.hid (nodeN_none (node_no_dig (l := L s) k (by rw [L_len]; exact hlt) hb))
              clear hvs
              by_cases hb1 : s[k].toNat < 48
              · clear hb
                go_wp2
                go_ret2
                exact ⟨ret_two HN.out, rfl⟩
              · have hb2 : 57 < s[k].toNat := by omega
                clear hb
                go_wp2
                go_ret2
                exact ⟨ret_two HN.out, rfl⟩
          · obtain rfl : k = s.size := by omega
            have ht : (L s).take s.size = L s := List.take_of_length_le (by rw [L_len]; exact Nat.le_refl _)
            rw [ht] at hv ⊢
            have HN := Lib.hid (nodeN_some (node_yes (l := L s) (by rw [L_len]; exact hp) (digs_all hg.out) hv HZ.out))
            clear ht
            go_wp2
            go_ret2
            exact ⟨ret_two HN.out, rfl⟩

/-- What Split answers: the name, the number, whether it says anything. -/
def spT (s : ByteArray) : ByteArray := match says (L s) with | some (t, _) => ⟨t.toArray⟩ | none => ⟨#[]⟩
def spN (s : ByteArray) : Int := match says (L s) with | some (_, some n) => (n : Int) | some (_, none) => -1 | none => 0
def spB (s : ByteArray) : Bool := (says (L s)).isSome

theorem ret_three {s t : ByteArray} {n m : Int} {b c : Bool} (h : spT s = t ∧ spN s = m ∧ spB s = c) (hn : n = m) (hb : b = c) :
    Ending.returned (.tuple #[.string t, .int .i64 n, .bool b]) = .returned (.tuple #[.string (spT s), .int .i64 (spN s), .bool (spB s)]) := by rw [h.1, h.2.1, h.2.2, hn, hb]

theorem L_take (s : ByteArray) (e : Nat) : L (s.extract 0 e) = (L s).take e := by
  show (s.extract 0 e).data.toList = _
  rw [Lib.extract_data]; simp [L]
theorem L_drop (s : ByteArray) (e : Nat) : L (s.extract e s.size) = (L s).drop e := by
  show (s.extract e s.size).data.toList = _
  rw [Lib.extract_data, List.take_of_length_le (by rw [List.length_drop]; have := L_len s; unfold L at this; omega)]; rfl

theorem sp_none {s : ByteArray} (h : says (L s) = none) : spT s = ⟨#[]⟩ ∧ spN s = 0 ∧ spB s = false := by unfold spT spN spB; rw [h]; exact ⟨rfl, rfl, rfl⟩
theorem sp_name {s : ByteArray} (h : says (L s) = some (L s, none)) : spT s = s ∧ spN s = -1 ∧ spB s = true := by unfold spT spN spB; rw [h]; exact ⟨rfl, rfl, rfl⟩
theorem sp_twin {s t : ByteArray} {n : Nat} (h : says (L s) = some (L t, some n)) : spT s = t ∧ spN s = n ∧ spB s = true := by unfold spT spN spB; rw [h]; exact ⟨rfl, rfl, rfl⟩

set_option maxHeartbeats 1000000 in
theorem split_any (s : ByteArray) (w : World) (hs : s.size ≤ 9223372036854775806) :
    Calls Tryd.prog 7 #[.string s] w fun e w' => e = .returned (.tuple #[.string (spT s), .int .i64 (spN s), .bool (spB s)]) ∧ w = w' := by
  have hle := end_le s
  have HC := Lib.hid (fun w => nameEnd_any s w (by omega))
  have HD : Hid (says (L s) = if isName ((L s).take (endOf (L s))) = true then
    if endOf (L s) = (L s).length then some (L s, none) else (node ((L s).drop (endOf (L s) + 1))).map fun n => ((L s).take (endOf (L s)), some n)
  else none) := Lib.hid rfl
  generalize endOf (L s) = E at hle HC HD
  have HR := Lib.hid (fun w => right_any (s.extract 0 E) w (by rw [ByteArray.size_extract]; omega))
  rw [L_take] at HR
  cases hn : isName ((L s).take E)
  · have HX := Lib.hid (sp_none (s := s) (by rw [HD.out, if_neg (by rw [hn]; decide)]))
    rw [hn] at HR
    clear hn HD
    go_enter Tryd.func7, Tryd.ntmps7
    go_wp2_with (first | (go_at_call 13; (with_reducible refine (HC.out _).mono ?_); rintro e w1 ⟨rfl, rfl⟩) | (go_at_call 9; (with_reducible refine (HR.out _).mono ?_); rintro e w2 ⟨rfl, rfl⟩))
    go_ret3
    exact ⟨ret_three HX.out rfl rfl, rfl⟩
  · rw [hn] at HR
    by_cases he : E = s.size
    · have HX := Lib.hid (sp_name (s := s) (by rw [HD.out, if_pos hn, if_pos (by rw [L_len]; exact he)]))
      have HR2 := Lib.hid (fun w => right_any s w (by omega))
      rw [show L s = (L s).take E by rw [he, ← L_len, List.take_length], hn] at HR2
      clear hn HD
      subst he
      go_enter Tryd.func7, Tryd.ntmps7
      go_wp2_with (first | (go_at_call 13; (with_reducible refine (HC.out _).mono ?_); rintro e w1 ⟨rfl, rfl⟩) | (go_at_call 9; (with_reducible refine (HR2.out _).mono ?_); rintro e w2 ⟨rfl, rfl⟩))
      go_ret3
      exact ⟨ret_three HX.out rfl rfl, rfl⟩
    · have hlt : E < s.size := by omega
      have heq : ((E : Int) == (s.size : Int)) = false := by simp; omega
      have HP := Lib.hid (fun w => parse_any (s.extract (E + 1) s.size) w (by rw [ByteArray.size_extract]; omega))
      rw [L_drop] at HP
      clear he
      cases hnd : node ((L s).drop (E + 1)) with
      | none =>
        have HX := Lib.hid (sp_none (s := s) (by rw [HD.out, if_pos hn, if_neg (by rw [L_len]; omega), hnd]; rfl))
        rw [(nodeN_none hnd).1, (nodeN_none hnd).2] at HP
        clear hn HD hnd
        go_enter Tryd.func7, Tryd.ntmps7
        go_wp2_with (first | (go_at_call 13; (with_reducible refine (HC.out _).mono ?_); rintro e w1 ⟨rfl, rfl⟩) | (go_at_call 9; (with_reducible refine (HR.out _).mono ?_); rintro e w2 ⟨rfl, rfl⟩)
                           | (go_at_call 14; (with_reducible refine (HP.out _).mono ?_); rintro e w2 ⟨rfl, rfl⟩))
        go_ret3
        exact ⟨ret_three HX.out rfl rfl, rfl⟩
      | some n =>
        have HX := Lib.hid (sp_twin (s := s) (t := s.extract 0 E) (n := n) (by rw [HD.out, if_pos hn, if_neg (by rw [L_len]; omega), hnd, L_take]; rfl))
        rw [(nodeN_some hnd).1, (nodeN_some hnd).2] at HP
        clear hn HD hnd
        go_enter Tryd.func7, Tryd.ntmps7
        go_wp2_with (first | (go_at_call 13; (with_reducible refine (HC.out _).mono ?_); rintro e w1 ⟨rfl, rfl⟩) | (go_at_call 9; (with_reducible refine (HR.out _).mono ?_); rintro e w2 ⟨rfl, rfl⟩)
                           | (go_at_call 14; (with_reducible refine (HP.out _).mono ?_); rintro e w2 ⟨rfl, rfl⟩))
        go_ret3
        exact ⟨ret_three HX.out rfl rfl, rfl⟩

end Go.Proofs.YtmomolmdkendiaaDoor
