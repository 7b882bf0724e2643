/- Texts laid one behind the other: Na, Oa, Cm, Ca, Cb, Cc, Cj, Ob, Od, Cd, Ce, Cf, Cg, Ch, Ui, Oe, Mm, Va, Ck, Tn, Ya, Um, Yb, Tc, Td, Te, Tl, Tp, Tq, Ts. -/
import Derived.Test.YtdhcgflblbmogaaDoorB01
import Derived.WalkKit
import Derived.Lib.Hide
import Derived.KernelRfl
import Derived.Handy
import Derived.Lib.BufSteps
import Derived.Laws.IdiomStrings
import Derived.WalkMore
import Derived.Deep.Draws
import Derived.BigQuiet
import Derived.Deep.QuietTactic
import Derived.Lib.QuietBelow
import Derived.Laws.ResultCell
import Derived.Laws.CopyOwn
import Derived.Lib.SliceRun
/- What Right gives, of the program and of the document. -/
namespace Go.Proofs.YtdhcgflblbmogaaDoor
open Go.RowKit Nam




theorem name_bad {s : ByteArray} (i : Nat) (hi : i < s.size) (h : ¬ (33 ≤ s[i].toNat ∧ s[i].toNat ≤ 125 ∧ s[i].toNat ≠ 47)) : isName (L s) = false :=
  isName_bad i (by rw [L_len]; exact hi) h
theorem name_short {s : ByteArray} (h : ¬ (1 ≤ s.size ∧ s.size ≤ 16)) : isName (L s) = false := isName_short (by rw [L_len]; exact h)
theorem name_of {s : ByteArray} (h1 : 1 ≤ s.size ∧ s.size ≤ 16) (h2 : ∀ i (h : i < s.size), 33 ≤ s[i].toNat ∧ s[i].toNat ≤ 125 ∧ s[i].toNat ≠ 47) : isName (L s) = true := by
  refine isName_of (by rw [L_len]; exact h1) fun b hb => ?_
  obtain ⟨i, hi, rfl⟩ := List.getElem_of_mem hb
  rw [L_len] at hi
  exact decide_eq_true (h2 i hi)

def good (s : ByteArray) (k : Nat) : Prop := ∀ i (h : i < s.size), i < k → 33 ≤ s[i].toNat ∧ s[i].toNat ≤ 125 ∧ s[i].toNat ≠ 47
theorem good_next {s : ByteArray} {k : Nat} (h : good s k) (hk : k < s.size) (hb : 33 ≤ s[k].toNat ∧ s[k].toNat ≤ 125 ∧ s[k].toNat ≠ 47) : good s (k + 1) := by
  intro i hi hik
  by_cases e : i = k
  · subst e; exact hb
  · exact h i hi (by omega)

set_option maxHeartbeats 1000000 in
theorem nmRight_any (s : ByteArray) (w : World) (hs : s.size ≤ 9223372036854775807) : Calls Tryd.prog 36 #[.string s] w fun e w' => e = .returned (.bool (isName (L s))) ∧ w = w' := by
  by_cases h0 : s.size = 0
  · have HN := Lib.hid (name_short (s := s) (by omega))
    go_enter Tryd.func36, Tryd.ntmps36
    go_wp2
    go_ret
    exact ⟨ret_bool HN.out, rfl⟩
  · have he : ((s.size : Int) == 0) = false := by simp [h0]
    by_cases h16 : 16 < s.size
    · have HN := Lib.hid (name_short (s := s) (by omega))
      go_enter Tryd.func36, Tryd.ntmps36
      go_wp2
      go_ret
      exact ⟨ret_bool HN.out, rfl⟩
    · have hd : decide (16 < (s.size : Int)) = false := decide_eq_false (by omega)
      go_enter Tryd.func36, Tryd.ntmps36
      go_wp2
      go_loop [14] (fun i => ∃ k : Nat, k ≤ s.size ∧ i = .int .i64 k ∧ Hid (good s k)) (fun i => s.size - (intOf i).toNat)
      case atStart => exact ⟨0, Nat.zero_le _, rfl, fun i _ h => absurd h (by omega)⟩
      case round =>
        obtain ⟨k, hk, rfl, hg⟩ := hrel
        by_cases hlt : k < s.size
        · by_cases hb : 33 ≤ s[k].toNat ∧ s[k].toNat ≤ 125 ∧ s[k].toNat ≠ 47
          · have HG := Lib.hid (good_next hg.out hlt hb)
            obtain ⟨hb1, hb2, hb3⟩ := hb
            have hb4 : ((s[k].toNat : Int) == 47) = false := by simp; omega
            go_wp2
            go_round
            case rel => exact ⟨k + 1, by omega, by go_num, HG.out⟩
            case measure => simp [intOf]; omega
          · have HN := Lib.hid (name_bad k hlt hb)
            by_cases hb1 : s[k].toNat < 33
            · clear hb
              go_wp2
              go_ret
              exact ⟨ret_bool HN.out, rfl⟩
            · by_cases hb2 : 125 < s[k].toNat
              · clear hb
                go_wp2
                go_ret
                exact ⟨ret_bool HN.out, rfl⟩
              · have hb3 : ((s[k].toNat : Int) == 47) = true := by simp; omega
                clear hb
                go_wp2
                go_ret
                exact ⟨ret_bool HN.out, rfl⟩
        · obtain rfl : k = s.size := by omega
          have HN := Lib.hid (name_of (s := s) (by omega) (fun i h => hg.out i h h))
          go_wp2
          go_ret
          exact ⟨ret_bool HN.out, rfl⟩

set_option maxHeartbeats 1000000 in
theorem nmRefRight_any (s : ByteArray) (w : World) (hs : s.size ≤ 9223372036854775807) : Calls Tryd.prog 26 #[.string s] w fun e w' => e = .returned (.bool (isName (L s))) ∧ w = w' := by
  go_enter Tryd.func26, Tryd.ntmps26
  go_wp2
  go_loop [3] (fun i => ∃ k : Nat, k ≤ s.size ∧ i = .int .i64 k ∧ Hid (good s k)) (fun i => s.size - (intOf i).toNat)
  case atStart => exact ⟨0, Nat.zero_le _, rfl, fun i _ h => absurd h (by omega)⟩
  case round =>
    obtain ⟨k, hk, rfl, hg⟩ := hrel
    by_cases hlt : k < s.size
    · by_cases hb : 33 ≤ s[k].toNat ∧ s[k].toNat ≤ 125 ∧ s[k].toNat ≠ 47
      · have HG := Lib.hid (good_next hg.out hlt hb)
        obtain ⟨hb1, hb2, hb3⟩ := hb
        have hb4 : ((s[k].toNat : Int) == 47) = false := by simp; omega
        go_wp2
        go_round
        case rel => exact ⟨k + 1, by omega, by go_num, HG.out⟩
        case measure => simp [intOf]; omega
      · have HN := Lib.hid (name_bad k hlt hb)
        by_cases hb1 : s[k].toNat < 33
        · clear hb
          go_wp2
          go_ret
          exact ⟨ret_bool HN.out, rfl⟩
        · by_cases hb2 : 125 < s[k].toNat
          · clear hb
            go_wp2
            go_ret
            exact ⟨ret_bool HN.out, rfl⟩
          · have hb3 : ((s[k].toNat : Int) == 47) = true := by simp; omega
            clear hb
            go_wp2
            go_ret
            exact ⟨ret_bool HN.out, rfl⟩
    · obtain rfl : k = s.size := by omega
      by_cases h0 : s.size = 0
      · have HN := Lib.hid (name_short (s := s) (by omega))
        go_wp2
        go_ret
        exact ⟨ret_bool HN.out, rfl⟩
      · by_cases h16 : 16 < s.size
        · have HN := Lib.hid (name_short (s := s) (by omega))
          go_wp2
          go_ret
          exact ⟨ret_bool (HN.out.trans (decide_eq_false (by omega)).symm), rfl⟩
        · have HN := Lib.hid (name_of (s := s) (by omega) (fun i h => hg.out i h h))
          go_wp2
          go_ret
          exact ⟨ret_bool (HN.out.trans (decide_eq_true (by omega)).symm), rfl⟩

end Go.Proofs.YtdhcgflblbmogaaDoor

/- What Right gives, of the program and of the document: layer op. -/
namespace Go.Proofs.YtdhcgflblbmogaaDoor
open Go.RowKit Nam

def atB (C D : Int) : Bool := decide (1 ≤ C ∧ C ≤ 1099511627776 ∧ 0 ≤ D ∧ D < 12)
def cntB (n : Int) : Bool := decide (1 ≤ n ∧ n ≤ 1099511627776)
def mvB (K U : Int) : Bool := decide (2 ≤ K ∧ K < 64 ∧ 0 ≤ U ∧ U < 64 ∧ K ≠ U)
def opB (C D I M K U : Int) (s : ByteArray) : Bool := atB C D && (cntB I && (cntB M && (mvB K U && isName (L s))))
theorem bool_of {p : Prop} [Decidable p] {b : Bool} (h : b = true ↔ p) : Value.bool b = .bool (decide p) := by
  congr 1; rw [Bool.eq_iff_iff, h, decide_eq_true_iff]
theorem atB_right {C D : Int} (h : rightB C D = true) : atB C D = decide (1 ≤ C) := by
  have := rightB_iff.1 h
  unfold atB; rw [Bool.eq_iff_iff, decide_eq_true_iff, decide_eq_true_iff]; omega
theorem atB_wrong {C D : Int} (h : rightB C D = false) : atB C D = false := by
  unfold rightB at h; unfold atB; rw [decide_eq_false_iff_not] at h ⊢; omega

theorem opB_wrong {C D I M K U : Int} {s : ByteArray} (h : rightB C D = false) : opB C D I M K U s = false := by
  unfold opB; rw [atB_wrong h]; rfl
theorem opB_out {C D I M K U : Int} {s : ByteArray} (h : ¬ (1 ≤ C ∧ 1 ≤ I ∧ I ≤ 1099511627776 ∧ 1 ≤ M ∧ M ≤ 1099511627776 ∧ 2 ≤ K ∧ K < 64 ∧ 0 ≤ U ∧ U < 64 ∧ K ≠ U)) : opB C D I M K U s = false := by
  unfold opB atB cntB mvB
  rw [Bool.eq_false_iff]; intro e
  simp only [Bool.and_eq_true, decide_eq_true_iff] at e
  omega
theorem opB_in {C D I M K U : Int} {s : ByteArray} (h0 : rightB C D = true) (h : 1 ≤ C ∧ 1 ≤ I ∧ I ≤ 1099511627776 ∧ 1 ≤ M ∧ M ≤ 1099511627776 ∧ 2 ≤ K ∧ K < 64 ∧ 0 ≤ U ∧ U < 64 ∧ K ≠ U) : opB C D I M K U s = isName (L s) := by
  have h0 := rightB_iff.1 h0
  unfold opB atB cntB mvB
  rw [decide_eq_true (by omega), decide_eq_true (by omega), decide_eq_true (by omega), decide_eq_true (by omega)]; simp

end Go.Proofs.YtdhcgflblbmogaaDoor

/- Numbers as bytes: what is written is read, and what is read was written so. -/
namespace Go.Proofs.YtdhcgflblbmogaaDoor.Cod

/-- The bytes of u: seven bits each, the lowest first. -/
def enc (u : Nat) : List UInt8 := if u < 128 then [UInt8.ofNat u] else UInt8.ofNat (u % 128 + 128) :: enc (u / 128)
termination_by u
decreasing_by omega

theorem enc_small {u : Nat} (h : u < 128) : enc u = [UInt8.ofNat u] := by rw [enc, if_pos h]
theorem enc_big {u : Nat} (h : 128 ≤ u) : enc u = UInt8.ofNat (u % 128 + 128) :: enc (u / 128) := by rw [enc, if_neg (by omega)]

theorem enc_pos (u : Nat) : 1 ≤ (enc u).length := by
  by_cases h : u < 128
  · rw [enc_small h]; simp
  · rw [enc_big (by omega)]; simp

theorem enc_len (m : Nat) : ∀ u, u < 128 ^ (m + 1) → (enc u).length ≤ m + 1 := by
  induction m with
  | zero => intro u h; rw [enc_small (by simpa using h)]; simp
  | succ m ih =>
    intro u h
    by_cases hu : u < 128
    · rw [enc_small hu]; simp
    · rw [enc_big (by omega), List.length_cons]
      have := ih (u / 128) (by rw [Nat.pow_succ] at h; omega)
      omega

theorem enc_ten (u : Nat) (h : u < 18446744073709551616) : (enc u).length ≤ 10 := enc_len 9 u (by omega)

theorem enc_mono (a : Nat) : ∀ b, a ≤ b → (enc a).length ≤ (enc b).length := by
  induction a using Nat.strongRecOn with
  | _ a ih =>
    intro b h
    by_cases ha : a < 128
    · rw [enc_small ha]; exact enc_pos b
    · rw [enc_big (by omega), enc_big (u := b) (by omega), List.length_cons, List.length_cons]
      have := ih (a / 128) (by omega) (b / 128) (by omega)
      omega

/-- The number that a list begins with: k bytes of it came already, and are u. -/
def num : List UInt8 → Nat → Nat → Option (Nat × Nat)
  | [], _, _ => none
  | b :: t, k, u =>
    if k = 9 ∧ 1 < b.toNat then none
    else if 128 ≤ b.toNat then num t (k + 1) (u + 2 ^ (7 * k) * (b.toNat % 128))
    else if b.toNat = 0 ∧ 0 < k then none
    else some (u + 2 ^ (7 * k) * b.toNat, k + 1)

theorem two_split (k : Nat) (h : k ≤ 8) : 2 ^ (64 - 7 * k) = 128 * 2 ^ (64 - 7 * (k + 1)) := by
  rw [show 64 - 7 * k = (64 - 7 * (k + 1)) + 7 by omega, Nat.pow_add]
  omega

/-- What is read was written so. -/
theorem num_some : ∀ (l : List UInt8) (k u U K : Nat), k ≤ 9 → num l k u = some (U, K) →
    ∃ V m, U = u + 2 ^ (7 * k) * V ∧ K = k + m ∧ l.take m = enc V ∧ m = (enc V).length ∧ m ≤ l.length ∧ (0 < k → 0 < V) ∧ V < 2 ^ (64 - 7 * k)
  | [], k, u, U, K, _, h => by simp [num] at h
  | b :: t, k, u, U, K, hk, h => by
    have hb := b.toNat_lt
    rw [num] at h
    by_cases h9 : k = 9 ∧ 1 < b.toNat
    · rw [if_pos h9] at h; cases h
    · rw [if_neg h9] at h
      by_cases hm : 128 ≤ b.toNat
      · rw [if_pos hm] at h
        have hk8 : k ≤ 8 := by omega
        obtain ⟨V, m, e1, e2, e3, e4, e5, e6, e7⟩ := num_some t (k + 1) _ U K (by omega) h
        have hV := e6 (by omega)
        have hE : enc (b.toNat % 128 + 128 * V) = b :: enc V := by
          rw [enc_big (by omega), show (b.toNat % 128 + 128 * V) / 128 = V by omega, show (b.toNat % 128 + 128 * V) % 128 + 128 = b.toNat by omega, UInt8.ofNat_toNat]
        refine ⟨b.toNat % 128 + 128 * V, m + 1, ?_, by omega, ?_, ?_, ?_, fun _ => by omega, ?_⟩
        · rw [e1, show 7 * (k + 1) = 7 * k + 7 by omega, Nat.pow_add, Nat.mul_add, Nat.add_assoc, Nat.mul_assoc]
        · rw [List.take_succ_cons, e3, hE]
        · rw [hE, List.length_cons, ← e4]
        · rw [List.length_cons]; omega
        · have h2 := two_split k hk8
          omega
      · rw [if_neg hm] at h
        by_cases h0 : b.toNat = 0 ∧ 0 < k
        · rw [if_pos h0] at h; cases h
        · rw [if_neg h0] at h
          obtain ⟨rfl, rfl⟩ := Prod.mk.inj (Option.some.inj h)
          have hE : enc b.toNat = [b] := by rw [enc_small (by omega), UInt8.ofNat_toNat]
          refine ⟨b.toNat, 1, rfl, rfl, ?_, ?_, by simp, fun hk0 => by omega, ?_⟩
          · rw [hE]; rfl
          · rw [hE]; rfl
          · by_cases e9 : k = 9
            · subst e9; show b.toNat < 2 ^ 1; omega
            · have h2 := two_split k (by omega)
              have : 0 < 2 ^ (64 - 7 * (k + 1)) := Nat.two_pow_pos _
              omega

/-- What is written is read. -/
theorem num_enc (V : Nat) : ∀ (t : List UInt8) (k u : Nat), k ≤ 9 → (0 < k → 0 < V) → V < 2 ^ (64 - 7 * k) → num (enc V ++ t) k u = some (u + 2 ^ (7 * k) * V, k + (enc V).length) := by
  induction V using Nat.strongRecOn with
  | _ V ih =>
    intro t k u hk h0 hV
    by_cases h : V < 128
    · have hv : (UInt8.ofNat V).toNat = V := by rw [UInt8.toNat_ofNat']; omega
      rw [enc_small h, List.singleton_append, num, hv]
      rw [if_neg (by rintro ⟨rfl, h1⟩; have : V < 2 ^ 1 := hV; omega), if_neg (by omega), if_neg (by omega)]
      rfl
    · have hk8 : k ≤ 8 := by
        by_cases e : k = 9
        · subst e; have : V < 2 ^ 1 := hV; omega
        · omega
      have h2 := two_split k hk8
      have hv : (UInt8.ofNat (V % 128 + 128)).toNat = V % 128 + 128 := by rw [UInt8.toNat_ofNat']; omega
      rw [enc_big (by omega), List.cons_append, num, hv]
      rw [if_neg (by omega), if_pos (by omega), ih (V / 128) (by omega) t (k + 1) _ (by omega) (by omega) (by omega)]
      rw [show 7 * (k + 1) = 7 * k + 7 by omega, Nat.pow_add, Nat.mul_assoc, Nat.add_assoc, ← Nat.mul_add, List.length_cons]
      congr 2
      · rw [show (V % 128 + 128) % 128 + 2 ^ 7 * (V / 128) = V by omega]
      · omega

/-- A number's number, and back. -/
def fold (n : Int) : Nat := if n < 0 then (2 * (-1 - n) + 1).toNat else (2 * n).toNat
def unfold (u : Nat) : Int := if u % 2 = 1 then -1 - (u / 2 : Nat) else (u / 2 : Nat)
theorem unfold_fold (n : Int) : unfold (fold n) = n := by
  unfold fold unfold
  by_cases h : n < 0
  · rw [if_pos h, if_pos (by omega)]; omega
  · rw [if_neg h, if_neg (by omega)]; omega
theorem fold_unfold (u : Nat) : fold (unfold u) = u := by
  unfold fold unfold
  by_cases h : u % 2 = 1
  · rw [if_pos h, if_pos (by omega)]; omega
  · rw [if_neg h, if_neg (by omega)]; omega
theorem fold_lt (n : Int) (h1 : -9223372036854775808 ≤ n) (h2 : n ≤ 9223372036854775807) : fold n < 18446744073709551616 := by
  unfold fold; split <;> omega
theorem unfold_bd (u : Nat) (h : u < 18446744073709551616) : -9223372036854775808 ≤ unfold u ∧ unfold u ≤ 9223372036854775807 := by
  unfold unfold; split <;> omega
theorem fold_mono (a b : Int) (h : 0 ≤ a ∧ a ≤ b ∨ a < 0 ∧ b ≤ a) : fold a ≤ fold b := by
  unfold fold; split <;> split <;> omega

/-- The bytes of a number. -/
def bytesOf (n : Int) : ByteArray := ⟨(enc (fold n)).toArray⟩
theorem bytesOf_list (n : Int) : (bytesOf n).data.toList = enc (fold n) := rfl
theorem bytesOf_size (n : Int) : (bytesOf n).size = (enc (fold n)).length := rfl

/-- What is read of a list: the number, and how many bytes it has. -/
def rd (l : List UInt8) : Option (Int × Nat) := (num l 0 0).map fun p => (unfold p.1, p.2)
theorem rd_enc (n : Int) (h1 : -9223372036854775808 ≤ n) (h2 : n ≤ 9223372036854775807) (t : List UInt8) : rd (enc (fold n) ++ t) = some (n, (enc (fold n)).length) := by
  have hf := fold_lt n h1 h2
  unfold rd
  rw [num_enc (fold n) t 0 0 (by omega) (fun h => absurd h (by omega)) (by omega)]
  simp [unfold_fold]
theorem rd_some {l : List UInt8} {n : Int} {m : Nat} (h : rd l = some (n, m)) : l.take m = enc (fold n) ∧ m = (enc (fold n)).length ∧ 1 ≤ m ∧ m ≤ 10 ∧ m ≤ l.length ∧ -9223372036854775808 ≤ n ∧ n ≤ 9223372036854775807 := by
  unfold rd at h
  obtain ⟨⟨U, K⟩, h1, h2⟩ := Option.map_eq_some_iff.1 h
  obtain ⟨rfl, rfl⟩ := Prod.mk.inj h2
  obtain ⟨V, m, e1, e2, e3, e4, e5, _, e7⟩ := num_some l 0 0 U K (by omega) h1
  have hU : U = V := by omega
  have hK : K = m := by omega
  subst hU hK
  have hlt : U < 18446744073709551616 := by omega
  have := enc_ten U hlt
  have := enc_pos U
  have := unfold_bd U hlt
  rw [fold_unfold]
  exact ⟨e3, e4, by omega, by omega, e5, this⟩

end Go.Proofs.YtdhcgflblbmogaaDoor.Cod

/- What fold, unfold and Num of code give. -/
namespace Go.Proofs.YtdhcgflblbmogaaDoor
open Go.RowKit Cod


end Go.Proofs.YtdhcgflblbmogaaDoor

/- What Num of code gives. -/
namespace Go.Proofs.YtdhcgflblbmogaaDoor
open Go.RowKit Cod

theorem or_128 : ∀ x : Nat, x < 256 → bits .or .u8 (x : Int) 128 = ((x % 128 + 128 : Nat) : Int) := by decide +kernel
theorem info5 : (Tryd.prog.info? 5).map (fun i => (i.zero, i.size, i.bytes)) = some (some (.int .u8 0), 1, 1) := by kernel_rfl

/-- Bytes as cells. -/
def cellsB (l : List UInt8) : List Value := l.map fun b => .int .u8 (b.toNat : Int)
theorem cellsB_len (l : List UInt8) : (cellsB l).length = l.length := by unfold cellsB; simp
theorem cellsB_snoc (l : List UInt8) (n : Nat) (h : n < 256) : cellsB l ++ [.int .u8 (n : Int)] = cellsB (l ++ [UInt8.ofNat n]) := by
  have hv : (UInt8.ofNat n).toNat = n := by rw [UInt8.toNat_ofNat']; omega
  unfold cellsB; simp [hv]
theorem cellsB_at (l : List UInt8) (j : Nat) (h : j < l.length) : (cellsB l)[j]? = some (.int .u8 (l[j].toNat : Int)) := by
  unfold cellsB; simp [List.getElem?_eq_getElem h]

theorem own_cells {w : World} {B : Nat} {e : TypeId} {v : Value} {n : Nat} {xs : List Value} (h : w.ownsRowF B e 1 v n xs) (hn : 0 < n) :
    ∃ g cap, v = .slice (some ⟨g, 0, none⟩) n cap ∧ ∀ j u, xs[j]? = some u → w.cell? ⟨g, j, none⟩ = some u := by
  have hc := fun g => h.cells (g := g)
  rcases h.2 with ⟨rfl, hz⟩ | ⟨g, cap, cur, fz, rfl, _⟩
  · omega
  · refine ⟨g, cap, rfl, fun j u hu => ?_⟩
    have := hc g rfl j u hu
    rw [Addr.add_lit, Nat.zero_add] at this; exact this

theorem conv_own {w w0 : World} {B : Nat} {v : Value} {xs : List UInt8} (h : Lib.OwnBuf B 5 v xs.length (cellsB xs) w0 w) (hn : 0 < xs.length) :
    (convert 47 9 v).run Tryd.prog w = .ok (.string ⟨xs.toArray⟩) w := by
  obtain ⟨g, cap, rfl, hc⟩ := own_cells h.1 hn
  refine run_convert_bytes_back (P := Tryd.prog) w 47 9 5 ⟨g, 0, none⟩ cap xs Tryd.underlying47 Tryd.underlying5 Tryd.underlying9 ?_
  intro j hj
  rw [Addr.add_lit, Nat.zero_add]
  exact hc j _ (cellsB_at xs j hj)

end Go.Proofs.YtdhcgflblbmogaaDoor

/- The document's Num; Text, Bit, Least of both. -/
namespace Go.Proofs.YtdhcgflblbmogaaDoor
open Go.RowKit Cod

theorem dl_inj {a b : ByteArray} (h : a.data.toList = b.data.toList) : a = b := by
  cases a; cases b; simp at h; rw [h]
theorem dl_app (a b : ByteArray) : (a ++ b).data.toList = a.data.toList ++ b.data.toList := by simp
theorem dl_len (a : ByteArray) : a.data.toList.length = a.size := by simp

theorem conv1 (d : Nat) (hd : d < 256) (w : World) :
    (convert 47 9 (.slice (some ⟨w.heap.size, 0, none⟩) 1 1)).run Tryd.prog (w.alloc (.cells #[.int .u8 (d : Int)] 5)) = .ok (.string ⟨#[UInt8.ofNat d]⟩) (w.alloc (.cells #[.int .u8 (d : Int)] 5)) := by
  refine run_convert_bytes_back (P := Tryd.prog) _ 47 9 5 ⟨w.heap.size, 0, none⟩ 1 [UInt8.ofNat d] Tryd.underlying47 Tryd.underlying5 Tryd.underlying9 ?_
  intro j hj
  have hv : (UInt8.ofNat d).toNat = d := by rw [UInt8.toNat_ofNat']; omega
  match j, hj with
  | 0, _ => simp [Addr.add, hv]

theorem or_one (x : Nat) (hx : x < 9223372036854775808) : bits .or .u64 ((2 * x : Nat) : Int) 1 = ((2 * x + 1 : Nat) : Int) := by
  have h := u64_or_nat (2 * x) 1 (by omega) (by omega)
  rw [show 2 * x = 2 ^ 1 * x by omega, ← Nat.two_pow_add_eq_or_of_lt (by decide) x] at h
  rw [show 2 * x = 2 ^ 1 * x by omega]
  exact h


theorem bytesOf_pos (n : Int) : 1 ≤ (bytesOf n).size := by rw [bytesOf_size]; exact enc_pos _
theorem bytesOf_le (n : Int) (h1 : -9223372036854775808 ≤ n) (h2 : n ≤ 9223372036854775807) : (bytesOf n).size ≤ 10 := by
  rw [bytesOf_size]; exact enc_ten _ (fold_lt n h1 h2)

/-- A text's bytes. -/
def textOf (s : ByteArray) : ByteArray := bytesOf s.size ++ s

/-- A bool's bytes. -/
def bitOf (b : Bool) : ByteArray := bytesOf (if b then 1 else 0)

end Go.Proofs.YtdhcgflblbmogaaDoor

/- A scope with several labels; a reader in memory. -/
namespace Go.Proofs.YtdhcgflblbmogaaDoor
open Go.RowKit Cod

/-- By a goto to label l: J l; else as Q. -/
def jumps (J : Nat → Act → World → Prop) (Q : Exit → Act → World → Prop) : Exit → Act → World → Prop
  | .goto l, a, w => J l a w
  | e, a, w => Q e a w

section
variable {P : Program} {a : Act} {w : World} {Q : Exit → Act → World → Prop} {J : Nat → Act → World → Prop}
theorem jumps_goto (l : Nat) : jumps J Q (.goto l) a w = J l a w := rfl
theorem jumps_ret : jumps J Q .ret a w = Q .ret a w := rfl

/-- What holds at every jump, for each label; a measure that every pass lowers. -/
theorem wp_scope_labels {c : Code} (J : Nat → Act → World → Prop) (μ : Nat → Act → World → Nat) (first : c.wp P (jumps J Q) a w)
    (pass : ∀ l a w, J l a w → ∃ rest, findLabel c l = some rest ∧ rest.wp P (jumps (fun l' a' w' => J l' a' w' ∧ μ l' a' w' < μ l a w) Q) a w) : (Code.scope c).wp P Q a w := by
  intro b k cs
  have key : ∀ n l a w, μ l a w = n → J l a w → ∃ rest, gotoIn l (.inScope c :: k) = some (.code rest :: .inScope c :: k) ∧ ∃ e a' w', Q e a' w' ∧ Arrives P (lone (b.at a (.code rest :: .inScope c :: k)) cs w) b k cs e a' w' := by
    intro n
    induction n using Nat.strongRecOn with
    | _ n ih =>
      intro l a w hn hJ
      obtain ⟨rest, hf, hp⟩ := pass l a w hJ
      refine ⟨rest, by simp [gotoIn, hf], ?_⟩
      obtain ⟨e, a₁, w₁, hq, harr⟩ := hp b (.inScope c :: k) cs
      cases e with
      | normal => exact ⟨.normal, a₁, w₁, hq, Steps.trans harr (.one step_inScope)⟩
      | exit id => exact ⟨.exit id, a₁, w₁, hq, fun k' hk => harr k' (by simp [exitTo, hk])⟩
      | goto l' =>
        obtain ⟨hJ', hlt⟩ := hq
        obtain ⟨rest', hg, e₂, a₂, w₂, hq₂, harr₂⟩ := ih _ (by omega) l' a₁ w₁ rfl hJ'
        exact ⟨e₂, a₂, w₂, hq₂, .of_steps (harr _ hg) harr₂⟩
      | ret => exact ⟨_, a₁, w₁, hq, harr⟩
      | panic ch => exact ⟨_, a₁, w₁, hq, harr⟩
      | outgrown => exact ⟨_, a₁, w₁, hq, harr⟩
  obtain ⟨e, a₁, w₁, hq, harr⟩ := first b (.inScope c :: k) cs
  cases e with
  | normal => exact ⟨.normal, a₁, w₁, hq, .head step_scope (Steps.trans harr (.one step_inScope))⟩
  | exit id => exact ⟨.exit id, a₁, w₁, hq, fun k' hk => .head step_scope (harr k' (by simp [exitTo, hk]))⟩
  | goto l' =>
    obtain ⟨rest', hg, e₂, a₂, w₂, hq₂, harr₂⟩ := key _ l' a₁ w₁ rfl hq
    exact ⟨e₂, a₂, w₂, hq₂, .of_steps (.head step_scope (harr _ hg)) harr₂⟩
  | ret => exact ⟨_, a₁, w₁, hq, .of_steps (.one step_scope) harr⟩
  | panic ch => exact ⟨_, a₁, w₁, hq, .of_steps (.one step_scope) harr⟩
  | outgrown => exact ⟨_, a₁, w₁, hq, .of_steps (.one step_scope) harr⟩
end

/-- In block b lies a reader of type T: its text, where it stands, whether it went wrong. -/
def Rd (T : TypeId) (w : World) (b : Nat) (s : ByteArray) (at_ : Nat) (bad : Bool) : Prop :=
  w.heap[b]? = some (.cells #[.string s, .int .i64 (at_ : Int), .bool bad] T (0, 0))

section
variable {T : TypeId} {w w' : World} {b : Nat} {s : ByteArray} {p : Nat} {bad : Bool}
theorem Rd.lt (h : Rd T w b s p bad) : b < w.heap.size := by
  rcases Nat.lt_or_ge b w.heap.size with hlt | hge
  · exact hlt
  · unfold Rd at h; rw [Array.getElem?_eq_none hge] at h; cases h
theorem Rd.cells (h : Rd T w b s p bad) : w.cell? ⟨b, 0, none⟩ = some (.string s) ∧ w.cell? ⟨b, 1, none⟩ = some (.int .i64 (p : Int)) ∧ w.cell? ⟨b, 2, none⟩ = some (.bool bad) :=
  ⟨cell_of_row w b 0 _ T (0, 0) h, cell_of_row w b 1 _ T (0, 0) h, cell_of_row w b 2 _ T (0, 0) h⟩
theorem Rd.frozen (h : Rd T w b s p bad) (i : Nat) : w.frozen? ⟨b, i, none⟩ = false := by
  unfold Rd at h
  simp [World.frozen?, h]
theorem Rd.new (w : World) (T : TypeId) (s : ByteArray) (p : Int) (h : p = 0) : Rd T (w.alloc (.cells #[.string s, .int .i64 p, .bool false] T)) w.heap.size s 0 false := by
  subst h; exact heap_alloc_new w _
theorem Rd.drewN (h : Rd T w b s p bad) (n : Nat) : Rd T (w.drewN n) b s p bad := h
theorem Rd.keep {row : Option Nat} (h : Rd T w b s p bad) (hg : w.grownBy w' row) (hne : some b ≠ row) : Rd T w' b s p bad := (hg.block b h.lt hne).trans h
theorem Rd.below (h : Rd T w b s p bad) (hg : Below w.heap.size w w') : Rd T w' b s p bad := (hg.block b h.lt).trans h
theorem Rd.setAt (h : Rd T w b s p bad) (q : Nat) : Rd T (w.setCell ⟨b, 1, none⟩ (.int .i64 (q : Int))) b s q bad := by
  unfold Rd at h ⊢
  simp [World.setCell, Array.getElem?_modify, h]
theorem Rd.setBad (h : Rd T w b s p bad) : Rd T (w.setCell ⟨b, 2, none⟩ (.bool true)) b s p true := by
  unfold Rd at h ⊢
  simp [World.setCell, Array.getElem?_modify, h]
end

theorem by_refl (w : World) (r : Option Nat) : w.grownBy w r := ⟨rfl, rfl, rfl, Nat.le_refl _, fun _ _ _ => rfl⟩
theorem by_trans {a b c : World} {r : Option Nat} (h : a.grownBy b r) (k : b.grownBy c r) : a.grownBy c r :=
  ⟨k.os.trans h.os, k.tape.trans h.tape, k.output.trans h.output, Nat.le_trans h.size k.size, fun i hi hn => (k.block i (Nat.lt_of_lt_of_le hi h.size) hn).trans (h.block i hi hn)⟩
theorem by_drewN {a w : World} {r : Option Nat} (h : a.grownBy w r) (n : Nat) : a.grownBy (w.drewN n) r := ⟨h.os, h.tape, h.output, h.size, h.block⟩
theorem by_set {a w : World} {b : Nat} (h : a.grownBy w (some b)) (i : Nat) (u : Value) : a.grownBy (w.setCell ⟨b, i, none⟩ u) (some b) :=
  ⟨h.os, h.tape, h.output, by simpa [World.setCell] using h.size, fun k hk hne => (Below.heap_setCell w _ u k (fun e => hne (congrArg some e))).trans (h.block k hk hne)⟩
theorem by_below {w w' : World} (h : Below w.heap.size w w') (r : Option Nat) : w.grownBy w' r := ⟨h.os, h.tape, h.output, h.size, fun i hi _ => h.block i hi⟩
theorem below_by {W w w' : World} {b : Nat} (h : Below W.heap.size W w) (k : w.grownBy w' (some b)) (hb : W.heap.size ≤ b) : Below W.heap.size W w' :=
  h.grown k h.size (fun _ e => by cases e; exact hb)

end Go.Proofs.YtdhcgflblbmogaaDoor

/- What Print gives, of the program and of the document: layer op. -/
namespace Go.Proofs.YtdhcgflblbmogaaDoor
open Go.RowKit Cod

structure Wide (C D I M K U : Int) : Prop where
  c : i64 C
  d : i64 D
  i : i64 I
  m : i64 M
  k : i64 K
  u : i64 U
def printOf (C D I M K U : Int) (s : ByteArray) : ByteArray := bytesOf C ++ bytesOf D ++ bytesOf I ++ bytesOf M ++ bytesOf K ++ bytesOf U ++ textOf s

section
variable {w w' : World} {b : Nat} {C D I M K U : Int} {s : ByteArray}
end

theorem text_le (s : ByteArray) (hs : s.size ≤ 1000000) : (textOf s).size ≤ 1000010 := by
  unfold textOf; rw [ByteArray.size_append]
  have := bytesOf_le s.size (by omega) (by omega)
  omega

end Go.Proofs.YtdhcgflblbmogaaDoor

/- An operation in a block: stored, loaded, handed back whole. -/
namespace Go.Proofs.YtdhcgflblbmogaaDoor
open Go.RowKit Cod

def opCells (C D I M K U : Int) (s : ByteArray) : Array Value := #[.int .i64 C, .int .i64 D, .int .i64 I, .int .i64 M, .int .i64 K, .int .i64 U, .string s]
end Go.Proofs.YtdhcgflblbmogaaDoor

/- What Num of code's Reader gives. -/
namespace Go.Proofs.YtdhcgflblbmogaaDoor
open Go.RowKit Cod

theorem andNot_128 : ∀ x : Nat, x < 256 → bits .andNot .u8 (x : Int) 128 = ((x % 128 : Nat) : Int) := by decide +kernel

/-- u has 7k bits: the next ones are laid above them. -/
theorem or_above (k u x : Nat) (hk : k ≤ 9) (hu : u < 2 ^ (7 * k)) (hx : x < 128) (h9 : k = 9 → x ≤ 1) :
    2 ^ (7 * k) * x < 18446744073709551616 ∧ u + 2 ^ (7 * k) * x < 18446744073709551616 ∧ u + 2 ^ (7 * k) * x < 2 ^ (7 * (k + 1)) ∧ bits .or .u64 (u : Int) ((2 ^ (7 * k) * x : Nat) : Int) = ((u + 2 ^ (7 * k) * x : Nat) : Int) := by
  have hp : 2 ^ (7 * (k + 1)) = 2 ^ (7 * k) * 128 := by rw [show 7 * (k + 1) = 7 * k + 7 by omega, Nat.pow_add]
  have h1 : 2 ^ (7 * k) * x + 2 ^ (7 * k) ≤ 2 ^ (7 * k) * 128 := by
    rw [← Nat.mul_succ]; exact Nat.mul_le_mul_left _ (by omega)
  have h2 : 2 ^ (7 * k) * x + 2 ^ (7 * k) ≤ 18446744073709551616 := by
    by_cases e : k = 9
    · subst e
      have := h9 rfl
      have h3 : 2 ^ (7 * 9) * x ≤ 2 ^ (7 * 9) * 1 := Nat.mul_le_mul_left _ this
      have h4 : (2 : Nat) ^ (7 * 9) = 9223372036854775808 := by decide
      omega
    · have h3 : 2 ^ (7 * k) ≤ 2 ^ 56 := Nat.pow_le_pow_right (by decide) (by omega)
      have h4 : 2 ^ (7 * k) * 128 ≤ 2 ^ 56 * 128 := Nat.mul_le_mul_right _ h3
      have h5 : (2 : Nat) ^ 56 * 128 = 9223372036854775808 := by decide
      omega
  refine ⟨by omega, by omega, by omega, ?_⟩
  rw [u64_or_nat _ _ (by omega) (by omega), Nat.or_comm, ← Nat.two_pow_add_eq_or_of_lt hu x, Nat.add_comm]

/-- At the label of the next byte; where it goes wrong. -/
def AtNext (b : Nat) (u mv p : Value) (a : Act) : Prop := ∃ x5 x7 x8 x9 x10 x11 x12 x13 x14 x15 x16 x17 x18 x19 x20 x21 x22 x23 x24 x25 x26 x27 x28 x29 x30 x31 x32 x33 x34 x35 x36 x37 x38 x39 x40 x41 x42 x43 x44 x45 x46 x47 x48 x49 x50 x51 x52 x53 x54 x55 x56 x57 x58 x59 x60 x61 x62 x63 x64 x65 : Value, a = { tmps := #[.pointer (some ⟨b, 0, none⟩), undef, .int .i64 0, u, mv, x5, p, x7, x8, x9, x10, x11, x12, x13, x14, x15, x16, x17, x18, x19, x20, x21, x22, x23, x24, x25, x26, x27, x28, x29, x30, x31, x32, x33, x34, x35, x36, x37, x38, x39, x40, x41, x42, x43, x44, x45, x46, x47, x48, x49, x50, x51, x52, x53, x54, x55, x56, x57, x58, x59, x60, x61, x62, x63, x64, x65], defers := [] }
def AtWrong (b : Nat) (a : Act) : Prop := ∃ u mv p : Value, AtNext b u mv p a

/-- What Num leaves. -/
def NumPost (T : TypeId) (b : Nat) (s : ByteArray) (p : Nat) (w : World) (e : Ending) (w' : World) : Prop :=
  (∃ n m, rd (s.data.toList.drop p) = some (n, m) ∧ e = .returned (.int .i64 n) ∧ Rd T w' b s (p + m) false ∧ w.grownBy w' (some b)) ∨
  (rd (s.data.toList.drop p) = none ∧ e = .returned (.int .i64 0) ∧ (∃ q, q ≤ s.size ∧ Rd T w' b s q true) ∧ w.grownBy w' (some b))

theorem rd_none {l : List UInt8} (h : num l 0 0 = none) : rd l = none := by unfold rd; rw [h]; rfl
theorem rd_of {l : List UInt8} {u m : Nat} (h : num l 0 0 = some (u, m)) : rd l = some (unfold u, m) := by unfold rd; rw [h]; rfl

theorem drop_at (s : ByteArray) (i : Nat) (h : i < s.size) : s.data.toList.drop i = s[i] :: s.data.toList.drop (i + 1) := by
  rw [List.drop_eq_getElem_cons (by simpa using h)]; rfl
theorem drop_end (s : ByteArray) (i : Nat) (h : ¬ i < s.size) : s.data.toList.drop i = [] := List.drop_eq_nil_of_le (by simp; omega)
theorem num_end (k u : Nat) : num [] k u = none := rfl
theorem num_go {c : UInt8} {t : List UInt8} {k u : Nat} (hk : k = 9 → c.toNat ≤ 1) (h : 128 ≤ c.toNat) : num (c :: t) k u = num t (k + 1) (u + 2 ^ (7 * k) * (c.toNat % 128)) := by
  rw [num, if_neg (by rintro ⟨h1, h2⟩; have := hk h1; omega), if_pos h]
theorem num_last {c : UInt8} {t : List UInt8} {k u : Nat} (hk : k = 9 → c.toNat ≤ 1) (h : c.toNat < 128) (h0 : 0 < k → 0 < c.toNat) : num (c :: t) k u = some (u + 2 ^ (7 * k) * (c.toNat % 128), k + 1) := by
  rw [num, if_neg (by rintro ⟨h1, h2⟩; have := hk h1; omega), if_neg (by omega), if_neg (by rintro ⟨h1, h2⟩; have := h0 h2; omega), Nat.mod_eq_of_lt h]
theorem num_over {c : UInt8} {t : List UInt8} {u : Nat} (h : 1 < c.toNat) : num (c :: t) 9 u = none := by
  rw [num, if_pos ⟨rfl, h⟩]
theorem num_more {c : UInt8} {t : List UInt8} {k u : Nat} (hk : 0 < k) (h : c.toNat = 0) : num (c :: t) k u = none := by
  rw [num, if_neg (by omega), if_neg (by omega), if_pos ⟨h, hk⟩]

def NextJ (b : Nat) (s : ByteArray) (p : Nat) (w : World) (l : Nat) (a : Act) (w' : World) : Prop :=
  w = w' ∧ ((l = 1 ∧ ∃ k u : Nat, AtNext b (.int .u64 u) (.int .u64 ((7 * k : Nat) : Int)) (.int .i64 ((p + k : Nat) : Int)) a ∧ k ≤ 9 ∧ 1 ≤ k ∧ p + k ≤ s.size ∧ u < 2 ^ (7 * k) ∧ num (s.data.toList.drop (p + k)) k u = num (s.data.toList.drop p) 0 0) ∨
    (l = 0 ∧ AtWrong b a ∧ num (s.data.toList.drop p) 0 0 = none))
def nextM (l : Nat) (a : Act) (_ : World) : Nat := if l = 1 then (100 - intOf (a.tmps.getD 4 undef)).toNat + 1 else 0

end Go.Proofs.YtdhcgflblbmogaaDoor

/- What Num of the document's Reader gives; of both, behind Bad. -/
namespace Go.Proofs.YtdhcgflblbmogaaDoor
open Go.RowKit Cod

theorem and_127 : ∀ x : Nat, x < 256 → bits .and .u8 (x : Int) 127 = ((x % 128 : Nat) : Int) := by decide +kernel
theorem and_one (z : Nat) (h : z < 18446744073709551616) : bits .and .u64 (z : Int) 1 = ((z % 2 : Nat) : Int) := by
  have k := u64_and_nat z 1 h (by decide)
  rw [Nat.and_one_is_mod] at k
  exact k

end Go.Proofs.YtdhcgflblbmogaaDoor

/- Num of both Readers, in two words: what comes, or that nothing comes. -/
namespace Go.Proofs.YtdhcgflblbmogaaDoor
open Go.RowKit Cod

def BadJ (b : Nat) (w : World) (l : Nat) (a : Act) (w' : World) : Prop := w = w' ∧ l = 0 ∧ AtWrong b a

/-- It went wrong already, or nothing comes: the zero value. -/
def No (T : TypeId) (b : Nat) (s : ByteArray) (w : World) (z : Value) (e : Ending) (w' : World) : Prop :=
  e = .returned z ∧ (∃ q, q ≤ s.size ∧ Rd T w' b s q true) ∧ w.grownBy w' (some b)
/-- What comes, and from where on to read. -/
def Yes (T : TypeId) (b : Nat) (s : ByteArray) (w : World) (v : Value) (q : Nat) (e : Ending) (w' : World) : Prop :=
  e = .returned v ∧ Rd T w' b s q false ∧ w.grownBy w' (some b)

theorem list_len (s : ByteArray) (p : Nat) : (s.data.toList.drop p).length = s.size - p := by simp

section
variable {T : TypeId} {b : Nat} {s : ByteArray} {p : Nat} {w : World} {bad : Bool}
theorem post_yes {e : Ending} {w' : World} {n : Int} {m : Nat} (h : rd (s.data.toList.drop p) = some (n, m)) (k : NumPost T b s p w e w') : Yes T b s w (.int .i64 n) (p + m) e w' := by
  rcases k with ⟨n', m', h1, he, hr, hb⟩ | ⟨h1, _⟩
  · rw [h] at h1
    obtain ⟨rfl, rfl⟩ := Prod.mk.inj (Option.some.inj h1)
    exact ⟨he, hr, hb⟩
  · rw [h] at h1; cases h1
theorem post_no {e : Ending} {w' : World} (h : rd (s.data.toList.drop p) = none) (k : NumPost T b s p w e w') : No T b s w (.int .i64 0) e w' := by
  rcases k with ⟨n', m', h1, _⟩ | ⟨_, he, hr, hb⟩
  · rw [h] at h1; cases h1
  · exact ⟨he, hr, hb⟩

/-- The number that stands at p, and what stands behind it. -/
def isNum (s : ByteArray) (p : Nat) (bad : Bool) : Option (Int × Nat) := if bad then none else (rd (s.data.toList.drop p)).map fun x => (x.1, p + x.2)
theorem isNum_some {n : Int} {q : Nat} (h : isNum s p bad = some (n, q)) : bad = false ∧ (∃ m, rd (s.data.toList.drop p) = some (n, m) ∧ q = p + m) ∧ q ≤ s.size ∧ p < q ∧ -9223372036854775808 ≤ n ∧ n ≤ 9223372036854775807 := by
  unfold isNum at h
  cases bad
  · obtain ⟨⟨n', m⟩, h1, h2⟩ := Option.map_eq_some_iff.1 h
    obtain ⟨rfl, rfl⟩ := Prod.mk.inj h2
    obtain ⟨_, _, k1, _, k2, k3, k4⟩ := rd_some h1
    rw [list_len] at k2
    exact ⟨rfl, ⟨m, h1, rfl⟩, by show p + m ≤ _; omega, by show p < p + m; omega, k3, k4⟩
  · cases h
theorem isNum_none (h : isNum s p bad = none) : bad = true ∨ bad = false ∧ rd (s.data.toList.drop p) = none := by
  unfold isNum at h
  cases bad
  · exact Or.inr ⟨rfl, by simpa using h⟩
  · exact Or.inl rfl

end

end Go.Proofs.YtdhcgflblbmogaaDoor

/- Count and Bool of both Readers. -/
namespace Go.Proofs.YtdhcgflblbmogaaDoor
open Go.RowKit Cod

/-- The number from 0 to most that stands at p. -/
def isCount (s : ByteArray) (p : Nat) (bad : Bool) (most : Int) : Option (Int × Nat) :=
  match isNum s p bad with
  | some (n, q) => if 0 ≤ n ∧ n ≤ most then some (n, q) else none
  | none => none

section
variable {b : Nat} {s : ByteArray} {p : Nat} {w : World} {bad : Bool}
theorem isCount_some {most n : Int} {q : Nat} (h : isCount s p bad most = some (n, q)) : isNum s p bad = some (n, q) ∧ 0 ≤ n ∧ n ≤ most := by
  unfold isCount at h
  split at h
  · rename_i n' q' h1
    split at h
    · rename_i h2
      obtain ⟨rfl, rfl⟩ := Prod.mk.inj (Option.some.inj h)
      exact ⟨h1, h2⟩
    · cases h
  · cases h
theorem isCount_none {most : Int} (h : isCount s p bad most = none) : isNum s p bad = none ∨ ∃ n q, isNum s p bad = some (n, q) ∧ (n < 0 ∨ most < n) := by
  unfold isCount at h
  split at h
  · rename_i n' q' h1
    split at h
    · cases h
    · exact Or.inr ⟨n', q', h1, by omega⟩
  · exact Or.inl ‹_›

/-- The bool that stands at p. -/
def isBool (s : ByteArray) (p : Nat) (bad : Bool) : Option (Bool × Nat) := (isCount s p bad 1).map fun x => (decide (x.1 = 1), x.2)
theorem isBool_some {v : Bool} {q : Nat} (h : isBool s p bad = some (v, q)) : ∃ n, isCount s p bad 1 = some (n, q) ∧ (n = 1 ∧ v = true ∨ n = 0 ∧ v = false) := by
  unfold isBool at h
  obtain ⟨⟨n, q'⟩, h1, h2⟩ := Option.map_eq_some_iff.1 h
  obtain ⟨rfl, rfl⟩ := Prod.mk.inj h2
  obtain ⟨_, h3, h4⟩ := isCount_some h1
  refine ⟨n, h1, ?_⟩
  by_cases h5 : n = 1
  · exact Or.inl ⟨h5, by simp [h5]⟩
  · exact Or.inr ⟨by omega, by simp [h5]⟩
theorem isBool_none (h : isBool s p bad = none) : isCount s p bad 1 = none := by simpa [isBool] using h

end

end Go.Proofs.YtdhcgflblbmogaaDoor

/- Text and Done of both Readers. -/
namespace Go.Proofs.YtdhcgflblbmogaaDoor
open Go.RowKit Cod

/-- The text that stands at p. -/
def isText (s : ByteArray) (p : Nat) (bad : Bool) (most : Int) : Option (ByteArray × Nat) :=
  match isCount s p bad most with
  | some (n, q) => if n.toNat + q ≤ s.size then some (s.extract q (q + n.toNat), q + n.toNat) else none
  | none => none

section
variable {b : Nat} {s : ByteArray} {p : Nat} {w : World} {bad : Bool}
theorem isText_some {most : Int} {t : ByteArray} {e : Nat} (h : isText s p bad most = some (t, e)) : ∃ n q : Nat, isCount s p bad most = some ((n : Int), q) ∧ n + q ≤ s.size ∧ t = s.extract q (q + n) ∧ e = q + n := by
  unfold isText at h
  split at h
  · rename_i n' q' h1
    split at h
    · rename_i h2
      obtain ⟨rfl, rfl⟩ := Prod.mk.inj (Option.some.inj h)
      obtain ⟨_, h3, _⟩ := isCount_some h1
      exact ⟨n'.toNat, q', by rw [Int.toNat_of_nonneg h3]; exact h1, h2, rfl, rfl⟩
    · cases h
  · cases h
theorem isText_none {most : Int} (h : isText s p bad most = none) : isCount s p bad most = none ∨ ∃ n q : Nat, isCount s p bad most = some ((n : Int), q) ∧ s.size < n + q := by
  unfold isText at h
  split at h
  · rename_i n' q' h1
    split at h
    · cases h
    · obtain ⟨_, h3, _⟩ := isCount_some h1
      exact Or.inr ⟨n'.toNat, q', by rw [Int.toNat_of_nonneg h3]; exact h1, by omega⟩
  · exact Or.inl ‹_›

/-- Is nothing left, and did nothing go wrong? -/
def isDone (s : ByteArray) (p : Nat) (bad : Bool) : Bool := !bad && decide (p = s.size)

end

end Go.Proofs.YtdhcgflblbmogaaDoor

/- A number, a text read, whatever the reader's state; small steps on worlds. -/
namespace Go.Proofs.YtdhcgflblbmogaaDoor
open Go.RowKit Cod

def numStep (s : ByteArray) (p : Nat) (bad : Bool) (v : Int) (q : Nat) (bad' : Bool) : Prop := (isNum s p bad = some (v, q) ∧ bad' = false) ∨ (isNum s p bad = none ∧ v = 0 ∧ bad' = true)
def textStep (s : ByteArray) (p : Nat) (bad : Bool) (v : ByteArray) (q : Nat) (bad' : Bool) : Prop := (isText s p bad 16 = some (v, q) ∧ bad' = false) ∨ (isText s p bad 16 = none ∧ v = ⟨#[]⟩ ∧ bad' = true)
theorem isNum_bad (s : ByteArray) (p : Nat) : isNum s p true = none := rfl
theorem isText_bad (s : ByteArray) (p : Nat) (m : Int) : isText s p true m = none := by
  rcases h : isText s p true m with _ | ⟨t, e⟩
  · rfl
  · obtain ⟨n, q, h1, _⟩ := isText_some h
    have := (isCount_some h1).1
    rw [isNum_bad] at this; cases this
theorem numStep.good {s : ByteArray} {p : Nat} {bad : Bool} {v : Int} {q : Nat} (h : numStep s p bad v q false) : bad = false ∧ isNum s p false = some (v, q) := by
  rcases h with ⟨h, _⟩ | ⟨_, _, h⟩
  · cases bad
    · exact ⟨rfl, h⟩
    · rw [isNum_bad] at h; cases h
  · cases h
theorem numStep.ill {s : ByteArray} {p : Nat} {bad : Bool} {v : Int} {q : Nat} (h : numStep s p bad v q true) : isNum s p bad = none := by
  rcases h with ⟨_, h⟩ | ⟨h, _⟩
  · cases h
  · exact h
theorem numStep.back {s : ByteArray} {p : Nat} {bad : Bool} {v : Int} {q : Nat} (h : numStep s p bad v q false) : isNum s p bad = some (v, q) := by
  rcases h with ⟨h, _⟩ | ⟨_, _, h⟩
  · exact h
  · cases h
theorem textStep.good {s : ByteArray} {p : Nat} {bad : Bool} {v : ByteArray} {q : Nat} (h : textStep s p bad v q false) : bad = false ∧ isText s p false 16 = some (v, q) := by
  rcases h with ⟨h, _⟩ | ⟨_, _, h⟩
  · cases bad
    · exact ⟨rfl, h⟩
    · rw [isText_bad] at h; cases h
  · cases h
theorem textStep.ill {s : ByteArray} {p : Nat} {bad : Bool} {v : ByteArray} {q : Nat} (h : textStep s p bad v q true) : isText s p bad 16 = none := by
  rcases h with ⟨_, h⟩ | ⟨h, _⟩
  · cases h
  · exact h

section
variable {w a : World} {b : Nat} {s : ByteArray}
theorem Rd.other {T : TypeId} {q : Nat} {bad : Bool} (h : Rd T w b s q bad) (n i : Nat) (v : Value) (hne : b ≠ n) : Rd T (w.setCell ⟨n, i, none⟩ v) b s q bad :=
  (Below.heap_setCell w ⟨n, i, none⟩ v b hne).trans h
theorem by_setNew (h : a.grownBy w (some b)) (n i : Nat) (v : Value) (hn : a.heap.size ≤ n) : a.grownBy (w.setCell ⟨n, i, none⟩ v) (some b) :=
  ⟨h.os, h.tape, h.output, by simpa [World.setCell] using h.size, fun k hk hne => (Below.heap_setCell w ⟨n, i, none⟩ v k (by intro e; have e : k = n := e; omega)).trans (h.block k hk hne)⟩
theorem by_setRow (h : a.grownBy w (some b)) (n : Nat) (cs : Array Value) (hn : a.heap.size ≤ n) : a.grownBy (w.setRow n cs) (some b) :=
  ⟨h.os, h.tape, h.output, by simpa [World.setRow] using h.size, fun k hk hne => (setRow_other w n k cs (by omega)).trans (h.block k hk hne)⟩
theorem Rd.row {T : TypeId} {q : Nat} {bad : Bool} (h : Rd T w b s q bad) (n : Nat) (cs : Array Value) (hne : b ≠ n) : Rd T (w.setRow n cs) b s q bad := (setRow_other w n b cs hne).trans h
end
end Go.Proofs.YtdhcgflblbmogaaDoor

/- What Read gives, of the program and of the document: layer op. -/
namespace Go.Proofs.YtdhcgflblbmogaaDoor
open Go.RowKit Nam Cod

structure Mv where
  C : Int
  D : Int
  I : Int
  M : Int
  K : Int
  U : Int
  s : ByteArray
def zeroMv : Mv := ⟨0, 0, 0, 0, 0, 0, ⟨#[]⟩⟩
def isOp (s : ByteArray) (p : Nat) (bad : Bool) : Option (Mv × Nat) :=
  (isNum s p bad).bind fun a => (isNum s a.2 false).bind fun b => (isNum s b.2 false).bind fun c => (isNum s c.2 false).bind fun d => (isNum s d.2 false).bind fun e => (isNum s e.2 false).bind fun f => (isText s f.2 false 16).bind fun g =>
    if opB a.1 b.1 c.1 d.1 e.1 f.1 g.1 = true then some (⟨a.1, b.1, c.1, d.1, e.1, f.1, g.1⟩, g.2) else none
def opStep (s : ByteArray) (p : Nat) (bad : Bool) (o : Mv) (q : Nat) (bad' : Bool) : Prop := (isOp s p bad = some (o, q) ∧ bad' = false) ∨ (isOp s p bad = none ∧ o = zeroMv ∧ bad' = true)

/-- The seven steps, one behind the other. -/
structure Steps7 (s : ByteArray) (p : Nat) (bad : Bool) (C D I M K U : Int) (t : ByteArray) (q7 : Nat) (b7 : Bool) : Prop where
  all : ∃ q1 q2 q3 q4 q5 q6 b1 b2 b3 b4 b5 b6, numStep s p bad C q1 b1 ∧ numStep s q1 b1 D q2 b2 ∧ numStep s q2 b2 I q3 b3 ∧ numStep s q3 b3 M q4 b4 ∧ numStep s q4 b4 K q5 b5 ∧ numStep s q5 b5 U q6 b6 ∧ textStep s q6 b6 t q7 b7
theorem Steps7.good {s : ByteArray} {p : Nat} {bad : Bool} {C D I M K U : Int} {t : ByteArray} {q7 : Nat} (h : Steps7 s p bad C D I M K U t q7 false) : isOp s p bad = if opB C D I M K U t = true then some (⟨C, D, I, M, K, U, t⟩, q7) else none := by
  obtain ⟨q1, q2, q3, q4, q5, q6, b1, b2, b3, b4, b5, b6, h1, h2, h3, h4, h5, h6, h7⟩ := h.all
  obtain ⟨e7, g7⟩ := h7.good
  subst e7
  obtain ⟨e6, g6⟩ := h6.good
  subst e6
  obtain ⟨e5, g5⟩ := h5.good
  subst e5
  obtain ⟨e4, g4⟩ := h4.good
  subst e4
  obtain ⟨e3, g3⟩ := h3.good
  subst e3
  obtain ⟨e2, g2⟩ := h2.good
  subst e2
  have g1 := h1.back
  unfold isOp
  simp only [g1, g2, g3, g4, g5, g6, g7, Option.bind_some]
theorem Steps7.ill {s : ByteArray} {p : Nat} {bad : Bool} {C D I M K U : Int} {t : ByteArray} {q7 : Nat} (h : Steps7 s p bad C D I M K U t q7 true) : isOp s p bad = none := by
  obtain ⟨q1, q2, q3, q4, q5, q6, b1, b2, b3, b4, b5, b6, h1, h2, h3, h4, h5, h6, h7⟩ := h.all
  unfold isOp
  cases b1
  · have h1 := h1.back
    cases b2
    · have h2 := h2.back
      cases b3
      · have h3 := h3.back
        cases b4
        · have h4 := h4.back
          cases b5
          · have h5 := h5.back
            cases b6
            · have h6 := h6.back
              have h7 := h7.ill
              simp only [h1, h2, h3, h4, h5, h6, h7, Option.bind_some, Option.bind_none]
            · have h6 := h6.ill
              simp only [h1, h2, h3, h4, h5, h6, Option.bind_some, Option.bind_none]
          · have h5 := h5.ill
            simp only [h1, h2, h3, h4, h5, Option.bind_some, Option.bind_none]
        · have h4 := h4.ill
          simp only [h1, h2, h3, h4, Option.bind_some, Option.bind_none]
      · have h3 := h3.ill
        simp only [h1, h2, h3, Option.bind_some, Option.bind_none]
    · have h2 := h2.ill
      simp only [h1, h2, Option.bind_some, Option.bind_none]
  · have h1 := h1.ill
    simp only [h1, Option.bind_none]

section
variable {w a : World} {b : Nat} {C D I M K U : Int} {s : ByteArray}
end

end Go.Proofs.YtdhcgflblbmogaaDoor

/- Trees as sorted lists: what put, drop and a move make of them. No program in it. -/
namespace Tre

theorem sorted_pw {l : List Pl} : Sorted l ↔ l.Pairwise (fun p q => p.n < q.n) := by
  rw [List.pairwise_iff_getElem]
  exact ⟨fun h i j hi hj hij => h i j hi hj hij, fun h i j hi hj hij => h i j hi hj hij⟩
theorem get_iff {l : List Pl} (hs : Sorted l) {b : Int} {p : Pl} : get l b = some p ↔ p ∈ l ∧ p.n = b := by
  constructor
  · intro h
    obtain ⟨h1, h2, _⟩ := get_some h
    exact ⟨h1, h2⟩
  · rintro ⟨h, rfl⟩
    obtain ⟨i, hi, rfl⟩ := List.getElem_of_mem h
    exact get_self hs i hi
theorem sorted_one {l : List Pl} (hs : Sorted l) {p q : Pl} (hp : p ∈ l) (hq : q ∈ l) (h : p.n = q.n) : p = q := by
  have h1 := (get_iff hs).2 ⟨hp, h⟩
  have h2 := (get_iff hs).2 ⟨hq, rfl⟩
  rw [h1] at h2
  exact Option.some.inj h2
theorem sorted_ext : ∀ {l m : List Pl}, Sorted l → Sorted m → (∀ q, q ∈ l ↔ q ∈ m) → l = m
  | [], [], _, _, _ => rfl
  | [], q :: m, _, _, h => absurd ((h q).2 (by simp)) (by simp)
  | p :: l, [], _, _, h => absurd ((h p).1 (by simp)) (by simp)
  | p :: l, q :: m, hl, hm, h => by
    have hl' := List.pairwise_cons.1 (sorted_pw.1 hl)
    have hm' := List.pairwise_cons.1 (sorted_pw.1 hm)
    have e : p = q := by
      rcases List.mem_cons.1 ((h p).1 (by simp)) with e | e
      · exact e
      · rcases List.mem_cons.1 ((h q).2 (by simp)) with e2 | e2
        · exact e2.symm
        · have a := hm'.1 p e
          have b := hl'.1 q e2
          omega
    subst e
    congr 1
    refine sorted_ext (sorted_pw.2 hl'.2) (sorted_pw.2 hm'.2) fun r => ⟨fun hr => ?_, fun hr => ?_⟩
    · rcases List.mem_cons.1 ((h r).1 (by simp [hr])) with e | e
      · subst e; have := hl'.1 r hr; omega
      · exact e
    · rcases List.mem_cons.1 ((h r).2 (by simp [hr])) with e | e
      · subst e; have := hm'.1 r hr; omega
      · exact e
theorem sorted_ext_get {l m : List Pl} (hl : Sorted l) (hm : Sorted m) (h : ∀ b, get l b = get m b) : l = m :=
  sorted_ext hl hm fun q => by
    constructor
    · intro hq
      exact ((get_iff hm).1 ((h q.n).symm.trans ((get_iff hl).2 ⟨hq, rfl⟩))).1
    · intro hq
      exact ((get_iff hl).1 ((h q.n).trans ((get_iff hm).2 ⟨hq, rfl⟩))).1

theorem take_before (l : List Pl) (b : Int) : ∀ q ∈ l.take (idx l b), q.n < b := fun q hq => by
  obtain ⟨i, hi, rfl⟩ := List.getElem_of_mem hq
  rw [List.length_take] at hi
  rw [List.getElem_take]
  exact idx_before l b i (by omega) (by omega)
theorem drop_behind {l : List Pl} (hs : Sorted l) (b : Int) : ∀ q ∈ l.drop (behind l b), b < q.n := fun q hq => by
  obtain ⟨i, hi, rfl⟩ := List.getElem_of_mem hq
  rw [List.length_drop] at hi
  rw [List.getElem_drop]
  have hto : behind l b = if (get l b).isSome then idx l b + 1 else idx l b := rfl
  generalize behind l b = to at *
  rcases hg : get l b with _ | p
  · rw [hg] at hto
    obtain rfl : to = idx l b := by simpa using hto
    have hl : idx l b < l.length := by omega
    have h1 := idx_at l b hl
    have h2 : ¬ l[idx l b].n = b := fun e => by rw [get_of hl e] at hg; cases hg
    by_cases e : i = 0
    · subst e; simp only [Nat.add_zero]; omega
    · have := hs (idx l b) (idx l b + i) hl (by omega) (by omega)
      omega
  · obtain ⟨_, hn, hl, he⟩ := get_some hg
    rw [hg] at hto
    obtain rfl : to = idx l b + 1 := by simpa using hto
    have := hs (idx l b) (idx l b + 1 + i) hl (by omega) (by omega)
    rw [he] at this
    omega
theorem mem_sides {l : List Pl} (hs : Sorted l) (b : Int) (q : Pl) : (q ∈ l.take (idx l b) ∨ q ∈ l.drop (behind l b)) ↔ (q ∈ l ∧ q.n ≠ b) := by
  constructor
  · rintro (h | h)
    · have := take_before l b q h
      exact ⟨List.mem_of_mem_take h, by omega⟩
    · have := drop_behind hs b q h
      exact ⟨List.mem_of_mem_drop h, by omega⟩
  · rintro ⟨h, hn⟩
    obtain ⟨i, hi, rfl⟩ := List.getElem_of_mem h
    by_cases h1 : i < idx l b
    · exact Or.inl (List.mem_take_iff_getElem.2 ⟨i, by omega, rfl⟩)
    · right
      have hb : behind l b ≤ i := by
        unfold behind
        rcases hg : get l b with _ | p
        · simp; omega
        · obtain ⟨_, hp, hl, he⟩ := get_some hg
          simp
          by_cases e : i = idx l b
          · subst e; rw [he] at hn; exact absurd hp hn
          · omega
      exact List.mem_drop_iff_getElem.2 ⟨i - behind l b, by omega, by congr 1; omega⟩
theorem sorted_placed {l : List Pl} (hs : Sorted l) (b : Int) (m : List Pl) (hm : ∀ q ∈ m, q.n = b) (h1 : m.length ≤ 1) : Sorted (placedL l b m) := by
  have hp := sorted_pw.1 hs
  refine sorted_pw.2 ?_
  unfold placedL
  have hmp : m.Pairwise (fun p q => p.n < q.n) := by
    match m, h1 with
    | [], _ => exact List.Pairwise.nil
    | [q], _ => exact List.pairwise_singleton _ _
  rw [List.pairwise_append, List.pairwise_append]
  refine ⟨⟨hp.sublist (List.take_sublist _ _), hmp, fun p hp q hq => ?_⟩, hp.sublist (List.drop_sublist _ _), fun p hp q hq => ?_⟩
  · have := take_before l b p hp
    have := hm q hq
    omega
  · have h2 := drop_behind hs b q hq
    rcases List.mem_append.1 hp with h | h
    · have := take_before l b p h; omega
    · have := hm p h; omega
theorem sorted_put {l : List Pl} (hs : Sorted l) (p : Pl) : Sorted (putL l p) := sorted_placed hs p.n [p] (fun q hq => by rw [List.mem_singleton] at hq; rw [hq]) (Nat.le_refl _)
theorem sorted_drop {l : List Pl} (hs : Sorted l) (b : Int) : Sorted (dropL l b) := sorted_placed hs b [] (fun q hq => by cases hq) (Nat.zero_le _)
theorem mem_put {l : List Pl} (hs : Sorted l) (p q : Pl) : q ∈ putL l p ↔ (q = p ∨ (q ∈ l ∧ q.n ≠ p.n)) := by
  unfold putL placedL
  rw [List.mem_append, List.mem_append, List.mem_singleton, ← mem_sides hs p.n q]
  constructor
  · rintro ((h | h) | h)
    · exact Or.inr (Or.inl h)
    · exact Or.inl h
    · exact Or.inr (Or.inr h)
  · rintro (h | h | h)
    · exact Or.inl (Or.inr h)
    · exact Or.inl (Or.inl h)
    · exact Or.inr h
theorem mem_drop {l : List Pl} (hs : Sorted l) (b : Int) (q : Pl) : q ∈ dropL l b ↔ (q ∈ l ∧ q.n ≠ b) := by
  unfold dropL placedL
  rw [List.append_nil, List.mem_append, mem_sides hs b q]
theorem get_put {l : List Pl} (hs : Sorted l) (p : Pl) (b : Int) : get (putL l p) b = if b = p.n then some p else get l b := by
  have hp := sorted_put hs p
  by_cases e : b = p.n
  · rw [if_pos e]
    exact (get_iff hp).2 ⟨(mem_put hs p p).2 (Or.inl rfl), e.symm⟩
  · rw [if_neg e]
    rcases h : get l b with _ | q
    · rcases h2 : get (putL l p) b with _ | r
      · rfl
      · obtain ⟨hm, hn⟩ := (get_iff hp).1 h2
        rcases (mem_put hs p r).1 hm with e2 | ⟨h3, _⟩
        · subst e2; exact absurd hn.symm e
        · rw [(get_iff hs).2 ⟨h3, hn⟩] at h; cases h
    · obtain ⟨hm, hn⟩ := (get_iff hs).1 h
      exact (get_iff hp).2 ⟨(mem_put hs p q).2 (Or.inr ⟨hm, by omega⟩), hn⟩
theorem get_drop {l : List Pl} (hs : Sorted l) (a b : Int) : get (dropL l a) b = if b = a then none else get l b := by
  have hp := sorted_drop hs a
  rcases h2 : get (dropL l a) b with _ | r
  · by_cases e : b = a
    · rw [if_pos e]
    · rw [if_neg e]
      rcases h : get l b with _ | q
      · rfl
      · obtain ⟨hm, hn⟩ := (get_iff hs).1 h
        rw [(get_iff hp).2 ⟨(mem_drop hs a q).2 ⟨hm, by omega⟩, hn⟩] at h2; cases h2
  · obtain ⟨hm, hn⟩ := (get_iff hp).1 h2
    obtain ⟨h3, h4⟩ := (mem_drop hs a r).1 hm
    rw [if_neg (by omega), (get_iff hs).2 ⟨h3, hn⟩]
theorem put_back {l : List Pl} (hs : Sorted l) {p q : Pl} (hq : get l p.n = some q) : putL (putL l p) q = l := by
  obtain ⟨_, hn⟩ := (get_iff hs).1 hq
  refine sorted_ext_get (sorted_put (sorted_put hs p) q) hs fun b => ?_
  rw [get_put (sorted_put hs p), get_put hs]
  by_cases e : b = q.n
  · rw [if_pos e, e, hn, hq]
  · rw [if_neg e, if_neg (by omega)]
theorem drop_put {l : List Pl} (hs : Sorted l) {p : Pl} (hq : get l p.n = none) : dropL (putL l p) p.n = l := by
  refine sorted_ext_get (sorted_drop (sorted_put hs p) _) hs fun b => ?_
  rw [get_drop (sorted_put hs p), get_put hs]
  by_cases e : b = p.n
  · rw [if_pos e, e, hq]
  · rw [if_neg e, if_neg e]

/-- No way leads from a node to itself. -/
def Acyc (l : List Pl) : Prop := ∀ k b, 0 < k → ¬ up l k b = some b
theorem acyc_of {l : List Pl} (hr : NoRing l) : Acyc l := fun k b hk h => by
  have h1 := up_loop h (l.length + 1)
  have h2 := up_bound hr h1
  have : l.length + 1 ≤ k * (l.length + 1) := Nat.le_mul_of_pos_left _ hk
  omega
theorem noRing_of {l : List Pl} (hs : Sorted l) (ha : Acyc l) : NoRing l := fun p hp => by
  rcases h : above l p.n p.u with _ | _
  · rfl
  · unfold above at h
    obtain ⟨k, _, hk⟩ := (abv_iff l p.n _ p.u).1 h
    refine absurd ?_ (ha (k + 1) p.n (Nat.succ_pos k))
    rw [up, (get_iff hs).2 ⟨hp, rfl⟩]
    exact hk
theorem least {P : Nat → Prop} : ∀ j, P j → ∃ j, P j ∧ ∀ i, i < j → ¬ P i := by
  intro j
  induction j using Nat.strongRecOn with
  | ind j ih =>
    intro hj
    by_cases h : ∃ i, i < j ∧ P i
    · obtain ⟨i, hi, hp⟩ := h
      exact ih i hi hp
    · exact ⟨j, hj, fun i hi hp => h ⟨i, hi, hp⟩⟩
/-- A way that doesn't come by K is one of the other tree, too. -/
theorem up_avoid {l m : List Pl} {K : Int} (hg : ∀ b, ¬ b = K → get m b = get l b) : ∀ (j : Nat) (c : Int), (∀ i, i < j → ¬ up m i c = some K) → up m j c = up l j c
  | 0, c, _ => rfl
  | j + 1, c, h => by
    have hc : ¬ c = K := fun e => h 0 (Nat.succ_pos j) (by rw [e]; rfl)
    rw [up, up, hg c hc]
    rcases hq : get l c with _ | q
    · rfl
    · rw [Option.bind_some, Option.bind_some]
      refine up_avoid hg j q.u fun i hi e => h (i + 1) (by omega) ?_
      rw [up, hg c hc, hq, Option.bind_some]; exact e
theorem put_noRing {l : List Pl} (hs : Sorted l) (hr : NoRing l) {p : Pl} (hu : above l p.n p.u = false) : NoRing (putL l p) := by
  have hp := sorted_put hs p
  refine noRing_of hp fun k b hk h => ?_
  have hg : ∀ c, ¬ c = p.n → get (putL l p) c = get l c := fun c hc => by rw [get_put hs, if_neg hc]
  by_cases hv : ∃ i, i < k ∧ up (putL l p) i b = some p.n
  · obtain ⟨i, hi, hb⟩ := hv
    have h1 : up (putL l p) (k - i) p.n = some b := by
      have : up (putL l p) (i + (k - i)) b = some b := by rw [show i + (k - i) = k by omega]; exact h
      rw [up_add, hb, Option.bind_some] at this
      exact this
    have h2 : up (putL l p) ((k - i) + i) p.n = some p.n := by rw [up_add, h1, Option.bind_some]; exact hb
    obtain ⟨m, hm⟩ : ∃ m, (k - i) + i = m + 1 := ⟨k - 1, by omega⟩
    rw [hm, up, get_put hs, if_pos rfl, Option.bind_some] at h2
    obtain ⟨j, hj, hl⟩ := least (P := fun j => up (putL l p) j p.u = some p.n) m h2
    have h3 := up_avoid hg j p.u hl
    rw [hj] at h3
    have h4 := (above_iff hr).2 ⟨j, h3.symm⟩
    rw [hu] at h4; cases h4
  · have h3 := up_avoid hg k b (fun i hi e => hv ⟨i, hi, e⟩)
    rw [h] at h3
    exact acyc_of hr k b hk h3.symm

/-- What undoes a move: what was, whether it had a place, whether it did anything. -/
structure Un where
  was : Pl
  had : Bool
  did : Bool
def noUn : Un := ⟨zero, false, false⟩
/-- A tree behind a move of p's node to p. -/
def doL (l : List Pl) (p : Pl) : List Pl × Un := if above l p.n p.u = true then (l, noUn) else (putL l p, ⟨(get l p.n).getD zero, (get l p.n).isSome, true⟩)
def backL (l : List Pl) (b : Int) (u : Un) : List Pl := if u.did = true then (if u.had = true then putL l u.was else dropL l b) else l
theorem back_do {l : List Pl} (hs : Sorted l) (p : Pl) : backL (doL l p).1 p.n (doL l p).2 = l := by
  unfold doL
  by_cases h : above l p.n p.u = true
  · rw [if_pos h]; rfl
  · rw [if_neg h]
    unfold backL
    rw [if_pos rfl]
    rcases hg : get l p.n with _ | q
    · simp only [Option.isSome_none, Bool.false_eq_true, if_false]
      exact drop_put hs hg
    · simp only [Option.isSome_some, if_true, Option.getD_some]
      exact put_back hs hg
theorem do_sorted {l : List Pl} (hs : Sorted l) (p : Pl) : Sorted (doL l p).1 := by
  unfold doL
  split
  · exact hs
  · exact sorted_put hs p
theorem do_noRing {l : List Pl} (hs : Sorted l) (hr : NoRing l) (p : Pl) : NoRing (doL l p).1 := by
  unfold doL
  by_cases h : above l p.n p.u = true
  · rw [if_pos h]; exact hr
  · rw [if_neg h]; exact put_noRing hs hr (by simpa using h)
theorem do_mem {l : List Pl} (hs : Sorted l) (p : Pl) {P : Pl → Prop} (hl : ∀ q ∈ l, P q) (hp : P p) : ∀ q ∈ (doL l p).1, P q := by
  unfold doL
  split
  · exact hl
  · intro q hq
    rcases (mem_put hs p q).1 hq with rfl | ⟨h, _⟩
    · exact hp
    · exact hl q h

/-- A tree behind moves, one by one, and what undoes each. -/
def foldL (l : List Pl) : List Pl → List Pl × List Un
  | [] => (l, [])
  | p :: ps => ((foldL (doL l p).1 ps).1, (doL l p).2 :: (foldL (doL l p).1 ps).2)
theorem foldL_app (l : List Pl) : ∀ (a b : List Pl), foldL l (a ++ b) = ((foldL (foldL l a).1 b).1, (foldL l a).2 ++ (foldL (foldL l a).1 b).2)
  | [], b => rfl
  | p :: a, b => by
    show foldL l (p :: (a ++ b)) = _
    rw [foldL, foldL_app (doL l p).1 a b]
    rfl
theorem foldL_len (l : List Pl) : ∀ (a : List Pl), (foldL l a).2.length = a.length := by
  intro a
  induction a generalizing l with
  | nil => rfl
  | cons p a ih => show ((doL l p).2 :: _).length = _; rw [List.length_cons, ih, List.length_cons]
theorem foldL_snoc (l a : List Pl) (p : Pl) : foldL l (a ++ [p]) = ((doL (foldL l a).1 p).1, (foldL l a).2 ++ [(doL (foldL l a).1 p).2]) := foldL_app l a [p]
theorem foldL_sorted {l : List Pl} (hs : Sorted l) (a : List Pl) : Sorted (foldL l a).1 := by
  induction a generalizing l with
  | nil => exact hs
  | cons p a ih => exact ih (do_sorted hs p)
theorem foldL_noRing {l : List Pl} (hs : Sorted l) (hr : NoRing l) (a : List Pl) : NoRing (foldL l a).1 := by
  induction a generalizing l with
  | nil => exact hr
  | cons p a ih => exact ih (do_sorted hs p) (do_noRing hs hr p)
theorem foldL_mem {l : List Pl} (hs : Sorted l) {P : Pl → Prop} (a : List Pl) (hl : ∀ q ∈ l, P q) (ha : ∀ q ∈ a, P q) : ∀ q ∈ (foldL l a).1, P q := by
  induction a generalizing l with
  | nil => exact hl
  | cons p a ih => exact ih (do_sorted hs p) (do_mem hs p hl (ha p (by simp))) (fun q hq => ha q (by simp [hq]))
/-- The last move undone. -/
theorem foldL_back {l : List Pl} (hs : Sorted l) (a : List Pl) (p : Pl) : backL (foldL l (a ++ [p])).1 p.n (doL (foldL l a).1 p).2 = (foldL l a).1 := by
  rw [foldL_snoc]; exact back_do (foldL_sorted hs a) p
theorem foldL_take (l a : List Pl) (j : Nat) (h : j < a.length) : foldL l (a.take (j + 1)) = ((doL (foldL l (a.take j)).1 a[j]).1, (foldL l (a.take j)).2 ++ [(doL (foldL l (a.take j)).1 a[j]).2]) := by
  rw [List.take_succ_eq_append_getElem h, foldL_snoc]
/-- What undoes the move at j. -/
theorem foldL_un : ∀ (l a : List Pl) (j : Nat) (h : j < a.length), (foldL l a).2[j]? = some (doL (foldL l (a.take j)).1 a[j]).2
  | l, p :: a, 0, _ => rfl
  | l, p :: a, j + 1, h => foldL_un (doL l p).1 a j (by simpa using h)
theorem foldL_undo {l : List Pl} (hs : Sorted l) (a : List Pl) (j : Nat) (h : j < a.length) : backL (foldL l (a.take (j + 1))).1 a[j].n (doL (foldL l (a.take j)).1 a[j]).2 = (foldL l (a.take j)).1 := by
  rw [foldL_take l a j h]; exact back_do (foldL_sorted hs _) _
theorem foldL_take_un (l a : List Pl) (k : Nat) (h : k ≤ a.length) : (foldL l (a.take k)).2 = (foldL l a).2.take k := by
  have e : a = a.take k ++ a.drop k := (List.take_append_drop k a).symm
  have h1 : (foldL l a).2 = (foldL l (a.take k)).2 ++ (foldL (foldL l (a.take k)).1 (a.drop k)).2 := by
    conv => lhs; rw [e, foldL_app]
  have h2 : (foldL l (a.take k)).2.length = k := by rw [foldL_len, List.length_take]; omega
  rw [h1]
  exact (List.take_left' h2).symm
end Tre

/- Places, operations and undos as elements; Clone of the library; Do and Back of both. -/
namespace Go.Proofs.YtdhcgflblbmogaaDoor
open Go.RowKit Tre Cod

def plE : El Pl where
  e := 33
  k := 3
  c p := [.int .i64 p.n, .int .i64 p.u, .string p.s]
  len _ := rfl
  one p u h := by
    simp only [List.mem_cons, List.not_mem_nil, or_false] at h
    rcases h with rfl | rfl | rfl <;> rfl
  pos := by decide
theorem plInn : plE.Inn Tryd.prog 22 := El.inn_of (z := .agg #[.int .i64 0, .int .i64 0, .string ⟨#[]⟩]) (bytes := 32) Tryd.underlying22 (by kernel_rfl) rfl (by decide)
theorem plRow : plE.Row Tryd.prog := ⟨by kernel_rfl, _, Tryd.underlying33, rfl⟩
theorem plAt {w : World} {b o : Nat} {p : Pl} : plE.At w b o p ↔ AtPl w b o p := by
  constructor
  · intro h
    exact ⟨h 0 _ rfl, h 1 _ rfl, h 2 _ rfl⟩
  · rintro ⟨h0, h1, h2⟩ j u hu
    match j, hu with
    | 0, hu => cases hu; exact h0
    | 1, hu => cases hu; exact h1
    | 2, hu => cases hu; exact h2
theorem plIn3 {w : World} {b : Nat} {p : Pl} (h : plE.In w b p) : w.cell? ⟨b, 0, none⟩ = some (.int .i64 p.n) ∧ w.cell? ⟨b, 1, none⟩ = some (.int .i64 p.u) ∧ w.cell? ⟨b, 2, none⟩ = some (.string p.s) :=
  ⟨h.cell 0, h.cell 1, h.cell 2⟩
theorem plSl {w : World} {A : Option Addr} {l : List Pl} : plE.Sl w A l ↔ Tr w A l :=
  ⟨fun h h0 => let ⟨b, off, e, hb, hc⟩ := h h0; ⟨b, off, e, hb, fun i hi => plAt.1 (hc i hi)⟩, fun h h0 => let ⟨b, off, e, hb, hc⟩ := h h0; ⟨b, off, e, hb, fun i hi => plAt.2 (hc i hi)⟩⟩

/-- A slice of the whole: what it says, and that it holds the list. -/
def SlV {α : Type} (E : El α) (w : World) (A : Option Addr) (c : Nat) (l : List α) : Prop := E.Sl w A l ∧ (A = none → c = 0) ∧ l.length ≤ c
theorem SlV.below {α : Type} {E : El α} {W w : World} {A : Option Addr} {c : Nat} {l : List α} (h : SlV E W A c l) (hb : Below W.heap.size W w) : SlV E w A c l := ⟨h.1.below hb, h.2⟩
theorem SlV.nil {α : Type} (E : El α) (w : World) : SlV E w none 0 [] := ⟨El.Sl.nil w none, fun _ => rfl, Nat.le_refl _⟩
theorem frs_nil (B : Nat) : Frs B none := fun a e => by cases e
theorem frs_of {B b : Nat} {A : Option Addr} (h : Frs B A) (hb : b < B) : ∀ a, A = some a → some a.block ≠ some b := fun a e e2 => by
  have := h a e; have := Option.some.inj e2; omega
theorem El.Own.frs {α : Type} {E : El α} {w : World} {B n c : Nat} {A : Option Addr} {l : List α} (h : E.Own w B (.slice A n c) l) : Frs B A := fun a e => (World.ownsRow.lt h a.block (by rw [e]; rfl)).1
/-- A block ahead of it is written: it stays. -/
theorem SlV.keep {α : Type} {E : El α} {w w' : World} {A : Option Addr} {c B b : Nat} {l : List α} (h : SlV E w A c l) (hf : Frs B A) (hg : w.grownBy w' (some b)) (hb : b < B) : SlV E w' A c l :=
  ⟨h.1.keep hg (fun a e e2 => by have := hf a e; have := Option.some.inj e2; omega), h.2⟩
theorem by_row (w : World) (b : Nat) (cs : Array Value) : w.grownBy (w.setRow b cs) (some b) := ⟨rfl, rfl, rfl, by simp, fun k _ hk => setRow_other w b k cs (fun e => hk (by rw [e]))⟩
theorem by_cell (w : World) (b i : Nat) (v : Value) : w.grownBy (w.setCell ⟨b, i, none⟩ v) (some b) := ⟨rfl, rfl, rfl, by simp, fun k _ hk => heap_setCell_other w ⟨b, i, none⟩ k v (fun e => hk (by rw [e]))⟩
theorem by_cell2 {w w' : World} {b : Nat} (h : w.grownBy w' (some b)) (i : Nat) (v : Value) : w.grownBy (w'.setCell ⟨b, i, none⟩ v) (some b) := by
  have hg := by_cell w' b i v
  exact ⟨hg.os.trans h.os, hg.tape.trans h.tape, hg.output.trans h.output, Nat.le_trans h.size hg.size, fun k hk hne => (hg.block k (Nat.lt_of_lt_of_le hk h.size) hne).trans (h.block k hk hne)⟩
theorem SlV.own {α : Type} {E : El α} {w : World} {B : Nat} {v : Value} {l : List α} (h : E.Own w B v l) : ∃ A c, v = .slice A l.length c ∧ SlV E w A c l :=
  let ⟨A, c, e, h1, h2, h3⟩ := h.sl
  ⟨A, c, e, h1, h2, h3⟩
def mvPl (m : Mv) : Pl := ⟨m.K, m.U, m.s⟩
def unV (u : Un) : Value := .agg #[.int .i64 u.was.n, .int .i64 u.was.u, .string u.was.s, .bool u.had, .bool u.did]
def mvV (m : Mv) : Value := .agg #[.int .i64 m.C, .int .i64 m.D, .int .i64 m.I, .int .i64 m.M, .int .i64 m.K, .int .i64 m.U, .string m.s]
def plV (p : Pl) : Value := .agg #[.int .i64 p.n, .int .i64 p.u, .string p.s]

theorem below_own {w w1 w2 : World} {row : Option Nat} (h : Below w.heap.size w w1) (hg : w1.grownBy w2 row) (hrow : ∀ n, row = some n → w.heap.size ≤ n) : Below w.heap.size w w2 := h.grown hg h.size hrow

end Go.Proofs.YtdhcgflblbmogaaDoor

/- Numbers, a text and a bool, one behind the other: what stands where. -/
namespace Go.Proofs.YtdhcgflblbmogaaDoor
open Go.RowKit Cod

theorem drop_of (A R : ByteArray) : (A ++ R).data.toList.drop A.size = R.data.toList := by
  rw [dl_app, ← dl_len A]; exact List.drop_left' rfl

theorem num_there (A Z : ByteArray) (n : Int) (h1 : -9223372036854775808 ≤ n) (h2 : n ≤ 9223372036854775807) : isNum (A ++ (bytesOf n ++ Z)) A.size false = some (n, A.size + (bytesOf n).size) := by
  unfold isNum
  rw [drop_of, dl_app, bytesOf_list, rd_enc n h1 h2, bytesOf_size]
  rfl

theorem count_there (A Z : ByteArray) (n most : Int) (h0 : 0 ≤ n) (h1 : n ≤ most) (h2 : n ≤ 9223372036854775807) : isCount (A ++ (bytesOf n ++ Z)) A.size false most = some (n, A.size + (bytesOf n).size) := by
  unfold isCount
  rw [num_there A Z n (by omega) h2]
  exact if_pos ⟨h0, h1⟩

theorem ext_there (A s Z : ByteArray) : (A ++ (s ++ Z)).extract A.size (A.size + s.size) = s := by
  apply dl_inj
  rw [ByteArray.data_extract, Array.toList_extract, List.extract_eq_take_drop, drop_of, dl_app]
  rw [Nat.add_sub_cancel_left, ← dl_len s]
  exact List.take_left' rfl

theorem text_there (A s Z : ByteArray) (most : Int) (h : (s.size : Int) ≤ most) (hs : s.size ≤ 1000000) : isText (A ++ (textOf s ++ Z)) A.size false most = some (s, A.size + (textOf s).size) := by
  unfold textOf isText
  rw [ByteArray.append_assoc, count_there A _ s.size most (by omega) h (by omega)]
  have e : A ++ (bytesOf s.size ++ (s ++ Z)) = (A ++ bytesOf s.size) ++ (s ++ Z) := by rw [ByteArray.append_assoc]
  have e2 : A.size + (bytesOf s.size).size = (A ++ bytesOf s.size).size := by rw [ByteArray.size_append]
  simp only [Int.toNat_natCast]
  have e3 : (s ++ Z).size = s.size + Z.size := ByteArray.size_append
  rw [if_pos (by rw [e, ByteArray.size_append, e2, e3]; omega), e2, e, ext_there, ByteArray.size_append, ByteArray.size_append, Nat.add_assoc]

theorem bool_there (A Z : ByteArray) (b : Bool) : isBool (A ++ (bitOf b ++ Z)) A.size false = some (b, A.size + (bitOf b).size) := by
  unfold isBool bitOf
  cases b
  · rw [count_there A Z _ 1 (by decide) (by decide) (by decide)]; rfl
  · rw [count_there A Z _ 1 (by decide) (by decide) (by decide)]; rfl

/-- The first k numbers, one behind the other. -/
def catF (f : Nat → Int) : Nat → ByteArray
  | 0 => ⟨#[]⟩
  | k + 1 => catF f k ++ bytesOf (f k)
def posF (f : Nat → Int) (k : Nat) : Nat := (catF f k).size
theorem pos_succ (f : Nat → Int) (k : Nat) : posF f (k + 1) = posF f k + (bytesOf (f k)).size := by
  unfold posF; rw [catF, ByteArray.size_append]

def Fits (f : Nat → Int) (n : Nat) : Prop := ∀ j, j < n → -9223372036854775808 ≤ f j ∧ f j ≤ 9223372036854775807
theorem cat_le (f : Nat → Int) (n : Nat) (h : Fits f n) : ∀ k, k ≤ n → (catF f k).size ≤ 10 * k
  | 0, _ => Nat.le_refl 0
  | k + 1, hk => by
    have h1 := cat_le f n h k (by omega)
    have h2 := h k (by omega)
    have h3 := bytesOf_le (f k) h2.1 h2.2
    rw [catF, ByteArray.size_append]; omega
theorem cat_rest (f : Nat → Int) (k : Nat) : ∀ n, k ≤ n → ∃ R, catF f n = catF f k ++ R
  | 0, h => by
    obtain rfl : k = 0 := by omega
    exact ⟨⟨#[]⟩, dl_inj (by rw [dl_app]; exact (List.append_nil _).symm)⟩
  | n + 1, h => by
    by_cases e : k = n + 1
    · subst e
      exact ⟨⟨#[]⟩, dl_inj (by rw [dl_app]; exact (List.append_nil _).symm)⟩
    · obtain ⟨R, hR⟩ := cat_rest f k n (by omega)
      exact ⟨R ++ bytesOf (f n), by rw [catF, hR, ByteArray.append_assoc]⟩

theorem cat_num (f : Nat → Int) (k n : Nat) (h : k < n) (hf : Fits f n) (Z : ByteArray) : isNum (catF f n ++ Z) (posF f k) false = some (f k, posF f (k + 1)) := by
  obtain ⟨R, hR⟩ := cat_rest f (k + 1) n (by omega)
  have hb := hf k h
  rw [hR, catF, ByteArray.append_assoc, ByteArray.append_assoc, pos_succ]
  exact num_there (catF f k) (R ++ Z) (f k) hb.1 hb.2

/-- All that stands behind each other, and what comes of it. -/
theorem tail_text (A s : ByteArray) (b : Bool) (hs : s.size ≤ 2000) : isText (A ++ textOf s ++ bitOf b) A.size false 2000 = some (s, A.size + (textOf s).size) := by
  rw [ByteArray.append_assoc]; exact text_there A s (bitOf b) 2000 (by omega) (by omega)
theorem tail_bool (A s : ByteArray) (b : Bool) : isBool (A ++ textOf s ++ bitOf b) (A.size + (textOf s).size) false = some (b, (A ++ textOf s ++ bitOf b).size) := by
  have h := bool_there (A ++ textOf s) ⟨#[]⟩ b
  have e : bitOf b ++ ⟨#[]⟩ = bitOf b := dl_inj (by rw [dl_app]; exact List.append_nil _)
  rw [e, ByteArray.size_append] at h
  rw [h, ByteArray.size_append, ByteArray.size_append]

theorem bit_size' (c : Bool) : (bitOf c).size = 1 := by
  unfold bitOf
  rw [bytesOf_size]
  cases c
  · rw [show fold (if false then 1 else 0) = 0 from rfl, enc_small (by decide)]; rfl
  · rw [show fold (if true then 1 else 0) = 2 from rfl, enc_small (by decide)]; rfl

end Go.Proofs.YtdhcgflblbmogaaDoor

/- Places and trees as bytes; what may be a tree. -/
namespace Go.Proofs.YtdhcgflblbmogaaDoor
open Go.RowKit Nam Cod Tre

def isPlace (s : ByteArray) (p : Nat) (bad : Bool) : Option (Pl × Nat) :=
  (isNum s p bad).bind fun a => (isNum s a.2 false).bind fun b => (isText s b.2 false 16).bind fun c => some (⟨a.1, b.1, c.1⟩, c.2)
/-- So many places, from p on. -/
def isPlaces (s : ByteArray) : Nat → Nat → Option (List Pl × Nat)
  | 0, p => some ([], p)
  | n + 1, p => (isPlaces s n p).bind fun a => (isPlace s a.2 false).bind fun b => some (a.1 ++ [b.1], b.2)
def okPl (p : Pl) : Bool := decide (2 ≤ p.n ∧ p.n < 64 ∧ 0 ≤ p.u ∧ p.u < 64) && isName (L p.s)
def rising : List Pl → Bool
  | [] => true
  | [_] => true
  | p :: q :: l => decide (p.n < q.n) && rising (q :: l)
def treeB (l : List Pl) : Bool := l.all okPl && (rising l && l.all fun p => !above l p.n p.u)
def isTree (s : ByteArray) (p : Nat) (bad : Bool) : Option (List Pl × Nat) :=
  (isCount s p bad 64).bind fun a => (isPlaces s a.1.toNat a.2).bind fun b => if treeB b.1 = true then some b else none

def plBytes (p : Pl) : ByteArray := bytesOf p.n ++ bytesOf p.u ++ textOf p.s
def catL : List Pl → ByteArray
  | [] => ⟨#[]⟩
  | p :: l => plBytes p ++ catL l
def treeBytes (l : List Pl) : ByteArray := bytesOf l.length ++ catL l
/-- Numbers that a word holds; a text that isn't too long. -/
structure Fit (p : Pl) : Prop where
  n1 : -9223372036854775808 ≤ p.n
  n2 : p.n ≤ 9223372036854775807
  u1 : -9223372036854775808 ≤ p.u
  u2 : p.u ≤ 9223372036854775807
  s : p.s.size ≤ 16

theorem bempty (x : ByteArray) : x ++ (⟨#[]⟩ : ByteArray) = x := by apply L_inj; rw [L_app]; simp [L]
theorem empty_b (x : ByteArray) : (⟨#[]⟩ : ByteArray) ++ x = x := by apply L_inj; rw [L_app]; simp [L]
theorem catL_snoc (l : List Pl) (p : Pl) : catL (l ++ [p]) = catL l ++ plBytes p := by
  induction l with
  | nil => show plBytes p ++ ⟨#[]⟩ = ⟨#[]⟩ ++ plBytes p; rw [bempty, empty_b]
  | cons q l ih => show plBytes q ++ catL (l ++ [p]) = (plBytes q ++ catL l) ++ plBytes p; rw [ih, ByteArray.append_assoc]
theorem catL_app (l m : List Pl) : catL (l ++ m) = catL l ++ catL m := by
  induction l with
  | nil => exact (empty_b _).symm
  | cons q l ih => show plBytes q ++ catL (l ++ m) = (plBytes q ++ catL l) ++ catL m; rw [ih, ByteArray.append_assoc]
theorem okPl_fit {p : Pl} (h : okPl p = true) : Fit p ∧ 2 ≤ p.n ∧ p.n < 64 ∧ 0 ≤ p.u ∧ p.u < 64 ∧ isName (L p.s) = true := by
  unfold okPl at h
  rw [Bool.and_eq_true, decide_eq_true_iff] at h
  have hl := isName_len h.2
  rw [L_len] at hl
  exact ⟨⟨by omega, by omega, by omega, by omega, hl.2⟩, h.1.1, h.1.2.1, h.1.2.2.1, h.1.2.2.2, h.2⟩
theorem plBytes_le {p : Pl} (h : Fit p) : (plBytes p).size ≤ 46 := by
  unfold plBytes textOf
  simp only [ByteArray.size_append]
  have z1 := bytesOf_le p.n h.n1 h.n2
  have z2 := bytesOf_le p.u h.u1 h.u2
  have hs := h.s
  have z3 := bytesOf_le p.s.size (by omega) (by omega)
  omega
theorem catL_le : ∀ (l : List Pl), (∀ p ∈ l, Fit p) → (catL l).size ≤ 46 * l.length
  | [], _ => by show (ByteArray.mk #[]).size ≤ _; exact Nat.zero_le _
  | p :: l, h => by
    have h1 := plBytes_le (h p (by simp))
    have h2 := catL_le l (fun q hq => h q (by simp [hq]))
    show (plBytes p ++ catL l).size ≤ _
    rw [ByteArray.size_append, List.length_cons]; omega

theorem place_there (A Z : ByteArray) (p : Pl) (h : Fit p) : isPlace (A ++ (plBytes p ++ Z)) A.size false = some (p, A.size + (plBytes p).size) := by
  have h1 := num_there A (bytesOf p.u ++ textOf p.s ++ Z) p.n h.n1 h.n2
  have h2 := num_there (A ++ bytesOf p.n) (textOf p.s ++ Z) p.u h.u1 h.u2
  have h3 := text_there (A ++ bytesOf p.n ++ bytesOf p.u) p.s Z 16 (by have := h.s; omega) (by have := h.s; omega)
  have e : A ++ (plBytes p ++ Z) = A ++ (bytesOf p.n ++ (bytesOf p.u ++ textOf p.s ++ Z)) := by unfold plBytes; simp only [ByteArray.append_assoc]
  have e2 : A ++ (plBytes p ++ Z) = A ++ bytesOf p.n ++ (bytesOf p.u ++ (textOf p.s ++ Z)) := by unfold plBytes; simp only [ByteArray.append_assoc]
  have e3 : A ++ (plBytes p ++ Z) = A ++ bytesOf p.n ++ bytesOf p.u ++ (textOf p.s ++ Z) := by unfold plBytes; simp only [ByteArray.append_assoc]
  rw [← e] at h1
  rw [← e2, ByteArray.size_append] at h2
  rw [← e3, ByteArray.size_append, ByteArray.size_append] at h3
  unfold isPlace
  simp only [h1, h2, h3, Option.bind_some]
  unfold plBytes
  simp only [ByteArray.size_append, Nat.add_assoc]
theorem places_there (A Z : ByteArray) (l : List Pl) (h : ∀ p ∈ l, Fit p) : ∀ k, k ≤ l.length → isPlaces (A ++ (catL l ++ Z)) k A.size = some (l.take k, A.size + (catL (l.take k)).size)
  | 0, _ => by unfold isPlaces; simp [catL]; rfl
  | k + 1, hk => by
    have hlt : k < l.length := hk
    have e : catL l ++ Z = catL (l.take k) ++ (plBytes l[k] ++ (catL (l.drop (k + 1)) ++ Z)) := by
      have : l = l.take k ++ (l[k] :: l.drop (k + 1)) := by rw [← List.drop_eq_getElem_cons hlt, List.take_append_drop]
      conv => lhs; rw [this, catL_app]
      show catL (l.take k) ++ (plBytes l[k] ++ catL (l.drop (k + 1))) ++ Z = _
      simp only [ByteArray.append_assoc]
    have hp := place_there (A ++ catL (l.take k)) (catL (l.drop (k + 1)) ++ Z) l[k] (h _ (List.getElem_mem hlt))
    rw [ByteArray.append_assoc, ← e, ByteArray.size_append] at hp
    unfold isPlaces
    rw [places_there A Z l h k (by omega), Option.bind_some]
    simp only [hp, Option.bind_some]
    rw [List.take_succ_eq_append_getElem hlt, catL_snoc, ByteArray.size_append, Nat.add_assoc]
theorem tree_there (A Z : ByteArray) (l : List Pl) (h : treeB l = true) (hl : l.length ≤ 64) : isTree (A ++ (treeBytes l ++ Z)) A.size false = some (l, A.size + (treeBytes l).size) := by
  have hf : ∀ p ∈ l, Fit p := fun p hp => by
    unfold treeB at h
    rw [Bool.and_eq_true, List.all_eq_true] at h
    exact (okPl_fit (h.1 p hp)).1
  have h1 := count_there A (catL l ++ Z) l.length 64 (by omega) (by omega) (by omega)
  have e : A ++ (treeBytes l ++ Z) = A ++ (bytesOf l.length ++ (catL l ++ Z)) := by unfold treeBytes; rw [ByteArray.append_assoc]
  have h2 := places_there (A ++ bytesOf l.length) Z l hf l.length (Nat.le_refl _)
  rw [ByteArray.append_assoc, ← e, ByteArray.size_append, List.take_length] at h2
  rw [← e] at h1
  unfold isTree
  simp only [h1, Option.bind_some, Int.toNat_natCast, h2, h, if_true]
  unfold treeBytes
  rw [ByteArray.size_append, Nat.add_assoc]
theorem rising_cons {p : Pl} : ∀ {l : List Pl}, rising (p :: l) = true → rising l = true ∧ ∀ q ∈ l, p.n < q.n
  | [], _ => ⟨rfl, fun q hq => by cases hq⟩
  | q :: l, h => by
    unfold rising at h
    rw [Bool.and_eq_true, decide_eq_true_iff] at h
    refine ⟨h.2, fun x hx => ?_⟩
    rcases List.mem_cons.1 hx with rfl | hx
    · exact h.1
    · have := (rising_cons h.2).2 x hx; omega
theorem rising_sorted : ∀ {l : List Pl}, rising l = true → Sorted l
  | [], _ => fun i j hi => by simp at hi
  | p :: l, h => fun i j hi hj hij => by
    obtain ⟨h1, h2⟩ := rising_cons h
    cases j with
    | zero => omega
    | succ j =>
      have hj' : j < l.length := by simpa using hj
      cases i with
      | zero => exact h2 _ (List.getElem_mem hj')
      | succ i => exact rising_sorted h1 i j (by simpa using hi) hj' (by omega)
theorem treeB_facts {l : List Pl} (h : treeB l = true) : (∀ p ∈ l, okPl p = true) ∧ Sorted l ∧ NoRing l := by
  unfold treeB at h
  simp only [Bool.and_eq_true, List.all_eq_true, Bool.not_eq_true'] at h
  exact ⟨h.1, rising_sorted h.2.1, h.2.2⟩
/-- Nodes below 64, rising: no more than 62. -/
theorem sorted_len {l : List Pl} (hs : Sorted l) (h : ∀ p ∈ l, 2 ≤ p.n ∧ p.n < 64) : l.length ≤ 62 := by
  have key : ∀ i (hi : i < l.length), (i : Int) + 2 ≤ l[i].n := by
    intro i
    induction i with
    | zero => intro hi; have := (h _ (List.getElem_mem hi)).1; omega
    | succ i ih => intro hi; have h1 := ih (by omega); have h2 := hs i (i + 1) (by omega) hi (by omega); omega
  rcases Nat.lt_or_ge 62 l.length with hlt | hge
  · have h1 := key 62 hlt
    have h2 := (h _ (List.getElem_mem hlt)).2
    omega
  · exact hge
end Go.Proofs.YtdhcgflblbmogaaDoor

/- What is shown of a tree, as lists: who is shown, once, behind the one that it is below, by what name. No call in it. -/
namespace Go.Proofs.YtdhcgflblbmogaaDoor
open Go.RowKit Nam Cod Tre
open Go.Lib (decDigits)

/-- Of those below its Up that have its name, is it the least? -/
def firstB (t : List Pl) (p : Pl) : Bool := t.all fun q => !(decide (q.u = p.u) && decide (q.s = p.s) && decide (q.n < p.n))
/-- A name's twin, as bytes. -/
def twinOf (s : ByteArray) (n : Nat) : ByteArray := s ++ ⟨#[126]⟩ ++ ⟨(decDigits n).toArray⟩
theorem L_twin (s : ByteArray) (n : Nat) : L (twinOf s n) = twin (L s) n := by
  unfold twinOf
  rw [L_app, L_app, List.append_assoc]; rfl
def nameOf (t : List Pl) (p : Pl) : ByteArray := if firstB t p = true then p.s else twinOf p.s p.n.toNat
/-- A place, as it is shown: node, Up, shown name. -/
def seen (t : List Pl) (p : Pl) : Pl := ⟨p.n, p.u, nameOf t p⟩
/-- Those below a node, so many levels. -/
def belowL (t : List Pl) : Nat → Int → List Pl
  | 0, _ => []
  | f + 1, a => (t.filter fun p => decide (p.u = a)).flatMap fun p => seen t p :: belowL t f p.n
theorem belowL_succ (t : List Pl) (f : Nat) (a : Int) : belowL t (f + 1) a = (t.filter fun p => decide (p.u = a)).flatMap fun p => seen t p :: belowL t f p.n := rfl

/-- Just those whose way up comes to a are below a. -/
theorem mem_below {t : List Pl} (hs : Sorted t) (x : Pl) : ∀ (f : Nat) (a : Int), x ∈ belowL t f a ↔ ∃ p ∈ t, x = seen t p ∧ ∃ k, k < f ∧ up t k p.u = some a
  | 0, a => by
    constructor
    · intro h; cases h
    · rintro ⟨_, _, _, k, hk, _⟩; omega
  | f + 1, a => by
    rw [belowL_succ, List.mem_flatMap]
    constructor
    · rintro ⟨q, hq, hx⟩
      rw [List.mem_filter, decide_eq_true_iff] at hq
      rcases List.mem_cons.1 hx with rfl | hx
      · exact ⟨q, hq.1, rfl, 0, by omega, by rw [hq.2]; rfl⟩
      · obtain ⟨p, hp, e, k, hk, hu⟩ := (mem_below hs x f q.n).1 hx
        refine ⟨p, hp, e, k + 1, by omega, ?_⟩
        rw [up_add t k 1, hu, Option.bind_some]
        show (get t q.n).bind (fun p => up t 0 p.u) = some a
        rw [(get_iff hs).2 ⟨hq.1, rfl⟩, Option.bind_some, hq.2]; rfl
    · rintro ⟨p, hp, e, k, hk, hu⟩
      cases k with
      | zero =>
        have hpa : p.u = a := Option.some.inj hu
        exact ⟨p, by rw [List.mem_filter, decide_eq_true_iff]; exact ⟨hp, hpa⟩, by rw [e]; exact List.mem_cons_self⟩
      | succ k =>
        rw [up_add t k 1] at hu
        obtain ⟨b, hb, h1⟩ := Option.bind_eq_some_iff.1 hu
        have h1 : (get t b).bind (fun p => up t 0 p.u) = some a := h1
        obtain ⟨q, hq, h2⟩ := Option.bind_eq_some_iff.1 h1
        obtain ⟨hqt, hqn⟩ := (get_iff hs).1 hq
        have h2 : q.u = a := Option.some.inj h2
        refine ⟨q, by rw [List.mem_filter, decide_eq_true_iff]; exact ⟨hqt, h2⟩, List.mem_cons_of_mem _ ?_⟩
        exact (mem_below hs x f q.n).2 ⟨p, hp, e, k, by omega, by rw [hqn]; exact hb⟩

/-- A way up of so many steps is one. -/
theorem up_fun (t : List Pl) {k : Nat} {b a c : Int} (h1 : up t k b = some a) (h2 : up t k b = some c) : a = c := Option.some.inj (h1.symm.trans h2)
theorem up_later {t : List Pl} {i j : Nat} {b a c : Int} (hij : i ≤ j) (h1 : up t i b = some a) (h2 : up t j b = some c) : up t (j - i) a = some c := by
  have e : j = i + (j - i) := by omega
  rw [e, up_add, h1, Option.bind_some] at h2
  exact h2
theorem up_first {t : List Pl} (hs : Sorted t) {p : Pl} (hp : p ∈ t) (k : Nat) : up t (k + 1) p.n = up t k p.u := by
  show (get t p.n).bind (fun p => up t k p.u) = _
  rw [(get_iff hs).2 ⟨hp, rfl⟩]; rfl

/-- Two below one: none is below the other, and nothing is below both. -/
theorem apart_below {t : List Pl} (hs : Sorted t) (ha : Acyc t) {p q : Pl} (hp : p ∈ t) (hq : q ∈ t) (hu : p.u = q.u) {b : Int} {i j : Nat} (h1 : up t i b = some p.n) (h2 : up t j b = some q.n) : p = q := by
  rcases Nat.lt_trichotomy i j with h | h | h
  · have h3 := up_later (Nat.le_of_lt h) h1 h2
    obtain ⟨d, hd⟩ : ∃ d, j - i = d + 1 := ⟨j - i - 1, by omega⟩
    rw [hd, up_first hs hp, hu] at h3
    have h4 := up_first hs hq d
    rw [h3] at h4
    exact absurd h4 (ha (d + 1) q.n (by omega))
  · subst h
    exact sorted_one hs hp hq (up_fun t h1 h2)
  · have h3 := up_later (Nat.le_of_lt h) h2 h1
    obtain ⟨d, hd⟩ : ∃ d, i - j = d + 1 := ⟨i - j - 1, by omega⟩
    rw [hd, up_first hs hq, ← hu] at h3
    have h4 := up_first hs hp d
    rw [h3] at h4
    exact absurd h4 (ha (d + 1) p.n (by omega))

theorem sorted_nodup {t : List Pl} (hs : Sorted t) : t.Nodup := by
  have h := sorted_pw.1 hs
  exact h.imp fun hlt e => by rw [e] at hlt; omega
/-- Each node is shown once. -/
theorem below_nodup {t : List Pl} (hs : Sorted t) (ha : Acyc t) : ∀ (f : Nat) (a : Int), ((belowL t f a).map Pl.n).Nodup
  | 0, _ => List.nodup_nil
  | f + 1, a => by
    rw [belowL_succ]
    have hsub : ∀ p ∈ t.filter fun p => decide (p.u = a), p ∈ t ∧ p.u = a := fun p hp => by rw [List.mem_filter, decide_eq_true_iff] at hp; exact hp
    have hnd : (t.filter fun p => decide (p.u = a)).Nodup := (sorted_nodup hs).filter _
    generalize t.filter (fun p => decide (p.u = a)) = m at hsub hnd
    induction m with
    | nil => exact List.nodup_nil
    | cons q m ih =>
      rw [List.nodup_cons] at hnd
      have hq := hsub q (by simp)
      rw [List.flatMap_cons, List.map_append, List.nodup_append]
      refine ⟨?_, ih (fun p hp => hsub p (by simp [hp])) hnd.2, ?_⟩
      · rw [List.map_cons, List.nodup_cons]
        refine ⟨fun h => ?_, below_nodup hs ha f q.n⟩
        obtain ⟨x, hx, e⟩ := List.mem_map.1 h
        obtain ⟨p, hp, rfl, k, _, hu⟩ := (mem_below hs x f q.n).1 hx
        have e : p.n = q.n := e
        obtain rfl := sorted_one hs hp hq.1 e
        have h4 := up_first hs hp k
        rw [hu] at h4
        exact ha (k + 1) p.n (by omega) h4
      · intro x hx y hy e
        subst e
        -- x is at or below q, and at or below another
        have h1 : ∃ i, up t i x = some q.n := by
          rw [List.map_cons] at hx
          rcases List.mem_cons.1 hx with e | hx
          · exact ⟨0, by rw [e]; rfl⟩
          · obtain ⟨z, hz, rfl⟩ := List.mem_map.1 hx
            obtain ⟨p, hp, rfl, k, _, hu⟩ := (mem_below hs z f q.n).1 hz
            exact ⟨k + 1, (up_first hs hp k).trans hu⟩
        obtain ⟨z, hz, rfl⟩ := List.mem_map.1 hy
        obtain ⟨r, hr, hzr⟩ := List.mem_flatMap.1 hz
        have hr2 := hsub r (by simp [hr])
        have h2 : ∃ j, up t j z.n = some r.n := by
          rcases List.mem_cons.1 hzr with rfl | hzr
          · exact ⟨0, rfl⟩
          · obtain ⟨p, hp, rfl, k, _, hu⟩ := (mem_below hs z f r.n).1 hzr
            exact ⟨k + 1, (up_first hs hp k).trans hu⟩
        obtain ⟨i, h1⟩ := h1
        obtain ⟨j, h2⟩ := h2
        have := apart_below hs ha hq.1 hr2.1 (hq.2.trans hr2.2.symm) h1 h2
        subst this
        exact hnd.1 hr

/-- Each stands behind the one that it is below, or below a itself. -/
def Behind (a : Int) (l : List Pl) : Prop := ∀ i (h : i < l.length), l[i].u = a ∨ ∃ k, ∃ h2 : k < i, (l[k]'(by omega)).n = l[i].u
theorem Behind.nil (a : Int) : Behind a [] := fun i h => by simp at h
theorem Behind.app {a : Int} {l m : List Pl} (h1 : Behind a l) (h2 : Behind a m) : Behind a (l ++ m) := by
  intro i h
  by_cases hi : i < l.length
  · rw [List.getElem_append_left hi]
    rcases h1 i hi with e | ⟨k, hk, e⟩
    · exact Or.inl e
    · exact Or.inr ⟨k, hk, by rw [List.getElem_append_left (by omega)]; exact e⟩
  · rw [List.getElem_append_right (by omega)]
    have hm : i - l.length < m.length := by rw [List.length_append] at h; omega
    rcases h2 (i - l.length) hm with e | ⟨k, hk, e⟩
    · exact Or.inl e
    · refine Or.inr ⟨k + l.length, by omega, ?_⟩
      rw [List.getElem_append_right (by omega)]
      simp only [Nat.add_sub_cancel]
      exact e
theorem Behind.cons {a : Int} {p : Pl} {m : List Pl} (hp : p.u = a) (h : Behind p.n m) : Behind a (p :: m) := by
  intro i hi
  cases i with
  | zero => exact Or.inl hp
  | succ i =>
    rw [List.getElem_cons_succ]
    rcases h i (by simpa using hi) with e | ⟨k, hk, e⟩
    · exact Or.inr ⟨0, by omega, by rw [List.getElem_cons_zero]; exact e.symm⟩
    · exact Or.inr ⟨k + 1, by omega, by rw [List.getElem_cons_succ]; exact e⟩
theorem below_behind (t : List Pl) : ∀ (f : Nat) (a : Int), Behind a (belowL t f a)
  | 0, a => Behind.nil a
  | f + 1, a => by
    rw [belowL_succ]
    have hsub : ∀ p ∈ t.filter fun p => decide (p.u = a), p.u = a := fun p hp => by rw [List.mem_filter, decide_eq_true_iff] at hp; exact hp.2
    generalize t.filter (fun p => decide (p.u = a)) = m at hsub
    induction m with
    | nil => exact Behind.nil a
    | cons q m ih =>
      rw [List.flatMap_cons]
      exact (Behind.cons (p := seen t q) (hsub q (by simp)) (below_behind t f q.n)).app (ih fun p hp => hsub p (by simp [hp]))
end Go.Proofs.YtdhcgflblbmogaaDoor

/- A tree as it must be: what makes one, how long it is, what its numbers are. No call in it. -/
namespace Go.Proofs.YtdhcgflblbmogaaDoor
open Go.RowKit Tre Cod Nam

theorem sorted_rising : ∀ {l : List Pl}, Sorted l → rising l = true
  | [], _ => rfl
  | [_], _ => rfl
  | p :: q :: l, h => by
    unfold rising
    rw [Bool.and_eq_true, decide_eq_true_iff]
    exact ⟨h 0 1 (by simp) (by simp) (by omega), sorted_rising fun i j hi hj hij => h (i + 1) (j + 1) (by simpa using hi) (by simpa using hj) (by omega)⟩
theorem treeB_of {l : List Pl} (h1 : ∀ p ∈ l, okPl p = true) (h2 : Sorted l) (h3 : NoRing l) : treeB l = true := by
  unfold treeB
  simp only [Bool.and_eq_true, List.all_eq_true, Bool.not_eq_true']
  exact ⟨h1, sorted_rising h2, h3⟩
theorem tree_len {l : List Pl} (h : treeB l = true) : l.length ≤ 62 := by
  obtain ⟨h1, h2, _⟩ := treeB_facts h
  exact sorted_len h2 fun p hp => ⟨(okPl_fit (h1 p hp)).2.1, (okPl_fit (h1 p hp)).2.2.1⟩
theorem tree_fit {l : List Pl} (h : treeB l = true) : ∀ p ∈ l, Fit p := fun p hp => (okPl_fit ((treeB_facts h).1 p hp)).1
end Go.Proofs.YtdhcgflblbmogaaDoor

/- What is shown of a tree: its names; of node 0 and of the trash; a node put below the trash, and put back. No call in it. -/
namespace Go.Proofs.YtdhcgflblbmogaaDoor
open Go.RowKit Nam Cod Tre

/-- No way up to a is longer. -/
def Deep (t : List Pl) (f : Nat) (a : Int) : Prop := ∀ p ∈ t, ∀ k, up t k p.u = some a → k < f
theorem deep_all {t : List Pl} (hs : Sorted t) (hr : NoRing t) (a : Int) : Deep t t.length a := fun p hp k h => by
  have := up_bound hr ((up_first hs hp k).trans h)
  omega
theorem Deep.next {t : List Pl} (hs : Sorted t) {f : Nat} {a : Int} (h : Deep t (f + 1) a) {q : Pl} (hq : q ∈ t) (hu : q.u = a) : Deep t f q.n := fun p hp k hk => by
  have h1 : up t (k + 1) p.u = some a := by
    rw [up_add t k 1, hk, Option.bind_some, up_first hs hq 0, hu]; rfl
  have := h p hp (k + 1) h1
  omega
theorem Deep.zero {t : List Pl} {a : Int} (h : Deep t 0 a) : ∀ p ∈ t, p.u ≠ a := fun p hp e => by
  have := h p hp 0 (by rw [e]; rfl)
  omega

def showL (t : List Pl) : List Pl := belowL t t.length 0
def trashL (t : List Pl) : List Pl := belowL t t.length 1

structure TreeP (t : List Pl) : Prop where
  s : Sorted t
  r : NoRing t
  ok : ∀ p ∈ t, okPl p = true
theorem treeP {t : List Pl} (h : treeB t = true) : TreeP t := ⟨(treeB_facts h).2.1, (treeB_facts h).2.2, (treeB_facts h).1⟩
theorem TreeP.b {t : List Pl} (h : TreeP t) : treeB t = true := treeB_of h.ok h.s h.r
theorem TreeP.node {t : List Pl} (h : TreeP t) {p : Pl} (hp : p ∈ t) : 2 ≤ p.n ∧ p.n < 64 ∧ 0 ≤ p.u ∧ p.u < 64 ∧ isName (L p.s) = true := (okPl_fit (h.ok p hp)).2
theorem TreeP.none {t : List Pl} (h : TreeP t) {b : Int} (hb : b < 2) : get t b = none := by
  rcases hg : get t b with _ | p
  · rfl
  · obtain ⟨hp, e⟩ := (get_iff h.s).1 hg
    have := (h.node hp).1
    omega
theorem TreeP.stay {t : List Pl} (h : TreeP t) {b c : Int} (hb : b < 2) {k : Nat} (hu : up t k b = some c) : k = 0 ∧ c = b := by
  cases k with
  | zero => exact ⟨rfl, (Option.some.inj hu).symm⟩
  | succ k =>
    have hu : (get t b).bind (fun p => up t k p.u) = some c := hu
    rw [h.none hb] at hu; cases hu

/-- Who is below a (0 or 1): those above whom a is. -/
theorem TreeP.mem {t : List Pl} (h : TreeP t) {a : Int} (x : Pl) : x ∈ belowL t t.length a ↔ ∃ p ∈ t, x = seen t p ∧ ∃ k, up t (k + 1) p.n = some a := by
  rw [mem_below h.s]
  constructor
  · rintro ⟨p, hp, e, k, _, hu⟩
    exact ⟨p, hp, e, k, (up_first h.s hp k).trans hu⟩
  · rintro ⟨p, hp, e, k, hu⟩
    rw [up_first h.s hp k] at hu
    exact ⟨p, hp, e, k, deep_all h.s h.r a p hp k hu, hu⟩
theorem TreeP.above {t : List Pl} (h : TreeP t) {a : Int} (ha : a < 2) {p : Pl} (hp : p ∈ t) : above t a p.n = true ↔ p.n ∈ (belowL t t.length a).map Pl.n := by
  rw [above_iff h.r, List.mem_map]
  constructor
  · rintro ⟨k, hk⟩
    cases k with
    | zero =>
      have h1 : p.n = a := Option.some.inj hk
      have := (h.node hp).1
      omega
    | succ k => exact ⟨seen t p, (h.mem _).2 ⟨p, hp, rfl, k, hk⟩, rfl⟩
  · rintro ⟨x, hx, e⟩
    obtain ⟨q, hq, rfl, k, hk⟩ := (h.mem _).1 hx
    have e : q.n = p.n := e
    exact ⟨k + 1, by rw [← e]; exact hk⟩
theorem TreeP.nodup {t : List Pl} (h : TreeP t) (a : Int) : ((belowL t t.length a).map Pl.n).Nodup := below_nodup h.s (acyc_of h.r) _ _
/-- No node is below both. -/
theorem TreeP.apart {t : List Pl} (h : TreeP t) {n : Int} (h1 : n ∈ (showL t).map Pl.n) (h2 : n ∈ (trashL t).map Pl.n) : False := by
  obtain ⟨x, hx, rfl⟩ := List.mem_map.1 h1
  obtain ⟨y, hy, e⟩ := List.mem_map.1 h2
  obtain ⟨p, hp, rfl, i, hi⟩ := (h.mem _).1 hx
  obtain ⟨q, hq, rfl, j, hj⟩ := (h.mem _).1 hy
  have e : q.n = p.n := e
  rw [e] at hj
  rcases Nat.le_total i j with hij | hij
  · have := (h.stay (by decide) (up_later (by omega) hi hj)).2
    omega
  · have := (h.stay (by decide) (up_later (by omega) hj hi)).2
    omega
theorem TreeP.len {t : List Pl} (h : TreeP t) : (showL t).length + (trashL t).length ≤ t.length := by
  have h1 : ((showL t).map Pl.n ++ (trashL t).map Pl.n).Nodup := by
    rw [List.nodup_append]
    exact ⟨h.nodup 0, h.nodup 1, fun a ha b hb e => by subst e; exact h.apart ha hb⟩
  have h2 := pigeon _ (t.map Pl.n) h1 (fun x hx => by
    rcases List.mem_append.1 hx with hx | hx
    · obtain ⟨y, hy, rfl⟩ := List.mem_map.1 hx
      obtain ⟨p, hp, rfl, _⟩ := (h.mem _).1 hy
      exact List.mem_map.2 ⟨p, hp, rfl⟩
    · obtain ⟨y, hy, rfl⟩ := List.mem_map.1 hx
      obtain ⟨p, hp, rfl, _⟩ := (h.mem _).1 hy
      exact List.mem_map.2 ⟨p, hp, rfl⟩)
  simpa using h2

/-- Names below one are unlike. -/
theorem firstB_iff {t : List Pl} {p : Pl} : firstB t p = true ↔ ∀ q ∈ t, ¬ (q.u = p.u ∧ q.s = p.s ∧ q.n < p.n) := by
  unfold firstB
  rw [List.all_eq_true]
  exact ⟨fun h q hq k => by
    have := h q hq
    simp [k.1, k.2.1, k.2.2] at this, fun h q hq => by
    have := h q hq
    simp only [Bool.not_eq_true', Bool.and_eq_false_iff, decide_eq_false_iff_not]
    by_cases e1 : q.u = p.u
    · by_cases e2 : q.s = p.s
      · exact Or.inr fun e3 => this ⟨e1, e2, e3⟩
      · exact Or.inl (Or.inr e2)
    · exact Or.inl (Or.inl e1)⟩
theorem TreeP.names {t : List Pl} (h : TreeP t) {p q : Pl} (hp : p ∈ t) (hq : q ∈ t) (hu : p.u = q.u) (hn : nameOf t p = nameOf t q) : p = q := by
  obtain ⟨p1, p2, _, _, p5⟩ := h.node hp
  obtain ⟨q1, q2, _, _, q5⟩ := h.node hq
  unfold nameOf at hn
  by_cases f1 : firstB t p = true
  · by_cases f2 : firstB t q = true
    · rw [if_pos f1, if_pos f2] at hn
      rcases Int.lt_trichotomy p.n q.n with h1 | h1 | h1
      · exact absurd ⟨hu, hn, h1⟩ (firstB_iff.1 f2 p hp)
      · exact sorted_one h.s hp hq h1
      · exact absurd ⟨hu.symm, hn.symm, h1⟩ (firstB_iff.1 f1 q hq)
    · rw [if_pos f1, if_neg f2] at hn
      rw [hn, L_twin, twin_no_name] at p5; cases p5
  · by_cases f2 : firstB t q = true
    · rw [if_neg f1, if_pos f2] at hn
      rw [← hn, L_twin, twin_no_name] at q5; cases q5
    · rw [if_neg f1, if_neg f2] at hn
      have h1 : twin (L p.s) p.n.toNat = twin (L q.s) q.n.toNat := by rw [← L_twin, ← L_twin, hn]
      have h2 := (twin_inj p5 q5 (by omega) (by omega) h1).2
      exact sorted_one h.s hp hq (by omega)

/-- A node put below the trash. -/
theorem TreeP.trashed {t : List Pl} (h : TreeP t) {p : Pl} (hp : p ∈ t) : TreeP (putL t ⟨p.n, 1, p.s⟩) := by
  obtain ⟨p1, p2, p3, p4, p5⟩ := h.node hp
  refine ⟨sorted_put h.s _, put_noRing h.s h.r ?_, fun q hq => ?_⟩
  · show Tre.above t p.n 1 = false
    rcases e : Tre.above t p.n 1 with _ | _
    · rfl
    · obtain ⟨k, hk⟩ := (above_iff h.r).1 e
      have := (h.stay (by decide) hk).2
      omega
  · rcases (mem_put h.s _ q).1 hq with rfl | ⟨hq, _⟩
    · have h0 := h.ok p hp
      unfold okPl at h0 ⊢
      simp only [Bool.and_eq_true, decide_eq_true_iff] at h0 ⊢
      exact ⟨by omega, h0.2⟩
    · exact h.ok q hq
theorem TreeP.back {t : List Pl} (h : TreeP t) {p : Pl} (hp : p ∈ t) : putL (putL t ⟨p.n, 1, p.s⟩) p = t := put_back (p := ⟨p.n, 1, p.s⟩) h.s ((get_iff h.s).2 ⟨hp, rfl⟩)
theorem trashed_get {t : List Pl} (h : TreeP t) {p : Pl} (b : Int) (hb : ¬ b = p.n) : get (putL t ⟨p.n, 1, p.s⟩) b = get t b := by
  rw [get_put h.s, if_neg hb]
/-- From it no way leads to node 0. -/
theorem trashed_end {t : List Pl} (h : TreeP t) {p : Pl} (hp : p ∈ t) {k : Nat} (hk : up (putL t ⟨p.n, 1, p.s⟩) k p.n = some 0) : False := by
  have hu := h.trashed hp
  have p1 := (h.node hp).1
  cases k with
  | zero => have := Option.some.inj hk; omega
  | succ k =>
    have h1 : (get (putL t ⟨p.n, 1, p.s⟩) p.n).bind (fun q => up (putL t ⟨p.n, 1, p.s⟩) k q.u) = some 0 := hk
    rw [get_put h.s, if_pos rfl, Option.bind_some] at h1
    have h2 : (0 : Int) = 1 := (hu.stay (b := 1) (by decide) h1).2
    omega
theorem trashed_off {t : List Pl} (h : TreeP t) {p : Pl} (hp : p ∈ t) {x : Pl} (hx : x ∈ showL (putL t ⟨p.n, 1, p.s⟩)) : Tre.above t p.n x.n = false ∧ x.n ∈ (showL t).map Pl.n := by
  have hu := h.trashed hp
  obtain ⟨p', hp', rfl, k, hk⟩ := (hu.mem x).1 hx
  show Tre.above t p.n p'.n = false ∧ p'.n ∈ _
  have havoid : ∀ i, i ≤ k + 1 → ¬ up (putL t ⟨p.n, 1, p.s⟩) i p'.n = some p.n := fun i hi e => trashed_end h hp (up_later hi e hk)
  constructor
  · rcases e : Tre.above t p.n p'.n with _ | _
    · rfl
    · exfalso
      obtain ⟨j0, hj0⟩ := (above_iff h.r).1 e
      obtain ⟨j, hj, hmin⟩ := least (P := fun j => up t j p'.n = some p.n) j0 hj0
      have h1 := up_avoid (l := putL t ⟨p.n, 1, p.s⟩) (m := t) (K := p.n) (fun b hb => (trashed_get h b hb).symm) j p'.n hmin
      have h1 : up (putL t ⟨p.n, 1, p.s⟩) j p'.n = some p.n := h1.symm.trans hj
      rcases Nat.lt_or_ge (k + 1) j with hlt | hge
      · have := (hu.stay (by decide) (up_later (Nat.le_of_lt hlt) hk h1)).1
        omega
      · exact havoid j hge h1
  · have h1 := up_avoid (l := t) (m := putL t ⟨p.n, 1, p.s⟩) (K := p.n) (fun b hb => trashed_get h b hb) (k + 1) p'.n (fun i hi => havoid i (Nat.le_of_lt hi))
    have h2 : up t (k + 1) p'.n = some 0 := h1.symm.trans hk
    rcases (mem_put h.s _ p').1 hp' with rfl | ⟨hq, _⟩
    · exact absurd rfl (havoid 0 (Nat.zero_le _))
    · exact List.mem_map.2 ⟨seen t p', (h.mem _).2 ⟨p', hq, rfl, k, h2⟩, rfl⟩
theorem trashed_len {t : List Pl} (h : TreeP t) {p : Pl} (hp : p ∈ t) : (showL (putL t ⟨p.n, 1, p.s⟩)).length ≤ (showL t).length := by
  have h2 := pigeon _ ((showL t).map Pl.n) ((h.trashed hp).nodup 0) (fun n hn => by
    obtain ⟨x, hx, rfl⟩ := List.mem_map.1 hn
    exact (trashed_off h hp hx).2)
  simpa [showL] using h2
end Go.Proofs.YtdhcgflblbmogaaDoor

/- What may be a tree: of the program. -/
namespace Go.Proofs.YtdhcgflblbmogaaDoor
open Go.RowKit Tre Nam Cod

theorem okPl_five {n u : Int} {P : Prop} (h1 : ¬ 2 ≤ n → P) (h2 : 2 ≤ n → ¬ n < 64 → P) (h3 : 2 ≤ n → n < 64 → ¬ 0 ≤ u → P) (h4 : 2 ≤ n → n < 64 → 0 ≤ u → ¬ u < 64 → P) (h5 : 2 ≤ n → n < 64 → 0 ≤ u → u < 64 → P) : P := by
  by_cases a : 2 ≤ n
  · by_cases b : n < 64
    · by_cases c : 0 ≤ u
      · by_cases d : u < 64
        · exact h5 a b c d
        · exact h4 a b c d
      · exact h3 a b c
    · exact h2 a b
  · exact h1 a
theorem okPl_false {p : Pl} (h : ¬ (2 ≤ p.n ∧ p.n < 64 ∧ 0 ≤ p.u ∧ p.u < 64)) : okPl p = false := by
  unfold okPl; rw [decide_eq_false h]; rfl
theorem okPl_name {p : Pl} (h : 2 ≤ p.n ∧ p.n < 64 ∧ 0 ≤ p.u ∧ p.u < 64) : okPl p = isName (L p.s) := by
  unfold okPl; rw [decide_eq_true h]; rfl

theorem rightPlace_any (p : Pl) (w : World) (hs : p.s.size ≤ 9223372036854775807) :
    Calls Tryd.prog 33 #[.agg #[.int .i64 p.n, .int .i64 p.u, .string p.s]] w fun e w' => e = .returned (.bool (okPl p)) ∧ Below w.heap.size w w' := by
  have c := fun w => nmRight_any p.s w hs
  refine okPl_five (n := p.n) (u := p.u) ?_ ?_ ?_ ?_ ?_
  · intro h1
    rw [okPl_false (by omega)]
    go_enter Tryd.func33, Tryd.ntmps33
    go_wp2
    go_ret
    exact ⟨rfl, below_alloc (Below.refl _ _) _⟩
  · intro h1 h2
    rw [okPl_false (by omega)]
    go_enter Tryd.func33, Tryd.ntmps33
    go_wp2
    go_ret
    exact ⟨rfl, below_alloc (Below.refl _ _) _⟩
  · intro h1 h2 h3
    rw [okPl_false (by omega)]
    go_enter Tryd.func33, Tryd.ntmps33
    go_wp2
    go_ret
    exact ⟨rfl, below_alloc (Below.refl _ _) _⟩
  · intro h1 h2 h3 h4
    rw [okPl_false (by omega)]
    go_enter Tryd.func33, Tryd.ntmps33
    go_wp2
    go_ret
    exact ⟨rfl, below_alloc (Below.refl _ _) _⟩
  · intro h1 h2 h3 h4
    rw [okPl_name ⟨h1, h2, h3, h4⟩]
    generalize isName (L p.s) = x at *
    have C := Lib.hid c
    clear c
    go_enter Tryd.func33, Tryd.ntmps33
    go_wp2_with (go_at_call 36; (with_reducible refine (C.out _).mono ?_); rintro e w1 ⟨rfl, rfl⟩)
    go_ret
    exact ⟨rfl, below_alloc (Below.refl _ _) _⟩

/-- The places ahead of i may be, and rise. -/
def GoodTo (l : List Pl) (i : Nat) : Prop := ∀ k (h : k < l.length), k < i → okPl l[k] = true ∧ ∀ (h0 : 0 < k), (l[k - 1]'(by omega)).n < l[k].n
theorem goodTo_next {l : List Pl} {i : Nat} (h : GoodTo l i) (hi : i < l.length) (h1 : okPl l[i] = true) (h2 : ∀ (h0 : 0 < i), (l[i - 1]'(by omega)).n < l[i].n) : GoodTo l (i + 1) := by
  intro k hk hlt
  by_cases e : k = i
  · subst e; exact ⟨h1, h2⟩
  · exact h k hk (by omega)
theorem rising_of : ∀ {l : List Pl}, (∀ k (h : k < l.length) (h0 : 0 < k), (l[k - 1]'(by omega)).n < l[k].n) → rising l = true
  | [], _ => rfl
  | [_], _ => rfl
  | p :: q :: l, h => by
    unfold rising
    rw [Bool.and_eq_true, decide_eq_true_iff]
    refine ⟨h 1 (by simp) (by omega), rising_of (l := q :: l) fun k hk h0 => ?_⟩
    have := h (k + 1) (by simpa using hk) (by omega)
    obtain ⟨m, rfl⟩ : ∃ m, k = m + 1 := ⟨k - 1, by omega⟩
    simpa using this
def riseB (l : List Pl) : Bool := l.all okPl && rising l
theorem goodTo_all {l : List Pl} (h : GoodTo l l.length) : riseB l = true := by
  unfold riseB
  rw [Bool.and_eq_true, List.all_eq_true]
  refine ⟨fun p hp => ?_, rising_of fun k hk h0 => (h k hk hk).2 h0⟩
  obtain ⟨k, hk, rfl⟩ := List.getElem_of_mem hp
  exact (h k hk hk).1
theorem goodTo_back {l : List Pl} (h : riseB l = true) : (∀ k (h : k < l.length), okPl l[k] = true) ∧ Sorted l := by
  unfold riseB at h
  rw [Bool.and_eq_true, List.all_eq_true] at h
  exact ⟨fun k hk => h.1 _ (List.getElem_mem hk), rising_sorted h.2⟩
theorem goodTo_bad {l : List Pl} {i : Nat} (hi : i < l.length) (h : ¬ (okPl l[i] = true ∧ ∀ (h0 : 0 < i), (l[i - 1]'(by omega)).n < l[i].n)) : riseB l = false := by
  rcases e : riseB l with _ | _
  · rfl
  · obtain ⟨h1, h2⟩ := goodTo_back e
    exact absurd ⟨h1 i hi, fun h0 => h2 _ _ (by omega) hi (by omega)⟩ h

set_option maxHeartbeats 4000000 in
theorem rising_any (A : Option Addr) (cap : Nat) (l : List Pl) (w : World) (hl : l.length ≤ 1000) (hsz : ∀ p ∈ l, p.s.size ≤ 9223372036854775807) (hT : Tr w A l) :
    Calls Tryd.prog 28 #[.slice A l.length cap] w fun e w' => e = .returned (.bool (riseB l)) ∧ Below w.heap.size w w' := by
  go_enter Tryd.func28, Tryd.ntmps28
  go_wp2
  go_loopw [7] (fun x wr => ∃ k : Nat, k ≤ l.length ∧ x = .int .i64 k ∧ GoodTo l k ∧ Below w.heap.size w wr) (fun x _ => l.length - (intOf x).toNat)
  case atStart => exact ⟨0, Nat.zero_le _, rfl, fun k h hk => by omega, Below.refl _ _⟩
  case round =>
    obtain ⟨k, hk, rfl, hgd, hnx⟩ := hrel
    by_cases hlt : k < l.length
    · obtain ⟨bb, off, rfl, hbw, hc⟩ := hT (by omega)
      have hbr := Nat.lt_of_lt_of_le hbw hnx.size
      have hat := (hc k hlt).below hnx hbw
      obtain ⟨p, hp⟩ : ∃ p, l[k] = p := ⟨_, rfl⟩
      have c := fun w => rightPlace_any p w (hsz p (hp ▸ List.getElem_mem hlt))
      have hbad := goodTo_bad hlt
      have hnext := goodTo_next hgd hlt
      rw [hp] at hat hbad hnext
      have hprev : ∀ h0 : 0 < k, AtPl wr bb (off + (k - 1) * 3) (l[k - 1]'(by omega)) := fun h0 => (hc (k - 1) (by omega)).below hnx hbw
      obtain ⟨q0, q1, q2⟩ := hat
      have HG := Lib.hid hgd
      have HB := Lib.hid hbad
      have HN := Lib.hid hnext
      clear hgd hbad hnext hc hsz
      cases hok : okPl p
      · rw [hok] at c
        have C := Lib.hid c
        have hr : riseB l = false := HB.out (fun h => by rw [hok] at h; exact absurd h.1 (by simp))
        have HR := Lib.hid hr
        clear c hr hok hprev hp
        go_wp2
        have hO := PlIn.new wr p
        have hB0 := below_alloc hnx (.cells #[.int .i64 p.n, .int .i64 p.u, .string p.s] 33)
        generalize wr.alloc (.cells #[.int .i64 p.n, .int .i64 p.u, .string p.s] 33) = W at *
        obtain ⟨g0, g1, g2⟩ := hO.cells
        have k0 := cell_regrown g0
        have k1 := cell_regrown g1
        have k2 := cell_regrown g2
        clear g0 g1 g2 hO
        have d1 : ∀ d os, Calls Tryd.prog 33 #[.agg #[.int .i64 p.n, .int .i64 p.u, .string p.s]] (Sort.grow (redrawn W d) os) fun e w'' => e = .returned (.bool false) ∧ ∃ p : Regrown, w'' = Sort.grow (redrawn W p.d) p.os := fun d os => Calls.regrown_of (C.out _)
        refine wp_region_quiet_below (by kernel_rfl) (by kernel_rfl) ?_
        repeat (go_big_quiet_step ((with_reducible (exact d1 _ _))))
        refine wpQuiet_nil ?_
        intro _ hw'
        obtain ⟨⟨dq, osq⟩, hw''⟩ := hw'
        subst hw''
        go_wp2
        go_ret
        exact ⟨by rw [HR.out]; rfl, below_then hB0 (below_regrown W dq osq)⟩
      · rw [hok] at c
        have C := Lib.hid c
        clear c
        by_cases h0 : 0 < k
        · obtain ⟨t0, t1, t2⟩ := hprev h0
          obtain ⟨q, hq⟩ : ∃ q, l[k - 1]'(by omega) = q := ⟨_, rfl⟩
          rw [hq] at t0 t1 t2
          have hix : ((k : Int) - 1).toNat = k - 1 := by omega
          by_cases hc2 : q.n < p.n
          · have HQ : ∀ h0 : 0 < k, (l[k - 1]'(by omega)).n < p.n := fun _ => by rw [hq]; exact hc2
            have HQ := Lib.hid HQ
            clear hq hp hprev
            go_wp2
            have hO := PlIn.new wr p
            have hB0 := below_alloc hnx (.cells #[.int .i64 p.n, .int .i64 p.u, .string p.s] 33)
            have hw0 := below_alloc (Below.refl _ wr) (.cells #[.int .i64 p.n, .int .i64 p.u, .string p.s] 33)
            rw [← (bcell hw0).1 _ _ hbr] at t0
            clear hw0
            generalize wr.alloc (.cells #[.int .i64 p.n, .int .i64 p.u, .string p.s] 33) = W at *
            obtain ⟨g0, g1, g2⟩ := hO.cells
            have k0 := cell_regrown g0
            have k1 := cell_regrown g1
            have k2 := cell_regrown g2
            have kt0 := cell_regrown t0
            clear t0 t1 t2
            clear g0 g1 g2 hO
            have d1 : ∀ d os, Calls Tryd.prog 33 #[.agg #[.int .i64 p.n, .int .i64 p.u, .string p.s]] (Sort.grow (redrawn W d) os) fun e w'' => e = .returned (.bool true) ∧ ∃ p : Regrown, w'' = Sort.grow (redrawn W p.d) p.os := fun d os => Calls.regrown_of (C.out _)
            refine wp_region_quiet_below (by kernel_rfl) (by kernel_rfl) ?_
            repeat (go_big_quiet_step ((with_reducible (exact d1 _ _))))
            refine wpQuiet_nil ?_
            intro _ hw'
            obtain ⟨⟨dq, osq⟩, hw''⟩ := hw'
            subst hw''
            go_wp2
            go_roundw
            case rel => exact ⟨k + 1, by omega, by go_num, HN.out hok fun h0 => HQ.out h0, below_then hB0 (below_regrown W dq osq)⟩
            case measure => simp [intOf]; omega
          · have hr : riseB l = false := HB.out (fun h => by have := h.2 h0; rw [hq] at this; exact hc2 this)
            have HR := Lib.hid hr
            clear hr hq hp hprev
            go_wp2
            have hO := PlIn.new wr p
            have hB0 := below_alloc hnx (.cells #[.int .i64 p.n, .int .i64 p.u, .string p.s] 33)
            have hw0 := below_alloc (Below.refl _ wr) (.cells #[.int .i64 p.n, .int .i64 p.u, .string p.s] 33)
            rw [← (bcell hw0).1 _ _ hbr] at t0
            clear hw0
            generalize wr.alloc (.cells #[.int .i64 p.n, .int .i64 p.u, .string p.s] 33) = W at *
            obtain ⟨g0, g1, g2⟩ := hO.cells
            have k0 := cell_regrown g0
            have k1 := cell_regrown g1
            have k2 := cell_regrown g2
            have kt0 := cell_regrown t0
            clear t0 t1 t2
            clear g0 g1 g2 hO
            have d1 : ∀ d os, Calls Tryd.prog 33 #[.agg #[.int .i64 p.n, .int .i64 p.u, .string p.s]] (Sort.grow (redrawn W d) os) fun e w'' => e = .returned (.bool true) ∧ ∃ p : Regrown, w'' = Sort.grow (redrawn W p.d) p.os := fun d os => Calls.regrown_of (C.out _)
            refine wp_region_quiet_below (by kernel_rfl) (by kernel_rfl) ?_
            repeat (go_big_quiet_step ((with_reducible (exact d1 _ _))))
            refine wpQuiet_nil ?_
            intro _ hw'
            obtain ⟨⟨dq, osq⟩, hw''⟩ := hw'
            subst hw''
            go_wp2
            go_ret
            exact ⟨by rw [HR.out]; rfl, below_then hB0 (below_regrown W dq osq)⟩
        · have hd : decide ((0 : Int) < (k : Int)) = false := decide_eq_false (by omega)
          have HK := Lib.hid h0
          clear hprev hp
          go_wp2
          have hO := PlIn.new wr p
          have hB0 := below_alloc hnx (.cells #[.int .i64 p.n, .int .i64 p.u, .string p.s] 33)
          generalize wr.alloc (.cells #[.int .i64 p.n, .int .i64 p.u, .string p.s] 33) = W at *
          obtain ⟨g0, g1, g2⟩ := hO.cells
          have k0 := cell_regrown g0
          have k1 := cell_regrown g1
          have k2 := cell_regrown g2
          clear g0 g1 g2 hO
          have d1 : ∀ d os, Calls Tryd.prog 33 #[.agg #[.int .i64 p.n, .int .i64 p.u, .string p.s]] (Sort.grow (redrawn W d) os) fun e w'' => e = .returned (.bool true) ∧ ∃ p : Regrown, w'' = Sort.grow (redrawn W p.d) p.os := fun d os => Calls.regrown_of (C.out _)
          refine wp_region_quiet_below (by kernel_rfl) (by kernel_rfl) ?_
          repeat (go_big_quiet_step ((with_reducible (exact d1 _ _))))
          refine wpQuiet_nil ?_
          intro _ hw'
          obtain ⟨⟨dq, osq⟩, hw''⟩ := hw'
          subst hw''
          go_wp2
          go_roundw
          case rel => exact ⟨k + 1, by omega, by go_num, HN.out hok fun h0 => absurd h0 HK.out, below_then hB0 (below_regrown W dq osq)⟩
          case measure => simp [intOf]; omega
    · obtain rfl : k = l.length := by omega
      have HR := Lib.hid (goodTo_all hgd)
      clear hgd
      go_wp2
      go_ret
      exact ⟨by rw [HR.out]; rfl, hnx⟩
end Go.Proofs.YtdhcgflblbmogaaDoor

/- What may be a tree: Right of both. -/
namespace Go.Proofs.YtdhcgflblbmogaaDoor
open Go.RowKit Tre Nam Cod

def ringless (l : List Pl) : Bool := l.all fun p => !above l p.n p.u
theorem treeB_two (l : List Pl) : treeB l = (riseB l && ringless l) := by unfold treeB riseB ringless; rw [Bool.and_assoc]
def FreeTo (l : List Pl) (i : Nat) : Prop := ∀ k (h : k < l.length), k < i → above l l[k].n l[k].u = false
theorem free_next {l : List Pl} {i : Nat} (h : FreeTo l i) (hi : i < l.length) (h1 : above l l[i].n l[i].u = false) : FreeTo l (i + 1) := by
  intro k hk hlt
  by_cases e : k = i
  · subst e; exact h1
  · exact h k hk (by omega)
theorem free_all {l : List Pl} (h : FreeTo l l.length) : ringless l = true := by
  unfold ringless
  rw [List.all_eq_true]
  intro p hp
  obtain ⟨k, hk, rfl⟩ := List.getElem_of_mem hp
  rw [h k hk hk]; rfl
theorem free_bad {l : List Pl} {i : Nat} (hi : i < l.length) (h : above l l[i].n l[i].u = true) : ringless l = false := by
  rcases e : ringless l with _ | _
  · rfl
  · unfold ringless at e
    rw [List.all_eq_true] at e
    have := e _ (List.getElem_mem hi)
    rw [h] at this; exact this.symm

theorem noLoop_any (A : Option Addr) (cap : Nat) (l : List Pl) (w : World) (hl : l.length ≤ 1000) (hs : Sorted l) (hT : Tr w A l) :
    Calls Tryd.prog 29 #[.slice A l.length cap] w fun e w' => e = .returned (.bool (ringless l)) ∧ Below w.heap.size w w' := by
  have C := fun w a b (hT : Tr w A l) => above_any A cap l a b w hl hs hT
  go_enter Tryd.func29, Tryd.ntmps29
  go_wp2
  go_loopw [7] (fun x wr => ∃ k : Nat, k ≤ l.length ∧ x = .int .i64 k ∧ FreeTo l k ∧ Below w.heap.size w wr) (fun x _ => l.length - (intOf x).toNat)
  case atStart => exact ⟨0, Nat.zero_le _, rfl, fun k h hk => by omega, Below.refl _ _⟩
  case round =>
    obtain ⟨k, hk, rfl, hgd, hnx⟩ := hrel
    by_cases hlt : k < l.length
    · obtain ⟨bb, off, hAe, hbw, hc⟩ := hT (by omega)
      have hbr := Nat.lt_of_lt_of_le hbw hnx.size
      have hat := (hc k hlt).below hnx hbw
      have hbad := free_bad hlt
      have hnext := free_next hgd hlt
      obtain ⟨p, hp⟩ : ∃ p, l[k] = p := ⟨_, rfl⟩
      rw [hp] at hat hbad hnext
      obtain ⟨q0, q1, q2⟩ := hat
      have hTa := (hT.below hnx).below (below_alloc (Below.refl _ wr) (.cells #[.int .i64 p.n, .int .i64 p.u, .string p.s] 33))
      have C := C _ p.n p.u hTa
      have HB := Lib.hid hbad
      have HN := Lib.hid hnext
      clear hgd hbad hnext hc hp
      subst hAe
      cases hab : above l p.n p.u
      · rw [hab] at C
        have HN := Lib.hid (HN.out hab)
        clear hab
        go_wp2_with (go_at_call 34; (with_reducible refine C.mono ?_); rintro e w1 ⟨rfl, hb1⟩)
        go_roundw
        case rel => exact ⟨k + 1, by omega, by go_num, HN.out, below_then (below_alloc hnx _) hb1⟩
        case measure => simp [intOf]; omega
      · rw [hab] at C
        have HR := Lib.hid (HB.out hab)
        clear hab
        go_wp2_with (go_at_call 34; (with_reducible refine C.mono ?_); rintro e w1 ⟨rfl, hb1⟩)
        go_ret
        exact ⟨by rw [HR.out]; rfl, below_then (below_alloc hnx _) hb1⟩
    · obtain rfl : k = l.length := by omega
      have HR := Lib.hid (free_all hgd)
      clear hgd
      go_wp2
      go_ret
      exact ⟨by rw [HR.out]; rfl, hnx⟩

theorem right_any (A : Option Addr) (cap : Nat) (l : List Pl) (w : World) (hl : l.length ≤ 1000) (hsz : ∀ p ∈ l, p.s.size ≤ 9223372036854775807) (hT : Tr w A l) :
    Calls Tryd.prog 22 #[.slice A l.length cap] w fun e w' => e = .returned (.bool (treeB l)) ∧ Below w.heap.size w w' := by
  have C1 := rising_any A cap l w hl hsz hT
  rw [treeB_two]
  cases hr : riseB l
  · rw [hr] at C1
    have HC := Lib.hid C1
    clear C1
    go_enter Tryd.func22, Tryd.ntmps22
    go_wp2_with (go_at_call 28; (with_reducible refine HC.out.mono ?_); rintro e w1 ⟨rfl, hb1⟩)
    go_ret
    exact ⟨rfl, hb1⟩
  · rw [hr] at C1
    have C2 := fun w (hT : Tr w A l) => noLoop_any A cap l w hl (goodTo_back hr).2 hT
    generalize ringless l = x at *
    have HC := Lib.hid C1
    have HD := Lib.hid C2
    clear C1 C2
    go_enter Tryd.func22, Tryd.ntmps22
    go_wp2_with (first | (go_at_call 28; (with_reducible refine HC.out.mono ?_); rintro e w1 ⟨rfl, hb1⟩; have hT1 := hT.below hb1) | (go_at_call 29; (with_reducible refine (HD.out _ hT1).mono ?_); rintro e w2 ⟨rfl, hb2⟩))
    go_ret
    exact ⟨by simp, below_then hb1 hb2⟩
end Go.Proofs.YtdhcgflblbmogaaDoor

/- What may be a tree: of the document. -/
namespace Go.Proofs.YtdhcgflblbmogaaDoor
open Go.RowKit Tre Nam Cod

set_option maxRecDepth 100000 in
set_option maxHeartbeats 4000000 in
theorem refRight_any (A : Option Addr) (cap : Nat) (l : List Pl) (w : World) (hl : l.length ≤ 1000) (hsz : ∀ p ∈ l, p.s.size ≤ 9223372036854775807) (hT : Tr w A l) :
    Calls Tryd.prog 15 #[.slice A l.length cap] w fun e w' => e = .returned (.bool (treeB l)) ∧ Below w.heap.size w w' := by
  have HZ := Lib.hid hsz
  have HT2 := Lib.hid (treeB_two l)
  clear hsz
  go_enter Tryd.func15, Tryd.ntmps15
  go_wp2
  go_loopw [3] (fun x wr => ∃ k : Nat, k ≤ l.length ∧ x = .int .i64 k ∧ GoodTo l k ∧ Below w.heap.size w wr) (fun x _ => l.length - (intOf x).toNat)
  case atStart => exact ⟨0, Nat.zero_le _, rfl, fun k h hk => by omega, Below.refl _ _⟩
  case round =>
    obtain ⟨k, hk, rfl, hgd, hnx⟩ := hrel
    by_cases hlt : k < l.length
    · obtain ⟨bb, off, hAe, hbw, hc⟩ := hT (by omega)
      have hbr := Nat.lt_of_lt_of_le hbw hnx.size
      have hat := (hc k hlt).below hnx hbw
      obtain ⟨p, hp⟩ : ∃ p, l[k] = p := ⟨_, rfl⟩
      have c := fun w => (nmRefRight_any p.s w (HZ.out p (hp ▸ List.getElem_mem hlt))).mono (fun e w' (h : _ ∧ w = w') => (⟨h.1, h.2 ▸ Below.refl _ _⟩ : e = .returned (.bool (isName (L p.s))) ∧ Below w.heap.size w w'))
      have hbad := goodTo_bad hlt
      have hnext := goodTo_next hgd hlt
      rw [hp] at hat hbad hnext
      have hprev : ∀ h0 : 0 < k, AtPl wr bb (off + (k - 1) * 3) (l[k - 1]'(by omega)) := fun h0 => (hc (k - 1) (by omega)).below hnx hbw
      obtain ⟨q0, q1, q2⟩ := hat
      have HG := Lib.hid hgd
      have HB := Lib.hid hbad
      have HN := Lib.hid hnext
      clear hgd hbad hnext hc
      subst hAe
      have hf : okPl p = false → riseB l = false := fun h => HB.out (fun h2 => by rw [h] at h2; exact absurd h2.1 (by simp))
      have HF := Lib.hid hf
      clear hf
      refine okPl_five (n := p.n) (u := p.u) ?_ ?_ ?_ ?_ ?_
      · intro h1
        have HR := Lib.hid (HF.out (okPl_false (by omega)))
        have e0 : decide (p.n < 2) = true := decide_eq_true (by omega)
        clear hprev hp c HF
        go_wp2
        have hO := PlIn.new wr p
        have hB0 := below_alloc hnx (.cells #[.int .i64 p.n, .int .i64 p.u, .string p.s] 33)
        generalize wr.alloc (.cells #[.int .i64 p.n, .int .i64 p.u, .string p.s] 33) = W at *
        obtain ⟨g0, g1, g2⟩ := hO.cells
        have k0 := cell_regrown g0
        have k1 := cell_regrown g1
        have k2 := cell_regrown g2
        clear g0 g1 g2 hO q0 q1 q2
        refine wp_region_quiet_below (by kernel_rfl) (by kernel_rfl) ?_
        repeat (go_big_quiet_step ((with_reducible (exact d1 _ _))))
        refine wpQuiet_nil ?_
        intro _ hw'
        obtain ⟨⟨dq, osq⟩, hw''⟩ := hw'
        subst hw''
        go_wp2
        go_ret
        exact ⟨by rw [HT2.out, HR.out]; rfl, below_then hB0 (below_regrown W dq osq)⟩
      · intro h1 h2
        have HR := Lib.hid (HF.out (okPl_false (by omega)))
        have e0 : decide (p.n < 2) = false := decide_eq_false (by omega)
        have e1 : decide (64 ≤ p.n) = true := decide_eq_true (by omega)
        clear hprev hp c HF
        go_wp2
        have hO := PlIn.new wr p
        have hB0 := below_alloc hnx (.cells #[.int .i64 p.n, .int .i64 p.u, .string p.s] 33)
        generalize wr.alloc (.cells #[.int .i64 p.n, .int .i64 p.u, .string p.s] 33) = W at *
        obtain ⟨g0, g1, g2⟩ := hO.cells
        have k0 := cell_regrown g0
        have k1 := cell_regrown g1
        have k2 := cell_regrown g2
        clear g0 g1 g2 hO q0 q1 q2
        refine wp_region_quiet_below (by kernel_rfl) (by kernel_rfl) ?_
        repeat (go_big_quiet_step ((with_reducible (exact d1 _ _))))
        refine wpQuiet_nil ?_
        intro _ hw'
        obtain ⟨⟨dq, osq⟩, hw''⟩ := hw'
        subst hw''
        go_wp2
        go_ret
        exact ⟨by rw [HT2.out, HR.out]; rfl, below_then hB0 (below_regrown W dq osq)⟩
      · intro h1 h2 h3
        have HR := Lib.hid (HF.out (okPl_false (by omega)))
        have e0 : decide (p.n < 2) = false := decide_eq_false (by omega)
        have e1 : decide (64 ≤ p.n) = false := decide_eq_false (by omega)
        have e2 : decide (p.u < 0) = true := decide_eq_true (by omega)
        clear hprev hp c HF
        go_wp2
        have hO := PlIn.new wr p
        have hB0 := below_alloc hnx (.cells #[.int .i64 p.n, .int .i64 p.u, .string p.s] 33)
        generalize wr.alloc (.cells #[.int .i64 p.n, .int .i64 p.u, .string p.s] 33) = W at *
        obtain ⟨g0, g1, g2⟩ := hO.cells
        have k0 := cell_regrown g0
        have k1 := cell_regrown g1
        have k2 := cell_regrown g2
        clear g0 g1 g2 hO q0 q1 q2
        refine wp_region_quiet_below (by kernel_rfl) (by kernel_rfl) ?_
        repeat (go_big_quiet_step ((with_reducible (exact d1 _ _))))
        refine wpQuiet_nil ?_
        intro _ hw'
        obtain ⟨⟨dq, osq⟩, hw''⟩ := hw'
        subst hw''
        go_wp2
        go_ret
        exact ⟨by rw [HT2.out, HR.out]; rfl, below_then hB0 (below_regrown W dq osq)⟩
      · intro h1 h2 h3 h4
        have HR := Lib.hid (HF.out (okPl_false (by omega)))
        have e0 : decide (p.n < 2) = false := decide_eq_false (by omega)
        have e1 : decide (64 ≤ p.n) = false := decide_eq_false (by omega)
        have e2 : decide (p.u < 0) = false := decide_eq_false (by omega)
        have e3 : decide (64 ≤ p.u) = true := decide_eq_true (by omega)
        clear hprev hp c HF
        go_wp2
        have hO := PlIn.new wr p
        have hB0 := below_alloc hnx (.cells #[.int .i64 p.n, .int .i64 p.u, .string p.s] 33)
        generalize wr.alloc (.cells #[.int .i64 p.n, .int .i64 p.u, .string p.s] 33) = W at *
        obtain ⟨g0, g1, g2⟩ := hO.cells
        have k0 := cell_regrown g0
        have k1 := cell_regrown g1
        have k2 := cell_regrown g2
        clear g0 g1 g2 hO q0 q1 q2
        refine wp_region_quiet_below (by kernel_rfl) (by kernel_rfl) ?_
        repeat (go_big_quiet_step ((with_reducible (exact d1 _ _))))
        refine wpQuiet_nil ?_
        intro _ hw'
        obtain ⟨⟨dq, osq⟩, hw''⟩ := hw'
        subst hw''
        go_wp2
        go_ret
        exact ⟨by rw [HT2.out, HR.out]; rfl, below_then hB0 (below_regrown W dq osq)⟩
      · intro h1 h2 h3 h4
        have e0 : decide (p.n < 2) = false := decide_eq_false (by omega)
        have e1 : decide (64 ≤ p.n) = false := decide_eq_false (by omega)
        have e2 : decide (p.u < 0) = false := decide_eq_false (by omega)
        have e3 : decide (64 ≤ p.u) = false := decide_eq_false (by omega)
        have hon := okPl_name (p := p) ⟨h1, h2, h3, h4⟩
        rw [← hon] at c
        clear hon
        cases hok : okPl p
        · rw [hok] at c
          have C := Lib.hid c
          have HR := Lib.hid (HF.out hok)
          clear c hok hprev hp HF
          go_wp2
          have hO := PlIn.new wr p
          have hB0 := below_alloc hnx (.cells #[.int .i64 p.n, .int .i64 p.u, .string p.s] 33)
          generalize wr.alloc (.cells #[.int .i64 p.n, .int .i64 p.u, .string p.s] 33) = W at *
          obtain ⟨g0, g1, g2⟩ := hO.cells
          have k0 := cell_regrown g0
          have k1 := cell_regrown g1
          have k2 := cell_regrown g2
          have d1 : ∀ d os, Calls Tryd.prog 26 #[.string p.s] (Sort.grow (redrawn W d) os) fun e w'' => e = .returned (.bool false) ∧ ∃ p : Regrown, w'' = Sort.grow (redrawn W p.d) p.os := fun d os => Calls.regrown_of (C.out _)
          clear g0 g1 g2 hO q0 q1 q2
          refine wp_region_quiet_below (by kernel_rfl) (by kernel_rfl) ?_
          repeat (go_big_quiet_step ((with_reducible (exact d1 _ _))))
          refine wpQuiet_nil ?_
          intro _ hw'
          obtain ⟨⟨dq, osq⟩, hw''⟩ := hw'
          subst hw''
          go_wp2
          go_ret
          exact ⟨by rw [HT2.out, HR.out]; rfl, below_then hB0 (below_regrown W dq osq)⟩
        · rw [hok] at c
          have C := Lib.hid c
          have hok := Lib.hid hok
          clear c
          by_cases h0 : 0 < k
          · obtain ⟨t0, t1, t2⟩ := hprev h0
            obtain ⟨q, hq⟩ : ∃ q, l[k - 1]'(by omega) = q := ⟨_, rfl⟩
            rw [hq] at t0 t1 t2
            have hix : ((k : Int) - 1).toNat = k - 1 := by omega
            by_cases hc2 : q.n < p.n
            · have HQ : ∀ h0 : 0 < k, (l[k - 1]'(by omega)).n < p.n := fun _ => by rw [hq]; exact hc2
              have HQ := Lib.hid HQ
              clear hq hp hprev
              go_wp2
              have hO := PlIn.new wr p
              have hB0 := below_alloc hnx (.cells #[.int .i64 p.n, .int .i64 p.u, .string p.s] 33)
              have hw0 := below_alloc (Below.refl _ wr) (.cells #[.int .i64 p.n, .int .i64 p.u, .string p.s] 33)
              rw [← (bcell hw0).1 _ _ hbr] at t0
              clear hw0
              generalize wr.alloc (.cells #[.int .i64 p.n, .int .i64 p.u, .string p.s] 33) = W at *
              obtain ⟨g0, g1, g2⟩ := hO.cells
              have k0 := cell_regrown g0
              have k1 := cell_regrown g1
              have k2 := cell_regrown g2
              have kt0 := cell_regrown t0
              clear t0 t1 t2
              have d1 : ∀ d os, Calls Tryd.prog 26 #[.string p.s] (Sort.grow (redrawn W d) os) fun e w'' => e = .returned (.bool true) ∧ ∃ p : Regrown, w'' = Sort.grow (redrawn W p.d) p.os := fun d os => Calls.regrown_of (C.out _)
              clear g0 g1 g2 hO q0 q1 q2
              refine wp_region_quiet_below (by kernel_rfl) (by kernel_rfl) ?_
              repeat (go_big_quiet_step ((with_reducible (exact d1 _ _))))
              refine wpQuiet_nil ?_
              intro _ hw'
              obtain ⟨⟨dq, osq⟩, hw''⟩ := hw'
              subst hw''
              go_wp2
              go_roundw
              case rel => exact ⟨k + 1, by omega, by go_num, HN.out hok.out fun h0 => HQ.out h0, below_then hB0 (below_regrown W dq osq)⟩
              case measure => simp [intOf]; omega
            · have HR := Lib.hid (HB.out (fun h => by have := h.2 h0; rw [hq] at this; exact hc2 this))
              clear hq hp hprev
              go_wp2
              have hO := PlIn.new wr p
              have hB0 := below_alloc hnx (.cells #[.int .i64 p.n, .int .i64 p.u, .string p.s] 33)
              have hw0 := below_alloc (Below.refl _ wr) (.cells #[.int .i64 p.n, .int .i64 p.u, .string p.s] 33)
              rw [← (bcell hw0).1 _ _ hbr] at t0
              clear hw0
              generalize wr.alloc (.cells #[.int .i64 p.n, .int .i64 p.u, .string p.s] 33) = W at *
              obtain ⟨g0, g1, g2⟩ := hO.cells
              have k0 := cell_regrown g0
              have k1 := cell_regrown g1
              have k2 := cell_regrown g2
              have kt0 := cell_regrown t0
              clear t0 t1 t2
              have d1 : ∀ d os, Calls Tryd.prog 26 #[.string p.s] (Sort.grow (redrawn W d) os) fun e w'' => e = .returned (.bool true) ∧ ∃ p : Regrown, w'' = Sort.grow (redrawn W p.d) p.os := fun d os => Calls.regrown_of (C.out _)
              clear g0 g1 g2 hO q0 q1 q2
              refine wp_region_quiet_below (by kernel_rfl) (by kernel_rfl) ?_
              repeat (go_big_quiet_step ((with_reducible (exact d1 _ _))))
              refine wpQuiet_nil ?_
              intro _ hw'
              obtain ⟨⟨dq, osq⟩, hw''⟩ := hw'
              subst hw''
              go_wp2
              go_ret
              exact ⟨by rw [HT2.out, HR.out]; rfl, below_then hB0 (below_regrown W dq osq)⟩
          · have hd : decide ((0 : Int) < (k : Int)) = false := decide_eq_false (by omega)
            have HK := Lib.hid h0
            clear hprev hp
            go_wp2
            have hO := PlIn.new wr p
            have hB0 := below_alloc hnx (.cells #[.int .i64 p.n, .int .i64 p.u, .string p.s] 33)
            generalize wr.alloc (.cells #[.int .i64 p.n, .int .i64 p.u, .string p.s] 33) = W at *
            obtain ⟨g0, g1, g2⟩ := hO.cells
            have k0 := cell_regrown g0
            have k1 := cell_regrown g1
            have k2 := cell_regrown g2
            have d1 : ∀ d os, Calls Tryd.prog 26 #[.string p.s] (Sort.grow (redrawn W d) os) fun e w'' => e = .returned (.bool true) ∧ ∃ p : Regrown, w'' = Sort.grow (redrawn W p.d) p.os := fun d os => Calls.regrown_of (C.out _)
            clear g0 g1 g2 hO q0 q1 q2
            refine wp_region_quiet_below (by kernel_rfl) (by kernel_rfl) ?_
            repeat (go_big_quiet_step ((with_reducible (exact d1 _ _))))
            refine wpQuiet_nil ?_
            intro _ hw'
            obtain ⟨⟨dq, osq⟩, hw''⟩ := hw'
            subst hw''
            go_wp2
            go_roundw
            case rel => exact ⟨k + 1, by omega, by go_num, HN.out hok.out fun h0 => absurd h0 HK.out, below_then hB0 (below_regrown W dq osq)⟩
            case measure => simp [intOf]; omega
    · obtain rfl : k = l.length := by omega
      have hr := goodTo_all hgd
      have HR := Lib.hid hr
      have hB1 := hnx
      have C := fun w a b (hT : Tr w A l) => refAbove_any A cap l a b w hl hT
      have C := Lib.hid C
      clear hgd hr
      go_wp2
      go_loopw [5] (fun x wr => ∃ k : Nat, k ≤ l.length ∧ x = .int .i64 k ∧ FreeTo l k ∧ Below w.heap.size w wr) (fun x _ => l.length - (intOf x).toNat)
      case atStart => exact ⟨0, Nat.zero_le _, rfl, fun k h hk => by omega, hB1⟩
      case round =>
        obtain ⟨j, hj, rfl, hgd, hnx⟩ := hrel
        by_cases hlt : j < l.length
        · obtain ⟨bb, off, hAe, hbw, hc⟩ := hT (by omega)
          have hbr := Nat.lt_of_lt_of_le hbw hnx.size
          have hat := (hc j hlt).below hnx hbw
          have hTr := hT.below hnx
          have hbad := free_bad hlt
          have hnext := free_next hgd hlt
          obtain ⟨p, hp⟩ : ∃ p, l[j] = p := ⟨_, rfl⟩
          rw [hp] at hat hbad hnext
          obtain ⟨q0, q1, q2⟩ := hat
          have C := fun w hT => C.out w p.n p.u hT
          have HB := Lib.hid hbad
          have HN := Lib.hid hnext
          clear hgd hbad hnext hc hp
          subst hAe
          have k0 := cell_regrown q0
          have k1 := cell_regrown q1
          clear q0 q1 q2
          cases hab : above l p.n p.u
          · rw [hab] at C
            have HN := Lib.hid (HN.out hab)
            have d1 : ∀ d os, Calls Tryd.prog 20 #[.slice (some ⟨bb, off, none⟩) l.length cap, .int .i64 p.n, .int .i64 p.u] (Sort.grow (redrawn wr d) os) fun e w'' => e = .returned (.bool false) ∧ ∃ p : Regrown, w'' = Sort.grow (redrawn wr p.d) p.os := fun d os => Calls.regrown_of (C _ (hTr.below (below_regrown wr d os)))
            clear hab C
            go_wp2
            refine wp_region_quiet_below (by kernel_rfl) (by kernel_rfl) ?_
            repeat (go_big_quiet_step ((with_reducible (exact d1 _ _))))
            refine wpQuiet_nil ?_
            intro _ hw'
            obtain ⟨⟨dq, osq⟩, hw''⟩ := hw'
            subst hw''
            go_wp2
            go_roundw
            case rel => exact ⟨j + 1, by omega, by go_num, HN.out, below_then hnx (below_regrown wr dq osq)⟩
            case measure => simp [intOf]; omega
          · rw [hab] at C
            have HF := Lib.hid (HB.out hab)
            have d1 : ∀ d os, Calls Tryd.prog 20 #[.slice (some ⟨bb, off, none⟩) l.length cap, .int .i64 p.n, .int .i64 p.u] (Sort.grow (redrawn wr d) os) fun e w'' => e = .returned (.bool true) ∧ ∃ p : Regrown, w'' = Sort.grow (redrawn wr p.d) p.os := fun d os => Calls.regrown_of (C _ (hTr.below (below_regrown wr d os)))
            clear hab C
            go_wp2
            refine wp_region_quiet_below (by kernel_rfl) (by kernel_rfl) ?_
            repeat (go_big_quiet_step ((with_reducible (exact d1 _ _))))
            refine wpQuiet_nil ?_
            intro _ hw'
            obtain ⟨⟨dq, osq⟩, hw''⟩ := hw'
            subst hw''
            go_wp2
            go_ret
            exact ⟨by rw [HT2.out, HR.out, HF.out]; rfl, below_then hnx (below_regrown wr dq osq)⟩
        · obtain rfl : j = l.length := by omega
          have HF := Lib.hid (free_all hgd)
          clear hgd
          go_wp2
          go_ret
          exact ⟨by rw [HT2.out, HR.out, HF.out]; rfl, hnx⟩
end Go.Proofs.YtdhcgflblbmogaaDoor

/- How a place, and a list of places, is read. -/
namespace Go.Proofs.YtdhcgflblbmogaaDoor
open Go.RowKit Tre Nam Cod


/-- A place read: what it is, where it stands behind it, and whether it went wrong. -/
def plStep (s : ByteArray) (p : Nat) (bad : Bool) (v : Pl) (q : Nat) (bad' : Bool) : Prop := (isPlace s p bad = some (v, q) ∧ bad' = false) ∨ (isPlace s p bad = none ∧ bad' = true)
theorem plStep_of {s : ByteArray} {p q1 q2 q3 : Nat} {bad b1 b2 b3 : Bool} {n u : Int} {t : ByteArray} (h1 : numStep s p bad n q1 b1) (h2 : numStep s q1 b1 u q2 b2) (h3 : textStep s q2 b2 t q3 b3) : plStep s p bad ⟨n, u, t⟩ q3 b3 := by
  cases b3
  · left
    obtain ⟨e2, g3⟩ := h3.good
    subst e2
    obtain ⟨e1, g2⟩ := h2.good
    subst e1
    have g1 := h1.back
    unfold isPlace
    simp only [g1, g2, g3, Option.bind_some]
    exact ⟨trivial, trivial⟩
  · right
    refine ⟨?_, rfl⟩
    unfold isPlace
    cases b1
    · have h1 := h1.back
      cases b2
      · have h2 := h2.back
        have h3 := h3.ill
        simp only [h1, h2, h3, Option.bind_some, Option.bind_none]
      · have h2 := h2.ill
        simp only [h1, h2, Option.bind_some, Option.bind_none]
    · have h1 := h1.ill
      simp only [h1, Option.bind_none]
theorem isPlace_bad (s : ByteArray) (p : Nat) : isPlace s p true = none := rfl

/-- So many places read, from p on. -/
def plsStep (s : ByteArray) (p k : Nat) (l : List Pl) (q : Nat) (bad : Bool) : Prop := (isPlaces s k p = some (l, q) ∧ bad = false) ∨ (isPlaces s k p = none ∧ bad = true)
theorem plsStep.zero (s : ByteArray) (p : Nat) : plsStep s p 0 [] p false := Or.inl ⟨rfl, rfl⟩
theorem plsStep.next {s : ByteArray} {p k q q' : Nat} {l : List Pl} {v : Pl} {bad bad' : Bool} (h : plsStep s p k l q bad) (h1 : plStep s q bad v q' bad') : plsStep s p (k + 1) (l ++ [v]) q' bad' := by
  rcases h with ⟨h, rfl⟩ | ⟨h, rfl⟩
  · rcases h1 with ⟨h1, rfl⟩ | ⟨h1, rfl⟩
    · left; refine ⟨?_, rfl⟩; unfold isPlaces; simp only [h, h1, Option.bind_some]
    · right; refine ⟨?_, rfl⟩; unfold isPlaces; simp only [h, h1, Option.bind_some, Option.bind_none]
  · rcases h1 with ⟨h1, _⟩ | ⟨_, rfl⟩
    · rw [isPlace_bad] at h1; cases h1
    · right; refine ⟨?_, rfl⟩; unfold isPlaces; simp only [h, Option.bind_none]
theorem isPlaces_none (s : ByteArray) (p k : Nat) (h : isPlaces s k p = none) : ∀ n, k ≤ n → isPlaces s n p = none
  | 0, hk => by obtain rfl : k = 0 := by omega
                exact h
  | n + 1, hk => by
    by_cases e : k = n + 1
    · subst e; exact h
    · unfold isPlaces; rw [isPlaces_none s p k h n (by omega)]; rfl

section
variable {w a : World} {b : Nat} {p : Pl} {s : ByteArray}
theorem PlIn.putN (h : PlIn w b p) (x : Int) : PlIn (w.setCell ⟨b, 0, none⟩ (.int .i64 x)) b ⟨x, p.u, p.s⟩ := by
  unfold PlIn at h ⊢
  simp [World.setCell, Array.getElem?_modify, h]
theorem PlIn.putU (h : PlIn w b p) (x : Int) : PlIn (w.setCell ⟨b, 1, none⟩ (.int .i64 x)) b ⟨p.n, x, p.s⟩ := by
  unfold PlIn at h ⊢
  simp [World.setCell, Array.getElem?_modify, h]
theorem PlIn.putS (h : PlIn w b p) (x : ByteArray) : PlIn (w.setCell ⟨b, 2, none⟩ (.string x)) b ⟨p.n, p.u, x⟩ := by
  unfold PlIn at h ⊢
  simp [World.setCell, Array.getElem?_modify, h]
theorem PlIn.other (h : PlIn w b p) (n i : Nat) (v : Value) (hne : b ≠ n) : PlIn (w.setCell ⟨n, i, none⟩ v) b p :=
  (Below.heap_setCell w ⟨n, i, none⟩ v b hne).trans h
theorem by_own {w' : World} {row : Option Nat} (h : a.grownBy w (some b)) (g : w.grownBy w' row) (hrow : ∀ k, row = some k → a.heap.size ≤ k) : a.grownBy w' (some b) :=
  ⟨g.os.trans h.os, g.tape.trans h.tape, g.output.trans h.output, Nat.le_trans h.size g.size, fun k hk hne =>
    (g.block k (Nat.lt_of_lt_of_le hk h.size) (fun e => by have := hrow k e.symm; omega)).trans (h.block k hk hne)⟩
end

end Go.Proofs.YtdhcgflblbmogaaDoor

/- How a tree is read, by the program and by the document. -/
namespace Go.Proofs.YtdhcgflblbmogaaDoor
open Go.RowKit Tre Nam Cod

def cntStep (s : ByteArray) (p : Nat) (bad : Bool) (n q : Nat) (bad' : Bool) : Prop := (isCount s p bad 64 = some ((n : Int), q) ∧ bad' = false) ∨ (isCount s p bad 64 = none ∧ n = 0 ∧ bad' = true)
/-- What was read: a tree and where it ends; or that none stands there. -/
def treeStep (s : ByteArray) (p : Nat) (bad : Bool) (l : List Pl) (q : Nat) (bad' : Bool) : Prop := (isTree s p bad = some (l, q) ∧ bad' = false) ∨ (isTree s p bad = none ∧ l = [] ∧ bad' = true)
/-- How far the list is. -/
def wayStep (s : ByteArray) (p : Nat) (bad : Bool) (n k : Nat) (l : List Pl) (q : Nat) (bad' : Bool) : Prop :=
  (∃ q0, isCount s p bad 64 = some ((n : Int), q0) ∧ plsStep s q0 k l q bad') ∨ (isCount s p bad 64 = none ∧ n = 0 ∧ l = [] ∧ bad' = true)
theorem wayStep.start {s : ByteArray} {p n q : Nat} {bad bad' : Bool} (h : cntStep s p bad n q bad') : wayStep s p bad n 0 [] q bad' := by
  rcases h with ⟨h, rfl⟩ | ⟨h, hn, rfl⟩
  · exact Or.inl ⟨q, h, plsStep.zero s q⟩
  · exact Or.inr ⟨h, hn, rfl, rfl⟩
theorem wayStep.next {s : ByteArray} {p n k q q' : Nat} {bad b1 b2 : Bool} {l : List Pl} {v : Pl} (h : wayStep s p bad n k l q b1) (hk : k < n) (h1 : plStep s q b1 v q' b2) : wayStep s p bad n (k + 1) (l ++ [v]) q' b2 := by
  rcases h with ⟨q0, h, h2⟩ | ⟨h, hn, _⟩
  · exact Or.inl ⟨q0, h, h2.next h1⟩
  · omega
theorem wayStep.ill {s : ByteArray} {p n k q : Nat} {bad : Bool} {l : List Pl} (h : wayStep s p bad n k l q true) (hk : k ≤ n) : isTree s p bad = none := by
  unfold isTree
  rcases h with ⟨q0, h, h2⟩ | ⟨h, _⟩
  · rcases h2 with ⟨_, h2⟩ | ⟨h2, _⟩
    · cases h2
    · simp only [h, Option.bind_some, Int.toNat_natCast, isPlaces_none s q0 k h2 n hk, Option.bind_none]
  · simp only [h, Option.bind_none]
theorem wayStep.good {s : ByteArray} {p n q : Nat} {bad : Bool} {l : List Pl} (h : wayStep s p bad n n l q false) : isTree s p bad = if treeB l = true then some (l, q) else none := by
  unfold isTree
  rcases h with ⟨q0, h, h2⟩ | ⟨_, _, _, h⟩
  · rcases h2 with ⟨h2, _⟩ | ⟨_, h2⟩
    · simp only [h, Option.bind_some, Int.toNat_natCast, h2]
    · cases h2
  · cases h

end Go.Proofs.YtdhcgflblbmogaaDoor

/- How the document reads a tree. -/
namespace Go.Proofs.YtdhcgflblbmogaaDoor
open Go.RowKit Tre Nam Cod

theorem own_ne {w : World} {B : Nat} {v : Value} {l : List Pl} (h : Own w B v l) : v.ownBlock = none ∨ v.ownBlock ≠ some w.heap.size := Or.inr (fun e => by have := (World.ownsRow.lt h _ e).2; omega)

end Go.Proofs.YtdhcgflblbmogaaDoor

/- The same places; Parse of the document. -/
namespace Go.Proofs.YtdhcgflblbmogaaDoor
open Go.RowKit Tre Nam Cod

/-- What a whole text is: a tree, and nothing behind it. -/
def parseStep (s : ByteArray) (l : List Pl) (ok : Bool) : Prop := (ok = true ∧ isTree s 0 false = some (l, s.size)) ∨ (ok = false ∧ l = [] ∧ ∀ l', ¬ isTree s 0 false = some (l', s.size))
end Go.Proofs.YtdhcgflblbmogaaDoor
