/- Texts laid one behind the other: Bs, Sf, Sa, Sb, Nm, Na, Oa, Cm, Cc, Cj, Ob, Od, Cf, Cg, Ch, Ui, Oe, Of, Ck, Og, Frm, Ar, Oo, Oi, Ea, Qa, Ha, Ia, Ib, Gk, Ka, Kb, Kd, Ke, Kg, Fa, Tm, Ta, Tb, Tn, Th, Tl, Tj, Tp, Ge, Gf, Tt, Mm, Va, Vc, Vf, Vg. -/
import Derived.Test.YtnglpkfkepfkkaaChecked
import Derived.WalkKit
import Derived.WalkLawsBesides
import Derived.Lib.Hide
import Derived.KernelRfl
import Derived.Handy
import Derived.Lib.Strings
import Derived.Laws.FloatArith
import Derived.Lib.ItoaNum
import Derived.WalkMore
import Derived.Deep.Draws
import Derived.BigQuiet
import Derived.Deep.QuietTactic
import Derived.Lib.QuietBelow
import Derived.Laws.ResultCell
import Derived.Laws.CopyOwn
import Derived.Test.YtnglpkfkepfkkaaRows
import Derived.ProofKit
import Derived.OpenShut
import Derived.ChangeSame
import Derived.Carry
import Derived.Lib.SmallJoins
import Derived.Deep.SlicePairs
import Derived.ChangeSlices
import Derived.ChangeShapes
import Derived.Laws.IdiomStrings
import Derived.Maps.AppendAt
import Derived.Laws.OwnMore
import Derived.Lib.AppendZeros
import Derived.StillTailTactics
import Derived.Lib.Builder
import Derived.Laws.CopyRow
import Derived.Deep.RegionHeld3
import Derived.Lib.SliceRun
/- Small words that all texts share. -/
namespace Go.Proofs.Ytnglpkfkepfkkaa
open Go.RowKit
theorem ret_bool {a b : Bool} (h : b = a) : Ending.returned (.bool a) = .returned (.bool b) := by rw [h]
theorem ret_of {a b : Value} (h : a = b) : Ending.returned a = Ending.returned b := by rw [h]

/-- What was there reads as it did. -/
theorem bcell {W w1 : World} (hb : Below W.heap.size W w1) : (∀ b o, b < W.heap.size → w1.cell? ⟨b, o, none⟩ = W.cell? ⟨b, o, none⟩) ∧ (∀ b o, b < W.heap.size → w1.frozen? ⟨b, o, none⟩ = W.frozen? ⟨b, o, none⟩) :=
  ⟨fun b o h => hb.cell (p := ⟨b, o, none⟩) h, fun b o h => hb.frozen (p := ⟨b, o, none⟩) h⟩
theorem below_then {w w1 w2 : World} (h : Below w.heap.size w w1) (k : Below w1.heap.size w1 w2) : Below w.heap.size w w2 := h.trans (k.mono h.size)
theorem below_alloc {w w1 : World} (h : Below w.heap.size w w1) (o : Obj) : Below w.heap.size w (w1.alloc o) := h.alloc h.size o
theorem below_drew {W w : World} (h : Below W.heap.size W w) (n : Nat) : Below W.heap.size W (w.drewN n) := ⟨h.os, h.tape, h.output, h.size, h.block⟩

theorem alloc_size (w : World) (o : Obj) : (w.alloc o).heap.size = w.heap.size + 1 := by simp
def i64 (n : Int) : Prop := -9223372036854775808 ≤ n ∧ n ≤ 9223372036854775807

/-- The bytes of a text. -/
def L (s : ByteArray) : List UInt8 := s.data.toList
theorem L_len (s : ByteArray) : (L s).length = s.size := by unfold L; simp
theorem L_inj {a b : ByteArray} (h : L a = L b) : a = b := by
  unfold L at h; cases a; cases b; simp at h; rw [h]
theorem L_app (a b : ByteArray) : L (a ++ b) = L a ++ L b := by unfold L; simp
theorem ne_list {a b : ByteArray} (h : ¬ a = b) : ¬ a.toList = b.toList := by
  intro e
  rw [Lib.toList_data, Lib.toList_data] at e
  exact h (L_inj e)
theorem ne_beq {a b : ByteArray} (h : ¬ a = b) : (a.toList == b.toList) = false := by simpa using ne_list h

end Go.Proofs.Ytnglpkfkepfkkaa

/- Floats that hold whole numbers: their words read back as these numbers; sums, differences, comparisons and conversions of them are those of the numbers. Conditions: the numbers are below 2^53. -/
namespace Go.Proofs.Ytnglpkfkepfkkaa.Flo
open Ieee
/-- One, in units of 2^-1074. -/
def U : Int := 2 ^ 1074
attribute [irreducible] U

/-- The word x is the float of the whole number n. -/
def IsInt (x : Nat) (n : Int) : Prop := ∃ s m e, double.read x = .number s m e ∧ -1074 ≤ e ∧ e ≤ 0 ∧ signed s m (e + 1074).toNat = n * U

/-- The word x is a number of value v, in units of 2^-1074. -/
def Val (x : Nat) (v : Int) : Prop := ∃ s m e, double.read x = .number s m e ∧ -1074 ≤ e ∧ signed s m (e + 1074).toNat = v

theorem IsInt.val {x : Nat} {n : Int} (h : IsInt x n) : Val x (n * U) := by
  obtain ⟨s, m, e, h1, h2, _, h4⟩ := h; exact ⟨s, m, e, h1, h2, h4⟩

end Go.Proofs.Ytnglpkfkepfkkaa.Flo

/- What each function of the stamp layer, and of the document's answer for it, gives. -/
namespace Go.Proofs.Ytnglpkfkepfkkaa
open Go.RowKit

def rightB (C D : Int) : Bool := decide (0 ≤ C ∧ C ≤ 1099511627776 ∧ 0 ≤ D ∧ D < 12)
theorem rightB_of {C D : Int} {b : Bool} (h : b = true ↔ (0 ≤ C ∧ C ≤ 1099511627776 ∧ 0 ≤ D ∧ D < 12)) : Value.bool b = .bool (rightB C D) := by
  unfold rightB; congr 1; rw [Bool.eq_iff_iff, h, decide_eq_true_iff]




theorem stRefRight_any (C D : Int) (w : World) : Calls Try.prog 50 #[.agg #[.int .i64 C, .int .i64 D]] w fun e w' => e = .returned (.bool (rightB C D)) ∧ Below w.heap.size w w' := by
  by_cases h : 0 ≤ C ∧ C ≤ 1099511627776 ∧ 0 ≤ D ∧ D < 12
  · obtain ⟨h1, h2, h3, h4⟩ := h
    go_enter Try.func50, Try.ntmps50
    go_wp2
    go_ret
    exact ⟨ret_of (rightB_of (by simp; omega)), by go_grown⟩
  · go_enter Try.func50, Try.ntmps50
    go_wp2
    all_goals go_ret
    all_goals exact ⟨ret_of (rightB_of (by simp; omega)), by go_grown⟩

end Go.Proofs.Ytnglpkfkepfkkaa

/- What From, Next and Before give. -/
namespace Go.Proofs.Ytnglpkfkepfkkaa
open Go.RowKit
theorem rightB_iff {C D : Int} : rightB C D = true ↔ (0 ≤ C ∧ C ≤ 1099511627776 ∧ 0 ≤ D ∧ D < 12) := by unfold rightB; exact decide_eq_true_iff

end Go.Proofs.Ytnglpkfkepfkkaa

/- Names, digits and twins as lists of bytes. -/
namespace Go.Proofs.Ytnglpkfkepfkkaa.Nam
open Go.Lib (decDigits decDigits_one)

def okB (b : UInt8) : Bool := decide (33 ≤ b.toNat ∧ b.toNat ≤ 125 ∧ b.toNat ≠ 47)
/-- Is it a name? -/
def isName (l : List UInt8) : Bool := decide (1 ≤ l.length ∧ l.length ≤ 16) && l.all okB

theorem isName_len {l : List UInt8} (h : isName l = true) : 1 ≤ l.length ∧ l.length ≤ 16 := by
  unfold isName at h; simp at h; exact h.1
theorem isName_at {l : List UInt8} (h : isName l = true) (i : Nat) (hi : i < l.length) : 33 ≤ l[i].toNat ∧ l[i].toNat ≤ 125 ∧ l[i].toNat ≠ 47 := by
  unfold isName at h
  rw [Bool.and_eq_true, List.all_eq_true] at h
  exact of_decide_eq_true (h.2 l[i] (List.getElem_mem hi))
theorem isName_short {l : List UInt8} (h : ¬ (1 ≤ l.length ∧ l.length ≤ 16)) : isName l = false := by
  unfold isName; rw [decide_eq_false h]; rfl
theorem isName_bad {l : List UInt8} (i : Nat) (hi : i < l.length) (h : ¬ (33 ≤ l[i].toNat ∧ l[i].toNat ≤ 125 ∧ l[i].toNat ≠ 47)) : isName l = false := by
  cases e : isName l
  · rfl
  · exact absurd (isName_at e i hi) h
theorem isName_of {l : List UInt8} (h1 : 1 ≤ l.length ∧ l.length ≤ 16) (h2 : ∀ b ∈ l, okB b = true) : isName l = true := by
  unfold isName; rw [decide_eq_true h1, List.all_eq_true.2 h2]; rfl

def isDig (b : UInt8) : Bool := decide (48 ≤ b.toNat ∧ b.toNat ≤ 57)
/-- The number of digits. -/
def val (l : List UInt8) : Nat := l.foldl (fun n b => 10 * n + (b.toNat - 48)) 0

/-- The node, below 64, whose digits a text is. -/
def node (l : List UInt8) : Option Nat := if l.all isDig = true ∧ val l < 64 ∧ decDigits (val l) = l then some (val l) else none

end Go.Proofs.Ytnglpkfkepfkkaa.Nam

/- What Right gives, of the program and of the document. -/
namespace Go.Proofs.Ytnglpkfkepfkkaa
open Go.RowKit Nam




theorem name_bad {s : ByteArray} (i : Nat) (hi : i < s.size) (h : ¬ (33 ≤ s[i].toNat ∧ s[i].toNat ≤ 125 ∧ s[i].toNat ≠ 47)) : isName (L s) = false :=
  isName_bad i (by rw [L_len]; exact hi) h
theorem name_short {s : ByteArray} (h : ¬ (1 ≤ s.size ∧ s.size ≤ 16)) : isName (L s) = false := isName_short (by rw [L_len]; exact h)
theorem name_of {s : ByteArray} (h1 : 1 ≤ s.size ∧ s.size ≤ 16) (h2 : ∀ i (h : i < s.size), 33 ≤ s[i].toNat ∧ s[i].toNat ≤ 125 ∧ s[i].toNat ≠ 47) : isName (L s) = true := by
  refine isName_of (by rw [L_len]; exact h1) fun b hb => ?_
  obtain ⟨i, hi, rfl⟩ := List.getElem_of_mem hb
  rw [L_len] at hi
  exact decide_eq_true (h2 i hi)

def good (s : ByteArray) (k : Nat) : Prop := ∀ i (h : i < s.size), i < k → 33 ≤ s[i].toNat ∧ s[i].toNat ≤ 125 ∧ s[i].toNat ≠ 47
theorem good_next {s : ByteArray} {k : Nat} (h : good s k) (hk : k < s.size) (hb : 33 ≤ s[k].toNat ∧ s[k].toNat ≤ 125 ∧ s[k].toNat ≠ 47) : good s (k + 1) := by
  intro i hi hik
  by_cases e : i = k
  · subst e; exact hb
  · exact h i hi (by omega)

set_option maxHeartbeats 1000000 in
theorem nmRefRight_any (s : ByteArray) (w : World) (hs : s.size ≤ 9223372036854775807) : Calls Try.prog 51 #[.string s] w fun e w' => e = .returned (.bool (isName (L s))) ∧ w = w' := by
  go_enter Try.func51, Try.ntmps51
  go_wp2
  go_loop [3] (fun i => ∃ k : Nat, k ≤ s.size ∧ i = .int .i64 k ∧ Hid (good s k)) (fun i => s.size - (intOf i).toNat)
  case atStart => exact ⟨0, Nat.zero_le _, rfl, fun i _ h => absurd h (by omega)⟩
  case round =>
    obtain ⟨k, hk, rfl, hg⟩ := hrel
    by_cases hlt : k < s.size
    · by_cases hb : 33 ≤ s[k].toNat ∧ s[k].toNat ≤ 125 ∧ s[k].toNat ≠ 47
      · have HG := Lib.hid (good_next hg.out hlt hb)
        obtain ⟨hb1, hb2, hb3⟩ := hb
        have hb4 : ((s[k].toNat : Int) == 47) = false := by simp; omega
        go_wp2
        go_round
        case rel => exact ⟨k + 1, by omega, by go_num, HG.out⟩
        case measure => simp [intOf]; omega
      · have HN := Lib.hid (name_bad k hlt hb)
        by_cases hb1 : s[k].toNat < 33
        · clear hb
          go_wp2
          go_ret
          exact ⟨ret_bool HN.out, rfl⟩
        · by_cases hb2 : 125 < s[k].toNat
          · clear hb
            go_wp2
            go_ret
            exact ⟨ret_bool HN.out, rfl⟩
          · have hb3 : ((s[k].toNat : Int) == 47) = true := by simp; omega
            clear hb
            go_wp2
            go_ret
            exact ⟨ret_bool HN.out, rfl⟩
    · obtain rfl : k = s.size := by omega
      by_cases h0 : s.size = 0
      · have HN := Lib.hid (name_short (s := s) (by omega))
        go_wp2
        go_ret
        exact ⟨ret_bool HN.out, rfl⟩
      · by_cases h16 : 16 < s.size
        · have HN := Lib.hid (name_short (s := s) (by omega))
          go_wp2
          go_ret
          exact ⟨ret_bool (HN.out.trans (decide_eq_false (by omega)).symm), rfl⟩
        · have HN := Lib.hid (name_of (s := s) (by omega) (fun i h => hg.out i h h))
          go_wp2
          go_ret
          exact ⟨ret_bool (HN.out.trans (decide_eq_true (by omega)).symm), rfl⟩

end Go.Proofs.Ytnglpkfkepfkkaa

/- What Right gives, of the program and of the document: layer op. -/
namespace Go.Proofs.Ytnglpkfkepfkkaa
open Go.RowKit Nam

def atB (C D : Int) : Bool := decide (1 ≤ C ∧ C ≤ 1099511627776 ∧ 0 ≤ D ∧ D < 12)
def cntB (n : Int) : Bool := decide (1 ≤ n ∧ n ≤ 1099511627776)
def mvB (K U : Int) : Bool := decide (2 ≤ K ∧ K < 64 ∧ 0 ≤ U ∧ U < 64 ∧ K ≠ U)
def opB (C D I M K U : Int) (s : ByteArray) : Bool := atB C D && (cntB I && (cntB M && (mvB K U && isName (L s))))
theorem atB_wrong {C D : Int} (h : rightB C D = false) : atB C D = false := by
  unfold rightB at h; unfold atB; rw [decide_eq_false_iff_not] at h ⊢; omega

theorem opB_wrong {C D I M K U : Int} {s : ByteArray} (h : rightB C D = false) : opB C D I M K U s = false := by
  unfold opB; rw [atB_wrong h]; rfl
theorem opB_out {C D I M K U : Int} {s : ByteArray} (h : ¬ (1 ≤ C ∧ 1 ≤ I ∧ I ≤ 1099511627776 ∧ 1 ≤ M ∧ M ≤ 1099511627776 ∧ 2 ≤ K ∧ K < 64 ∧ 0 ≤ U ∧ U < 64 ∧ K ≠ U)) : opB C D I M K U s = false := by
  unfold opB atB cntB mvB
  rw [Bool.eq_false_iff]; intro e
  simp only [Bool.and_eq_true, decide_eq_true_iff] at e
  omega
theorem opB_in {C D I M K U : Int} {s : ByteArray} (h0 : rightB C D = true) (h : 1 ≤ C ∧ 1 ≤ I ∧ I ≤ 1099511627776 ∧ 1 ≤ M ∧ M ≤ 1099511627776 ∧ 2 ≤ K ∧ K < 64 ∧ 0 ≤ U ∧ U < 64 ∧ K ≠ U) : opB C D I M K U s = isName (L s) := by
  have h0 := rightB_iff.1 h0
  unfold opB atB cntB mvB
  rw [decide_eq_true (by omega), decide_eq_true (by omega), decide_eq_true (by omega), decide_eq_true (by omega)]; simp

set_option maxHeartbeats 4000000 in
theorem opRefRight_any (C D I M K U : Int) (s : ByteArray) (w : World) (hs : s.size ≤ 9223372036854775807) :
    Calls Try.prog 27 #[.agg #[.int .i64 C, .int .i64 D, .int .i64 I, .int .i64 M, .int .i64 K, .int .i64 U, .string s]] w fun e w' => e = .returned (.bool (opB C D I M K U s)) ∧ Below w.heap.size w w' := by
  have c1 := fun w => stRefRight_any C D w
  have H5 := Lib.hid (fun w => nmRefRight_any s w hs)
  cases h0 : rightB C D
  · have HB := Lib.hid (opB_wrong (I := I) (M := M) (K := K) (U := U) (s := s) h0)
    rw [h0] at c1
    have H1 := Lib.hid c1
    clear c1 h0
    go_enter Try.func27, Try.ntmps27
    go_wp2_with (first | (go_at_call 50; (with_reducible refine (H1.out _).mono ?_); rintro e w1 ⟨rfl, hb⟩; obtain ⟨hc, hf⟩ := bcell hb))
    go_ret
    exact ⟨ret_bool HB.out, below_then (below_alloc (Below.refl _ _) _) hb⟩
  · have HB := Lib.hid (fun h => opB_in (I := I) (M := M) (K := K) (U := U) (s := s) h0 h)
    rw [h0] at c1
    have H1 := Lib.hid c1
    clear c1 h0
    by_cases hin : 1 ≤ C ∧ 1 ≤ I ∧ I ≤ 1099511627776 ∧ 1 ≤ M ∧ M ≤ 1099511627776 ∧ 2 ≤ K ∧ K < 64 ∧ 0 ≤ U ∧ U < 64 ∧ K ≠ U
    · have HB := Lib.hid (HB.out hin)
      generalize isName (L s) = x at *
      obtain ⟨h1, h2, h3, h4, h5, h6, h7, h8, h9, h10⟩ := hin
      have h10' : ¬ U = K := fun e => h10 e.symm
      go_enter Try.func27, Try.ntmps27
      go_wp2_with (first | (go_at_call 50; (with_reducible refine (H1.out _).mono ?_); rintro e w1 ⟨rfl, hb⟩; obtain ⟨hc, hf⟩ := bcell hb) | (go_at_call 51; (with_reducible refine (H5.out _).mono ?_); rintro e w2 ⟨rfl, rfl⟩))
      go_ret
      exact ⟨ret_bool (by rw [show (U != K) = true by simpa using h10', Bool.true_and]; exact HB.out), below_then (below_alloc (Below.refl _ _) _) hb⟩
    · have HO := Lib.hid (opB_out (s := s) (D := D) hin)
      have HI := Lib.hid hin
      clear hin
      go_enter Try.func27, Try.ntmps27
      go_wp2_with (first | (go_at_call 50; (with_reducible refine (H1.out _).mono ?_); rintro e w1 ⟨rfl, hb⟩; obtain ⟨hc, hf⟩ := bcell hb) | (go_at_call 51; (with_reducible refine (H5.out _).mono ?_); rintro e w2 ⟨rfl, rfl⟩))
      all_goals go_ret
      all_goals first | exact ⟨ret_bool HO.out, below_then (below_alloc (Below.refl _ _) _) hb⟩ | (have hi := HI.out; have e : (U != K) = false := (by simp; omega); exact ⟨ret_bool (by rw [e]; exact HO.out), below_then (below_alloc (Below.refl _ _) _) hb⟩)
end Go.Proofs.Ytnglpkfkepfkkaa

/- Numbers as bytes: what is written is read, and what is read was written so. -/
namespace Go.Proofs.Ytnglpkfkepfkkaa.Cod

/-- The bytes of u: seven bits each, the lowest first. -/
def enc (u : Nat) : List UInt8 := if u < 128 then [UInt8.ofNat u] else UInt8.ofNat (u % 128 + 128) :: enc (u / 128)
termination_by u
decreasing_by omega

theorem enc_small {u : Nat} (h : u < 128) : enc u = [UInt8.ofNat u] := by rw [enc, if_pos h]
theorem enc_big {u : Nat} (h : 128 ≤ u) : enc u = UInt8.ofNat (u % 128 + 128) :: enc (u / 128) := by rw [enc, if_neg (by omega)]

theorem enc_pos (u : Nat) : 1 ≤ (enc u).length := by
  by_cases h : u < 128
  · rw [enc_small h]; simp
  · rw [enc_big (by omega)]; simp

theorem enc_len (m : Nat) : ∀ u, u < 128 ^ (m + 1) → (enc u).length ≤ m + 1 := by
  induction m with
  | zero => intro u h; rw [enc_small (by simpa using h)]; simp
  | succ m ih =>
    intro u h
    by_cases hu : u < 128
    · rw [enc_small hu]; simp
    · rw [enc_big (by omega), List.length_cons]
      have := ih (u / 128) (by rw [Nat.pow_succ] at h; omega)
      omega

theorem enc_ten (u : Nat) (h : u < 18446744073709551616) : (enc u).length ≤ 10 := enc_len 9 u (by omega)

/-- The number that a list begins with: k bytes of it came already, and are u. -/
def num : List UInt8 → Nat → Nat → Option (Nat × Nat)
  | [], _, _ => none
  | b :: t, k, u =>
    if k = 9 ∧ 1 < b.toNat then none
    else if 128 ≤ b.toNat then num t (k + 1) (u + 2 ^ (7 * k) * (b.toNat % 128))
    else if b.toNat = 0 ∧ 0 < k then none
    else some (u + 2 ^ (7 * k) * b.toNat, k + 1)

theorem two_split (k : Nat) (h : k ≤ 8) : 2 ^ (64 - 7 * k) = 128 * 2 ^ (64 - 7 * (k + 1)) := by
  rw [show 64 - 7 * k = (64 - 7 * (k + 1)) + 7 by omega, Nat.pow_add]
  omega

/-- What is read was written so. -/
theorem num_some : ∀ (l : List UInt8) (k u U K : Nat), k ≤ 9 → num l k u = some (U, K) →
    ∃ V m, U = u + 2 ^ (7 * k) * V ∧ K = k + m ∧ l.take m = enc V ∧ m = (enc V).length ∧ m ≤ l.length ∧ (0 < k → 0 < V) ∧ V < 2 ^ (64 - 7 * k)
  | [], k, u, U, K, _, h => by simp [num] at h
  | b :: t, k, u, U, K, hk, h => by
    have hb := b.toNat_lt
    rw [num] at h
    by_cases h9 : k = 9 ∧ 1 < b.toNat
    · rw [if_pos h9] at h; cases h
    · rw [if_neg h9] at h
      by_cases hm : 128 ≤ b.toNat
      · rw [if_pos hm] at h
        have hk8 : k ≤ 8 := by omega
        obtain ⟨V, m, e1, e2, e3, e4, e5, e6, e7⟩ := num_some t (k + 1) _ U K (by omega) h
        have hV := e6 (by omega)
        have hE : enc (b.toNat % 128 + 128 * V) = b :: enc V := by
          rw [enc_big (by omega), show (b.toNat % 128 + 128 * V) / 128 = V by omega, show (b.toNat % 128 + 128 * V) % 128 + 128 = b.toNat by omega, UInt8.ofNat_toNat]
        refine ⟨b.toNat % 128 + 128 * V, m + 1, ?_, by omega, ?_, ?_, ?_, fun _ => by omega, ?_⟩
        · rw [e1, show 7 * (k + 1) = 7 * k + 7 by omega, Nat.pow_add, Nat.mul_add, Nat.add_assoc, Nat.mul_assoc]
        · rw [List.take_succ_cons, e3, hE]
        · rw [hE, List.length_cons, ← e4]
        · rw [List.length_cons]; omega
        · have h2 := two_split k hk8
          omega
      · rw [if_neg hm] at h
        by_cases h0 : b.toNat = 0 ∧ 0 < k
        · rw [if_pos h0] at h; cases h
        · rw [if_neg h0] at h
          obtain ⟨rfl, rfl⟩ := Prod.mk.inj (Option.some.inj h)
          have hE : enc b.toNat = [b] := by rw [enc_small (by omega), UInt8.ofNat_toNat]
          refine ⟨b.toNat, 1, rfl, rfl, ?_, ?_, by simp, fun hk0 => by omega, ?_⟩
          · rw [hE]; rfl
          · rw [hE]; rfl
          · by_cases e9 : k = 9
            · subst e9; show b.toNat < 2 ^ 1; omega
            · have h2 := two_split k (by omega)
              have : 0 < 2 ^ (64 - 7 * (k + 1)) := Nat.two_pow_pos _
              omega

/-- What is written is read. -/
theorem num_enc (V : Nat) : ∀ (t : List UInt8) (k u : Nat), k ≤ 9 → (0 < k → 0 < V) → V < 2 ^ (64 - 7 * k) → num (enc V ++ t) k u = some (u + 2 ^ (7 * k) * V, k + (enc V).length) := by
  induction V using Nat.strongRecOn with
  | _ V ih =>
    intro t k u hk h0 hV
    by_cases h : V < 128
    · have hv : (UInt8.ofNat V).toNat = V := by rw [UInt8.toNat_ofNat']; omega
      rw [enc_small h, List.singleton_append, num, hv]
      rw [if_neg (by rintro ⟨rfl, h1⟩; have : V < 2 ^ 1 := hV; omega), if_neg (by omega), if_neg (by omega)]
      rfl
    · have hk8 : k ≤ 8 := by
        by_cases e : k = 9
        · subst e; have : V < 2 ^ 1 := hV; omega
        · omega
      have h2 := two_split k hk8
      have hv : (UInt8.ofNat (V % 128 + 128)).toNat = V % 128 + 128 := by rw [UInt8.toNat_ofNat']; omega
      rw [enc_big (by omega), List.cons_append, num, hv]
      rw [if_neg (by omega), if_pos (by omega), ih (V / 128) (by omega) t (k + 1) _ (by omega) (by omega) (by omega)]
      rw [show 7 * (k + 1) = 7 * k + 7 by omega, Nat.pow_add, Nat.mul_assoc, Nat.add_assoc, ← Nat.mul_add, List.length_cons]
      congr 2
      · rw [show (V % 128 + 128) % 128 + 2 ^ 7 * (V / 128) = V by omega]
      · omega

/-- A number's number, and back. -/
def fold (n : Int) : Nat := if n < 0 then (2 * (-1 - n) + 1).toNat else (2 * n).toNat
def unfold (u : Nat) : Int := if u % 2 = 1 then -1 - (u / 2 : Nat) else (u / 2 : Nat)
theorem unfold_fold (n : Int) : unfold (fold n) = n := by
  unfold fold unfold
  by_cases h : n < 0
  · rw [if_pos h, if_pos (by omega)]; omega
  · rw [if_neg h, if_neg (by omega)]; omega
theorem fold_unfold (u : Nat) : fold (unfold u) = u := by
  unfold fold unfold
  by_cases h : u % 2 = 1
  · rw [if_pos h, if_pos (by omega)]; omega
  · rw [if_neg h, if_neg (by omega)]; omega
theorem fold_lt (n : Int) (h1 : -9223372036854775808 ≤ n) (h2 : n ≤ 9223372036854775807) : fold n < 18446744073709551616 := by
  unfold fold; split <;> omega
theorem unfold_bd (u : Nat) (h : u < 18446744073709551616) : -9223372036854775808 ≤ unfold u ∧ unfold u ≤ 9223372036854775807 := by
  unfold unfold; split <;> omega
/-- The bytes of a number. -/
def bytesOf (n : Int) : ByteArray := ⟨(enc (fold n)).toArray⟩
theorem bytesOf_list (n : Int) : (bytesOf n).data.toList = enc (fold n) := rfl
theorem bytesOf_size (n : Int) : (bytesOf n).size = (enc (fold n)).length := rfl

/-- What is read of a list: the number, and how many bytes it has. -/
def rd (l : List UInt8) : Option (Int × Nat) := (num l 0 0).map fun p => (unfold p.1, p.2)
theorem rd_enc (n : Int) (h1 : -9223372036854775808 ≤ n) (h2 : n ≤ 9223372036854775807) (t : List UInt8) : rd (enc (fold n) ++ t) = some (n, (enc (fold n)).length) := by
  have hf := fold_lt n h1 h2
  unfold rd
  rw [num_enc (fold n) t 0 0 (by omega) (fun h => absurd h (by omega)) (by omega)]
  simp [unfold_fold]
theorem rd_some {l : List UInt8} {n : Int} {m : Nat} (h : rd l = some (n, m)) : l.take m = enc (fold n) ∧ m = (enc (fold n)).length ∧ 1 ≤ m ∧ m ≤ 10 ∧ m ≤ l.length ∧ -9223372036854775808 ≤ n ∧ n ≤ 9223372036854775807 := by
  unfold rd at h
  obtain ⟨⟨U, K⟩, h1, h2⟩ := Option.map_eq_some_iff.1 h
  obtain ⟨rfl, rfl⟩ := Prod.mk.inj h2
  obtain ⟨V, m, e1, e2, e3, e4, e5, _, e7⟩ := num_some l 0 0 U K (by omega) h1
  have hU : U = V := by omega
  have hK : K = m := by omega
  subst hU hK
  have hlt : U < 18446744073709551616 := by omega
  have := enc_ten U hlt
  have := enc_pos U
  have := unfold_bd U hlt
  rw [fold_unfold]
  exact ⟨e3, e4, by omega, by omega, e5, this⟩

end Go.Proofs.Ytnglpkfkepfkkaa.Cod

/- The document's Num; Text, Bit, Least of both. -/
namespace Go.Proofs.Ytnglpkfkepfkkaa
open Go.RowKit Cod

theorem dl_inj {a b : ByteArray} (h : a.data.toList = b.data.toList) : a = b := by
  cases a; cases b; simp at h; rw [h]
theorem dl_app (a b : ByteArray) : (a ++ b).data.toList = a.data.toList ++ b.data.toList := by simp
theorem dl_len (a : ByteArray) : a.data.toList.length = a.size := by simp

theorem bytesOf_le (n : Int) (h1 : -9223372036854775808 ≤ n) (h2 : n ≤ 9223372036854775807) : (bytesOf n).size ≤ 10 := by
  rw [bytesOf_size]; exact enc_ten _ (fold_lt n h1 h2)

/-- A text's bytes. -/
def textOf (s : ByteArray) : ByteArray := bytesOf s.size ++ s

end Go.Proofs.Ytnglpkfkepfkkaa

/- A scope with several labels; a reader in memory. -/
namespace Go.Proofs.Ytnglpkfkepfkkaa
open Go.RowKit Cod
section
variable {P : Program} {a : Act} {w : World} {Q : Exit → Act → World → Prop} {J : Nat → Act → World → Prop}
end

/-- In block b lies a reader of type T: its text, where it stands, whether it went wrong. -/
def Rd (T : TypeId) (w : World) (b : Nat) (s : ByteArray) (at_ : Nat) (bad : Bool) : Prop :=
  w.heap[b]? = some (.cells #[.string s, .int .i64 (at_ : Int), .bool bad] T (0, 0))

section
variable {T : TypeId} {w w' : World} {b : Nat} {s : ByteArray} {p : Nat} {bad : Bool}
theorem Rd.lt (h : Rd T w b s p bad) : b < w.heap.size := by
  rcases Nat.lt_or_ge b w.heap.size with hlt | hge
  · exact hlt
  · unfold Rd at h; rw [Array.getElem?_eq_none hge] at h; cases h
theorem Rd.cells (h : Rd T w b s p bad) : w.cell? ⟨b, 0, none⟩ = some (.string s) ∧ w.cell? ⟨b, 1, none⟩ = some (.int .i64 (p : Int)) ∧ w.cell? ⟨b, 2, none⟩ = some (.bool bad) :=
  ⟨cell_of_row w b 0 _ T (0, 0) h, cell_of_row w b 1 _ T (0, 0) h, cell_of_row w b 2 _ T (0, 0) h⟩
theorem Rd.frozen (h : Rd T w b s p bad) (i : Nat) : w.frozen? ⟨b, i, none⟩ = false := by
  unfold Rd at h
  simp [World.frozen?, h]
theorem Rd.new (w : World) (T : TypeId) (s : ByteArray) (p : Int) (h : p = 0) : Rd T (w.alloc (.cells #[.string s, .int .i64 p, .bool false] T)) w.heap.size s 0 false := by
  subst h; exact heap_alloc_new w _
theorem Rd.drewN (h : Rd T w b s p bad) (n : Nat) : Rd T (w.drewN n) b s p bad := h
theorem Rd.keep {row : Option Nat} (h : Rd T w b s p bad) (hg : w.grownBy w' row) (hne : some b ≠ row) : Rd T w' b s p bad := (hg.block b h.lt hne).trans h
theorem Rd.below (h : Rd T w b s p bad) (hg : Below w.heap.size w w') : Rd T w' b s p bad := (hg.block b h.lt).trans h
end
end Go.Proofs.Ytnglpkfkepfkkaa

/- What Print gives, of the program and of the document: layer op. -/
namespace Go.Proofs.Ytnglpkfkepfkkaa
open Go.RowKit Cod

structure Wide (C D I M K U : Int) : Prop where
  c : i64 C
  d : i64 D
  i : i64 I
  m : i64 M
  k : i64 K
  u : i64 U
def printOf (C D I M K U : Int) (s : ByteArray) : ByteArray := bytesOf C ++ bytesOf D ++ bytesOf I ++ bytesOf M ++ bytesOf K ++ bytesOf U ++ textOf s

/-- In block b lies an operation. -/
def OpIn (w : World) (b : Nat) (C D I M K U : Int) (s : ByteArray) : Prop :=
  w.heap[b]? = some (.cells #[.int .i64 C, .int .i64 D, .int .i64 I, .int .i64 M, .int .i64 K, .int .i64 U, .string s] 64 (0, 0))
section
variable {w w' : World} {b : Nat} {C D I M K U : Int} {s : ByteArray}
theorem OpIn.lt (h : OpIn w b C D I M K U s) : b < w.heap.size := by
  rcases Nat.lt_or_ge b w.heap.size with hlt | hge
  · exact hlt
  · unfold OpIn at h; rw [Array.getElem?_eq_none hge] at h; cases h
theorem OpIn.cells (h : OpIn w b C D I M K U s) : w.cell? ⟨b, 0, none⟩ = some (.int .i64 C) ∧ w.cell? ⟨b, 1, none⟩ = some (.int .i64 D) ∧ w.cell? ⟨b, 2, none⟩ = some (.int .i64 I) ∧ w.cell? ⟨b, 3, none⟩ = some (.int .i64 M) ∧ w.cell? ⟨b, 4, none⟩ = some (.int .i64 K) ∧ w.cell? ⟨b, 5, none⟩ = some (.int .i64 U) ∧ w.cell? ⟨b, 6, none⟩ = some (.string s) :=
  ⟨cell_of_row w b 0 _ 64 (0, 0) h, cell_of_row w b 1 _ 64 (0, 0) h, cell_of_row w b 2 _ 64 (0, 0) h, cell_of_row w b 3 _ 64 (0, 0) h, cell_of_row w b 4 _ 64 (0, 0) h, cell_of_row w b 5 _ 64 (0, 0) h, cell_of_row w b 6 _ 64 (0, 0) h⟩
theorem OpIn.frozen (h : OpIn w b C D I M K U s) (i : Nat) : w.frozen? ⟨b, i, none⟩ = false := by
  unfold OpIn at h
  simp [World.frozen?, h]
theorem OpIn.new (w : World) (C D I M K U : Int) (s : ByteArray) : OpIn (w.alloc (.cells #[.int .i64 C, .int .i64 D, .int .i64 I, .int .i64 M, .int .i64 K, .int .i64 U, .string s] 64)) w.heap.size C D I M K U s := heap_alloc_new w _
theorem OpIn.below (h : OpIn w b C D I M K U s) (hg : Below w.heap.size w w') : OpIn w' b C D I M K U s := (hg.block b h.lt).trans h
theorem OpIn.keep {row : Option Nat} (h : OpIn w b C D I M K U s) (hg : w.grownBy w' row) (hne : some b ≠ row) : OpIn w' b C D I M K U s := (hg.block b h.lt hne).trans h
end
end Go.Proofs.Ytnglpkfkepfkkaa

/- An operation in a block: stored, loaded, handed back whole. -/
namespace Go.Proofs.Ytnglpkfkepfkkaa
open Go.RowKit Cod
theorem OpIn.set {w : World} {b : Nat} {C D I M K U : Int} {s : ByteArray} (h : OpIn w b C D I M K U s) (C' D' I' M' K' U' : Int) (s' : ByteArray) : OpIn (w.setRow b #[.int .i64 C', .int .i64 D', .int .i64 I', .int .i64 M', .int .i64 K', .int .i64 U', .string s']) b C' D' I' M' K' U' s' := setRow_heap _ _ _ _ _ _ h

theorem OpIn.alloc {w : World} {b : Nat} {C D I M K U : Int} {s : ByteArray} (h : OpIn w b C D I M K U s) (o : Obj) : OpIn (w.alloc o) b C D I M K U s := h.below (below_alloc (Below.refl _ _) o)

end Go.Proofs.Ytnglpkfkepfkkaa

/- Num of both Readers, in two words: what comes, or that nothing comes. -/
namespace Go.Proofs.Ytnglpkfkepfkkaa
open Go.RowKit Cod
/-- It went wrong already, or nothing comes: the zero value. -/
def No (T : TypeId) (b : Nat) (s : ByteArray) (w : World) (z : Value) (e : Ending) (w' : World) : Prop :=
  e = .returned z ∧ (∃ q, q ≤ s.size ∧ Rd T w' b s q true) ∧ w.grownBy w' (some b)
theorem list_len (s : ByteArray) (p : Nat) : (s.data.toList.drop p).length = s.size - p := by simp

section
variable {T : TypeId} {b : Nat} {s : ByteArray} {p : Nat} {w : World} {bad : Bool}
/-- The number that stands at p, and what stands behind it. -/
def isNum (s : ByteArray) (p : Nat) (bad : Bool) : Option (Int × Nat) := if bad then none else (rd (s.data.toList.drop p)).map fun x => (x.1, p + x.2)
theorem isNum_some {n : Int} {q : Nat} (h : isNum s p bad = some (n, q)) : bad = false ∧ (∃ m, rd (s.data.toList.drop p) = some (n, m) ∧ q = p + m) ∧ q ≤ s.size ∧ p < q ∧ -9223372036854775808 ≤ n ∧ n ≤ 9223372036854775807 := by
  unfold isNum at h
  cases bad
  · obtain ⟨⟨n', m⟩, h1, h2⟩ := Option.map_eq_some_iff.1 h
    obtain ⟨rfl, rfl⟩ := Prod.mk.inj h2
    obtain ⟨_, _, k1, _, k2, k3, k4⟩ := rd_some h1
    rw [list_len] at k2
    exact ⟨rfl, ⟨m, h1, rfl⟩, by show p + m ≤ _; omega, by show p < p + m; omega, k3, k4⟩
  · cases h
end

end Go.Proofs.Ytnglpkfkepfkkaa

/- Count and Bool of both Readers. -/
namespace Go.Proofs.Ytnglpkfkepfkkaa
open Go.RowKit Cod

/-- The number from 0 to most that stands at p. -/
def isCount (s : ByteArray) (p : Nat) (bad : Bool) (most : Int) : Option (Int × Nat) :=
  match isNum s p bad with
  | some (n, q) => if 0 ≤ n ∧ n ≤ most then some (n, q) else none
  | none => none

section
variable {b : Nat} {s : ByteArray} {p : Nat} {w : World} {bad : Bool}
theorem isCount_some {most n : Int} {q : Nat} (h : isCount s p bad most = some (n, q)) : isNum s p bad = some (n, q) ∧ 0 ≤ n ∧ n ≤ most := by
  unfold isCount at h
  split at h
  · rename_i n' q' h1
    split at h
    · rename_i h2
      obtain ⟨rfl, rfl⟩ := Prod.mk.inj (Option.some.inj h)
      exact ⟨h1, h2⟩
    · cases h
  · cases h
end

end Go.Proofs.Ytnglpkfkepfkkaa

/- Text and Done of both Readers. -/
namespace Go.Proofs.Ytnglpkfkepfkkaa
open Go.RowKit Cod

/-- The text that stands at p. -/
def isText (s : ByteArray) (p : Nat) (bad : Bool) (most : Int) : Option (ByteArray × Nat) :=
  match isCount s p bad most with
  | some (n, q) => if n.toNat + q ≤ s.size then some (s.extract q (q + n.toNat), q + n.toNat) else none
  | none => none

section
variable {b : Nat} {s : ByteArray} {p : Nat} {w : World} {bad : Bool}
theorem isText_some {most : Int} {t : ByteArray} {e : Nat} (h : isText s p bad most = some (t, e)) : ∃ n q : Nat, isCount s p bad most = some ((n : Int), q) ∧ n + q ≤ s.size ∧ t = s.extract q (q + n) ∧ e = q + n := by
  unfold isText at h
  split at h
  · rename_i n' q' h1
    split at h
    · rename_i h2
      obtain ⟨rfl, rfl⟩ := Prod.mk.inj (Option.some.inj h)
      obtain ⟨_, h3, _⟩ := isCount_some h1
      exact ⟨n'.toNat, q', by rw [Int.toNat_of_nonneg h3]; exact h1, h2, rfl, rfl⟩
    · cases h
  · cases h
end

end Go.Proofs.Ytnglpkfkepfkkaa

/- A number, a text read, whatever the reader's state; small steps on worlds. -/
namespace Go.Proofs.Ytnglpkfkepfkkaa
open Go.RowKit Cod

def numStep (s : ByteArray) (p : Nat) (bad : Bool) (v : Int) (q : Nat) (bad' : Bool) : Prop := (isNum s p bad = some (v, q) ∧ bad' = false) ∨ (isNum s p bad = none ∧ v = 0 ∧ bad' = true)
def textStep (s : ByteArray) (p : Nat) (bad : Bool) (v : ByteArray) (q : Nat) (bad' : Bool) : Prop := (isText s p bad 16 = some (v, q) ∧ bad' = false) ∨ (isText s p bad 16 = none ∧ v = ⟨#[]⟩ ∧ bad' = true)
theorem isNum_bad (s : ByteArray) (p : Nat) : isNum s p true = none := rfl
theorem isText_bad (s : ByteArray) (p : Nat) (m : Int) : isText s p true m = none := by
  rcases h : isText s p true m with _ | ⟨t, e⟩
  · rfl
  · obtain ⟨n, q, h1, _⟩ := isText_some h
    have := (isCount_some h1).1
    rw [isNum_bad] at this; cases this
theorem numStep.good {s : ByteArray} {p : Nat} {bad : Bool} {v : Int} {q : Nat} (h : numStep s p bad v q false) : bad = false ∧ isNum s p false = some (v, q) := by
  rcases h with ⟨h, _⟩ | ⟨_, _, h⟩
  · cases bad
    · exact ⟨rfl, h⟩
    · rw [isNum_bad] at h; cases h
  · cases h
theorem numStep.back {s : ByteArray} {p : Nat} {bad : Bool} {v : Int} {q : Nat} (h : numStep s p bad v q false) : isNum s p bad = some (v, q) := by
  rcases h with ⟨h, _⟩ | ⟨_, _, h⟩
  · exact h
  · cases h
theorem textStep.good {s : ByteArray} {p : Nat} {bad : Bool} {v : ByteArray} {q : Nat} (h : textStep s p bad v q false) : bad = false ∧ isText s p false 16 = some (v, q) := by
  rcases h with ⟨h, _⟩ | ⟨_, _, h⟩
  · cases bad
    · exact ⟨rfl, h⟩
    · rw [isText_bad] at h; cases h
  · cases h
section
variable {w a : World} {b : Nat} {s : ByteArray}
theorem Rd.other {T : TypeId} {q : Nat} {bad : Bool} (h : Rd T w b s q bad) (n i : Nat) (v : Value) (hne : b ≠ n) : Rd T (w.setCell ⟨n, i, none⟩ v) b s q bad :=
  (Below.heap_setCell w ⟨n, i, none⟩ v b hne).trans h
theorem Rd.row {T : TypeId} {q : Nat} {bad : Bool} (h : Rd T w b s q bad) (n : Nat) (cs : Array Value) (hne : b ≠ n) : Rd T (w.setRow n cs) b s q bad := (setRow_other w n b cs hne).trans h
end
end Go.Proofs.Ytnglpkfkepfkkaa

/- What Read gives, of the program and of the document: layer op. -/
namespace Go.Proofs.Ytnglpkfkepfkkaa
open Go.RowKit Nam Cod

structure Mv where
  C : Int
  D : Int
  I : Int
  M : Int
  K : Int
  U : Int
  s : ByteArray
def zeroMv : Mv := ⟨0, 0, 0, 0, 0, 0, ⟨#[]⟩⟩
def isOp (s : ByteArray) (p : Nat) (bad : Bool) : Option (Mv × Nat) :=
  (isNum s p bad).bind fun a => (isNum s a.2 false).bind fun b => (isNum s b.2 false).bind fun c => (isNum s c.2 false).bind fun d => (isNum s d.2 false).bind fun e => (isNum s e.2 false).bind fun f => (isText s f.2 false 16).bind fun g =>
    if opB a.1 b.1 c.1 d.1 e.1 f.1 g.1 = true then some (⟨a.1, b.1, c.1, d.1, e.1, f.1, g.1⟩, g.2) else none
/-- The seven steps, one behind the other. -/
structure Steps7 (s : ByteArray) (p : Nat) (bad : Bool) (C D I M K U : Int) (t : ByteArray) (q7 : Nat) (b7 : Bool) : Prop where
  all : ∃ q1 q2 q3 q4 q5 q6 b1 b2 b3 b4 b5 b6, numStep s p bad C q1 b1 ∧ numStep s q1 b1 D q2 b2 ∧ numStep s q2 b2 I q3 b3 ∧ numStep s q3 b3 M q4 b4 ∧ numStep s q4 b4 K q5 b5 ∧ numStep s q5 b5 U q6 b6 ∧ textStep s q6 b6 t q7 b7
theorem Steps7.good {s : ByteArray} {p : Nat} {bad : Bool} {C D I M K U : Int} {t : ByteArray} {q7 : Nat} (h : Steps7 s p bad C D I M K U t q7 false) : isOp s p bad = if opB C D I M K U t = true then some (⟨C, D, I, M, K, U, t⟩, q7) else none := by
  obtain ⟨q1, q2, q3, q4, q5, q6, b1, b2, b3, b4, b5, b6, h1, h2, h3, h4, h5, h6, h7⟩ := h.all
  obtain ⟨e7, g7⟩ := h7.good
  subst e7
  obtain ⟨e6, g6⟩ := h6.good
  subst e6
  obtain ⟨e5, g5⟩ := h5.good
  subst e5
  obtain ⟨e4, g4⟩ := h4.good
  subst e4
  obtain ⟨e3, g3⟩ := h3.good
  subst e3
  obtain ⟨e2, g2⟩ := h2.good
  subst e2
  have g1 := h1.back
  unfold isOp
  simp only [g1, g2, g3, g4, g5, g6, g7, Option.bind_some]
section
variable {w a : World} {b : Nat} {C D I M K U : Int} {s : ByteArray}
theorem OpIn.other (h : OpIn w b C D I M K U s) (n i : Nat) (v : Value) (hne : b ≠ n) : OpIn (w.setCell ⟨n, i, none⟩ v) b C D I M K U s :=
  (Below.heap_setCell w ⟨n, i, none⟩ v b hne).trans h
end

end Go.Proofs.Ytnglpkfkepfkkaa

/- What Parse gives, of the program and of the document: layer op. -/
namespace Go.Proofs.Ytnglpkfkepfkkaa
open Go.RowKit Nam Cod
def Mv.val (o : Mv) : Value := .agg #[.int .i64 o.C, .int .i64 o.D, .int .i64 o.I, .int .i64 o.M, .int .i64 o.K, .int .i64 o.U, .string o.s]

end Go.Proofs.Ytnglpkfkepfkkaa

/- Numbers, a text and a bool, one behind the other: what stands where. -/
namespace Go.Proofs.Ytnglpkfkepfkkaa
open Go.RowKit Cod

theorem drop_of (A R : ByteArray) : (A ++ R).data.toList.drop A.size = R.data.toList := by
  rw [dl_app, ← dl_len A]; exact List.drop_left' rfl

theorem num_there (A Z : ByteArray) (n : Int) (h1 : -9223372036854775808 ≤ n) (h2 : n ≤ 9223372036854775807) : isNum (A ++ (bytesOf n ++ Z)) A.size false = some (n, A.size + (bytesOf n).size) := by
  unfold isNum
  rw [drop_of, dl_app, bytesOf_list, rd_enc n h1 h2, bytesOf_size]
  rfl

theorem count_there (A Z : ByteArray) (n most : Int) (h0 : 0 ≤ n) (h1 : n ≤ most) (h2 : n ≤ 9223372036854775807) : isCount (A ++ (bytesOf n ++ Z)) A.size false most = some (n, A.size + (bytesOf n).size) := by
  unfold isCount
  rw [num_there A Z n (by omega) h2]
  exact if_pos ⟨h0, h1⟩

theorem ext_there (A s Z : ByteArray) : (A ++ (s ++ Z)).extract A.size (A.size + s.size) = s := by
  apply dl_inj
  rw [ByteArray.data_extract, Array.toList_extract, List.extract_eq_take_drop, drop_of, dl_app]
  rw [Nat.add_sub_cancel_left, ← dl_len s]
  exact List.take_left' rfl

theorem text_there (A s Z : ByteArray) (most : Int) (h : (s.size : Int) ≤ most) (hs : s.size ≤ 1000000) : isText (A ++ (textOf s ++ Z)) A.size false most = some (s, A.size + (textOf s).size) := by
  unfold textOf isText
  rw [ByteArray.append_assoc, count_there A _ s.size most (by omega) h (by omega)]
  have e : A ++ (bytesOf s.size ++ (s ++ Z)) = (A ++ bytesOf s.size) ++ (s ++ Z) := by rw [ByteArray.append_assoc]
  have e2 : A.size + (bytesOf s.size).size = (A ++ bytesOf s.size).size := by rw [ByteArray.size_append]
  simp only [Int.toNat_natCast]
  have e3 : (s ++ Z).size = s.size + Z.size := ByteArray.size_append
  rw [if_pos (by rw [e, ByteArray.size_append, e2, e3]; omega), e2, e, ext_there, ByteArray.size_append, ByteArray.size_append, Nat.add_assoc]

/-- The first k numbers, one behind the other. -/
def catF (f : Nat → Int) : Nat → ByteArray
  | 0 => ⟨#[]⟩
  | k + 1 => catF f k ++ bytesOf (f k)
def Fits (f : Nat → Int) (n : Nat) : Prop := ∀ j, j < n → -9223372036854775808 ≤ f j ∧ f j ≤ 9223372036854775807
theorem cat_le (f : Nat → Int) (n : Nat) (h : Fits f n) : ∀ k, k ≤ n → (catF f k).size ≤ 10 * k
  | 0, _ => Nat.le_refl 0
  | k + 1, hk => by
    have h1 := cat_le f n h k (by omega)
    have h2 := h k (by omega)
    have h3 := bytesOf_le (f k) h2.1 h2.2
    rw [catF, ByteArray.size_append]; omega
end Go.Proofs.Ytnglpkfkepfkkaa

/- An operation's bytes are read as it was; what is read has just these bytes; the document's examples hold. -/
namespace Go.Proofs.Ytnglpkfkepfkkaa
open Go.RowKit Nam Cod

theorem opB_wide {C D I M K U : Int} {s : ByteArray} (h : opB C D I M K U s = true) : Wide C D I M K U ∧ 1 ≤ C ∧ s.size ≤ 16 ∧ 1 ≤ s.size := by
  unfold opB atB cntB mvB at h
  simp only [Bool.and_eq_true, decide_eq_true_iff] at h
  have hl := isName_len h.2.2.2.2
  rw [L_len] at hl
  exact ⟨⟨⟨by omega, by omega⟩, ⟨by omega, by omega⟩, ⟨by omega, by omega⟩, ⟨by omega, by omega⟩, ⟨by omega, by omega⟩, ⟨by omega, by omega⟩⟩, by omega, by omega, by omega⟩

theorem num_at (X A Z : ByteArray) (n : Int) (p : Nat) (hX : X = A ++ (bytesOf n ++ Z)) (hp : p = A.size) (h : i64 n) : isNum X p false = some (n, p + (bytesOf n).size) := by
  subst hX hp; exact num_there A Z n h.1 h.2

theorem op_there (A Z : ByteArray) (C D I M K U : Int) (s : ByteArray) (h : opB C D I M K U s = true) :
    isOp (A ++ (printOf C D I M K U s ++ Z)) A.size false = some (⟨C, D, I, M, K, U, s⟩, A.size + (printOf C D I M K U s).size) := by
  obtain ⟨⟨c, d, i, m, k, u⟩, _, hs, _⟩ := opB_wide h
  unfold printOf
  have assoc : ∀ x y z : ByteArray, x ++ y ++ z = x ++ (y ++ z) := fun x y z => ByteArray.append_assoc
  have h1 := num_at (A ++ (bytesOf C ++ bytesOf D ++ bytesOf I ++ bytesOf M ++ bytesOf K ++ bytesOf U ++ textOf s ++ Z)) A (bytesOf D ++ bytesOf I ++ bytesOf M ++ bytesOf K ++ bytesOf U ++ textOf s ++ Z) C A.size (by simp only [assoc]) rfl c
  have h2 := num_at (A ++ (bytesOf C ++ bytesOf D ++ bytesOf I ++ bytesOf M ++ bytesOf K ++ bytesOf U ++ textOf s ++ Z)) (A ++ bytesOf C) (bytesOf I ++ bytesOf M ++ bytesOf K ++ bytesOf U ++ textOf s ++ Z) D (A.size + (bytesOf C).size) (by simp only [assoc]) (by rw [ByteArray.size_append]) d
  have h3 := num_at (A ++ (bytesOf C ++ bytesOf D ++ bytesOf I ++ bytesOf M ++ bytesOf K ++ bytesOf U ++ textOf s ++ Z)) (A ++ bytesOf C ++ bytesOf D) (bytesOf M ++ bytesOf K ++ bytesOf U ++ textOf s ++ Z) I (A.size + (bytesOf C).size + (bytesOf D).size) (by simp only [assoc]) (by simp only [ByteArray.size_append]) i
  have h4 := num_at (A ++ (bytesOf C ++ bytesOf D ++ bytesOf I ++ bytesOf M ++ bytesOf K ++ bytesOf U ++ textOf s ++ Z)) (A ++ bytesOf C ++ bytesOf D ++ bytesOf I) (bytesOf K ++ bytesOf U ++ textOf s ++ Z) M (A.size + (bytesOf C).size + (bytesOf D).size + (bytesOf I).size) (by simp only [assoc]) (by simp only [ByteArray.size_append]) m
  have h5 := num_at (A ++ (bytesOf C ++ bytesOf D ++ bytesOf I ++ bytesOf M ++ bytesOf K ++ bytesOf U ++ textOf s ++ Z)) (A ++ bytesOf C ++ bytesOf D ++ bytesOf I ++ bytesOf M) (bytesOf U ++ textOf s ++ Z) K (A.size + (bytesOf C).size + (bytesOf D).size + (bytesOf I).size + (bytesOf M).size) (by simp only [assoc]) (by simp only [ByteArray.size_append]) k
  have h6 := num_at (A ++ (bytesOf C ++ bytesOf D ++ bytesOf I ++ bytesOf M ++ bytesOf K ++ bytesOf U ++ textOf s ++ Z)) (A ++ bytesOf C ++ bytesOf D ++ bytesOf I ++ bytesOf M ++ bytesOf K) (textOf s ++ Z) U (A.size + (bytesOf C).size + (bytesOf D).size + (bytesOf I).size + (bytesOf M).size + (bytesOf K).size) (by simp only [assoc]) (by simp only [ByteArray.size_append]) u
  have h7 := text_there (A ++ bytesOf C ++ bytesOf D ++ bytesOf I ++ bytesOf M ++ bytesOf K ++ bytesOf U) s Z 16 (by omega) (by omega)
  rw [show A ++ bytesOf C ++ bytesOf D ++ bytesOf I ++ bytesOf M ++ bytesOf K ++ bytesOf U ++ (textOf s ++ Z) = A ++ (bytesOf C ++ bytesOf D ++ bytesOf I ++ bytesOf M ++ bytesOf K ++ bytesOf U ++ textOf s ++ Z) by simp only [assoc],
    show (A ++ bytesOf C ++ bytesOf D ++ bytesOf I ++ bytesOf M ++ bytesOf K ++ bytesOf U).size = A.size + (bytesOf C).size + (bytesOf D).size + (bytesOf I).size + (bytesOf M).size + (bytesOf K).size + (bytesOf U).size by simp only [ByteArray.size_append]] at h7
  unfold isOp
  simp only [h1, h2, h3, h4, h5, h6, h7, Option.bind_some, h, if_true]
  simp only [ByteArray.size_append, Nat.add_assoc]

theorem num_bytes {s : ByteArray} {p : Nat} {bad : Bool} {n : Int} {q : Nat} (h : isNum s p bad = some (n, q)) : (L s).drop p = L (bytesOf n) ++ (L s).drop q := by
  obtain ⟨_, ⟨m, hr, rfl⟩, _⟩ := isNum_some h
  have h1 := (rd_some hr).1
  show s.data.toList.drop p = enc (fold n) ++ s.data.toList.drop (p + m)
  rw [← h1, ← List.drop_drop, List.take_append_drop]
theorem text_bytes {s : ByteArray} {p : Nat} {bad : Bool} {m : Int} {t : ByteArray} {q : Nat} (h : isText s p bad m = some (t, q)) : (L s).drop p = L (textOf t) ++ (L s).drop q := by
  obtain ⟨n, q0, h1, h2, rfl, rfl⟩ := isText_some h
  have hz : (s.extract q0 (q0 + n)).size = n := by rw [ByteArray.size_extract]; omega
  unfold textOf
  rw [num_bytes (isCount_some h1).1, L_app, hz, List.append_assoc]
  congr 1
  have e : L (s.extract q0 (q0 + n)) = ((L s).drop q0).take n := by
    unfold L
    simp [ByteArray.data_extract, List.extract_eq_take_drop]
  rw [e, ← List.drop_drop, List.take_append_drop]
theorem op_bytes {s : ByteArray} {p : Nat} {bad : Bool} {o : Mv} {q : Nat} (h : isOp s p bad = some (o, q)) : opB o.C o.D o.I o.M o.K o.U o.s = true ∧ (L s).drop p = L (printOf o.C o.D o.I o.M o.K o.U o.s) ++ (L s).drop q := by
  unfold isOp at h
  simp only [Option.bind_eq_some_iff] at h
  obtain ⟨⟨a1, p1⟩, h1, ⟨a2, p2⟩, h2, ⟨a3, p3⟩, h3, ⟨a4, p4⟩, h4, ⟨a5, p5⟩, h5, ⟨a6, p6⟩, h6, ⟨a7, p7⟩, h7, h8⟩ := h
  simp only at h1 h2 h3 h4 h5 h6 h7 h8
  by_cases hb : opB a1 a2 a3 a4 a5 a6 a7 = true
  · rw [if_pos hb] at h8
    cases h8
    refine ⟨hb, ?_⟩
    unfold printOf
    simp only [L_app, List.append_assoc]
    rw [num_bytes h1, num_bytes h2, num_bytes h3, num_bytes h4, num_bytes h5, num_bytes h6, text_bytes h7]
  · rw [if_neg hb] at h8; cases h8
end Go.Proofs.Ytnglpkfkepfkkaa

/- The frame of a law that reads its arguments, makes memory of its own, and answers true: its row's end, out of 'Below' alone. -/
namespace Go.Proofs.Ytnglpkfkepfkkaa.Frm
open Go.ChangeShapes Go.WideShapes Go.ChangeAt Go.RowKit

section
variable {H : Type} {enc : TypeId × Value → H} {P : Program}

/-- Each type of a list can be read, and is a row of the table. -/
def rowed (P : Program) (ts : List TypeId) : Bool := ts.all fun t => P.readableRec t && decide (t < P.types.size)

theorem trodAll_below (hl : laidOutB P = true) {W W' : World} (hb : Below W.heap.size W W') (sp : Nat → Bool) :
    ∀ {ts : List TypeId} {vs : List Value} {ds : List (DataW H)} {ps : List MemPlace}, rowed P ts = true → DataW.TrodAll enc P W 0 (fun _ => true) true ts vs ds ps → (∀ p ∈ ps, p.block < W.heap.size) → (∀ p ∈ ps, sp p.block = true) →
      DataW.TrodAll enc P W' 0 sp true ts vs ds ps
  | [], [], [], _, _, h, _, _ => h
  | [], [], _ :: _, _, _, h, _, _ => h.elim
  | [], _ :: _, _, _, _, h, _, _ => h.elim
  | _ :: _, [], _, _, _, h, _, _ => h.elim
  | _ :: _, _ :: _, [], _, _, h, _, _ => h.elim
  | t :: ts, v :: vs, d :: ds, ps, hr, h, hlt, hsp => by
    obtain ⟨p, q, h1, h2, rfl⟩ := h
    simp only [rowed, List.all_cons, Bool.and_eq_true, decide_eq_true_iff] at hr
    refine ⟨p, q, ?_, trodAll_below hl hb sp (by simpa [rowed] using hr.2) h2 (fun x hx => hlt x (by simp [hx])) (fun x hx => hsp x (by simp [hx])), rfl⟩
    exact WideElems.Trod_stays hl hr.1.1 hr.1.2 h1 (fun x hx => hb.same (hlt x (by simp [hx]))) (fun x hx => hsp x (by simp [hx]))

/-- THE ROW's END: what was there has not turned, the answer is true, the arguments read as they did. -/
theorem law_post {f : Func} {s : ChangeSpec} {apart fresh handsOn again : Bool} {W W' : World} {args : Array Value} {ds gs : List (DataW H)} {before : List MemPlace} {tb : TypeId}
    (hl : laidOutB P = true) (hrow : rowed P f.params.toList = true) (hres : f.resultTypes = #[tb]) (hbool : P.underlying tb = some .bool) (hvars : s.vars = [])
    (hspec : s.fn H ds = { results := [.lit (.bool true)], args := ds })
    (hW : DataW.Whole enc P f.params.toList s.vars apart W args.toList ds gs before) (hb : Below W.heap.size W W') :
    s.post enc P f apart fresh handsOn again W args (.bool true) W' := by
  have hlt : ∀ p ∈ before, p.block < W.heap.size := fun p hp => hW.lt p hp
  have hold : ∀ p ∈ before, (fun b => decide (b < W.heap.size)) p.block = true := fun p hp => by simpa using hlt p hp
  obtain ⟨p, q, hA, hV, hpq, hfz, hnd⟩ := hW
  have hgs : gs = [] ∧ q = [] := by rw [hvars] at hV; exact trodVars_none hV
  obtain ⟨rfl, rfl⟩ := hgs
  rw [List.append_nil] at hpq
  subst hpq
  have hs2 : (s.fn H (ds ++ [])).results = [.lit (.bool true)] := by rw [List.append_nil, hspec]
  have hs3 : (s.fn H (ds ++ [])).args = ds := by rw [List.append_nil, hspec]
  have hs4 : (s.fn H (ds ++ [])).vars = [] := by rw [List.append_nil, hspec]
  have hargs : ∀ sp : Nat → Bool, (∀ p ∈ before, sp p.block = true) → DataW.TrodAll enc P W' 0 sp true f.params.toList args.toList (s.fn H (ds ++ [])).args before := by
    intro sp hsp
    rw [hs3]
    exact trodAll_below hl hb sp hrow hA hlt hsp
  have hR : ∀ (b : Nat) (sp : Nat → Bool) (hd : Bool), DataW.TrodAll enc P W' b sp hd f.resultTypes.toList ((Value.bool true).resultList f.resultTypes.size) (s.fn H (ds ++ [])).results [] := by
    intro b sp hd
    rw [hs2, hres]
    exact trodAll_mk1 (shut_bool hbool true)
  have hvr : ∀ sp : Nat → Bool, DataW.TrodVars enc P W' sp s.vars (s.fn H (ds ++ [])).vars [] := by
    intro sp; rw [hs4, hvars]; rfl
  have hW0 : DataW.Whole enc P f.params.toList s.vars apart W args.toList ds [] before := ⟨before, [], hA, hV, by simp, hfz, hnd⟩
  refine ⟨ds, [], before, [], before, [], hW0, hR _ _ _, hargs _ hold, hvr _, World.keptBut_mono (fun p hp => ⟨hp, by simpa using hp⟩) (hb.frame (· ∈ before)), fun _ => ?_⟩
  refine ⟨ok_one hres rfl (okWide_bool_mk hbool true), _, _, ([] ++ before) ++ [], ⟨[] ++ before, [], trodAll_append (hargs _ (fun _ _ => rfl)) (hR _ _ _), hvr _, rfl, ?_, ?_⟩, ?_⟩
  · intro b off hp
    have hin : MemPlace.cell b off ∈ before := by simpa using hp
    rw [hb.frozen (hlt _ hin)]
    exact hfz b off hin
  · intro ha
    simpa using hnd ha
  · intro p hp _
    simpa using hp

end
end Go.Proofs.Ytnglpkfkepfkkaa.Frm

/- How words and texts among the arguments of the laws are opened. -/
namespace Go.Proofs.Ytnglpkfkepfkkaa
open Go.ChangeShapes Go.WideShapes Go.ChangeAt Go.RowKit Go.Deep

theorem own : ownKnob Try.prog.godebug = none := by kernel_rfl
theorem cells3 : Try.prog.cellsOf 3 = 1 := by kernel_rfl
theorem cells9 : Try.prog.cellsOf 9 = 1 := by kernel_rfl

end Go.Proofs.Ytnglpkfkepfkkaa

/- How the arguments of the laws are opened. -/
namespace Go.Proofs.Ytnglpkfkepfkkaa
open Go.ChangeShapes Go.WideShapes Go.ChangeAt Go.RowKit Go.Deep Nam Cod

theorem cells25 : Try.prog.cellsOf 64 = 7 := by kernel_rfl
theorem cells23 : Try.prog.cellsOf 62 = 2 := by kernel_rfl

set_option maxRecDepth 100000 in
/-- Seven cells that read as an operation. -/
theorem read_op {H : Type} {enc : TypeId × Value → H} {W : World} {base : Nat} {sp : Nat → Bool} {held : Bool} {fuel : Nat} {cs : List Value} {x : DataW H × List MemPlace}
    (h : DataW.trod enc Try.prog W base sp held fuel 64 cs = some x) : ∃ (C D I M K U : Int) (s : ByteArray), cs = [.int .i64 C, .int .i64 D, .int .i64 I, .int .i64 M, .int .i64 K, .int .i64 U, .string s] ∧ Wide C D I M K U ∧ s.size ≤ maxLen := by
  obtain ⟨xs, n, _, _, hl, hlen, hf⟩ := DataW.trod_struct Try.underlying64 h
  have hl7 : cs.length = 7 := hl.trans cells25
  have hl6 : xs.length = 6 := hlen
  match cs, hl7, xs, hl6 with
  | [c0, c1, c2, c3, c4, c5, c6], _, [y0, y1, y2, y3, y4, y5], _ =>
    have h0 := hf 0 _ rfl
    have h1 := hf 1 _ rfl
    have h2 := hf 2 _ rfl
    have h3 := hf 3 _ rfl
    have h4 := hf 4 _ rfl
    have h5 := hf 5 _ rfl
    simp [cells23, cells3, cells9] at h0 h1 h2 h3 h4 h5
    obtain ⟨zs, n', _, _, _, hlen2, hg⟩ := DataW.trod_struct Try.underlying62 h0
    have hl2 : zs.length = 2 := hlen2
    match zs, hl2 with
    | [z0, z1], _ =>
      have g0 := hg 0 _ rfl
      have g1 := hg 1 _ rfl
      simp [cells3] at g0 g1
      obtain ⟨C, e0, _, w0⟩ := DataW.trod_int Try.underlying3 g0
      obtain ⟨D, e1, _, w1⟩ := DataW.trod_int Try.underlying3 g1
      obtain ⟨I, e2, _, w2⟩ := DataW.trod_int Try.underlying3 h1
      obtain ⟨M, e3, _, w3⟩ := DataW.trod_int Try.underlying3 h2
      obtain ⟨K, e4, _, w4⟩ := DataW.trod_int Try.underlying3 h3
      obtain ⟨U, e5, _, w5⟩ := DataW.trod_int Try.underlying3 h4
      obtain ⟨s, e6, _, w6⟩ := DataW.trod_string Try.underlying9 h5
      simp at e0 e1 e2 e3 e4 e5 e6
      subst e0 e1 e2 e3 e4 e5 e6
      have b0 := bounds_i64 w0
      have b1 := bounds_i64 w1
      have b2 := bounds_i64 w2
      have b3 := bounds_i64 w3
      have b4 := bounds_i64 w4
      have b5 := bounds_i64 w5
      exact ⟨C, D, I, M, K, U, s, rfl, ⟨⟨by omega, by omega⟩, ⟨by omega, by omega⟩, ⟨by omega, by omega⟩, ⟨by omega, by omega⟩, ⟨by omega, by omega⟩, ⟨by omega, by omega⟩⟩, w6⟩

end Go.Proofs.Ytnglpkfkepfkkaa

/- Operations, one behind the other: what stands where. -/
namespace Go.Proofs.Ytnglpkfkepfkkaa
open Go.RowKit Nam Cod

instance : Inhabited Mv := ⟨zeroMv⟩
def Mv.ok (m : Mv) : Prop := opB m.C m.D m.I m.M m.K m.U m.s = true
def Mv.bytes (m : Mv) : ByteArray := printOf m.C m.D m.I m.M m.K m.U m.s
theorem bytes_le {m : Mv} (h : m.ok) : m.bytes.size ≤ 86 := by
  obtain ⟨⟨c, d, i, n, k, u⟩, _, hs, _⟩ := opB_wide h
  unfold Mv.bytes printOf textOf
  simp only [ByteArray.size_append]
  have z1 := bytesOf_le m.C c.1 c.2
  have z2 := bytesOf_le m.D d.1 d.2
  have z3 := bytesOf_le m.I i.1 i.2
  have z4 := bytesOf_le m.M n.1 n.2
  have z5 := bytesOf_le m.K k.1 k.2
  have z6 := bytesOf_le m.U u.1 u.2
  have z7 := bytesOf_le m.s.size (by omega) (by omega)
  omega
/-- From the cell o of block b on an operation lies. -/
def AtOp (w : World) (b o : Nat) (m : Mv) : Prop :=
  w.cell? ⟨b, o, none⟩ = some (.int .i64 m.C) ∧ w.cell? ⟨b, o + 1, none⟩ = some (.int .i64 m.D) ∧ w.cell? ⟨b, o + 2, none⟩ = some (.int .i64 m.I) ∧ w.cell? ⟨b, o + 3, none⟩ = some (.int .i64 m.M) ∧ w.cell? ⟨b, o + 4, none⟩ = some (.int .i64 m.K) ∧ w.cell? ⟨b, o + 5, none⟩ = some (.int .i64 m.U) ∧ w.cell? ⟨b, o + 6, none⟩ = some (.string m.s)
theorem AtOp.below {W w : World} {b o : Nat} {m : Mv} (h : AtOp W b o m) (hb : Below W.heap.size W w) (hl : b < W.heap.size) : AtOp w b o m := by
  unfold AtOp at h ⊢
  rw [(bcell hb).1 _ _ hl, (bcell hb).1 _ _ hl, (bcell hb).1 _ _ hl, (bcell hb).1 _ _ hl, (bcell hb).1 _ _ hl, (bcell hb).1 _ _ hl, (bcell hb).1 _ _ hl]; exact h
end Go.Proofs.Ytnglpkfkepfkkaa

/- Entries as values: which may be, their bytes, what is read of bytes, what counts come to behind them. No call in it. -/
namespace Go.Proofs.Ytnglpkfkepfkkaa
open Go.RowKit Nam Cod

structure En where
  k : Int
  d : Int
  i : Int
  o : Mv
def zeroB (o : Mv) : Bool := decide (o.C = 0 ∧ o.D = 0 ∧ o.I = 0 ∧ o.M = 0 ∧ o.K = 0 ∧ o.U = 0 ∧ o.s = ⟨#[]⟩)
theorem zeroB_iff {o : Mv} : zeroB o = true ↔ o = zeroMv := by
  unfold zeroB zeroMv
  rw [decide_eq_true_iff]
  obtain ⟨C, D, I, M, K, U, s⟩ := o
  simp
def okB (o : Mv) : Bool := opB o.C o.D o.I o.M o.K o.U o.s
def lifeB (d i : Int) : Bool := decide (0 ≤ d ∧ d < 12 ∧ 1 ≤ i ∧ i ≤ 1099511627776)
def entB (e : En) : Bool := if e.k = 1 then decide (e.d = 0 ∧ e.i = 0) && okB e.o else if e.k = 2 ∨ e.k = 3 then lifeB e.d e.i && zeroB e.o else false
def entBytes (e : En) : ByteArray := if e.k = 1 then bytesOf e.k ++ e.o.bytes else bytesOf e.k ++ bytesOf e.d ++ bytesOf e.i
def zeroEn : En := ⟨0, 0, 0, zeroMv⟩
def isEnt (s : ByteArray) (p : Nat) (bad : Bool) : Option (En × Nat) :=
  (isNum s p bad).bind fun a => if a.1 = 1 then (isOp s a.2 false).bind fun b => some (⟨1, 0, 0, b.1⟩, b.2) else
    (isNum s a.2 false).bind fun b => (isNum s b.2 false).bind fun c => if entB ⟨a.1, b.1, c.1, zeroMv⟩ = true then some (⟨a.1, b.1, c.1, zeroMv⟩, c.2) else none
theorem entB_op {o : Mv} (h : okB o = true) : entB ⟨1, 0, 0, o⟩ = true := by
  unfold entB; simp [h]
theorem entB_one {e : En} (h : entB e = true) (h1 : e.k = 1) : e.d = 0 ∧ e.i = 0 ∧ okB e.o = true := by
  unfold entB at h
  rw [if_pos h1, Bool.and_eq_true, decide_eq_true_iff] at h
  exact ⟨h.1.1, h.1.2, h.2⟩
theorem entB_two {e : En} (h : entB e = true) (h1 : ¬ e.k = 1) : (e.k = 2 ∨ e.k = 3) ∧ (0 ≤ e.d ∧ e.d < 12 ∧ 1 ≤ e.i ∧ e.i ≤ 1099511627776) ∧ e.o = zeroMv := by
  unfold entB at h
  rw [if_neg h1] at h
  by_cases h2 : e.k = 2 ∨ e.k = 3
  · rw [if_pos h2, Bool.and_eq_true] at h
    unfold lifeB at h
    rw [decide_eq_true_iff, zeroB_iff] at h
    exact ⟨h2, h.1, h.2⟩
  · rw [if_neg h2] at h; cases h
theorem i64_of {n : Int} (h : -1099511627776 ≤ n ∧ n ≤ 1099511627776) : i64 n := by unfold i64; omega
theorem op_there' (A Z : ByteArray) {o : Mv} (h : okB o = true) : isOp (A ++ (o.bytes ++ Z)) A.size false = some (o, A.size + o.bytes.size) := by
  obtain ⟨C, D, I, M, K, U, s⟩ := o
  exact op_there A Z C D I M K U s h
theorem ent_there (A Z : ByteArray) (e : En) (h : entB e = true) : isEnt (A ++ (entBytes e ++ Z)) A.size false = some (e, A.size + (entBytes e).size) := by
  by_cases h1 : e.k = 1
  · obtain ⟨h2, h3, h4⟩ := entB_one h h1
    obtain ⟨k, d, i, o⟩ := e
    dsimp only at h1 h2 h3 h4
    subst h1 h2 h3
    have hE : entBytes ⟨1, 0, 0, o⟩ = bytesOf 1 ++ o.bytes := rfl
    rw [hE]
    have hN := num_at (A ++ (bytesOf 1 ++ o.bytes ++ Z)) A (o.bytes ++ Z) 1 A.size (by rw [ByteArray.append_assoc]) rfl (i64_of (by omega))
    have hO := op_there' (A ++ bytesOf 1) Z h4
    rw [show A ++ bytesOf 1 ++ (o.bytes ++ Z) = A ++ (bytesOf 1 ++ o.bytes ++ Z) by rw [ByteArray.append_assoc, ByteArray.append_assoc], ByteArray.size_append] at hO
    unfold isEnt
    rw [hN, Option.bind_some, if_pos rfl, hO, Option.bind_some, ByteArray.size_append, Nat.add_assoc]
  · obtain ⟨h2, h3, h4⟩ := entB_two h h1
    obtain ⟨k, d, i, o⟩ := e
    dsimp only at h1 h2 h3 h4
    subst h4
    have hE : entBytes ⟨k, d, i, zeroMv⟩ = bytesOf k ++ bytesOf d ++ bytesOf i := by unfold entBytes; rw [if_neg h1]
    rw [hE]
    have hN := num_at (A ++ (bytesOf k ++ bytesOf d ++ bytesOf i ++ Z)) A (bytesOf d ++ (bytesOf i ++ Z)) k A.size (by simp only [ByteArray.append_assoc]) rfl (i64_of (by omega))
    have hD := num_at (A ++ (bytesOf k ++ bytesOf d ++ bytesOf i ++ Z)) (A ++ bytesOf k) (bytesOf i ++ Z) d (A.size + (bytesOf k).size) (by simp only [ByteArray.append_assoc]) (by rw [ByteArray.size_append]) (i64_of (by omega))
    have hI := num_at (A ++ (bytesOf k ++ bytesOf d ++ bytesOf i ++ Z)) (A ++ bytesOf k ++ bytesOf d) Z i (A.size + (bytesOf k).size + (bytesOf d).size) (by simp only [ByteArray.append_assoc]) (by rw [ByteArray.size_append, ByteArray.size_append]) (i64_of (by omega))
    unfold isEnt
    rw [hN, Option.bind_some, if_neg h1, hD, Option.bind_some, hI, Option.bind_some, if_pos h, ByteArray.size_append, ByteArray.size_append]
    simp only [Nat.add_assoc]
theorem ent_bytes {s : ByteArray} {p : Nat} {bad : Bool} {e : En} {q : Nat} (h : isEnt s p bad = some (e, q)) : entB e = true ∧ (L s).drop p = L (entBytes e) ++ (L s).drop q := by
  unfold isEnt at h
  cases ha : isNum s p bad with
  | none => rw [ha] at h; cases h
  | some a =>
    obtain ⟨k, qk⟩ := a
    rw [ha, Option.bind_some] at h
    have h1 := num_bytes ha
    dsimp only at h
    by_cases hk : k = 1
    · rw [if_pos hk] at h
      cases hb : isOp s qk false with
      | none => rw [hb] at h; cases h
      | some b =>
        obtain ⟨o, qo⟩ := b
        rw [hb, Option.bind_some] at h
        injection h with h
        injection h with h2 h3
        subst h2 h3
        obtain ⟨g1, g2⟩ := op_bytes hb
        refine ⟨entB_op g1, ?_⟩
        have hE : entBytes ⟨1, 0, 0, o⟩ = bytesOf 1 ++ o.bytes := rfl
        rw [h1, g2, hE, L_app, List.append_assoc, hk]; rfl
    · rw [if_neg hk] at h
      cases hb : isNum s qk false with
      | none => rw [hb] at h; cases h
      | some b =>
        obtain ⟨d, qd⟩ := b
        rw [hb, Option.bind_some] at h
        dsimp only at h
        cases hc : isNum s qd false with
        | none => rw [hc] at h; cases h
        | some c =>
          obtain ⟨i, qi⟩ := c
          rw [hc, Option.bind_some] at h
          dsimp only at h
          by_cases hB : entB ⟨k, d, i, zeroMv⟩ = true
          · rw [if_pos hB] at h
            injection h with h
            injection h with h2 h3
            subst h2 h3
            refine ⟨hB, ?_⟩
            have hE : entBytes ⟨k, d, i, zeroMv⟩ = bytesOf k ++ bytesOf d ++ bytesOf i := by unfold entBytes; rw [if_neg hk]
            rw [h1, num_bytes hb, num_bytes hc, hE, L_app, L_app, List.append_assoc, List.append_assoc]
          · rw [if_neg hB] at h; cases h
theorem ent_le {e : En} (h : entB e = true) : (entBytes e).size ≤ 96 := by
  unfold entBytes
  have hb : ∀ n, i64 n → (bytesOf n).size ≤ 10 := fun n hn => by
    rw [bytesOf_size]; exact enc_ten _ (fold_lt n hn.1 hn.2)
  by_cases h1 : e.k = 1
  · rw [if_pos h1, ByteArray.size_append]
    have h2 := bytes_le (m := e.o) (entB_one h h1).2.2
    have h3 := hb e.k (i64_of (by omega))
    omega
  · obtain ⟨h2, h3, _⟩ := entB_two h h1
    rw [if_neg h1, ByteArray.size_append, ByteArray.size_append]
    have g1 := hb e.k (i64_of (by omega))
    have g2 := hb e.d (i64_of (by omega))
    have g3 := hb e.i (i64_of (by omega))
    omega

/-- Counts. -/
structure Cn where
  d : Int
  i : Int
  n : Int
deriving DecidableEq
def zeroCn : Cn := ⟨0, 0, 0⟩
end Go.Proofs.Ytnglpkfkepfkkaa

/- Queues of operations as values: what is pushed, acknowledged, allowed, sent, told, read. No call in it. -/
namespace Go.Proofs.Ytnglpkfkepfkkaa
open Go.RowKit Nam Cod

structure Qu where
  f : Int
  g : Int
  os : List Mv
def newQu : Qu := ⟨1, 0, []⟩
def nilQu : Qu := ⟨0, 0, []⟩
def pushQ (x : Qu) (o : Mv) : Qu := ⟨x.f, x.g, x.os ++ [o]⟩
def ackQ (x : Qu) (a : Int) : Qu := if a < x.f then x else ⟨x.f + min (a - x.f + 1) x.os.length, x.g, x.os.drop (min (a - x.f + 1) x.os.length).toNat⟩
def allowQ (x : Qu) (g : Int) : Qu := ⟨x.f, max x.g g, x.os⟩
def outQ (x : Qu) (most : Int) : List Mv := x.os.take (min most (x.g - x.f + 1)).toNat
end Go.Proofs.Ytnglpkfkepfkkaa

/- Streams of entries as values: what is pushed, taken, settled, told, read. No call in it. -/
namespace Go.Proofs.Ytnglpkfkepfkkaa
open Go.RowKit Nam Cod

structure Sm where
  s : Int
  t : Int
  p : Int
  es : List En
def zeroSm : Sm := ⟨0, 0, 0, []⟩
def pushS (x : Sm) (e : En) : Sm := ⟨x.s, x.t, x.p + 1, x.es ++ [e]⟩
def takeS : Sm → Int → List En → Sm
  | x, _, [] => x
  | x, st, e :: l => takeS (if st = x.p + 1 then pushS x e else x) (st + 1) l
def settleS (x : Sm) (place t : Int) : Sm :=
  if place ≤ x.s then ⟨x.s, max x.t t, x.p, x.es⟩ else if x.p ≤ place then ⟨place, max x.t t, place, []⟩ else ⟨place, max x.t t, x.p, x.es.drop (place - x.s).toNat⟩
def fromS (x : Sm) (place most : Int) : List En := (x.es.drop (max place x.s - x.s).toNat).take most.toNat
def fromP (x : Sm) (place : Int) : Int := max place x.s + 1
structure SmR (x : Sm) : Prop where
  s0 : 0 ≤ x.s
  t0 : 0 ≤ x.t
  tm : x.t ≤ 1099511627776
  sp : x.s ≤ x.p
  pm : x.p ≤ 1099511627776
  len : (x.es.length : Int) = x.p - x.s
  ok : ∀ e ∈ x.es, entB e = true

theorem zeroSm_R : SmR zeroSm := ⟨by decide, by decide, by decide, by decide, by decide, by decide, fun e h => by cases h⟩
theorem pushS_R {x : Sm} (h : SmR x) {e : En} (he : entB e = true) (hp : x.p < 1099511627776) : SmR (pushS x e) where
  s0 := h.s0
  t0 := h.t0
  tm := h.tm
  sp := by have := h.sp; show x.s ≤ x.p + 1; omega
  pm := by show x.p + 1 ≤ _; omega
  len := by
    show ((x.es ++ [e]).length : Int) = x.p + 1 - x.s
    rw [List.length_append, List.length_singleton]
    have := h.len; omega
  ok := fun y hy => by
    rcases List.mem_append.1 hy with hy | hy
    · exact h.ok y hy
    · rw [List.mem_singleton] at hy; rw [hy]; exact he
theorem takeS_R : ∀ (l : List En) {x : Sm} (st : Int), SmR x → (∀ e ∈ l, entB e = true) → x.p + l.length ≤ 1099511627776 → SmR (takeS x st l)
  | [], x, st, h, _, _ => h
  | e :: l, x, st, h, ho, hp => by
    rw [takeS]
    rw [List.length_cons] at hp
    by_cases c : st = x.p + 1
    · rw [if_pos c]
      exact takeS_R l (st + 1) (pushS_R h (ho e (by simp)) (by omega)) (fun y hy => ho y (by simp [hy])) (by show x.p + 1 + _ ≤ _; omega)
    · rw [if_neg c]
      exact takeS_R l (st + 1) h (fun y hy => ho y (by simp [hy])) (by omega)
/-- What the places ahead of the one behind Pos have is passed over, the rest goes behind. -/
theorem takeS_eq : ∀ (l : List En) (x : Sm) (st : Int), takeS x st l = if st ≤ x.p + 1 then ⟨x.s, x.t, max x.p (st + l.length - 1), x.es ++ l.drop (x.p + 1 - st).toNat⟩ else x
  | [], x, st => by
    rw [takeS]
    by_cases c : st ≤ x.p + 1
    · rw [if_pos c]
      obtain ⟨s, t, p, es⟩ := x
      simp only [List.drop_nil, List.append_nil, List.length_nil]
      congr 1
      dsimp only at c
      omega
    · rw [if_neg c]
  | e :: l, x, st => by
    rw [takeS, takeS_eq l]
    by_cases c : st = x.p + 1
    · rw [if_pos c, if_pos (by show st + 1 ≤ x.p + 1 + 1; omega), if_pos (by omega)]
      unfold pushS
      dsimp only
      have h1 : (x.p + 1 + 1 - (st + 1)).toNat = 0 := by omega
      have h2 : (x.p + 1 - st).toNat = 0 := by omega
      rw [h1, h2, List.drop_zero, List.drop_zero, List.append_assoc, List.length_cons]
      congr 1
      omega
    · rw [if_neg c]
      by_cases c2 : st ≤ x.p + 1
      · rw [if_pos (by omega), if_pos c2]
        have h1 : (x.p + 1 - st).toNat = (x.p + 1 - (st + 1)).toNat + 1 := by omega
        rw [h1, List.drop_succ_cons, List.length_cons]
        congr 1
        omega
      · rw [if_neg (by omega), if_neg c2]
theorem takeS_p (l : List En) (x : Sm) (st : Int) : (takeS x st l).p ≤ x.p + l.length ∧ x.p ≤ (takeS x st l).p ∧ (takeS x st l).es.length ≤ x.es.length + l.length ∧ (takeS x st l).s = x.s ∧ (takeS x st l).t = x.t := by
  rw [takeS_eq]
  by_cases c : st ≤ x.p + 1
  · rw [if_pos c]
    dsimp only
    rw [List.length_append, List.length_drop]
    refine ⟨by omega, by omega, by omega, rfl, rfl⟩
  · rw [if_neg c]
    refine ⟨by omega, by omega, by omega, rfl, rfl⟩
theorem settleS_R {x : Sm} (h : SmR x) {place t : Int} (hp : place ≤ 1099511627776) (ht : t ≤ 1099511627776) : SmR (settleS x place t) := by
  have h0 := h.s0
  have h1 := h.t0
  have h2 := h.tm
  have h3 := h.sp
  have h4 := h.pm
  have h5 := h.len
  unfold settleS
  by_cases c : place ≤ x.s
  · rw [if_pos c]
    exact ⟨h0, by show 0 ≤ max x.t t; omega, by show max x.t t ≤ _; omega, h3, h4, h5, h.ok⟩
  · rw [if_neg c]
    by_cases c2 : x.p ≤ place
    · rw [if_pos c2]
      exact ⟨by show 0 ≤ place; omega, by show 0 ≤ max x.t t; omega, by show max x.t t ≤ _; omega, Int.le_refl _, hp, by show ((0 : Nat) : Int) = place - place; omega, fun e he => by cases he⟩
    · rw [if_neg c2]
      refine ⟨by show 0 ≤ place; omega, by show 0 ≤ max x.t t; omega, by show max x.t t ≤ _; omega, by show place ≤ x.p; omega, h4, ?_, fun e he => h.ok e (List.mem_of_mem_drop he)⟩
      show ((x.es.drop (place - x.s).toNat).length : Int) = x.p - place
      rw [List.length_drop]; omega
theorem settleS_es (x : Sm) (place t : Int) : ∃ n, (settleS x place t).es = x.es.drop n := by
  unfold settleS
  by_cases c : place ≤ x.s
  · rw [if_pos c]; exact ⟨0, rfl⟩
  · rw [if_neg c]
    by_cases c2 : x.p ≤ place
    · rw [if_pos c2]; exact ⟨x.es.length, by rw [List.drop_length]⟩
    · rw [if_neg c2]; exact ⟨_, rfl⟩

/-- How far a stream can have come behind k steps. -/
structure SmK (k : Nat) (x : Sm) : Prop extends SmR x where
  pk : x.p ≤ 1000000 + 20 * k
  tk : x.t ≤ 1000000
  lk : x.es.length ≤ 20 * k
end Go.Proofs.Ytnglpkfkepfkkaa

/- Reports as values: which may be, which is newer, what merging comes to, their bytes. No call in it. -/
namespace Go.Proofs.Ytnglpkfkepfkkaa
open Go.RowKit Cod

structure Rp where
  d : Int
  i : Int
  b : Int
  t : Int
  m : Int
  p : Int
  c : Int
  s : Int
  k : Int
def zeroRp : Rp := ⟨0, 0, 0, 0, 0, 0, 0, 0, 0⟩
def cnt0 (n : Int) : Bool := decide (0 ≤ n ∧ n ≤ 1099511627776)
def rpB (r : Rp) : Bool := decide (0 ≤ r.d ∧ r.d < 12 ∧ 1 ≤ r.i ∧ (r.m = 1 ∨ r.m = 2)) && (cnt0 r.i && (cnt0 r.b && (cnt0 r.t && (cnt0 r.p && (cnt0 r.c && (cnt0 r.s && cnt0 r.k))))))
structure RpR (r : Rp) : Prop where
  d : 0 ≤ r.d ∧ r.d < 12
  m : r.m = 1 ∨ r.m = 2
  i : 1 ≤ r.i ∧ r.i ≤ 1099511627776
  b : 0 ≤ r.b ∧ r.b ≤ 1099511627776
  t : 0 ≤ r.t ∧ r.t ≤ 1099511627776
  p : 0 ≤ r.p ∧ r.p ≤ 1099511627776
  c : 0 ≤ r.c ∧ r.c ≤ 1099511627776
  s : 0 ≤ r.s ∧ r.s ≤ 1099511627776
  k : 0 ≤ r.k ∧ r.k ≤ 1099511627776
theorem rpB_iff {r : Rp} : rpB r = true ↔ RpR r := by
  unfold rpB cnt0
  simp only [Bool.and_eq_true, decide_eq_true_iff]
  constructor
  · rintro ⟨⟨h1, h2, h3, h4⟩, h5, h6, h7, h8, h9, h10, h11⟩
    exact ⟨⟨h1, h2⟩, h4, ⟨h3, h5.2⟩, h6, h7, h8, h9, h10, h11⟩
  · rintro ⟨h1, h2, h3, h4, h5, h6, h7, h8, h9⟩
    exact ⟨⟨h1.1, h1.2, h3.1, h2⟩, ⟨by omega, h3.2⟩, h4, h5, h6, h7, h8, h9⟩
def newB (a b : Rp) : Bool := if a.i = b.i then (if a.b = b.b then decide (b.t < a.t) else decide (b.b < a.b)) else decide (b.i < a.i)
theorem newB_iff {a b : Rp} : newB a b = true ↔ b.i < a.i ∨ (a.i = b.i ∧ (b.b < a.b ∨ (a.b = b.b ∧ b.t < a.t))) := by
  unfold newB
  split
  · split
    · rw [decide_eq_true_iff]; omega
    · rw [decide_eq_true_iff]; omega
  · rw [decide_eq_true_iff]; omega
theorem newB_self (a : Rp) : newB a a = false := by
  rw [Bool.eq_false_iff]; intro h; rw [newB_iff] at h; omega
/-- Merged: ahead of the first that isn't of a lesser device, or in its place. -/
def mergeR : List Rp → Rp → List Rp
  | [], r => [r]
  | x :: l, r => if x.d < r.d then x :: mergeR l r else if x.d = r.d then (if newB r x = true then r :: l else x :: l) else r :: x :: l
/-- How many are of lesser devices, at the front. -/
def cutR : List Rp → Int → Nat
  | [], _ => 0
  | x :: l, d => if x.d < d then cutR l d + 1 else 0
theorem cutR_le : ∀ (l : List Rp) (d : Int), cutR l d ≤ l.length
  | [], _ => Nat.le_refl _
  | x :: l, d => by
    unfold cutR
    split
    · rw [List.length_cons]; have := cutR_le l d; omega
    · exact Nat.zero_le _
theorem cutR_lt : ∀ (l : List Rp) (d : Int) (j : Nat) (h : j < l.length), j < cutR l d → l[j].d < d
  | [], _, j, h, _ => absurd h (Nat.not_lt_zero j)
  | x :: l, d, j, h, hc => by
    unfold cutR at hc
    split at hc
    · rename_i hx
      cases j with
      | zero => exact hx
      | succ j => exact cutR_lt l d j (by rw [List.length_cons] at h; omega) (by omega)
    · omega
theorem cutR_at : ∀ (l : List Rp) (d : Int) (h : cutR l d < l.length), ¬ l[cutR l d].d < d
  | [], _, h => absurd h (Nat.not_lt_zero _)
  | x :: l, d, h => by
    by_cases hx : x.d < d
    · have e : cutR (x :: l) d = cutR l d + 1 := if_pos hx
      simp only [e, List.getElem_cons_succ]
      exact cutR_at l d (by rw [e, List.length_cons] at h; omega)
    · have e : cutR (x :: l) d = 0 := if_neg hx
      simp only [e, List.getElem_cons_zero]
      exact hx
theorem mergeR_new : ∀ (l : List Rp) (r : Rp), (∀ h : cutR l r.d < l.length, l[cutR l r.d].d ≠ r.d) → mergeR l r = l.take (cutR l r.d) ++ [r] ++ l.drop (cutR l r.d)
  | [], r, _ => rfl
  | x :: l, r, h => by
    unfold mergeR
    by_cases hx : x.d < r.d
    · have e : cutR (x :: l) r.d = cutR l r.d + 1 := if_pos hx
      rw [if_pos hx, e, mergeR_new l r (fun h2 => by
        have := h (by rw [e, List.length_cons]; omega)
        simp only [e, List.getElem_cons_succ] at this
        exact this)]
      rfl
    · have e : cutR (x :: l) r.d = 0 := if_neg hx
      have hne : x.d ≠ r.d := by
        have := h (by rw [e, List.length_cons]; omega)
        simp only [e, List.getElem_cons_zero] at this
        exact this
      rw [if_neg hx, if_neg hne, e]; rfl
theorem mergeR_old : ∀ (l : List Rp) (r : Rp) (h : cutR l r.d < l.length), l[cutR l r.d].d = r.d → mergeR l r = if newB r l[cutR l r.d] = true then l.set (cutR l r.d) r else l
  | [], _, h, _ => absurd h (Nat.not_lt_zero _)
  | x :: l, r, h, hd => by
    unfold mergeR
    by_cases hx : x.d < r.d
    · have e : cutR (x :: l) r.d = cutR l r.d + 1 := if_pos hx
      simp only [e, List.getElem_cons_succ] at hd ⊢
      rw [if_pos hx, mergeR_old l r (by rw [e, List.length_cons] at h; omega) hd, List.set_cons_succ]
      split <;> rfl
    · have e : cutR (x :: l) r.d = 0 := if_neg hx
      simp only [e, List.getElem_cons_zero] at hd ⊢
      rw [if_neg hx, if_pos hd, List.set_cons_zero]
theorem mergeR_len (l : List Rp) (r : Rp) : (mergeR l r).length ≤ l.length + 1 := by
  induction l with
  | nil => exact Nat.le_refl _
  | cons x l ih =>
    unfold mergeR
    split
    · rw [List.length_cons, List.length_cons]; omega
    · split
      · split
        · rw [List.length_cons, List.length_cons]; omega
        · rw [List.length_cons]; omega
      · rw [List.length_cons, List.length_cons]; omega

/-- Rising devices. -/
def RisR : List Rp → Prop
  | [] => True
  | x :: l => (∀ y ∈ l, x.d < y.d) ∧ RisR l
theorem mergeR_mem : ∀ (l : List Rp) (r y : Rp), y ∈ mergeR l r → y = r ∨ y ∈ l
  | [], r, y, h => by
    have h : y ∈ [r] := h
    rw [List.mem_singleton] at h; exact Or.inl h
  | x :: l, r, y, h => by
    unfold mergeR at h
    split at h
    · rcases List.mem_cons.1 h with h | h
      · exact Or.inr (List.mem_cons.2 (Or.inl h))
      · rcases mergeR_mem l r y h with h | h
        · exact Or.inl h
        · exact Or.inr (List.mem_cons.2 (Or.inr h))
    · split at h
      · split at h
        · rcases List.mem_cons.1 h with h | h
          · exact Or.inl h
          · exact Or.inr (List.mem_cons.2 (Or.inr h))
        · exact Or.inr h
      · rcases List.mem_cons.1 h with h | h
        · exact Or.inl h
        · exact Or.inr h
theorem mergeR_ris : ∀ (l : List Rp) (r : Rp), RisR l → RisR (mergeR l r)
  | [], _, _ => ⟨(fun y h => by cases h), trivial⟩
  | x :: l, r, h => by
    unfold mergeR
    split
    · rename_i hx
      refine ⟨fun y hy => ?_, mergeR_ris l r h.2⟩
      rcases mergeR_mem l r y hy with rfl | hy
      · exact hx
      · exact h.1 y hy
    · rename_i hx
      split
      · rename_i he
        split
        · exact ⟨fun y hy => by rw [← he]; exact h.1 y hy, h.2⟩
        · exact h
      · rename_i he
        refine ⟨fun y hy => ?_, h⟩
        rcases List.mem_cons.1 hy with rfl | hy
        · omega
        · have := h.1 y hy; omega
end Go.Proofs.Ytnglpkfkepfkkaa

/- Reports' bytes: nine numbers, one behind the other; what is read of bytes. No call in it. -/
namespace Go.Proofs.Ytnglpkfkepfkkaa
open Go.RowKit Cod

theorem num_atR (X A Z : ByteArray) (n : Int) (p : Nat) (hX : X = A ++ (bytesOf n ++ Z)) (hp : p = A.size) (h : i64 n) : isNum X p false = some (n, p + (bytesOf n).size) := by
  subst hX hp; exact num_there A Z n h.1 h.2
theorem num_bytesR {s : ByteArray} {p : Nat} {bad : Bool} {n : Int} {q : Nat} (h : isNum s p bad = some (n, q)) : (L s).drop p = L (bytesOf n) ++ (L s).drop q := by
  obtain ⟨_, ⟨m, hr, rfl⟩, _⟩ := isNum_some h
  have h1 := (rd_some hr).1
  show s.data.toList.drop p = enc (fold n) ++ s.data.toList.drop (p + m)
  rw [← h1, ← List.drop_drop, List.take_append_drop]
def catN : List Int → ByteArray
  | [] => ⟨#[]⟩
  | n :: l => bytesOf n ++ catN l
def rpL (r : Rp) : List Int := [r.d, r.i, r.b, r.t, r.m, r.p, r.c, r.s, r.k]
def ofL (l : List Int) : Rp := ⟨l.getD 0 0, l.getD 1 0, l.getD 2 0, l.getD 3 0, l.getD 4 0, l.getD 5 0, l.getD 6 0, l.getD 7 0, l.getD 8 0⟩
theorem ofL_rpL (r : Rp) : ofL (rpL r) = r := rfl
theorem rpL_ofL {l : List Int} (h : l.length = 9) : rpL (ofL l) = l := by
  match l, h with
  | [_, _, _, _, _, _, _, _, _], _ => rfl
def rpBytes (r : Rp) : ByteArray := catN (rpL r)
theorem catN_le : ∀ l : List Int, (∀ n ∈ l, i64 n) → (catN l).size ≤ 10 * l.length
  | [], _ => Nat.zero_le _
  | n :: l, h => by
    have h1 : (bytesOf n).size ≤ 10 := by rw [bytesOf_size]; exact enc_ten _ (fold_lt n (h n (by simp)).1 (h n (by simp)).2)
    have h2 := catN_le l (fun x hx => h x (by simp [hx]))
    rw [catN, ByteArray.size_append, List.length_cons]; omega
/-- So many numbers, one behind the other. -/
def isNums (s : ByteArray) : Nat → Nat → Option (List Int × Nat)
  | 0, p => some ([], p)
  | n + 1, p => (isNum s p false).bind fun a => (isNums s n a.2).bind fun b => some (a.1 :: b.1, b.2)
theorem nums_there : ∀ (l : List Int) (A Z : ByteArray), (∀ n ∈ l, i64 n) → isNums (A ++ (catN l ++ Z)) l.length A.size = some (l, A.size + (catN l).size)
  | [], A, Z, _ => rfl
  | n :: l, A, Z, h => by
    rw [List.length_cons, isNums, catN]
    have h1 := num_atR (A ++ (bytesOf n ++ catN l ++ Z)) A (catN l ++ Z) n A.size (by simp only [ByteArray.append_assoc]) rfl (h n (by simp))
    rw [h1, Option.bind_some]
    have h2 := nums_there l (A ++ bytesOf n) Z (fun y hy => h y (by simp [hy]))
    rw [ByteArray.append_assoc, ByteArray.size_append] at h2
    dsimp only
    rw [show A ++ (bytesOf n ++ catN l ++ Z) = A ++ (bytesOf n ++ (catN l ++ Z)) by simp only [ByteArray.append_assoc], h2, Option.bind_some, ByteArray.size_append, Nat.add_assoc]
theorem nums_bytes : ∀ (n : Nat) (s : ByteArray) (p : Nat) (l : List Int) (q : Nat), isNums s n p = some (l, q) → l.length = n ∧ (L s).drop p = L (catN l) ++ (L s).drop q
  | 0, s, p, l, q, h => by
    injection h with h
    injection h with h1 h2
    subst h1 h2
    exact ⟨rfl, rfl⟩
  | n + 1, s, p, l, q, h => by
    rw [isNums] at h
    cases ha : isNum s p false with
    | none => rw [ha] at h; cases h
    | some a =>
      obtain ⟨e, qe⟩ := a
      rw [ha, Option.bind_some] at h
      dsimp only at h
      cases hb : isNums s n qe with
      | none => rw [hb] at h; cases h
      | some b =>
        obtain ⟨r, qr⟩ := b
        rw [hb, Option.bind_some] at h
        injection h with h
        injection h with h1 h2
        subst h1 h2
        obtain ⟨g3, g5⟩ := nums_bytes n s qe r _ hb
        exact ⟨by rw [List.length_cons, g3], by rw [num_bytesR ha, g5, catN, L_app, List.append_assoc]⟩
def isRp (s : ByteArray) (p : Nat) (bad : Bool) : Option (Rp × Nat) := if bad then none else (isNums s 9 p).bind fun a => if rpB (ofL a.1) = true then some (ofL a.1, a.2) else none
theorem rp_bytes {s : ByteArray} {p : Nat} {bad : Bool} {x : Rp} {q : Nat} (h : isRp s p bad = some (x, q)) : RpR x ∧ (L s).drop p = L (rpBytes x) ++ (L s).drop q := by
  unfold isRp at h
  cases bad
  · rw [if_neg (by decide)] at h
    cases ha : isNums s 9 p with
    | none => rw [ha] at h; cases h
    | some a =>
      obtain ⟨l, qa⟩ := a
      rw [ha, Option.bind_some] at h
      dsimp only at h
      by_cases hb : rpB (ofL l) = true
      · rw [if_pos hb] at h
        injection h with h
        injection h with h1 h2
        subst h1 h2
        obtain ⟨g1, g2⟩ := nums_bytes _ _ _ _ _ ha
        refine ⟨rpB_iff.1 hb, ?_⟩
        unfold rpBytes
        rw [rpL_ofL g1, g2]
      · rw [if_neg hb] at h; cases h
  · rw [if_pos rfl] at h; cases h
theorem RpR.i64 {r : Rp} (h : RpR r) : ∀ n ∈ rpL r, i64 n := fun n hn => by
  obtain ⟨h1, h2, h3, h4, h5, h6, h7, h8, h9⟩ := h
  unfold rpL at hn
  simp only [List.mem_cons, List.not_mem_nil, or_false] at hn
  unfold Go.Proofs.Ytnglpkfkepfkkaa.i64
  rcases hn with rfl | rfl | rfl | rfl | rfl | rfl | rfl | rfl | rfl <;> omega
theorem rp_there (A Z : ByteArray) {x : Rp} (h : RpR x) : isRp (A ++ (rpBytes x ++ Z)) A.size false = some (x, A.size + (rpBytes x).size) := by
  have h1 := nums_there (rpL x) A Z h.i64
  unfold isRp rpBytes
  rw [if_neg (by decide), show (9 : Nat) = (rpL x).length from rfl, h1, Option.bind_some]
  dsimp only
  rw [ofL_rpL, if_pos (rpB_iff.2 h)]
end Go.Proofs.Ytnglpkfkepfkkaa

/- Lists of things that have bytes, whatever the things: their bytes, what is read of bytes, step by step. No call in it. -/
namespace Go.Proofs.Ytnglpkfkepfkkaa
open Go.RowKit Cod

/-- A kind of things: which may be, their bytes, what is read of bytes. -/
structure Kd (α : Type) where
  ok : α → Bool
  b : α → ByteArray
  is : ByteArray → Nat → Bool → Option (α × Nat)
  there : ∀ (A Z : ByteArray) (x : α), ok x = true → is (A ++ (b x ++ Z)) A.size false = some (x, A.size + (b x).size)
  back : ∀ {s : ByteArray} {p : Nat} {bad : Bool} {x : α} {q : Nat}, is s p bad = some (x, q) → ok x = true ∧ (L s).drop p = L (b x) ++ (L s).drop q
namespace Kd
variable {α : Type} (K : Kd α)
def cat : List α → ByteArray
  | [] => ⟨#[]⟩
  | x :: l => K.b x ++ cat l
def isL (s : ByteArray) : Nat → Nat → Option (List α × Nat)
  | 0, p => some ([], p)
  | n + 1, p => (K.is s p false).bind fun a => (isL s n a.2).bind fun b => some (a.1 :: b.1, b.2)
theorem cat_le (n : Nat) : ∀ l : List α, (∀ x ∈ l, (K.b x).size ≤ n) → (K.cat l).size ≤ n * l.length
  | [], _ => Nat.zero_le _
  | x :: l, h => by
    have h1 := h x (by simp)
    have h2 := cat_le n l (fun y hy => h y (by simp [hy]))
    rw [cat, ByteArray.size_append, List.length_cons, Nat.mul_add, Nat.mul_one]; omega
/-- How many, and the things. -/
def part (l : List α) : ByteArray := bytesOf l.length ++ K.cat l
def isPart (most : Int) (s : ByteArray) (p : Nat) (bad : Bool) : Option (List α × Nat) := (isCount s p bad most).bind fun c => K.isL s c.1.toNat c.2
end Kd
def cStepF (most : Int) (s : ByteArray) (p : Nat) (bad : Bool) (v : Nat) (q : Nat) (bad' : Bool) : Prop := (isCount s p bad most = some ((v : Int), q) ∧ bad' = false) ∨ (isCount s p bad most = none ∧ v = 0 ∧ bad' = true)
/-- A list that is read: there, or it went wrong. -/
def pStep {α : Type} (K : Kd α) (most : Int) (s : ByteArray) (p : Nat) (bad : Bool) (l : List α) (q : Nat) (bd : Bool) : Prop := (K.isPart most s p bad = some (l, q) ∧ bd = false) ∨ (K.isPart most s p bad = none ∧ bd = true)
/-- Behind some of n. -/
def pAt {α : Type} (K : Kd α) (most : Int) (s : ByteArray) (p : Nat) (bad : Bool) (n : Nat) (l : List α) (q : Nat) (bd : Bool) : Prop := (bd = false ∧ ∃ qc, isCount s p bad most = some ((n : Int), qc) ∧ K.isL s l.length qc = some (l, q)) ∨ (bd = true ∧ K.isPart most s p bad = none)
section
variable {α : Type} {K : Kd α} {most : Int} {s : ByteArray} {p : Nat} {bad : Bool} {n : Nat} {l : List α} {q : Nat} {bd : Bool}
theorem pAt.start (h : cStepF most s p bad n q bd) : pAt K most s p bad n [] q bd := by
  rcases h with ⟨h, rfl⟩ | ⟨h, _, rfl⟩
  · exact Or.inl ⟨rfl, q, h, rfl⟩
  · refine Or.inr ⟨rfl, ?_⟩
    unfold Kd.isPart; rw [h]; rfl
theorem pAt.good (h : pAt K most s p bad n l q false) (hj : ¬ l.length < n) (hl : l.length ≤ n) : pStep K most s p bad l q false := by
  rcases h with ⟨_, qc, h1, h2⟩ | ⟨h, _⟩
  · obtain rfl : l.length = n := by omega
    refine Or.inl ⟨?_, rfl⟩
    unfold Kd.isPart
    rw [h1, Option.bind_some]
    exact h2
  · cases h
end
end Go.Proofs.Ytnglpkfkepfkkaa

/- The plain mathematics of the sum: one step of a bit is linear and loses nothing; four steps are one look into the table; four bytes side by side that turn, turn the sum. -/
namespace Go.Proofs.Ytnglpkfkepfkkaa.Crc

def P : BitVec 32 := 0xedb88320#32
/-- One step of a bit. -/
def T (x : BitVec 32) : BitVec 32 := if x.getLsbD 0 then (x >>> 1) ^^^ P else x >>> 1
/-- n steps. -/
def Tn : Nat → BitVec 32 → BitVec 32
  | 0, x => x
  | n + 1, x => Tn n (T x)

/-- One byte more. -/
def up (n : BitVec 32) (b : UInt8) : BitVec 32 := Tn 8 (n ^^^ BitVec.ofNat 32 b.toNat)
def run (n : BitVec 32) (l : List UInt8) : BitVec 32 := l.foldl up n
/-- Masks as one number, the first the lowest. -/
def val : List UInt8 → Nat
  | [] => 0
  | m :: l => m.toNat + 256 * val l

end Go.Proofs.Ytnglpkfkepfkkaa.Crc

/- What Sum gives. -/
namespace Go.Proofs.Ytnglpkfkepfkkaa.Crk
open Go.RowKit Crc
/-- The state behind k bytes. -/
def st (s : ByteArray) (k : Nat) : BitVec 32 := run (BitVec.allOnes 32) (s.data.toList.take k)
end Go.Proofs.Ytnglpkfkepfkkaa.Crk

/- number and Four, of both. -/
namespace Go.Proofs.Ytnglpkfkepfkkaa.Crk
open Go.RowKit Crc

/-- The number of four bytes, the lowest first. -/
def num (s : ByteArray) : Nat := (s.data.toList.getD 0 0).toNat + 256 * (s.data.toList.getD 1 0).toNat + 65536 * (s.data.toList.getD 2 0).toNat + 16777216 * (s.data.toList.getD 3 0).toNat
theorem getD_at (s : ByteArray) (i : Nat) (h : i < s.size) : s.data.toList.getD i 0 = s[i] := by
  have h2 : i < s.data.toList.length := by simpa using h
  rw [List.getD_eq_getElem?_getD, List.getElem?_eq_getElem h2]; rfl

end Go.Proofs.Ytnglpkfkepfkkaa.Crk

/- Seal and Open, of both. -/
namespace Go.Proofs.Ytnglpkfkepfkkaa.Crk
open Go.RowKit Crc

/-- What was there reads as it did. -/
theorem bcell {W w1 : World} (hb : Below W.heap.size W w1) : (∀ b o, b < W.heap.size → w1.cell? ⟨b, o, none⟩ = W.cell? ⟨b, o, none⟩) ∧ (∀ b o, b < W.heap.size → w1.frozen? ⟨b, o, none⟩ = W.frozen? ⟨b, o, none⟩) :=
  ⟨fun b o h => hb.cell (p := ⟨b, o, none⟩) h, fun b o h => hb.frozen (p := ⟨b, o, none⟩) h⟩
theorem below_then {w w1 w2 : World} (h : Below w.heap.size w w1) (k : Below w1.heap.size w1 w2) : Below w.heap.size w w2 := h.trans (k.mono h.size)
theorem below_alloc {w w1 : World} (h : Below w.heap.size w w1) (o : Obj) : Below w.heap.size w (w1.alloc o) := h.alloc h.size o
end Go.Proofs.Ytnglpkfkepfkkaa.Crk

/- What a Seal is, as lists of bytes: it is opened, whatever stands behind; what is opened was sealed just so; what is cut isn't open. -/
namespace Go.Proofs.Ytnglpkfkepfkkaa.Crk
open Go.RowKit Crc

abbrev L (s : ByteArray) : List UInt8 := s.data.toList
theorem L_inj {a b : ByteArray} (h : L a = L b) : a = b := by
  apply ByteArray.ext
  exact Array.toList_inj.1 h
theorem L_len (s : ByteArray) : (L s).length = s.size := Array.length_toList
theorem L_app (a b : ByteArray) : L (a ++ b) = L a ++ L b := by simp [L, ByteArray.data_append]
end Go.Proofs.Ytnglpkfkepfkkaa.Crk

/- Lists of things that have bytes, whatever the things: their bytes, what is read of bytes. Gifts and frames as values. No call in it. -/
namespace Go.Proofs.Ytnglpkfkepfkkaa
open Go.RowKit Nam Cod

structure Gf where
  d : Int
  i : Int
  c : Int
  t : Int
  s : ByteArray
def zeroGf : Gf := ⟨0, 0, 0, 0, ⟨#[]⟩⟩
def gfB (g : Gf) : Bool := decide (0 ≤ g.d ∧ g.d < 12 ∧ 1 ≤ g.i ∧ g.i ≤ 1099511627776 ∧ 0 ≤ g.c ∧ g.c ≤ 1099511627776 ∧ 0 ≤ g.t ∧ g.t ≤ 1099511627776 ∧ g.s.size ≤ 256)
def gfBytes (g : Gf) : ByteArray := bytesOf g.d ++ bytesOf g.i ++ bytesOf g.c ++ bytesOf g.t ++ textOf g.s
def isGf (s : ByteArray) (p : Nat) (bad : Bool) : Option (Gf × Nat) :=
  (isNum s p bad).bind fun a => (isNum s a.2 false).bind fun b => (isNum s b.2 false).bind fun c => (isNum s c.2 false).bind fun d => (isText s d.2 false 256).bind fun e =>
    if gfB ⟨a.1, b.1, c.1, d.1, e.1⟩ = true then some (⟨a.1, b.1, c.1, d.1, e.1⟩, e.2) else none
theorem gf_there (A Z : ByteArray) (g : Gf) (h : gfB g = true) : isGf (A ++ (gfBytes g ++ Z)) A.size false = some (g, A.size + (gfBytes g).size) := by
  have h' := h
  unfold gfB at h'
  rw [decide_eq_true_iff] at h'
  obtain ⟨d, i, c, t, s⟩ := g
  dsimp only at h'
  obtain ⟨X, hX⟩ : ∃ X, A ++ (gfBytes ⟨d, i, c, t, s⟩ ++ Z) = X := ⟨_, rfl⟩
  have h1 := num_atR X A (bytesOf i ++ (bytesOf c ++ (bytesOf t ++ (textOf s ++ Z)))) d A.size (by rw [← hX]; unfold gfBytes; simp only [ByteArray.append_assoc]) rfl (by unfold i64; omega)
  have h2 := num_atR X (A ++ bytesOf d) (bytesOf c ++ (bytesOf t ++ (textOf s ++ Z))) i (A.size + (bytesOf d).size) (by rw [← hX]; unfold gfBytes; simp only [ByteArray.append_assoc]) (by rw [ByteArray.size_append]) (by unfold i64; omega)
  have h3 := num_atR X (A ++ bytesOf d ++ bytesOf i) (bytesOf t ++ (textOf s ++ Z)) c (A.size + (bytesOf d).size + (bytesOf i).size) (by rw [← hX]; unfold gfBytes; simp only [ByteArray.append_assoc]) (by rw [ByteArray.size_append, ByteArray.size_append]) (by unfold i64; omega)
  have h4 := num_atR X (A ++ bytesOf d ++ bytesOf i ++ bytesOf c) (textOf s ++ Z) t (A.size + (bytesOf d).size + (bytesOf i).size + (bytesOf c).size) (by rw [← hX]; unfold gfBytes; simp only [ByteArray.append_assoc]) (by rw [ByteArray.size_append, ByteArray.size_append, ByteArray.size_append]) (by unfold i64; omega)
  have h5 := text_there (A ++ bytesOf d ++ bytesOf i ++ bytesOf c ++ bytesOf t) s Z 256 (by omega) (by omega)
  rw [show A ++ bytesOf d ++ bytesOf i ++ bytesOf c ++ bytesOf t ++ (textOf s ++ Z) = X by rw [← hX]; unfold gfBytes; simp only [ByteArray.append_assoc], ByteArray.size_append, ByteArray.size_append, ByteArray.size_append, ByteArray.size_append] at h5
  rw [hX]
  unfold isGf
  rw [h1, Option.bind_some]
  dsimp only
  rw [h2, Option.bind_some]
  dsimp only
  rw [h3, Option.bind_some]
  dsimp only
  rw [h4, Option.bind_some]
  dsimp only
  rw [h5, Option.bind_some]
  dsimp only
  rw [if_pos h]
  unfold gfBytes
  simp only [ByteArray.size_append, Nat.add_assoc]
theorem isGf_some {s : ByteArray} {p : Nat} {bad : Bool} {g : Gf} {q : Nat} (h : isGf s p bad = some (g, q)) : ∃ q1 q2 q3 q4, isNum s p bad = some (g.d, q1) ∧ isNum s q1 false = some (g.i, q2) ∧ isNum s q2 false = some (g.c, q3) ∧ isNum s q3 false = some (g.t, q4) ∧ isText s q4 false 256 = some (g.s, q) ∧ gfB g = true := by
  unfold isGf at h
  cases ha : isNum s p bad with
  | none => rw [ha] at h; cases h
  | some a =>
    obtain ⟨a, qa⟩ := a
    rw [ha, Option.bind_some] at h
    dsimp only at h
    cases hb : isNum s qa false with
    | none => rw [hb] at h; cases h
    | some b =>
      obtain ⟨b, qb⟩ := b
      rw [hb, Option.bind_some] at h
      dsimp only at h
      cases hc : isNum s qb false with
      | none => rw [hc] at h; cases h
      | some c =>
        obtain ⟨c, qc⟩ := c
        rw [hc, Option.bind_some] at h
        dsimp only at h
        cases hd : isNum s qc false with
        | none => rw [hd] at h; cases h
        | some d =>
          obtain ⟨d, qd⟩ := d
          rw [hd, Option.bind_some] at h
          dsimp only at h
          cases he : isText s qd false 256 with
          | none => rw [he] at h; cases h
          | some e =>
            obtain ⟨e, qe⟩ := e
            rw [he, Option.bind_some] at h
            dsimp only at h
            by_cases hg : gfB ⟨a, b, c, d, e⟩ = true
            · rw [if_pos hg] at h
              injection h with h
              injection h with h1 h2
              subst h1 h2
              exact ⟨qa, qb, qc, qd, rfl, hb, hc, hd, he, hg⟩
            · rw [if_neg hg] at h; cases h
theorem gf_bytes {s : ByteArray} {p : Nat} {bad : Bool} {g : Gf} {q : Nat} (h : isGf s p bad = some (g, q)) : gfB g = true ∧ (L s).drop p = L (gfBytes g) ++ (L s).drop q := by
  obtain ⟨q1, q2, q3, q4, h1, h2, h3, h4, h5, h6⟩ := isGf_some h
  refine ⟨h6, ?_⟩
  rw [num_bytesR h1, num_bytesR h2, num_bytesR h3, num_bytesR h4, text_bytes h5]
  unfold gfBytes
  simp only [L_app, List.append_assoc]
def opK : Kd Mv where
  ok := okB
  b o := o.bytes
  is := isOp
  there A Z x h := op_there' A Z h
  back h := op_bytes h
def enK : Kd En where
  ok := entB
  b := entBytes
  is := isEnt
  there A Z x h := ent_there A Z x h
  back h := ent_bytes h
def rpK : Kd Rp where
  ok := rpB
  b := rpBytes
  is := isRp
  there A Z x h := rp_there A Z (rpB_iff.1 h)
  back h := ⟨rpB_iff.2 (rp_bytes h).1, (rp_bytes h).2⟩
def gfK : Kd Gf where
  ok := gfB
  b := gfBytes
  is := isGf
  there := gf_there
  back h := gf_bytes h

structure Fr where
  a : Int
  b : Int
  boot : Int
  first : Int
  pos : Int
  start : Int
  ack : Int
  grant : Int
  s : Int
  t : Int
  os : List Mv
  rs : List Rp
  es : List En
  gs : List Gf
def zeroFr : Fr := ⟨0, 0, 0, 0, 0, 0, 0, 0, 0, 0, [], [], [], []⟩
def frL (f : Fr) : List Int := [f.a, f.b, f.boot, f.first, f.pos, f.start, f.ack, f.grant, f.s, f.t]
def fr6 (f : Fr) : List Int := [f.boot, f.pos, f.ack, f.grant, f.s, f.t]
/-- What Right asks at its end. -/
def frEnd (f : Fr) : Bool := decide (0 ≤ f.a ∧ f.a < 12 ∧ 0 ≤ f.b ∧ f.b < 12 ∧ 1 ≤ f.first ∧ f.first ≤ 1099511627776 ∧ 1 ≤ f.start ∧ f.start ≤ 1099511627776 ∧ f.os.length ≤ 64 ∧ f.es.length ≤ 64 ∧ f.rs.length ≤ 8 ∧ f.gs.length ≤ 8)
def frB (f : Fr) : Bool := (fr6 f).all cnt0 && (f.os.all okB && (f.es.all entB && (f.rs.all rpB && (f.gs.all gfB && frEnd f))))
structure FrR (f : Fr) : Prop where
  six : ∀ n ∈ fr6 f, 0 ≤ n ∧ n ≤ 1099511627776
  os : ∀ x ∈ f.os, okB x = true
  es : ∀ x ∈ f.es, entB x = true
  rs : ∀ x ∈ f.rs, rpB x = true
  gs : ∀ x ∈ f.gs, gfB x = true
  e : 0 ≤ f.a ∧ f.a < 12 ∧ 0 ≤ f.b ∧ f.b < 12 ∧ 1 ≤ f.first ∧ f.first ≤ 1099511627776 ∧ 1 ≤ f.start ∧ f.start ≤ 1099511627776 ∧ f.os.length ≤ 64 ∧ f.es.length ≤ 64 ∧ f.rs.length ≤ 8 ∧ f.gs.length ≤ 8
theorem frB_iff {f : Fr} : frB f = true ↔ FrR f := by
  unfold frB frEnd
  simp only [Bool.and_eq_true, List.all_eq_true, decide_eq_true_iff]
  constructor
  · rintro ⟨h1, h2, h3, h4, h5, h6⟩
    exact ⟨fun n hn => by have := h1 n hn; unfold cnt0 at this; exact of_decide_eq_true this, h2, h3, h4, h5, h6⟩
  · rintro ⟨h1, h2, h3, h4, h5, h6⟩
    exact ⟨fun n hn => by unfold cnt0; exact decide_eq_true (h1 n hn), h2, h3, h4, h5, h6⟩
def bodyF (f : Fr) : ByteArray := catN (frL f) ++ (opK.part f.os ++ (rpK.part f.rs ++ (enK.part f.es ++ gfK.part f.gs)))
end Go.Proofs.Ytnglpkfkepfkkaa

/- Trees as lists of places: where a node stands, who is above whom. No program in it. -/
namespace Tre

structure Pl where
  n : Int
  u : Int
  s : ByteArray
def zero : Pl := ⟨0, 0, ⟨#[]⟩⟩
instance : Inhabited Pl := ⟨zero⟩

/-- How many stand ahead of node b. -/
def idx (l : List Pl) (b : Int) : Nat := (l.takeWhile fun p => decide (p.n < b)).length
/-- A node's place. -/
def get (l : List Pl) (b : Int) : Option Pl := (l[idx l b]?).bind fun p => if p.n = b then some p else none
/-- k steps up. -/
def up (l : List Pl) : Nat → Int → Option Int
  | 0, b => some b
  | k + 1, b => (get l b).bind fun p => up l k p.u
/-- At or above, by so many looks. -/
def abv (l : List Pl) : Nat → Int → Int → Bool
  | 0, _, _ => false
  | f + 1, a, b => if a = b then true else match get l b with
    | none => false
    | some p => abv l f a p.u
def above (l : List Pl) (a b : Int) : Bool := abv l (l.length + 1) a b
/-- Where what stands behind node b's place begins. -/
def behind (l : List Pl) (b : Int) : Nat := if (get l b).isSome then idx l b + 1 else idx l b
def placedL (l : List Pl) (b : Int) (m : List Pl) : List Pl := (l.take (idx l b) ++ m) ++ l.drop (behind l b)
def putL (l : List Pl) (p : Pl) : List Pl := placedL l p.n [p]
end Tre

/- A place in a block, a list of places in a slice; Find of the program. -/
namespace Go.Proofs.Ytnglpkfkepfkkaa
open Go.RowKit Tre

/-- From the cell o of block b on a place lies. -/
def AtPl (w : World) (b o : Nat) (p : Pl) : Prop :=
  w.cell? ⟨b, o, none⟩ = some (.int .i64 p.n) ∧ w.cell? ⟨b, o + 1, none⟩ = some (.int .i64 p.u) ∧ w.cell? ⟨b, o + 2, none⟩ = some (.string p.s)
theorem AtPl.below {W w : World} {b o : Nat} {p : Pl} (h : AtPl W b o p) (hb : Below W.heap.size W w) (hl : b < W.heap.size) : AtPl w b o p := by
  unfold AtPl at h ⊢
  rw [(bcell hb).1 _ _ hl, (bcell hb).1 _ _ hl, (bcell hb).1 _ _ hl]; exact h
/-- The slice at A holds these places. -/
def Tr (w : World) (A : Option Addr) (l : List Pl) : Prop :=
  0 < l.length → ∃ b off, A = some ⟨b, off, none⟩ ∧ b < w.heap.size ∧ ∀ i (h : i < l.length), AtPl w b (off + i * 3) l[i]
theorem Tr.below {W w : World} {A : Option Addr} {l : List Pl} (h : Tr W A l) (hb : Below W.heap.size W w) : Tr w A l := fun h0 => by
  obtain ⟨b, off, e, hl, hc⟩ := h h0
  exact ⟨b, off, e, Nat.lt_of_lt_of_le hl hb.size, fun i hi => (hc i hi).below hb hl⟩
theorem Tr.nil (w : World) (A : Option Addr) : Tr w A [] := fun h => by simp at h

end Go.Proofs.Ytnglpkfkepfkkaa

/- Find of the document; Get and Above of both. -/
namespace Go.Proofs.Ytnglpkfkepfkkaa
open Go.RowKit Tre

/-- A place has a block of its own. -/
def PlIn (w : World) (b : Nat) (p : Pl) : Prop := w.heap[b]? = some (.cells #[.int .i64 p.n, .int .i64 p.u, .string p.s] 164 (0, 0))
section
variable {w w' : World} {b : Nat} {p : Pl}
theorem PlIn.lt (h : PlIn w b p) : b < w.heap.size := by
  rcases Nat.lt_or_ge b w.heap.size with hlt | hge
  · exact hlt
  · unfold PlIn at h; rw [Array.getElem?_eq_none hge] at h; cases h
theorem PlIn.cells (h : PlIn w b p) : w.cell? ⟨b, 0, none⟩ = some (.int .i64 p.n) ∧ w.cell? ⟨b, 1, none⟩ = some (.int .i64 p.u) ∧ w.cell? ⟨b, 2, none⟩ = some (.string p.s) :=
  ⟨cell_of_row w b 0 _ 164 (0, 0) h, cell_of_row w b 1 _ 164 (0, 0) h, cell_of_row w b 2 _ 164 (0, 0) h⟩
theorem PlIn.frozen (h : PlIn w b p) (i : Nat) : w.frozen? ⟨b, i, none⟩ = false := by
  unfold PlIn at h
  simp [World.frozen?, h]
theorem PlIn.new (w : World) (p : Pl) : PlIn (w.alloc (.cells #[.int .i64 p.n, .int .i64 p.u, .string p.s] 164)) w.heap.size p := heap_alloc_new w _
theorem PlIn.below (h : PlIn w b p) (hg : Below w.heap.size w w') : PlIn w' b p := (hg.block b h.lt).trans h
theorem PlIn.keep {row : Option Nat} (h : PlIn w b p) (hg : w.grownBy w' row) (hne : some b ≠ row) : PlIn w' b p := (hg.block b h.lt hne).trans h
theorem PlIn.set (h : PlIn w b p) (q : Pl) : PlIn (w.setRow b #[.int .i64 q.n, .int .i64 q.u, .string q.s]) b q := setRow_heap _ _ _ _ _ _ h
theorem below_setRow {W w : World} (h : Below W.heap.size W w) {n : Nat} (hn : W.heap.size ≤ n) (cs : Array Value) : Below W.heap.size W (w.setRow n cs) :=
  ⟨h.os, h.tape, h.output, by simpa [World.setRow] using h.size, fun k hk => (setRow_other w n k cs (by omega)).trans (h.block k hk)⟩
theorem PlIn.alloc (h : PlIn w b p) (o : Obj) : PlIn (w.alloc o) b p := h.below (below_alloc (Below.refl _ _) o)
end
end Go.Proofs.Ytnglpkfkepfkkaa

/- Places and trees as bytes; what may be a tree. -/
namespace Go.Proofs.Ytnglpkfkepfkkaa
open Go.RowKit Nam Cod Tre

def isPlace (s : ByteArray) (p : Nat) (bad : Bool) : Option (Pl × Nat) :=
  (isNum s p bad).bind fun a => (isNum s a.2 false).bind fun b => (isText s b.2 false 16).bind fun c => some (⟨a.1, b.1, c.1⟩, c.2)
/-- So many places, from p on. -/
def isPlaces (s : ByteArray) : Nat → Nat → Option (List Pl × Nat)
  | 0, p => some ([], p)
  | n + 1, p => (isPlaces s n p).bind fun a => (isPlace s a.2 false).bind fun b => some (a.1 ++ [b.1], b.2)
def okPl (p : Pl) : Bool := decide (2 ≤ p.n ∧ p.n < 64 ∧ 0 ≤ p.u ∧ p.u < 64) && isName (L p.s)
def rising : List Pl → Bool
  | [] => true
  | [_] => true
  | p :: q :: l => decide (p.n < q.n) && rising (q :: l)
def treeB (l : List Pl) : Bool := l.all okPl && (rising l && l.all fun p => !above l p.n p.u)
def isTree (s : ByteArray) (p : Nat) (bad : Bool) : Option (List Pl × Nat) :=
  (isCount s p bad 64).bind fun a => (isPlaces s a.1.toNat a.2).bind fun b => if treeB b.1 = true then some b else none

end Go.Proofs.Ytnglpkfkepfkkaa

/- A list of places of the call's own: what append makes of it. Grow and Concat of the library. -/
namespace Go.Proofs.Ytnglpkfkepfkkaa
open Go.RowKit Tre

def plCells : List Pl → List Value
  | [] => []
  | p :: l => .int .i64 p.n :: .int .i64 p.u :: .string p.s :: plCells l
theorem plCells_len : ∀ l, (plCells l).length = l.length * 3
  | [] => rfl
  | p :: l => by simp only [plCells, List.length_cons, plCells_len l]; omega
theorem plCells_app : ∀ l r, plCells (l ++ r) = plCells l ++ plCells r
  | [], r => rfl
  | p :: l, r => by simp only [plCells, List.cons_append, plCells_app l r]
theorem plCells_one : ∀ (l : List Pl), ∀ u ∈ plCells l, u.oneCell' = true
  | [], u, h => by cases h
  | p :: l, u, h => by
    simp only [plCells, List.mem_cons] at h
    rcases h with rfl | rfl | rfl | h
    · rfl
    · rfl
    · rfl
    · exact plCells_one l u h
theorem plCells_get : ∀ (l : List Pl) (j : Nat) (u : Value), (plCells l)[j]? = some u → ∃ i, ∃ h : i < l.length, (j = i * 3 ∧ u = .int .i64 l[i].n) ∨ (j = i * 3 + 1 ∧ u = .int .i64 l[i].u) ∨ (j = i * 3 + 2 ∧ u = .string l[i].s)
  | [], j, u, h => by simp [plCells] at h
  | p :: l, 0, u, h => ⟨0, by simp, Or.inl ⟨rfl, by simpa [plCells] using h.symm⟩⟩
  | p :: l, 1, u, h => ⟨0, by simp, Or.inr (Or.inl ⟨rfl, by simpa [plCells] using h.symm⟩)⟩
  | p :: l, 2, u, h => ⟨0, by simp, Or.inr (Or.inr ⟨rfl, by simpa [plCells] using h.symm⟩)⟩
  | p :: l, j + 3, u, h => by
    obtain ⟨i, hi, hc⟩ := plCells_get l j u h
    refine ⟨i + 1, by simpa using hi, ?_⟩
    rcases hc with ⟨e, hu⟩ | ⟨e, hu⟩ | ⟨e, hu⟩
    · exact Or.inl ⟨by omega, by simpa using hu⟩
    · exact Or.inr (Or.inl ⟨by omega, by simpa using hu⟩)
    · exact Or.inr (Or.inr ⟨by omega, by simpa using hu⟩)

/-- The slice v holds these places, in a row that the call has made. -/
def Own (w : World) (B : Nat) (v : Value) (l : List Pl) : Prop := w.ownsRow B 164 3 v l.length (plCells l)
theorem Own.nil (w : World) (B : Nat) : Own w B (.slice none 0 0) [] := World.ownsRow_nil w B 164 3
theorem Own.kept {w w' : World} {B : Nat} {v : Value} {l : List Pl} {row : Option Nat} (h : Own w B v l) (hg : w.grownBy w' row) (hne : v.ownBlock = none ∨ v.ownBlock ≠ row) : Own w' B v l := World.ownsRow.kept h hg hne
theorem Own.below {w w' : World} {B : Nat} {v : Value} {l : List Pl} (h : Own w B v l) (hb : Below w.heap.size w w') : Own w' B v l :=
  World.ownsRow.kept h (row := none) ⟨hb.os, hb.tape, hb.output, hb.size, fun k hk _ => hb.block k hk⟩ (by cases hv : v.ownBlock <;> simp)
theorem add_lit (b o j : Nat) : (⟨b, o, none⟩ : Addr).add j = ⟨b, o + j, none⟩ := Addr.add_lit b o j
/-- It lies from B on. -/
def Frs (B : Nat) (A : Option Addr) : Prop := ∀ a, A = some a → B ≤ a.block
theorem Frs.mono {B B' : Nat} {A : Option Addr} (h : Frs B A) (hB : B' ≤ B) : Frs B' A := fun a e => Nat.le_trans hB (h a e)
theorem Own.frs {w : World} {B n c : Nat} {A : Option Addr} {l : List Pl} (h : Own w B (.slice A n c) l) : Frs B A := fun a e => (World.ownsRow.lt h a.block (by rw [e]; rfl)).1
theorem Tr.cells {w : World} {a : Addr} {l : List Pl} (h : Tr w (some a) l) : ∀ j u, (plCells l)[j]? = some u → w.cell? (a.add j) = some u := by
  intro j u hu
  obtain ⟨i, hi, hc⟩ := plCells_get l j u hu
  obtain ⟨b, off, e, _, hat⟩ := h (by omega)
  obtain rfl := Option.some.inj e
  obtain ⟨a0, a1, a2⟩ := hat i hi
  rw [add_lit]
  rcases hc with ⟨rfl, rfl⟩ | ⟨rfl, rfl⟩ | ⟨rfl, rfl⟩
  · exact a0
  · exact a1
  · exact a2
theorem Tr.none_nil {w : World} {l : List Pl} (h : Tr w none l) : l = [] := by
  rcases Nat.eq_zero_or_pos l.length with h0 | h0
  · exact List.eq_nil_of_length_eq_zero h0
  · obtain ⟨_, _, e, _⟩ := h h0; cases e

theorem pl_info : (Try.prog.info? 164).map (fun i => (i.zero, i.size, i.bytes)) = some (some (.agg #[.int .i64 0, .int .i64 0, .string ⟨#[]⟩]), 3, 32) := by kernel_rfl

theorem run_app (w : World) (ty : TypeId) (B : Nat) (v : Value) (l r : List Pl) (hown : Own w B v l) (A : Option Addr) (m c : Nat) (hm : r.length = m) (hT : Tr w A r) (hc : A = none → c = 0) (hl : l.length + r.length ≤ 1000) (hB : B ≤ w.heap.size) :
    ∃ v' w', (Builtin.append_ #[41, 41] ty #[v, .slice A m c]).run Try.prog w = .ok v' w' ∧ Own w' B v' (l ++ r) ∧ w.grownBy w' v.ownBlock ∧ (v'.ownBlock = v.ownBlock ∨ v'.ownBlock = some w.heap.size) := by
  subst hm
  obtain ⟨i, hi, hz, hz1, hz2⟩ := info_parts pl_info
  cases A with
  | none =>
    obtain rfl := hT.none_nil
    obtain rfl := hc rfl
    refine ⟨v, w, run_append_owned_none (P := Try.prog) (w := w) B 41 ty 164 i 3 Try.underlying41 hi v l.length (plCells l) hown, ?_, ⟨rfl, rfl, rfl, Nat.le_refl _, fun _ _ _ => rfl⟩, Or.inl rfl⟩
    rw [List.append_nil]; exact hown
  | some a =>
    obtain ⟨v', w', h1, h2, h3, _, h5⟩ := run_append_own_at (P := Try.prog) w B 41 ty 164 i _ 3 32 Try.underlying41 hi hz hz1 hz2 rfl (by decide) v l.length (plCells l) hown a r.length c (plCells r) (plCells_len r) hT.cells (plCells_one r) (by unfold maxLen; omega) (by omega) hB
    refine ⟨v', w', h1, ?_, h3, h5⟩
    unfold Own
    rw [List.length_append, plCells_app]; exact h2

theorem wp_app {o : Oper} {a : Act} {w : World} {K : Act → World → Prop} {Q : Exit → Act → World → Prop} (s x : Operand)
    (ho : o.op = .call { callee := .builtin .append, args := #[s, x], argTypes := #[41, 41] }) (B : Nat) (v : Value) (l r : List Pl) (hs : a.eval s = v) (hown : Own w B v l) (A : Option Addr) (m c : Nat) (hx : a.eval x = .slice A m c)
    (hm : r.length = m) (hT : Tr w A r) (hc : A = none → c = 0) (hl : l.length + r.length ≤ 1000) (hB : B ≤ w.heap.size)
    (h : ∀ v' w', Own w' B v' (l ++ r) → w.grownBy w' v.ownBlock → (v'.ownBlock = v.ownBlock ∨ v'.ownBlock = some w.heap.size) → K (a.put o.dst v') w') : o.wp Try.prog a w K Q := by
  obtain ⟨v', w', hr, h2, h3, h4⟩ := run_app w o.type B v l r hown A m c hm hT hc hl hB
  unfold Oper.wp execOp
  simp only [ho, resolve, invoke, builtin, Sem.run_bind, Sem.run_pure, Result.andThen_ok, List.map_toArray, List.map_cons, List.map_nil, hs, hx, hr]
  exact h v' w' h2 h3 h4
theorem wpList_app {ops : Array Oper} {rest : List Oper} {o : Oper} {a : Act} {w : World} {Q : Exit → Act → World → Prop} (hgd : o.guard = none) (s x : Operand)
    (ho : o.op = .call { callee := .builtin .append, args := #[s, x], argTypes := #[41, 41] }) (B : Nat) (v : Value) (l r : List Pl) (hs : a.eval s = v) (hown : Own w B v l) (A : Option Addr) (m c : Nat) (hx : a.eval x = .slice A m c)
    (hm : r.length = m) (hT : Tr w A r) (hc : A = none → c = 0) (hl : l.length + r.length ≤ 1000) (hB : B ≤ w.heap.size)
    (h : ∀ v' w', Own w' B v' (l ++ r) → w.grownBy w' v.ownBlock → (v'.ownBlock = v.ownBlock ∨ v'.ownBlock = some w.heap.size) → wpList Try.prog ops Q rest (a.put o.dst v') w') : wpList Try.prog ops Q (o :: rest) a w :=
  wpList_plain hgd fun _ hK => wp_app s x ho B v l r hs hown A m c hx hm hT hc hl hB fun v' w' h2 h3 h4 => hK _ _ (h v' w' h2 h3 h4)

end Go.Proofs.Ytnglpkfkepfkkaa

/- How a place, and a list of places, is read. -/
namespace Go.Proofs.Ytnglpkfkepfkkaa
open Go.RowKit Tre Nam Cod
/-- So many places read, from p on. -/
def plsStep (s : ByteArray) (p k : Nat) (l : List Pl) (q : Nat) (bad : Bool) : Prop := (isPlaces s k p = some (l, q) ∧ bad = false) ∨ (isPlaces s k p = none ∧ bad = true)
theorem plsStep.zero (s : ByteArray) (p : Nat) : plsStep s p 0 [] p false := Or.inl ⟨rfl, rfl⟩
section
variable {w a : World} {b : Nat} {p : Pl} {s : ByteArray}
theorem PlIn.other (h : PlIn w b p) (n i : Nat) (v : Value) (hne : b ≠ n) : PlIn (w.setCell ⟨n, i, none⟩ v) b p :=
  (Below.heap_setCell w ⟨n, i, none⟩ v b hne).trans h
end

end Go.Proofs.Ytnglpkfkepfkkaa

/- Put and Drop of the program. -/
namespace Go.Proofs.Ytnglpkfkepfkkaa
open Go.RowKit Tre
theorem Tr.take {w : World} {A : Option Addr} {l : List Pl} (h : Tr w A l) (k : Nat) : Tr w A (l.take k) := fun h0 => by
  have hk : (l.take k).length ≤ l.length := by rw [List.length_take]; omega
  obtain ⟨b, off, e, hb, hc⟩ := h (by omega)
  exact ⟨b, off, e, hb, fun i hi => by rw [List.getElem_take]; exact hc i (by omega)⟩
theorem Tr.drop {w : World} {A A3 : Option Addr} {l : List Pl} {cap tz : Nat} (h : Tr w A l) (hcap : l.length ≤ cap) (he : (if cap = tz then A else Option.map (fun x => x.add (tz * 3)) A) = A3) : Tr w A3 (l.drop tz) := fun h0 => by
  rw [List.length_drop] at h0
  obtain ⟨b, off, e, hb, hc⟩ := h (by omega)
  rw [if_neg (by omega), e] at he
  refine ⟨b, off + tz * 3, by rw [← he]; simp [add_lit], hb, fun i hi => ?_⟩
  rw [List.length_drop] at hi
  rw [List.getElem_drop, show off + tz * 3 + i * 3 = off + (tz + i) * 3 by omega]
  exact hc _ (by omega)
theorem drop_none {A A3 : Option Addr} {cap tz : Nat} (hn : A = none → cap = 0) (he : (if cap = tz then A else Option.map (fun x => x.add (tz * 3)) A) = A3) (h : A3 = none) : cap - tz = 0 := by
  by_cases e : cap = tz
  · omega
  · rw [if_neg e, h, Option.map_eq_none_iff] at he
    have := hn he; omega

theorem AtPl.one {w : World} {b : Nat} {p : Pl} (h : PlIn w b p) : Tr w (some ⟨b, 0, none⟩) [p] := fun _ =>
  ⟨b, 0, rfl, h.lt, fun i hi => by
    obtain rfl : i = 0 := by simpa using hi
    exact h.cells⟩
end Go.Proofs.Ytnglpkfkepfkkaa

/- How a tree is read, by the program and by the document. -/
namespace Go.Proofs.Ytnglpkfkepfkkaa
open Go.RowKit Tre Nam Cod

def cntStep (s : ByteArray) (p : Nat) (bad : Bool) (n q : Nat) (bad' : Bool) : Prop := (isCount s p bad 64 = some ((n : Int), q) ∧ bad' = false) ∨ (isCount s p bad 64 = none ∧ n = 0 ∧ bad' = true)
/-- How far the list is. -/
def wayStep (s : ByteArray) (p : Nat) (bad : Bool) (n k : Nat) (l : List Pl) (q : Nat) (bad' : Bool) : Prop :=
  (∃ q0, isCount s p bad 64 = some ((n : Int), q0) ∧ plsStep s q0 k l q bad') ∨ (isCount s p bad 64 = none ∧ n = 0 ∧ l = [] ∧ bad' = true)
theorem wayStep.start {s : ByteArray} {p n q : Nat} {bad bad' : Bool} (h : cntStep s p bad n q bad') : wayStep s p bad n 0 [] q bad' := by
  rcases h with ⟨h, rfl⟩ | ⟨h, hn, rfl⟩
  · exact Or.inl ⟨q, h, plsStep.zero s q⟩
  · exact Or.inr ⟨h, hn, rfl, rfl⟩
theorem wayStep.good {s : ByteArray} {p n q : Nat} {bad : Bool} {l : List Pl} (h : wayStep s p bad n n l q false) : isTree s p bad = if treeB l = true then some (l, q) else none := by
  unfold isTree
  rcases h with ⟨q0, h, h2⟩ | ⟨_, _, _, h⟩
  · rcases h2 with ⟨h2, _⟩ | ⟨_, h2⟩
    · simp only [h, Option.bind_some, Int.toNat_natCast, h2]
    · cases h2
  · cases h

end Go.Proofs.Ytnglpkfkepfkkaa

/- Rows and slices of structs, whatever the struct: what lies where, what is cut out, what append makes. No function of the program in it. -/
namespace Go.Proofs.Ytnglpkfkepfkkaa
open Go.RowKit

/-- A kind of element: its type, how many cells it has, and which. -/
structure El (α : Type) where
  e : TypeId
  k : Nat
  c : α → List Value
  len : ∀ x, (c x).length = k
  one : ∀ x, ∀ u ∈ c x, u.oneCell' = true
  pos : 0 < k
section
variable {α : Type} (E : El α)
/-- From the cell o of block b on x lies. -/
def El.At (w : World) (b o : Nat) (x : α) : Prop := ∀ j u, (E.c x)[j]? = some u → w.cell? ⟨b, o + j, none⟩ = some u
/-- The slice at A holds these. -/
def El.Sl (w : World) (A : Option Addr) (l : List α) : Prop :=
  0 < l.length → ∃ b off, A = some ⟨b, off, none⟩ ∧ b < w.heap.size ∧ ∀ i (h : i < l.length), E.At w b (off + i * E.k) l[i]
/-- So, in a block ahead of B. -/
def El.SlB (B : Nat) (w : World) (A : Option Addr) (l : List α) : Prop :=
  0 < l.length → ∃ b off, A = some ⟨b, off, none⟩ ∧ b < B ∧ ∀ i (h : i < l.length), E.At w b (off + i * E.k) l[i]
/-- Block b is x's own. -/
def El.In (w : World) (b : Nat) (x : α) : Prop := w.heap[b]? = some (.cells (E.c x).toArray E.e (0, 0))
variable {E}
section
variable {W w w' : World} {b o B : Nat} {x : α} {A : Option Addr} {l : List α} {row : Option Nat}
theorem El.At.below (h : E.At W b o x) (hb : Below W.heap.size W w) (hl : b < W.heap.size) : E.At w b o x := fun j u hu => by rw [(bcell hb).1 _ _ hl]; exact h j u hu
theorem El.At.grown (h : E.At w b o x) (hg : w.grownBy w' row) (hne : some b ≠ row) : E.At w' b o x := fun j u hu => hg.cell (h j u hu) hne
theorem El.Sl.below (h : E.Sl W A l) (hb : Below W.heap.size W w) : E.Sl w A l := fun h0 => by
  obtain ⟨b, off, e, hl, hc⟩ := h h0
  exact ⟨b, off, e, Nat.lt_of_lt_of_le hl hb.size, fun i hi => (hc i hi).below hb hl⟩
theorem El.Sl.nil (w : World) (A : Option Addr) : E.Sl w A [] := fun h => by simp at h
theorem El.Sl.none_nil (h : E.Sl w none l) : l = [] := by
  rcases Nat.eq_zero_or_pos l.length with h0 | h0
  · exact List.eq_nil_of_length_eq_zero h0
  · obtain ⟨_, _, e, _⟩ := h h0; cases e
theorem El.Sl.take (h : E.Sl w A l) (n : Nat) : E.Sl w A (l.take n) := fun h0 => by
  have hk : (l.take n).length ≤ l.length := by rw [List.length_take]; omega
  obtain ⟨b, off, e, hb, hc⟩ := h (by omega)
  exact ⟨b, off, e, hb, fun i hi => by rw [List.getElem_take]; exact hc i (by omega)⟩
theorem El.Sl.drop {A3 : Option Addr} {cap tz : Nat} (h : E.Sl w A l) (hcap : l.length ≤ cap) (he : (if cap = tz then A else Option.map (fun x => x.add (tz * E.k)) A) = A3) : E.Sl w A3 (l.drop tz) := fun h0 => by
  rw [List.length_drop] at h0
  obtain ⟨b, off, e, hb, hc⟩ := h (by omega)
  rw [if_neg (by omega), e] at he
  refine ⟨b, off + tz * E.k, by rw [← he]; simp [Addr.add_lit], hb, fun i hi => ?_⟩
  rw [List.length_drop] at hi
  rw [List.getElem_drop, Nat.add_assoc, ← Nat.add_mul]
  exact hc _ (by omega)
theorem El.drop_none {A3 : Option Addr} {cap tz n : Nat} (hn : A = none → cap = 0) (he : (if cap = tz then A else Option.map (fun x => x.add n) A) = A3) (h : A3 = none) : cap - tz = 0 := by
  by_cases e : cap = tz
  · omega
  · rw [if_neg e, h, Option.map_eq_none_iff] at he
    have := hn he; omega
theorem El.SlB.of (h : E.Sl w A l) (hB : w.heap.size ≤ B) : E.SlB B w A l := fun h0 => by
  obtain ⟨b, off, e, hl, hc⟩ := h h0
  exact ⟨b, off, e, by omega, hc⟩
theorem El.SlB.sl (h : E.SlB B w A l) (hB : B ≤ w.heap.size) : E.Sl w A l := fun h0 => by
  obtain ⟨b, off, e, hl, hc⟩ := h h0
  exact ⟨b, off, e, by omega, hc⟩
theorem El.SlB.keep (h : E.SlB B w A l) (hg : w.grownBy w' row) (hrow : ∀ n, row = some n → B ≤ n) : E.SlB B w' A l := fun h0 => by
  obtain ⟨b, off, e, hl, hc⟩ := h h0
  exact ⟨b, off, e, hl, fun i hi => (hc i hi).grown hg (fun e => by have := hrow b e.symm; omega)⟩
theorem El.Sl.keep1 {a : Addr} (h : E.Sl w (some a) l) (hg : w.grownBy w' row) (hne : some a.block ≠ row) : E.Sl w' (some a) l := fun h0 => by
  obtain ⟨b, off, e, hl, hc⟩ := h h0
  cases e
  exact ⟨b, off, rfl, Nat.lt_of_lt_of_le hl hg.size, fun i hi => (hc i hi).grown hg hne⟩
theorem El.Sl.keep (h : E.Sl w A l) (hg : w.grownBy w' row) (hne : ∀ a, A = some a → some a.block ≠ row) : E.Sl w' A l := fun h0 => by
  obtain ⟨b, off, e, hl, hc⟩ := h h0
  exact ⟨b, off, e, Nat.lt_of_lt_of_le hl hg.size, fun i hi => (hc i hi).grown hg (hne _ e)⟩

theorem El.In.lt (h : E.In w b x) : b < w.heap.size := by
  rcases Nat.lt_or_ge b w.heap.size with hlt | hge
  · exact hlt
  · unfold El.In at h; rw [Array.getElem?_eq_none hge] at h; cases h
theorem El.In.cell (h : E.In w b x) (j : Nat) : w.cell? ⟨b, j, none⟩ = (E.c x)[j]? := by
  have := cell_of_row w b j _ E.e (0, 0) h
  rw [this]; simp
theorem El.In.at (h : E.In w b x) : E.At w b 0 x := fun j u hu => by rw [Nat.zero_add, h.cell]; exact hu
theorem El.In.frozen (h : E.In w b x) (i : Nat) : w.frozen? ⟨b, i, none⟩ = false := by
  unfold El.In at h
  simp [World.frozen?, h]
theorem El.In.new (w : World) (x : α) (cs : Array Value) (hc : cs = (E.c x).toArray) : E.In (w.alloc (.cells cs E.e)) w.heap.size x := by subst hc; exact heap_alloc_new w _
theorem El.In.below (h : E.In w b x) (hg : Below w.heap.size w w') : E.In w' b x := (hg.block b h.lt).trans h
theorem El.In.keep (h : E.In w b x) (hg : w.grownBy w' row) (hne : some b ≠ row) : E.In w' b x := (hg.block b h.lt hne).trans h
theorem El.In.alloc (h : E.In w b x) (o : Obj) : E.In (w.alloc o) b x := h.below (below_alloc (Below.refl _ _) o)
theorem El.In.set (h : E.In w b x) (y : α) (cs : Array Value) (hc : cs = (E.c y).toArray) : E.In (w.setRow b cs) b y := by subst hc; exact setRow_heap _ _ _ _ _ _ h
theorem El.In.put (h : E.In w b x) (y : α) (j : Nat) (u : Value) (hy : E.c y = (E.c x).set j u) : E.In (w.setCell ⟨b, j, none⟩ u) b y := by
  unfold El.In at h ⊢
  rw [hy]
  simp [World.setCell, Array.getElem?_modify, h]
theorem El.In.other (h : E.In w b x) (n i : Nat) (v : Value) (hne : b ≠ n) : E.In (w.setCell ⟨n, i, none⟩ v) b x :=
  (Below.heap_setCell w ⟨n, i, none⟩ v b hne).trans h
theorem El.In.rowN (h : E.In w b x) (n : Nat) (cs : Array Value) (hne : b ≠ n) : E.In (w.setRow n cs) b x := (setRow_other w n b cs hne).trans h
theorem El.In.sl (h : E.In w b x) : E.Sl w (some ⟨b, 0, none⟩) [x] := fun _ =>
  ⟨b, 0, rfl, h.lt, fun i hi => by
    obtain rfl : i = 0 := by simpa using hi
    rw [Nat.zero_mul]; exact h.at⟩
end

variable (E)
/-- The cells of a list. -/
def El.cells : List α → List Value
  | [] => []
  | x :: l => E.c x ++ El.cells l
variable {E}
theorem El.cells_len : ∀ l : List α, (E.cells l).length = l.length * E.k
  | [] => by simp [El.cells]
  | x :: l => by rw [El.cells, List.length_append, E.len, El.cells_len l, List.length_cons, Nat.succ_mul, Nat.add_comm]
theorem El.cells_app : ∀ l r : List α, E.cells (l ++ r) = E.cells l ++ E.cells r
  | [], r => rfl
  | x :: l, r => by rw [List.cons_append, El.cells, El.cells, El.cells_app l r, List.append_assoc]
theorem El.cells_one : ∀ l : List α, ∀ u ∈ E.cells l, u.oneCell' = true
  | [], u, h => by cases h
  | x :: l, u, h => by
    rcases List.mem_append.1 h with h | h
    · exact E.one x u h
    · exact El.cells_one l u h
theorem El.cells_at : ∀ (l : List α) (i : Nat) (h : i < l.length) (j : Nat) (u : Value), (E.c l[i])[j]? = some u → (E.cells l)[i * E.k + j]? = some u
  | x :: l, 0, _, j, u, hu => by
    rw [Nat.zero_mul, Nat.zero_add, El.cells, List.getElem?_append_left]
    · exact hu
    · have := (List.getElem?_eq_some_iff.1 hu).1; exact this
  | x :: l, i + 1, h, j, u, hu => by
    have := El.cells_at l i (by simpa using h) j u hu
    rw [El.cells, List.getElem?_append_right (by rw [E.len, Nat.succ_mul]; omega), E.len, Nat.succ_mul]
    rw [show i * E.k + E.k + j - E.k = i * E.k + j by omega]; exact this
theorem El.cells_get : ∀ (l : List α) (n : Nat) (u : Value), (E.cells l)[n]? = some u → ∃ i, ∃ h : i < l.length, ∃ j, n = i * E.k + j ∧ (E.c l[i])[j]? = some u
  | [], n, u, h => by simp [El.cells] at h
  | x :: l, n, u, h => by
    rw [El.cells] at h
    by_cases hn : n < E.k
    · rw [List.getElem?_append_left (by rw [E.len]; exact hn)] at h
      exact ⟨0, by simp, n, by rw [Nat.zero_mul, Nat.zero_add], h⟩
    · rw [List.getElem?_append_right (by rw [E.len]; omega), E.len] at h
      obtain ⟨i, hi, j, e, hu⟩ := El.cells_get l (n - E.k) u h
      exact ⟨i + 1, by simpa using hi, j, by rw [Nat.succ_mul]; omega, hu⟩
theorem El.Sl.cells {w : World} {a : Addr} {l : List α} (h : E.Sl w (some a) l) : ∀ j u, (E.cells l)[j]? = some u → w.cell? (a.add j) = some u := by
  intro n u hu
  obtain ⟨i, hi, j, rfl, hc⟩ := El.cells_get l n u hu
  obtain ⟨b, off, e, _, hat⟩ := h (by omega)
  obtain rfl := Option.some.inj e
  rw [Addr.add_lit, ← Nat.add_assoc]
  exact hat i hi j u hc

variable (E)
/-- The slice v holds these, in a row that the call has made. -/
def El.Own (w : World) (B : Nat) (v : Value) (l : List α) : Prop := w.ownsRow B E.e E.k v l.length (E.cells l)
variable {E}
section
variable {w w' : World} {B : Nat} {v : Value} {l : List α} {row : Option Nat}
theorem El.Own.nil (w : World) (B : Nat) : E.Own w B (.slice none 0 0) [] := World.ownsRow_nil w B E.e E.k
theorem El.Own.kept (h : E.Own w B v l) (hg : w.grownBy w' row) (hne : v.ownBlock = none ∨ v.ownBlock ≠ row) : E.Own w' B v l := World.ownsRow.kept h hg hne
theorem El.Own.below (h : E.Own w B v l) (hb : Below w.heap.size w w') : E.Own w' B v l :=
  World.ownsRow.kept h (row := none) ⟨hb.os, hb.tape, hb.output, hb.size, fun k hk _ => hb.block k hk⟩ (by cases hv : v.ownBlock <;> simp)
theorem El.Own.lt (h : E.Own w B v l) : ∀ n, v.ownBlock = some n → B ≤ n ∧ n < w.heap.size := World.ownsRow.lt h
theorem El.Own.rows (h : E.Own w B v l) : ∀ n, v.ownBlock = some n → B ≤ n := fun n e => (World.ownsRow.lt h n e).1
theorem El.Own.sl (h : E.Own w B v l) : ∃ A cap, v = .slice A l.length cap ∧ E.Sl w A l ∧ (A = none → cap = 0) ∧ l.length ≤ cap := by
  have hc := fun g (hg : v.ownBlock = some g) => World.ownsRow.cells h hg
  have hlt := World.ownsRow.lt h
  unfold El.Own at h
  rcases h.2 with ⟨rfl, h0⟩ | ⟨g, cap, cur, rfl, _, _, hnc, _⟩
  · have : l = [] := List.eq_nil_of_length_eq_zero h0
    subst this
    exact ⟨none, 0, rfl, El.Sl.nil w none, fun _ => rfl, Nat.le_refl _⟩
  · refine ⟨some ⟨g, 0, none⟩, cap, rfl, fun _ => ⟨g, 0, rfl, (hlt g rfl).2, fun i hi j u hu => ?_⟩, (fun e => by cases e), hnc⟩
    have := hc g rfl _ _ (El.cells_at l i hi j u hu)
    rw [Addr.add_lit, ← Nat.add_assoc] at this; exact this
theorem El.Own.empty (w : World) (B : Nat) (hB : B ≤ w.heap.size) : E.Own (w.alloc (.cells #[] E.e)) B (.slice (some ⟨w.heap.size, 0, none⟩) 0 0) [] :=
  World.ownsRow_made w #[] 0 hB (by unfold maxLen; omega) (Nat.zero_mul _).symm
end

/-- What a program says of the kind: its slices' type, and the type's zero. -/
structure El.Inn (E : El α) (P : Program) (st : TypeId) : Prop where
  und : P.underlying st = some (.slice E.e)
  info : ∃ i z, P.info? E.e = some i ∧ i.zero = some z ∧ i.size = E.k ∧ i.bytes ≤ 1000 ∧ z.cells.size = E.k
theorem El.inn_of {P : Program} {st : TypeId} {z : Value} {bytes : Nat} (hu : P.underlying st = some (.slice E.e)) (h : (P.info? E.e).map (fun i => (i.zero, i.size, i.bytes)) = some (some z, E.k, bytes)) (hz : z.cells.size = E.k) (hb : bytes ≤ 1000) : E.Inn P st := by
  obtain ⟨i, hi, hz0, hz1, hz2⟩ := info_parts h
  exact ⟨hu, i, z, hi, hz0, hz1, by rw [hz2]; exact hb, hz⟩
variable {P : Program} {st : TypeId}
theorem El.run_app (I : E.Inn P st) (w : World) (ty : TypeId) (B : Nat) (v : Value) (l r : List α) (hown : E.Own w B v l) (A : Option Addr) (m c : Nat) (hm : r.length = m) (hT : E.Sl w A r) (hc : A = none → c = 0) (hl : l.length + r.length ≤ 100000) (hB : B ≤ w.heap.size) :
    ∃ v' w', (Builtin.append_ #[st, st] ty #[v, .slice A m c]).run P w = .ok v' w' ∧ E.Own w' B v' (l ++ r) ∧ w.grownBy w' v.ownBlock ∧ (v'.ownBlock = v.ownBlock ∨ v'.ownBlock = some w.heap.size) := by
  subst hm
  obtain ⟨hu, i, z, hi, hz, hsz, hby, hzs⟩ := I
  cases A with
  | none =>
    obtain rfl := hT.none_nil
    obtain rfl := hc rfl
    refine ⟨v, w, run_append_owned_none (P := P) (w := w) B st ty E.e i E.k hu hi v l.length (E.cells l) hown, ?_, ⟨rfl, rfl, rfl, Nat.le_refl _, fun _ _ _ => rfl⟩, Or.inl rfl⟩
    rw [List.append_nil]; exact hown
  | some a =>
    have hb : (l.length + r.length) * i.bytes ≤ 100000 * 1000 := Nat.mul_le_mul hl hby
    obtain ⟨v', w', h1, h2, h3, _, h5⟩ := run_append_own_at (P := P) w B st ty E.e i z E.k i.bytes hu hi hz hsz rfl hzs E.pos v l.length (E.cells l) hown a r.length c (E.cells r) (El.cells_len r) hT.cells (El.cells_one r) (by unfold maxLen; omega) (by omega) hB
    refine ⟨v', w', h1, ?_, h3, h5⟩
    unfold El.Own
    rw [List.length_append, El.cells_app]; exact h2
theorem El.wp_app (I : E.Inn P st) {o : Oper} {a : Act} {w : World} {K : Act → World → Prop} {Q : Exit → Act → World → Prop} (s x : Operand)
    (ho : o.op = .call { callee := .builtin .append, args := #[s, x], argTypes := #[st, st] }) (B : Nat) (v : Value) (l r : List α) (hs : a.eval s = v) (hown : E.Own w B v l) (A : Option Addr) (m c : Nat) (hx : a.eval x = .slice A m c)
    (hm : r.length = m) (hT : E.Sl w A r) (hc : A = none → c = 0) (hl : l.length + r.length ≤ 100000) (hB : B ≤ w.heap.size)
    (h : ∀ v' w', E.Own w' B v' (l ++ r) → w.grownBy w' v.ownBlock → (v'.ownBlock = v.ownBlock ∨ v'.ownBlock = some w.heap.size) → K (a.put o.dst v') w') : o.wp P a w K Q := by
  obtain ⟨v', w', hr, h2, h3, h4⟩ := El.run_app I w o.type B v l r hown A m c hm hT hc hl hB
  unfold Oper.wp execOp
  simp only [ho, resolve, invoke, builtin, Sem.run_bind, Sem.run_pure, Result.andThen_ok, List.map_toArray, List.map_cons, List.map_nil, hs, hx, hr]
  exact h v' w' h2 h3 h4
theorem El.wpList_app (I : E.Inn P st) {ops : Array Oper} {rest : List Oper} {o : Oper} {a : Act} {w : World} {Q : Exit → Act → World → Prop} (hgd : o.guard = none) (s x : Operand)
    (ho : o.op = .call { callee := .builtin .append, args := #[s, x], argTypes := #[st, st] }) (B : Nat) (v : Value) (l r : List α) (hs : a.eval s = v) (hown : E.Own w B v l) (A : Option Addr) (m c : Nat) (hx : a.eval x = .slice A m c)
    (hm : r.length = m) (hT : E.Sl w A r) (hc : A = none → c = 0) (hl : l.length + r.length ≤ 100000) (hB : B ≤ w.heap.size)
    (h : ∀ v' w', E.Own w' B v' (l ++ r) → w.grownBy w' v.ownBlock → (v'.ownBlock = v.ownBlock ∨ v'.ownBlock = some w.heap.size) → wpList P ops Q rest (a.put o.dst v') w') : wpList P ops Q (o :: rest) a w :=
  wpList_plain hgd fun _ hK => El.wp_app I s x ho B v l r hs hown A m c hx hm hT hc hl hB fun v' w' h2 h3 h4 => hK _ _ (h v' w' h2 h3 h4)
/-- What a program says of the kind as a struct. -/
def isRow : TypeDesc → Bool
  | .struct _ => true
  | .array _ _ => true
  | _ => false
structure El.Row (E : El α) (P : Program) : Prop where
  size : (P.info? E.e).map (·.size) = some E.k
  desc : ∃ d, P.underlying E.e = some d ∧ isRow d = true
theorem El.run_load (R : El.Row E P) {w : World} {b off : Nat} {x : α} (h : E.At w b off x) : (loadVar E.e ⟨b, off, none⟩).run P w = .ok (.agg (E.c x).toArray) w := by
  obtain ⟨d, hu, hd⟩ := R.desc
  have hs0 := R.size
  have hl : (loadCells ⟨b, off, none⟩ (E.c x).length).run P w = .ok (E.c x).toArray w :=
    run_loadCells_list (P := P) w ⟨b, off, none⟩ (E.c x) (fun j v hv => by rw [Addr.add_lit]; exact h j v hv)
  cases hq : P.info? E.e with
  | none => simp [hq] at hs0
  | some i =>
    have hs : i.size = (E.c x).length := by rw [E.len]; simpa [hq] using hs0
    have hagg : (isAgg E.e).run P w = .ok true w := by
      unfold isAgg
      rw [Sem.run_bind, run_underlying hu w]
      cases d <;> simp_all [isRow]
    simp [loadVar, Sem.run_bind, hagg, sizeOf, typeInfo, hq, hs, hl]
theorem El.wp_load (R : El.Row E P) {o : Oper} {a : Act} {w : World} {K : Act → World → Prop} {Q : Exit → Act → World → Prop} (x : Operand) (ho : o.op = .load E.e x)
    (b off : Nat) (hx : a.eval x = .pointer (some ⟨b, off, none⟩)) (p : α) (hg : E.At w b off p) (cs : Array Value) (hc : cs = (E.c p).toArray)
    (h : K (a.put o.dst (.agg cs)) w) : o.wp P a w K Q := by
  subst hc
  unfold Oper.wp execOp
  simp only [ho, hx, Instr.loadAt, Instr.sureAddr, Sem.run_bind, Sem.run_pure, Result.andThen_ok, El.run_load R hg]
  exact h
theorem El.load (R : El.Row E P) {ops : Array Oper} {rest : List Oper} {o : Oper} {a : Act} {w : World} {Q : Exit → Act → World → Prop} (hgd : o.guard = none) (x : Operand) (ho : o.op = .load E.e x)
    (b off : Nat) (hx : a.eval x = .pointer (some ⟨b, off, none⟩)) (p : α) (hg : E.At w b off p) (cs : Array Value) (hc : cs = (E.c p).toArray)
    (h : wpList P ops Q rest (a.put o.dst (.agg cs)) w) : wpList P ops Q (o :: rest) a w :=
  wpList_plain hgd fun _ hK => El.wp_load R x ho b off hx p hg cs hc (hK _ _ h)
theorem El.store (R : El.Row E P) {ops : Array Oper} {rest : List Oper} {o : Oper} {a : Act} {w : World} {Q : Exit → Act → World → Prop} (hgd : o.guard = none) (x y : Operand) (ho : o.op = .store E.e x y)
    (b : Nat) (q : α) (cs : Array Value) (hc : cs = (E.c q).toArray) (hx : a.eval x = .pointer (some ⟨b, 0, none⟩)) (hy : a.eval y = .agg cs)
    (p : α) (hg : E.In w b p)
    (h : wpList P ops Q rest (a.put o.dst undef) (w.setRow b cs)) : wpList P ops Q (o :: rest) a w := by
  subst hc
  exact wpList_store_row hgd E.e x y ho b _ hx hy E.e _ hg (by simpa [E.len] using R.size) (by simp [E.len]) (by simpa using E.one q) h
theorem El.step_store (R : El.Row E P) {ops : Array Oper} {o : Oper} {a : Act} {w : World} {K : Act → World → Prop} {Q : Exit → Act → World → Prop} {F : Prop} (hgd : o.guard = none) (x y : Operand) (ho : o.op = .store E.e x y)
    (b : Nat) (q : α) (cs : Array Value) (hc : cs = (E.c q).toArray) (hx : a.eval x = .pointer (some ⟨b, 0, none⟩)) (hy : a.eval y = .agg cs)
    (p : α) (hg : E.In w b p)
    (h : K (a.put o.dst undef) (w.setRow b cs)) : if Region.wanted o (yielded ops a.tmps) = true then Oper.wp P o a w K Q else F := by
  rw [if_pos (by simp [Region.wanted, hgd])]
  subst hc
  exact wp_store_row E.e x y ho b _ hx hy E.e _ hg (by simpa [E.len] using R.size) (by simp [E.len]) (by simpa using E.one q) h
/-- One result, a struct of a block. -/
theorem El.ret1 (R : El.Row E P) {fn : Func} {K : Ending → World → Prop} {a : Act} {w : World} {b : Nat} {t : Tmp} {p : α} (h : E.In w b p) (hr : fn.results = #[.cell t E.e]) (hp : a.tmps.getD t undef = .pointer (some ⟨b, 0, none⟩)) (hd : a.defers = [])
    (cs : Array Value) (hc : cs = (E.c p).toArray) (hR : K (.returned (.agg cs)) w) : bodyPost P fn K .ret a w := by
  subst hc
  have hp' : a.tmps[t]?.getD undef = .pointer (some ⟨b, 0, none⟩) := by simpa using hp
  refine bodyPost_ret (v := .agg (E.c p).toArray) ?_ hd hR
  simp [results, hr, hp', asAddr, El.run_load R h.at]
/-- Two results, a struct of a block and a word. -/
theorem El.ret2 (R : El.Row E P) {fn : Func} {K : Ending → World → Prop} {a : Act} {w : World} {b : Nat} {t u : Tmp} {v : Value} {p : α} (h : E.In w b p) (hr : fn.results = #[.cell t E.e, .tmp u]) (hp : a.tmps.getD t undef = .pointer (some ⟨b, 0, none⟩)) (hv : a.tmps.getD u undef = v) (hd : a.defers = [])
    (cs : Array Value) (hc : cs = (E.c p).toArray) (hR : K (.returned (.tuple #[.agg cs, v])) w) : bodyPost P fn K .ret a w := by
  subst hc
  refine bodyPost_ret (v := .tuple #[.agg (E.c p).toArray, v]) ?_ hd hR
  rw [results_cell_tmp hr, hp, hv]
  simp only [asAddr, Sem.run_pure, Result.andThen, El.run_load R h.at]
end
end Go.Proofs.Ytnglpkfkepfkkaa

/- Rows of structs, whatever the struct: made, written at a place, built of one. No function of the program in it. -/
namespace Go.Proofs.Ytnglpkfkepfkkaa
open Go.RowKit

section
variable {α : Type} {E : El α}
theorem El.cells_take (l : List α) (i : Nat) (h : i ≤ l.length) : E.cells (l.take i) = (E.cells l).take (i * E.k) := by
  have e : E.cells l = E.cells (l.take i) ++ E.cells (l.drop i) := by rw [← El.cells_app, List.take_append_drop]
  have hl : (E.cells (l.take i)).length = i * E.k := by rw [El.cells_len, List.length_take, Nat.min_eq_left h]
  rw [e]; exact (List.take_left' hl).symm
theorem El.cells_drop (l : List α) (i : Nat) (h : i ≤ l.length) : E.cells (l.drop i) = (E.cells l).drop (i * E.k) := by
  have e : E.cells l = E.cells (l.take i) ++ E.cells (l.drop i) := by rw [← El.cells_app, List.take_append_drop]
  have hl : (E.cells (l.take i)).length = i * E.k := by rw [El.cells_len, List.length_take, Nat.min_eq_left h]
  rw [e]; exact (List.drop_left' hl).symm
theorem El.cells_set (l : List α) (i : Nat) (h : i < l.length) (x : α) : E.cells (l.set i x) = (E.cells l).take (i * E.k) ++ E.c x ++ (E.cells l).drop (i * E.k + E.k) := by
  rw [List.set_eq_take_append_cons_drop, if_pos h, El.cells_app, El.cells, El.cells_take l i (by omega), El.cells_drop l (i + 1) h, Nat.succ_mul, List.append_assoc]
theorem El.cells_rep (x : α) : ∀ n, (E.cells (List.replicate n x)).length = n * E.k := fun n => by rw [El.cells_len, List.length_replicate]
theorem El.made (x : α) (z : Array Value) (hz : z.toList = E.c x) (n : Nat) : (madeCells z (n * E.k)).toList = E.cells (List.replicate n x) := by
  have hzs : z.size = E.k := by rw [← Array.length_toList, hz, E.len]
  have hpos := E.pos
  apply List.ext_getElem?
  intro m
  by_cases hm : m < n * E.k
  · have h1 : m / E.k < n := Nat.div_lt_of_lt_mul (by rw [Nat.mul_comm]; exact hm)
    have h2 : m % E.k < E.k := Nat.mod_lt _ hpos
    have hu : (E.c x)[m % E.k]? = some ((E.c x)[m % E.k]'(by rw [E.len]; exact h2)) := List.getElem?_eq_getElem _
    have h3 := El.cells_at (E := E) (List.replicate n x) (m / E.k) (by simpa using h1) (m % E.k) _ (by rw [List.getElem_replicate]; exact hu)
    rw [Nat.mul_comm, Nat.div_add_mod] at h3
    rw [h3]
    simp only [madeCells, Array.getElem?_toList, Array.getElem?_map, Array.getElem?_range, hm, if_true, Option.map_some, hzs]
    congr 1
    simp only [← hz, Array.getElem_toList]
    exact getElem!_pos z _ (by omega)
  · rw [List.getElem?_eq_none (by rw [Array.length_toList, size_madeCells]; omega), List.getElem?_eq_none (by rw [El.cells_rep]; omega)]

variable {P : Program} {st : TypeId}
/-- make([]T, n). -/
theorem El.wp_make (I : E.Inn P st) (x : α) (hx : ∃ i z, P.info? E.e = some i ∧ i.zero = some z ∧ z.cells.toList = E.c x) {o : Oper} {a : Act} {w : World} {K : Act → World → Prop} {Q : Exit → Act → World → Prop} (lx cx : Operand)
    (ho : o.op = .makeSlice st lx cx) (B n c : Nat) (hl : a.eval lx = .int .i64 n) (hc : a.eval cx = .int .i64 c) (hn : c ≤ 100000) (hnc : n ≤ c) (hB : B ≤ w.heap.size)
    (h : ∀ w', E.Own w' B (.slice (some ⟨w.heap.size, 0, none⟩) n c) (List.replicate n x) → w.grownBy w' none → w.heap.size < w'.heap.size → K (a.put o.dst (.slice (some ⟨w.heap.size, 0, none⟩) n c)) w') : o.wp P a w K Q := by
  obtain ⟨hu, i, z, hi, hz, hsz, hby, hzs⟩ := I
  obtain ⟨i', z', hi', hz', hzc⟩ := hx
  rw [hi] at hi'; cases hi'
  rw [hz] at hz'; cases hz'
  have hb : i.bytes * c ≤ 1000 * 100000 := Nat.mul_le_mul hby hn
  have hb' : (i.bytes : Int) * (c : Int) ≤ 281474976710656 := by
    have h : ((i.bytes * c : Nat) : Int) ≤ 281474976710656 := by omega
    rwa [Int.natCast_mul] at h
  have hr := run_make (P := P) w st E.e i z hu hi hz .i64 .i64 n c (by omega) (by omega) hb' (by omega)
  simp only [Int.toNat_natCast] at hr
  unfold Oper.wp execOp
  simp only [ho, hl, hc, Sem.run_bind, Sem.run_pure, Result.andThen_ok, hr]
  refine h _ ⟨by rw [List.length_replicate, El.cells_rep], .inr ⟨w.heap.size, c, _, ?_, hB, heap_alloc_new w _, ?_, by unfold maxLen; omega, ?_, ?_⟩⟩ (World.grownBy_alloc w _ none) (by simp)
  · rw [List.length_replicate]
  · rw [List.length_replicate]; exact hnc
  · rw [size_madeCells, hsz]
  · rw [hsz, El.made x z.cells hzc c, List.length_replicate, ← El.cells_rep (E := E) x n]
    obtain ⟨d, rfl⟩ : ∃ d, c = n + d := ⟨c - n, by omega⟩
    rw [← List.replicate_append_replicate, El.cells_app]
    exact List.take_left
theorem El.wpList_make (I : E.Inn P st) (x : α) (hx : ∃ i z, P.info? E.e = some i ∧ i.zero = some z ∧ z.cells.toList = E.c x) {ops : Array Oper} {rest : List Oper} {o : Oper} {a : Act} {w : World} {Q : Exit → Act → World → Prop} (hgd : o.guard = none) (lx cx : Operand)
    (ho : o.op = .makeSlice st lx cx) (B n c : Nat) (hl : a.eval lx = .int .i64 n) (hc : a.eval cx = .int .i64 c) (hn : c ≤ 100000) (hnc : n ≤ c) (hB : B ≤ w.heap.size)
    (h : ∀ w', E.Own w' B (.slice (some ⟨w.heap.size, 0, none⟩) n c) (List.replicate n x) → w.grownBy w' none → w.heap.size < w'.heap.size → wpList P ops Q rest (a.put o.dst (.slice (some ⟨w.heap.size, 0, none⟩) n c)) w') : wpList P ops Q (o :: rest) a w :=
  wpList_plain hgd fun _ hK => El.wp_make I x hx lx cx ho B n c hl hc hn hnc hB fun w' h1 h2 h3 => hK _ _ (h w' h1 h2 h3)

/-- s[i] = x, in a row of the call's own. -/
theorem El.wp_setAt (R : El.Row E P) {o : Oper} {a : Act} {w : World} {K : Act → World → Prop} {Q : Exit → Act → World → Prop} (x y : Operand) (ho : o.op = .store E.e x y)
    (B g cap i : Nat) (l : List α) (q : α) (hown : E.Own w B (.slice (some ⟨g, 0, none⟩) l.length cap) l) (hi : i < l.length) (cs : Array Value) (hcs : cs = (E.c q).toArray) (hx : a.eval x = .pointer (some ⟨g, i * E.k, none⟩)) (hy : a.eval y = .agg cs)
    (h : ∀ w', E.Own w' B (.slice (some ⟨g, 0, none⟩) l.length cap) (l.set i q) → w.grownBy w' (some g) → w'.heap.size = w.heap.size → K (a.put o.dst undef) w') : o.wp P a w K Q := by
  subst hcs
  unfold El.Own at hown
  rcases hown.2 with ⟨h', _⟩ | ⟨g', cap', cur, h', hb, hg, hnc, hcm, hcsz, htake⟩
  · simp at h'
  · simp only [Value.slice.injEq, Option.some.injEq, Addr.mk.injEq, and_true, true_and] at h'
    obtain ⟨rfl, rfl⟩ := h'
    have hlen := hown.1
    have hik : i * E.k + E.k ≤ l.length * E.k := by rw [← Nat.succ_mul]; exact Nat.mul_le_mul_right _ hi
    have hck : l.length * E.k ≤ cap * E.k := Nat.mul_le_mul_right _ hnc
    have hs := run_storeCells_at (P := P) g (i * E.k) E.e (E.c q) 0 cur w hg (by rw [E.len]; omega) (E.one q)
    have hsz : ((E.c q).toArray).size = E.k := by simp [E.len]
    have hv : (storeVar E.e ⟨g, i * E.k, none⟩ (.agg (E.c q).toArray)).run P w = .ok () (w.setRow g (cur.toList.take (i * E.k) ++ E.c q ++ cur.toList.drop (i * E.k + E.k)).toArray) := by
      have hR := R.size
      cases hq : P.info? E.e with
      | none => simp [hq] at hR
      | some inf =>
        have hinf : inf.size = E.k := by simpa [hq] using hR
        simp only [Nat.add_zero, E.len] at hs
        simp [storeVar, sizeOf, typeInfo, hq, Value.cells, hinf, E.len, hs]
    unfold Oper.wp execOp
    simp only [ho, hx, hy, Instr.storeAt, Instr.sureAddr, Sem.run_bind, Sem.run_pure, Result.andThen_ok, hv]
    refine h _ ⟨by rw [List.length_set, El.cells_len, List.length_set], .inr ⟨g, cap, _, by rw [List.length_set], hb, setRow_heap w g cur _ E.e (0, 0) hg, by rw [List.length_set]; exact hnc, hcm, ?_, ?_⟩⟩ ⟨rfl, rfl, rfl, by simp, fun k _ hk => setRow_other w g k _ (fun e => hk (by simp [e]))⟩ (by simp)
    · simp only [List.size_toArray, List.length_append, List.length_take, List.length_drop, Array.length_toList, E.len]; omega
    · rw [List.length_set, El.cells_set l i hi q, ← htake]
      have hcl : cur.toList.length = cap * E.k := by rw [Array.length_toList, hcsz]
      generalize cur.toList = C at *
      simp only [List.toList_toArray]
      rw [List.take_take, Nat.min_eq_left (by omega), List.drop_take]
      have e1 : (C.take (i * E.k)).length = i * E.k := by rw [List.length_take]; omega
      have e2 : (C.take (i * E.k) ++ E.c q).length = i * E.k + E.k := by rw [List.length_append, e1, E.len]
      rw [List.take_append (l₁ := C.take (i * E.k) ++ E.c q), e2, List.take_of_length_le (by omega : (C.take (i * E.k) ++ E.c q).length ≤ l.length * E.k)]
theorem El.wpList_setAt (R : El.Row E P) {ops : Array Oper} {rest : List Oper} {o : Oper} {a : Act} {w : World} {Q : Exit → Act → World → Prop} (hgd : o.guard = none) (x y : Operand) (ho : o.op = .store E.e x y)
    (B g cap i : Nat) (l : List α) (q : α) (hown : E.Own w B (.slice (some ⟨g, 0, none⟩) l.length cap) l) (hi : i < l.length) (cs : Array Value) (hcs : cs = (E.c q).toArray) (hx : a.eval x = .pointer (some ⟨g, i * E.k, none⟩)) (hy : a.eval y = .agg cs)
    (h : ∀ w', E.Own w' B (.slice (some ⟨g, 0, none⟩) l.length cap) (l.set i q) → w.grownBy w' (some g) → w'.heap.size = w.heap.size → wpList P ops Q rest (a.put o.dst undef) w') : wpList P ops Q (o :: rest) a w :=
  wpList_plain hgd fun _ hK => El.wp_setAt R x y ho B g cap i l q hown hi cs hcs hx hy fun w' h1 h2 h3 => hK _ _ (h w' h1 h2 h3)
end
end Go.Proofs.Ytnglpkfkepfkkaa

/- Put and Drop of the document. -/
namespace Go.Proofs.Ytnglpkfkepfkkaa
open Go.RowKit Tre
/-- The slice at A holds these places, in a block ahead of B. -/
def TrB (B : Nat) (w : World) (A : Option Addr) (l : List Pl) : Prop :=
  0 < l.length → ∃ b off, A = some ⟨b, off, none⟩ ∧ b < B ∧ ∀ i (h : i < l.length), AtPl w b (off + i * 3) l[i]
theorem TrB.of {B : Nat} {w : World} {A : Option Addr} {l : List Pl} (h : Tr w A l) (hB : w.heap.size ≤ B) : TrB B w A l := fun h0 => by
  obtain ⟨b, off, e, hl, hc⟩ := h h0
  exact ⟨b, off, e, by omega, hc⟩
theorem AtPl.grown {w w' : World} {b o : Nat} {p : Pl} {row : Option Nat} (h : AtPl w b o p) (hg : w.grownBy w' row) (hne : some b ≠ row) : AtPl w' b o p :=
  ⟨hg.cell h.1 hne, hg.cell h.2.1 hne, hg.cell h.2.2 hne⟩
theorem TrB.keep {B : Nat} {w w' : World} {A : Option Addr} {l : List Pl} {row : Option Nat} (h : TrB B w A l) (hg : w.grownBy w' row) (hrow : ∀ k, row = some k → B ≤ k) : TrB B w' A l := fun h0 => by
  obtain ⟨b, off, e, hl, hc⟩ := h h0
  exact ⟨b, off, e, hl, fun i hi => (hc i hi).grown hg (fun e => by have := hrow b e.symm; omega)⟩
theorem TrB.alloc {B : Nat} {w : World} {A : Option Addr} {l : List Pl} (h : TrB B w A l) (hB : B ≤ w.heap.size) (o : Obj) : TrB B (w.alloc o) A l :=
  h.keep (World.grownBy_alloc w o none) (fun k e => by cases e)
theorem Tr.keep1 {w w' : World} {a : Addr} {l : List Pl} {row : Option Nat} (h : Tr w (some a) l) (hg : w.grownBy w' row) (hne : some a.block ≠ row) : Tr w' (some a) l := fun h0 => by
  obtain ⟨b, off, e, hl, hc⟩ := h h0
  cases e
  exact ⟨b, off, rfl, Nat.lt_of_lt_of_le hl hg.size, fun i hi => (hc i hi).grown hg hne⟩

end Go.Proofs.Ytnglpkfkepfkkaa

/- Trees as sorted lists: what put, drop and a move make of them. No program in it. -/
namespace Tre
/-- What undoes a move: what was, whether it had a place, whether it did anything. -/
structure Un where
  was : Pl
  had : Bool
  did : Bool
def noUn : Un := ⟨zero, false, false⟩
/-- A tree behind a move of p's node to p. -/
def doL (l : List Pl) (p : Pl) : List Pl × Un := if above l p.n p.u = true then (l, noUn) else (putL l p, ⟨(get l p.n).getD zero, (get l p.n).isSome, true⟩)
/-- A tree behind moves, one by one, and what undoes each. -/
def foldL (l : List Pl) : List Pl → List Pl × List Un
  | [] => (l, [])
  | p :: ps => ((foldL (doL l p).1 ps).1, (doL l p).2 :: (foldL (doL l p).1 ps).2)
end Tre

/- Places, operations and undos as elements; Clone of the library; Do and Back of both. -/
namespace Go.Proofs.Ytnglpkfkepfkkaa
open Go.RowKit Tre Cod

def plE : El Pl where
  e := 164
  k := 3
  c p := [.int .i64 p.n, .int .i64 p.u, .string p.s]
  len _ := rfl
  one p u h := by
    simp only [List.mem_cons, List.not_mem_nil, or_false] at h
    rcases h with rfl | rfl | rfl <;> rfl
  pos := by decide
def opE : El Mv where
  e := 64
  k := 7
  c m := [.int .i64 m.C, .int .i64 m.D, .int .i64 m.I, .int .i64 m.M, .int .i64 m.K, .int .i64 m.U, .string m.s]
  len _ := rfl
  one p u h := by
    simp only [List.mem_cons, List.not_mem_nil, or_false] at h
    rcases h with rfl | rfl | rfl | rfl | rfl | rfl | rfl <;> rfl
  pos := by decide
def unE : El Un where
  e := 166
  k := 5
  c u := [.int .i64 u.was.n, .int .i64 u.was.u, .string u.was.s, .bool u.had, .bool u.did]
  len _ := rfl
  one p u h := by
    simp only [List.mem_cons, List.not_mem_nil, or_false] at h
    rcases h with rfl | rfl | rfl | rfl | rfl <;> rfl
  pos := by decide
theorem opInn : opE.Inn Try.prog 23 := El.inn_of (z := .agg #[.int .i64 0, .int .i64 0, .int .i64 0, .int .i64 0, .int .i64 0, .int .i64 0, .string ⟨#[]⟩]) (bytes := 64) Try.underlying23 (by kernel_rfl) rfl (by decide)
theorem opRow : opE.Row Try.prog := ⟨by kernel_rfl, _, Try.underlying64, rfl⟩
theorem opAt {w : World} {b o : Nat} {m : Mv} (h : opE.At w b o m) : w.cell? ⟨b, o, none⟩ = some (.int .i64 m.C) ∧ w.cell? ⟨b, o + 1, none⟩ = some (.int .i64 m.D) ∧ w.cell? ⟨b, o + 2, none⟩ = some (.int .i64 m.I) ∧ w.cell? ⟨b, o + 3, none⟩ = some (.int .i64 m.M) ∧ w.cell? ⟨b, o + 4, none⟩ = some (.int .i64 m.K) ∧ w.cell? ⟨b, o + 5, none⟩ = some (.int .i64 m.U) ∧ w.cell? ⟨b, o + 6, none⟩ = some (.string m.s) :=
  ⟨h 0 _ rfl, h 1 _ rfl, h 2 _ rfl, h 3 _ rfl, h 4 _ rfl, h 5 _ rfl, h 6 _ rfl⟩
theorem opIn7 {w : World} {b : Nat} {m : Mv} (h : opE.In w b m) : w.cell? ⟨b, 0, none⟩ = some (.int .i64 m.C) ∧ w.cell? ⟨b, 1, none⟩ = some (.int .i64 m.D) ∧ w.cell? ⟨b, 2, none⟩ = some (.int .i64 m.I) ∧ w.cell? ⟨b, 3, none⟩ = some (.int .i64 m.M) ∧ w.cell? ⟨b, 4, none⟩ = some (.int .i64 m.K) ∧ w.cell? ⟨b, 5, none⟩ = some (.int .i64 m.U) ∧ w.cell? ⟨b, 6, none⟩ = some (.string m.s) :=
  ⟨h.cell 0, h.cell 1, h.cell 2, h.cell 3, h.cell 4, h.cell 5, h.cell 6⟩
/-- A slice of the whole: what it says, and that it holds the list. -/
def SlV {α : Type} (E : El α) (w : World) (A : Option Addr) (c : Nat) (l : List α) : Prop := E.Sl w A l ∧ (A = none → c = 0) ∧ l.length ≤ c
theorem SlV.below {α : Type} {E : El α} {W w : World} {A : Option Addr} {c : Nat} {l : List α} (h : SlV E W A c l) (hb : Below W.heap.size W w) : SlV E w A c l := ⟨h.1.below hb, h.2⟩
theorem SlV.nil {α : Type} (E : El α) (w : World) : SlV E w none 0 [] := ⟨El.Sl.nil w none, fun _ => rfl, Nat.le_refl _⟩
theorem frs_nil (B : Nat) : Frs B none := fun a e => by cases e
theorem El.Own.frs {α : Type} {E : El α} {w : World} {B n c : Nat} {A : Option Addr} {l : List α} (h : E.Own w B (.slice A n c) l) : Frs B A := fun a e => (World.ownsRow.lt h a.block (by rw [e]; rfl)).1
/-- A block ahead of it is written: it stays. -/
theorem SlV.keep {α : Type} {E : El α} {w w' : World} {A : Option Addr} {c B b : Nat} {l : List α} (h : SlV E w A c l) (hf : Frs B A) (hg : w.grownBy w' (some b)) (hb : b < B) : SlV E w' A c l :=
  ⟨h.1.keep hg (fun a e e2 => by have := hf a e; have := Option.some.inj e2; omega), h.2⟩
theorem by_row (w : World) (b : Nat) (cs : Array Value) : w.grownBy (w.setRow b cs) (some b) := ⟨rfl, rfl, rfl, by simp, fun k _ hk => setRow_other w b k cs (fun e => hk (by rw [e]))⟩
theorem by_cell (w : World) (b i : Nat) (v : Value) : w.grownBy (w.setCell ⟨b, i, none⟩ v) (some b) := ⟨rfl, rfl, rfl, by simp, fun k _ hk => heap_setCell_other w ⟨b, i, none⟩ k v (fun e => hk (by rw [e]))⟩
theorem by_cell2 {w w' : World} {b : Nat} (h : w.grownBy w' (some b)) (i : Nat) (v : Value) : w.grownBy (w'.setCell ⟨b, i, none⟩ v) (some b) := by
  have hg := by_cell w' b i v
  exact ⟨hg.os.trans h.os, hg.tape.trans h.tape, hg.output.trans h.output, Nat.le_trans h.size hg.size, fun k hk hne => (hg.block k (Nat.lt_of_lt_of_le hk h.size) hne).trans (h.block k hk hne)⟩
theorem SlV.own {α : Type} {E : El α} {w : World} {B : Nat} {v : Value} {l : List α} (h : E.Own w B v l) : ∃ A c, v = .slice A l.length c ∧ SlV E w A c l :=
  let ⟨A, c, e, h1, h2, h3⟩ := h.sl
  ⟨A, c, e, h1, h2, h3⟩
def mvPl (m : Mv) : Pl := ⟨m.K, m.U, m.s⟩
theorem below_own {w w1 w2 : World} {row : Option Nat} (h : Below w.heap.size w w1) (hg : w1.grownBy w2 row) (hrow : ∀ n, row = some n → w.heap.size ≤ n) : Below w.heap.size w w2 := h.grown hg h.size hrow

end Go.Proofs.Ytnglpkfkepfkkaa

/- Fold of the program; the document's Do and Fold. -/
namespace Go.Proofs.Ytnglpkfkepfkkaa
open Go.RowKit Tre Cod
/-- The moves of operations. -/
def mvs (o : List Mv) : List Pl := o.map mvPl
end Go.Proofs.Ytnglpkfkepfkkaa

/- The same places, operations, undos: the document's answers. -/
namespace Go.Proofs.Ytnglpkfkepfkkaa
open Go.RowKit Tre Cod
theorem mv_unlike {p q : Mv} (h : ¬ p = q) : ((p.C == q.C) = false) ∨ (p.C = q.C ∧ (p.D == q.D) = false) ∨ (p.C = q.C ∧ p.D = q.D ∧ (p.I == q.I) = false) ∨ (p.C = q.C ∧ p.D = q.D ∧ p.I = q.I ∧ (p.M == q.M) = false) ∨ (p.C = q.C ∧ p.D = q.D ∧ p.I = q.I ∧ p.M = q.M ∧ (p.K == q.K) = false) ∨ (p.C = q.C ∧ p.D = q.D ∧ p.I = q.I ∧ p.M = q.M ∧ p.K = q.K ∧ (p.U == q.U) = false) ∨ (p.C = q.C ∧ p.D = q.D ∧ p.I = q.I ∧ p.M = q.M ∧ p.K = q.K ∧ p.U = q.U ∧ (p.s.toList == q.s.toList) = false) := by
  by_cases h0 : p.C = q.C
  rotate_left
  · left; exact beq_eq_false_iff_ne.2 h0
  by_cases h1 : p.D = q.D
  rotate_left
  · right; left; exact ⟨h0, beq_eq_false_iff_ne.2 h1⟩
  by_cases h2 : p.I = q.I
  rotate_left
  · right; right; left; exact ⟨h0, h1, beq_eq_false_iff_ne.2 h2⟩
  by_cases h3 : p.M = q.M
  rotate_left
  · right; right; right; left; exact ⟨h0, h1, h2, beq_eq_false_iff_ne.2 h3⟩
  by_cases h4 : p.K = q.K
  rotate_left
  · right; right; right; right; left; exact ⟨h0, h1, h2, h3, beq_eq_false_iff_ne.2 h4⟩
  by_cases h5 : p.U = q.U
  rotate_left
  · right; right; right; right; right; left; exact ⟨h0, h1, h2, h3, h4, beq_eq_false_iff_ne.2 h5⟩
  by_cases h6 : p.s = q.s
  · exfalso; apply h
    obtain ⟨a, b, c, d, e, f, g⟩ := p; obtain ⟨a', b', c', d', e', f', g'⟩ := q; simp only at h0 h1 h2 h3 h4 h5 h6; rw [h0, h1, h2, h3, h4, h5, h6]
  · right; right; right; right; right; right; exact ⟨h0, h1, h2, h3, h4, h5, ne_beq h6⟩
end Go.Proofs.Ytnglpkfkepfkkaa

/- The same operations and undos: the document's answers. -/
namespace Go.Proofs.Ytnglpkfkepfkkaa
open Go.RowKit Tre Cod

set_option maxRecDepth 100000 in
set_option maxHeartbeats 4000000 in
theorem sameOp_any (A1 A2 : Option Addr) (c1 c2 : Nat) (l m : List Mv) (w : World) (hl : l.length ≤ 50000) (hm : m.length ≤ 50000) (h1 : opE.Sl w A1 l) (h2 : opE.Sl w A2 m) :
    Calls Try.prog 45 #[.slice A1 l.length c1, .slice A2 m.length c2] w fun e w' => ∃ b, e = .returned (.bool b) ∧ (b = true ↔ l = m) ∧ Below w.heap.size w w' := by
  by_cases hlen : l.length = m.length
  · rw [← hlen]
    have HL := Lib.hid hlen
    clear hlen
    go_enter Try.func45, Try.ntmps45
    go_wp2
    go_loopw [5] (fun x wr => ∃ k : Nat, k ≤ l.length ∧ x = .int .i64 k ∧ (∀ j (hj : j < k) (ha : j < l.length) (hb : j < m.length), l[j] = m[j]) ∧ Below w.heap.size w wr) (fun x _ => l.length - (intOf x).toNat)
    case atStart => exact ⟨0, Nat.zero_le _, rfl, fun j hj => by omega, Below.refl _ _⟩
    case round =>
      obtain ⟨k, hk, rfl, hall, hnx⟩ := hrel
      by_cases hlt : k < l.length
      · obtain ⟨b1, o1, hA1, hw1, hc1⟩ := h1 (by omega)
        have hlt2 : k < m.length := by have := HL.out; omega
        obtain ⟨b2, o2, hA2, hw2, hc2⟩ := h2 (by omega)
        have hat : opE.At wr b1 (o1 + k * 7) l[k] := (hc1 k hlt).below hnx hw1
        have hat2 : opE.At wr b2 (o2 + k * 7) m[k] := (hc2 k hlt2).below hnx hw2
        obtain ⟨p, hp⟩ : ∃ p, l[k] = p := ⟨_, rfl⟩
        obtain ⟨q, hq⟩ : ∃ q, m[k] = q := ⟨_, rfl⟩
        rw [hp] at hat
        rw [hq] at hat2
        have HP := Lib.hid hp
        have HQ := Lib.hid hq
        have HA := Lib.hid hall
        obtain ⟨q0, q1, q2, q3, q4, q5, q6⟩ := opAt hat
        obtain ⟨r0, r1, r2, r3, r4, r5, r6⟩ := opAt hat2
        clear hc1 hc2 hp hq h1 h2 hall hat hat2
        subst hA1 hA2
        by_cases hpq : p = q
        · have HE := Lib.hid hpq
          subst hpq
          go_wp2
          go_quiet (fail)
          go_wp2
          go_roundw
          case rel =>
            refine ⟨k + 1, by omega, by go_num, fun j hj ha hb => ?_, below_drew hnx _⟩
            by_cases e : j = k
            · subst e; rw [HP.out, HQ.out]
            · exact HA.out j (by omega) ha hb
          case measure => simp [intOf]; omega
        · have HN := Lib.hid hpq
          rcases mv_unlike hpq with hu | ⟨a0, hu⟩ | ⟨a0, a1, hu⟩ | ⟨a0, a1, a2, hu⟩ | ⟨a0, a1, a2, a3, hu⟩ | ⟨a0, a1, a2, a3, a4, hu⟩ | ⟨a0, a1, a2, a3, a4, a5, hu⟩
          all_goals
            clear hpq
            go_wp2
            go_quiet (fail)
            go_wp2
            go_ret
            refine ⟨false, rfl, ⟨fun h => (by cases h), fun h => ?_⟩, below_drew hnx _⟩
            subst h
            exact absurd (HP.out.symm.trans HQ.out) HN.out
      · obtain rfl : k = l.length := by omega
        have HA := Lib.hid hall
        clear hall
        go_wp2
        go_ret
        exact ⟨true, rfl, ⟨fun _ => List.ext_getElem HL.out fun j ha hb => HA.out j ha ha hb, fun _ => rfl⟩, hnx⟩
  · have HL := Lib.hid hlen
    have hne : ¬ m.length = l.length := fun e => hlen e.symm
    go_enter Try.func45, Try.ntmps45
    go_wp2
    go_ret
    exact ⟨false, rfl, ⟨fun h => (by cases h), fun h => absurd (congrArg List.length h) HL.out⟩, Below.refl _ _⟩
end Go.Proofs.Ytnglpkfkepfkkaa
