/- A place in a block, a list of places in a slice; Find of the program. -/
import Derived.Test.YtfhonobaddkmhaaBs
import Derived.Test.YtfhonobaddkmhaaTm
import Derived.BigQuiet
import Derived.Deep.QuietTactic
import Derived.Lib.QuietBelow
namespace Go.Proofs.Ytfhonobaddkmhaa
open Go.RowKit Tre

theorem alloc_size (w : World) (o : Obj) : (w.alloc o).heap.size = w.heap.size + 1 := by simp
def i64 (n : Int) : Prop := -9223372036854775808 ≤ n ∧ n ≤ 9223372036854775807
/-- From the cell o of block b on a place lies. -/
def AtPl (w : World) (b o : Nat) (p : Pl) : Prop :=
  w.cell? ⟨b, o, none⟩ = some (.int .i64 p.n) ∧ w.cell? ⟨b, o + 1, none⟩ = some (.int .i64 p.u) ∧ w.cell? ⟨b, o + 2, none⟩ = some (.string p.s)
theorem AtPl.below {W w : World} {b o : Nat} {p : Pl} (h : AtPl W b o p) (hb : Below W.heap.size W w) (hl : b < W.heap.size) : AtPl w b o p := by
  unfold AtPl at h ⊢
  rw [(bcell hb).1 _ _ hl, (bcell hb).1 _ _ hl, (bcell hb).1 _ _ hl]; exact h
/-- The slice at A holds these places. -/
def Tr (w : World) (A : Option Addr) (l : List Pl) : Prop :=
  0 < l.length → ∃ b off, A = some ⟨b, off, none⟩ ∧ b < w.heap.size ∧ ∀ i (h : i < l.length), AtPl w b (off + i * 3) l[i]
theorem Tr.below {W w : World} {A : Option Addr} {l : List Pl} (h : Tr W A l) (hb : Below W.heap.size W w) : Tr w A l := fun h0 => by
  obtain ⟨b, off, e, hl, hc⟩ := h h0
  exact ⟨b, off, e, Nat.lt_of_lt_of_le hl hb.size, fun i hi => (hc i hi).below hb hl⟩
theorem Tr.nil (w : World) (A : Option Addr) : Tr w A [] := fun h => by simp at h

theorem nan_any (n : Int) (w : World) : Calls Try.prog 45 #[.int .i64 n] w fun e w' => e = .returned (.bool false) ∧ w' = w := by
  go_enter Try.func45, Try.ntmps45
  go_wp2
  go_ret
  exact ⟨rfl, rfl⟩

def cmp3 (a b : Int) : Int := if a < b then -1 else if b < a then 1 else 0
theorem cmp_any (a b : Int) (w : World) : Calls Try.prog 32 #[.int .i64 a, .int .i64 b] w fun e w' => e = .returned (.int .i64 (cmp3 a b)) ∧ w' = w := by
  have c := fun n => nan_any n w
  unfold cmp3
  by_cases h1 : a < b
  · rw [if_pos h1]
    go_enter Try.func32, Try.ntmps32
    go_wp2_with (go_at_call 45; (with_reducible refine (c _).mono ?_); rintro e w1 ⟨rfl, rfl⟩)
    go_ret
    exact ⟨rfl, rfl⟩
  · rw [if_neg h1]
    by_cases h2 : b < a
    · rw [if_pos h2]
      go_enter Try.func32, Try.ntmps32
      go_wp2_with (go_at_call 45; (with_reducible refine (c _).mono ?_); rintro e w1 ⟨rfl, rfl⟩)
      go_ret
      exact ⟨rfl, rfl⟩
    · rw [if_neg h2]
      go_enter Try.func32, Try.ntmps32
      go_wp2_with (go_at_call 45; (with_reducible refine (c _).mono ?_); rintro e w1 ⟨rfl, rfl⟩)
      go_ret
      exact ⟨rfl, rfl⟩

theorem findOne_any (p : Pl) (b : Int) (w : World) : Calls Try.prog 31 #[.agg #[.int .i64 p.n, .int .i64 p.u, .string p.s], .int .i64 b] w fun e w' => e = .returned (.int .i64 (cmp3 p.n b)) ∧ Below w.heap.size w w' := by
  have c := fun w => cmp_any p.n b w
  generalize cmp3 p.n b = r at *
  go_enter Try.func31, Try.ntmps31
  go_wp2_with (go_at_call 32; (with_reducible refine (c _).mono ?_); rintro e w1 ⟨rfl, rfl⟩)
  go_ret
  exact ⟨rfl, below_alloc (Below.refl _ _) _⟩

theorem search_any (A : Option Addr) (cap : Nat) (l : List Pl) (b : Int) (w : World) (hl : l.length ≤ 1000) (hs : Sorted l) (hT : Tr w A l) :
    Calls Try.prog 30 #[.slice A l.length cap, .int .i64 b, .func (.func 31) #[] #[]] w fun e w' => e = .returned (.tuple #[.int .i64 (idx l b), .bool (get l b).isSome]) ∧ Below w.heap.size w w' := by
  go_enter Try.func30, Try.ntmps30
  go_wp2
  go_loopw [9, 10] (fun x y wr => ∃ i j : Nat, i ≤ j ∧ j ≤ l.length ∧ x = .int .i64 i ∧ y = .int .i64 j ∧ (∀ k (h : k < l.length), k < i → l[k].n < b) ∧ (∀ k (h : k < l.length), j ≤ k → b ≤ l[k].n) ∧ Below w.heap.size w wr) (fun x y _ => (intOf y).toNat - (intOf x).toNat)
  case atStart => exact ⟨0, l.length, Nat.zero_le _, Nat.le_refl _, rfl, rfl, fun k h hk => by omega, fun k h hk => by omega, Below.refl _ _⟩
  case round =>
    obtain ⟨i, j, hij, hj, rfl, rfl, hlo, hhi, hnx⟩ := hrel
    by_cases hlt : i < j
    · obtain ⟨bb, off, rfl, hbw, hc⟩ := hT (by omega)
      have hat := (hc ((i + j) / 2) (by omega)).below hnx hbw
      have hsz := hnx.size
      obtain ⟨p, hp⟩ : ∃ p, l[(i + j) / 2]'(by omega) = p := ⟨_, rfl⟩
      rw [hp] at hat
      obtain ⟨q0, q1, q2⟩ := hat
      have C := fun w => findOne_any p b w
      by_cases hcm : p.n < b
      · have e3 : cmp3 p.n b = -1 := by unfold cmp3; rw [if_pos hcm]
        rw [e3] at C
        clear e3 hc
        go_wp2_with (go_at_call 31; (with_reducible refine (C _).mono ?_); rintro e w1 ⟨rfl, hb1⟩)
        go_roundw
        case rel =>
          refine ⟨(i + j) / 2 + 1, j, by omega, hj, by go_num, rfl, fun k h hk => ?_, hhi, below_then hnx hb1⟩
          by_cases e : k = (i + j) / 2
          · subst e; rw [hp]; exact hcm
          · have := hs k ((i + j) / 2) h (by omega) (by omega)
            rw [hp] at this; omega
        case measure => simp [intOf]; omega
      · have e3 : ¬ cmp3 p.n b < 0 := by unfold cmp3; rw [if_neg hcm]; split <;> omega
        generalize cmp3 p.n b = r at *
        clear hc
        go_wp2_with (go_at_call 31; (with_reducible refine (C _).mono ?_); rintro e w1 ⟨rfl, hb1⟩)
        go_roundw
        case rel =>
          refine ⟨i, (i + j) / 2, by omega, by omega, rfl, by go_num, hlo, fun k h hk => ?_, below_then hnx hb1⟩
          by_cases e : k = (i + j) / 2
          · subst e; rw [hp]; omega
          · have := hs ((i + j) / 2) k (by omega) h (by omega)
            rw [hp] at this; omega
        case measure => simp [intOf]; omega
    · obtain rfl : i = j := by omega
      have hix : i = idx l b := idx_eq hj hlo (fun h => hhi i h (Nat.le_refl _))
      by_cases hin : i < l.length
      · obtain ⟨bb, off, rfl, hbw, hc⟩ := hT (by omega)
        have hat := (hc i hin).below hnx hbw
        obtain ⟨p, hp⟩ : ∃ p, l[i]'(by omega) = p := ⟨_, rfl⟩
        rw [hp] at hat
        obtain ⟨q0, q1, q2⟩ := hat
        have C := fun w => findOne_any p b w
        have hg : (Tre.get l b).isSome = decide (cmp3 p.n b = 0) := by
          have h1 : ¬ p.n < b := by have := hhi i hin (Nat.le_refl _); rw [hp] at this; omega
          unfold cmp3
          rw [if_neg h1]
          by_cases e : p.n = b
          · rw [if_neg (by omega), get_of (by omega) (by simp only [← hix]; rw [hp]; exact e)]; rfl
          · rw [if_pos (by omega), get_none_other (by omega) (by simp only [← hix]; rw [hp]; exact e)]; rfl
        have HG := Lib.hid hg
        have HI := Lib.hid hix
        generalize cmp3 p.n b = r at *
        clear hc hg hix hlo hhi
        by_cases hr : r = 0
        · subst hr
          go_wp2_with (go_at_call 31; (with_reducible refine (C _).mono ?_); rintro e w1 ⟨rfl, hb1⟩)
          go_ret2
          exact ⟨by rw [HI.out, HG.out]; rfl, below_then hnx hb1⟩
        · go_wp2_with (go_at_call 31; (with_reducible refine (C _).mono ?_); rintro e w1 ⟨rfl, hb1⟩)
          go_ret2
          exact ⟨by rw [HI.out, HG.out]; simp [hr], below_then hnx hb1⟩
      · go_wp2
        go_ret2
        exact ⟨by rw [get_none_end (by omega), ← hix]; rfl, hnx⟩

theorem find_any (A : Option Addr) (cap : Nat) (l : List Pl) (b : Int) (w : World) (hl : l.length ≤ 1000) (hs : Sorted l) (hT : Tr w A l) :
    Calls Try.prog 11 #[.slice A l.length cap, .int .i64 b] w fun e w' => e = .returned (.tuple #[.int .i64 (idx l b), .bool (get l b).isSome]) ∧ Below w.heap.size w w' := by
  have C := search_any A cap l b w hl hs hT
  go_enter Try.func11, Try.ntmps11
  go_wp2_with (go_at_call 30; (with_reducible refine C.mono ?_); rintro e w1 ⟨rfl, hb1⟩)
  go_ret2
  exact ⟨rfl, hb1⟩
end Go.Proofs.Ytfhonobaddkmhaa
