/- What may be a tree: Right of both. -/
import Derived.Test.YtfhonobaddkmhaaTc
namespace Go.Proofs.Ytfhonobaddkmhaa
open Go.RowKit Tre Nam Cod

def ringless (l : List Pl) : Bool := l.all fun p => !above l p.n p.u
theorem treeB_two (l : List Pl) : treeB l = (riseB l && ringless l) := by unfold treeB riseB ringless; rw [Bool.and_assoc]
def FreeTo (l : List Pl) (i : Nat) : Prop := ∀ k (h : k < l.length), k < i → above l l[k].n l[k].u = false
theorem free_next {l : List Pl} {i : Nat} (h : FreeTo l i) (hi : i < l.length) (h1 : above l l[i].n l[i].u = false) : FreeTo l (i + 1) := by
  intro k hk hlt
  by_cases e : k = i
  · subst e; exact h1
  · exact h k hk (by omega)
theorem free_all {l : List Pl} (h : FreeTo l l.length) : ringless l = true := by
  unfold ringless
  rw [List.all_eq_true]
  intro p hp
  obtain ⟨k, hk, rfl⟩ := List.getElem_of_mem hp
  rw [h k hk hk]; rfl
theorem free_bad {l : List Pl} {i : Nat} (hi : i < l.length) (h : above l l[i].n l[i].u = true) : ringless l = false := by
  rcases e : ringless l with _ | _
  · rfl
  · unfold ringless at e
    rw [List.all_eq_true] at e
    have := e _ (List.getElem_mem hi)
    rw [h] at this; exact this.symm

theorem noLoop_any (A : Option Addr) (cap : Nat) (l : List Pl) (w : World) (hl : l.length ≤ 1000) (hs : Sorted l) (hT : Tr w A l) :
    Calls Try.prog 28 #[.slice A l.length cap] w fun e w' => e = .returned (.bool (ringless l)) ∧ Below w.heap.size w w' := by
  have C := fun w a b (hT : Tr w A l) => above_any A cap l a b w hl hs hT
  go_enter Try.func28, Try.ntmps28
  go_wp2
  go_loopw [7] (fun x wr => ∃ k : Nat, k ≤ l.length ∧ x = .int .i64 k ∧ FreeTo l k ∧ Below w.heap.size w wr) (fun x _ => l.length - (intOf x).toNat)
  case atStart => exact ⟨0, Nat.zero_le _, rfl, fun k h hk => by omega, Below.refl _ _⟩
  case round =>
    obtain ⟨k, hk, rfl, hgd, hnx⟩ := hrel
    by_cases hlt : k < l.length
    · obtain ⟨bb, off, hAe, hbw, hc⟩ := hT (by omega)
      have hbr := Nat.lt_of_lt_of_le hbw hnx.size
      have hat := (hc k hlt).below hnx hbw
      have hbad := free_bad hlt
      have hnext := free_next hgd hlt
      obtain ⟨p, hp⟩ : ∃ p, l[k] = p := ⟨_, rfl⟩
      rw [hp] at hat hbad hnext
      obtain ⟨q0, q1, q2⟩ := hat
      have hTa := (hT.below hnx).below (below_alloc (Below.refl _ wr) (.cells #[.int .i64 p.n, .int .i64 p.u, .string p.s] 24))
      have C := C _ p.n p.u hTa
      have HB := Lib.hid hbad
      have HN := Lib.hid hnext
      clear hgd hbad hnext hc hp
      subst hAe
      cases hab : above l p.n p.u
      · rw [hab] at C
        have HN := Lib.hid (HN.out hab)
        clear hab
        go_wp2_with (go_at_call 20; (with_reducible refine C.mono ?_); rintro e w1 ⟨rfl, hb1⟩)
        go_roundw
        case rel => exact ⟨k + 1, by omega, by go_num, HN.out, below_then (below_alloc hnx _) hb1⟩
        case measure => simp [intOf]; omega
      · rw [hab] at C
        have HR := Lib.hid (HB.out hab)
        clear hab
        go_wp2_with (go_at_call 20; (with_reducible refine C.mono ?_); rintro e w1 ⟨rfl, hb1⟩)
        go_ret
        exact ⟨by rw [HR.out]; rfl, below_then (below_alloc hnx _) hb1⟩
    · obtain rfl : k = l.length := by omega
      have HR := Lib.hid (free_all hgd)
      clear hgd
      go_wp2
      go_ret
      exact ⟨by rw [HR.out]; rfl, hnx⟩

theorem right_any (A : Option Addr) (cap : Nat) (l : List Pl) (w : World) (hl : l.length ≤ 1000) (hsz : ∀ p ∈ l, p.s.size ≤ 9223372036854775807) (hT : Tr w A l) :
    Calls Try.prog 9 #[.slice A l.length cap] w fun e w' => e = .returned (.bool (treeB l)) ∧ Below w.heap.size w w' := by
  have C1 := rising_any A cap l w hl hsz hT
  rw [treeB_two]
  cases hr : riseB l
  · rw [hr] at C1
    have HC := Lib.hid C1
    clear C1
    go_enter Try.func9, Try.ntmps9
    go_wp2_with (go_at_call 27; (with_reducible refine HC.out.mono ?_); rintro e w1 ⟨rfl, hb1⟩)
    go_ret
    exact ⟨rfl, hb1⟩
  · rw [hr] at C1
    have C2 := fun w (hT : Tr w A l) => noLoop_any A cap l w hl (goodTo_back hr).2 hT
    generalize ringless l = x at *
    have HC := Lib.hid C1
    have HD := Lib.hid C2
    clear C1 C2
    go_enter Try.func9, Try.ntmps9
    go_wp2_with (first | (go_at_call 27; (with_reducible refine HC.out.mono ?_); rintro e w1 ⟨rfl, hb1⟩; have hT1 := hT.below hb1) | (go_at_call 28; (with_reducible refine (HD.out _ hT1).mono ?_); rintro e w2 ⟨rfl, hb2⟩))
    go_ret
    exact ⟨by simp, below_then hb1 hb2⟩
end Go.Proofs.Ytfhonobaddkmhaa
