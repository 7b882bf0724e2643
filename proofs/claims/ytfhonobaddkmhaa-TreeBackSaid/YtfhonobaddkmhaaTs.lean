/- The same places; Parse of the document. -/
import Derived.Test.YtfhonobaddkmhaaTq
namespace Go.Proofs.Ytfhonobaddkmhaa
open Go.RowKit Tre Nam Cod

set_option maxHeartbeats 4000000 in
theorem same_any (A1 A2 : Option Addr) (c1 c2 : Nat) (l : List Pl) (w : World) (hl : l.length ≤ 1000) (h1 : Tr w A1 l) (h2 : Tr w A2 l) :
    Calls Try.prog 15 #[.slice A1 l.length c1, .slice A2 l.length c2] w fun e w' => e = .returned (.bool true) ∧ Below w.heap.size w w' := by
  go_enter Try.func15, Try.ntmps15
  go_wp2
  go_loopw [5] (fun x wr => ∃ k : Nat, k ≤ l.length ∧ x = .int .i64 k ∧ Below w.heap.size w wr) (fun x _ => l.length - (intOf x).toNat)
  case atStart => exact ⟨0, Nat.zero_le _, rfl, Below.refl _ _⟩
  case round =>
    obtain ⟨k, hk, rfl, hnx⟩ := hrel
    by_cases hlt : k < l.length
    · obtain ⟨b1, o1, hA1, hw1, hc1⟩ := h1 (by omega)
      obtain ⟨b2, o2, hA2, hw2, hc2⟩ := h2 (by omega)
      have hat := (hc1 k hlt).below hnx hw1
      have hat2 := (hc2 k hlt).below hnx hw2
      obtain ⟨p, hp⟩ : ∃ p, l[k] = p := ⟨_, rfl⟩
      rw [hp] at hat hat2
      obtain ⟨q0, q1, q2⟩ := hat
      obtain ⟨r0, r1, r2⟩ := hat2
      clear hc1 hc2 hp h1 h2
      subst hA1 hA2
      go_wp2
      go_quiet (fail)
      go_wp2
      go_roundw
      case rel => exact ⟨k + 1, by omega, by go_num, below_drew hnx _⟩
      case measure => simp [intOf]; omega
    · obtain rfl : k = l.length := by omega
      go_wp2
      go_ret
      exact ⟨rfl, hnx⟩

/-- What a whole text is: a tree, and nothing behind it. -/
def parseStep (s : ByteArray) (l : List Pl) (ok : Bool) : Prop := (ok = true ∧ isTree s 0 false = some (l, s.size)) ∨ (ok = false ∧ l = [] ∧ ∀ l', ¬ isTree s 0 false = some (l', s.size))
set_option maxRecDepth 100000 in
theorem parse_any (s : ByteArray) (w : World) (hs : s.size ≤ 1000000) :
    Calls Try.prog 25 #[.string s] w fun e w' => ∃ A cap l ok, e = .returned (.tuple #[.slice A l.length cap, .bool ok]) ∧ Tr w' A l ∧ l.length ≤ 64 ∧ Below w.heap.size w w' ∧ parseStep s l ok := by
  go_enter Try.func25, Try.ntmps25
  go_wp2_with fail
  have hR := Rd.new w 66 s 0 rfl
  have hB := below_alloc (Below.refl w.heap.size w) (.cells #[.string s, .int .i64 0, .bool false] 66)
  generalize w.alloc (.cells #[.string s, .int .i64 0, .bool false] 66) = W at *
  refine (refRead_uni hs (Nat.zero_le _) hR).mono ?_
  rintro e w1 ⟨A, cap, l, q, b1, rfl, hT, hl, hR1, hq, hG, hst⟩
  have hB1 := below_by hB hG (Nat.le_refl _)
  clear hR hB hG
  have C := refDone_any hR1
  obtain ⟨d, hd⟩ : ∃ d, isDone s q b1 = d := ⟨_, rfl⟩
  rw [hd] at C
  have HST := Lib.hid hst
  clear hst
  cases d
  · have HD := Lib.hid hd
    clear hd
    go_wp2_with (go_at_call 43; (with_reducible refine C.mono ?_); rintro e w2 ⟨rfl, n, rfl⟩)
    go_ret2
    refine ⟨none, 0, [], false, rfl, Tr.nil _ _, Nat.zero_le _, below_drew hB1 n, Or.inr ⟨rfl, rfl, fun l' h => ?_⟩⟩
    have hd := HD.out
    rcases HST.out with ⟨h1, rfl⟩ | ⟨h1, _⟩
    · rw [h1] at h; cases h; simp [isDone] at hd
    · rw [h1] at h; cases h
  · have HD := Lib.hid hd
    clear hd
    go_wp2_with (go_at_call 43; (with_reducible refine C.mono ?_); rintro e w2 ⟨rfl, n, rfl⟩)
    go_ret2
    refine ⟨A, cap, l, true, rfl, hT, hl, below_drew hB1 n, Or.inl ⟨rfl, ?_⟩⟩
    have hd := HD.out
    simp [isDone] at hd
    obtain ⟨rfl, rfl⟩ := hd
    rcases HST.out with ⟨h1, _⟩ | ⟨_, _, h⟩
    · exact h1
    · cases h
end Go.Proofs.Ytfhonobaddkmhaa
