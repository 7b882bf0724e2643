/- Open of the document's answer; Open of both in one word each. -/
import Derived.Test.YtajiekodfdbkkaaDoorWd
namespace Go.Proofs.YtajiekodfdbkkaaDoor
open Go.RowKit Crc

theorem refOpen_short (s : ByteArray) (w : World) (h : s.size < 8) :
    Calls Tryd.prog 9 #[.string s] w fun e w' => e = .returned (.tuple #[.string ⟨#[]⟩, .int .i64 (-1)]) ∧ Below w.heap.size w w' := by
  go_enter Tryd.func9, Tryd.ntmps9
  go_wp2
  go_ret2
  exact ⟨rfl, Below.refl _ _⟩

theorem refNumber_then (s : ByteArray) (w : World) (N : Nat) (h : 4 ≤ s.size) (hN : num s = N) : Calls Tryd.prog 17 #[.string s] w fun e w'' => e = .returned (.int .u32 N) ∧ Below w.heap.size w w'' :=
  (refNumber_any s w h).mono fun e w' ⟨he, n, hn⟩ => ⟨by rw [he, hN], by rw [hn]; exact Joins.below_draws _ _ _⟩

set_option maxHeartbeats 4000000 in
theorem refOpen_over (s : ByteArray) (w : World) (hs : s.size ≤ 1000000) (h8 : 8 ≤ s.size) (hn : s.size < num s + 8) :
    Calls Tryd.prog 9 #[.string s] w fun e w' => e = .returned (.tuple #[.string ⟨#[]⟩, .int .i64 (-1)]) ∧ Below w.heap.size w w' := by
  obtain ⟨N, hN⟩ : ∃ N, num s = N := ⟨_, rfl⟩
  have HN := Lib.hid hN
  have hlt := num_lt s
  rw [hN] at hn hlt
  clear hN
  have hd : decide ((s.size : Int) - 8 < (N : Int)) = true := decide_eq_true (by omega)
  have hz : IntKind.i64.wrap ((s.size : Int) - 8) = (s.size : Int) - 8 := IntWalk.i64_in _ (by omega)
  go_enter Tryd.func9, Tryd.ntmps9
  go_wp2_with (go_at_call 17; (with_reducible refine (refNumber_then s _ N (by omega) HN.out).mono ?_); rintro e w1 ⟨rfl, hb1⟩)
  go_quiet (fail)
  go_wp2
  go_ret2
  exact ⟨rfl, below_then hb1 (Joins.below_draws _ _ _)⟩

set_option maxHeartbeats 4000000 in
theorem refOpen_whole (s q d : ByteArray) (w : World) (hs : s.size ≤ 1000000) (h8 : 8 ≤ s.size) (hn : num s + 8 ≤ s.size) (hq : s.extract 4 s.size = q) (hqs : q.size + 4 = s.size)
    (hd : s.extract 8 (8 + num s) = d) (hds : d.size ≤ 1000000) (hxy : sumB d = num q) :
    Calls Tryd.prog 9 #[.string s] w fun e w' => e = .returned (.tuple #[.string d, .int .i64 (8 + (num s : Int))]) ∧ Below w.heap.size w w' := by
  obtain ⟨N, hN⟩ : ∃ N, num s = N := ⟨_, rfl⟩
  obtain ⟨Y, hY⟩ : ∃ Y, num q = Y := ⟨_, rfl⟩
  have HN := Lib.hid hN
  have c2 : ∀ (v : World) (n : Nat), Calls Tryd.prog 17 #[.string q] (v.drewN n) fun e w'' => e = .returned (.int .u32 Y) ∧ ∃ m, w'' = v.drewN m := fun v n => by rw [← hY]; exact Calls.quiet_of (refNumber_any q _ (by omega))
  have c3 : ∀ (v : World) (n : Nat), Calls Tryd.prog 11 #[.string d] (v.drewN n) fun e w'' => e = .returned (.int .u32 Y) ∧ ∃ m, w'' = v.drewN m := fun v n => by rw [← hY, ← hxy]; exact quiet_same (refSumB_any d _ hds)
  have hlt := num_lt s
  rw [hN] at hn hlt hd
  rw [hN]
  have hg : decide ((s.size : Int) - 8 < (N : Int)) = false := decide_eq_false (by omega)
  have hz : IntKind.i64.wrap ((s.size : Int) - 8) = (s.size : Int) - 8 := IntWalk.i64_in _ (by omega)
  have hy : IntKind.i64.wrap (8 + (N : Int)) = 8 + (N : Int) := IntWalk.i64_in _ (by omega)
  have hy2 : (8 + (N : Int)).toNat = 8 + N := by omega
  have hy3 : 8 + (N : Int) ≤ (s.size : Int) := by omega
  have hy4 : 0 ≤ 8 + (N : Int) := by omega
  have hy5 : (8 : Int) ≤ 8 + (N : Int) := by omega
  have h40 : (4 : Int) ≤ (s.size : Int) := by omega
  clear hN hY hqs hxy
  go_enter Tryd.func9, Tryd.ntmps9
  go_wp2_with (go_at_call 17; (with_reducible refine (refNumber_then s _ N (by omega) HN.out).mono ?_); rintro e w1 ⟨rfl, hb1⟩)
  go_quiet ((first | (go_at_call 17; exact c2 _ _) | (go_at_call 11; exact c3 _ _)))
  clear hz hy hy2 hg
  go_wp2
  go_ret2
  exact ⟨by subst hd; rfl, below_then hb1 (Joins.below_draws _ _ _)⟩

set_option maxHeartbeats 4000000 in
theorem refOpen_other (s q d : ByteArray) (w : World) (hs : s.size ≤ 1000000) (h8 : 8 ≤ s.size) (hn : num s + 8 ≤ s.size) (hq : s.extract 4 s.size = q) (hqs : q.size + 4 = s.size)
    (hd : s.extract 8 (8 + num s) = d) (hds : d.size ≤ 1000000) (hxy : sumB d ≠ num q) :
    Calls Tryd.prog 9 #[.string s] w fun e w' => e = .returned (.tuple #[.string ⟨#[]⟩, .int .i64 (-1)]) ∧ Below w.heap.size w w' := by
  obtain ⟨N, hN⟩ : ∃ N, num s = N := ⟨_, rfl⟩
  obtain ⟨Y, hY⟩ : ∃ Y, num q = Y := ⟨_, rfl⟩
  have HN := Lib.hid hN
  obtain ⟨X, hX⟩ : ∃ X, sumB d = X := ⟨_, rfl⟩
  have c2 : ∀ (v : World) (n : Nat), Calls Tryd.prog 17 #[.string q] (v.drewN n) fun e w'' => e = .returned (.int .u32 Y) ∧ ∃ m, w'' = v.drewN m := fun v n => by rw [← hY]; exact Calls.quiet_of (refNumber_any q _ (by omega))
  have c3 : ∀ (v : World) (n : Nat), Calls Tryd.prog 11 #[.string d] (v.drewN n) fun e w'' => e = .returned (.int .u32 X) ∧ ∃ m, w'' = v.drewN m := fun v n => by rw [← hX]; exact quiet_same (refSumB_any d _ hds)
  have hlt := num_lt s
  rw [hN] at hn hlt hd
  rw [hX, hY] at hxy
  have hxi : ¬ (X : Int) = (Y : Int) := by omega
  have hxb : ((X : Int) == (Y : Int)) = false := by simpa using hxi
  have hxn : ((X : Int) != (Y : Int)) = true := by simpa using hxi
  have hg : decide ((s.size : Int) - 8 < (N : Int)) = false := decide_eq_false (by omega)
  have hz : IntKind.i64.wrap ((s.size : Int) - 8) = (s.size : Int) - 8 := IntWalk.i64_in _ (by omega)
  have hy : IntKind.i64.wrap (8 + (N : Int)) = 8 + (N : Int) := IntWalk.i64_in _ (by omega)
  have hy2 : (8 + (N : Int)).toNat = 8 + N := by omega
  have hy3 : 8 + (N : Int) ≤ (s.size : Int) := by omega
  have hy4 : 0 ≤ 8 + (N : Int) := by omega
  have hy5 : (8 : Int) ≤ 8 + (N : Int) := by omega
  have h40 : (4 : Int) ≤ (s.size : Int) := by omega
  clear hN hY hX hqs
  go_enter Tryd.func9, Tryd.ntmps9
  go_wp2_with (go_at_call 17; (with_reducible refine (refNumber_then s _ N (by omega) HN.out).mono ?_); rintro e w1 ⟨rfl, hb1⟩)
  go_quiet ((first | (go_at_call 17; exact c2 _ _) | (go_at_call 11; exact c3 _ _)))
  clear hz hy hy2 hg
  go_wp2
  go_ret2
  exact ⟨rfl, below_then hb1 (Joins.below_draws _ _ _)⟩

/-- What may be behind the head. -/
def bodyOf (s : ByteArray) : ByteArray := s.extract 8 (8 + num s)
/-- Does it begin with a Seal? -/
def isSeal (s : ByteArray) : Bool := decide (8 ≤ s.size ∧ num s + 8 ≤ s.size ∧ sumB (bodyOf s) = num (s.extract 4 s.size))
def opT (s : ByteArray) : ByteArray := if isSeal s then bodyOf s else ⟨#[]⟩
def opC (s : ByteArray) : Int := if isSeal s then 8 + (num s : Int) else -1

theorem size_ext (s : ByteArray) (i j : Nat) (h : i ≤ j) (h2 : j ≤ s.size) : (s.extract i j).size + i = j := by
  rw [ByteArray.size_extract]; omega

theorem open_any (s : ByteArray) (w : World) (hs : s.size ≤ 1000000) (hL : Laid w) :
    Calls Tryd.prog 8 #[.string s] w fun e w' => e = .returned (.tuple #[.string (opT s), .int .i64 (opC s)]) ∧ Below w.heap.size w w' := by
  by_cases h8 : 8 ≤ s.size
  · have hrs := size_ext s 8 s.size h8 (Nat.le_refl _)
    have hqs := size_ext s 4 s.size (by omega) (Nat.le_refl _)
    by_cases hn : num s + 8 ≤ s.size
    · have hd : (s.extract 8 s.size).extract 0 (num s) = bodyOf s := by
        rw [ByteArray.extract_extract, Nat.add_zero, Nat.min_eq_left (by omega)]; rfl
      have hds : (bodyOf s).size ≤ 1000000 := by unfold bodyOf; rw [ByteArray.size_extract]; omega
      by_cases hxy : sumB (bodyOf s) = num (s.extract 4 s.size)
      · have hg : isSeal s = true := decide_eq_true ⟨h8, hn, hxy⟩
        rw [opT, opC, if_pos hg, if_pos hg]
        exact open_whole s _ _ _ w hL hs h8 rfl hrs (by omega) rfl hqs hd hds hxy
      · have hg : ¬ isSeal s = true := fun h => hxy (of_decide_eq_true h).2.2
        rw [opT, opC, if_neg hg, if_neg hg]
        exact open_other s _ _ _ w hL hs h8 rfl hrs (by omega) rfl hqs hd hds hxy
    · have hg : ¬ isSeal s = true := fun h => hn (of_decide_eq_true h).2.1
      rw [opT, opC, if_neg hg, if_neg hg]
      exact open_over s _ w hs h8 rfl hrs (by omega)
  · have hg : ¬ isSeal s = true := fun h => h8 (of_decide_eq_true h).1
    rw [opT, opC, if_neg hg, if_neg hg]
    exact open_short s w (by omega)

theorem refOpen_all (s : ByteArray) (w : World) (hs : s.size ≤ 1000000) :
    Calls Tryd.prog 9 #[.string s] w fun e w' => e = .returned (.tuple #[.string (opT s), .int .i64 (opC s)]) ∧ Below w.heap.size w w' := by
  by_cases h8 : 8 ≤ s.size
  · have hqs := size_ext s 4 s.size (by omega) (Nat.le_refl _)
    by_cases hn : num s + 8 ≤ s.size
    · have hds : (bodyOf s).size ≤ 1000000 := by unfold bodyOf; rw [ByteArray.size_extract]; omega
      by_cases hxy : sumB (bodyOf s) = num (s.extract 4 s.size)
      · have hg : isSeal s = true := decide_eq_true ⟨h8, hn, hxy⟩
        rw [opT, opC, if_pos hg, if_pos hg]
        exact refOpen_whole s _ _ w hs h8 hn rfl hqs rfl hds hxy
      · have hg : ¬ isSeal s = true := fun h => hxy (of_decide_eq_true h).2.2
        rw [opT, opC, if_neg hg, if_neg hg]
        exact refOpen_other s _ _ w hs h8 hn rfl hqs rfl hds hxy
    · have hg : ¬ isSeal s = true := fun h => hn (of_decide_eq_true h).2.1
      rw [opT, opC, if_neg hg, if_neg hg]
      exact refOpen_over s w hs h8 (by omega)
  · have hg : ¬ isSeal s = true := fun h => h8 (of_decide_eq_true h).1
    rw [opT, opC, if_neg hg, if_neg hg]
    exact refOpen_short s w (by omega)

end Go.Proofs.YtajiekodfdbkkaaDoor
