/- Text and Done of both Readers. -/
import Derived.Test.YtfhonobaddkmhaaCg
namespace Go.Proofs.Ytfhonobaddkmhaa
open Go.RowKit Cod

/-- The text that stands at p. -/
def isText (s : ByteArray) (p : Nat) (bad : Bool) (most : Int) : Option (ByteArray × Nat) :=
  match isCount s p bad most with
  | some (n, q) => if n.toNat + q ≤ s.size then some (s.extract q (q + n.toNat), q + n.toNat) else none
  | none => none

section
variable {b : Nat} {s : ByteArray} {p : Nat} {w : World} {bad : Bool}
theorem isText_some {most : Int} {t : ByteArray} {e : Nat} (h : isText s p bad most = some (t, e)) : ∃ n q : Nat, isCount s p bad most = some ((n : Int), q) ∧ n + q ≤ s.size ∧ t = s.extract q (q + n) ∧ e = q + n := by
  unfold isText at h
  split at h
  · rename_i n' q' h1
    split at h
    · rename_i h2
      obtain ⟨rfl, rfl⟩ := Prod.mk.inj (Option.some.inj h)
      obtain ⟨_, h3, _⟩ := isCount_some h1
      exact ⟨n'.toNat, q', by rw [Int.toNat_of_nonneg h3]; exact h1, h2, rfl, rfl⟩
    · cases h
  · cases h
theorem isText_none {most : Int} (h : isText s p bad most = none) : isCount s p bad most = none ∨ ∃ n q : Nat, isCount s p bad most = some ((n : Int), q) ∧ s.size < n + q := by
  unfold isText at h
  split at h
  · rename_i n' q' h1
    split at h
    · cases h
    · obtain ⟨_, h3, _⟩ := isCount_some h1
      exact Or.inr ⟨n'.toNat, q', by rw [Int.toNat_of_nonneg h3]; exact h1, by omega⟩
  · exact Or.inl ‹_›

set_option maxHeartbeats 2000000 in
theorem rtext_yes {most : Int} {t : ByteArray} {e : Nat} (hs : s.size ≤ 1000000) (hp : p ≤ s.size) (hr : Rd 39 w b s p bad) (h : isText s p bad most = some (t, e)) :
    Calls Try.prog 50 #[.pointer (some ⟨b, 0, none⟩), .int .i64 most] w (Yes 39 b s w (.string t) e) := by
  obtain ⟨n, q, h1, h2, rfl, rfl⟩ := isText_some h
  have CN := Lib.hid (count_yes hs hp hr h1)
  clear h h1 hr
  have hd : decide ((s.size : Int) - (q : Int) < (n : Int)) = false := decide_eq_false (by omega)
  have hn : (n : Int) ≤ (s.size : Int) - (q : Int) := by omega
  have hn2 : (q : Int) + (n : Int) ≤ (s.size : Int) := by omega
  have hn3 : (q : Int) ≤ (q : Int) + (n : Int) := by omega
  go_enter Try.func50, Try.ntmps50
  go_wp2_with (go_at_call 40; (with_reducible refine CN.out.mono ?_); rintro e w1 ⟨rfl, hr1, hb1⟩; obtain ⟨hc0, hc1, hc2⟩ := hr1.cells; have hf1 := hr1.frozen 1; have HR := Lib.hid hr1; clear hr1)
  go_quiet (fail)
  go_wp2
  go_quiet (fail)
  go_wp2
  go_ret
  exact ⟨rfl, (HR.out.drewN _).setAt (q + n), by_drewN (by_set (by_drewN hb1 _) _ _) _⟩

set_option maxHeartbeats 2000000 in
theorem rtext_no {most : Int} (hs : s.size ≤ 1000000) (hp : p ≤ s.size) (hr : Rd 39 w b s p bad) (h : isText s p bad most = none) :
    Calls Try.prog 50 #[.pointer (some ⟨b, 0, none⟩), .int .i64 most] w (No 39 b s w (.string ⟨#[]⟩)) := by
  rcases isText_none h with h1 | ⟨n, q, h1, h2⟩
  · have CN := Lib.hid (count_no hs hp hr h1)
    clear h h1 hr
    go_enter Try.func50, Try.ntmps50
    go_wp2_with (go_at_call 40; (with_reducible refine CN.out.mono ?_); rintro e w1 ⟨rfl, ⟨q, hq, hr1⟩, hb1⟩; obtain ⟨hc0, hc1, hc2⟩ := hr1.cells; have hf2 := hr1.frozen 2; have HR := Lib.hid hr1; clear hr1)
    go_quiet (fail)
    go_wp2
    go_ret
    exact ⟨rfl, ⟨q, hq, (HR.out.drewN _).setBad⟩, by_set (by_drewN hb1 _) _ _⟩
  · have CN := Lib.hid (count_yes hs hp hr h1)
    have hq := (isNum_some (isCount_some h1).1).2.2.1
    clear h h1 hr
    have hd : decide ((s.size : Int) - (q : Int) < (n : Int)) = true := decide_eq_true (by omega)
    go_enter Try.func50, Try.ntmps50
    go_wp2_with (go_at_call 40; (with_reducible refine CN.out.mono ?_); rintro e w1 ⟨rfl, hr1, hb1⟩; obtain ⟨hc0, hc1, hc2⟩ := hr1.cells; have hf2 := hr1.frozen 2; have HR := Lib.hid hr1; clear hr1)
    go_quiet (fail)
    go_wp2
    go_ret
    exact ⟨rfl, ⟨q, hq, (HR.out.drewN _).setBad⟩, by_set (by_drewN hb1 _) _ _⟩

set_option maxHeartbeats 2000000 in
theorem refRtext_yes {most : Int} {t : ByteArray} {e : Nat} (hs : s.size ≤ 1000000) (hp : p ≤ s.size) (hr : Rd 66 w b s p bad) (h : isText s p bad most = some (t, e)) :
    Calls Try.prog 53 #[.pointer (some ⟨b, 0, none⟩), .int .i64 most] w (Yes 66 b s w (.string t) e) := by
  obtain ⟨n, q, h1, h2, rfl, rfl⟩ := isText_some h
  obtain ⟨h3, h4, h5⟩ := isCount_some h1
  have CN := Lib.hid (refRnum_yes hs hp hr h3)
  clear h h1 hr h3
  have hm : ¬ most < (n : Int) := by omega
  have hm2 : decide (most < (n : Int)) = false := decide_eq_false hm
  have hnn : decide ((n : Int) < 0) = false := decide_eq_false (by omega)
  have hwr : IntKind.i64.wrap ((s.size : Int) - (q : Int)) = (s.size : Int) - (q : Int) := IntWalk.i64_in _ (by omega)
  have hd : decide ((s.size : Int) - (q : Int) < (n : Int)) = false := decide_eq_false (by omega)
  have hn : (n : Int) ≤ (s.size : Int) - (q : Int) := by omega
  have hn2 : (q : Int) + (n : Int) ≤ (s.size : Int) := by omega
  have hn3 : (q : Int) ≤ (q : Int) + (n : Int) := by omega
  go_enter Try.func53, Try.ntmps53
  go_wp2_with (go_at_call 52; (with_reducible refine CN.out.mono ?_); rintro e w1 ⟨rfl, hr1, hb1⟩; obtain ⟨hc0, hc1, hc2⟩ := hr1.cells; have hf1 := hr1.frozen 1; have HR := Lib.hid hr1; clear hr1)
  go_quiet (fail)
  go_wp2
  go_quiet (fail)
  go_wp2
  go_ret
  exact ⟨rfl, (HR.out.drewN _).setAt (q + n), by_drewN (by_set (by_drewN hb1 _) _ _) _⟩

set_option maxHeartbeats 2000000 in
theorem refRtext_no {most : Int} (hs : s.size ≤ 1000000) (hp : p ≤ s.size) (hr : Rd 66 w b s p bad) (h : isText s p bad most = none) :
    Calls Try.prog 53 #[.pointer (some ⟨b, 0, none⟩), .int .i64 most] w (No 66 b s w (.string ⟨#[]⟩)) := by
  rcases isText_none h with h1 | ⟨n, q, h1, h2⟩
  · rcases isCount_none h1 with h1 | ⟨n, q, h1, h2⟩
    · have CN := Lib.hid (refRnum_no hs hp hr h1)
      clear h h1 hr
      go_enter Try.func53, Try.ntmps53
      go_wp2_with (go_at_call 52; (with_reducible refine CN.out.mono ?_); rintro e w1 ⟨rfl, ⟨q, hq, hr1⟩, hb1⟩; obtain ⟨hc0, hc1, hc2⟩ := hr1.cells; have hf2 := hr1.frozen 2; have HR := Lib.hid hr1; clear hr1)
      go_quiet (fail)
      go_wp2
      go_ret
      exact ⟨rfl, ⟨q, hq, (HR.out.drewN _).setBad⟩, by_set (by_drewN hb1 _) _ _⟩
    · have CN := Lib.hid (refRnum_yes hs hp hr h1)
      have hq := (isNum_some h1).2.2.1
      clear h h1 hr
      by_cases h0 : n < 0
      · have hd0 : decide (n < 0) = true := decide_eq_true h0
        go_enter Try.func53, Try.ntmps53
        go_wp2_with (go_at_call 52; (with_reducible refine CN.out.mono ?_); rintro e w1 ⟨rfl, hr1, hb1⟩; obtain ⟨hc0, hc1, hc2⟩ := hr1.cells; have hf2 := hr1.frozen 2; have HR := Lib.hid hr1; clear hr1)
        go_quiet (fail)
        go_wp2
        go_ret
        exact ⟨rfl, ⟨q, hq, (HR.out.drewN _).setBad⟩, by_set (by_drewN hb1 _) _ _⟩
      · have hd0 : decide (n < 0) = false := decide_eq_false h0
        have hd1 : decide (most < n) = true := decide_eq_true (by omega)
        go_enter Try.func53, Try.ntmps53
        go_wp2_with (go_at_call 52; (with_reducible refine CN.out.mono ?_); rintro e w1 ⟨rfl, hr1, hb1⟩; obtain ⟨hc0, hc1, hc2⟩ := hr1.cells; have hf2 := hr1.frozen 2; have HR := Lib.hid hr1; clear hr1)
        go_quiet (fail)
        go_wp2
        go_ret
        exact ⟨rfl, ⟨q, hq, (HR.out.drewN _).setBad⟩, by_set (by_drewN hb1 _) _ _⟩
  · obtain ⟨h3, h4, h5⟩ := isCount_some h1
    have CN := Lib.hid (refRnum_yes hs hp hr h3)
    have hq := (isNum_some h3).2.2.1
    clear h h1 hr h3
    have hm2 : decide (most < (n : Int)) = false := decide_eq_false (by omega)
    have hnn : decide ((n : Int) < 0) = false := decide_eq_false (by omega)
    have hwr : IntKind.i64.wrap ((s.size : Int) - (q : Int)) = (s.size : Int) - (q : Int) := IntWalk.i64_in _ (by omega)
    have hd : decide ((s.size : Int) - (q : Int) < (n : Int)) = true := decide_eq_true (by omega)
    go_enter Try.func53, Try.ntmps53
    go_wp2_with (go_at_call 52; (with_reducible refine CN.out.mono ?_); rintro e w1 ⟨rfl, hr1, hb1⟩; obtain ⟨hc0, hc1, hc2⟩ := hr1.cells; have hf2 := hr1.frozen 2; have HR := Lib.hid hr1; clear hr1)
    go_quiet (fail)
    go_wp2
    go_ret
    exact ⟨rfl, ⟨q, hq, (HR.out.drewN _).setBad⟩, by_set (by_drewN hb1 _) _ _⟩

/-- Is nothing left, and did nothing go wrong? -/
def isDone (s : ByteArray) (p : Nat) (bad : Bool) : Bool := !bad && decide (p = s.size)

theorem done_any (hp : p ≤ s.size) (hr : Rd 39 w b s p bad) :
    Calls Try.prog 26 #[.pointer (some ⟨b, 0, none⟩)] w fun e w' => e = .returned (.bool (isDone s p bad)) ∧ ∃ n, w' = w.drewN n := by
  obtain ⟨hc0, hc1, hc2⟩ := hr.cells
  clear hr
  cases bad
  · by_cases h : p = s.size
    · have HD := Lib.hid (show isDone s p false = true by simp [isDone, h])
      have hd : decide (s.size ≤ p) = true := decide_eq_true (by omega)
      clear h
      go_enter Try.func26, Try.ntmps26
      go_wp2
      go_quiet (fail)
      go_wp2
      go_ret
      exact ⟨by rw [HD.out]; rfl, _, rfl⟩
    · have HD := Lib.hid (show isDone s p false = false by simp [isDone, h])
      have hd : decide (s.size ≤ p) = false := decide_eq_false (by omega)
      clear h
      go_enter Try.func26, Try.ntmps26
      go_wp2
      go_quiet (fail)
      go_wp2
      go_ret
      exact ⟨by rw [HD.out]; rfl, _, rfl⟩
  · have HD := Lib.hid (show isDone s p true = false by simp [isDone])
    go_enter Try.func26, Try.ntmps26
    go_wp2
    go_quiet (fail)
    go_wp2
    go_ret
    exact ⟨by rw [HD.out]; rfl, _, rfl⟩

theorem refDone_any (hr : Rd 66 w b s p bad) :
    Calls Try.prog 43 #[.pointer (some ⟨b, 0, none⟩)] w fun e w' => e = .returned (.bool (isDone s p bad)) ∧ ∃ n, w' = w.drewN n := by
  obtain ⟨hc0, hc1, hc2⟩ := hr.cells
  clear hr
  cases bad
  · by_cases h : p = s.size
    · have HD := Lib.hid (show isDone s p false = true by simp [isDone, h])
      have hd : ((p : Int) == (s.size : Int)) = true := by simp [h]
      clear h
      go_enter Try.func43, Try.ntmps43
      go_wp2
      go_quiet (fail)
      go_wp2
      go_ret
      exact ⟨by rw [HD.out]; rfl, _, rfl⟩
    · have HD := Lib.hid (show isDone s p false = false by simp [isDone, h])
      have hd : ((p : Int) == (s.size : Int)) = false := by simp; omega
      clear h
      go_enter Try.func43, Try.ntmps43
      go_wp2
      go_quiet (fail)
      go_wp2
      go_ret
      exact ⟨by rw [HD.out]; rfl, _, rfl⟩
  · have HD := Lib.hid (show isDone s p true = false by simp [isDone])
    go_enter Try.func43, Try.ntmps43
    go_wp2
    go_quiet (fail)
    go_wp2
    go_ret
    exact ⟨by rw [HD.out]; rfl, _, rfl⟩
end

end Go.Proofs.Ytfhonobaddkmhaa
