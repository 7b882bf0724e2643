/- Count and Bool of both Readers. -/
import Derived.Test.YtfhonobaddkmhaaCf
namespace Go.Proofs.Ytfhonobaddkmhaa
open Go.RowKit Cod

/-- The number from 0 to most that stands at p. -/
def isCount (s : ByteArray) (p : Nat) (bad : Bool) (most : Int) : Option (Int × Nat) :=
  match isNum s p bad with
  | some (n, q) => if 0 ≤ n ∧ n ≤ most then some (n, q) else none
  | none => none

section
variable {b : Nat} {s : ByteArray} {p : Nat} {w : World} {bad : Bool}
theorem isCount_some {most n : Int} {q : Nat} (h : isCount s p bad most = some (n, q)) : isNum s p bad = some (n, q) ∧ 0 ≤ n ∧ n ≤ most := by
  unfold isCount at h
  split at h
  · rename_i n' q' h1
    split at h
    · rename_i h2
      obtain ⟨rfl, rfl⟩ := Prod.mk.inj (Option.some.inj h)
      exact ⟨h1, h2⟩
    · cases h
  · cases h
theorem isCount_none {most : Int} (h : isCount s p bad most = none) : isNum s p bad = none ∨ ∃ n q, isNum s p bad = some (n, q) ∧ (n < 0 ∨ most < n) := by
  unfold isCount at h
  split at h
  · rename_i n' q' h1
    split at h
    · cases h
    · exact Or.inr ⟨n', q', h1, by omega⟩
  · exact Or.inl ‹_›

theorem count_yes {most n : Int} {q : Nat} (hs : s.size ≤ 1000000) (hp : p ≤ s.size) (hr : Rd 39 w b s p bad) (h : isCount s p bad most = some (n, q)) :
    Calls Try.prog 40 #[.pointer (some ⟨b, 0, none⟩), .int .i64 most] w (Yes 39 b s w (.int .i64 n) q) := by
  obtain ⟨h1, h2, h3⟩ := isCount_some h
  have CN := Lib.hid (rnum_yes hs hp hr h1)
  clear h h1 hr
  go_enter Try.func40, Try.ntmps40
  go_wp2_with (go_at_call 49; (with_reducible refine CN.out.mono ?_); rintro e w1 ⟨rfl, hr1, hb1⟩)
  go_ret
  exact ⟨rfl, hr1, hb1⟩

theorem count_no {most : Int} (hs : s.size ≤ 1000000) (hp : p ≤ s.size) (hr : Rd 39 w b s p bad) (h : isCount s p bad most = none) :
    Calls Try.prog 40 #[.pointer (some ⟨b, 0, none⟩), .int .i64 most] w (No 39 b s w (.int .i64 0)) := by
  rcases isCount_none h with h1 | ⟨n, q, h1, h2⟩
  · have CN := Lib.hid (rnum_no hs hp hr h1)
    clear h h1 hr
    by_cases hm : most < 0
    · go_enter Try.func40, Try.ntmps40
      go_wp2_with (go_at_call 49; (with_reducible refine CN.out.mono ?_); rintro e w1 ⟨rfl, ⟨q, hq, hr1⟩, hb1⟩; obtain ⟨hc0, hc1, hc2⟩ := hr1.cells; have hf2 := hr1.frozen 2; have HR := Lib.hid hr1; clear hr1)
      go_ret
      exact ⟨rfl, ⟨q, hq, HR.out.setBad⟩, by_set hb1 _ _⟩
    · go_enter Try.func40, Try.ntmps40
      go_wp2_with (go_at_call 49; (with_reducible refine CN.out.mono ?_); rintro e w1 ⟨rfl, ⟨q, hq, hr1⟩, hb1⟩)
      go_ret
      exact ⟨rfl, ⟨q, hq, hr1⟩, hb1⟩
  · have CN := Lib.hid (rnum_yes hs hp hr h1)
    have hq := (isNum_some h1).2.2.1
    clear h h1 hr
    rcases h2 with h2 | h2
    · go_enter Try.func40, Try.ntmps40
      go_wp2_with (go_at_call 49; (with_reducible refine CN.out.mono ?_); rintro e w1 ⟨rfl, hr1, hb1⟩; obtain ⟨hc0, hc1, hc2⟩ := hr1.cells; have hf2 := hr1.frozen 2; have HR := Lib.hid hr1; clear hr1)
      go_ret
      exact ⟨rfl, ⟨q, hq, HR.out.setBad⟩, by_set hb1 _ _⟩
    · by_cases h0 : n < 0
      · go_enter Try.func40, Try.ntmps40
        go_wp2_with (go_at_call 49; (with_reducible refine CN.out.mono ?_); rintro e w1 ⟨rfl, hr1, hb1⟩; obtain ⟨hc0, hc1, hc2⟩ := hr1.cells; have hf2 := hr1.frozen 2; have HR := Lib.hid hr1; clear hr1)
        go_ret
        exact ⟨rfl, ⟨q, hq, HR.out.setBad⟩, by_set hb1 _ _⟩
      · go_enter Try.func40, Try.ntmps40
        go_wp2_with (go_at_call 49; (with_reducible refine CN.out.mono ?_); rintro e w1 ⟨rfl, hr1, hb1⟩; obtain ⟨hc0, hc1, hc2⟩ := hr1.cells; have hf2 := hr1.frozen 2; have HR := Lib.hid hr1; clear hr1)
        go_ret
        exact ⟨rfl, ⟨q, hq, HR.out.setBad⟩, by_set hb1 _ _⟩

theorem refCount_yes {most n : Int} {q : Nat} (hs : s.size ≤ 1000000) (hp : p ≤ s.size) (hr : Rd 66 w b s p bad) (h : isCount s p bad most = some (n, q)) :
    Calls Try.prog 51 #[.pointer (some ⟨b, 0, none⟩), .int .i64 most] w (Yes 66 b s w (.int .i64 n) q) := by
  obtain ⟨h1, h2, h3⟩ := isCount_some h
  have CN := Lib.hid (refRnum_yes hs hp hr h1)
  clear h h1 hr
  go_enter Try.func51, Try.ntmps51
  go_wp2_with (go_at_call 52; (with_reducible refine CN.out.mono ?_); rintro e w1 ⟨rfl, hr1, hb1⟩; obtain ⟨hc0, hc1, hc2⟩ := hr1.cells)
  go_ret
  exact ⟨rfl, hr1, hb1⟩

theorem refCount_no {most : Int} (hs : s.size ≤ 1000000) (hp : p ≤ s.size) (hr : Rd 66 w b s p bad) (h : isCount s p bad most = none) :
    Calls Try.prog 51 #[.pointer (some ⟨b, 0, none⟩), .int .i64 most] w (No 66 b s w (.int .i64 0)) := by
  rcases isCount_none h with h1 | ⟨n, q, h1, h2⟩
  · have CN := Lib.hid (refRnum_no hs hp hr h1)
    clear h h1 hr
    go_enter Try.func51, Try.ntmps51
    go_wp2_with (go_at_call 52; (with_reducible refine CN.out.mono ?_); rintro e w1 ⟨rfl, ⟨q, hq, hr1⟩, hb1⟩; obtain ⟨hc0, hc1, hc2⟩ := hr1.cells; have hf2 := hr1.frozen 2; have HR := Lib.hid hr1; clear hr1)
    go_ret
    exact ⟨rfl, ⟨q, hq, HR.out.setBad⟩, by_set hb1 _ _⟩
  · have CN := Lib.hid (refRnum_yes hs hp hr h1)
    have hq := (isNum_some h1).2.2.1
    clear h h1 hr
    by_cases h0 : n < 0
    · go_enter Try.func51, Try.ntmps51
      go_wp2_with (go_at_call 52; (with_reducible refine CN.out.mono ?_); rintro e w1 ⟨rfl, hr1, hb1⟩; obtain ⟨hc0, hc1, hc2⟩ := hr1.cells; have hf2 := hr1.frozen 2; have HR := Lib.hid hr1; clear hr1)
      go_ret
      exact ⟨rfl, ⟨q, hq, HR.out.setBad⟩, by_set hb1 _ _⟩
    · have h3 : most < n := by omega
      go_enter Try.func51, Try.ntmps51
      go_wp2_with (go_at_call 52; (with_reducible refine CN.out.mono ?_); rintro e w1 ⟨rfl, hr1, hb1⟩; obtain ⟨hc0, hc1, hc2⟩ := hr1.cells; have hf2 := hr1.frozen 2; have HR := Lib.hid hr1; clear hr1)
      go_ret
      exact ⟨rfl, ⟨q, hq, HR.out.setBad⟩, by_set hb1 _ _⟩

/-- The bool that stands at p. -/
def isBool (s : ByteArray) (p : Nat) (bad : Bool) : Option (Bool × Nat) := (isCount s p bad 1).map fun x => (decide (x.1 = 1), x.2)
theorem isBool_some {v : Bool} {q : Nat} (h : isBool s p bad = some (v, q)) : ∃ n, isCount s p bad 1 = some (n, q) ∧ (n = 1 ∧ v = true ∨ n = 0 ∧ v = false) := by
  unfold isBool at h
  obtain ⟨⟨n, q'⟩, h1, h2⟩ := Option.map_eq_some_iff.1 h
  obtain ⟨rfl, rfl⟩ := Prod.mk.inj h2
  obtain ⟨_, h3, h4⟩ := isCount_some h1
  refine ⟨n, h1, ?_⟩
  by_cases h5 : n = 1
  · exact Or.inl ⟨h5, by simp [h5]⟩
  · exact Or.inr ⟨by omega, by simp [h5]⟩
theorem isBool_none (h : isBool s p bad = none) : isCount s p bad 1 = none := by simpa [isBool] using h

end

end Go.Proofs.Ytfhonobaddkmhaa
