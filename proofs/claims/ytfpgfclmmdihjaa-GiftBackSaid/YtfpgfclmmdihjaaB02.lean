/- Texts laid one behind the other: Ch, Ui, Oe, Of, Ck, Og, Frm, Ar, Oo, Oi, Ea, Qa, Ia, Ib, Gk, Ka, Kb, Kc, Kd, Ke, Kf, Kg. -/
import Derived.Test.YtfpgfclmmdihjaaB01
import Derived.Test.YtfpgfclmmdihjaaRows
import Derived.WalkKit
import Derived.ProofKit
import Derived.OpenShut
import Derived.ChangeSame
import Derived.Carry
import Derived.Lib.QuietBelow
import Derived.Lib.SmallJoins
import Derived.Deep.SlicePairs
import Derived.ChangeSlices
import Derived.ChangeShapes
import Derived.Test.YtfpgfclmmdihjaaChecked
import Derived.Lib.Hide
import Derived.KernelRfl
import Derived.Handy
import Derived.BigQuiet
import Derived.Deep.QuietTactic
import Derived.Laws.IdiomStrings
/- Text and Done of both Readers. -/
namespace Go.Proofs.Ytfpgfclmmdihjaa
open Go.RowKit Cod

/-- The text that stands at p. -/
def isText (s : ByteArray) (p : Nat) (bad : Bool) (most : Int) : Option (ByteArray × Nat) :=
  match isCount s p bad most with
  | some (n, q) => if n.toNat + q ≤ s.size then some (s.extract q (q + n.toNat), q + n.toNat) else none
  | none => none

section
variable {b : Nat} {s : ByteArray} {p : Nat} {w : World} {bad : Bool}
theorem isText_some {most : Int} {t : ByteArray} {e : Nat} (h : isText s p bad most = some (t, e)) : ∃ n q : Nat, isCount s p bad most = some ((n : Int), q) ∧ n + q ≤ s.size ∧ t = s.extract q (q + n) ∧ e = q + n := by
  unfold isText at h
  split at h
  · rename_i n' q' h1
    split at h
    · rename_i h2
      obtain ⟨rfl, rfl⟩ := Prod.mk.inj (Option.some.inj h)
      obtain ⟨_, h3, _⟩ := isCount_some h1
      exact ⟨n'.toNat, q', by rw [Int.toNat_of_nonneg h3]; exact h1, h2, rfl, rfl⟩
    · cases h
  · cases h
theorem isText_none {most : Int} (h : isText s p bad most = none) : isCount s p bad most = none ∨ ∃ n q : Nat, isCount s p bad most = some ((n : Int), q) ∧ s.size < n + q := by
  unfold isText at h
  split at h
  · rename_i n' q' h1
    split at h
    · cases h
    · obtain ⟨_, h3, _⟩ := isCount_some h1
      exact Or.inr ⟨n'.toNat, q', by rw [Int.toNat_of_nonneg h3]; exact h1, by omega⟩
  · exact Or.inl ‹_›

set_option maxHeartbeats 2000000 in
theorem rtext_yes {most : Int} {t : ByteArray} {e : Nat} (hs : s.size ≤ 1000000) (hp : p ≤ s.size) (hr : Rd 75 w b s p bad) (h : isText s p bad most = some (t, e)) :
    Calls Try.prog 89 #[.pointer (some ⟨b, 0, none⟩), .int .i64 most] w (Yes 75 b s w (.string t) e) := by
  obtain ⟨n, q, h1, h2, rfl, rfl⟩ := isText_some h
  have CN := Lib.hid (count_yes hs hp hr h1)
  clear h h1 hr
  have hd : decide ((s.size : Int) - (q : Int) < (n : Int)) = false := decide_eq_false (by omega)
  have hn : (n : Int) ≤ (s.size : Int) - (q : Int) := by omega
  have hn2 : (q : Int) + (n : Int) ≤ (s.size : Int) := by omega
  have hn3 : (q : Int) ≤ (q : Int) + (n : Int) := by omega
  go_enter Try.func89, Try.ntmps89
  go_wp2_with (go_at_call 47; (with_reducible refine CN.out.mono ?_); rintro e w1 ⟨rfl, hr1, hb1⟩; obtain ⟨hc0, hc1, hc2⟩ := hr1.cells; have hf1 := hr1.frozen 1; have HR := Lib.hid hr1; clear hr1)
  go_quiet (fail)
  go_wp2
  go_quiet (fail)
  go_wp2
  go_ret
  exact ⟨rfl, (HR.out.drewN _).setAt (q + n), by_drewN (by_set (by_drewN hb1 _) _ _) _⟩

set_option maxHeartbeats 2000000 in
theorem rtext_no {most : Int} (hs : s.size ≤ 1000000) (hp : p ≤ s.size) (hr : Rd 75 w b s p bad) (h : isText s p bad most = none) :
    Calls Try.prog 89 #[.pointer (some ⟨b, 0, none⟩), .int .i64 most] w (No 75 b s w (.string ⟨#[]⟩)) := by
  rcases isText_none h with h1 | ⟨n, q, h1, h2⟩
  · have CN := Lib.hid (count_no hs hp hr h1)
    clear h h1 hr
    go_enter Try.func89, Try.ntmps89
    go_wp2_with (go_at_call 47; (with_reducible refine CN.out.mono ?_); rintro e w1 ⟨rfl, ⟨q, hq, hr1⟩, hb1⟩; obtain ⟨hc0, hc1, hc2⟩ := hr1.cells; have hf2 := hr1.frozen 2; have HR := Lib.hid hr1; clear hr1)
    go_quiet (fail)
    go_wp2
    go_ret
    exact ⟨rfl, ⟨q, hq, (HR.out.drewN _).setBad⟩, by_set (by_drewN hb1 _) _ _⟩
  · have CN := Lib.hid (count_yes hs hp hr h1)
    have hq := (isNum_some (isCount_some h1).1).2.2.1
    clear h h1 hr
    have hd : decide ((s.size : Int) - (q : Int) < (n : Int)) = true := decide_eq_true (by omega)
    go_enter Try.func89, Try.ntmps89
    go_wp2_with (go_at_call 47; (with_reducible refine CN.out.mono ?_); rintro e w1 ⟨rfl, hr1, hb1⟩; obtain ⟨hc0, hc1, hc2⟩ := hr1.cells; have hf2 := hr1.frozen 2; have HR := Lib.hid hr1; clear hr1)
    go_quiet (fail)
    go_wp2
    go_ret
    exact ⟨rfl, ⟨q, hq, (HR.out.drewN _).setBad⟩, by_set (by_drewN hb1 _) _ _⟩

/-- Is nothing left, and did nothing go wrong? -/
def isDone (s : ByteArray) (p : Nat) (bad : Bool) : Bool := !bad && decide (p = s.size)

theorem done_any (hp : p ≤ s.size) (hr : Rd 75 w b s p bad) :
    Calls Try.prog 28 #[.pointer (some ⟨b, 0, none⟩)] w fun e w' => e = .returned (.bool (isDone s p bad)) ∧ ∃ n, w' = w.drewN n := by
  obtain ⟨hc0, hc1, hc2⟩ := hr.cells
  clear hr
  cases bad
  · by_cases h : p = s.size
    · have HD := Lib.hid (show isDone s p false = true by simp [isDone, h])
      have hd : decide (s.size ≤ p) = true := decide_eq_true (by omega)
      clear h
      go_enter Try.func28, Try.ntmps28
      go_wp2
      go_quiet (fail)
      go_wp2
      go_ret
      exact ⟨by rw [HD.out]; rfl, _, rfl⟩
    · have HD := Lib.hid (show isDone s p false = false by simp [isDone, h])
      have hd : decide (s.size ≤ p) = false := decide_eq_false (by omega)
      clear h
      go_enter Try.func28, Try.ntmps28
      go_wp2
      go_quiet (fail)
      go_wp2
      go_ret
      exact ⟨by rw [HD.out]; rfl, _, rfl⟩
  · have HD := Lib.hid (show isDone s p true = false by simp [isDone])
    go_enter Try.func28, Try.ntmps28
    go_wp2
    go_quiet (fail)
    go_wp2
    go_ret
    exact ⟨by rw [HD.out]; rfl, _, rfl⟩

end

end Go.Proofs.Ytfpgfclmmdihjaa

/- A number, a text read, whatever the reader's state; small steps on worlds. -/
namespace Go.Proofs.Ytfpgfclmmdihjaa
open Go.RowKit Cod

def numStep (s : ByteArray) (p : Nat) (bad : Bool) (v : Int) (q : Nat) (bad' : Bool) : Prop := (isNum s p bad = some (v, q) ∧ bad' = false) ∨ (isNum s p bad = none ∧ v = 0 ∧ bad' = true)
def textStep (s : ByteArray) (p : Nat) (bad : Bool) (v : ByteArray) (q : Nat) (bad' : Bool) : Prop := (isText s p bad 16 = some (v, q) ∧ bad' = false) ∨ (isText s p bad 16 = none ∧ v = ⟨#[]⟩ ∧ bad' = true)
theorem isNum_bad (s : ByteArray) (p : Nat) : isNum s p true = none := rfl
theorem isText_bad (s : ByteArray) (p : Nat) (m : Int) : isText s p true m = none := by
  rcases h : isText s p true m with _ | ⟨t, e⟩
  · rfl
  · obtain ⟨n, q, h1, _⟩ := isText_some h
    have := (isCount_some h1).1
    rw [isNum_bad] at this; cases this
theorem numStep.good {s : ByteArray} {p : Nat} {bad : Bool} {v : Int} {q : Nat} (h : numStep s p bad v q false) : bad = false ∧ isNum s p false = some (v, q) := by
  rcases h with ⟨h, _⟩ | ⟨_, _, h⟩
  · cases bad
    · exact ⟨rfl, h⟩
    · rw [isNum_bad] at h; cases h
  · cases h
theorem numStep.ill {s : ByteArray} {p : Nat} {bad : Bool} {v : Int} {q : Nat} (h : numStep s p bad v q true) : isNum s p bad = none := by
  rcases h with ⟨_, h⟩ | ⟨h, _⟩
  · cases h
  · exact h
theorem numStep.back {s : ByteArray} {p : Nat} {bad : Bool} {v : Int} {q : Nat} (h : numStep s p bad v q false) : isNum s p bad = some (v, q) := by
  rcases h with ⟨h, _⟩ | ⟨_, _, h⟩
  · exact h
  · cases h
theorem textStep.good {s : ByteArray} {p : Nat} {bad : Bool} {v : ByteArray} {q : Nat} (h : textStep s p bad v q false) : bad = false ∧ isText s p false 16 = some (v, q) := by
  rcases h with ⟨h, _⟩ | ⟨_, _, h⟩
  · cases bad
    · exact ⟨rfl, h⟩
    · rw [isText_bad] at h; cases h
  · cases h
theorem textStep.ill {s : ByteArray} {p : Nat} {bad : Bool} {v : ByteArray} {q : Nat} (h : textStep s p bad v q true) : isText s p bad 16 = none := by
  rcases h with ⟨_, h⟩ | ⟨h, _⟩
  · cases h
  · exact h

theorem num_uni {w : World} {b p : Nat} {s : ByteArray} {bad : Bool} (hs : s.size ≤ 1000000) (hp : p ≤ s.size) (hr : Rd 75 w b s p bad) :
    Calls Try.prog 66 #[.pointer (some ⟨b, 0, none⟩)] w fun e w' => ∃ v q bad', e = .returned (.int .i64 v) ∧ Rd 75 w' b s q bad' ∧ q ≤ s.size ∧ w.grownBy w' (some b) ∧ numStep s p bad v q bad' := by
  rcases h : isNum s p bad with _ | ⟨v, q⟩
  · exact (rnum_no hs hp hr h).mono fun e w' ⟨he, ⟨q, hq, hr'⟩, hg⟩ => ⟨0, q, true, he, hr', hq, hg, Or.inr ⟨h, rfl, rfl⟩⟩
  · exact (rnum_yes hs hp hr h).mono fun e w' ⟨he, hr', hg⟩ => ⟨v, q, false, he, hr', (isNum_some h).2.2.1, hg, Or.inl ⟨h, rfl⟩⟩
theorem text_uni {w : World} {b p : Nat} {s : ByteArray} {bad : Bool} (hs : s.size ≤ 1000000) (hp : p ≤ s.size) (hr : Rd 75 w b s p bad) :
    Calls Try.prog 89 #[.pointer (some ⟨b, 0, none⟩), .int .i64 16] w fun e w' => ∃ v q bad', e = .returned (.string v) ∧ Rd 75 w' b s q bad' ∧ q ≤ s.size ∧ v.size ≤ 1000000 ∧ w.grownBy w' (some b) ∧ textStep s p bad v q bad' := by
  rcases h : isText s p bad 16 with _ | ⟨v, q⟩
  · exact (rtext_no hs hp hr h).mono fun e w' ⟨he, ⟨q, hq, hr'⟩, hg⟩ => ⟨⟨#[]⟩, q, true, he, hr', hq, by decide, hg, Or.inr ⟨h, rfl, rfl⟩⟩
  · obtain ⟨n, q0, h1, h2, rfl, rfl⟩ := isText_some h
    exact (rtext_yes hs hp hr h).mono fun e w' ⟨he, hr', hg⟩ => ⟨_, _, false, he, hr', by omega, by rw [ByteArray.size_extract]; omega, hg, Or.inl ⟨h, rfl⟩⟩

theorem refNum_uni {w : World} {b p : Nat} {s : ByteArray} {bad : Bool} (hs : s.size ≤ 1000000) (hp : p ≤ s.size) (hr : Rd 77 w b s p bad) :
    Calls Try.prog 72 #[.pointer (some ⟨b, 0, none⟩)] w fun e w' => ∃ v q bad', e = .returned (.int .i64 v) ∧ Rd 77 w' b s q bad' ∧ q ≤ s.size ∧ w.grownBy w' (some b) ∧ numStep s p bad v q bad' := by
  rcases h : isNum s p bad with _ | ⟨v, q⟩
  · exact (refRnum_no hs hp hr h).mono fun e w' ⟨he, ⟨q, hq, hr'⟩, hg⟩ => ⟨0, q, true, he, hr', hq, hg, Or.inr ⟨h, rfl, rfl⟩⟩
  · exact (refRnum_yes hs hp hr h).mono fun e w' ⟨he, hr', hg⟩ => ⟨v, q, false, he, hr', (isNum_some h).2.2.1, hg, Or.inl ⟨h, rfl⟩⟩
section
variable {w a : World} {b : Nat} {s : ByteArray}
theorem Rd.other {T : TypeId} {q : Nat} {bad : Bool} (h : Rd T w b s q bad) (n i : Nat) (v : Value) (hne : b ≠ n) : Rd T (w.setCell ⟨n, i, none⟩ v) b s q bad :=
  (Below.heap_setCell w ⟨n, i, none⟩ v b hne).trans h
theorem by_setNew (h : a.grownBy w (some b)) (n i : Nat) (v : Value) (hn : a.heap.size ≤ n) : a.grownBy (w.setCell ⟨n, i, none⟩ v) (some b) :=
  ⟨h.os, h.tape, h.output, by simpa [World.setCell] using h.size, fun k hk hne => (Below.heap_setCell w ⟨n, i, none⟩ v k (by intro e; have e : k = n := e; omega)).trans (h.block k hk hne)⟩
theorem by_setRow (h : a.grownBy w (some b)) (n : Nat) (cs : Array Value) (hn : a.heap.size ≤ n) : a.grownBy (w.setRow n cs) (some b) :=
  ⟨h.os, h.tape, h.output, by simpa [World.setRow] using h.size, fun k hk hne => (setRow_other w n k cs (by omega)).trans (h.block k hk hne)⟩
theorem Rd.row {T : TypeId} {q : Nat} {bad : Bool} (h : Rd T w b s q bad) (n : Nat) (cs : Array Value) (hne : b ≠ n) : Rd T (w.setRow n cs) b s q bad := (setRow_other w n b cs hne).trans h
end
end Go.Proofs.Ytfpgfclmmdihjaa

/- What Read gives, of the program and of the document: layer op. -/
namespace Go.Proofs.Ytfpgfclmmdihjaa
open Go.RowKit Nam Cod

structure Mv where
  C : Int
  D : Int
  I : Int
  M : Int
  K : Int
  U : Int
  s : ByteArray
def zeroMv : Mv := ⟨0, 0, 0, 0, 0, 0, ⟨#[]⟩⟩
def isOp (s : ByteArray) (p : Nat) (bad : Bool) : Option (Mv × Nat) :=
  (isNum s p bad).bind fun a => (isNum s a.2 false).bind fun b => (isNum s b.2 false).bind fun c => (isNum s c.2 false).bind fun d => (isNum s d.2 false).bind fun e => (isNum s e.2 false).bind fun f => (isText s f.2 false 16).bind fun g =>
    if opB a.1 b.1 c.1 d.1 e.1 f.1 g.1 = true then some (⟨a.1, b.1, c.1, d.1, e.1, f.1, g.1⟩, g.2) else none
def opStep (s : ByteArray) (p : Nat) (bad : Bool) (o : Mv) (q : Nat) (bad' : Bool) : Prop := (isOp s p bad = some (o, q) ∧ bad' = false) ∨ (isOp s p bad = none ∧ o = zeroMv ∧ bad' = true)

/-- The seven steps, one behind the other. -/
structure Steps7 (s : ByteArray) (p : Nat) (bad : Bool) (C D I M K U : Int) (t : ByteArray) (q7 : Nat) (b7 : Bool) : Prop where
  all : ∃ q1 q2 q3 q4 q5 q6 b1 b2 b3 b4 b5 b6, numStep s p bad C q1 b1 ∧ numStep s q1 b1 D q2 b2 ∧ numStep s q2 b2 I q3 b3 ∧ numStep s q3 b3 M q4 b4 ∧ numStep s q4 b4 K q5 b5 ∧ numStep s q5 b5 U q6 b6 ∧ textStep s q6 b6 t q7 b7
theorem Steps7.good {s : ByteArray} {p : Nat} {bad : Bool} {C D I M K U : Int} {t : ByteArray} {q7 : Nat} (h : Steps7 s p bad C D I M K U t q7 false) : isOp s p bad = if opB C D I M K U t = true then some (⟨C, D, I, M, K, U, t⟩, q7) else none := by
  obtain ⟨q1, q2, q3, q4, q5, q6, b1, b2, b3, b4, b5, b6, h1, h2, h3, h4, h5, h6, h7⟩ := h.all
  obtain ⟨e7, g7⟩ := h7.good
  subst e7
  obtain ⟨e6, g6⟩ := h6.good
  subst e6
  obtain ⟨e5, g5⟩ := h5.good
  subst e5
  obtain ⟨e4, g4⟩ := h4.good
  subst e4
  obtain ⟨e3, g3⟩ := h3.good
  subst e3
  obtain ⟨e2, g2⟩ := h2.good
  subst e2
  have g1 := h1.back
  unfold isOp
  simp only [g1, g2, g3, g4, g5, g6, g7, Option.bind_some]
theorem Steps7.ill {s : ByteArray} {p : Nat} {bad : Bool} {C D I M K U : Int} {t : ByteArray} {q7 : Nat} (h : Steps7 s p bad C D I M K U t q7 true) : isOp s p bad = none := by
  obtain ⟨q1, q2, q3, q4, q5, q6, b1, b2, b3, b4, b5, b6, h1, h2, h3, h4, h5, h6, h7⟩ := h.all
  unfold isOp
  cases b1
  · have h1 := h1.back
    cases b2
    · have h2 := h2.back
      cases b3
      · have h3 := h3.back
        cases b4
        · have h4 := h4.back
          cases b5
          · have h5 := h5.back
            cases b6
            · have h6 := h6.back
              have h7 := h7.ill
              simp only [h1, h2, h3, h4, h5, h6, h7, Option.bind_some, Option.bind_none]
            · have h6 := h6.ill
              simp only [h1, h2, h3, h4, h5, h6, Option.bind_some, Option.bind_none]
          · have h5 := h5.ill
            simp only [h1, h2, h3, h4, h5, Option.bind_some, Option.bind_none]
        · have h4 := h4.ill
          simp only [h1, h2, h3, h4, Option.bind_some, Option.bind_none]
      · have h3 := h3.ill
        simp only [h1, h2, h3, Option.bind_some, Option.bind_none]
    · have h2 := h2.ill
      simp only [h1, h2, Option.bind_some, Option.bind_none]
  · have h1 := h1.ill
    simp only [h1, Option.bind_none]

section
variable {w a : World} {b : Nat} {C D I M K U : Int} {s : ByteArray}
theorem OpIn.putC (h : OpIn w b C D I M K U s) (x : Int) : OpIn (w.setCell ⟨b, 0, none⟩ (.int .i64 x)) b x D I M K U s := by
  unfold OpIn at h ⊢
  simp [World.setCell, Array.getElem?_modify, h]
theorem OpIn.putD (h : OpIn w b C D I M K U s) (x : Int) : OpIn (w.setCell ⟨b, 1, none⟩ (.int .i64 x)) b C x I M K U s := by
  unfold OpIn at h ⊢
  simp [World.setCell, Array.getElem?_modify, h]
theorem OpIn.putI (h : OpIn w b C D I M K U s) (x : Int) : OpIn (w.setCell ⟨b, 2, none⟩ (.int .i64 x)) b C D x M K U s := by
  unfold OpIn at h ⊢
  simp [World.setCell, Array.getElem?_modify, h]
theorem OpIn.putM (h : OpIn w b C D I M K U s) (x : Int) : OpIn (w.setCell ⟨b, 3, none⟩ (.int .i64 x)) b C D I x K U s := by
  unfold OpIn at h ⊢
  simp [World.setCell, Array.getElem?_modify, h]
theorem OpIn.putK (h : OpIn w b C D I M K U s) (x : Int) : OpIn (w.setCell ⟨b, 4, none⟩ (.int .i64 x)) b C D I M x U s := by
  unfold OpIn at h ⊢
  simp [World.setCell, Array.getElem?_modify, h]
theorem OpIn.putU (h : OpIn w b C D I M K U s) (x : Int) : OpIn (w.setCell ⟨b, 5, none⟩ (.int .i64 x)) b C D I M K x s := by
  unfold OpIn at h ⊢
  simp [World.setCell, Array.getElem?_modify, h]
theorem OpIn.putS (h : OpIn w b C D I M K U s) (x : ByteArray) : OpIn (w.setCell ⟨b, 6, none⟩ (.string x)) b C D I M K U x := by
  unfold OpIn at h ⊢
  simp [World.setCell, Array.getElem?_modify, h]
theorem OpIn.other (h : OpIn w b C D I M K U s) (n i : Nat) (v : Value) (hne : b ≠ n) : OpIn (w.setCell ⟨n, i, none⟩ v) b C D I M K U s :=
  (Below.heap_setCell w ⟨n, i, none⟩ v b hne).trans h
end

set_option maxRecDepth 100000 in
set_option maxHeartbeats 8000000 in
theorem opRead_uni {w : World} {b p : Nat} {s : ByteArray} {bad : Bool} (hs : s.size ≤ 1000000) (hp : p ≤ s.size) (hr : Rd 75 w b s p bad) :
    Calls Try.prog 82 #[.pointer (some ⟨b, 0, none⟩)] w fun e w' => ∃ (o : Mv) (q : Nat) (bad' : Bool), e = .returned (.agg #[.int .i64 o.C, .int .i64 o.D, .int .i64 o.I, .int .i64 o.M, .int .i64 o.K, .int .i64 o.U, .string o.s]) ∧ Rd 75 w' b s q bad' ∧ q ≤ s.size ∧ w.grownBy w' (some b) ∧ opStep s p bad o q bad' := by
  have hbw := hr.lt
  go_enter Try.func82, Try.ntmps82
  go_wp2_with fail
  have hO := OpIn.new (w.alloc (.cells #[.int .i64 0, .int .i64 0, .int .i64 0, .int .i64 0, .int .i64 0, .int .i64 0, .string ⟨#[]⟩] 48)) 0 0 0 0 0 0 ⟨#[]⟩
  rw [show (w.alloc (.cells #[.int .i64 0, .int .i64 0, .int .i64 0, .int .i64 0, .int .i64 0, .int .i64 0, .string ⟨#[]⟩] 48)).heap.size = w.heap.size + 1 from alloc_size _ _] at hO
  have hZ := (OpIn.new w 0 0 0 0 0 0 ⟨#[]⟩).alloc (.cells #[.int .i64 0, .int .i64 0, .int .i64 0, .int .i64 0, .int .i64 0, .int .i64 0, .string ⟨#[]⟩] 48)
  have hB := below_alloc (below_alloc (Below.refl w.heap.size w) (.cells #[.int .i64 0, .int .i64 0, .int .i64 0, .int .i64 0, .int .i64 0, .int .i64 0, .string ⟨#[]⟩] 48)) (.cells #[.int .i64 0, .int .i64 0, .int .i64 0, .int .i64 0, .int .i64 0, .int .i64 0, .string ⟨#[]⟩] 48)
  have hR := hr.below hB
  have hG := by_below hB (some b)
  generalize (w.alloc (.cells #[.int .i64 0, .int .i64 0, .int .i64 0, .int .i64 0, .int .i64 0, .int .i64 0, .string ⟨#[]⟩] 48)).alloc (.cells #[.int .i64 0, .int .i64 0, .int .i64 0, .int .i64 0, .int .i64 0, .int .i64 0, .string ⟨#[]⟩] 48) = W0 at *
  obtain ⟨n2, h2⟩ : ∃ n, w.heap.size = n := ⟨_, rfl⟩
  obtain ⟨n3, h3⟩ : ∃ n, w.heap.size + 1 = n := ⟨_, rfl⟩
  have hn2 : w.heap.size ≤ n2 := by omega
  have hn3 : w.heap.size ≤ n3 := by omega
  have e2 : b ≠ n2 := by omega
  have e3 : b ≠ n3 := by omega
  have e4 : n2 ≠ n3 := by omega
  have i2 : some n2 ≠ some b := fun e => e2 (Option.some.inj e).symm
  have i3 : some n3 ≠ some b := fun e => e3 (Option.some.inj e).symm
  rw [h3] at hO ⊢
  rw [h2] at hZ ⊢
  clear h2 h3 hB hr
  refine (num_uni hs hp hR).mono ?_
  clear hR
  rintro e w1 ⟨v1, q1, b1, rfl, hR, q1s, hg, st1⟩
  replace hO := hO.keep hg i3
  replace hZ := hZ.keep hg i2
  replace hG := by_trans hG hg
  clear hg
  have kc := hO.cells
  obtain ⟨k0, k1, k2, k3, k4, k5, k6⟩ := kc
  have kf := hO.frozen
  clear k1 k2 k3 k4 k5 k6
  go_wp2_with fail
  clear k0 kf
  replace hO := hO.putC v1
  replace hZ := hZ.other n3 0 (.int .i64 v1) e4
  replace hR := hR.other n3 0 (.int .i64 v1) e3
  replace hG := by_setNew hG n3 0 (.int .i64 v1) hn3
  generalize w1.setCell ⟨n3, 0, none⟩ (.int .i64 v1) = W1 at *
  refine (num_uni hs q1s hR).mono ?_
  clear hR
  rintro e w2 ⟨v2, q2, b2, rfl, hR, q2s, hg, st2⟩
  replace hO := hO.keep hg i3
  replace hZ := hZ.keep hg i2
  replace hG := by_trans hG hg
  clear hg
  have kc := hO.cells
  obtain ⟨k0, k1, k2, k3, k4, k5, k6⟩ := kc
  have kf := hO.frozen
  clear k0 k2 k3 k4 k5 k6
  go_wp2_with fail
  clear k1 kf
  replace hO := hO.putD v2
  replace hZ := hZ.other n3 1 (.int .i64 v2) e4
  replace hR := hR.other n3 1 (.int .i64 v2) e3
  replace hG := by_setNew hG n3 1 (.int .i64 v2) hn3
  generalize w2.setCell ⟨n3, 1, none⟩ (.int .i64 v2) = W2 at *
  refine (num_uni hs q2s hR).mono ?_
  clear hR
  rintro e w3 ⟨v3, q3, b3, rfl, hR, q3s, hg, st3⟩
  replace hO := hO.keep hg i3
  replace hZ := hZ.keep hg i2
  replace hG := by_trans hG hg
  clear hg
  have kc := hO.cells
  obtain ⟨k0, k1, k2, k3, k4, k5, k6⟩ := kc
  have kf := hO.frozen
  clear k0 k1 k3 k4 k5 k6
  go_wp2_with fail
  clear k2 kf
  replace hO := hO.putI v3
  replace hZ := hZ.other n3 2 (.int .i64 v3) e4
  replace hR := hR.other n3 2 (.int .i64 v3) e3
  replace hG := by_setNew hG n3 2 (.int .i64 v3) hn3
  generalize w3.setCell ⟨n3, 2, none⟩ (.int .i64 v3) = W3 at *
  refine (num_uni hs q3s hR).mono ?_
  clear hR
  rintro e w4 ⟨v4, q4, b4, rfl, hR, q4s, hg, st4⟩
  replace hO := hO.keep hg i3
  replace hZ := hZ.keep hg i2
  replace hG := by_trans hG hg
  clear hg
  have kc := hO.cells
  obtain ⟨k0, k1, k2, k3, k4, k5, k6⟩ := kc
  have kf := hO.frozen
  clear k0 k1 k2 k4 k5 k6
  go_wp2_with fail
  clear k3 kf
  replace hO := hO.putM v4
  replace hZ := hZ.other n3 3 (.int .i64 v4) e4
  replace hR := hR.other n3 3 (.int .i64 v4) e3
  replace hG := by_setNew hG n3 3 (.int .i64 v4) hn3
  generalize w4.setCell ⟨n3, 3, none⟩ (.int .i64 v4) = W4 at *
  refine (num_uni hs q4s hR).mono ?_
  clear hR
  rintro e w5 ⟨v5, q5, b5, rfl, hR, q5s, hg, st5⟩
  replace hO := hO.keep hg i3
  replace hZ := hZ.keep hg i2
  replace hG := by_trans hG hg
  clear hg
  have kc := hO.cells
  obtain ⟨k0, k1, k2, k3, k4, k5, k6⟩ := kc
  have kf := hO.frozen
  clear k0 k1 k2 k3 k5 k6
  go_wp2_with fail
  clear k4 kf
  replace hO := hO.putK v5
  replace hZ := hZ.other n3 4 (.int .i64 v5) e4
  replace hR := hR.other n3 4 (.int .i64 v5) e3
  replace hG := by_setNew hG n3 4 (.int .i64 v5) hn3
  generalize w5.setCell ⟨n3, 4, none⟩ (.int .i64 v5) = W5 at *
  refine (num_uni hs q5s hR).mono ?_
  clear hR
  rintro e w6 ⟨v6, q6, b6, rfl, hR, q6s, hg, st6⟩
  replace hO := hO.keep hg i3
  replace hZ := hZ.keep hg i2
  replace hG := by_trans hG hg
  clear hg
  have kc := hO.cells
  obtain ⟨k0, k1, k2, k3, k4, k5, k6⟩ := kc
  have kf := hO.frozen
  clear k0 k1 k2 k3 k4 k6
  go_wp2_with fail
  clear k5 kf
  replace hO := hO.putU v6
  replace hZ := hZ.other n3 5 (.int .i64 v6) e4
  replace hR := hR.other n3 5 (.int .i64 v6) e3
  replace hG := by_setNew hG n3 5 (.int .i64 v6) hn3
  generalize w6.setCell ⟨n3, 5, none⟩ (.int .i64 v6) = W6 at *
  refine (text_uni hs q6s hR).mono ?_
  clear hR
  rintro e w7 ⟨v7, q7, b7, rfl, hR, q7s, hv, hg, st7⟩
  replace hO := hO.keep hg i3
  replace hZ := hZ.keep hg i2
  replace hG := by_trans hG hg
  clear hg
  have kc := hO.cells
  obtain ⟨k0, k1, k2, k3, k4, k5, k6⟩ := kc
  have kf := hO.frozen
  clear k0 k1 k2 k3 k4 k5
  have hst := Lib.hid (Steps7.mk (s := s) (p := p) (bad := bad) ⟨q1, q2, q3, q4, q5, q6, b1, b2, b3, b4, b5, b6, st1, st2, st3, st4, st5, st6, st7⟩)
  clear st1 st2 st3 st4 st5 st6 st7
  have hO7 := hO.putS v7
  have hZ7 := hZ.other n3 6 (.string v7) e4
  have hR7 := hR.other n3 6 (.string v7) e3
  have hG7 := by_setNew hG n3 6 (.string v7) hn3
  obtain ⟨r0, r1, r2⟩ := hR.cells
  clear r0 r1
  have rf := hR.frozen
  cases b7
  · have hop := hst.out.good
    obtain ⟨bo, hbo⟩ : ∃ x, opB v1 v2 v3 v4 v5 v6 v7 = x := ⟨_, rfl⟩
    have c := fun w => opRight_any v1 v2 v3 v4 v5 v6 v7 w (by omega)
    rw [hbo] at c hop
    have C1 := Lib.hid c
    have HOP := Lib.hid hop
    clear hst c hop hO hZ hR hG
    go_wp2_with (refine load_op_if rfl _ rfl _ rfl _ _ _ _ _ _ _ hO7 ?_)
    generalize w7.setCell ⟨n3, 6, none⟩ (.string v7) = W7 at *
    refine (C1.out _).mono ?_
    clear C1
    rintro e w8 ⟨rfl, hb8⟩
    have hO := hO7.below hb8
    have hZ := hZ7.below hb8
    have hR := hR7.below hb8
    have hG := by_trans hG7 (by_below hb8 _)
    clear hO7 hZ7 hR7 hG7 hb8 r2 rf k6 kf
    obtain ⟨r0, r1, r2⟩ := hR.cells
    clear r0 r1
    have rf := hR.frozen
    cases bo
    · go_wp2_with (refine store_op rfl _ _ rfl _ _ _ _ _ _ _ _ rfl rfl _ _ _ _ _ _ _ (hZ.other b 2 (.bool true) e2.symm) ?_)
      refine ret_op1 ((hZ.other b 2 (.bool true) e2.symm).set _ _ _ _ _ _ _) rfl rfl rfl ?_
      exact ⟨zeroMv, q7, true, rfl, (hR.setBad).row n2 _ e2, q7s, by_setRow (by_set hG 2 (.bool true)) n2 _ hn2, Or.inr ⟨by rw [HOP.out, if_neg (by decide)], rfl, rfl⟩⟩
    · go_wp2_with (first | (refine store_op rfl _ _ rfl _ _ _ _ _ _ _ _ rfl rfl _ _ _ _ _ _ _ hZ ?_) | (refine load_op rfl _ rfl _ rfl _ _ _ _ _ _ _ hO ?_))
      refine ret_op1 (hZ.set _ _ _ _ _ _ _) rfl rfl rfl ?_
      exact ⟨⟨v1, v2, v3, v4, v5, v6, v7⟩, q7, false, rfl, hR.row n2 _ e2, q7s, by_setRow hG n2 _ hn2, Or.inl ⟨by rw [HOP.out]; simp, rfl⟩⟩
  · have hop := Lib.hid hst.out.ill
    clear hst hO hZ hR hG
    go_wp2_with (refine store_op rfl _ _ rfl _ _ _ _ _ _ _ _ rfl rfl _ _ _ _ _ _ _ ((hZ7.other b 2 (.bool true) e2.symm)) ?_)
    refine ret_op1 ((hZ7.other b 2 (.bool true) e2.symm).set _ _ _ _ _ _ _) rfl rfl rfl ?_
    exact ⟨zeroMv, q7, true, rfl, (hR7.setBad).row n2 _ e2, q7s, by_setRow (by_set hG7 2 (.bool true)) n2 _ hn2, Or.inr ⟨hop.out, rfl, rfl⟩⟩

end Go.Proofs.Ytfpgfclmmdihjaa

/- What Parse gives, of the program and of the document: layer op. -/
namespace Go.Proofs.Ytfpgfclmmdihjaa
open Go.RowKit Nam Cod

def parseOf (s : ByteArray) : Option Mv := (isOp s 0 false).bind fun x => if x.2 = s.size then some x.1 else none
def Mv.val (o : Mv) : Value := .agg #[.int .i64 o.C, .int .i64 o.D, .int .i64 o.I, .int .i64 o.M, .int .i64 o.K, .int .i64 o.U, .string o.s]

end Go.Proofs.Ytfpgfclmmdihjaa

/- Numbers, a text and a bool, one behind the other: what stands where. -/
namespace Go.Proofs.Ytfpgfclmmdihjaa
open Go.RowKit Cod

theorem drop_of (A R : ByteArray) : (A ++ R).data.toList.drop A.size = R.data.toList := by
  rw [dl_app, ← dl_len A]; exact List.drop_left' rfl

theorem num_there (A Z : ByteArray) (n : Int) (h1 : -9223372036854775808 ≤ n) (h2 : n ≤ 9223372036854775807) : isNum (A ++ (bytesOf n ++ Z)) A.size false = some (n, A.size + (bytesOf n).size) := by
  unfold isNum
  rw [drop_of, dl_app, bytesOf_list, rd_enc n h1 h2, bytesOf_size]
  rfl

theorem count_there (A Z : ByteArray) (n most : Int) (h0 : 0 ≤ n) (h1 : n ≤ most) (h2 : n ≤ 9223372036854775807) : isCount (A ++ (bytesOf n ++ Z)) A.size false most = some (n, A.size + (bytesOf n).size) := by
  unfold isCount
  rw [num_there A Z n (by omega) h2]
  exact if_pos ⟨h0, h1⟩

theorem ext_there (A s Z : ByteArray) : (A ++ (s ++ Z)).extract A.size (A.size + s.size) = s := by
  apply dl_inj
  rw [ByteArray.data_extract, Array.toList_extract, List.extract_eq_take_drop, drop_of, dl_app]
  rw [Nat.add_sub_cancel_left, ← dl_len s]
  exact List.take_left' rfl

theorem text_there (A s Z : ByteArray) (most : Int) (h : (s.size : Int) ≤ most) (hs : s.size ≤ 1000000) : isText (A ++ (textOf s ++ Z)) A.size false most = some (s, A.size + (textOf s).size) := by
  unfold textOf isText
  rw [ByteArray.append_assoc, count_there A _ s.size most (by omega) h (by omega)]
  have e : A ++ (bytesOf s.size ++ (s ++ Z)) = (A ++ bytesOf s.size) ++ (s ++ Z) := by rw [ByteArray.append_assoc]
  have e2 : A.size + (bytesOf s.size).size = (A ++ bytesOf s.size).size := by rw [ByteArray.size_append]
  simp only [Int.toNat_natCast]
  have e3 : (s ++ Z).size = s.size + Z.size := ByteArray.size_append
  rw [if_pos (by rw [e, ByteArray.size_append, e2, e3]; omega), e2, e, ext_there, ByteArray.size_append, ByteArray.size_append, Nat.add_assoc]

theorem bool_there (A Z : ByteArray) (b : Bool) : isBool (A ++ (bitOf b ++ Z)) A.size false = some (b, A.size + (bitOf b).size) := by
  unfold isBool bitOf
  cases b
  · rw [count_there A Z _ 1 (by decide) (by decide) (by decide)]; rfl
  · rw [count_there A Z _ 1 (by decide) (by decide) (by decide)]; rfl

/-- The first k numbers, one behind the other. -/
def catF (f : Nat → Int) : Nat → ByteArray
  | 0 => ⟨#[]⟩
  | k + 1 => catF f k ++ bytesOf (f k)
def posF (f : Nat → Int) (k : Nat) : Nat := (catF f k).size
theorem pos_succ (f : Nat → Int) (k : Nat) : posF f (k + 1) = posF f k + (bytesOf (f k)).size := by
  unfold posF; rw [catF, ByteArray.size_append]

def Fits (f : Nat → Int) (n : Nat) : Prop := ∀ j, j < n → -9223372036854775808 ≤ f j ∧ f j ≤ 9223372036854775807
theorem cat_le (f : Nat → Int) (n : Nat) (h : Fits f n) : ∀ k, k ≤ n → (catF f k).size ≤ 10 * k
  | 0, _ => Nat.le_refl 0
  | k + 1, hk => by
    have h1 := cat_le f n h k (by omega)
    have h2 := h k (by omega)
    have h3 := bytesOf_le (f k) h2.1 h2.2
    rw [catF, ByteArray.size_append]; omega
theorem cat_rest (f : Nat → Int) (k : Nat) : ∀ n, k ≤ n → ∃ R, catF f n = catF f k ++ R
  | 0, h => by
    obtain rfl : k = 0 := by omega
    exact ⟨⟨#[]⟩, dl_inj (by rw [dl_app]; exact (List.append_nil _).symm)⟩
  | n + 1, h => by
    by_cases e : k = n + 1
    · subst e
      exact ⟨⟨#[]⟩, dl_inj (by rw [dl_app]; exact (List.append_nil _).symm)⟩
    · obtain ⟨R, hR⟩ := cat_rest f k n (by omega)
      exact ⟨R ++ bytesOf (f n), by rw [catF, hR, ByteArray.append_assoc]⟩

theorem cat_num (f : Nat → Int) (k n : Nat) (h : k < n) (hf : Fits f n) (Z : ByteArray) : isNum (catF f n ++ Z) (posF f k) false = some (f k, posF f (k + 1)) := by
  obtain ⟨R, hR⟩ := cat_rest f (k + 1) n (by omega)
  have hb := hf k h
  rw [hR, catF, ByteArray.append_assoc, ByteArray.append_assoc, pos_succ]
  exact num_there (catF f k) (R ++ Z) (f k) hb.1 hb.2

/-- All that stands behind each other, and what comes of it. -/
theorem tail_text (A s : ByteArray) (b : Bool) (hs : s.size ≤ 2000) : isText (A ++ textOf s ++ bitOf b) A.size false 2000 = some (s, A.size + (textOf s).size) := by
  rw [ByteArray.append_assoc]; exact text_there A s (bitOf b) 2000 (by omega) (by omega)
theorem tail_bool (A s : ByteArray) (b : Bool) : isBool (A ++ textOf s ++ bitOf b) (A.size + (textOf s).size) false = some (b, (A ++ textOf s ++ bitOf b).size) := by
  have h := bool_there (A ++ textOf s) ⟨#[]⟩ b
  have e : bitOf b ++ ⟨#[]⟩ = bitOf b := dl_inj (by rw [dl_app]; exact List.append_nil _)
  rw [e, ByteArray.size_append] at h
  rw [h, ByteArray.size_append, ByteArray.size_append]

theorem bit_size' (c : Bool) : (bitOf c).size = 1 := by
  unfold bitOf
  rw [bytesOf_size]
  cases c
  · rw [show fold (if false then 1 else 0) = 0 from rfl, enc_small (by decide)]; rfl
  · rw [show fold (if true then 1 else 0) = 2 from rfl, enc_small (by decide)]; rfl

end Go.Proofs.Ytfpgfclmmdihjaa

/- An operation's bytes are read as it was; what is read has just these bytes; the document's examples hold. -/
namespace Go.Proofs.Ytfpgfclmmdihjaa
open Go.RowKit Nam Cod

theorem opB_wide {C D I M K U : Int} {s : ByteArray} (h : opB C D I M K U s = true) : Wide C D I M K U ∧ 1 ≤ C ∧ s.size ≤ 16 ∧ 1 ≤ s.size := by
  unfold opB atB cntB mvB at h
  simp only [Bool.and_eq_true, decide_eq_true_iff] at h
  have hl := isName_len h.2.2.2.2
  rw [L_len] at hl
  exact ⟨⟨⟨by omega, by omega⟩, ⟨by omega, by omega⟩, ⟨by omega, by omega⟩, ⟨by omega, by omega⟩, ⟨by omega, by omega⟩, ⟨by omega, by omega⟩⟩, by omega, by omega, by omega⟩

theorem num_at (X A Z : ByteArray) (n : Int) (p : Nat) (hX : X = A ++ (bytesOf n ++ Z)) (hp : p = A.size) (h : i64 n) : isNum X p false = some (n, p + (bytesOf n).size) := by
  subst hX hp; exact num_there A Z n h.1 h.2

theorem op_there (A Z : ByteArray) (C D I M K U : Int) (s : ByteArray) (h : opB C D I M K U s = true) :
    isOp (A ++ (printOf C D I M K U s ++ Z)) A.size false = some (⟨C, D, I, M, K, U, s⟩, A.size + (printOf C D I M K U s).size) := by
  obtain ⟨⟨c, d, i, m, k, u⟩, _, hs, _⟩ := opB_wide h
  unfold printOf
  have assoc : ∀ x y z : ByteArray, x ++ y ++ z = x ++ (y ++ z) := fun x y z => ByteArray.append_assoc
  have h1 := num_at (A ++ (bytesOf C ++ bytesOf D ++ bytesOf I ++ bytesOf M ++ bytesOf K ++ bytesOf U ++ textOf s ++ Z)) A (bytesOf D ++ bytesOf I ++ bytesOf M ++ bytesOf K ++ bytesOf U ++ textOf s ++ Z) C A.size (by simp only [assoc]) rfl c
  have h2 := num_at (A ++ (bytesOf C ++ bytesOf D ++ bytesOf I ++ bytesOf M ++ bytesOf K ++ bytesOf U ++ textOf s ++ Z)) (A ++ bytesOf C) (bytesOf I ++ bytesOf M ++ bytesOf K ++ bytesOf U ++ textOf s ++ Z) D (A.size + (bytesOf C).size) (by simp only [assoc]) (by rw [ByteArray.size_append]) d
  have h3 := num_at (A ++ (bytesOf C ++ bytesOf D ++ bytesOf I ++ bytesOf M ++ bytesOf K ++ bytesOf U ++ textOf s ++ Z)) (A ++ bytesOf C ++ bytesOf D) (bytesOf M ++ bytesOf K ++ bytesOf U ++ textOf s ++ Z) I (A.size + (bytesOf C).size + (bytesOf D).size) (by simp only [assoc]) (by simp only [ByteArray.size_append]) i
  have h4 := num_at (A ++ (bytesOf C ++ bytesOf D ++ bytesOf I ++ bytesOf M ++ bytesOf K ++ bytesOf U ++ textOf s ++ Z)) (A ++ bytesOf C ++ bytesOf D ++ bytesOf I) (bytesOf K ++ bytesOf U ++ textOf s ++ Z) M (A.size + (bytesOf C).size + (bytesOf D).size + (bytesOf I).size) (by simp only [assoc]) (by simp only [ByteArray.size_append]) m
  have h5 := num_at (A ++ (bytesOf C ++ bytesOf D ++ bytesOf I ++ bytesOf M ++ bytesOf K ++ bytesOf U ++ textOf s ++ Z)) (A ++ bytesOf C ++ bytesOf D ++ bytesOf I ++ bytesOf M) (bytesOf U ++ textOf s ++ Z) K (A.size + (bytesOf C).size + (bytesOf D).size + (bytesOf I).size + (bytesOf M).size) (by simp only [assoc]) (by simp only [ByteArray.size_append]) k
  have h6 := num_at (A ++ (bytesOf C ++ bytesOf D ++ bytesOf I ++ bytesOf M ++ bytesOf K ++ bytesOf U ++ textOf s ++ Z)) (A ++ bytesOf C ++ bytesOf D ++ bytesOf I ++ bytesOf M ++ bytesOf K) (textOf s ++ Z) U (A.size + (bytesOf C).size + (bytesOf D).size + (bytesOf I).size + (bytesOf M).size + (bytesOf K).size) (by simp only [assoc]) (by simp only [ByteArray.size_append]) u
  have h7 := text_there (A ++ bytesOf C ++ bytesOf D ++ bytesOf I ++ bytesOf M ++ bytesOf K ++ bytesOf U) s Z 16 (by omega) (by omega)
  rw [show A ++ bytesOf C ++ bytesOf D ++ bytesOf I ++ bytesOf M ++ bytesOf K ++ bytesOf U ++ (textOf s ++ Z) = A ++ (bytesOf C ++ bytesOf D ++ bytesOf I ++ bytesOf M ++ bytesOf K ++ bytesOf U ++ textOf s ++ Z) by simp only [assoc],
    show (A ++ bytesOf C ++ bytesOf D ++ bytesOf I ++ bytesOf M ++ bytesOf K ++ bytesOf U).size = A.size + (bytesOf C).size + (bytesOf D).size + (bytesOf I).size + (bytesOf M).size + (bytesOf K).size + (bytesOf U).size by simp only [ByteArray.size_append]] at h7
  unfold isOp
  simp only [h1, h2, h3, h4, h5, h6, h7, Option.bind_some, h, if_true]
  simp only [ByteArray.size_append, Nat.add_assoc]

theorem num_bytes {s : ByteArray} {p : Nat} {bad : Bool} {n : Int} {q : Nat} (h : isNum s p bad = some (n, q)) : (L s).drop p = L (bytesOf n) ++ (L s).drop q := by
  obtain ⟨_, ⟨m, hr, rfl⟩, _⟩ := isNum_some h
  have h1 := (rd_some hr).1
  show s.data.toList.drop p = enc (fold n) ++ s.data.toList.drop (p + m)
  rw [← h1, ← List.drop_drop, List.take_append_drop]
theorem text_bytes {s : ByteArray} {p : Nat} {bad : Bool} {m : Int} {t : ByteArray} {q : Nat} (h : isText s p bad m = some (t, q)) : (L s).drop p = L (textOf t) ++ (L s).drop q := by
  obtain ⟨n, q0, h1, h2, rfl, rfl⟩ := isText_some h
  have hz : (s.extract q0 (q0 + n)).size = n := by rw [ByteArray.size_extract]; omega
  unfold textOf
  rw [num_bytes (isCount_some h1).1, L_app, hz, List.append_assoc]
  congr 1
  have e : L (s.extract q0 (q0 + n)) = ((L s).drop q0).take n := by
    unfold L
    simp [ByteArray.data_extract, List.extract_eq_take_drop]
  rw [e, ← List.drop_drop, List.take_append_drop]
theorem op_bytes {s : ByteArray} {p : Nat} {bad : Bool} {o : Mv} {q : Nat} (h : isOp s p bad = some (o, q)) : opB o.C o.D o.I o.M o.K o.U o.s = true ∧ (L s).drop p = L (printOf o.C o.D o.I o.M o.K o.U o.s) ++ (L s).drop q := by
  unfold isOp at h
  simp only [Option.bind_eq_some_iff] at h
  obtain ⟨⟨a1, p1⟩, h1, ⟨a2, p2⟩, h2, ⟨a3, p3⟩, h3, ⟨a4, p4⟩, h4, ⟨a5, p5⟩, h5, ⟨a6, p6⟩, h6, ⟨a7, p7⟩, h7, h8⟩ := h
  simp only at h1 h2 h3 h4 h5 h6 h7 h8
  by_cases hb : opB a1 a2 a3 a4 a5 a6 a7 = true
  · rw [if_pos hb] at h8
    cases h8
    refine ⟨hb, ?_⟩
    unfold printOf
    simp only [L_app, List.append_assoc]
    rw [num_bytes h1, num_bytes h2, num_bytes h3, num_bytes h4, num_bytes h5, num_bytes h6, text_bytes h7]
  · rw [if_neg hb] at h8; cases h8
theorem parse_bytes {s : ByteArray} {o : Mv} (h : parseOf s = some o) : opB o.C o.D o.I o.M o.K o.U o.s = true ∧ printOf o.C o.D o.I o.M o.K o.U o.s = s := by
  unfold parseOf at h
  simp only [Option.bind_eq_some_iff] at h
  obtain ⟨⟨o', q⟩, h1, h2⟩ := h
  simp only at h2
  by_cases hq : q = s.size
  · rw [if_pos hq] at h2
    cases h2
    obtain ⟨hb, hl⟩ := op_bytes h1
    refine ⟨hb, L_inj ?_⟩
    rw [hq, List.drop_zero, List.drop_eq_nil_of_le (by rw [L_len]; exact Nat.le_refl _), List.append_nil] at hl
    exact hl.symm
  · rw [if_neg hq] at h2; cases h2
theorem op_self {C D I M K U : Int} {s : ByteArray} (h : opB C D I M K U s = true) : isOp (printOf C D I M K U s) 0 false = some (⟨C, D, I, M, K, U, s⟩, (printOf C D I M K U s).size) := by
  have := op_there ⟨#[]⟩ ⟨#[]⟩ C D I M K U s h
  have e : (⟨#[]⟩ : ByteArray) ++ (printOf C D I M K U s ++ ⟨#[]⟩) = printOf C D I M K U s := by apply L_inj; rw [L_app, L_app]; simp [L]
  rw [e, show (ByteArray.mk #[]).size = 0 from rfl, Nat.zero_add] at this
  exact this
theorem parse_self {C D I M K U : Int} {s : ByteArray} (h : opB C D I M K U s = true) : parseOf (printOf C D I M K U s) = some ⟨C, D, I, M, K, U, s⟩ := by
  unfold parseOf; rw [op_self h]; simp
theorem print_inj {C D I M K U C' D' I' M' K' U' : Int} {s s' : ByteArray} (h : opB C D I M K U s = true) (h' : opB C' D' I' M' K' U' s' = true) (e : printOf C D I M K U s = printOf C' D' I' M' K' U' s') :
    C = C' ∧ D = D' ∧ I = I' ∧ M = M' ∧ K = K' ∧ U = U' ∧ s = s' := by
  have a := parse_self h
  rw [e, parse_self h'] at a
  cases a
  exact ⟨rfl, rfl, rfl, rfl, rfl, rfl, rfl⟩

theorem right_ex : opB 3 1 1 2 5 0 ⟨#[97]⟩ = true := by decide +kernel
theorem enc_6 : enc 6 = [6] := by rw [enc_small (by decide)]; rfl
theorem enc_2 : enc 2 = [2] := by rw [enc_small (by decide)]; rfl
theorem enc_4 : enc 4 = [4] := by rw [enc_small (by decide)]; rfl
theorem enc_10 : enc 10 = [10] := by rw [enc_small (by decide)]; rfl
theorem enc_0 : enc 0 = [0] := by rw [enc_small (by decide)]; rfl
theorem print_ex : printOf 3 1 1 2 5 0 ⟨#[97]⟩ = ⟨#[6, 2, 2, 4, 10, 0, 2, 97]⟩ := by
  apply L_inj
  unfold printOf textOf
  simp only [L_app]
  have l3 : L (bytesOf 3) = [6] := enc_6
  have l1 : L (bytesOf 1) = [2] := enc_2
  have l2 : L (bytesOf 2) = [4] := enc_4
  have l5 : L (bytesOf 5) = [10] := enc_10
  have l0 : L (bytesOf 0) = [0] := enc_0
  have lz : L (bytesOf ((ByteArray.mk #[97]).size : Int)) = [2] := enc_2
  rw [l3, l1, l2, l5, l0, lz]; rfl
theorem parse_ex : parseOf ⟨#[6, 2, 2, 4, 10, 0, 2, 97]⟩ = some ⟨3, 1, 1, 2, 5, 0, ⟨#[97]⟩⟩ := by rw [← print_ex]; exact parse_self right_ex
end Go.Proofs.Ytfpgfclmmdihjaa

/- The frame of a law that reads its arguments, makes memory of its own, and answers true: its row's end, out of 'Below' alone. -/
namespace Go.Proofs.Ytfpgfclmmdihjaa.Frm
open Go.ChangeShapes Go.WideShapes Go.ChangeAt Go.RowKit

section
variable {H : Type} {enc : TypeId × Value → H} {P : Program}

/-- Each type of a list can be read, and is a row of the table. -/
def rowed (P : Program) (ts : List TypeId) : Bool := ts.all fun t => P.readableRec t && decide (t < P.types.size)

theorem trodAll_below (hl : laidOutB P = true) {W W' : World} (hb : Below W.heap.size W W') (sp : Nat → Bool) :
    ∀ {ts : List TypeId} {vs : List Value} {ds : List (DataW H)} {ps : List MemPlace}, rowed P ts = true → DataW.TrodAll enc P W 0 (fun _ => true) true ts vs ds ps → (∀ p ∈ ps, p.block < W.heap.size) → (∀ p ∈ ps, sp p.block = true) →
      DataW.TrodAll enc P W' 0 sp true ts vs ds ps
  | [], [], [], _, _, h, _, _ => h
  | [], [], _ :: _, _, _, h, _, _ => h.elim
  | [], _ :: _, _, _, _, h, _, _ => h.elim
  | _ :: _, [], _, _, _, h, _, _ => h.elim
  | _ :: _, _ :: _, [], _, _, h, _, _ => h.elim
  | t :: ts, v :: vs, d :: ds, ps, hr, h, hlt, hsp => by
    obtain ⟨p, q, h1, h2, rfl⟩ := h
    simp only [rowed, List.all_cons, Bool.and_eq_true, decide_eq_true_iff] at hr
    refine ⟨p, q, ?_, trodAll_below hl hb sp (by simpa [rowed] using hr.2) h2 (fun x hx => hlt x (by simp [hx])) (fun x hx => hsp x (by simp [hx])), rfl⟩
    exact WideElems.Trod_stays hl hr.1.1 hr.1.2 h1 (fun x hx => hb.same (hlt x (by simp [hx]))) (fun x hx => hsp x (by simp [hx]))

/-- THE ROW's END: what was there has not turned, the answer is true, the arguments read as they did. -/
theorem law_post {f : Func} {s : ChangeSpec} {apart fresh handsOn again : Bool} {W W' : World} {args : Array Value} {ds gs : List (DataW H)} {before : List MemPlace} {tb : TypeId}
    (hl : laidOutB P = true) (hrow : rowed P f.params.toList = true) (hres : f.resultTypes = #[tb]) (hbool : P.underlying tb = some .bool) (hvars : s.vars = [])
    (hspec : s.fn H ds = { results := [.lit (.bool true)], args := ds })
    (hW : DataW.Whole enc P f.params.toList s.vars apart W args.toList ds gs before) (hb : Below W.heap.size W W') :
    s.post enc P f apart fresh handsOn again W args (.bool true) W' := by
  have hlt : ∀ p ∈ before, p.block < W.heap.size := fun p hp => hW.lt p hp
  have hold : ∀ p ∈ before, (fun b => decide (b < W.heap.size)) p.block = true := fun p hp => by simpa using hlt p hp
  obtain ⟨p, q, hA, hV, hpq, hfz, hnd⟩ := hW
  have hgs : gs = [] ∧ q = [] := by rw [hvars] at hV; exact trodVars_none hV
  obtain ⟨rfl, rfl⟩ := hgs
  rw [List.append_nil] at hpq
  subst hpq
  have hs2 : (s.fn H (ds ++ [])).results = [.lit (.bool true)] := by rw [List.append_nil, hspec]
  have hs3 : (s.fn H (ds ++ [])).args = ds := by rw [List.append_nil, hspec]
  have hs4 : (s.fn H (ds ++ [])).vars = [] := by rw [List.append_nil, hspec]
  have hargs : ∀ sp : Nat → Bool, (∀ p ∈ before, sp p.block = true) → DataW.TrodAll enc P W' 0 sp true f.params.toList args.toList (s.fn H (ds ++ [])).args before := by
    intro sp hsp
    rw [hs3]
    exact trodAll_below hl hb sp hrow hA hlt hsp
  have hR : ∀ (b : Nat) (sp : Nat → Bool) (hd : Bool), DataW.TrodAll enc P W' b sp hd f.resultTypes.toList ((Value.bool true).resultList f.resultTypes.size) (s.fn H (ds ++ [])).results [] := by
    intro b sp hd
    rw [hs2, hres]
    exact trodAll_mk1 (shut_bool hbool true)
  have hvr : ∀ sp : Nat → Bool, DataW.TrodVars enc P W' sp s.vars (s.fn H (ds ++ [])).vars [] := by
    intro sp; rw [hs4, hvars]; rfl
  have hW0 : DataW.Whole enc P f.params.toList s.vars apart W args.toList ds [] before := ⟨before, [], hA, hV, by simp, hfz, hnd⟩
  refine ⟨ds, [], before, [], before, [], hW0, hR _ _ _, hargs _ hold, hvr _, World.keptBut_mono (fun p hp => ⟨hp, by simpa using hp⟩) (hb.frame (· ∈ before)), fun _ => ?_⟩
  refine ⟨ok_one hres rfl (okWide_bool_mk hbool true), _, _, ([] ++ before) ++ [], ⟨[] ++ before, [], trodAll_append (hargs _ (fun _ _ => rfl)) (hR _ _ _), hvr _, rfl, ?_, ?_⟩, ?_⟩
  · intro b off hp
    have hin : MemPlace.cell b off ∈ before := by simpa using hp
    rw [hb.frozen (hlt _ hin)]
    exact hfz b off hin
  · intro ha
    simpa using hnd ha
  · intro p hp _
    simpa using hp

end
end Go.Proofs.Ytfpgfclmmdihjaa.Frm

/- How words and texts among the arguments of the laws are opened. -/
namespace Go.Proofs.Ytfpgfclmmdihjaa
open Go.ChangeShapes Go.WideShapes Go.ChangeAt Go.RowKit Go.Deep

theorem own : ownKnob Try.prog.godebug = none := by kernel_rfl
theorem cells3 : Try.prog.cellsOf 3 = 1 := by kernel_rfl
theorem cells4 : Try.prog.cellsOf 4 = 1 := by kernel_rfl
theorem cells5 : Try.prog.cellsOf 5 = 1 := by kernel_rfl
theorem cells9 : Try.prog.cellsOf 9 = 1 := by kernel_rfl

set_option maxRecDepth 100000 in
theorem open_str {H : Type} {enc : TypeId × Value → H} {W : World} {base : Nat} {sp : Nat → Bool} {v : Value} {d : DataW H} {ps : List MemPlace}
    (hv : Value.okWide Try.prog W .any base 9 v) (h : DataW.Trod enc Try.prog W 0 sp true 9 v d ps) : ∃ s : ByteArray, v = .string s ∧ s.size ≤ maxLen := by
  obtain ⟨s, rfl, _, _, hs⟩ := ChangeMaps.open_string Try.underlying9 hv h
  exact ⟨s, rfl, hs⟩

set_option maxRecDepth 100000 in
theorem open_i64 {H : Type} {enc : TypeId × Value → H} {W : World} {base : Nat} {sp : Nat → Bool} {v : Value} {d : DataW H} {ps : List MemPlace}
    (hv : Value.okWide Try.prog W .any base 3 v) (h : DataW.Trod enc Try.prog W 0 sp true 3 v d ps) : ∃ n : Int, v = .int .i64 n ∧ i64 n := by
  obtain ⟨a, rfl, _, _, wf⟩ := open_int Try.underlying3 hv h
  have hb := bounds_i64 wf
  exact ⟨a, rfl, by omega, by omega⟩

end Go.Proofs.Ytfpgfclmmdihjaa

/- How the arguments of the laws are opened. -/
namespace Go.Proofs.Ytfpgfclmmdihjaa
open Go.ChangeShapes Go.WideShapes Go.ChangeAt Go.RowKit Go.Deep Nam Cod

theorem cells25 : Try.prog.cellsOf 48 = 7 := by kernel_rfl
theorem cells23 : Try.prog.cellsOf 46 = 2 := by kernel_rfl

set_option maxRecDepth 100000 in
/-- Seven cells that read as an operation. -/
theorem read_op {H : Type} {enc : TypeId × Value → H} {W : World} {base : Nat} {sp : Nat → Bool} {held : Bool} {fuel : Nat} {cs : List Value} {x : DataW H × List MemPlace}
    (h : DataW.trod enc Try.prog W base sp held fuel 48 cs = some x) : ∃ (C D I M K U : Int) (s : ByteArray), cs = [.int .i64 C, .int .i64 D, .int .i64 I, .int .i64 M, .int .i64 K, .int .i64 U, .string s] ∧ Wide C D I M K U ∧ s.size ≤ maxLen := by
  obtain ⟨xs, n, _, _, hl, hlen, hf⟩ := DataW.trod_struct Try.underlying48 h
  have hl7 : cs.length = 7 := hl.trans cells25
  have hl6 : xs.length = 6 := hlen
  match cs, hl7, xs, hl6 with
  | [c0, c1, c2, c3, c4, c5, c6], _, [y0, y1, y2, y3, y4, y5], _ =>
    have h0 := hf 0 _ rfl
    have h1 := hf 1 _ rfl
    have h2 := hf 2 _ rfl
    have h3 := hf 3 _ rfl
    have h4 := hf 4 _ rfl
    have h5 := hf 5 _ rfl
    simp [cells23, cells3, cells9] at h0 h1 h2 h3 h4 h5
    obtain ⟨zs, n', _, _, _, hlen2, hg⟩ := DataW.trod_struct Try.underlying46 h0
    have hl2 : zs.length = 2 := hlen2
    match zs, hl2 with
    | [z0, z1], _ =>
      have g0 := hg 0 _ rfl
      have g1 := hg 1 _ rfl
      simp [cells3] at g0 g1
      obtain ⟨C, e0, _, w0⟩ := DataW.trod_int Try.underlying3 g0
      obtain ⟨D, e1, _, w1⟩ := DataW.trod_int Try.underlying3 g1
      obtain ⟨I, e2, _, w2⟩ := DataW.trod_int Try.underlying3 h1
      obtain ⟨M, e3, _, w3⟩ := DataW.trod_int Try.underlying3 h2
      obtain ⟨K, e4, _, w4⟩ := DataW.trod_int Try.underlying3 h3
      obtain ⟨U, e5, _, w5⟩ := DataW.trod_int Try.underlying3 h4
      obtain ⟨s, e6, _, w6⟩ := DataW.trod_string Try.underlying9 h5
      simp at e0 e1 e2 e3 e4 e5 e6
      subst e0 e1 e2 e3 e4 e5 e6
      have b0 := bounds_i64 w0
      have b1 := bounds_i64 w1
      have b2 := bounds_i64 w2
      have b3 := bounds_i64 w3
      have b4 := bounds_i64 w4
      have b5 := bounds_i64 w5
      exact ⟨C, D, I, M, K, U, s, rfl, ⟨⟨by omega, by omega⟩, ⟨by omega, by omega⟩, ⟨by omega, by omega⟩, ⟨by omega, by omega⟩, ⟨by omega, by omega⟩, ⟨by omega, by omega⟩⟩, w6⟩

set_option maxRecDepth 100000 in
theorem open_op {H : Type} {enc : TypeId × Value → H} {W : World} {base : Nat} {sp : Nat → Bool} {v : Value} {d : DataW H} {ps : List MemPlace}
    (hv : Value.okWide Try.prog W .any base 48 v) (h : DataW.Trod enc Try.prog W 0 sp true 48 v d ps) : ∃ (C D I M K U : Int) (s : ByteArray), v = .agg #[.int .i64 C, .int .i64 D, .int .i64 I, .int .i64 M, .int .i64 K, .int .i64 U, .string s] ∧ Wide C D I M K U ∧ s.size ≤ maxLen := by
  obtain ⟨cs, rfl, _⟩ := okWide_struct Try.underlying48 hv
  obtain ⟨fuel, hf⟩ := h
  obtain ⟨C, D, I, M, K, U, s, e, hw, hs⟩ := read_op hf
  refine ⟨C, D, I, M, K, U, s, ?_, hw, hs⟩
  obtain ⟨l⟩ := cs
  simp [Value.cells] at e
  rw [e]
end Go.Proofs.Ytfpgfclmmdihjaa

/- Operations, one behind the other: what stands where. -/
namespace Go.Proofs.Ytfpgfclmmdihjaa
open Go.RowKit Nam Cod

instance : Inhabited Mv := ⟨zeroMv⟩
def Mv.ok (m : Mv) : Prop := opB m.C m.D m.I m.M m.K m.U m.s = true
def Mv.bytes (m : Mv) : ByteArray := printOf m.C m.D m.I m.M m.K m.U m.s
def catO (f : Nat → Mv) : Nat → ByteArray
  | 0 => ⟨#[]⟩
  | k + 1 => catO f k ++ (f k).bytes
def posO (f : Nat → Mv) (k : Nat) : Nat := (catO f k).size
def okO (f : Nat → Mv) (n : Nat) : Prop := ∀ j, j < n → (f j).ok
theorem okO_next {f : Nat → Mv} {k : Nat} (h : okO f k) (hk : (f k).ok) : okO f (k + 1) := by
  intro j hj
  by_cases e : j = k
  · subst e; exact hk
  · exact h j (by omega)
theorem bytes_le {m : Mv} (h : m.ok) : m.bytes.size ≤ 86 := by
  obtain ⟨⟨c, d, i, n, k, u⟩, _, hs, _⟩ := opB_wide h
  unfold Mv.bytes printOf textOf
  simp only [ByteArray.size_append]
  have z1 := bytesOf_le m.C c.1 c.2
  have z2 := bytesOf_le m.D d.1 d.2
  have z3 := bytesOf_le m.I i.1 i.2
  have z4 := bytesOf_le m.M n.1 n.2
  have z5 := bytesOf_le m.K k.1 k.2
  have z6 := bytesOf_le m.U u.1 u.2
  have z7 := bytesOf_le m.s.size (by omega) (by omega)
  omega
theorem catO_le (f : Nat → Mv) : ∀ k, okO f k → (catO f k).size ≤ 86 * k
  | 0, _ => by show (ByteArray.mk #[]).size ≤ _; exact Nat.zero_le _
  | k + 1, h => by
    have h1 := catO_le f k (fun j hj => h j (by omega))
    have h2 := bytes_le (h k (by omega))
    unfold catO; rw [ByteArray.size_append]; omega
theorem catO_rest (f : Nat → Mv) (k : Nat) : ∀ n, k ≤ n → ∃ R, catO f n = catO f k ++ R
  | 0, h => ⟨⟨#[]⟩, by obtain rfl : k = 0 := by omega
                       apply L_inj; rw [L_app]; simp [L, catO]⟩
  | n + 1, h => by
    by_cases e : k = n + 1
    · subst e; exact ⟨⟨#[]⟩, by apply L_inj; rw [L_app]; simp [L]⟩
    · obtain ⟨R, hR⟩ := catO_rest f k n (by omega)
      exact ⟨R ++ (f n).bytes, by rw [catO, hR, ByteArray.append_assoc]⟩
theorem catO_op (f : Nat → Mv) (k n : Nat) (h : k < n) (hf : okO f n) (Z : ByteArray) : isOp (catO f n ++ Z) (posO f k) false = some (f k, posO f (k + 1)) := by
  obtain ⟨R, hR⟩ := catO_rest f (k + 1) n h
  have hk := hf k h
  have t := op_there (catO f k) (R ++ Z) (f k).C (f k).D (f k).I (f k).M (f k).K (f k).U (f k).s hk
  have e : catO f n ++ Z = catO f k ++ (printOf (f k).C (f k).D (f k).I (f k).M (f k).K (f k).U (f k).s ++ (R ++ Z)) := by
    rw [hR, catO, ByteArray.append_assoc, ByteArray.append_assoc]; rfl
  rw [e]
  unfold posO
  rw [t]
  show _ = some (f k, (catO f k ++ (f k).bytes).size)
  rw [ByteArray.size_append]; rfl

/-- From the cell o of block b on an operation lies. -/
def AtOp (w : World) (b o : Nat) (m : Mv) : Prop :=
  w.cell? ⟨b, o, none⟩ = some (.int .i64 m.C) ∧ w.cell? ⟨b, o + 1, none⟩ = some (.int .i64 m.D) ∧ w.cell? ⟨b, o + 2, none⟩ = some (.int .i64 m.I) ∧ w.cell? ⟨b, o + 3, none⟩ = some (.int .i64 m.M) ∧ w.cell? ⟨b, o + 4, none⟩ = some (.int .i64 m.K) ∧ w.cell? ⟨b, o + 5, none⟩ = some (.int .i64 m.U) ∧ w.cell? ⟨b, o + 6, none⟩ = some (.string m.s)
theorem AtOp.below {W w : World} {b o : Nat} {m : Mv} (h : AtOp W b o m) (hb : Below W.heap.size W w) (hl : b < W.heap.size) : AtOp w b o m := by
  unfold AtOp at h ⊢
  rw [(bcell hb).1 _ _ hl, (bcell hb).1 _ _ hl, (bcell hb).1 _ _ hl, (bcell hb).1 _ _ hl, (bcell hb).1 _ _ hl, (bcell hb).1 _ _ hl, (bcell hb).1 _ _ hl]; exact h
/-- The slice A holds the operations f 0, f 1 .. -/
def Ops (w : World) (A : Option Addr) (len : Nat) (f : Nat → Mv) : Prop :=
  0 < len → ∃ b off, A = some ⟨b, off, none⟩ ∧ b < w.heap.size ∧ ∀ i, i < len → AtOp w b (off + i * 7) (f i)

theorem opRead_yes {w : World} {b p : Nat} {s : ByteArray} {bad : Bool} {o : Mv} {q : Nat} (hs : s.size ≤ 1000000) (hp : p ≤ s.size) (hr : Rd 75 w b s p bad) (h : isOp s p bad = some (o, q)) :
    Calls Try.prog 82 #[.pointer (some ⟨b, 0, none⟩)] w fun e w' => e = .returned (.agg #[.int .i64 o.C, .int .i64 o.D, .int .i64 o.I, .int .i64 o.M, .int .i64 o.K, .int .i64 o.U, .string o.s]) ∧ Rd 75 w' b s q false ∧ w.grownBy w' (some b) := by
  refine (opRead_uni hs hp hr).mono ?_
  rintro e w' ⟨o', q', bad', rfl, hr', hq, hg, st⟩
  rcases st with ⟨h', rfl⟩ | ⟨h', _⟩
  · rw [h] at h'; cases h'
    exact ⟨rfl, hr', hg⟩
  · rw [h] at h'; cases h'
end Go.Proofs.Ytfpgfclmmdihjaa

/- Entries as values: which may be, their bytes, what is read of bytes, what counts come to behind them. No call in it. -/
namespace Go.Proofs.Ytfpgfclmmdihjaa
open Go.RowKit Nam Cod

structure En where
  k : Int
  d : Int
  i : Int
  o : Mv
def zeroB (o : Mv) : Bool := decide (o.C = 0 ∧ o.D = 0 ∧ o.I = 0 ∧ o.M = 0 ∧ o.K = 0 ∧ o.U = 0 ∧ o.s = ⟨#[]⟩)
theorem zeroB_iff {o : Mv} : zeroB o = true ↔ o = zeroMv := by
  unfold zeroB zeroMv
  rw [decide_eq_true_iff]
  obtain ⟨C, D, I, M, K, U, s⟩ := o
  simp
def okB (o : Mv) : Bool := opB o.C o.D o.I o.M o.K o.U o.s
def lifeB (d i : Int) : Bool := decide (0 ≤ d ∧ d < 12 ∧ 1 ≤ i ∧ i ≤ 1099511627776)
def entB (e : En) : Bool := if e.k = 1 then decide (e.d = 0 ∧ e.i = 0) && okB e.o else if e.k = 2 ∨ e.k = 3 then lifeB e.d e.i && zeroB e.o else false
def entBytes (e : En) : ByteArray := if e.k = 1 then bytesOf e.k ++ e.o.bytes else bytesOf e.k ++ bytesOf e.d ++ bytesOf e.i
def zeroEn : En := ⟨0, 0, 0, zeroMv⟩
def isEnt (s : ByteArray) (p : Nat) (bad : Bool) : Option (En × Nat) :=
  (isNum s p bad).bind fun a => if a.1 = 1 then (isOp s a.2 false).bind fun b => some (⟨1, 0, 0, b.1⟩, b.2) else
    (isNum s a.2 false).bind fun b => (isNum s b.2 false).bind fun c => if entB ⟨a.1, b.1, c.1, zeroMv⟩ = true then some (⟨a.1, b.1, c.1, zeroMv⟩, c.2) else none
def parseEnt (s : ByteArray) : Option En := (isEnt s 0 false).bind fun x => if x.2 = s.size then some x.1 else none

theorem entB_op {o : Mv} (h : okB o = true) : entB ⟨1, 0, 0, o⟩ = true := by
  unfold entB; simp [h]
theorem entB_one {e : En} (h : entB e = true) (h1 : e.k = 1) : e.d = 0 ∧ e.i = 0 ∧ okB e.o = true := by
  unfold entB at h
  rw [if_pos h1, Bool.and_eq_true, decide_eq_true_iff] at h
  exact ⟨h.1.1, h.1.2, h.2⟩
theorem entB_two {e : En} (h : entB e = true) (h1 : ¬ e.k = 1) : (e.k = 2 ∨ e.k = 3) ∧ (0 ≤ e.d ∧ e.d < 12 ∧ 1 ≤ e.i ∧ e.i ≤ 1099511627776) ∧ e.o = zeroMv := by
  unfold entB at h
  rw [if_neg h1] at h
  by_cases h2 : e.k = 2 ∨ e.k = 3
  · rw [if_pos h2, Bool.and_eq_true] at h
    unfold lifeB at h
    rw [decide_eq_true_iff, zeroB_iff] at h
    exact ⟨h2, h.1, h.2⟩
  · rw [if_neg h2] at h; cases h
theorem i64_of {n : Int} (h : -1099511627776 ≤ n ∧ n ≤ 1099511627776) : i64 n := by unfold i64; omega
theorem op_there' (A Z : ByteArray) {o : Mv} (h : okB o = true) : isOp (A ++ (o.bytes ++ Z)) A.size false = some (o, A.size + o.bytes.size) := by
  obtain ⟨C, D, I, M, K, U, s⟩ := o
  exact op_there A Z C D I M K U s h
theorem ent_there (A Z : ByteArray) (e : En) (h : entB e = true) : isEnt (A ++ (entBytes e ++ Z)) A.size false = some (e, A.size + (entBytes e).size) := by
  by_cases h1 : e.k = 1
  · obtain ⟨h2, h3, h4⟩ := entB_one h h1
    obtain ⟨k, d, i, o⟩ := e
    dsimp only at h1 h2 h3 h4
    subst h1 h2 h3
    have hE : entBytes ⟨1, 0, 0, o⟩ = bytesOf 1 ++ o.bytes := rfl
    rw [hE]
    have hN := num_at (A ++ (bytesOf 1 ++ o.bytes ++ Z)) A (o.bytes ++ Z) 1 A.size (by rw [ByteArray.append_assoc]) rfl (i64_of (by omega))
    have hO := op_there' (A ++ bytesOf 1) Z h4
    rw [show A ++ bytesOf 1 ++ (o.bytes ++ Z) = A ++ (bytesOf 1 ++ o.bytes ++ Z) by rw [ByteArray.append_assoc, ByteArray.append_assoc], ByteArray.size_append] at hO
    unfold isEnt
    rw [hN, Option.bind_some, if_pos rfl, hO, Option.bind_some, ByteArray.size_append, Nat.add_assoc]
  · obtain ⟨h2, h3, h4⟩ := entB_two h h1
    obtain ⟨k, d, i, o⟩ := e
    dsimp only at h1 h2 h3 h4
    subst h4
    have hE : entBytes ⟨k, d, i, zeroMv⟩ = bytesOf k ++ bytesOf d ++ bytesOf i := by unfold entBytes; rw [if_neg h1]
    rw [hE]
    have hN := num_at (A ++ (bytesOf k ++ bytesOf d ++ bytesOf i ++ Z)) A (bytesOf d ++ (bytesOf i ++ Z)) k A.size (by simp only [ByteArray.append_assoc]) rfl (i64_of (by omega))
    have hD := num_at (A ++ (bytesOf k ++ bytesOf d ++ bytesOf i ++ Z)) (A ++ bytesOf k) (bytesOf i ++ Z) d (A.size + (bytesOf k).size) (by simp only [ByteArray.append_assoc]) (by rw [ByteArray.size_append]) (i64_of (by omega))
    have hI := num_at (A ++ (bytesOf k ++ bytesOf d ++ bytesOf i ++ Z)) (A ++ bytesOf k ++ bytesOf d) Z i (A.size + (bytesOf k).size + (bytesOf d).size) (by simp only [ByteArray.append_assoc]) (by rw [ByteArray.size_append, ByteArray.size_append]) (i64_of (by omega))
    unfold isEnt
    rw [hN, Option.bind_some, if_neg h1, hD, Option.bind_some, hI, Option.bind_some, if_pos h, ByteArray.size_append, ByteArray.size_append]
    simp only [Nat.add_assoc]
theorem ent_bytes {s : ByteArray} {p : Nat} {bad : Bool} {e : En} {q : Nat} (h : isEnt s p bad = some (e, q)) : entB e = true ∧ (L s).drop p = L (entBytes e) ++ (L s).drop q := by
  unfold isEnt at h
  cases ha : isNum s p bad with
  | none => rw [ha] at h; cases h
  | some a =>
    obtain ⟨k, qk⟩ := a
    rw [ha, Option.bind_some] at h
    have h1 := num_bytes ha
    dsimp only at h
    by_cases hk : k = 1
    · rw [if_pos hk] at h
      cases hb : isOp s qk false with
      | none => rw [hb] at h; cases h
      | some b =>
        obtain ⟨o, qo⟩ := b
        rw [hb, Option.bind_some] at h
        injection h with h
        injection h with h2 h3
        subst h2 h3
        obtain ⟨g1, g2⟩ := op_bytes hb
        refine ⟨entB_op g1, ?_⟩
        have hE : entBytes ⟨1, 0, 0, o⟩ = bytesOf 1 ++ o.bytes := rfl
        rw [h1, g2, hE, L_app, List.append_assoc, hk]; rfl
    · rw [if_neg hk] at h
      cases hb : isNum s qk false with
      | none => rw [hb] at h; cases h
      | some b =>
        obtain ⟨d, qd⟩ := b
        rw [hb, Option.bind_some] at h
        dsimp only at h
        cases hc : isNum s qd false with
        | none => rw [hc] at h; cases h
        | some c =>
          obtain ⟨i, qi⟩ := c
          rw [hc, Option.bind_some] at h
          dsimp only at h
          by_cases hB : entB ⟨k, d, i, zeroMv⟩ = true
          · rw [if_pos hB] at h
            injection h with h
            injection h with h2 h3
            subst h2 h3
            refine ⟨hB, ?_⟩
            have hE : entBytes ⟨k, d, i, zeroMv⟩ = bytesOf k ++ bytesOf d ++ bytesOf i := by unfold entBytes; rw [if_neg hk]
            rw [h1, num_bytes hb, num_bytes hc, hE, L_app, L_app, List.append_assoc, List.append_assoc]
          · rw [if_neg hB] at h; cases h
theorem eparse_bytes {s : ByteArray} {e : En} (h : parseEnt s = some e) : entB e = true ∧ entBytes e = s := by
  unfold parseEnt at h
  cases ha : isEnt s 0 false with
  | none => rw [ha] at h; cases h
  | some a =>
    obtain ⟨x, q⟩ := a
    rw [ha, Option.bind_some] at h
    dsimp only at h
    by_cases hq : q = s.size
    · rw [if_pos hq] at h
      injection h with h
      subst h
      obtain ⟨g1, g2⟩ := ent_bytes ha
      refine ⟨g1, ?_⟩
      rw [List.drop_zero, hq, List.drop_eq_nil_of_le (by rw [L_len]; exact Nat.le_refl _), List.append_nil] at g2
      exact (L_inj g2).symm
    · rw [if_neg hq] at h; cases h
theorem ent_self {e : En} (h : entB e = true) : isEnt (entBytes e) 0 false = some (e, (entBytes e).size) := by
  have := ent_there ⟨#[]⟩ ⟨#[]⟩ e h
  have e0 : (⟨#[]⟩ : ByteArray) ++ (entBytes e ++ ⟨#[]⟩) = entBytes e := L_inj (by rw [L_app, L_app]; simp [L])
  rw [e0, show (⟨#[]⟩ : ByteArray).size = 0 from rfl, Nat.zero_add] at this
  exact this
theorem eparse_self {e : En} (h : entB e = true) : parseEnt (entBytes e) = some e := by
  unfold parseEnt
  rw [ent_self h, Option.bind_some, if_pos rfl]
theorem eprint_inj {a b : En} (ha : entB a = true) (hb : entB b = true) (h : entBytes a = entBytes b) : a = b := by
  have h1 := eparse_self ha
  rw [h, eparse_self hb] at h1
  injection h1 with h1
  exact h1.symm
theorem ent_le {e : En} (h : entB e = true) : (entBytes e).size ≤ 96 := by
  unfold entBytes
  have hb : ∀ n, i64 n → (bytesOf n).size ≤ 10 := fun n hn => by
    rw [bytesOf_size]; exact enc_ten _ (fold_lt n hn.1 hn.2)
  by_cases h1 : e.k = 1
  · rw [if_pos h1, ByteArray.size_append]
    have h2 := bytes_le (m := e.o) (entB_one h h1).2.2
    have h3 := hb e.k (i64_of (by omega))
    omega
  · obtain ⟨h2, h3, _⟩ := entB_two h h1
    rw [if_neg h1, ByteArray.size_append, ByteArray.size_append]
    have g1 := hb e.k (i64_of (by omega))
    have g2 := hb e.d (i64_of (by omega))
    have g3 := hb e.i (i64_of (by omega))
    omega

/-- Entries one behind the other. -/
def ecat : List En → ByteArray
  | [] => ⟨#[]⟩
  | e :: l => entBytes e ++ ecat l
theorem ecat_app : ∀ l m : List En, ecat (l ++ m) = ecat l ++ ecat m
  | [], m => L_inj (by show L (ecat m) = L (⟨#[]⟩ ++ ecat m); rw [L_app]; simp [L])
  | e :: l, m => by rw [List.cons_append, ecat, ecat, ecat_app l m, ByteArray.append_assoc]
theorem ecat_one (e : En) : ecat [e] = entBytes e := L_inj (by show L (entBytes e ++ ⟨#[]⟩) = _; rw [L_app]; simp [L])
theorem ecat_next (l : List En) (k : Nat) (h : k < l.length) : ecat (l.take (k + 1)) = ecat (l.take k) ++ entBytes l[k] := by
  rw [List.take_succ_eq_append_getElem h, ecat_app, ecat_one]
theorem ecat_le : ∀ l : List En, (∀ e ∈ l, entB e = true) → (ecat l).size ≤ 96 * l.length
  | [], _ => Nat.zero_le _
  | e :: l, h => by
    have h1 := ent_le (h e (by simp))
    have h2 := ecat_le l (fun x hx => h x (by simp [hx]))
    rw [ecat, ByteArray.size_append, List.length_cons]; omega
theorem ecat_at (l : List En) (k : Nat) (h : k < l.length) (hok : entB l[k] = true) : isEnt (ecat l) (ecat (l.take k)).size false = some (l[k], (ecat (l.take (k + 1))).size) := by
  have h1 : ecat l = ecat (l.take k) ++ (entBytes l[k] ++ ecat (l.drop (k + 1))) := by
    have h2 : l = l.take k ++ l[k] :: l.drop (k + 1) := by
      rw [List.getElem_cons_drop, List.take_append_drop]
    conv => lhs; rw [h2, ecat_app, ecat]
  have h3 := ent_there (ecat (l.take k)) (ecat (l.drop (k + 1))) l[k] hok
  rw [← h1] at h3
  rw [h3, ecat_next l k h, ByteArray.size_append]
theorem ecat_pos (l : List En) (k : Nat) : (ecat (l.take k)).size ≤ (ecat l).size := by
  conv => rhs; rw [← List.take_append_drop k l, ecat_app, ByteArray.size_append]
  omega

/-- Counts. -/
structure Cn where
  d : Int
  i : Int
  n : Int
deriving DecidableEq
def cntOf (e : En) : Option Cn := if e.k = 1 then some ⟨e.o.D, e.o.I, e.o.M⟩ else if e.k = 3 then some ⟨e.d, e.i, 0⟩ else none
/-- Where a device's count stands, or would stand. -/
def cutC (l : List Cn) (d : Int) : Nat := match l with
  | [] => 0
  | x :: r => if x.d < d then cutC r d + 1 else 0
theorem cutC_le : ∀ (l : List Cn) (d : Int), cutC l d ≤ l.length
  | [], _ => Nat.le_refl _
  | x :: r, d => by
    unfold cutC
    have := cutC_le r d
    split
    · rw [List.length_cons]; omega
    · omega
theorem cutC_lt : ∀ (l : List Cn) (d : Int) (j : Nat) (h : j < l.length), j < cutC l d → l[j].d < d
  | x :: r, d, j, h, hj => by
    unfold cutC at hj
    split at hj
    · cases j with
      | zero => assumption
      | succ j => exact cutC_lt r d j (by simpa using h) (by omega)
    · omega
theorem cutC_ge : ∀ (l : List Cn) (d : Int) (h : cutC l d < l.length), d ≤ l[cutC l d].d
  | x :: r, d, h => by
    by_cases e : x.d < d
    · have hc : cutC (x :: r) d = cutC r d + 1 := by
        conv => lhs; unfold cutC
        rw [if_pos e]
      rw [hc] at h
      have := cutC_ge r d (by simpa using h)
      simp only [hc, List.getElem_cons_succ]
      exact this
    · have hc : cutC (x :: r) d = 0 := by
        conv => lhs; unfold cutC
        rw [if_neg e]
      simp only [hc, List.getElem_cons_zero]
      omega
/-- How many stand there of the device: none or one. -/
def hereC (l : List Cn) (d : Int) : Nat := if h : cutC l d < l.length then (if l[cutC l d].d = d then 1 else 0) else 0
def putC (l : List Cn) (c : Cn) : List Cn := l.take (cutC l c.d) ++ c :: l.drop (cutC l c.d + hereC l c.d)
def tally (l : List Cn) (e : En) : List Cn := match cntOf e with
  | some c => putC l c
  | none => l
def RisC (l : List Cn) : Prop := l.Pairwise fun a b => a.d < b.d
theorem putC_len (l : List Cn) (c : Cn) : (putC l c).length ≤ l.length + 1 := by
  unfold putC
  have := cutC_le l c.d
  rw [List.length_append, List.length_cons, List.length_take, List.length_drop]; omega
theorem tally_len (l : List Cn) (e : En) : (tally l e).length ≤ l.length + 1 := by
  unfold tally
  cases cntOf e with
  | none => exact Nat.le_succ _
  | some c => exact putC_len l c
theorem take_lt {l : List Cn} {d : Int} {x : Cn} (h : x ∈ l.take (cutC l d)) : x.d < d := by
  obtain ⟨j, hj, rfl⟩ := List.getElem_of_mem h
  rw [List.length_take] at hj
  rw [List.getElem_take]
  exact cutC_lt l d j (by omega) (by omega)
theorem drop_gt {l : List Cn} (hr : RisC l) {d : Int} {x : Cn} (h : x ∈ l.drop (cutC l d + hereC l d)) : d < x.d := by
  obtain ⟨j, hj, rfl⟩ := List.getElem_of_mem h
  rw [List.length_drop] at hj
  rw [List.getElem_drop]
  have hc := cutC_le l d
  have hlt : cutC l d < l.length := by omega
  have hge := cutC_ge l d hlt
  have hpw := List.pairwise_iff_getElem.1 hr
  unfold hereC at hj ⊢
  simp only [dif_pos hlt] at hj ⊢
  by_cases e : l[cutC l d].d = d
  · simp only [if_pos e] at hj ⊢
    have := hpw (cutC l d) (cutC l d + 1 + j) hlt (by omega) (by omega)
    omega
  · simp only [if_neg e] at hj ⊢
    by_cases hj0 : j = 0
    · subst hj0
      simp only [Nat.add_zero] at *
      omega
    · have := hpw (cutC l d) (cutC l d + 0 + j) hlt (by omega) (by omega)
      omega
theorem putC_ris {l : List Cn} (hr : RisC l) (c : Cn) : RisC (putC l c) := by
  unfold RisC putC
  rw [List.pairwise_append, List.pairwise_cons]
  refine ⟨hr.sublist (List.take_sublist _ _), ⟨fun x hx => drop_gt hr hx, hr.sublist (List.drop_sublist _ _)⟩, fun x hx y hy => ?_⟩
  have h1 := take_lt hx
  rcases List.mem_cons.1 hy with rfl | hy
  · exact h1
  · have := drop_gt hr hy; omega
theorem tally_ris {l : List Cn} (hr : RisC l) (e : En) : RisC (tally l e) := by
  unfold tally
  cases cntOf e with
  | none => exact hr
  | some c => exact putC_ris hr c
theorem mem_putC {l : List Cn} (hr : RisC l) {c x : Cn} (h : x ∈ putC l c) : x = c ∨ x ∈ l ∧ x.d ≠ c.d := by
  unfold putC at h
  rcases List.mem_append.1 h with h | h
  · exact Or.inr ⟨List.mem_of_mem_take h, by have := take_lt h; omega⟩
  · rcases List.mem_cons.1 h with h | h
    · exact Or.inl h
    · exact Or.inr ⟨List.mem_of_mem_drop h, by have := drop_gt hr h; omega⟩
/-- The counts behind entries; and what the last one of a device says. -/
def tallies (l : List En) : List Cn := l.foldl tally []
def zeroCn : Cn := ⟨0, 0, 0⟩
def wantStep (d : Int) (w : Cn) (e : En) : Cn := match cntOf e with
  | some c => if c.d = d then c else w
  | none => w
def wantOf (l : List En) (d : Int) : Cn := l.foldl (wantStep d) zeroCn
theorem tallies_next (l : List En) (k : Nat) (h : k < l.length) : tallies (l.take (k + 1)) = tally (tallies (l.take k)) l[k] := by
  unfold tallies
  rw [List.take_succ_eq_append_getElem h, List.foldl_append]; rfl
theorem wantOf_next (l : List En) (k : Nat) (h : k < l.length) (d : Int) : wantOf (l.take (k + 1)) d = wantStep d (wantOf (l.take k) d) l[k] := by
  unfold wantOf
  rw [List.take_succ_eq_append_getElem h, List.foldl_append]; rfl
theorem tallies_inv (l : List En) : ∀ k, k ≤ l.length → RisC (tallies (l.take k)) ∧ (tallies (l.take k)).length ≤ k ∧ ∀ x ∈ tallies (l.take k), wantOf (l.take k) x.d = x
  | 0, _ => ⟨by rw [List.take_zero]; exact List.Pairwise.nil, by rw [List.take_zero]; exact Nat.le_refl _, fun x hx => by rw [List.take_zero] at hx; cases hx⟩
  | k + 1, h => by
    obtain ⟨h1, h2, h3⟩ := tallies_inv l k (by omega)
    rw [tallies_next l k (by omega)]
    refine ⟨tally_ris h1 _, by have := tally_len (tallies (l.take k)) (l[k]'(by omega)); omega, fun x hx => ?_⟩
    rw [wantOf_next l k (by omega)]
    unfold tally at hx
    unfold wantStep
    cases hc : cntOf (l[k]'(by omega)) with
    | none => rw [hc] at hx; exact h3 x hx
    | some c =>
      rw [hc] at hx
      dsimp only at hx ⊢
      rcases mem_putC h1 hx with rfl | ⟨hm, hne⟩
      · rw [if_pos rfl]
      · rw [if_neg (fun e => hne e.symm)]; exact h3 x hm
end Go.Proofs.Ytfpgfclmmdihjaa

/- Queues of operations as values: what is pushed, acknowledged, allowed, sent, told, read. No call in it. -/
namespace Go.Proofs.Ytfpgfclmmdihjaa
open Go.RowKit Nam Cod

structure Qu where
  f : Int
  g : Int
  os : List Mv
def newQu : Qu := ⟨1, 0, []⟩
def nilQu : Qu := ⟨0, 0, []⟩
def pushQ (x : Qu) (o : Mv) : Qu := ⟨x.f, x.g, x.os ++ [o]⟩
def ackQ (x : Qu) (a : Int) : Qu := if a < x.f then x else ⟨x.f + min (a - x.f + 1) x.os.length, x.g, x.os.drop (min (a - x.f + 1) x.os.length).toNat⟩
def allowQ (x : Qu) (g : Int) : Qu := ⟨x.f, max x.g g, x.os⟩
def outQ (x : Qu) (most : Int) : List Mv := x.os.take (min most (x.g - x.f + 1)).toNat
def okL (l : List Mv) : Prop := ∀ o ∈ l, okB o = true
def opsBytes : List Mv → ByteArray
  | [] => ⟨#[]⟩
  | o :: l => o.bytes ++ opsBytes l
def quBytes (x : Qu) : ByteArray := bytesOf x.f ++ bytesOf x.g ++ bytesOf x.os.length ++ opsBytes x.os
structure QuR (x : Qu) : Prop where
  f1 : 1 ≤ x.f
  fm : x.f ≤ 1099511627776
  g0 : 0 ≤ x.g
  gm : x.g ≤ 1099511627776
  ok : okL x.os
theorem opsBytes_next (l : List Mv) (k : Nat) (h : k < l.length) : opsBytes (l.take (k + 1)) = opsBytes (l.take k) ++ l[k].bytes := by
  induction l generalizing k with
  | nil => exact absurd h (Nat.not_lt_zero _)
  | cons a l ih =>
    cases k with
    | zero =>
      show opsBytes [a] = opsBytes [] ++ a.bytes
      apply L_inj
      show L (a.bytes ++ ⟨#[]⟩) = L (⟨#[]⟩ ++ a.bytes)
      rw [L_app, L_app]; simp [L]
    | succ k =>
      rw [List.length_cons] at h
      rw [List.take_succ_cons, List.take_succ_cons, opsBytes, opsBytes, ih k (by omega), ByteArray.append_assoc]
      rfl
theorem opsBytes_le : ∀ l : List Mv, (∀ o ∈ l, o.bytes.size ≤ 1000070) → (opsBytes l).size ≤ 1000070 * l.length
  | [], _ => Nat.zero_le _
  | o :: l, h => by
    have h1 := h o (by simp)
    have h2 := opsBytes_le l (fun x hx => h x (by simp [hx]))
    rw [opsBytes, ByteArray.size_append, List.length_cons]; omega
theorem opsBytes_ok : ∀ l : List Mv, okL l → (opsBytes l).size ≤ 86 * l.length
  | [], _ => Nat.zero_le _
  | o :: l, h => by
    have h1 := bytes_le (m := o) (h o (by simp))
    have h2 := opsBytes_ok l (fun x hx => h x (by simp [hx]))
    rw [opsBytes, ByteArray.size_append, List.length_cons]; omega

theorem ackQ_len (x : Qu) (a : Int) : (ackQ x a).os.length ≤ x.os.length := by
  unfold ackQ
  split
  · exact Nat.le_refl _
  · dsimp only; rw [List.length_drop]; omega
theorem ackQ_R {x : Qu} (h : QuR x) (a : Int) (hm : x.f + x.os.length ≤ 1099511627776) : QuR (ackQ x a) := by
  have h1 := h.f1
  have h2 := h.fm
  unfold ackQ
  by_cases c : a < x.f
  · rw [if_pos c]; exact h
  · rw [if_neg c]
    exact ⟨by dsimp only; omega, by dsimp only; omega, h.g0, h.gm, fun o ho => h.ok o (List.mem_of_mem_drop ho)⟩
theorem ackQ_zero {x : Qu} (h : 1 ≤ x.f) : ackQ x 0 = x := by unfold ackQ; rw [if_pos (by omega)]
/-- What is acknowledged in two goes is acknowledged. -/
theorem ackQ_two (x : Qu) {a b : Int} (h : a ≤ b) : ackQ (ackQ x a) b = ackQ x b := by
  unfold ackQ
  by_cases c : a < x.f
  · rw [if_pos c]
  · rw [if_neg c, if_neg (show ¬ b < x.f by omega)]
    dsimp only
    rw [List.length_drop]
    by_cases c2 : b < x.f + min (a - x.f + 1) x.os.length
    · rw [if_pos c2]
      have e1 : min (a - x.f + 1) (x.os.length : Int) = min (b - x.f + 1) x.os.length := by omega
      rw [e1]
    · rw [if_neg c2, List.drop_drop]
      congr 1
      · omega
      · congr 1; omega
/-- An acknowledgement that came changes nothing. -/
theorem ackQ_old (x : Qu) {a b : Int} (h : a ≤ b) : ackQ (ackQ x b) a = ackQ x b := by
  obtain ⟨f, g, os⟩ := x
  unfold ackQ
  dsimp only
  by_cases c : b < f
  · rw [if_pos c]
    dsimp only
    rw [if_pos (by omega)]
  · rw [if_neg c]
    dsimp only
    rw [List.length_drop]
    by_cases c2 : a < f + min (b - f + 1) os.length
    · rw [if_pos c2]
    · rw [if_neg c2]
      have e1 : min (a - (f + min (b - f + 1) (os.length : Int)) + 1) (((os.length - (min (b - f + 1) (os.length : Int)).toNat : Nat)) : Int) = 0 := by omega
      rw [e1]
      simp

/-- Read from bytes. -/
def isOps (s : ByteArray) : Nat → Nat → Option (List Mv × Nat)
  | 0, p => some ([], p)
  | n + 1, p => (isOp s p false).bind fun a => (isOps s n a.2).bind fun b => some (a.1 :: b.1, b.2)
def isQu (s : ByteArray) (p : Nat) (bad : Bool) : Option (Qu × Nat) :=
  (isNum s p bad).bind fun a => (isNum s a.2 false).bind fun b => (isCount s b.2 false 4096).bind fun c => (isOps s c.1.toNat c.2).bind fun d =>
    if 1 ≤ a.1 ∧ a.1 ≤ 1099511627776 ∧ 0 ≤ b.1 ∧ b.1 ≤ 1099511627776 then some (⟨a.1, b.1, d.1⟩, d.2) else none
theorem isOps_next (s : ByteArray) : ∀ (k p : Nat), isOps s (k + 1) p = (isOps s k p).bind fun a => (isOp s a.2 false).bind fun e => some (a.1 ++ [e.1], e.2)
  | 0, p => by
    rw [isOps, isOps, Option.bind_some]
    cases isOp s p false with
    | none => rfl
    | some a => rfl
  | k + 1, p => by
    rw [isOps]
    cases h : isOp s p false with
    | none => rw [isOps, h]; rfl
    | some a =>
      rw [Option.bind_some, isOps_next s k a.2, isOps, h, Option.bind_some]
      cases isOps s k a.2 with
      | none => rfl
      | some b =>
        simp only [Option.bind_some]
        cases isOp s b.2 false with
        | none => rfl
        | some c => rfl
theorem isOps_none (s : ByteArray) (p k : Nat) (h : isOps s k p = none) : ∀ d, isOps s (k + d) p = none
  | 0 => h
  | d + 1 => by rw [← Nat.add_assoc, isOps_next, isOps_none s p k h d]; rfl
theorem ops_there : ∀ (l : List Mv) (A Z : ByteArray), okL l → isOps (A ++ (opsBytes l ++ Z)) l.length A.size = some (l, A.size + (opsBytes l).size)
  | [], A, Z, _ => rfl
  | o :: l, A, Z, h => by
    rw [List.length_cons, isOps, opsBytes]
    have h1 := op_there' A (opsBytes l ++ Z) (o := o) (h o (by simp))
    rw [show A ++ (o.bytes ++ opsBytes l ++ Z) = A ++ (o.bytes ++ (opsBytes l ++ Z)) by simp only [ByteArray.append_assoc], h1, Option.bind_some]
    have h2 := ops_there l (A ++ o.bytes) Z (fun y hy => h y (by simp [hy]))
    rw [ByteArray.append_assoc, ByteArray.size_append] at h2
    dsimp only
    rw [h2, Option.bind_some, ByteArray.size_append, Nat.add_assoc]
theorem ops_bytes : ∀ (n : Nat) (s : ByteArray) (p : Nat) (l : List Mv) (q : Nat), isOps s n p = some (l, q) → l.length = n ∧ okL l ∧ (L s).drop p = L (opsBytes l) ++ (L s).drop q
  | 0, s, p, l, q, h => by
    injection h with h
    injection h with h1 h2
    subst h1 h2
    exact ⟨rfl, (fun e he => by cases he), rfl⟩
  | n + 1, s, p, l, q, h => by
    rw [isOps] at h
    cases ha : isOp s p false with
    | none => rw [ha] at h; cases h
    | some a =>
      obtain ⟨e, qe⟩ := a
      rw [ha, Option.bind_some] at h
      dsimp only at h
      cases hb : isOps s n qe with
      | none => rw [hb] at h; cases h
      | some b =>
        obtain ⟨r, qr⟩ := b
        rw [hb, Option.bind_some] at h
        injection h with h
        injection h with h1 h2
        subst h1 h2
        obtain ⟨g1, g2⟩ := op_bytes ha
        obtain ⟨g3, g4, g5⟩ := ops_bytes n s qe r _ hb
        refine ⟨by rw [List.length_cons, g3], fun y hy => ?_, ?_⟩
        · rcases List.mem_cons.1 hy with rfl | hy
          · exact g1
          · exact g4 y hy
        · rw [g2, g5, opsBytes, L_app, List.append_assoc]; rfl
theorem isQu_some {s : ByteArray} {p : Nat} {bad : Bool} {x : Qu} {q : Nat} (h : isQu s p bad = some (x, q)) : ∃ q1 q2 q3, isNum s p bad = some (x.f, q1) ∧ isNum s q1 false = some (x.g, q2) ∧ isCount s q2 false 4096 = some ((x.os.length : Int), q3) ∧ isOps s x.os.length q3 = some (x.os, q) ∧ QuR x := by
  unfold isQu at h
  cases ha : isNum s p bad with
  | none => rw [ha] at h; cases h
  | some a =>
    obtain ⟨a, qa⟩ := a
    rw [ha, Option.bind_some] at h
    dsimp only at h
    cases hb : isNum s qa false with
    | none => rw [hb] at h; cases h
    | some b =>
      obtain ⟨b, qb⟩ := b
      rw [hb, Option.bind_some] at h
      dsimp only at h
      cases hc : isCount s qb false 4096 with
      | none => rw [hc] at h; cases h
      | some c =>
        obtain ⟨c, qc⟩ := c
        rw [hc, Option.bind_some] at h
        dsimp only at h
        cases hd : isOps s c.toNat qc with
        | none => rw [hd] at h; cases h
        | some d =>
          obtain ⟨l, qd⟩ := d
          rw [hd, Option.bind_some] at h
          dsimp only at h
          by_cases hl : 1 ≤ a ∧ a ≤ 1099511627776 ∧ 0 ≤ b ∧ b ≤ 1099511627776
          · rw [if_pos hl] at h
            injection h with h
            injection h with h1 h2
            subst h1 h2
            obtain ⟨g1, g2, _⟩ := ops_bytes _ _ _ _ _ hd
            obtain ⟨_, g3, g4⟩ := isCount_some hc
            have e1 : c = (l.length : Int) := by omega
            subst e1
            exact ⟨qa, qb, qc, rfl, hb, hc, hd, hl.1, hl.2.1, hl.2.2.1, hl.2.2.2, g2⟩
          · rw [if_neg hl] at h; cases h
theorem qu_of {s : ByteArray} {p : Nat} {bad : Bool} {a b c : Int} {q1 q2 q3 q : Nat} {l : List Mv} (h1 : isNum s p bad = some (a, q1)) (h2 : isNum s q1 false = some (b, q2)) (h3 : isCount s q2 false 4096 = some (c, q3)) (h4 : isOps s c.toNat q3 = some (l, q)) : isQu s p bad = if 1 ≤ a ∧ a ≤ 1099511627776 ∧ 0 ≤ b ∧ b ≤ 1099511627776 then some (⟨a, b, l⟩, q) else none := by
  unfold isQu
  rw [h1, Option.bind_some]
  dsimp only
  rw [h2, Option.bind_some]
  dsimp only
  rw [h3, Option.bind_some]
  dsimp only
  rw [h4, Option.bind_some]
theorem qu_bytes {s : ByteArray} {p : Nat} {bad : Bool} {x : Qu} {q : Nat} (h : isQu s p bad = some (x, q)) : QuR x ∧ x.os.length ≤ 4096 ∧ (L s).drop p = L (quBytes x) ++ (L s).drop q := by
  obtain ⟨q1, q2, q3, h1, h2, h3, h4, h5⟩ := isQu_some h
  obtain ⟨h6, _, h7⟩ := isCount_some h3
  obtain ⟨_, _, h8⟩ := ops_bytes _ _ _ _ _ h4
  refine ⟨h5, by omega, ?_⟩
  unfold quBytes
  rw [num_bytes h1, num_bytes h2, num_bytes h6, h8]
  simp only [L_app, List.append_assoc]
theorem qu_self {x : Qu} (h : QuR x) (hl : x.os.length ≤ 4096) : isQu (quBytes x) 0 false = some (x, (quBytes x).size) := by
  obtain ⟨a, b, l⟩ := x
  obtain ⟨h0, h1, h2, h3, h4⟩ := h
  dsimp only at h0 h1 h2 h3 h4 hl
  have hE : quBytes ⟨a, b, l⟩ = bytesOf a ++ bytesOf b ++ bytesOf l.length ++ opsBytes l := rfl
  have e0 : ∀ B : ByteArray, (⟨#[]⟩ : ByteArray) ++ B = B := fun B => L_inj (by rw [L_app]; simp [L])
  have e1 : ∀ B : ByteArray, B ++ (⟨#[]⟩ : ByteArray) = B := fun B => L_inj (by rw [L_app]; simp [L])
  have hA := num_at (quBytes ⟨a, b, l⟩) ⟨#[]⟩ (bytesOf b ++ bytesOf l.length ++ opsBytes l) a 0 (by rw [hE, e0]; simp only [ByteArray.append_assoc]) rfl (i64_of (by omega))
  have hB := num_at (quBytes ⟨a, b, l⟩) (bytesOf a) (bytesOf l.length ++ opsBytes l) b (0 + (bytesOf a).size) (by rw [hE]; simp only [ByteArray.append_assoc]) (by omega) (i64_of (by omega))
  have hC := count_there (bytesOf a ++ bytesOf b) (opsBytes l) l.length 4096 (by omega) (by omega) (by omega)
  have hD := ops_there l (bytesOf a ++ bytesOf b ++ bytesOf l.length) ⟨#[]⟩ h4
  rw [e1, ← hE] at hD
  rw [show bytesOf a ++ bytesOf b ++ (bytesOf (l.length : Int) ++ opsBytes l) = quBytes ⟨a, b, l⟩ by rw [hE]; simp only [ByteArray.append_assoc]] at hC
  rw [qu_of hA hB (by rw [show 0 + (bytesOf a).size + (bytesOf b).size = (bytesOf a ++ bytesOf b).size by rw [ByteArray.size_append]; omega]; exact hC) (by rw [show (bytesOf a ++ bytesOf b).size + (bytesOf (l.length : Int)).size = (bytesOf a ++ bytesOf b ++ bytesOf (l.length : Int)).size by rw [ByteArray.size_append (a := bytesOf a ++ bytesOf b)]]; exact hD), if_pos ⟨h0, h1, h2, h3⟩, hE]
  simp only [ByteArray.size_append]

/-- Steps. -/
def someO (n : Int) : Mv := ⟨1 + n, 0, 1, 1 + n, 2 + n % 9, 0, ⟨#[97]⟩⟩
structure Ad where
  k : Int
  n : Int
def stepQ (x : Qu) (c : Ad) (i : Int) : Qu := if c.k = 0 then pushQ x (someO i) else if c.k = 1 then ackQ x c.n else if c.k = 2 then allowQ x c.n else x
def fineA (c : Ad) : Prop := -549755813888 ≤ c.n ∧ c.n ≤ 549755813888
def playQ : List Ad → Int → Qu → Qu
  | [], _, x => x
  | c :: l, i, x => playQ l (i + 1) (stepQ x c i)
def qAt (l : List Ad) (k : Nat) : Qu := playQ (l.take k) 0 newQu
theorem playQ_app : ∀ (l : List Ad) (c : Ad) (i : Int) (x : Qu), playQ (l ++ [c]) i x = stepQ (playQ l i x) c (i + l.length)
  | [], c, i, x => by simp [playQ]
  | a :: l, c, i, x => by
    rw [List.cons_append, playQ, playQ_app l c (i + 1), playQ, List.length_cons]
    have h1 : i + 1 + (l.length : Int) = i + ((l.length + 1 : Nat) : Int) := by omega
    rw [h1]
theorem qAt_next (l : List Ad) (k : Nat) (h : k < l.length) : qAt l (k + 1) = stepQ (qAt l k) l[k] k := by
  unfold qAt
  rw [List.take_succ_eq_append_getElem h, playQ_app, List.length_take, Nat.min_eq_left (by omega), Int.zero_add]
theorem someO_ok {n : Int} (h0 : 0 ≤ n) (h1 : n ≤ 1000) : okB (someO n) = true := by
  have hn : isName (L ⟨#[97]⟩) = true := by decide +kernel
  have h2 : 0 ≤ n % 9 ∧ n % 9 < 9 := by omega
  unfold okB someO
  dsimp only
  rw [opB_in (rightB_iff.2 ⟨by omega, by omega, by omega, by omega⟩) ⟨by omega, by omega, by omega, by omega, by omega, by omega, by omega, by omega, by omega, by omega⟩]
  exact hn
end Go.Proofs.Ytfpgfclmmdihjaa

/- Reports as values: which may be, which is newer, what merging comes to, their bytes. No call in it. -/
namespace Go.Proofs.Ytfpgfclmmdihjaa
open Go.RowKit Cod

structure Rp where
  d : Int
  i : Int
  b : Int
  t : Int
  m : Int
  p : Int
  c : Int
  s : Int
  k : Int
def zeroRp : Rp := ⟨0, 0, 0, 0, 0, 0, 0, 0, 0⟩
def cnt0 (n : Int) : Bool := decide (0 ≤ n ∧ n ≤ 1099511627776)
def rpB (r : Rp) : Bool := decide (0 ≤ r.d ∧ r.d < 12 ∧ 1 ≤ r.i ∧ (r.m = 1 ∨ r.m = 2)) && (cnt0 r.i && (cnt0 r.b && (cnt0 r.t && (cnt0 r.p && (cnt0 r.c && (cnt0 r.s && cnt0 r.k))))))
structure RpR (r : Rp) : Prop where
  d : 0 ≤ r.d ∧ r.d < 12
  m : r.m = 1 ∨ r.m = 2
  i : 1 ≤ r.i ∧ r.i ≤ 1099511627776
  b : 0 ≤ r.b ∧ r.b ≤ 1099511627776
  t : 0 ≤ r.t ∧ r.t ≤ 1099511627776
  p : 0 ≤ r.p ∧ r.p ≤ 1099511627776
  c : 0 ≤ r.c ∧ r.c ≤ 1099511627776
  s : 0 ≤ r.s ∧ r.s ≤ 1099511627776
  k : 0 ≤ r.k ∧ r.k ≤ 1099511627776
theorem rpB_iff {r : Rp} : rpB r = true ↔ RpR r := by
  unfold rpB cnt0
  simp only [Bool.and_eq_true, decide_eq_true_iff]
  constructor
  · rintro ⟨⟨h1, h2, h3, h4⟩, h5, h6, h7, h8, h9, h10, h11⟩
    exact ⟨⟨h1, h2⟩, h4, ⟨h3, h5.2⟩, h6, h7, h8, h9, h10, h11⟩
  · rintro ⟨h1, h2, h3, h4, h5, h6, h7, h8, h9⟩
    exact ⟨⟨h1.1, h1.2, h3.1, h2⟩, ⟨by omega, h3.2⟩, h4, h5, h6, h7, h8, h9⟩
def newB (a b : Rp) : Bool := if a.i = b.i then (if a.b = b.b then decide (b.t < a.t) else decide (b.b < a.b)) else decide (b.i < a.i)
theorem newB_iff {a b : Rp} : newB a b = true ↔ b.i < a.i ∨ (a.i = b.i ∧ (b.b < a.b ∨ (a.b = b.b ∧ b.t < a.t))) := by
  unfold newB
  split
  · split
    · rw [decide_eq_true_iff]; omega
    · rw [decide_eq_true_iff]; omega
  · rw [decide_eq_true_iff]; omega
theorem newB_self (a : Rp) : newB a a = false := by
  rw [Bool.eq_false_iff]; intro h; rw [newB_iff] at h; omega
theorem newB_trans {a b c : Rp} (h : newB a b = true) (k : newB b c = true) : newB a c = true := by
  rw [newB_iff] at *; omega
theorem newB_anti {a b : Rp} (h : newB a b = true) : newB b a = false := by
  rw [Bool.eq_false_iff]; intro k; rw [newB_iff] at *; omega
theorem newB_not {a b : Rp} (h : newB a b = false) (k : newB b a = false) : a.i = b.i ∧ a.b = b.b ∧ a.t = b.t := by
  rw [Bool.eq_false_iff] at h k
  have h := mt newB_iff.2 h
  have k := mt newB_iff.2 k
  omega

/-- Merged: ahead of the first that isn't of a lesser device, or in its place. -/
def mergeR : List Rp → Rp → List Rp
  | [], r => [r]
  | x :: l, r => if x.d < r.d then x :: mergeR l r else if x.d = r.d then (if newB r x = true then r :: l else x :: l) else r :: x :: l
/-- How many are of lesser devices, at the front. -/
def cutR : List Rp → Int → Nat
  | [], _ => 0
  | x :: l, d => if x.d < d then cutR l d + 1 else 0
theorem cutR_le : ∀ (l : List Rp) (d : Int), cutR l d ≤ l.length
  | [], _ => Nat.le_refl _
  | x :: l, d => by
    unfold cutR
    split
    · rw [List.length_cons]; have := cutR_le l d; omega
    · exact Nat.zero_le _
theorem cutR_lt : ∀ (l : List Rp) (d : Int) (j : Nat) (h : j < l.length), j < cutR l d → l[j].d < d
  | [], _, j, h, _ => absurd h (Nat.not_lt_zero j)
  | x :: l, d, j, h, hc => by
    unfold cutR at hc
    split at hc
    · rename_i hx
      cases j with
      | zero => exact hx
      | succ j => exact cutR_lt l d j (by rw [List.length_cons] at h; omega) (by omega)
    · omega
theorem cutR_at : ∀ (l : List Rp) (d : Int) (h : cutR l d < l.length), ¬ l[cutR l d].d < d
  | [], _, h => absurd h (Nat.not_lt_zero _)
  | x :: l, d, h => by
    by_cases hx : x.d < d
    · have e : cutR (x :: l) d = cutR l d + 1 := if_pos hx
      simp only [e, List.getElem_cons_succ]
      exact cutR_at l d (by rw [e, List.length_cons] at h; omega)
    · have e : cutR (x :: l) d = 0 := if_neg hx
      simp only [e, List.getElem_cons_zero]
      exact hx
theorem mergeR_new : ∀ (l : List Rp) (r : Rp), (∀ h : cutR l r.d < l.length, l[cutR l r.d].d ≠ r.d) → mergeR l r = l.take (cutR l r.d) ++ [r] ++ l.drop (cutR l r.d)
  | [], r, _ => rfl
  | x :: l, r, h => by
    unfold mergeR
    by_cases hx : x.d < r.d
    · have e : cutR (x :: l) r.d = cutR l r.d + 1 := if_pos hx
      rw [if_pos hx, e, mergeR_new l r (fun h2 => by
        have := h (by rw [e, List.length_cons]; omega)
        simp only [e, List.getElem_cons_succ] at this
        exact this)]
      rfl
    · have e : cutR (x :: l) r.d = 0 := if_neg hx
      have hne : x.d ≠ r.d := by
        have := h (by rw [e, List.length_cons]; omega)
        simp only [e, List.getElem_cons_zero] at this
        exact this
      rw [if_neg hx, if_neg hne, e]; rfl
theorem mergeR_old : ∀ (l : List Rp) (r : Rp) (h : cutR l r.d < l.length), l[cutR l r.d].d = r.d → mergeR l r = if newB r l[cutR l r.d] = true then l.set (cutR l r.d) r else l
  | [], _, h, _ => absurd h (Nat.not_lt_zero _)
  | x :: l, r, h, hd => by
    unfold mergeR
    by_cases hx : x.d < r.d
    · have e : cutR (x :: l) r.d = cutR l r.d + 1 := if_pos hx
      simp only [e, List.getElem_cons_succ] at hd ⊢
      rw [if_pos hx, mergeR_old l r (by rw [e, List.length_cons] at h; omega) hd, List.set_cons_succ]
      split <;> rfl
    · have e : cutR (x :: l) r.d = 0 := if_neg hx
      simp only [e, List.getElem_cons_zero] at hd ⊢
      rw [if_neg hx, if_pos hd, List.set_cons_zero]
theorem mergeR_len (l : List Rp) (r : Rp) : (mergeR l r).length ≤ l.length + 1 := by
  induction l with
  | nil => exact Nat.le_refl _
  | cons x l ih =>
    unfold mergeR
    split
    · rw [List.length_cons, List.length_cons]; omega
    · split
      · split
        · rw [List.length_cons, List.length_cons]; omega
        · rw [List.length_cons]; omega
      · rw [List.length_cons, List.length_cons]; omega

/-- Rising devices. -/
def RisR : List Rp → Prop
  | [] => True
  | x :: l => (∀ y ∈ l, x.d < y.d) ∧ RisR l
theorem mergeR_mem : ∀ (l : List Rp) (r y : Rp), y ∈ mergeR l r → y = r ∨ y ∈ l
  | [], r, y, h => by
    have h : y ∈ [r] := h
    rw [List.mem_singleton] at h; exact Or.inl h
  | x :: l, r, y, h => by
    unfold mergeR at h
    split at h
    · rcases List.mem_cons.1 h with h | h
      · exact Or.inr (List.mem_cons.2 (Or.inl h))
      · rcases mergeR_mem l r y h with h | h
        · exact Or.inl h
        · exact Or.inr (List.mem_cons.2 (Or.inr h))
    · split at h
      · split at h
        · rcases List.mem_cons.1 h with h | h
          · exact Or.inl h
          · exact Or.inr (List.mem_cons.2 (Or.inr h))
        · exact Or.inr h
      · rcases List.mem_cons.1 h with h | h
        · exact Or.inl h
        · exact Or.inr h
theorem mergeR_ris : ∀ (l : List Rp) (r : Rp), RisR l → RisR (mergeR l r)
  | [], _, _ => ⟨(fun y h => by cases h), trivial⟩
  | x :: l, r, h => by
    unfold mergeR
    split
    · rename_i hx
      refine ⟨fun y hy => ?_, mergeR_ris l r h.2⟩
      rcases mergeR_mem l r y hy with rfl | hy
      · exact hx
      · exact h.1 y hy
    · rename_i hx
      split
      · rename_i he
        split
        · exact ⟨fun y hy => by rw [← he]; exact h.1 y hy, h.2⟩
        · exact h
      · rename_i he
        refine ⟨fun y hy => ?_, h⟩
        rcases List.mem_cons.1 hy with rfl | hy
        · omega
        · have := h.1 y hy; omega
/-- For each that was there, and for r, there is one that is as new. -/
theorem mergeR_has : ∀ (l : List Rp) (r x : Rp), (∀ y ∈ l, y.d = r.d → newB r y = true ∨ newB y r = true) → (x = r ∨ x ∈ l) → ∃ y ∈ mergeR l r, y.d = x.d ∧ (y = x ∨ newB y x = true)
  | [], r, x, _, h => by
    rcases h with rfl | h
    · exact ⟨x, List.mem_singleton.2 rfl, rfl, Or.inl rfl⟩
    · cases h
  | z :: l, r, x, hc, h => by
    unfold mergeR
    split
    · rcases h with h | h
      · obtain ⟨y, hy, h1, h2⟩ := mergeR_has l r x (fun y hy => hc y (List.mem_cons.2 (Or.inr hy))) (Or.inl h)
        exact ⟨y, List.mem_cons.2 (Or.inr hy), h1, h2⟩
      · rcases List.mem_cons.1 h with rfl | h
        · exact ⟨x, List.mem_cons.2 (Or.inl rfl), rfl, Or.inl rfl⟩
        · obtain ⟨y, hy, h1, h2⟩ := mergeR_has l r x (fun y hy => hc y (List.mem_cons.2 (Or.inr hy))) (Or.inr h)
          exact ⟨y, List.mem_cons.2 (Or.inr hy), h1, h2⟩
    · split
      · rename_i he
        split
        · rename_i hn
          rcases h with rfl | h
          · exact ⟨x, List.mem_cons.2 (Or.inl rfl), rfl, Or.inl rfl⟩
          · rcases List.mem_cons.1 h with rfl | h
            · exact ⟨r, List.mem_cons.2 (Or.inl rfl), he.symm, Or.inr hn⟩
            · exact ⟨x, List.mem_cons.2 (Or.inr h), rfl, Or.inl rfl⟩
        · rename_i hn
          rcases h with rfl | h
          · refine ⟨z, List.mem_cons.2 (Or.inl rfl), he, Or.inr ?_⟩
            rcases hc z (List.mem_cons.2 (Or.inl rfl)) he with h | h
            · exact absurd h hn
            · exact h
          · exact ⟨x, h, rfl, Or.inl rfl⟩
      · rcases h with rfl | h
        · exact ⟨x, List.mem_cons.2 (Or.inl rfl), rfl, Or.inl rfl⟩
        · exact ⟨x, List.mem_cons.2 (Or.inr h), rfl, Or.inl rfl⟩
def foldR (l : List Rp) : List Rp := l.foldl mergeR []
/-- Any two of one device, at two places, differ by what makes one the newer. -/
def Apart (l : List Rp) : Prop := l.Pairwise fun x y => x.d = y.d → newB x y = true ∨ newB y x = true
structure NewestR (l a : List Rp) : Prop where
  ris : RisR a
  mem : ∀ y ∈ a, y ∈ l
  has : ∀ x ∈ l, ∃ y ∈ a, y.d = x.d ∧ (y = x ∨ newB y x = true)
theorem foldR_snoc (l : List Rp) (r : Rp) : foldR (l ++ [r]) = mergeR (foldR l) r := by
  unfold foldR; rw [List.foldl_append]; rfl
theorem foldR_newest {l : List Rp} (h : Apart l) : ∀ k, k ≤ l.length → NewestR (l.take k) (foldR (l.take k))
  | 0, _ => by rw [List.take_zero]; exact ⟨trivial, (fun y h => by cases h), fun y h => by cases h⟩
  | k + 1, hk => by
    have ih := foldR_newest h k (by omega)
    rw [List.take_succ_eq_append_getElem (by omega), foldR_snoc]
    have hap : ∀ x ∈ l.take k, x.d = l[k].d → newB x l[k] = true ∨ newB l[k] x = true := fun x hx => by
      have h2 : (l.take (k + 1)).Pairwise fun x y => x.d = y.d → newB x y = true ∨ newB y x = true := List.Pairwise.sublist (List.take_sublist _ _) h
      rw [List.take_succ_eq_append_getElem (by omega), List.pairwise_append] at h2
      exact h2.2.2 x hx l[k] (by simp)
    refine ⟨mergeR_ris _ _ ih.ris, fun y hy => ?_, fun x hx => ?_⟩
    · rcases mergeR_mem _ _ y hy with rfl | hy
      · exact List.mem_append.2 (Or.inr (List.mem_singleton.2 rfl))
      · exact List.mem_append.2 (Or.inl (ih.mem y hy))
    · have hc : ∀ y ∈ foldR (l.take k), y.d = l[k].d → newB l[k] y = true ∨ newB y l[k] = true := fun y hy hd => (hap y (ih.mem y hy) hd).symm
      rcases List.mem_append.1 hx with hx | hx
      · obtain ⟨y, hy, h1, h2⟩ := ih.has x hx
        obtain ⟨z, hz, h3, h4⟩ := mergeR_has (foldR (l.take k)) l[k] y hc (Or.inr hy)
        refine ⟨z, hz, h3.trans h1, ?_⟩
        rcases h4 with rfl | h4
        · exact h2
        · rcases h2 with rfl | h2
          · exact Or.inr h4
          · exact Or.inr (newB_trans h4 h2)
      · rw [List.mem_singleton] at hx
        subst hx
        exact mergeR_has (foldR (l.take k)) l[k] l[k] hc (Or.inl rfl)
theorem ris_ext : ∀ {a b : List Rp}, RisR a → RisR b → (∀ y, y ∈ a ↔ y ∈ b) → a = b
  | [], [], _, _, _ => rfl
  | [], y :: b, _, _, h => by have := (h y).2 (by simp); cases this
  | x :: a, [], _, _, h => by have := (h x).1 (by simp); cases this
  | x :: a, y :: b, ha, hb, h => by
    have hxy : x = y := by
      rcases List.mem_cons.1 ((h x).1 (by simp)) with e | hx
      · exact e
      · rcases List.mem_cons.1 ((h y).2 (by simp)) with e | hy
        · exact e.symm
        · have h1 := ha.1 y hy
          have h2 := hb.1 x hx
          omega
    subst hxy
    congr 1
    refine ris_ext ha.2 hb.2 fun z => ⟨fun hz => ?_, fun hz => ?_⟩
    · rcases List.mem_cons.1 ((h z).1 (List.mem_cons.2 (Or.inr hz))) with rfl | h1
      · have := ha.1 z hz; omega
      · exact h1
    · rcases List.mem_cons.1 ((h z).2 (List.mem_cons.2 (Or.inr hz))) with rfl | h1
      · have := hb.1 z hz; omega
      · exact h1
theorem newest_sub {l a b : List Rp} (ha : NewestR l a) (hb : NewestR l b) {y : Rp} (hy : y ∈ a) : y ∈ b := by
  have uniq : ∀ {a : List Rp}, RisR a → ∀ x ∈ a, ∀ y ∈ a, x.d = y.d → x = y := by
    intro a
    induction a with
    | nil => intro _ x hx; cases hx
    | cons z a ih =>
      intro h x hx y hy e
      rcases List.mem_cons.1 hx with ex | hx1
      · rcases List.mem_cons.1 hy with ey | hy1
        · rw [ex, ey]
        · have := h.1 y hy1; rw [← ex] at this; omega
      · rcases List.mem_cons.1 hy with ey | hy1
        · have := h.1 x hx1; rw [← ey] at this; omega
        · exact ih h.2 x hx1 y hy1 e
  obtain ⟨z, hz, h1, h2⟩ := hb.has y (ha.mem y hy)
  rcases h2 with rfl | h2
  · exact hz
  · obtain ⟨v, hv, h3, h4⟩ := ha.has z (hb.mem z hz)
    have e : v = y := uniq ha.ris v hv y hy (h3.trans h1)
    subst e
    rcases h4 with rfl | h4
    · exact hz
    · rw [newB_anti h2] at h4; cases h4
/-- Whatever order they come in. -/
theorem newest_one {l a b : List Rp} (ha : NewestR l a) (hb : NewestR l b) : a = b :=
  ris_ext ha.ris hb.ris fun _ => ⟨newest_sub ha hb, newest_sub hb ha⟩
theorem newest_perm {l m a : List Rp} (h : NewestR m a) (hp : ∀ y, y ∈ m ↔ y ∈ l) : NewestR l a :=
  ⟨h.ris, fun y hy => (hp y).1 (h.mem y hy), fun x hx => h.has x ((hp x).2 hx)⟩
end Go.Proofs.Ytfpgfclmmdihjaa

/- Reports' bytes: nine numbers, one behind the other; what is read of bytes. No call in it. -/
namespace Go.Proofs.Ytfpgfclmmdihjaa
open Go.RowKit Cod

theorem num_atR (X A Z : ByteArray) (n : Int) (p : Nat) (hX : X = A ++ (bytesOf n ++ Z)) (hp : p = A.size) (h : i64 n) : isNum X p false = some (n, p + (bytesOf n).size) := by
  subst hX hp; exact num_there A Z n h.1 h.2
theorem num_bytesR {s : ByteArray} {p : Nat} {bad : Bool} {n : Int} {q : Nat} (h : isNum s p bad = some (n, q)) : (L s).drop p = L (bytesOf n) ++ (L s).drop q := by
  obtain ⟨_, ⟨m, hr, rfl⟩, _⟩ := isNum_some h
  have h1 := (rd_some hr).1
  show s.data.toList.drop p = enc (fold n) ++ s.data.toList.drop (p + m)
  rw [← h1, ← List.drop_drop, List.take_append_drop]
def catN : List Int → ByteArray
  | [] => ⟨#[]⟩
  | n :: l => bytesOf n ++ catN l
def rpL (r : Rp) : List Int := [r.d, r.i, r.b, r.t, r.m, r.p, r.c, r.s, r.k]
def ofL (l : List Int) : Rp := ⟨l.getD 0 0, l.getD 1 0, l.getD 2 0, l.getD 3 0, l.getD 4 0, l.getD 5 0, l.getD 6 0, l.getD 7 0, l.getD 8 0⟩
theorem ofL_rpL (r : Rp) : ofL (rpL r) = r := rfl
theorem rpL_ofL {l : List Int} (h : l.length = 9) : rpL (ofL l) = l := by
  match l, h with
  | [_, _, _, _, _, _, _, _, _], _ => rfl
def rpBytes (r : Rp) : ByteArray := catN (rpL r)
theorem catN_next (l : List Int) (k : Nat) (h : k < l.length) : catN (l.take (k + 1)) = catN (l.take k) ++ bytesOf l[k] := by
  induction l generalizing k with
  | nil => exact absurd h (Nat.not_lt_zero _)
  | cons a l ih =>
    cases k with
    | zero =>
      show catN [a] = catN [] ++ bytesOf a
      apply L_inj
      show L (bytesOf a ++ ⟨#[]⟩) = L (⟨#[]⟩ ++ bytesOf a)
      rw [L_app, L_app]; simp [L]
    | succ k =>
      rw [List.length_cons] at h
      rw [List.take_succ_cons, List.take_succ_cons, catN, catN, ih k (by omega), ByteArray.append_assoc]
      rfl
theorem catN_le : ∀ l : List Int, (∀ n ∈ l, i64 n) → (catN l).size ≤ 10 * l.length
  | [], _ => Nat.zero_le _
  | n :: l, h => by
    have h1 : (bytesOf n).size ≤ 10 := by rw [bytesOf_size]; exact enc_ten _ (fold_lt n (h n (by simp)).1 (h n (by simp)).2)
    have h2 := catN_le l (fun x hx => h x (by simp [hx]))
    rw [catN, ByteArray.size_append, List.length_cons]; omega
/-- So many numbers, one behind the other. -/
def isNums (s : ByteArray) : Nat → Nat → Option (List Int × Nat)
  | 0, p => some ([], p)
  | n + 1, p => (isNum s p false).bind fun a => (isNums s n a.2).bind fun b => some (a.1 :: b.1, b.2)
theorem isNums_next (s : ByteArray) : ∀ (k p : Nat), isNums s (k + 1) p = (isNums s k p).bind fun a => (isNum s a.2 false).bind fun e => some (a.1 ++ [e.1], e.2)
  | 0, p => by
    rw [isNums, isNums, Option.bind_some]
    cases isNum s p false with
    | none => rfl
    | some a => rfl
  | k + 1, p => by
    rw [isNums]
    cases h : isNum s p false with
    | none => rw [isNums, h]; rfl
    | some a =>
      rw [Option.bind_some, isNums_next s k a.2, isNums, h, Option.bind_some]
      cases isNums s k a.2 with
      | none => rfl
      | some b =>
        simp only [Option.bind_some]
        cases isNum s b.2 false with
        | none => rfl
        | some c => rfl
theorem isNums_none (s : ByteArray) (p k : Nat) (h : isNums s k p = none) : ∀ d, isNums s (k + d) p = none
  | 0 => h
  | d + 1 => by rw [← Nat.add_assoc, isNums_next, isNums_none s p k h d]; rfl
theorem nums_there : ∀ (l : List Int) (A Z : ByteArray), (∀ n ∈ l, i64 n) → isNums (A ++ (catN l ++ Z)) l.length A.size = some (l, A.size + (catN l).size)
  | [], A, Z, _ => rfl
  | n :: l, A, Z, h => by
    rw [List.length_cons, isNums, catN]
    have h1 := num_atR (A ++ (bytesOf n ++ catN l ++ Z)) A (catN l ++ Z) n A.size (by simp only [ByteArray.append_assoc]) rfl (h n (by simp))
    rw [h1, Option.bind_some]
    have h2 := nums_there l (A ++ bytesOf n) Z (fun y hy => h y (by simp [hy]))
    rw [ByteArray.append_assoc, ByteArray.size_append] at h2
    dsimp only
    rw [show A ++ (bytesOf n ++ catN l ++ Z) = A ++ (bytesOf n ++ (catN l ++ Z)) by simp only [ByteArray.append_assoc], h2, Option.bind_some, ByteArray.size_append, Nat.add_assoc]
theorem nums_bytes : ∀ (n : Nat) (s : ByteArray) (p : Nat) (l : List Int) (q : Nat), isNums s n p = some (l, q) → l.length = n ∧ (L s).drop p = L (catN l) ++ (L s).drop q
  | 0, s, p, l, q, h => by
    injection h with h
    injection h with h1 h2
    subst h1 h2
    exact ⟨rfl, rfl⟩
  | n + 1, s, p, l, q, h => by
    rw [isNums] at h
    cases ha : isNum s p false with
    | none => rw [ha] at h; cases h
    | some a =>
      obtain ⟨e, qe⟩ := a
      rw [ha, Option.bind_some] at h
      dsimp only at h
      cases hb : isNums s n qe with
      | none => rw [hb] at h; cases h
      | some b =>
        obtain ⟨r, qr⟩ := b
        rw [hb, Option.bind_some] at h
        injection h with h
        injection h with h1 h2
        subst h1 h2
        obtain ⟨g3, g5⟩ := nums_bytes n s qe r _ hb
        exact ⟨by rw [List.length_cons, g3], by rw [num_bytesR ha, g5, catN, L_app, List.append_assoc]⟩
def isRp (s : ByteArray) (p : Nat) (bad : Bool) : Option (Rp × Nat) := if bad then none else (isNums s 9 p).bind fun a => if rpB (ofL a.1) = true then some (ofL a.1, a.2) else none
theorem rp_bytes {s : ByteArray} {p : Nat} {bad : Bool} {x : Rp} {q : Nat} (h : isRp s p bad = some (x, q)) : RpR x ∧ (L s).drop p = L (rpBytes x) ++ (L s).drop q := by
  unfold isRp at h
  cases bad
  · rw [if_neg (by decide)] at h
    cases ha : isNums s 9 p with
    | none => rw [ha] at h; cases h
    | some a =>
      obtain ⟨l, qa⟩ := a
      rw [ha, Option.bind_some] at h
      dsimp only at h
      by_cases hb : rpB (ofL l) = true
      · rw [if_pos hb] at h
        injection h with h
        injection h with h1 h2
        subst h1 h2
        obtain ⟨g1, g2⟩ := nums_bytes _ _ _ _ _ ha
        refine ⟨rpB_iff.1 hb, ?_⟩
        unfold rpBytes
        rw [rpL_ofL g1, g2]
      · rw [if_neg hb] at h; cases h
  · rw [if_pos rfl] at h; cases h
theorem RpR.i64 {r : Rp} (h : RpR r) : ∀ n ∈ rpL r, i64 n := fun n hn => by
  obtain ⟨h1, h2, h3, h4, h5, h6, h7, h8, h9⟩ := h
  unfold rpL at hn
  simp only [List.mem_cons, List.not_mem_nil, or_false] at hn
  unfold Go.Proofs.Ytfpgfclmmdihjaa.i64
  rcases hn with rfl | rfl | rfl | rfl | rfl | rfl | rfl | rfl | rfl <;> omega
theorem rp_there (A Z : ByteArray) {x : Rp} (h : RpR x) : isRp (A ++ (rpBytes x ++ Z)) A.size false = some (x, A.size + (rpBytes x).size) := by
  have h1 := nums_there (rpL x) A Z h.i64
  unfold isRp rpBytes
  rw [if_neg (by decide), show (9 : Nat) = (rpL x).length from rfl, h1, Option.bind_some]
  dsimp only
  rw [ofL_rpL, if_pos (rpB_iff.2 h)]
theorem rp_self {x : Rp} (h : RpR x) : isRp (rpBytes x) 0 false = some (x, (rpBytes x).size) := by
  have := rp_there ⟨#[]⟩ ⟨#[]⟩ h
  have e0 : (⟨#[]⟩ : ByteArray) ++ (rpBytes x ++ ⟨#[]⟩) = rpBytes x := L_inj (by rw [L_app, L_app]; simp [L])
  rw [e0, show (⟨#[]⟩ : ByteArray).size = 0 from rfl, Nat.zero_add] at this
  exact this
theorem rp_first {s : ByteArray} {x : Rp} {q : Nat} (hq : q ≤ s.size) (h : isRp s 0 false = some (x, q)) : s.extract 0 q = rpBytes x := by
  obtain ⟨_, h3⟩ := rp_bytes h
  rw [List.drop_zero] at h3
  have hn : (L s).length = s.size := by simp [L]
  have hl := congrArg List.length h3
  rw [List.length_append, List.length_drop, hn] at hl
  apply L_inj
  have e : L (s.extract 0 q) = ((L s).drop 0).take (q - 0) := by
    unfold L
    simp [ByteArray.data_extract, List.extract_eq_take_drop]
  rw [e, List.drop_zero, Nat.sub_zero, h3, List.take_append_of_le_length (by omega), List.take_of_length_le (by omega)]
end Go.Proofs.Ytfpgfclmmdihjaa

/- Lists of things that have bytes, whatever the things: their bytes, what is read of bytes, step by step. No call in it. -/
namespace Go.Proofs.Ytfpgfclmmdihjaa
open Go.RowKit Cod

/-- A kind of things: which may be, their bytes, what is read of bytes. -/
structure Kd (α : Type) where
  ok : α → Bool
  b : α → ByteArray
  is : ByteArray → Nat → Bool → Option (α × Nat)
  there : ∀ (A Z : ByteArray) (x : α), ok x = true → is (A ++ (b x ++ Z)) A.size false = some (x, A.size + (b x).size)
  back : ∀ {s : ByteArray} {p : Nat} {bad : Bool} {x : α} {q : Nat}, is s p bad = some (x, q) → ok x = true ∧ (L s).drop p = L (b x) ++ (L s).drop q
namespace Kd
variable {α : Type} (K : Kd α)
def cat : List α → ByteArray
  | [] => ⟨#[]⟩
  | x :: l => K.b x ++ cat l
def isL (s : ByteArray) : Nat → Nat → Option (List α × Nat)
  | 0, p => some ([], p)
  | n + 1, p => (K.is s p false).bind fun a => (isL s n a.2).bind fun b => some (a.1 :: b.1, b.2)
theorem cat_next (l : List α) (k : Nat) (h : k < l.length) : K.cat (l.take (k + 1)) = K.cat (l.take k) ++ K.b l[k] := by
  induction l generalizing k with
  | nil => exact absurd h (Nat.not_lt_zero _)
  | cons a l ih =>
    cases k with
    | zero =>
      show K.cat [a] = K.cat [] ++ K.b a
      apply L_inj
      show L (K.b a ++ ⟨#[]⟩) = L (⟨#[]⟩ ++ K.b a)
      rw [L_app, L_app]; simp [L]
    | succ k =>
      rw [List.length_cons] at h
      rw [List.take_succ_cons, List.take_succ_cons, cat, cat, ih k (by omega), ByteArray.append_assoc]
      rfl
theorem cat_le (n : Nat) : ∀ l : List α, (∀ x ∈ l, (K.b x).size ≤ n) → (K.cat l).size ≤ n * l.length
  | [], _ => Nat.zero_le _
  | x :: l, h => by
    have h1 := h x (by simp)
    have h2 := cat_le n l (fun y hy => h y (by simp [hy]))
    rw [cat, ByteArray.size_append, List.length_cons, Nat.mul_add, Nat.mul_one]; omega
theorem isL_next (s : ByteArray) : ∀ (k p : Nat), K.isL s (k + 1) p = (K.isL s k p).bind fun a => (K.is s a.2 false).bind fun e => some (a.1 ++ [e.1], e.2)
  | 0, p => by
    rw [isL, isL, Option.bind_some]
    cases K.is s p false with
    | none => rfl
    | some a => rfl
  | k + 1, p => by
    rw [isL]
    cases h : K.is s p false with
    | none => rw [isL, h]; rfl
    | some a =>
      rw [Option.bind_some, isL_next s k a.2, isL, h, Option.bind_some]
      cases K.isL s k a.2 with
      | none => rfl
      | some b =>
        simp only [Option.bind_some]
        cases K.is s b.2 false with
        | none => rfl
        | some c => rfl
theorem isL_none (s : ByteArray) (p k : Nat) (h : K.isL s k p = none) : ∀ d, K.isL s (k + d) p = none
  | 0 => h
  | d + 1 => by rw [← Nat.add_assoc, isL_next, isL_none s p k h d]; rfl
theorem l_there : ∀ (l : List α) (A Z : ByteArray), (∀ x ∈ l, K.ok x = true) → K.isL (A ++ (K.cat l ++ Z)) l.length A.size = some (l, A.size + (K.cat l).size)
  | [], A, Z, _ => rfl
  | o :: l, A, Z, h => by
    rw [List.length_cons, isL, cat]
    have h1 := K.there A (K.cat l ++ Z) o (h o (by simp))
    rw [show A ++ (K.b o ++ K.cat l ++ Z) = A ++ (K.b o ++ (K.cat l ++ Z)) by simp only [ByteArray.append_assoc], h1, Option.bind_some]
    have h2 := l_there l (A ++ K.b o) Z (fun y hy => h y (by simp [hy]))
    rw [ByteArray.append_assoc, ByteArray.size_append] at h2
    dsimp only
    rw [h2, Option.bind_some, ByteArray.size_append, Nat.add_assoc]
theorem l_bytes : ∀ (n : Nat) (s : ByteArray) (p : Nat) (l : List α) (q : Nat), K.isL s n p = some (l, q) → l.length = n ∧ (∀ x ∈ l, K.ok x = true) ∧ (L s).drop p = L (K.cat l) ++ (L s).drop q
  | 0, s, p, l, q, h => by
    injection h with h
    injection h with h1 h2
    subst h1 h2
    exact ⟨rfl, (fun e he => by cases he), rfl⟩
  | n + 1, s, p, l, q, h => by
    rw [isL] at h
    cases ha : K.is s p false with
    | none => rw [ha] at h; cases h
    | some a =>
      obtain ⟨e, qe⟩ := a
      rw [ha, Option.bind_some] at h
      dsimp only at h
      cases hb : K.isL s n qe with
      | none => rw [hb] at h; cases h
      | some b =>
        obtain ⟨r, qr⟩ := b
        rw [hb, Option.bind_some] at h
        injection h with h
        injection h with h1 h2
        subst h1 h2
        obtain ⟨g1, g2⟩ := K.back ha
        obtain ⟨g3, g4, g5⟩ := l_bytes n s qe r _ hb
        refine ⟨by rw [List.length_cons, g3], fun y hy => ?_, ?_⟩
        · rcases List.mem_cons.1 hy with rfl | hy
          · exact g1
          · exact g4 y hy
        · rw [g2, g5, cat, L_app, List.append_assoc]
/-- How many, and the things. -/
def part (l : List α) : ByteArray := bytesOf l.length ++ K.cat l
def isPart (most : Int) (s : ByteArray) (p : Nat) (bad : Bool) : Option (List α × Nat) := (isCount s p bad most).bind fun c => K.isL s c.1.toNat c.2
theorem part_there (most : Int) (hm : most ≤ 1000) (l : List α) (A Z : ByteArray) (hl : (l.length : Int) ≤ most) (h : ∀ x ∈ l, K.ok x = true) : K.isPart most (A ++ (K.part l ++ Z)) A.size false = some (l, A.size + (K.part l).size) := by
  have h1 := num_atR (A ++ (K.part l ++ Z)) A (K.cat l ++ Z) l.length A.size (by unfold part; simp only [ByteArray.append_assoc]) rfl (by unfold i64; omega)
  have h2 : isCount (A ++ (K.part l ++ Z)) A.size false most = some ((l.length : Int), A.size + (bytesOf l.length).size) := by
    unfold isCount; rw [h1]; dsimp only; rw [if_pos (by omega)]
  unfold isPart
  rw [h2, Option.bind_some]
  have h3 := K.l_there l (A ++ bytesOf l.length) Z h
  rw [ByteArray.append_assoc, ByteArray.size_append] at h3
  rw [show A ++ (K.part l ++ Z) = A ++ (bytesOf l.length ++ (K.cat l ++ Z)) by unfold part; simp only [ByteArray.append_assoc]]
  dsimp only
  rw [show ((l.length : Int)).toNat = l.length from rfl, h3]
  unfold part
  rw [ByteArray.size_append, Nat.add_assoc]
theorem part_bytes {most : Int} {s : ByteArray} {p : Nat} {bad : Bool} {l : List α} {q : Nat} (h : K.isPart most s p bad = some (l, q)) : (l.length : Int) ≤ most ∧ (∀ x ∈ l, K.ok x = true) ∧ (L s).drop p = L (K.part l) ++ (L s).drop q := by
  unfold isPart at h
  cases hc : isCount s p bad most with
  | none => rw [hc] at h; cases h
  | some c =>
    obtain ⟨c, qc⟩ := c
    rw [hc, Option.bind_some] at h
    dsimp only at h
    obtain ⟨g1, g2, g3⟩ := K.l_bytes _ _ _ _ _ h
    obtain ⟨h1, h2, h3⟩ := isCount_some hc
    have e : c = (l.length : Int) := by omega
    subst e
    refine ⟨h3, g2, ?_⟩
    rw [num_bytesR h1, g3, part, L_app, List.append_assoc]
end Kd
theorem Kd.cat_take_le {α : Type} (K : Kd α) (l : List α) : ∀ k, (K.cat (l.take k)).size ≤ (K.cat l).size := by
  induction l with
  | nil => intro k; simp
  | cons x l ih =>
    intro k
    cases k with
    | zero => exact Nat.zero_le _
    | succ k => rw [List.take_succ_cons, Kd.cat, Kd.cat, ByteArray.size_append, ByteArray.size_append]; have := ih k; omega
theorem Kd.item_le {α : Type} (K : Kd α) (l : List α) (k : Nat) (h : k < l.length) : (K.cat (l.take k)).size + (K.b l[k]).size ≤ (K.cat l).size := by
  have h1 := K.cat_take_le l (k + 1)
  rw [K.cat_next l k h, ByteArray.size_append] at h1
  exact h1
def tStepF (most : Int) (s : ByteArray) (p : Nat) (bad : Bool) (v : ByteArray) (q : Nat) (bad' : Bool) : Prop := (isText s p bad most = some (v, q) ∧ bad' = false) ∨ (isText s p bad most = none ∧ v = ⟨#[]⟩ ∧ bad' = true)
def cStepF (most : Int) (s : ByteArray) (p : Nat) (bad : Bool) (v : Nat) (q : Nat) (bad' : Bool) : Prop := (isCount s p bad most = some ((v : Int), q) ∧ bad' = false) ∨ (isCount s p bad most = none ∧ v = 0 ∧ bad' = true)
theorem isCount_badF (s : ByteArray) (p : Nat) (m : Int) : isCount s p true m = none := rfl
/-- A list that is read: there, or it went wrong. -/
def pStep {α : Type} (K : Kd α) (most : Int) (s : ByteArray) (p : Nat) (bad : Bool) (l : List α) (q : Nat) (bd : Bool) : Prop := (K.isPart most s p bad = some (l, q) ∧ bd = false) ∨ (K.isPart most s p bad = none ∧ bd = true)
/-- Behind some of n. -/
def pAt {α : Type} (K : Kd α) (most : Int) (s : ByteArray) (p : Nat) (bad : Bool) (n : Nat) (l : List α) (q : Nat) (bd : Bool) : Prop := (bd = false ∧ ∃ qc, isCount s p bad most = some ((n : Int), qc) ∧ K.isL s l.length qc = some (l, q)) ∨ (bd = true ∧ K.isPart most s p bad = none)
section
variable {α : Type} {K : Kd α} {most : Int} {s : ByteArray} {p : Nat} {bad : Bool} {n : Nat} {l : List α} {q : Nat} {bd : Bool}
theorem pAt.start (h : cStepF most s p bad n q bd) : pAt K most s p bad n [] q bd := by
  rcases h with ⟨h, rfl⟩ | ⟨h, _, rfl⟩
  · exact Or.inl ⟨rfl, q, h, rfl⟩
  · refine Or.inr ⟨rfl, ?_⟩
    unfold Kd.isPart; rw [h]; rfl
theorem pAt.next {x : α} {q' : Nat} {b' : Bool} (h : pAt K most s p bad n l q false) (hj : l.length < n) (hx : (K.is s q false = some (x, q') ∧ b' = false) ∨ (K.is s q false = none ∧ b' = true)) : pAt K most s p bad n (l ++ [x]) q' b' := by
  rcases h with ⟨_, qc, h1, h2⟩ | ⟨h, _⟩
  · rcases hx with ⟨hx, rfl⟩ | ⟨hx, rfl⟩
    · refine Or.inl ⟨rfl, qc, h1, ?_⟩
      rw [List.length_append, List.length_singleton, K.isL_next, h2, Option.bind_some, hx, Option.bind_some]
    · refine Or.inr ⟨rfl, ?_⟩
      have h4 : K.isL s (l.length + 1) qc = none := by rw [K.isL_next, h2, Option.bind_some, hx]; rfl
      have h5 := K.isL_none s qc (l.length + 1) h4 (n - (l.length + 1))
      rw [show l.length + 1 + (n - (l.length + 1)) = n by omega] at h5
      unfold Kd.isPart
      rw [h1, Option.bind_some]
      exact h5
  · cases h
theorem pAt.good (h : pAt K most s p bad n l q false) (hj : ¬ l.length < n) (hl : l.length ≤ n) : pStep K most s p bad l q false := by
  rcases h with ⟨_, qc, h1, h2⟩ | ⟨h, _⟩
  · obtain rfl : l.length = n := by omega
    refine Or.inl ⟨?_, rfl⟩
    unfold Kd.isPart
    rw [h1, Option.bind_some]
    exact h2
  · cases h
theorem pAt.ill (h : pAt K most s p bad n l q true) : pStep K most s p bad l q true := by
  rcases h with ⟨h, _⟩ | ⟨_, h⟩
  · cases h
  · exact Or.inr ⟨h, rfl⟩
end
end Go.Proofs.Ytfpgfclmmdihjaa

/- The plain mathematics of the sum: one step of a bit is linear and loses nothing; four steps are one look into the table; four bytes side by side that turn, turn the sum. -/
namespace Go.Proofs.Ytfpgfclmmdihjaa.Crc

def P : BitVec 32 := 0xedb88320#32
/-- One step of a bit. -/
def T (x : BitVec 32) : BitVec 32 := if x.getLsbD 0 then (x >>> 1) ^^^ P else x >>> 1
/-- n steps. -/
def Tn : Nat → BitVec 32 → BitVec 32
  | 0, x => x
  | n + 1, x => Tn n (T x)

theorem xor_four (a b c d : BitVec 32) : (a ^^^ b) ^^^ (c ^^^ d) = (a ^^^ c) ^^^ (b ^^^ d) := by
  rw [BitVec.xor_assoc, BitVec.xor_assoc, ← BitVec.xor_assoc b c d, BitVec.xor_comm b c, BitVec.xor_assoc]

theorem T_xor (x y : BitVec 32) : T (x ^^^ y) = T x ^^^ T y := by
  unfold T
  rw [BitVec.getLsbD_xor, BitVec.ushiftRight_xor_distrib]
  cases x.getLsbD 0 <;> cases y.getLsbD 0
  · simp
  · simp [BitVec.xor_assoc]
  · simp [BitVec.xor_assoc, BitVec.xor_comm P]
  · simp only [Bool.xor_self, if_true]
    rw [xor_four, BitVec.xor_self, BitVec.xor_zero]; rfl

theorem Tn_xor (n : Nat) : ∀ x y : BitVec 32, Tn n (x ^^^ y) = Tn n x ^^^ Tn n y := by
  induction n with
  | zero => intro x y; rfl
  | succ n ih => intro x y; simp only [Tn]; rw [T_xor, ih]

theorem Tn_add (m n : Nat) (x : BitVec 32) : Tn (m + n) x = Tn n (Tn m x) := by
  induction m generalizing x with
  | zero => simp [Tn]
  | succ m ih => rw [Nat.succ_add]; simp only [Tn]; exact ih _

theorem T_eq_zero {x : BitVec 32} (h : T x = 0#32) : x = 0#32 := by
  unfold T at h
  by_cases hb : x.getLsbD 0 = true
  · rw [if_pos hb] at h
    have h31 := congrArg (·.getLsbD 31) h
    simp [P, BitVec.getLsbD_ushiftRight] at h31
  · rw [if_neg hb] at h
    apply BitVec.eq_of_getLsbD_eq
    intro i hi
    rcases i with _ | i
    · simpa using hb
    · have := congrArg (·.getLsbD i) h
      simp [BitVec.getLsbD_ushiftRight] at this
      rw [Nat.add_comm] at this
      simpa using this

theorem Tn_eq_zero {n : Nat} : ∀ {x : BitVec 32}, Tn n x = 0#32 → x = 0#32 := by
  induction n with
  | zero => intro x h; exact h
  | succ n ih => intro x h; exact T_eq_zero (ih h)

theorem Tn_inj {n : Nat} {x y : BitVec 32} (h : Tn n x = Tn n y) : x = y := by
  have h2 : Tn n (x ^^^ y) = 0#32 := by rw [Tn_xor, h, BitVec.xor_self]
  exact BitVec.xor_eq_zero_iff.1 (Tn_eq_zero h2)

/-- Low bits that are nought go out without a trace. -/
theorem Tn_shift (n : Nat) (x : BitVec 32) (h : ∀ i, i < n → x.getLsbD i = false) : Tn n x = x >>> n := by
  induction n generalizing x with
  | zero => simp [Tn]
  | succ n ih =>
    simp only [Tn]
    have e : T x = x >>> 1 := by
      have h0 := h 0 (by omega)
      unfold T; rw [h0]; rfl
    rw [e, ih _ (fun i hi => by rw [BitVec.getLsbD_ushiftRight]; exact h _ (by omega))]
    rw [← BitVec.shiftRight_add, Nat.add_comm]

/-- The table. -/
def tab (k : Nat) : BitVec 32 := Tn 4 (BitVec.ofNat 32 k)

theorem split4 (x : BitVec 32) : x = ((x >>> 4) <<< 4) ^^^ BitVec.ofNat 32 (x.toNat % 16) := by
  apply BitVec.eq_of_getLsbD_eq
  intro i hi
  rw [BitVec.getLsbD_xor, BitVec.getLsbD_shiftLeft, BitVec.getLsbD_ushiftRight, BitVec.getLsbD_ofNat]
  have e : (x.toNat % 16).testBit i = (decide (i < 4) && x.getLsbD i) := by
    rw [show (16 : Nat) = 2 ^ 4 from rfl, Nat.testBit_mod_two_pow, BitVec.testBit_toNat]
  rw [e]
  by_cases h4 : i < 4
  · simp [h4, hi]
  · have : 4 + (i - 4) = i := by omega
    simp [h4, hi, this]

theorem Tn4 (x : BitVec 32) : Tn 4 x = (x >>> 4) ^^^ tab (x.toNat % 16) := by
  have h := congrArg (Tn 4) (split4 x)
  rw [Tn_xor, Tn_shift 4 ((x >>> 4) <<< 4) (fun i hi => by rw [BitVec.getLsbD_shiftLeft]; simp [hi])] at h
  rw [h]
  congr 1
  apply BitVec.eq_of_getLsbD_eq
  intro i hi
  rw [BitVec.getLsbD_ushiftRight, BitVec.getLsbD_shiftLeft, BitVec.getLsbD_ushiftRight]
  by_cases h4 : 4 + i < 32
  · have : 4 + i - 4 = i := by omega
    simp [h4, this]
  · simp [h4, BitVec.getLsbD_of_ge x (4 + i) (by omega)]

/-- One byte more. -/
def up (n : BitVec 32) (b : UInt8) : BitVec 32 := Tn 8 (n ^^^ BitVec.ofNat 32 b.toNat)
def run (n : BitVec 32) (l : List UInt8) : BitVec 32 := l.foldl up n
def sumOf (l : List UInt8) : BitVec 32 := ~~~ (run (BitVec.allOnes 32) l)

theorem run_nil (n : BitVec 32) : run n [] = n := rfl
theorem run_cons (n : BitVec 32) (b : UInt8) (l : List UInt8) : run n (b :: l) = run (up n b) l := rfl
theorem run_append (n : BitVec 32) (l r : List UInt8) : run n (l ++ r) = run (run n l) r := by unfold run; rw [List.foldl_append]
theorem run_snoc (n : BitVec 32) (l : List UInt8) (b : UInt8) : run n (l ++ [b]) = up (run n l) b := by rw [run_append]; rfl

theorem ofNat_xor_u8 (a b : UInt8) : BitVec.ofNat 32 (a ^^^ b).toNat = BitVec.ofNat 32 a.toNat ^^^ BitVec.ofNat 32 b.toNat := by
  apply BitVec.eq_of_getLsbD_eq
  intro i hi
  rw [BitVec.getLsbD_xor, BitVec.getLsbD_ofNat, BitVec.getLsbD_ofNat, BitVec.getLsbD_ofNat, UInt8.toNat_xor, Nat.testBit_xor]
  simp [hi]

theorem up_xor (x y : BitVec 32) (a b : UInt8) : up (x ^^^ y) (a ^^^ b) = up x a ^^^ up y b := by
  unfold up
  rw [← Tn_xor, ofNat_xor_u8, xor_four]

theorem run_zip : ∀ (A M : List UInt8) (x y : BitVec 32), A.length = M.length → run (x ^^^ y) (List.zipWith (· ^^^ ·) A M) = run x A ^^^ run y M
  | [], [], _, _, _ => rfl
  | [], _ :: _, _, _, h => by simp at h
  | _ :: _, [], _, _, h => by simp at h
  | a :: A, m :: M, x, y, h => by
    simp only [List.zipWith_cons_cons, run_cons]
    rw [up_xor]
    exact run_zip A M _ _ (by simpa using h)

theorem run_inj : ∀ (l : List UInt8) (x y : BitVec 32), run x l = run y l → x = y
  | [], _, _, h => h
  | b :: l, x, y, h => by
    have h2 := run_inj l _ _ h
    have h3 := Tn_inj h2
    have h4 : (x ^^^ BitVec.ofNat 32 b.toNat) ^^^ BitVec.ofNat 32 b.toNat = (y ^^^ BitVec.ofNat 32 b.toNat) ^^^ BitVec.ofNat 32 b.toNat := by rw [h3]
    rwa [BitVec.xor_assoc, BitVec.xor_assoc, BitVec.xor_self, BitVec.xor_zero, BitVec.xor_zero] at h4

/-- Masks as one number, the first the lowest. -/
def val : List UInt8 → Nat
  | [] => 0
  | m :: l => m.toNat + 256 * val l

theorem val_lt : ∀ l : List UInt8, val l < 256 ^ l.length
  | [] => by decide
  | m :: l => by
    have h := val_lt l
    have hm : m.toNat < 256 := m.toNat_lt
    simp only [val, List.length_cons, Nat.pow_succ]
    omega

theorem val_zero : ∀ {l : List UInt8}, val l = 0 → ∀ m ∈ l, m = 0
  | [], _, m, hm => by cases hm
  | a :: l, h, m, hm => by
    simp only [val] at h
    have h1 : a.toNat = 0 := by omega
    have h2 : val l = 0 := by omega
    rcases List.mem_cons.1 hm with rfl | hm
    · exact UInt8.toNat_inj.1 (by simpa using h1)
    · exact val_zero h2 m hm

theorem join8 (m v : Nat) (hm : m < 256) : BitVec.ofNat 32 m ^^^ BitVec.ofNat 32 (256 * v) = BitVec.ofNat 32 (m + 256 * v) := by
  apply BitVec.eq_of_getLsbD_eq
  intro i hi
  rw [BitVec.getLsbD_xor, BitVec.getLsbD_ofNat, BitVec.getLsbD_ofNat, BitVec.getLsbD_ofNat]
  have e : m + 256 * v = 2 ^ 8 * v + m := by omega
  have e2 : 256 * v = 2 ^ 8 * v := by omega
  rw [e, e2, Nat.testBit_two_pow_mul_add v (by simpa using hm) i, Nat.testBit_two_pow_mul]
  by_cases h8 : i < 8
  · simp [hi, h8, show ¬ 8 ≤ i from by omega]
  · have : m.testBit i = false := Nat.testBit_lt_two_pow (Nat.lt_of_lt_of_le (show m < 2 ^ 8 by simpa using hm) (Nat.pow_le_pow_right (by decide) (by omega)))
    simp [hi, h8, this, show 8 ≤ i from by omega]

theorem shift8 (v : Nat) (hv : v < 16777216) : Tn 8 (BitVec.ofNat 32 (256 * v)) = BitVec.ofNat 32 v := by
  rw [Tn_shift]
  · apply BitVec.eq_of_toNat_eq
    rw [BitVec.toNat_ushiftRight, BitVec.toNat_ofNat, BitVec.toNat_ofNat, Nat.shiftRight_eq_div_pow]
    omega
  · intro i hi
    rw [BitVec.getLsbD_ofNat, show 256 * v = 2 ^ 8 * v from by omega, Nat.testBit_two_pow_mul]
    simp [show ¬ 8 ≤ i from by omega]

theorem run_masks : ∀ (M : List UInt8) (x : BitVec 32), M.length ≤ 4 → run x M = Tn (8 * M.length) (x ^^^ BitVec.ofNat 32 (val M))
  | [], x, _ => by simp [run, Tn, val]
  | m :: l, x, h => by
    have hl : l.length ≤ 3 := by simpa using h
    have hv := val_lt l
    have hp : 256 ^ l.length ≤ 256 ^ 3 := Nat.pow_le_pow_right (by decide) hl
    have hv2 : val l < 16777216 := by omega
    rw [run_cons, run_masks l _ (by omega)]
    unfold up
    rw [← shift8 (val l) hv2, ← Tn_xor, BitVec.xor_assoc, join8 _ _ m.toNat_lt, ← Tn_add, List.length_cons, show 8 * (l.length + 1) = 8 + 8 * l.length from by omega]
    rfl

theorem run_masks_zero {M : List UInt8} (h : M.length ≤ 4) (h0 : run 0#32 M = 0#32) : ∀ m ∈ M, m = 0 := by
  rw [run_masks M _ h, BitVec.zero_xor] at h0
  have h1 := congrArg BitVec.toNat (Tn_eq_zero h0)
  have hv := val_lt M
  have hp : 256 ^ M.length ≤ 256 ^ 4 := Nat.pow_le_pow_right (by decide) h
  rw [BitVec.toNat_ofNat] at h1
  simp at h1
  exact val_zero (by omega)

/-- UP TO FOUR BYTES SIDE BY SIDE THAT TURN, TURN THE SUM. -/
theorem sum_turned (A B M C : List UInt8) (hl : B.length = M.length) (hM : M.length ≤ 4) (h : sumOf (A ++ (List.zipWith (· ^^^ ·) B M ++ C)) = sumOf (A ++ (B ++ C))) : ∀ m ∈ M, m = 0 := by
  unfold sumOf at h
  have h1 := congrArg (~~~ ·) h
  simp only [BitVec.not_not] at h1
  rw [run_append, run_append, run_append, run_append] at h1
  have h2 := run_inj _ _ _ h1
  have h3 := run_zip B M (run (BitVec.allOnes 32) A) 0#32 hl
  rw [BitVec.xor_zero, h2] at h3
  have h4 : run (run (BitVec.allOnes 32) A) B ^^^ (run (run (BitVec.allOnes 32) A) B ^^^ run 0#32 M) = 0#32 := by rw [← h3, BitVec.xor_self]
  rw [← BitVec.xor_assoc, BitVec.xor_self, BitVec.zero_xor] at h4
  exact run_masks_zero hM h4

theorem zip_zero : ∀ (B M : List UInt8), B.length = M.length → (∀ m ∈ M, m = 0) → List.zipWith (· ^^^ ·) B M = B
  | [], [], _, _ => rfl
  | [], _ :: _, h, _ => by simp at h
  | _ :: _, [], h, _ => by simp at h
  | b :: B, m :: M, h, hz => by
    have e : m = 0 := hz m (by simp)
    subst e
    rw [List.zipWith_cons_cons, zip_zero B M (by simpa using h) (fun x hx => hz x (by simp [hx]))]
    simp

end Go.Proofs.Ytfpgfclmmdihjaa.Crc

/- What Sum gives. -/
namespace Go.Proofs.Ytfpgfclmmdihjaa.Crk
open Go.RowKit Crc

theorem xorU (x y : BitVec 32) : bits .xor .u32 (x.toNat : Int) (y.toNat : Int) = ((x ^^^ y).toNat : Int) := by
  rw [u32_xor_nat _ _ x.isLt y.isLt, BitVec.toNat_xor]

theorem notU (x : BitVec 32) : bits .xor .u32 IntKind.u32.max (x.toNat : Int) = ((~~~x).toNat : Int) := by
  have h := xorU (BitVec.allOnes 32) x
  rw [BitVec.allOnes_xor] at h
  exact h

theorem byteU (b : UInt8) : (b.toNat : Int) % 4294967296 = ((BitVec.ofNat 32 b.toNat).toNat : Int) := by
  have := b.toNat_lt
  rw [BitVec.toNat_ofNat]; omega

/-- The table lies where it is read. -/
def Laid (w : World) : Prop := 0 < w.heap.size ∧ ∀ k : Nat, k < 16 → w.cell? ⟨0, k, none⟩ = some (.int .u32 (tab k).toNat)

/-- One look into the table. -/
theorem look (w : World) (hL : Laid w) (m : BitVec 32) : ∃ (i : Nat) (q t m' : BitVec 32), i < 16 ∧ bits .and .u32 (m.toNat : Int) 15 = (i : Int) ∧ (m.toNat : Int) / 16 = (q.toNat : Int) ∧
    w.cell? ⟨0, i, none⟩ = some (.int .u32 t.toNat) ∧ bits .xor .u32 (q.toNat : Int) (t.toNat : Int) = (m'.toNat : Int) ∧ m' = Tn 4 m := by
  refine ⟨m.toNat % 16, m >>> 4, tab (m.toNat % 16), _, by omega, ?_, ?_, hL.2 _ (by omega), xorU _ _, ?_⟩
  · have h := u32_and_nat m.toNat 15 m.isLt (by decide)
    rw [nat_mask4] at h
    exact h
  · rw [BitVec.toNat_ushiftRight, Nat.shiftRight_eq_div_pow]; omega
  · rw [Tn4]

theorem take_snoc (s : ByteArray) (k : Nat) (h : k < s.size) : s.data.toList.take (k + 1) = s.data.toList.take k ++ [s[k]] := by
  rw [List.take_succ_eq_append_getElem (by simpa using h)]; rfl

/-- The state behind k bytes. -/
def st (s : ByteArray) (k : Nat) : BitVec 32 := run (BitVec.allOnes 32) (s.data.toList.take k)
theorem st_succ (s : ByteArray) (k : Nat) (h : k < s.size) : st s (k + 1) = Tn 4 (Tn 4 (st s k ^^^ BitVec.ofNat 32 s[k].toNat)) := by
  unfold st; rw [take_snoc s k h, run_snoc, ← Tn_add]; rfl
theorem st_end (s : ByteArray) : ~~~ (st s s.size) = sumOf s.data.toList := by
  unfold st sumOf; rw [List.take_of_length_le (by simp)]

theorem ret_int {k : IntKind} {a b : Int} (h : a = b) : Ending.returned (.int k a) = .returned (.int k b) := by rw [h]
theorem val_of {k : IntKind} {x y : BitVec 32} (h : x = y) : Value.int k x.toNat = .int k y.toNat := by rw [h]

end Go.Proofs.Ytfpgfclmmdihjaa.Crk

/- What the document's Sum gives; number and Four, of both. -/
namespace Go.Proofs.Ytfpgfclmmdihjaa.Crk
open Go.RowKit Crc

theorem Tn_succ (j : Nat) (x : BitVec 32) : Tn (j + 1) x = T (Tn j x) := by rw [Tn_add]; rfl

/-- One step of a bit, as the document's answer goes. -/
theorem bit1 (m : BitVec 32) : (∃ q m' : BitVec 32, bits .and .u32 (m.toNat : Int) 1 = 1 ∧ (m.toNat : Int) / 2 = (q.toNat : Int) ∧ bits .xor .u32 (q.toNat : Int) 3988292384 = (m'.toNat : Int) ∧ m' = T m) ∨
    (∃ m' : BitVec 32, bits .and .u32 (m.toNat : Int) 1 = 0 ∧ (m.toNat : Int) / 2 = (m'.toNat : Int) ∧ m' = T m) := by
  have ha : bits .and .u32 (m.toNat : Int) 1 = ((m.toNat % 2 : Nat) : Int) := by
    have h := u32_and_nat m.toNat 1 m.isLt (by decide)
    rw [nat_mask1] at h
    exact h
  have hd : (m.toNat : Int) / 2 = ((m >>> 1).toNat : Int) := by
    rw [BitVec.toNat_ushiftRight, Nat.shiftRight_eq_div_pow]; omega
  have hb : m.getLsbD 0 = decide (m.toNat % 2 = 1) := by
    rw [← BitVec.testBit_toNat, Nat.testBit_zero]
  by_cases h : m.toNat % 2 = 1
  · refine Or.inl ⟨_, _, by rw [ha, h]; rfl, hd, xorU _ P, ?_⟩
    unfold T; rw [if_pos (by rw [hb]; simp [h])]
  · have h0 : m.toNat % 2 = 0 := by omega
    refine Or.inr ⟨_, by rw [ha, h0]; rfl, hd, ?_⟩
    unfold T; rw [if_neg (by rw [hb]; simp [h])]

end Go.Proofs.Ytfpgfclmmdihjaa.Crk

/- number and Four, of both. -/
namespace Go.Proofs.Ytfpgfclmmdihjaa.Crk
open Go.RowKit Crc

/-- The number of four bytes, the lowest first. -/
def num (s : ByteArray) : Nat := (s.data.toList.getD 0 0).toNat + 256 * (s.data.toList.getD 1 0).toNat + 65536 * (s.data.toList.getD 2 0).toNat + 16777216 * (s.data.toList.getD 3 0).toNat
theorem num_lt (s : ByteArray) : num s < 4294967296 := by
  unfold num
  have h0 := (s.data.toList.getD 0 0).toNat_lt
  have h1 := (s.data.toList.getD 1 0).toNat_lt
  have h2 := (s.data.toList.getD 2 0).toNat_lt
  have h3 := (s.data.toList.getD 3 0).toNat_lt
  omega
theorem getD_at (s : ByteArray) (i : Nat) (h : i < s.size) : s.data.toList.getD i 0 = s[i] := by
  have h2 : i < s.data.toList.length := by simpa using h
  rw [List.getD_eq_getElem?_getD, List.getElem?_eq_getElem h2]; rfl

theorem or_join (i : Nat) (x y : Nat) (hx : x < 2 ^ i) (hx2 : x < 4294967296) (hy : 2 ^ i * y < 4294967296) : bits .or .u32 (x : Int) ((2 ^ i * y : Nat) : Int) = ((x + 2 ^ i * y : Nat) : Int) := by
  rw [u32_or_nat _ _ hx2 hy, Nat.or_comm, ← Nat.two_pow_add_eq_or_of_lt hx y, Nat.add_comm]

theorem num_eqs (s : ByteArray) (hs : 4 ≤ s.size) : ∃ b0 b1 b2 b3 c1 c2 c3 o1 o2 : Nat,
    IntKind.u32.wrap (s[0].toNat : Int) = (b0 : Int) ∧ IntKind.u32.wrap (s[1].toNat : Int) = (b1 : Int) ∧ IntKind.u32.wrap (s[2].toNat : Int) = (b2 : Int) ∧ IntKind.u32.wrap (s[3].toNat : Int) = (b3 : Int) ∧
    IntKind.u32.wrap ((b1 : Int) * 256) = (c1 : Int) ∧ IntKind.u32.wrap ((b2 : Int) * 65536) = (c2 : Int) ∧ IntKind.u32.wrap ((b3 : Int) * 16777216) = (c3 : Int) ∧
    bits .or .u32 (b0 : Int) (c1 : Int) = (o1 : Int) ∧ bits .or .u32 (o1 : Int) (c2 : Int) = (o2 : Int) ∧ bits .or .u32 (o2 : Int) (c3 : Int) = (num s : Int) := by
  have h0 := s[0].toNat_lt
  have h1 := s[1].toNat_lt
  have h2 := s[2].toNat_lt
  have h3 := s[3].toNat_lt
  refine ⟨s[0].toNat, s[1].toNat, s[2].toNat, s[3].toNat, 2 ^ 8 * s[1].toNat, 2 ^ 16 * s[2].toNat, 2 ^ 24 * s[3].toNat, s[0].toNat + 2 ^ 8 * s[1].toNat, s[0].toNat + 2 ^ 8 * s[1].toNat + 2 ^ 16 * s[2].toNat, ?_, ?_, ?_, ?_, ?_, ?_, ?_, ?_, ?_, ?_⟩
  · exact IntWalk.u32_in _ (by omega)
  · exact IntWalk.u32_in _ (by omega)
  · exact IntWalk.u32_in _ (by omega)
  · exact IntWalk.u32_in _ (by omega)
  · rw [IntWalk.u32_in _ (by omega)]; simp; omega
  · rw [IntWalk.u32_in _ (by omega)]; simp; omega
  · rw [IntWalk.u32_in _ (by omega)]; simp; omega
  · exact or_join 8 _ _ (by omega) (by omega) (by omega)
  · exact or_join 16 _ _ (by omega) (by omega) (by omega)
  · rw [or_join 24 _ _ (by omega) (by omega) (by omega)]
    unfold num
    rw [getD_at s 0 (by omega), getD_at s 1 (by omega), getD_at s 2 (by omega), getD_at s 3 (by omega)]

/-- A number in four bytes. -/
def fourL (n : Nat) : List UInt8 := [UInt8.ofNat (n % 256), UInt8.ofNat (n / 256 % 256), UInt8.ofNat (n / 65536 % 256), UInt8.ofNat (n / 16777216)]
def four (n : Nat) : ByteArray := ⟨(fourL n).toArray⟩
theorem four_size (n : Nat) : (four n).size = 4 := rfl

theorem four_conv (b0 b1 b2 b3 : UInt8) (w : World) :
    (convert 90 9 (.slice (some ⟨w.heap.size, 0, none⟩) 4 4)).run Try.prog (w.alloc (.cells #[.int .u8 b0.toNat, .int .u8 b1.toNat, .int .u8 b2.toNat, .int .u8 b3.toNat] 5)) =
      .ok (.string ⟨#[b0, b1, b2, b3]⟩) (w.alloc (.cells #[.int .u8 b0.toNat, .int .u8 b1.toNat, .int .u8 b2.toNat, .int .u8 b3.toNat] 5)) := by
  refine run_convert_bytes_back (P := Try.prog) _ 90 9 5 ⟨w.heap.size, 0, none⟩ 4 [b0, b1, b2, b3] Try.underlying90 Try.underlying5 Try.underlying9 ?_
  intro j hj
  match j, hj with
  | 0, _ => simp [Addr.add]
  | 1, _ => simp [Addr.add]
  | 2, _ => simp [Addr.add]
  | 3, _ => simp [Addr.add]

theorem ofNat_val (n : Nat) (h : n < 256) : ((UInt8.ofNat n).toNat : Int) = n := by
  rw [UInt8.toNat_ofNat']; omega

theorem four_eqs (n : Nat) (hn : n < 4294967296) : ∃ b0 b1 b2 b3 : UInt8, (n : Int) % 256 = (b0.toNat : Int) ∧ (n : Int) / 256 % 256 = (b1.toNat : Int) ∧ (n : Int) / 65536 % 256 = (b2.toNat : Int) ∧ (n : Int) / 16777216 = (b3.toNat : Int) ∧ four n = ⟨#[b0, b1, b2, b3]⟩ := by
  refine ⟨UInt8.ofNat (n % 256), UInt8.ofNat (n / 256 % 256), UInt8.ofNat (n / 65536 % 256), UInt8.ofNat (n / 16777216), ?_, ?_, ?_, ?_, rfl⟩
  · rw [ofNat_val _ (by omega)]; omega
  · rw [ofNat_val _ (by omega)]; omega
  · rw [ofNat_val _ (by omega)]; omega
  · rw [ofNat_val _ (by omega)]; omega

end Go.Proofs.Ytfpgfclmmdihjaa.Crk

/- Seal and Open, of both. -/
namespace Go.Proofs.Ytfpgfclmmdihjaa.Crk
open Go.RowKit Crc

/-- What was there reads as it did. -/
theorem bcell {W w1 : World} (hb : Below W.heap.size W w1) : (∀ b o, b < W.heap.size → w1.cell? ⟨b, o, none⟩ = W.cell? ⟨b, o, none⟩) ∧ (∀ b o, b < W.heap.size → w1.frozen? ⟨b, o, none⟩ = W.frozen? ⟨b, o, none⟩) :=
  ⟨fun b o h => hb.cell (p := ⟨b, o, none⟩) h, fun b o h => hb.frozen (p := ⟨b, o, none⟩) h⟩
theorem below_then {w w1 w2 : World} (h : Below w.heap.size w w1) (k : Below w1.heap.size w1 w2) : Below w.heap.size w w2 := h.trans (k.mono h.size)
theorem below_alloc {w w1 : World} (h : Below w.heap.size w w1) (o : Obj) : Below w.heap.size w (w1.alloc o) := h.alloc h.size o
theorem laid_below {w w1 : World} (h : Laid w) (k : Below w.heap.size w w1) : Laid w1 :=
  ⟨Nat.lt_of_lt_of_le h.1 k.size, fun i hi => by rw [(bcell k).1 _ _ h.1]; exact h.2 i hi⟩
theorem laid_drewN {w : World} (h : Laid w) (n : Nat) : Laid (w.drewN n) := h

def sumB (s : ByteArray) : Nat := (sumOf s.data.toList).toNat
theorem sumB_lt (s : ByteArray) : sumB s < 4294967296 := (sumOf s.data.toList).isLt
def sealOf (s : ByteArray) : ByteArray := four s.size ++ four (sumB s) ++ s

theorem quiet_same {f : FuncId} {args : Array Value} {w : World} {n : Nat} {v : Value}
    (h : Calls Try.prog f args (w.drewN n) fun e w' => e = .returned v ∧ w.drewN n = w') : Calls Try.prog f args (w.drewN n) fun e w'' => e = .returned v ∧ ∃ m, w'' = w.drewN m :=
  h.mono fun _ _ ⟨he, hm⟩ => ⟨he, n, hm.symm⟩

end Go.Proofs.Ytfpgfclmmdihjaa.Crk

/- Open of the document's answer; Open of both in one word each. -/
namespace Go.Proofs.Ytfpgfclmmdihjaa.Crk
open Go.RowKit Crc

/-- What may be behind the head. -/
def bodyOf (s : ByteArray) : ByteArray := s.extract 8 (8 + num s)
/-- Does it begin with a Seal? -/
def isSeal (s : ByteArray) : Bool := decide (8 ≤ s.size ∧ num s + 8 ≤ s.size ∧ sumB (bodyOf s) = num (s.extract 4 s.size))
def opT (s : ByteArray) : ByteArray := if isSeal s then bodyOf s else ⟨#[]⟩
def opC (s : ByteArray) : Int := if isSeal s then 8 + (num s : Int) else -1

theorem size_ext (s : ByteArray) (i j : Nat) (h : i ≤ j) (h2 : j ≤ s.size) : (s.extract i j).size + i = j := by
  rw [ByteArray.size_extract]; omega

end Go.Proofs.Ytfpgfclmmdihjaa.Crk

/- What a Seal is, as lists of bytes: it is opened, whatever stands behind; what is opened was sealed just so; what is cut isn't open. -/
namespace Go.Proofs.Ytfpgfclmmdihjaa.Crk
open Go.RowKit Crc

abbrev L (s : ByteArray) : List UInt8 := s.data.toList
theorem L_inj {a b : ByteArray} (h : L a = L b) : a = b := by
  apply ByteArray.ext
  exact Array.toList_inj.1 h
theorem L_len (s : ByteArray) : (L s).length = s.size := Array.length_toList
theorem L_app (a b : ByteArray) : L (a ++ b) = L a ++ L b := by simp [L, ByteArray.data_append]
theorem L_ext (s : ByteArray) (i j : Nat) : L (s.extract i j) = ((L s).take j).drop i := by
  simp only [L, ByteArray.data_extract, Array.toList_extract]
  rw [List.extract_eq_take_drop, List.drop_take]

theorem L_four (n : Nat) : L (four n) = fourL n := rfl
theorem fourL_len (n : Nat) : (fourL n).length = 4 := rfl

/-- The number of the first four. -/
def numL (l : List UInt8) : Nat := (l.getD 0 0).toNat + 256 * (l.getD 1 0).toNat + 65536 * (l.getD 2 0).toNat + 16777216 * (l.getD 3 0).toNat
theorem num_L (s : ByteArray) : num s = numL (L s) := rfl

theorem u8_val (n : Nat) (h : n < 256) : (UInt8.ofNat n).toNat = n := by rw [UInt8.toNat_ofNat']; omega

theorem numL_four (n : Nat) (r : List UInt8) (h : n < 4294967296) : numL (fourL n ++ r) = n := by
  have h0 := u8_val (n % 256) (by omega)
  have h1 := u8_val (n / 256 % 256) (by omega)
  have h2 := u8_val (n / 65536 % 256) (by omega)
  have h3 := u8_val (n / 16777216) (by omega)
  have e : numL (fourL n ++ r) = (UInt8.ofNat (n % 256)).toNat + 256 * (UInt8.ofNat (n / 256 % 256)).toNat + 65536 * (UInt8.ofNat (n / 65536 % 256)).toNat + 16777216 * (UInt8.ofNat (n / 16777216)).toNat := rfl
  rw [e, h0, h1, h2, h3]
  omega

theorem fourL_num (l : List UInt8) (h : 4 ≤ l.length) : fourL (numL l) = l.take 4 := by
  match l, h with
  | a :: b :: c :: d :: r, _ =>
    have ha := a.toNat_lt
    have hb := b.toNat_lt
    have hc := c.toNat_lt
    have hd := d.toNat_lt
    have e : numL (a :: b :: c :: d :: r) = a.toNat + 256 * b.toNat + 65536 * c.toNat + 16777216 * d.toNat := rfl
    rw [e]
    have e0 : (a.toNat + 256 * b.toNat + 65536 * c.toNat + 16777216 * d.toNat) % 256 = a.toNat := by omega
    have e1 : (a.toNat + 256 * b.toNat + 65536 * c.toNat + 16777216 * d.toNat) / 256 % 256 = b.toNat := by omega
    have e2 : (a.toNat + 256 * b.toNat + 65536 * c.toNat + 16777216 * d.toNat) / 65536 % 256 = c.toNat := by omega
    have e3 : (a.toNat + 256 * b.toNat + 65536 * c.toNat + 16777216 * d.toNat) / 16777216 = d.toNat := by omega
    unfold fourL
    rw [e0, e1, e2, e3]
    simp

/-- A Seal's bytes. -/
theorem L_seal (s : ByteArray) : L (sealOf s) = fourL s.size ++ (fourL (sumB s) ++ L s) := by
  unfold sealOf
  rw [L_app, L_app, L_four, L_four, List.append_assoc]
theorem seal_size (s : ByteArray) : (sealOf s).size = 8 + s.size := by
  rw [← L_len, L_seal, List.length_append, List.length_append, fourL_len, fourL_len, L_len]; omega

/-- Whatever begins with those eight bytes. -/
theorem head_facts (t : ByteArray) (n m : Nat) (r : List UInt8) (hn : n < 4294967296) (hm : m < 4294967296) (h : L t = fourL n ++ (fourL m ++ r)) :
    t.size = 8 + r.length ∧ num t = n ∧ num (t.extract 4 t.size) = m ∧ L (bodyOf t) = r.take n := by
  have hs : t.size = 8 + r.length := by rw [← L_len, h, List.length_append, List.length_append, fourL_len, fourL_len]; omega
  have h1 : num t = n := by rw [num_L, h, numL_four n _ hn]
  refine ⟨hs, h1, ?_, ?_⟩
  · rw [num_L, L_ext, ← L_len, List.take_length, h, List.drop_left' (fourL_len n), numL_four m _ hm]
  · unfold bodyOf
    rw [h1, L_ext, h, ← List.append_assoc, show 8 + n = (fourL n ++ fourL m).length + n from rfl, List.take_length_add_append]
    exact List.drop_left' rfl

theorem sumB_L {a b : ByteArray} (h : L a = L b) : sumB a = sumB b := by rw [L_inj h]

/-- WHAT WAS SEALED IS OPENED, whatever stands behind. -/
theorem seal_opens (s b : ByteArray) (hs : s.size < 4294967296) : opT (sealOf s ++ b) = s ∧ opC (sealOf s ++ b) = 8 + (s.size : Int) := by
  have hL : L (sealOf s ++ b) = fourL s.size ++ (fourL (sumB s) ++ (L s ++ L b)) := by
    rw [L_app, L_seal, List.append_assoc, List.append_assoc]
  obtain ⟨h1, h2, h3, h4⟩ := head_facts _ _ _ _ hs (sumB_lt s) hL
  have h5 : bodyOf (sealOf s ++ b) = s := L_inj (by rw [h4, ← L_len]; exact List.take_left' rfl)
  have hg : isSeal (sealOf s ++ b) = true := by
    refine decide_eq_true ⟨by omega, ?_, ?_⟩
    · rw [h2, h1, List.length_append, L_len, L_len]; omega
    · rw [h5, h3]
  rw [opT, opC, if_pos hg, if_pos hg, h5, h2]
  exact ⟨rfl, rfl⟩

theorem seal_opens' (s : ByteArray) (hs : s.size < 4294967296) : opT (sealOf s) = s ∧ opC (sealOf s) = 8 + (s.size : Int) := by
  have h := seal_opens s ⟨#[]⟩ hs
  rwa [show sealOf s ++ ⟨#[]⟩ = sealOf s from L_inj (by rw [L_app]; exact List.append_nil _)] at h

/-- WHAT IS OPENED WAS SEALED JUST SO. -/
theorem opened_was (t : ByteArray) (h : isSeal t = true) : sealOf (opT t) = t.extract 0 (8 + num t) ∧ num t + 8 ≤ t.size := by
  obtain ⟨h8, hn, hx⟩ := of_decide_eq_true h
  refine ⟨L_inj ?_, hn⟩
  rw [opT, if_pos h, L_seal, hx]
  have hb : (bodyOf t).size = num t := by unfold bodyOf; rw [ByteArray.size_extract]; omega
  have hl : 8 ≤ (L t).length := by rw [L_len]; exact h8
  rw [hb, num_L t, fourL_num _ (by omega), num_L (t.extract 4 t.size), L_ext, ← L_len, List.take_length, fourL_num _ (by rw [List.length_drop]; omega)]
  unfold bodyOf
  rw [L_ext, L_ext, List.drop_zero, ← num_L]
  rw [← List.append_assoc]
  have e : (L t).take 4 ++ ((L t).drop 4).take 4 = (L t).take 8 := by rw [← List.take_add]
  rw [e, List.drop_take]
  rw [← List.take_add, Nat.add_sub_cancel_left]

/-- WHAT IS CUT ISN'T OPEN. -/
theorem cut_shut (s : ByteArray) (k : Nat) (hs : s.size < 4294967296) (hk : k < 8 + s.size) : opC ((sealOf s).extract 0 k) = -1 := by
  have hsz : ((sealOf s).extract 0 k).size = k := by rw [ByteArray.size_extract, seal_size]; omega
  have hg : ¬ isSeal ((sealOf s).extract 0 k) = true := by
    intro h
    obtain ⟨h8, hn, _⟩ := of_decide_eq_true h
    rw [hsz] at h8 hn
    have e : num ((sealOf s).extract 0 k) = s.size := by
      rw [num_L, L_ext, List.drop_zero, L_seal]
      have e2 : (fourL s.size ++ (fourL (sumB s) ++ L s)).take k = fourL s.size ++ (fourL (sumB s) ++ L s).take (k - 4) := by
        rw [List.take_append, List.take_of_length_le (by rw [fourL_len]; omega), fourL_len]
      rw [e2, numL_four _ _ hs]
    omega
  rw [opC, if_neg hg]

end Go.Proofs.Ytfpgfclmmdihjaa.Crk
