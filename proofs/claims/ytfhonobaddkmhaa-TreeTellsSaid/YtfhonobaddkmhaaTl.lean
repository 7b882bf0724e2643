/- How a place, and a list of places, is read. -/
import Derived.Test.YtfhonobaddkmhaaTe
import Derived.Test.YtfhonobaddkmhaaTh
namespace Go.Proofs.Ytfhonobaddkmhaa
open Go.RowKit Tre Nam Cod

def numStep (s : ByteArray) (p : Nat) (bad : Bool) (v : Int) (q : Nat) (bad' : Bool) : Prop := (isNum s p bad = some (v, q) ∧ bad' = false) ∨ (isNum s p bad = none ∧ v = 0 ∧ bad' = true)
def textStep (s : ByteArray) (p : Nat) (bad : Bool) (v : ByteArray) (q : Nat) (bad' : Bool) : Prop := (isText s p bad 16 = some (v, q) ∧ bad' = false) ∨ (isText s p bad 16 = none ∧ v = ⟨#[]⟩ ∧ bad' = true)
theorem isNum_bad (s : ByteArray) (p : Nat) : isNum s p true = none := rfl
theorem isText_bad (s : ByteArray) (p : Nat) (m : Int) : isText s p true m = none := by
  rcases h : isText s p true m with _ | ⟨t, e⟩
  · rfl
  · obtain ⟨n, q, h1, _⟩ := isText_some h
    have := (isCount_some h1).1
    rw [isNum_bad] at this; cases this
theorem numStep.good {s : ByteArray} {p : Nat} {bad : Bool} {v : Int} {q : Nat} (h : numStep s p bad v q false) : bad = false ∧ isNum s p false = some (v, q) := by
  rcases h with ⟨h, _⟩ | ⟨_, _, h⟩
  · cases bad
    · exact ⟨rfl, h⟩
    · rw [isNum_bad] at h; cases h
  · cases h
theorem numStep.ill {s : ByteArray} {p : Nat} {bad : Bool} {v : Int} {q : Nat} (h : numStep s p bad v q true) : isNum s p bad = none := by
  rcases h with ⟨_, h⟩ | ⟨h, _⟩
  · cases h
  · exact h
theorem numStep.back {s : ByteArray} {p : Nat} {bad : Bool} {v : Int} {q : Nat} (h : numStep s p bad v q false) : isNum s p bad = some (v, q) := by
  rcases h with ⟨h, _⟩ | ⟨_, _, h⟩
  · exact h
  · cases h
theorem textStep.good {s : ByteArray} {p : Nat} {bad : Bool} {v : ByteArray} {q : Nat} (h : textStep s p bad v q false) : bad = false ∧ isText s p false 16 = some (v, q) := by
  rcases h with ⟨h, _⟩ | ⟨_, _, h⟩
  · cases bad
    · exact ⟨rfl, h⟩
    · rw [isText_bad] at h; cases h
  · cases h
theorem textStep.ill {s : ByteArray} {p : Nat} {bad : Bool} {v : ByteArray} {q : Nat} (h : textStep s p bad v q true) : isText s p bad 16 = none := by
  rcases h with ⟨_, h⟩ | ⟨h, _⟩
  · cases h
  · exact h

theorem num_uni {w : World} {b p : Nat} {s : ByteArray} {bad : Bool} (hs : s.size ≤ 1000000) (hp : p ≤ s.size) (hr : Rd 39 w b s p bad) :
    Calls Try.prog 49 #[.pointer (some ⟨b, 0, none⟩)] w fun e w' => ∃ v q bad', e = .returned (.int .i64 v) ∧ Rd 39 w' b s q bad' ∧ q ≤ s.size ∧ w.grownBy w' (some b) ∧ numStep s p bad v q bad' := by
  rcases h : isNum s p bad with _ | ⟨v, q⟩
  · exact (rnum_no hs hp hr h).mono fun e w' ⟨he, ⟨q, hq, hr'⟩, hg⟩ => ⟨0, q, true, he, hr', hq, hg, Or.inr ⟨h, rfl, rfl⟩⟩
  · exact (rnum_yes hs hp hr h).mono fun e w' ⟨he, hr', hg⟩ => ⟨v, q, false, he, hr', (isNum_some h).2.2.1, hg, Or.inl ⟨h, rfl⟩⟩
theorem text_uni {w : World} {b p : Nat} {s : ByteArray} {bad : Bool} (hs : s.size ≤ 1000000) (hp : p ≤ s.size) (hr : Rd 39 w b s p bad) :
    Calls Try.prog 50 #[.pointer (some ⟨b, 0, none⟩), .int .i64 16] w fun e w' => ∃ v q bad', e = .returned (.string v) ∧ Rd 39 w' b s q bad' ∧ q ≤ s.size ∧ v.size ≤ 1000000 ∧ w.grownBy w' (some b) ∧ textStep s p bad v q bad' := by
  rcases h : isText s p bad 16 with _ | ⟨v, q⟩
  · exact (rtext_no hs hp hr h).mono fun e w' ⟨he, ⟨q, hq, hr'⟩, hg⟩ => ⟨⟨#[]⟩, q, true, he, hr', hq, by decide, hg, Or.inr ⟨h, rfl, rfl⟩⟩
  · obtain ⟨n, q0, h1, h2, rfl, rfl⟩ := isText_some h
    exact (rtext_yes hs hp hr h).mono fun e w' ⟨he, hr', hg⟩ => ⟨_, _, false, he, hr', by omega, by rw [ByteArray.size_extract]; omega, hg, Or.inl ⟨h, rfl⟩⟩

theorem refNum_uni {w : World} {b p : Nat} {s : ByteArray} {bad : Bool} (hs : s.size ≤ 1000000) (hp : p ≤ s.size) (hr : Rd 66 w b s p bad) :
    Calls Try.prog 52 #[.pointer (some ⟨b, 0, none⟩)] w fun e w' => ∃ v q bad', e = .returned (.int .i64 v) ∧ Rd 66 w' b s q bad' ∧ q ≤ s.size ∧ w.grownBy w' (some b) ∧ numStep s p bad v q bad' := by
  rcases h : isNum s p bad with _ | ⟨v, q⟩
  · exact (refRnum_no hs hp hr h).mono fun e w' ⟨he, ⟨q, hq, hr'⟩, hg⟩ => ⟨0, q, true, he, hr', hq, hg, Or.inr ⟨h, rfl, rfl⟩⟩
  · exact (refRnum_yes hs hp hr h).mono fun e w' ⟨he, hr', hg⟩ => ⟨v, q, false, he, hr', (isNum_some h).2.2.1, hg, Or.inl ⟨h, rfl⟩⟩
theorem refText_uni {w : World} {b p : Nat} {s : ByteArray} {bad : Bool} (hs : s.size ≤ 1000000) (hp : p ≤ s.size) (hr : Rd 66 w b s p bad) :
    Calls Try.prog 53 #[.pointer (some ⟨b, 0, none⟩), .int .i64 16] w fun e w' => ∃ v q bad', e = .returned (.string v) ∧ Rd 66 w' b s q bad' ∧ q ≤ s.size ∧ v.size ≤ 1000000 ∧ w.grownBy w' (some b) ∧ textStep s p bad v q bad' := by
  rcases h : isText s p bad 16 with _ | ⟨v, q⟩
  · exact (refRtext_no hs hp hr h).mono fun e w' ⟨he, ⟨q, hq, hr'⟩, hg⟩ => ⟨⟨#[]⟩, q, true, he, hr', hq, by decide, hg, Or.inr ⟨h, rfl, rfl⟩⟩
  · obtain ⟨n, q0, h1, h2, rfl, rfl⟩ := isText_some h
    exact (refRtext_yes hs hp hr h).mono fun e w' ⟨he, hr', hg⟩ => ⟨_, _, false, he, hr', by omega, by rw [ByteArray.size_extract]; omega, hg, Or.inl ⟨h, rfl⟩⟩


/-- A place read: what it is, where it stands behind it, and whether it went wrong. -/
def plStep (s : ByteArray) (p : Nat) (bad : Bool) (v : Pl) (q : Nat) (bad' : Bool) : Prop := (isPlace s p bad = some (v, q) ∧ bad' = false) ∨ (isPlace s p bad = none ∧ bad' = true)
theorem plStep_of {s : ByteArray} {p q1 q2 q3 : Nat} {bad b1 b2 b3 : Bool} {n u : Int} {t : ByteArray} (h1 : numStep s p bad n q1 b1) (h2 : numStep s q1 b1 u q2 b2) (h3 : textStep s q2 b2 t q3 b3) : plStep s p bad ⟨n, u, t⟩ q3 b3 := by
  cases b3
  · left
    obtain ⟨e2, g3⟩ := h3.good
    subst e2
    obtain ⟨e1, g2⟩ := h2.good
    subst e1
    have g1 := h1.back
    unfold isPlace
    simp only [g1, g2, g3, Option.bind_some]
    exact ⟨trivial, trivial⟩
  · right
    refine ⟨?_, rfl⟩
    unfold isPlace
    cases b1
    · have h1 := h1.back
      cases b2
      · have h2 := h2.back
        have h3 := h3.ill
        simp only [h1, h2, h3, Option.bind_some, Option.bind_none]
      · have h2 := h2.ill
        simp only [h1, h2, Option.bind_some, Option.bind_none]
    · have h1 := h1.ill
      simp only [h1, Option.bind_none]
theorem isPlace_bad (s : ByteArray) (p : Nat) : isPlace s p true = none := rfl

/-- So many places read, from p on. -/
def plsStep (s : ByteArray) (p k : Nat) (l : List Pl) (q : Nat) (bad : Bool) : Prop := (isPlaces s k p = some (l, q) ∧ bad = false) ∨ (isPlaces s k p = none ∧ bad = true)
theorem plsStep.zero (s : ByteArray) (p : Nat) : plsStep s p 0 [] p false := Or.inl ⟨rfl, rfl⟩
theorem plsStep.next {s : ByteArray} {p k q q' : Nat} {l : List Pl} {v : Pl} {bad bad' : Bool} (h : plsStep s p k l q bad) (h1 : plStep s q bad v q' bad') : plsStep s p (k + 1) (l ++ [v]) q' bad' := by
  rcases h with ⟨h, rfl⟩ | ⟨h, rfl⟩
  · rcases h1 with ⟨h1, rfl⟩ | ⟨h1, rfl⟩
    · left; refine ⟨?_, rfl⟩; unfold isPlaces; simp only [h, h1, Option.bind_some]
    · right; refine ⟨?_, rfl⟩; unfold isPlaces; simp only [h, h1, Option.bind_some, Option.bind_none]
  · rcases h1 with ⟨h1, _⟩ | ⟨_, rfl⟩
    · rw [isPlace_bad] at h1; cases h1
    · right; refine ⟨?_, rfl⟩; unfold isPlaces; simp only [h, Option.bind_none]
theorem isPlaces_none (s : ByteArray) (p k : Nat) (h : isPlaces s k p = none) : ∀ n, k ≤ n → isPlaces s n p = none
  | 0, hk => by obtain rfl : k = 0 := by omega
                exact h
  | n + 1, hk => by
    by_cases e : k = n + 1
    · subst e; exact h
    · unfold isPlaces; rw [isPlaces_none s p k h n (by omega)]; rfl

section
variable {w a : World} {b : Nat} {p : Pl} {s : ByteArray}
theorem PlIn.putN (h : PlIn w b p) (x : Int) : PlIn (w.setCell ⟨b, 0, none⟩ (.int .i64 x)) b ⟨x, p.u, p.s⟩ := by
  unfold PlIn at h ⊢
  simp [World.setCell, Array.getElem?_modify, h]
theorem PlIn.putU (h : PlIn w b p) (x : Int) : PlIn (w.setCell ⟨b, 1, none⟩ (.int .i64 x)) b ⟨p.n, x, p.s⟩ := by
  unfold PlIn at h ⊢
  simp [World.setCell, Array.getElem?_modify, h]
theorem PlIn.putS (h : PlIn w b p) (x : ByteArray) : PlIn (w.setCell ⟨b, 2, none⟩ (.string x)) b ⟨p.n, p.u, x⟩ := by
  unfold PlIn at h ⊢
  simp [World.setCell, Array.getElem?_modify, h]
theorem PlIn.other (h : PlIn w b p) (n i : Nat) (v : Value) (hne : b ≠ n) : PlIn (w.setCell ⟨n, i, none⟩ v) b p :=
  (Below.heap_setCell w ⟨n, i, none⟩ v b hne).trans h
theorem Rd.other {T : TypeId} {q : Nat} {bad : Bool} (h : Rd T w b s q bad) (n i : Nat) (v : Value) (hne : b ≠ n) : Rd T (w.setCell ⟨n, i, none⟩ v) b s q bad :=
  (Below.heap_setCell w ⟨n, i, none⟩ v b hne).trans h
theorem by_setNew (h : a.grownBy w (some b)) (n i : Nat) (v : Value) (hn : a.heap.size ≤ n) : a.grownBy (w.setCell ⟨n, i, none⟩ v) (some b) :=
  ⟨h.os, h.tape, h.output, by simpa [World.setCell] using h.size, fun k hk hne => (Below.heap_setCell w ⟨n, i, none⟩ v k (by intro e; have e : k = n := e; omega)).trans (h.block k hk hne)⟩
theorem by_setRow (h : a.grownBy w (some b)) (n : Nat) (cs : Array Value) (hn : a.heap.size ≤ n) : a.grownBy (w.setRow n cs) (some b) :=
  ⟨h.os, h.tape, h.output, by simpa [World.setRow] using h.size, fun k hk hne => (setRow_other w n k cs (by omega)).trans (h.block k hk hne)⟩
theorem Rd.row {T : TypeId} {q : Nat} {bad : Bool} (h : Rd T w b s q bad) (n : Nat) (cs : Array Value) (hne : b ≠ n) : Rd T (w.setRow n cs) b s q bad := (setRow_other w n b cs hne).trans h
theorem by_own {w' : World} {row : Option Nat} (h : a.grownBy w (some b)) (g : w.grownBy w' row) (hrow : ∀ k, row = some k → a.heap.size ≤ k) : a.grownBy w' (some b) :=
  ⟨g.os.trans h.os, g.tape.trans h.tape, g.output.trans h.output, Nat.le_trans h.size g.size, fun k hk hne =>
    (g.block k (Nat.lt_of_lt_of_le hk h.size) (fun e => by have := hrow k e.symm; omega)).trans (h.block k hk hne)⟩
end

set_option maxRecDepth 100000 in
set_option maxHeartbeats 4000000 in
theorem readPlace_uni {w : World} {b p : Nat} {s : ByteArray} {bad : Bool} (hs : s.size ≤ 1000000) (hp : p ≤ s.size) (hr : Rd 39 w b s p bad) :
    Calls Try.prog 41 #[.pointer (some ⟨b, 0, none⟩)] w fun e w' => ∃ (v : Pl) (q : Nat) (bad' : Bool), e = .returned (.agg #[.int .i64 v.n, .int .i64 v.u, .string v.s]) ∧ Rd 39 w' b s q bad' ∧ q ≤ s.size ∧ v.s.size ≤ 1000000 ∧ w.grownBy w' (some b) ∧ plStep s p bad v q bad' := by
  have hbw := hr.lt
  go_enter Try.func41, Try.ntmps41
  go_wp2_with fail
  have hO := PlIn.new (w.alloc (.cells #[.int .i64 0, .int .i64 0, .string ⟨#[]⟩] 24)) zero
  rw [alloc_size] at hO
  have hZ := (PlIn.new w zero).alloc (.cells #[.int .i64 0, .int .i64 0, .string ⟨#[]⟩] 24)
  have hB := below_alloc (below_alloc (Below.refl w.heap.size w) (.cells #[.int .i64 0, .int .i64 0, .string ⟨#[]⟩] 24)) (.cells #[.int .i64 0, .int .i64 0, .string ⟨#[]⟩] 24)
  have hR := hr.below hB
  have hG := by_below hB (some b)
  have hO : PlIn ((w.alloc (.cells #[.int .i64 0, .int .i64 0, .string ⟨#[]⟩] 24)).alloc (.cells #[.int .i64 0, .int .i64 0, .string ⟨#[]⟩] 24)) (w.heap.size + 1) zero := hO
  have hZ : PlIn ((w.alloc (.cells #[.int .i64 0, .int .i64 0, .string ⟨#[]⟩] 24)).alloc (.cells #[.int .i64 0, .int .i64 0, .string ⟨#[]⟩] 24)) w.heap.size zero := hZ
  generalize (w.alloc (.cells #[.int .i64 0, .int .i64 0, .string ⟨#[]⟩] 24)).alloc (.cells #[.int .i64 0, .int .i64 0, .string ⟨#[]⟩] 24) = W0 at *
  obtain ⟨n2, h2⟩ : ∃ n, w.heap.size = n := ⟨_, rfl⟩
  obtain ⟨n3, h3⟩ : ∃ n, w.heap.size + 1 = n := ⟨_, rfl⟩
  have hn2 : w.heap.size ≤ n2 := by omega
  have hn3 : w.heap.size ≤ n3 := by omega
  have e2 : b ≠ n2 := by omega
  have e3 : b ≠ n3 := by omega
  have e4 : n2 ≠ n3 := by omega
  have i2 : some n2 ≠ some b := fun e => e2 (Option.some.inj e).symm
  have i3 : some n3 ≠ some b := fun e => e3 (Option.some.inj e).symm
  rw [h3] at hO ⊢
  rw [h2] at hZ ⊢
  clear h2 h3 hB hr
  refine (num_uni hs hp hR).mono ?_
  clear hR
  rintro e w1 ⟨v1, q1, b1, rfl, hR, q1s, hg, st1⟩
  replace hO := hO.keep hg i3
  replace hZ := hZ.keep hg i2
  replace hG := by_trans hG hg
  clear hg
  have kc := hO.cells
  obtain ⟨k0, k1, k2⟩ := kc
  have kf := hO.frozen
  clear k1 k2
  go_wp2_with fail
  clear k0 kf
  replace hO := hO.putN v1
  replace hZ := hZ.other n3 0 (.int .i64 v1) e4
  replace hR := hR.other n3 0 (.int .i64 v1) e3
  replace hG := by_setNew hG n3 0 (.int .i64 v1) hn3
  generalize w1.setCell ⟨n3, 0, none⟩ (.int .i64 v1) = W1 at *
  refine (num_uni hs q1s hR).mono ?_
  clear hR
  rintro e w2 ⟨v2, q2, b2, rfl, hR, q2s, hg, st2⟩
  replace hO := hO.keep hg i3
  replace hZ := hZ.keep hg i2
  replace hG := by_trans hG hg
  clear hg
  have kc := hO.cells
  obtain ⟨k0, k1, k2⟩ := kc
  have kf := hO.frozen
  clear k0 k2
  go_wp2_with fail
  clear k1 kf
  replace hO := hO.putU v2
  replace hZ := hZ.other n3 1 (.int .i64 v2) e4
  replace hR := hR.other n3 1 (.int .i64 v2) e3
  replace hG := by_setNew hG n3 1 (.int .i64 v2) hn3
  generalize w2.setCell ⟨n3, 1, none⟩ (.int .i64 v2) = W2 at *
  refine (text_uni hs q2s hR).mono ?_
  clear hR
  rintro e w3 ⟨v3, q3, b3, rfl, hR, q3s, hv, hg, st3⟩
  replace hO := hO.keep hg i3
  replace hZ := hZ.keep hg i2
  replace hG := by_trans hG hg
  clear hg
  have kc := hO.cells
  obtain ⟨k0, k1, k2⟩ := kc
  have kf := hO.frozen
  clear k0 k1
  have hst := plStep_of st1 st2 st3
  clear st1 st2 st3
  have hO7 := hO.putS v3
  have hZ7 := hZ.other n3 2 (.string v3) e4
  have hR7 := hR.other n3 2 (.string v3) e3
  have hG7 := by_setNew hG n3 2 (.string v3) hn3
  have HST := Lib.hid hst
  clear hst hO hZ hR hG
  go_wp2_with (first | (refine store_pl rfl _ _ rfl _ ⟨v1, v2, v3⟩ rfl rfl zero hZ7 ?_) | (refine load_pl rfl _ rfl _ rfl ⟨v1, v2, v3⟩ hO7 ?_))
  refine ret_pl1 (hZ7.set ⟨v1, v2, v3⟩) rfl rfl rfl ?_
  exact ⟨⟨v1, v2, v3⟩, q3, b3, rfl, hR7.row n2 _ e2, q3s, hv, by_setRow hG7 n2 _ hn2, HST.out⟩
end Go.Proofs.Ytfhonobaddkmhaa
