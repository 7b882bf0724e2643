/- What Read gives, of the program and of the document: layer op. -/
import Derived.Test.YtkocehjomjaidaaOa
import Derived.Test.YtkocehjomjaidaaOd
import Derived.Test.YtkocehjomjaidaaCh
namespace Go.Proofs.Ytkocehjomjaidaa
open Go.RowKit Nam Cod

structure Mv where
  C : Int
  D : Int
  I : Int
  M : Int
  K : Int
  U : Int
  s : ByteArray
def zeroMv : Mv := ⟨0, 0, 0, 0, 0, 0, ⟨#[]⟩⟩
def isOp (s : ByteArray) (p : Nat) (bad : Bool) : Option (Mv × Nat) :=
  (isNum s p bad).bind fun a => (isNum s a.2 false).bind fun b => (isNum s b.2 false).bind fun c => (isNum s c.2 false).bind fun d => (isNum s d.2 false).bind fun e => (isNum s e.2 false).bind fun f => (isText s f.2 false 16).bind fun g =>
    if opB a.1 b.1 c.1 d.1 e.1 f.1 g.1 = true then some (⟨a.1, b.1, c.1, d.1, e.1, f.1, g.1⟩, g.2) else none
def numStep (s : ByteArray) (p : Nat) (bad : Bool) (v : Int) (q : Nat) (bad' : Bool) : Prop := (isNum s p bad = some (v, q) ∧ bad' = false) ∨ (isNum s p bad = none ∧ v = 0 ∧ bad' = true)
def textStep (s : ByteArray) (p : Nat) (bad : Bool) (v : ByteArray) (q : Nat) (bad' : Bool) : Prop := (isText s p bad 16 = some (v, q) ∧ bad' = false) ∨ (isText s p bad 16 = none ∧ v = ⟨#[]⟩ ∧ bad' = true)
def opStep (s : ByteArray) (p : Nat) (bad : Bool) (o : Mv) (q : Nat) (bad' : Bool) : Prop := (isOp s p bad = some (o, q) ∧ bad' = false) ∨ (isOp s p bad = none ∧ o = zeroMv ∧ bad' = true)

theorem isNum_bad (s : ByteArray) (p : Nat) : isNum s p true = none := rfl
theorem isText_bad (s : ByteArray) (p : Nat) (m : Int) : isText s p true m = none := by
  rcases h : isText s p true m with _ | ⟨t, e⟩
  · rfl
  · obtain ⟨n, q, h1, _⟩ := isText_some h
    have := (isCount_some h1).1
    rw [isNum_bad] at this; cases this
theorem numStep.good {s : ByteArray} {p : Nat} {bad : Bool} {v : Int} {q : Nat} (h : numStep s p bad v q false) : bad = false ∧ isNum s p false = some (v, q) := by
  rcases h with ⟨h, _⟩ | ⟨_, _, h⟩
  · cases bad
    · exact ⟨rfl, h⟩
    · rw [isNum_bad] at h; cases h
  · cases h
theorem numStep.ill {s : ByteArray} {p : Nat} {bad : Bool} {v : Int} {q : Nat} (h : numStep s p bad v q true) : isNum s p bad = none := by
  rcases h with ⟨_, h⟩ | ⟨h, _⟩
  · cases h
  · exact h
theorem numStep.back {s : ByteArray} {p : Nat} {bad : Bool} {v : Int} {q : Nat} (h : numStep s p bad v q false) : isNum s p bad = some (v, q) := by
  rcases h with ⟨h, _⟩ | ⟨_, _, h⟩
  · exact h
  · cases h
theorem textStep.good {s : ByteArray} {p : Nat} {bad : Bool} {v : ByteArray} {q : Nat} (h : textStep s p bad v q false) : bad = false ∧ isText s p false 16 = some (v, q) := by
  rcases h with ⟨h, _⟩ | ⟨_, _, h⟩
  · cases bad
    · exact ⟨rfl, h⟩
    · rw [isText_bad] at h; cases h
  · cases h
theorem textStep.ill {s : ByteArray} {p : Nat} {bad : Bool} {v : ByteArray} {q : Nat} (h : textStep s p bad v q true) : isText s p bad 16 = none := by
  rcases h with ⟨_, h⟩ | ⟨h, _⟩
  · cases h
  · exact h

/-- The seven steps, one behind the other. -/
structure Steps7 (s : ByteArray) (p : Nat) (bad : Bool) (C D I M K U : Int) (t : ByteArray) (q7 : Nat) (b7 : Bool) : Prop where
  all : ∃ q1 q2 q3 q4 q5 q6 b1 b2 b3 b4 b5 b6, numStep s p bad C q1 b1 ∧ numStep s q1 b1 D q2 b2 ∧ numStep s q2 b2 I q3 b3 ∧ numStep s q3 b3 M q4 b4 ∧ numStep s q4 b4 K q5 b5 ∧ numStep s q5 b5 U q6 b6 ∧ textStep s q6 b6 t q7 b7
theorem Steps7.good {s : ByteArray} {p : Nat} {bad : Bool} {C D I M K U : Int} {t : ByteArray} {q7 : Nat} (h : Steps7 s p bad C D I M K U t q7 false) : isOp s p bad = if opB C D I M K U t = true then some (⟨C, D, I, M, K, U, t⟩, q7) else none := by
  obtain ⟨q1, q2, q3, q4, q5, q6, b1, b2, b3, b4, b5, b6, h1, h2, h3, h4, h5, h6, h7⟩ := h.all
  obtain ⟨e7, g7⟩ := h7.good
  subst e7
  obtain ⟨e6, g6⟩ := h6.good
  subst e6
  obtain ⟨e5, g5⟩ := h5.good
  subst e5
  obtain ⟨e4, g4⟩ := h4.good
  subst e4
  obtain ⟨e3, g3⟩ := h3.good
  subst e3
  obtain ⟨e2, g2⟩ := h2.good
  subst e2
  have g1 := h1.back
  unfold isOp
  simp only [g1, g2, g3, g4, g5, g6, g7, Option.bind_some]
theorem Steps7.ill {s : ByteArray} {p : Nat} {bad : Bool} {C D I M K U : Int} {t : ByteArray} {q7 : Nat} (h : Steps7 s p bad C D I M K U t q7 true) : isOp s p bad = none := by
  obtain ⟨q1, q2, q3, q4, q5, q6, b1, b2, b3, b4, b5, b6, h1, h2, h3, h4, h5, h6, h7⟩ := h.all
  unfold isOp
  cases b1
  · have h1 := h1.back
    cases b2
    · have h2 := h2.back
      cases b3
      · have h3 := h3.back
        cases b4
        · have h4 := h4.back
          cases b5
          · have h5 := h5.back
            cases b6
            · have h6 := h6.back
              have h7 := h7.ill
              simp only [h1, h2, h3, h4, h5, h6, h7, Option.bind_some, Option.bind_none]
            · have h6 := h6.ill
              simp only [h1, h2, h3, h4, h5, h6, Option.bind_some, Option.bind_none]
          · have h5 := h5.ill
            simp only [h1, h2, h3, h4, h5, Option.bind_some, Option.bind_none]
        · have h4 := h4.ill
          simp only [h1, h2, h3, h4, Option.bind_some, Option.bind_none]
      · have h3 := h3.ill
        simp only [h1, h2, h3, Option.bind_some, Option.bind_none]
    · have h2 := h2.ill
      simp only [h1, h2, Option.bind_some, Option.bind_none]
  · have h1 := h1.ill
    simp only [h1, Option.bind_none]

theorem num_uni {w : World} {b p : Nat} {s : ByteArray} {bad : Bool} (hs : s.size ≤ 1000000) (hp : p ≤ s.size) (hr : Rd 39 w b s p bad) :
    Calls Try.prog 33 #[.pointer (some ⟨b, 0, none⟩)] w fun e w' => ∃ v q bad', e = .returned (.int .i64 v) ∧ Rd 39 w' b s q bad' ∧ q ≤ s.size ∧ w.grownBy w' (some b) ∧ numStep s p bad v q bad' := by
  rcases h : isNum s p bad with _ | ⟨v, q⟩
  · exact (rnum_no hs hp hr h).mono fun e w' ⟨he, ⟨q, hq, hr'⟩, hg⟩ => ⟨0, q, true, he, hr', hq, hg, Or.inr ⟨h, rfl, rfl⟩⟩
  · exact (rnum_yes hs hp hr h).mono fun e w' ⟨he, hr', hg⟩ => ⟨v, q, false, he, hr', (isNum_some h).2.2.1, hg, Or.inl ⟨h, rfl⟩⟩
theorem text_uni {w : World} {b p : Nat} {s : ByteArray} {bad : Bool} (hs : s.size ≤ 1000000) (hp : p ≤ s.size) (hr : Rd 39 w b s p bad) :
    Calls Try.prog 34 #[.pointer (some ⟨b, 0, none⟩), .int .i64 16] w fun e w' => ∃ v q bad', e = .returned (.string v) ∧ Rd 39 w' b s q bad' ∧ q ≤ s.size ∧ v.size ≤ 1000000 ∧ w.grownBy w' (some b) ∧ textStep s p bad v q bad' := by
  rcases h : isText s p bad 16 with _ | ⟨v, q⟩
  · exact (rtext_no hs hp hr h).mono fun e w' ⟨he, ⟨q, hq, hr'⟩, hg⟩ => ⟨⟨#[]⟩, q, true, he, hr', hq, by decide, hg, Or.inr ⟨h, rfl, rfl⟩⟩
  · obtain ⟨n, q0, h1, h2, rfl, rfl⟩ := isText_some h
    exact (rtext_yes hs hp hr h).mono fun e w' ⟨he, hr', hg⟩ => ⟨_, _, false, he, hr', by omega, by rw [ByteArray.size_extract]; omega, hg, Or.inl ⟨h, rfl⟩⟩

theorem refNum_uni {w : World} {b p : Nat} {s : ByteArray} {bad : Bool} (hs : s.size ≤ 1000000) (hp : p ≤ s.size) (hr : Rd 52 w b s p bad) :
    Calls Try.prog 39 #[.pointer (some ⟨b, 0, none⟩)] w fun e w' => ∃ v q bad', e = .returned (.int .i64 v) ∧ Rd 52 w' b s q bad' ∧ q ≤ s.size ∧ w.grownBy w' (some b) ∧ numStep s p bad v q bad' := by
  rcases h : isNum s p bad with _ | ⟨v, q⟩
  · exact (refRnum_no hs hp hr h).mono fun e w' ⟨he, ⟨q, hq, hr'⟩, hg⟩ => ⟨0, q, true, he, hr', hq, hg, Or.inr ⟨h, rfl, rfl⟩⟩
  · exact (refRnum_yes hs hp hr h).mono fun e w' ⟨he, hr', hg⟩ => ⟨v, q, false, he, hr', (isNum_some h).2.2.1, hg, Or.inl ⟨h, rfl⟩⟩
theorem refText_uni {w : World} {b p : Nat} {s : ByteArray} {bad : Bool} (hs : s.size ≤ 1000000) (hp : p ≤ s.size) (hr : Rd 52 w b s p bad) :
    Calls Try.prog 40 #[.pointer (some ⟨b, 0, none⟩), .int .i64 16] w fun e w' => ∃ v q bad', e = .returned (.string v) ∧ Rd 52 w' b s q bad' ∧ q ≤ s.size ∧ v.size ≤ 1000000 ∧ w.grownBy w' (some b) ∧ textStep s p bad v q bad' := by
  rcases h : isText s p bad 16 with _ | ⟨v, q⟩
  · exact (refRtext_no hs hp hr h).mono fun e w' ⟨he, ⟨q, hq, hr'⟩, hg⟩ => ⟨⟨#[]⟩, q, true, he, hr', hq, by decide, hg, Or.inr ⟨h, rfl, rfl⟩⟩
  · obtain ⟨n, q0, h1, h2, rfl, rfl⟩ := isText_some h
    exact (refRtext_yes hs hp hr h).mono fun e w' ⟨he, hr', hg⟩ => ⟨_, _, false, he, hr', by omega, by rw [ByteArray.size_extract]; omega, hg, Or.inl ⟨h, rfl⟩⟩

section
variable {w a : World} {b : Nat} {C D I M K U : Int} {s : ByteArray}
theorem OpIn.putC (h : OpIn w b C D I M K U s) (x : Int) : OpIn (w.setCell ⟨b, 0, none⟩ (.int .i64 x)) b x D I M K U s := by
  unfold OpIn at h ⊢
  simp [World.setCell, Array.getElem?_modify, h]
theorem OpIn.putD (h : OpIn w b C D I M K U s) (x : Int) : OpIn (w.setCell ⟨b, 1, none⟩ (.int .i64 x)) b C x I M K U s := by
  unfold OpIn at h ⊢
  simp [World.setCell, Array.getElem?_modify, h]
theorem OpIn.putI (h : OpIn w b C D I M K U s) (x : Int) : OpIn (w.setCell ⟨b, 2, none⟩ (.int .i64 x)) b C D x M K U s := by
  unfold OpIn at h ⊢
  simp [World.setCell, Array.getElem?_modify, h]
theorem OpIn.putM (h : OpIn w b C D I M K U s) (x : Int) : OpIn (w.setCell ⟨b, 3, none⟩ (.int .i64 x)) b C D I x K U s := by
  unfold OpIn at h ⊢
  simp [World.setCell, Array.getElem?_modify, h]
theorem OpIn.putK (h : OpIn w b C D I M K U s) (x : Int) : OpIn (w.setCell ⟨b, 4, none⟩ (.int .i64 x)) b C D I M x U s := by
  unfold OpIn at h ⊢
  simp [World.setCell, Array.getElem?_modify, h]
theorem OpIn.putU (h : OpIn w b C D I M K U s) (x : Int) : OpIn (w.setCell ⟨b, 5, none⟩ (.int .i64 x)) b C D I M K x s := by
  unfold OpIn at h ⊢
  simp [World.setCell, Array.getElem?_modify, h]
theorem OpIn.putS (h : OpIn w b C D I M K U s) (x : ByteArray) : OpIn (w.setCell ⟨b, 6, none⟩ (.string x)) b C D I M K U x := by
  unfold OpIn at h ⊢
  simp [World.setCell, Array.getElem?_modify, h]
theorem OpIn.other (h : OpIn w b C D I M K U s) (n i : Nat) (v : Value) (hne : b ≠ n) : OpIn (w.setCell ⟨n, i, none⟩ v) b C D I M K U s :=
  (Below.heap_setCell w ⟨n, i, none⟩ v b hne).trans h
theorem Rd.other {T : TypeId} {p : Nat} {bad : Bool} (h : Rd T w b s p bad) (n i : Nat) (v : Value) (hne : b ≠ n) : Rd T (w.setCell ⟨n, i, none⟩ v) b s p bad :=
  (Below.heap_setCell w ⟨n, i, none⟩ v b hne).trans h
theorem by_setNew (h : a.grownBy w (some b)) (n i : Nat) (v : Value) (hn : a.heap.size ≤ n) : a.grownBy (w.setCell ⟨n, i, none⟩ v) (some b) :=
  ⟨h.os, h.tape, h.output, by simpa [World.setCell] using h.size, fun k hk hne => (Below.heap_setCell w ⟨n, i, none⟩ v k (by intro e; have e : k = n := e; omega)).trans (h.block k hk hne)⟩
theorem by_setRow (h : a.grownBy w (some b)) (n : Nat) (cs : Array Value) (hn : a.heap.size ≤ n) : a.grownBy (w.setRow n cs) (some b) :=
  ⟨h.os, h.tape, h.output, by simpa [World.setRow] using h.size, fun k hk hne => (setRow_other w n k cs (by omega)).trans (h.block k hk hne)⟩
theorem Rd.row {T : TypeId} {p : Nat} {bad : Bool} (h : Rd T w b s p bad) (n : Nat) (cs : Array Value) (hne : b ≠ n) : Rd T (w.setRow n cs) b s p bad := (setRow_other w n b cs hne).trans h
end

set_option maxRecDepth 100000 in
set_option maxHeartbeats 8000000 in
theorem opRead_uni {w : World} {b p : Nat} {s : ByteArray} {bad : Bool} (hs : s.size ≤ 1000000) (hp : p ≤ s.size) (hr : Rd 39 w b s p bad) :
    Calls Try.prog 17 #[.pointer (some ⟨b, 0, none⟩)] w fun e w' => ∃ (o : Mv) (q : Nat) (bad' : Bool), e = .returned (.agg #[.int .i64 o.C, .int .i64 o.D, .int .i64 o.I, .int .i64 o.M, .int .i64 o.K, .int .i64 o.U, .string o.s]) ∧ Rd 39 w' b s q bad' ∧ q ≤ s.size ∧ w.grownBy w' (some b) ∧ opStep s p bad o q bad' := by
  have hbw := hr.lt
  go_enter Try.func17, Try.ntmps17
  go_wp2_with fail
  have hO := OpIn.new (w.alloc (.cells #[.int .i64 0, .int .i64 0, .int .i64 0, .int .i64 0, .int .i64 0, .int .i64 0, .string ⟨#[]⟩] 25)) 0 0 0 0 0 0 ⟨#[]⟩
  rw [show (w.alloc (.cells #[.int .i64 0, .int .i64 0, .int .i64 0, .int .i64 0, .int .i64 0, .int .i64 0, .string ⟨#[]⟩] 25)).heap.size = w.heap.size + 1 from alloc_size _ _] at hO
  have hZ := (OpIn.new w 0 0 0 0 0 0 ⟨#[]⟩).alloc (.cells #[.int .i64 0, .int .i64 0, .int .i64 0, .int .i64 0, .int .i64 0, .int .i64 0, .string ⟨#[]⟩] 25)
  have hB := below_alloc (below_alloc (Below.refl w.heap.size w) (.cells #[.int .i64 0, .int .i64 0, .int .i64 0, .int .i64 0, .int .i64 0, .int .i64 0, .string ⟨#[]⟩] 25)) (.cells #[.int .i64 0, .int .i64 0, .int .i64 0, .int .i64 0, .int .i64 0, .int .i64 0, .string ⟨#[]⟩] 25)
  have hR := hr.below hB
  have hG := by_below hB (some b)
  generalize (w.alloc (.cells #[.int .i64 0, .int .i64 0, .int .i64 0, .int .i64 0, .int .i64 0, .int .i64 0, .string ⟨#[]⟩] 25)).alloc (.cells #[.int .i64 0, .int .i64 0, .int .i64 0, .int .i64 0, .int .i64 0, .int .i64 0, .string ⟨#[]⟩] 25) = W0 at *
  obtain ⟨n2, h2⟩ : ∃ n, w.heap.size = n := ⟨_, rfl⟩
  obtain ⟨n3, h3⟩ : ∃ n, w.heap.size + 1 = n := ⟨_, rfl⟩
  have hn2 : w.heap.size ≤ n2 := by omega
  have hn3 : w.heap.size ≤ n3 := by omega
  have e2 : b ≠ n2 := by omega
  have e3 : b ≠ n3 := by omega
  have e4 : n2 ≠ n3 := by omega
  have i2 : some n2 ≠ some b := fun e => e2 (Option.some.inj e).symm
  have i3 : some n3 ≠ some b := fun e => e3 (Option.some.inj e).symm
  rw [h3] at hO ⊢
  rw [h2] at hZ ⊢
  clear h2 h3 hB hr
  refine (num_uni hs hp hR).mono ?_
  clear hR
  rintro e w1 ⟨v1, q1, b1, rfl, hR, q1s, hg, st1⟩
  replace hO := hO.keep hg i3
  replace hZ := hZ.keep hg i2
  replace hG := by_trans hG hg
  clear hg
  have kc := hO.cells
  obtain ⟨k0, k1, k2, k3, k4, k5, k6⟩ := kc
  have kf := hO.frozen
  clear k1 k2 k3 k4 k5 k6
  go_wp2_with fail
  clear k0 kf
  replace hO := hO.putC v1
  replace hZ := hZ.other n3 0 (.int .i64 v1) e4
  replace hR := hR.other n3 0 (.int .i64 v1) e3
  replace hG := by_setNew hG n3 0 (.int .i64 v1) hn3
  generalize w1.setCell ⟨n3, 0, none⟩ (.int .i64 v1) = W1 at *
  refine (num_uni hs q1s hR).mono ?_
  clear hR
  rintro e w2 ⟨v2, q2, b2, rfl, hR, q2s, hg, st2⟩
  replace hO := hO.keep hg i3
  replace hZ := hZ.keep hg i2
  replace hG := by_trans hG hg
  clear hg
  have kc := hO.cells
  obtain ⟨k0, k1, k2, k3, k4, k5, k6⟩ := kc
  have kf := hO.frozen
  clear k0 k2 k3 k4 k5 k6
  go_wp2_with fail
  clear k1 kf
  replace hO := hO.putD v2
  replace hZ := hZ.other n3 1 (.int .i64 v2) e4
  replace hR := hR.other n3 1 (.int .i64 v2) e3
  replace hG := by_setNew hG n3 1 (.int .i64 v2) hn3
  generalize w2.setCell ⟨n3, 1, none⟩ (.int .i64 v2) = W2 at *
  refine (num_uni hs q2s hR).mono ?_
  clear hR
  rintro e w3 ⟨v3, q3, b3, rfl, hR, q3s, hg, st3⟩
  replace hO := hO.keep hg i3
  replace hZ := hZ.keep hg i2
  replace hG := by_trans hG hg
  clear hg
  have kc := hO.cells
  obtain ⟨k0, k1, k2, k3, k4, k5, k6⟩ := kc
  have kf := hO.frozen
  clear k0 k1 k3 k4 k5 k6
  go_wp2_with fail
  clear k2 kf
  replace hO := hO.putI v3
  replace hZ := hZ.other n3 2 (.int .i64 v3) e4
  replace hR := hR.other n3 2 (.int .i64 v3) e3
  replace hG := by_setNew hG n3 2 (.int .i64 v3) hn3
  generalize w3.setCell ⟨n3, 2, none⟩ (.int .i64 v3) = W3 at *
  refine (num_uni hs q3s hR).mono ?_
  clear hR
  rintro e w4 ⟨v4, q4, b4, rfl, hR, q4s, hg, st4⟩
  replace hO := hO.keep hg i3
  replace hZ := hZ.keep hg i2
  replace hG := by_trans hG hg
  clear hg
  have kc := hO.cells
  obtain ⟨k0, k1, k2, k3, k4, k5, k6⟩ := kc
  have kf := hO.frozen
  clear k0 k1 k2 k4 k5 k6
  go_wp2_with fail
  clear k3 kf
  replace hO := hO.putM v4
  replace hZ := hZ.other n3 3 (.int .i64 v4) e4
  replace hR := hR.other n3 3 (.int .i64 v4) e3
  replace hG := by_setNew hG n3 3 (.int .i64 v4) hn3
  generalize w4.setCell ⟨n3, 3, none⟩ (.int .i64 v4) = W4 at *
  refine (num_uni hs q4s hR).mono ?_
  clear hR
  rintro e w5 ⟨v5, q5, b5, rfl, hR, q5s, hg, st5⟩
  replace hO := hO.keep hg i3
  replace hZ := hZ.keep hg i2
  replace hG := by_trans hG hg
  clear hg
  have kc := hO.cells
  obtain ⟨k0, k1, k2, k3, k4, k5, k6⟩ := kc
  have kf := hO.frozen
  clear k0 k1 k2 k3 k5 k6
  go_wp2_with fail
  clear k4 kf
  replace hO := hO.putK v5
  replace hZ := hZ.other n3 4 (.int .i64 v5) e4
  replace hR := hR.other n3 4 (.int .i64 v5) e3
  replace hG := by_setNew hG n3 4 (.int .i64 v5) hn3
  generalize w5.setCell ⟨n3, 4, none⟩ (.int .i64 v5) = W5 at *
  refine (num_uni hs q5s hR).mono ?_
  clear hR
  rintro e w6 ⟨v6, q6, b6, rfl, hR, q6s, hg, st6⟩
  replace hO := hO.keep hg i3
  replace hZ := hZ.keep hg i2
  replace hG := by_trans hG hg
  clear hg
  have kc := hO.cells
  obtain ⟨k0, k1, k2, k3, k4, k5, k6⟩ := kc
  have kf := hO.frozen
  clear k0 k1 k2 k3 k4 k6
  go_wp2_with fail
  clear k5 kf
  replace hO := hO.putU v6
  replace hZ := hZ.other n3 5 (.int .i64 v6) e4
  replace hR := hR.other n3 5 (.int .i64 v6) e3
  replace hG := by_setNew hG n3 5 (.int .i64 v6) hn3
  generalize w6.setCell ⟨n3, 5, none⟩ (.int .i64 v6) = W6 at *
  refine (text_uni hs q6s hR).mono ?_
  clear hR
  rintro e w7 ⟨v7, q7, b7, rfl, hR, q7s, hv, hg, st7⟩
  replace hO := hO.keep hg i3
  replace hZ := hZ.keep hg i2
  replace hG := by_trans hG hg
  clear hg
  have kc := hO.cells
  obtain ⟨k0, k1, k2, k3, k4, k5, k6⟩ := kc
  have kf := hO.frozen
  clear k0 k1 k2 k3 k4 k5
  have hst := Lib.hid (Steps7.mk (s := s) (p := p) (bad := bad) ⟨q1, q2, q3, q4, q5, q6, b1, b2, b3, b4, b5, b6, st1, st2, st3, st4, st5, st6, st7⟩)
  clear st1 st2 st3 st4 st5 st6 st7
  have hO7 := hO.putS v7
  have hZ7 := hZ.other n3 6 (.string v7) e4
  have hR7 := hR.other n3 6 (.string v7) e3
  have hG7 := by_setNew hG n3 6 (.string v7) hn3
  obtain ⟨r0, r1, r2⟩ := hR.cells
  clear r0 r1
  have rf := hR.frozen
  cases b7
  · have hop := hst.out.good
    obtain ⟨bo, hbo⟩ : ∃ x, opB v1 v2 v3 v4 v5 v6 v7 = x := ⟨_, rfl⟩
    have c := fun w => opRight_any v1 v2 v3 v4 v5 v6 v7 w (by omega)
    rw [hbo] at c hop
    have C1 := Lib.hid c
    have HOP := Lib.hid hop
    clear hst c hop hO hZ hR hG
    go_wp2_with (refine load_op_if rfl _ rfl _ rfl _ _ _ _ _ _ _ hO7 ?_)
    generalize w7.setCell ⟨n3, 6, none⟩ (.string v7) = W7 at *
    refine (C1.out _).mono ?_
    clear C1
    rintro e w8 ⟨rfl, hb8⟩
    have hO := hO7.below hb8
    have hZ := hZ7.below hb8
    have hR := hR7.below hb8
    have hG := by_trans hG7 (by_below hb8 _)
    clear hO7 hZ7 hR7 hG7 hb8 r2 rf k6 kf
    obtain ⟨r0, r1, r2⟩ := hR.cells
    clear r0 r1
    have rf := hR.frozen
    cases bo
    · go_wp2_with (refine store_op rfl _ _ rfl _ _ _ _ _ _ _ _ rfl rfl _ _ _ _ _ _ _ (hZ.other b 2 (.bool true) e2.symm) ?_)
      refine ret_op1 ((hZ.other b 2 (.bool true) e2.symm).set _ _ _ _ _ _ _) rfl rfl rfl ?_
      exact ⟨zeroMv, q7, true, rfl, (hR.setBad).row n2 _ e2, q7s, by_setRow (by_set hG 2 (.bool true)) n2 _ hn2, Or.inr ⟨by rw [HOP.out, if_neg (by decide)], rfl, rfl⟩⟩
    · go_wp2_with (first | (refine store_op rfl _ _ rfl _ _ _ _ _ _ _ _ rfl rfl _ _ _ _ _ _ _ hZ ?_) | (refine load_op rfl _ rfl _ rfl _ _ _ _ _ _ _ hO ?_))
      refine ret_op1 (hZ.set _ _ _ _ _ _ _) rfl rfl rfl ?_
      exact ⟨⟨v1, v2, v3, v4, v5, v6, v7⟩, q7, false, rfl, hR.row n2 _ e2, q7s, by_setRow hG n2 _ hn2, Or.inl ⟨by rw [HOP.out]; simp, rfl⟩⟩
  · have hop := Lib.hid hst.out.ill
    clear hst hO hZ hR hG
    go_wp2_with (refine store_op rfl _ _ rfl _ _ _ _ _ _ _ _ rfl rfl _ _ _ _ _ _ _ ((hZ7.other b 2 (.bool true) e2.symm)) ?_)
    refine ret_op1 ((hZ7.other b 2 (.bool true) e2.symm).set _ _ _ _ _ _ _) rfl rfl rfl ?_
    exact ⟨zeroMv, q7, true, rfl, (hR7.setBad).row n2 _ e2, q7s, by_setRow (by_set hG7 2 (.bool true)) n2 _ hn2, Or.inr ⟨hop.out, rfl, rfl⟩⟩

set_option maxRecDepth 100000 in
set_option maxHeartbeats 8000000 in
theorem opRefRead_uni {w : World} {b p : Nat} {s : ByteArray} {bad : Bool} (hs : s.size ≤ 1000000) (hp : p ≤ s.size) (hr : Rd 52 w b s p bad) :
    Calls Try.prog 31 #[.pointer (some ⟨b, 0, none⟩)] w fun e w' => ∃ (o : Mv) (q : Nat) (bad' : Bool), e = .returned (.agg #[.int .i64 o.C, .int .i64 o.D, .int .i64 o.I, .int .i64 o.M, .int .i64 o.K, .int .i64 o.U, .string o.s]) ∧ Rd 52 w' b s q bad' ∧ q ≤ s.size ∧ w.grownBy w' (some b) ∧ opStep s p bad o q bad' := by
  have hbw := hr.lt
  go_enter Try.func31, Try.ntmps31
  go_wp2_with fail
  have hO := OpIn.new (w.alloc (.cells #[.int .i64 0, .int .i64 0, .int .i64 0, .int .i64 0, .int .i64 0, .int .i64 0, .string ⟨#[]⟩] 25)) 0 0 0 0 0 0 ⟨#[]⟩
  rw [show (w.alloc (.cells #[.int .i64 0, .int .i64 0, .int .i64 0, .int .i64 0, .int .i64 0, .int .i64 0, .string ⟨#[]⟩] 25)).heap.size = w.heap.size + 1 from alloc_size _ _] at hO
  have hZ := (OpIn.new w 0 0 0 0 0 0 ⟨#[]⟩).alloc (.cells #[.int .i64 0, .int .i64 0, .int .i64 0, .int .i64 0, .int .i64 0, .int .i64 0, .string ⟨#[]⟩] 25)
  have hB := below_alloc (below_alloc (Below.refl w.heap.size w) (.cells #[.int .i64 0, .int .i64 0, .int .i64 0, .int .i64 0, .int .i64 0, .int .i64 0, .string ⟨#[]⟩] 25)) (.cells #[.int .i64 0, .int .i64 0, .int .i64 0, .int .i64 0, .int .i64 0, .int .i64 0, .string ⟨#[]⟩] 25)
  have hR := hr.below hB
  have hG := by_below hB (some b)
  generalize (w.alloc (.cells #[.int .i64 0, .int .i64 0, .int .i64 0, .int .i64 0, .int .i64 0, .int .i64 0, .string ⟨#[]⟩] 25)).alloc (.cells #[.int .i64 0, .int .i64 0, .int .i64 0, .int .i64 0, .int .i64 0, .int .i64 0, .string ⟨#[]⟩] 25) = W0 at *
  obtain ⟨n2, h2⟩ : ∃ n, w.heap.size = n := ⟨_, rfl⟩
  obtain ⟨n3, h3⟩ : ∃ n, w.heap.size + 1 = n := ⟨_, rfl⟩
  have hn2 : w.heap.size ≤ n2 := by omega
  have hn3 : w.heap.size ≤ n3 := by omega
  have e2 : b ≠ n2 := by omega
  have e3 : b ≠ n3 := by omega
  have e4 : n2 ≠ n3 := by omega
  have i2 : some n2 ≠ some b := fun e => e2 (Option.some.inj e).symm
  have i3 : some n3 ≠ some b := fun e => e3 (Option.some.inj e).symm
  rw [h3] at hO ⊢
  rw [h2] at hZ ⊢
  clear h2 h3 hB hr
  refine (refNum_uni hs hp hR).mono ?_
  clear hR
  rintro e w1 ⟨v1, q1, b1, rfl, hR, q1s, hg, st1⟩
  replace hO := hO.keep hg i3
  replace hZ := hZ.keep hg i2
  replace hG := by_trans hG hg
  clear hg
  have kc := hO.cells
  obtain ⟨k0, k1, k2, k3, k4, k5, k6⟩ := kc
  have kf := hO.frozen
  clear k1 k2 k3 k4 k5 k6
  go_wp2_with fail
  clear k0 kf
  replace hO := hO.putC v1
  replace hZ := hZ.other n3 0 (.int .i64 v1) e4
  replace hR := hR.other n3 0 (.int .i64 v1) e3
  replace hG := by_setNew hG n3 0 (.int .i64 v1) hn3
  generalize w1.setCell ⟨n3, 0, none⟩ (.int .i64 v1) = W1 at *
  refine (refNum_uni hs q1s hR).mono ?_
  clear hR
  rintro e w2 ⟨v2, q2, b2, rfl, hR, q2s, hg, st2⟩
  replace hO := hO.keep hg i3
  replace hZ := hZ.keep hg i2
  replace hG := by_trans hG hg
  clear hg
  have kc := hO.cells
  obtain ⟨k0, k1, k2, k3, k4, k5, k6⟩ := kc
  have kf := hO.frozen
  clear k0 k2 k3 k4 k5 k6
  go_wp2_with fail
  clear k1 kf
  replace hO := hO.putD v2
  replace hZ := hZ.other n3 1 (.int .i64 v2) e4
  replace hR := hR.other n3 1 (.int .i64 v2) e3
  replace hG := by_setNew hG n3 1 (.int .i64 v2) hn3
  generalize w2.setCell ⟨n3, 1, none⟩ (.int .i64 v2) = W2 at *
  refine (refNum_uni hs q2s hR).mono ?_
  clear hR
  rintro e w3 ⟨v3, q3, b3, rfl, hR, q3s, hg, st3⟩
  replace hO := hO.keep hg i3
  replace hZ := hZ.keep hg i2
  replace hG := by_trans hG hg
  clear hg
  have kc := hO.cells
  obtain ⟨k0, k1, k2, k3, k4, k5, k6⟩ := kc
  have kf := hO.frozen
  clear k0 k1 k3 k4 k5 k6
  go_wp2_with fail
  clear k2 kf
  replace hO := hO.putI v3
  replace hZ := hZ.other n3 2 (.int .i64 v3) e4
  replace hR := hR.other n3 2 (.int .i64 v3) e3
  replace hG := by_setNew hG n3 2 (.int .i64 v3) hn3
  generalize w3.setCell ⟨n3, 2, none⟩ (.int .i64 v3) = W3 at *
  refine (refNum_uni hs q3s hR).mono ?_
  clear hR
  rintro e w4 ⟨v4, q4, b4, rfl, hR, q4s, hg, st4⟩
  replace hO := hO.keep hg i3
  replace hZ := hZ.keep hg i2
  replace hG := by_trans hG hg
  clear hg
  have kc := hO.cells
  obtain ⟨k0, k1, k2, k3, k4, k5, k6⟩ := kc
  have kf := hO.frozen
  clear k0 k1 k2 k4 k5 k6
  go_wp2_with fail
  clear k3 kf
  replace hO := hO.putM v4
  replace hZ := hZ.other n3 3 (.int .i64 v4) e4
  replace hR := hR.other n3 3 (.int .i64 v4) e3
  replace hG := by_setNew hG n3 3 (.int .i64 v4) hn3
  generalize w4.setCell ⟨n3, 3, none⟩ (.int .i64 v4) = W4 at *
  refine (refNum_uni hs q4s hR).mono ?_
  clear hR
  rintro e w5 ⟨v5, q5, b5, rfl, hR, q5s, hg, st5⟩
  replace hO := hO.keep hg i3
  replace hZ := hZ.keep hg i2
  replace hG := by_trans hG hg
  clear hg
  have kc := hO.cells
  obtain ⟨k0, k1, k2, k3, k4, k5, k6⟩ := kc
  have kf := hO.frozen
  clear k0 k1 k2 k3 k5 k6
  go_wp2_with fail
  clear k4 kf
  replace hO := hO.putK v5
  replace hZ := hZ.other n3 4 (.int .i64 v5) e4
  replace hR := hR.other n3 4 (.int .i64 v5) e3
  replace hG := by_setNew hG n3 4 (.int .i64 v5) hn3
  generalize w5.setCell ⟨n3, 4, none⟩ (.int .i64 v5) = W5 at *
  refine (refNum_uni hs q5s hR).mono ?_
  clear hR
  rintro e w6 ⟨v6, q6, b6, rfl, hR, q6s, hg, st6⟩
  replace hO := hO.keep hg i3
  replace hZ := hZ.keep hg i2
  replace hG := by_trans hG hg
  clear hg
  have kc := hO.cells
  obtain ⟨k0, k1, k2, k3, k4, k5, k6⟩ := kc
  have kf := hO.frozen
  clear k0 k1 k2 k3 k4 k6
  go_wp2_with fail
  clear k5 kf
  replace hO := hO.putU v6
  replace hZ := hZ.other n3 5 (.int .i64 v6) e4
  replace hR := hR.other n3 5 (.int .i64 v6) e3
  replace hG := by_setNew hG n3 5 (.int .i64 v6) hn3
  generalize w6.setCell ⟨n3, 5, none⟩ (.int .i64 v6) = W6 at *
  refine (refText_uni hs q6s hR).mono ?_
  clear hR
  rintro e w7 ⟨v7, q7, b7, rfl, hR, q7s, hv, hg, st7⟩
  replace hO := hO.keep hg i3
  replace hZ := hZ.keep hg i2
  replace hG := by_trans hG hg
  clear hg
  have kc := hO.cells
  obtain ⟨k0, k1, k2, k3, k4, k5, k6⟩ := kc
  have kf := hO.frozen
  clear k0 k1 k2 k3 k4 k5
  have hst := Lib.hid (Steps7.mk (s := s) (p := p) (bad := bad) ⟨q1, q2, q3, q4, q5, q6, b1, b2, b3, b4, b5, b6, st1, st2, st3, st4, st5, st6, st7⟩)
  clear st1 st2 st3 st4 st5 st6 st7
  have hO7 := hO.putS v7
  have hZ7 := hZ.other n3 6 (.string v7) e4
  have hR7 := hR.other n3 6 (.string v7) e3
  have hG7 := by_setNew hG n3 6 (.string v7) hn3
  obtain ⟨r0, r1, r2⟩ := hR.cells
  clear r0 r1
  have rf := hR.frozen
  cases b7
  · have hop := hst.out.good
    obtain ⟨bo, hbo⟩ : ∃ x, opB v1 v2 v3 v4 v5 v6 v7 = x := ⟨_, rfl⟩
    have c := fun w => opRefRight_any v1 v2 v3 v4 v5 v6 v7 w (by omega)
    rw [hbo] at c hop
    have C1 := Lib.hid c
    have HOP := Lib.hid hop
    clear hst c hop hO hZ hR hG
    go_wp2_with (refine load_op_if rfl _ rfl _ rfl _ _ _ _ _ _ _ hO7 ?_)
    generalize w7.setCell ⟨n3, 6, none⟩ (.string v7) = W7 at *
    refine (C1.out _).mono ?_
    clear C1
    rintro e w8 ⟨rfl, hb8⟩
    have hO := hO7.below hb8
    have hZ := hZ7.below hb8
    have hR := hR7.below hb8
    have hG := by_trans hG7 (by_below hb8 _)
    clear hO7 hZ7 hR7 hG7 hb8 r2 rf k6 kf
    obtain ⟨r0, r1, r2⟩ := hR.cells
    clear r0 r1
    have rf := hR.frozen
    cases bo
    · go_wp2_with (refine store_op rfl _ _ rfl _ _ _ _ _ _ _ _ rfl rfl _ _ _ _ _ _ _ (hZ.other b 2 (.bool true) e2.symm) ?_)
      refine ret_op1 ((hZ.other b 2 (.bool true) e2.symm).set _ _ _ _ _ _ _) rfl rfl rfl ?_
      exact ⟨zeroMv, q7, true, rfl, (hR.setBad).row n2 _ e2, q7s, by_setRow (by_set hG 2 (.bool true)) n2 _ hn2, Or.inr ⟨by rw [HOP.out, if_neg (by decide)], rfl, rfl⟩⟩
    · go_wp2_with (first | (refine store_op rfl _ _ rfl _ _ _ _ _ _ _ _ rfl rfl _ _ _ _ _ _ _ hZ ?_) | (refine load_op rfl _ rfl _ rfl _ _ _ _ _ _ _ hO ?_))
      refine ret_op1 (hZ.set _ _ _ _ _ _ _) rfl rfl rfl ?_
      exact ⟨⟨v1, v2, v3, v4, v5, v6, v7⟩, q7, false, rfl, hR.row n2 _ e2, q7s, by_setRow hG n2 _ hn2, Or.inl ⟨by rw [HOP.out]; simp, rfl⟩⟩
  · have hop := Lib.hid hst.out.ill
    clear hst hO hZ hR hG
    go_wp2_with (refine store_op rfl _ _ rfl _ _ _ _ _ _ _ _ rfl rfl _ _ _ _ _ _ _ ((hZ7.other b 2 (.bool true) e2.symm)) ?_)
    refine ret_op1 ((hZ7.other b 2 (.bool true) e2.symm).set _ _ _ _ _ _ _) rfl rfl rfl ?_
    exact ⟨zeroMv, q7, true, rfl, (hR7.setBad).row n2 _ e2, q7s, by_setRow (by_set hG7 2 (.bool true)) n2 _ hn2, Or.inr ⟨hop.out, rfl, rfl⟩⟩

end Go.Proofs.Ytkocehjomjaidaa
