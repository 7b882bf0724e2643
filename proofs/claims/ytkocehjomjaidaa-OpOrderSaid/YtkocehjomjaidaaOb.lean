/- What Print gives, of the program and of the document: layer op. -/
import Derived.Test.YtkocehjomjaidaaCj
import Derived.BigQuiet
import Derived.Deep.QuietTactic
import Derived.Lib.QuietBelow
namespace Go.Proofs.Ytkocehjomjaidaa
open Go.RowKit Cod

theorem alloc_size (w : World) (o : Obj) : (w.alloc o).heap.size = w.heap.size + 1 := by simp
def i64 (n : Int) : Prop := -9223372036854775808 ≤ n ∧ n ≤ 9223372036854775807
structure Wide (C D I M K U : Int) : Prop where
  c : i64 C
  d : i64 D
  i : i64 I
  m : i64 M
  k : i64 K
  u : i64 U
def printOf (C D I M K U : Int) (s : ByteArray) : ByteArray := bytesOf C ++ bytesOf D ++ bytesOf I ++ bytesOf M ++ bytesOf K ++ bytesOf U ++ textOf s

/-- In block b lies an operation. -/
def OpIn (w : World) (b : Nat) (C D I M K U : Int) (s : ByteArray) : Prop :=
  w.heap[b]? = some (.cells #[.int .i64 C, .int .i64 D, .int .i64 I, .int .i64 M, .int .i64 K, .int .i64 U, .string s] 25 (0, 0))
section
variable {w w' : World} {b : Nat} {C D I M K U : Int} {s : ByteArray}
theorem OpIn.lt (h : OpIn w b C D I M K U s) : b < w.heap.size := by
  rcases Nat.lt_or_ge b w.heap.size with hlt | hge
  · exact hlt
  · unfold OpIn at h; rw [Array.getElem?_eq_none hge] at h; cases h
theorem OpIn.cells (h : OpIn w b C D I M K U s) : w.cell? ⟨b, 0, none⟩ = some (.int .i64 C) ∧ w.cell? ⟨b, 1, none⟩ = some (.int .i64 D) ∧ w.cell? ⟨b, 2, none⟩ = some (.int .i64 I) ∧ w.cell? ⟨b, 3, none⟩ = some (.int .i64 M) ∧ w.cell? ⟨b, 4, none⟩ = some (.int .i64 K) ∧ w.cell? ⟨b, 5, none⟩ = some (.int .i64 U) ∧ w.cell? ⟨b, 6, none⟩ = some (.string s) :=
  ⟨cell_of_row w b 0 _ 25 (0, 0) h, cell_of_row w b 1 _ 25 (0, 0) h, cell_of_row w b 2 _ 25 (0, 0) h, cell_of_row w b 3 _ 25 (0, 0) h, cell_of_row w b 4 _ 25 (0, 0) h, cell_of_row w b 5 _ 25 (0, 0) h, cell_of_row w b 6 _ 25 (0, 0) h⟩
theorem OpIn.frozen (h : OpIn w b C D I M K U s) (i : Nat) : w.frozen? ⟨b, i, none⟩ = false := by
  unfold OpIn at h
  simp [World.frozen?, h]
theorem OpIn.new (w : World) (C D I M K U : Int) (s : ByteArray) : OpIn (w.alloc (.cells #[.int .i64 C, .int .i64 D, .int .i64 I, .int .i64 M, .int .i64 K, .int .i64 U, .string s] 25)) w.heap.size C D I M K U s := heap_alloc_new w _
theorem OpIn.below (h : OpIn w b C D I M K U s) (hg : Below w.heap.size w w') : OpIn w' b C D I M K U s := (hg.block b h.lt).trans h
theorem OpIn.keep {row : Option Nat} (h : OpIn w b C D I M K U s) (hg : w.grownBy w' row) (hne : some b ≠ row) : OpIn w' b C D I M K U s := (hg.block b h.lt hne).trans h
end

theorem text_le (s : ByteArray) (hs : s.size ≤ 1000000) : (textOf s).size ≤ 1000010 := by
  unfold textOf; rw [ByteArray.size_append]
  have := bytesOf_le s.size (by omega) (by omega)
  omega

set_option maxHeartbeats 4000000 in
theorem opPrint_any (C D I M K U : Int) (s : ByteArray) (w : World) (hw : Wide C D I M K U) (hs : s.size ≤ 1000000) :
    Calls Try.prog 13 #[.agg #[.int .i64 C, .int .i64 D, .int .i64 I, .int .i64 M, .int .i64 K, .int .i64 U, .string s]] w fun e w' => e = .returned (.string (printOf C D I M K U s)) ∧ Below w.heap.size w w' := by
  obtain ⟨hc, hd, hi, hm, hk, hu⟩ := hw
  have c1 := fun w => num_any C w hc.1 hc.2
  have c2 := fun w => num_any D w hd.1 hd.2
  have c3 := fun w => num_any I w hi.1 hi.2
  have c4 := fun w => num_any M w hm.1 hm.2
  have c5 := fun w => num_any K w hk.1 hk.2
  have c6 := fun w => num_any U w hu.1 hu.2
  have c7 := fun w => text_any s w hs
  have z1 := bytesOf_le C hc.1 hc.2
  have z2 := bytesOf_le D hd.1 hd.2
  have z3 := bytesOf_le I hi.1 hi.2
  have z4 := bytesOf_le M hm.1 hm.2
  have z5 := bytesOf_le K hk.1 hk.2
  have z6 := bytesOf_le U hu.1 hu.2
  have z7 := text_le s hs
  unfold printOf
  clear hc hd hi hm hk hu
  generalize bytesOf C = x1 at *
  generalize bytesOf D = x2 at *
  generalize bytesOf I = x3 at *
  generalize bytesOf M = x4 at *
  generalize bytesOf K = x5 at *
  generalize bytesOf U = x6 at *
  generalize textOf s = x7 at *
  have C1 := Lib.hid c1
  have C2 := Lib.hid c2
  have C3 := Lib.hid c3
  have C4 := Lib.hid c4
  have C5 := Lib.hid c5
  have C6 := Lib.hid c6
  have C7 := Lib.hid c7
  clear c1 c2 c3 c4 c5 c6 c7
  go_enter Try.func13, Try.ntmps13
  go_wp2
  have hO := OpIn.new w C D I M K U s
  have hB0 := below_alloc (Below.refl w.heap.size w) (.cells #[.int .i64 C, .int .i64 D, .int .i64 I, .int .i64 M, .int .i64 K, .int .i64 U, .string s] 25)
  generalize w.alloc (.cells #[.int .i64 C, .int .i64 D, .int .i64 I, .int .i64 M, .int .i64 K, .int .i64 U, .string s] 25) = W at *
  obtain ⟨g0, g1, g2, g3, g4, g5, g6⟩ := hO.cells
  have k0 := cell_regrown g0
  have k1 := cell_regrown g1
  have k2 := cell_regrown g2
  have k3 := cell_regrown g3
  have k4 := cell_regrown g4
  have k5 := cell_regrown g5
  have k6 := cell_regrown g6
  clear g0 g1 g2 g3 g4 g5 g6 hO
  have d1 : ∀ d os, Calls Try.prog 26 #[.int .i64 C] (Sort.grow (redrawn W d) os) fun e w'' => e = .returned (.string x1) ∧ ∃ p : Regrown, w'' = Sort.grow (redrawn W p.d) p.os := fun d os => Calls.regrown_of (C1.out _)
  have d2 : ∀ d os, Calls Try.prog 26 #[.int .i64 D] (Sort.grow (redrawn W d) os) fun e w'' => e = .returned (.string x2) ∧ ∃ p : Regrown, w'' = Sort.grow (redrawn W p.d) p.os := fun d os => Calls.regrown_of (C2.out _)
  have d3 : ∀ d os, Calls Try.prog 26 #[.int .i64 I] (Sort.grow (redrawn W d) os) fun e w'' => e = .returned (.string x3) ∧ ∃ p : Regrown, w'' = Sort.grow (redrawn W p.d) p.os := fun d os => Calls.regrown_of (C3.out _)
  have d4 : ∀ d os, Calls Try.prog 26 #[.int .i64 M] (Sort.grow (redrawn W d) os) fun e w'' => e = .returned (.string x4) ∧ ∃ p : Regrown, w'' = Sort.grow (redrawn W p.d) p.os := fun d os => Calls.regrown_of (C4.out _)
  have d5 : ∀ d os, Calls Try.prog 26 #[.int .i64 K] (Sort.grow (redrawn W d) os) fun e w'' => e = .returned (.string x5) ∧ ∃ p : Regrown, w'' = Sort.grow (redrawn W p.d) p.os := fun d os => Calls.regrown_of (C5.out _)
  have d6 : ∀ d os, Calls Try.prog 26 #[.int .i64 U] (Sort.grow (redrawn W d) os) fun e w'' => e = .returned (.string x6) ∧ ∃ p : Regrown, w'' = Sort.grow (redrawn W p.d) p.os := fun d os => Calls.regrown_of (C6.out _)
  have d7 : ∀ d os, Calls Try.prog 27 #[.string s] (Sort.grow (redrawn W d) os) fun e w'' => e = .returned (.string x7) ∧ ∃ p : Regrown, w'' = Sort.grow (redrawn W p.d) p.os := fun d os => Calls.regrown_of (C7.out _)
  refine wp_region_quiet_below (by kernel_rfl) (by kernel_rfl) ?_
  repeat (go_big_quiet_step ((with_reducible (first | exact d1 _ _ | exact d2 _ _ | exact d3 _ _ | exact d4 _ _ | exact d5 _ _ | exact d6 _ _ | exact d7 _ _))))
  refine wpQuiet_nil ?_
  intro _ hw'
  obtain ⟨⟨dq, osq⟩, hw''⟩ := hw'
  subst hw''
  go_wp2
  go_ret
  exact ⟨rfl, below_then hB0 (below_regrown W dq osq)⟩

set_option maxHeartbeats 4000000 in
theorem opRefPrint_any (C D I M K U : Int) (s : ByteArray) (w : World) (hw : Wide C D I M K U) (hs : s.size ≤ 1000000) :
    Calls Try.prog 14 #[.agg #[.int .i64 C, .int .i64 D, .int .i64 I, .int .i64 M, .int .i64 K, .int .i64 U, .string s]] w fun e w' => e = .returned (.string (printOf C D I M K U s)) ∧ Below w.heap.size w w' := by
  obtain ⟨hc, hd, hi, hm, hk, hu⟩ := hw
  have c1 := fun w => refNum_any C w hc.1 hc.2
  have c2 := fun w => refNum_any D w hd.1 hd.2
  have c3 := fun w => refNum_any I w hi.1 hi.2
  have c4 := fun w => refNum_any M w hm.1 hm.2
  have c5 := fun w => refNum_any K w hk.1 hk.2
  have c6 := fun w => refNum_any U w hu.1 hu.2
  have c7 := fun w => refText_any s w hs
  have z1 := bytesOf_le C hc.1 hc.2
  have z2 := bytesOf_le D hd.1 hd.2
  have z3 := bytesOf_le I hi.1 hi.2
  have z4 := bytesOf_le M hm.1 hm.2
  have z5 := bytesOf_le K hk.1 hk.2
  have z6 := bytesOf_le U hu.1 hu.2
  have z7 := text_le s hs
  unfold printOf
  clear hc hd hi hm hk hu
  generalize bytesOf C = x1 at *
  generalize bytesOf D = x2 at *
  generalize bytesOf I = x3 at *
  generalize bytesOf M = x4 at *
  generalize bytesOf K = x5 at *
  generalize bytesOf U = x6 at *
  generalize textOf s = x7 at *
  have C1 := Lib.hid c1
  have C2 := Lib.hid c2
  have C3 := Lib.hid c3
  have C4 := Lib.hid c4
  have C5 := Lib.hid c5
  have C6 := Lib.hid c6
  have C7 := Lib.hid c7
  clear c1 c2 c3 c4 c5 c6 c7
  go_enter Try.func14, Try.ntmps14
  go_wp2
  have hO := OpIn.new w C D I M K U s
  have hB0 := below_alloc (Below.refl w.heap.size w) (.cells #[.int .i64 C, .int .i64 D, .int .i64 I, .int .i64 M, .int .i64 K, .int .i64 U, .string s] 25)
  generalize w.alloc (.cells #[.int .i64 C, .int .i64 D, .int .i64 I, .int .i64 M, .int .i64 K, .int .i64 U, .string s] 25) = W at *
  obtain ⟨g0, g1, g2, g3, g4, g5, g6⟩ := hO.cells
  have k0 := cell_regrown g0
  have k1 := cell_regrown g1
  have k2 := cell_regrown g2
  have k3 := cell_regrown g3
  have k4 := cell_regrown g4
  have k5 := cell_regrown g5
  have k6 := cell_regrown g6
  clear g0 g1 g2 g3 g4 g5 g6 hO
  have d1 : ∀ d os, Calls Try.prog 28 #[.int .i64 C] (Sort.grow (redrawn W d) os) fun e w'' => e = .returned (.string x1) ∧ ∃ p : Regrown, w'' = Sort.grow (redrawn W p.d) p.os := fun d os => Calls.regrown_of (C1.out _)
  have d2 : ∀ d os, Calls Try.prog 28 #[.int .i64 D] (Sort.grow (redrawn W d) os) fun e w'' => e = .returned (.string x2) ∧ ∃ p : Regrown, w'' = Sort.grow (redrawn W p.d) p.os := fun d os => Calls.regrown_of (C2.out _)
  have d3 : ∀ d os, Calls Try.prog 28 #[.int .i64 I] (Sort.grow (redrawn W d) os) fun e w'' => e = .returned (.string x3) ∧ ∃ p : Regrown, w'' = Sort.grow (redrawn W p.d) p.os := fun d os => Calls.regrown_of (C3.out _)
  have d4 : ∀ d os, Calls Try.prog 28 #[.int .i64 M] (Sort.grow (redrawn W d) os) fun e w'' => e = .returned (.string x4) ∧ ∃ p : Regrown, w'' = Sort.grow (redrawn W p.d) p.os := fun d os => Calls.regrown_of (C4.out _)
  have d5 : ∀ d os, Calls Try.prog 28 #[.int .i64 K] (Sort.grow (redrawn W d) os) fun e w'' => e = .returned (.string x5) ∧ ∃ p : Regrown, w'' = Sort.grow (redrawn W p.d) p.os := fun d os => Calls.regrown_of (C5.out _)
  have d6 : ∀ d os, Calls Try.prog 28 #[.int .i64 U] (Sort.grow (redrawn W d) os) fun e w'' => e = .returned (.string x6) ∧ ∃ p : Regrown, w'' = Sort.grow (redrawn W p.d) p.os := fun d os => Calls.regrown_of (C6.out _)
  have d7 : ∀ d os, Calls Try.prog 29 #[.string s] (Sort.grow (redrawn W d) os) fun e w'' => e = .returned (.string x7) ∧ ∃ p : Regrown, w'' = Sort.grow (redrawn W p.d) p.os := fun d os => Calls.regrown_of (C7.out _)
  refine wp_region_quiet_below (by kernel_rfl) (by kernel_rfl) ?_
  repeat (go_big_quiet_step ((with_reducible (first | exact d1 _ _ | exact d2 _ _ | exact d3 _ _ | exact d4 _ _ | exact d5 _ _ | exact d6 _ _ | exact d7 _ _))))
  refine wpQuiet_nil ?_
  intro _ hw'
  obtain ⟨⟨dq, osq⟩, hw''⟩ := hw'
  subst hw''
  go_wp2
  go_ret
  exact ⟨rfl, below_then hB0 (below_regrown W dq osq)⟩
end Go.Proofs.Ytkocehjomjaidaa
