/- How the arguments of the laws are opened. -/
import Derived.Test.YtkocehjomjaidaaOh
import Derived.Test.YtkocehjomjaidaaFrm
import Derived.Lib.QuietBelow
import Derived.Lib.SmallJoins
import Derived.Deep.SlicePairs
import Derived.ChangeSlices
namespace Go.Proofs.Ytkocehjomjaidaa
open Go.ChangeShapes Go.WideShapes Go.ChangeAt Go.RowKit Go.Deep Nam Cod

theorem own : ownKnob Try.prog.godebug = none := by kernel_rfl
theorem cells25 : Try.prog.cellsOf 25 = 7 := by kernel_rfl
theorem cells23 : Try.prog.cellsOf 23 = 2 := by kernel_rfl
theorem cells3 : Try.prog.cellsOf 3 = 1 := by kernel_rfl
theorem cells9 : Try.prog.cellsOf 9 = 1 := by kernel_rfl

theorem open_str {H : Type} {enc : TypeId × Value → H} {W : World} {base : Nat} {sp : Nat → Bool} {v : Value} {d : DataW H} {ps : List MemPlace}
    (hv : Value.okWide Try.prog W .any base 9 v) (h : DataW.Trod enc Try.prog W 0 sp true 9 v d ps) : ∃ s : ByteArray, v = .string s ∧ s.size ≤ maxLen := by
  obtain ⟨s, rfl, _, _, hs⟩ := ChangeMaps.open_string Try.underlying9 hv h
  exact ⟨s, rfl, hs⟩

theorem open_i64 {H : Type} {enc : TypeId × Value → H} {W : World} {base : Nat} {sp : Nat → Bool} {v : Value} {d : DataW H} {ps : List MemPlace}
    (hv : Value.okWide Try.prog W .any base 3 v) (h : DataW.Trod enc Try.prog W 0 sp true 3 v d ps) : ∃ n : Int, v = .int .i64 n ∧ i64 n := by
  obtain ⟨a, rfl, _, _, wf⟩ := open_int Try.underlying3 hv h
  have hb := bounds_i64 wf
  exact ⟨a, rfl, by omega, by omega⟩

/-- Seven cells that read as an operation. -/
theorem read_op {H : Type} {enc : TypeId × Value → H} {W : World} {base : Nat} {sp : Nat → Bool} {held : Bool} {fuel : Nat} {cs : List Value} {x : DataW H × List MemPlace}
    (h : DataW.trod enc Try.prog W base sp held fuel 25 cs = some x) : ∃ (C D I M K U : Int) (s : ByteArray), cs = [.int .i64 C, .int .i64 D, .int .i64 I, .int .i64 M, .int .i64 K, .int .i64 U, .string s] ∧ Wide C D I M K U ∧ s.size ≤ maxLen := by
  obtain ⟨xs, n, _, _, hl, hlen, hf⟩ := DataW.trod_struct Try.underlying25 h
  have hl7 : cs.length = 7 := hl.trans cells25
  have hl6 : xs.length = 6 := hlen
  match cs, hl7, xs, hl6 with
  | [c0, c1, c2, c3, c4, c5, c6], _, [y0, y1, y2, y3, y4, y5], _ =>
    have h0 := hf 0 _ rfl
    have h1 := hf 1 _ rfl
    have h2 := hf 2 _ rfl
    have h3 := hf 3 _ rfl
    have h4 := hf 4 _ rfl
    have h5 := hf 5 _ rfl
    simp [cells23, cells3, cells9] at h0 h1 h2 h3 h4 h5
    obtain ⟨zs, n', _, _, _, hlen2, hg⟩ := DataW.trod_struct Try.underlying23 h0
    have hl2 : zs.length = 2 := hlen2
    match zs, hl2 with
    | [z0, z1], _ =>
      have g0 := hg 0 _ rfl
      have g1 := hg 1 _ rfl
      simp [cells3] at g0 g1
      obtain ⟨C, e0, _, w0⟩ := DataW.trod_int Try.underlying3 g0
      obtain ⟨D, e1, _, w1⟩ := DataW.trod_int Try.underlying3 g1
      obtain ⟨I, e2, _, w2⟩ := DataW.trod_int Try.underlying3 h1
      obtain ⟨M, e3, _, w3⟩ := DataW.trod_int Try.underlying3 h2
      obtain ⟨K, e4, _, w4⟩ := DataW.trod_int Try.underlying3 h3
      obtain ⟨U, e5, _, w5⟩ := DataW.trod_int Try.underlying3 h4
      obtain ⟨s, e6, _, w6⟩ := DataW.trod_string Try.underlying9 h5
      simp at e0 e1 e2 e3 e4 e5 e6
      subst e0 e1 e2 e3 e4 e5 e6
      have b0 := bounds_i64 w0
      have b1 := bounds_i64 w1
      have b2 := bounds_i64 w2
      have b3 := bounds_i64 w3
      have b4 := bounds_i64 w4
      have b5 := bounds_i64 w5
      exact ⟨C, D, I, M, K, U, s, rfl, ⟨⟨by omega, by omega⟩, ⟨by omega, by omega⟩, ⟨by omega, by omega⟩, ⟨by omega, by omega⟩, ⟨by omega, by omega⟩, ⟨by omega, by omega⟩⟩, w6⟩

theorem open_op {H : Type} {enc : TypeId × Value → H} {W : World} {base : Nat} {sp : Nat → Bool} {v : Value} {d : DataW H} {ps : List MemPlace}
    (hv : Value.okWide Try.prog W .any base 25 v) (h : DataW.Trod enc Try.prog W 0 sp true 25 v d ps) : ∃ (C D I M K U : Int) (s : ByteArray), v = .agg #[.int .i64 C, .int .i64 D, .int .i64 I, .int .i64 M, .int .i64 K, .int .i64 U, .string s] ∧ Wide C D I M K U ∧ s.size ≤ maxLen := by
  obtain ⟨cs, rfl, _⟩ := okWide_struct Try.underlying25 hv
  obtain ⟨fuel, hf⟩ := h
  obtain ⟨C, D, I, M, K, U, s, e, hw, hs⟩ := read_op hf
  refine ⟨C, D, I, M, K, U, s, ?_, hw, hs⟩
  obtain ⟨l⟩ := cs
  simp [Value.cells] at e
  rw [e]
end Go.Proofs.Ytkocehjomjaidaa
