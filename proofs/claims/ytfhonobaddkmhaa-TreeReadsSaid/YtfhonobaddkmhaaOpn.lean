/- How the arguments of the laws are opened. -/
import Derived.Test.YtfhonobaddkmhaaTk
import Derived.Test.YtfhonobaddkmhaaFrm
import Derived.Lib.SmallJoins
import Derived.Deep.SlicePairs
import Derived.ChangeSlices
namespace Go.Proofs.Ytfhonobaddkmhaa
open Go.ChangeShapes Go.WideShapes Go.ChangeAt Go.RowKit Go.Deep Nam Cod Tre

theorem own : ownKnob Try.prog.godebug = none := by kernel_rfl
theorem cells24 : Try.prog.cellsOf 24 = 3 := by kernel_rfl
theorem cells3 : Try.prog.cellsOf 3 = 1 := by kernel_rfl
theorem cells5 : Try.prog.cellsOf 5 = 1 := by kernel_rfl
theorem cells9 : Try.prog.cellsOf 9 = 1 := by kernel_rfl
theorem cells45 : Try.prog.cellsOf 45 = 3 := by kernel_rfl

theorem open_str {H : Type} {enc : TypeId × Value → H} {W : World} {base : Nat} {sp : Nat → Bool} {v : Value} {d : DataW H} {ps : List MemPlace}
    (hv : Value.okWide Try.prog W .any base 9 v) (h : DataW.Trod enc Try.prog W 0 sp true 9 v d ps) : ∃ s : ByteArray, v = .string s ∧ s.size ≤ maxLen := by
  obtain ⟨s, rfl, _, _, hs⟩ := ChangeMaps.open_string Try.underlying9 hv h
  exact ⟨s, rfl, hs⟩
theorem open_i64 {H : Type} {enc : TypeId × Value → H} {W : World} {base : Nat} {sp : Nat → Bool} {v : Value} {d : DataW H} {ps : List MemPlace}
    (hv : Value.okWide Try.prog W .any base 3 v) (h : DataW.Trod enc Try.prog W 0 sp true 3 v d ps) : ∃ n : Int, v = .int .i64 n ∧ i64 n := by
  obtain ⟨a, rfl, _, _, wf⟩ := open_int Try.underlying3 hv h
  have hb := bounds_i64 wf
  exact ⟨a, rfl, by omega, by omega⟩

/-- Its numbers are words, its text isn't too long for a machine. -/
def WidePl (p : Pl) : Prop := i64 p.n ∧ i64 p.u ∧ p.s.size ≤ maxLen
theorem read_pl {H : Type} {enc : TypeId × Value → H} {W : World} {base : Nat} {sp : Nat → Bool} {held : Bool} {fuel : Nat} {cs : List Value} {x : DataW H × List MemPlace}
    (h : DataW.trod enc Try.prog W base sp held fuel 24 cs = some x) : ∃ p : Pl, cs = [.int .i64 p.n, .int .i64 p.u, .string p.s] ∧ WidePl p := by
  obtain ⟨xs, n, _, _, hl, hlen, hf⟩ := DataW.trod_struct Try.underlying24 h
  have hl3 : cs.length = 3 := hl.trans cells24
  have hlx : xs.length = 3 := hlen
  match cs, hl3, xs, hlx with
  | [c0, c1, c2], _, [y0, y1, y2], _ =>
    have h0 := hf 0 _ rfl
    have h1 := hf 1 _ rfl
    have h2 := hf 2 _ rfl
    simp [cells3, cells9] at h0 h1 h2
    obtain ⟨n, e0, _, w0⟩ := DataW.trod_int Try.underlying3 h0
    obtain ⟨u, e1, _, w1⟩ := DataW.trod_int Try.underlying3 h1
    obtain ⟨s, e2, _, w2⟩ := DataW.trod_string Try.underlying9 h2
    simp at e0 e1 e2
    subst e0 e1 e2
    have b0 := bounds_i64 w0
    have b1 := bounds_i64 w1
    have j0 : i64 n := ⟨by omega, by omega⟩
    have j1 : i64 u := ⟨by omega, by omega⟩
    exact ⟨⟨n, u, s⟩, rfl, j0, j1, w2⟩
theorem open_pl {H : Type} {enc : TypeId × Value → H} {W : World} {base : Nat} {sp : Nat → Bool} {v : Value} {d : DataW H} {ps : List MemPlace}
    (hv : Value.okWide Try.prog W .any base 24 v) (h : DataW.Trod enc Try.prog W 0 sp true 24 v d ps) : ∃ p : Pl, v = .agg #[.int .i64 p.n, .int .i64 p.u, .string p.s] ∧ WidePl p := by
  obtain ⟨cs, rfl, _⟩ := okWide_struct Try.underlying24 hv
  obtain ⟨fuel, hf⟩ := h
  obtain ⟨p, e, hw⟩ := read_pl hf
  refine ⟨p, ?_, hw⟩
  obtain ⟨l⟩ := cs
  simp [Value.cells] at e
  rw [e]
theorem add_plain (b o n : Nat) : (⟨b, o, none⟩ : Addr).add n = ⟨b, o + n, none⟩ := Addr.add_lit b o n
/-- A list of places among the arguments. -/
theorem open_tree {H : Type} {enc : TypeId × Value → H} {W : World} {base : Nat} {v : Value} {d : DataW H} {ps : List MemPlace}
    (hv : Value.okWide Try.prog W .any base 22 v) (h : DataW.Trod enc Try.prog W 0 (fun _ => true) true 22 v d ps) :
    ∃ (A : Option Addr) (cap : Nat) (l : List Pl), v = .slice A l.length cap ∧ Tr W A l ∧ l.length ≤ cap ∧ (A = none → cap = 0) ∧ ∀ p ∈ l, WidePl p := by
  obtain ⟨a0, len, cap, rfl, _⟩ := okWide_slice Try.underlying22 hv
  obtain ⟨fuel, hf⟩ := h
  rcases open_slice Try.underlying22 hf with ⟨hcs, hx⟩ | ⟨a, len', cap', m, n, D, Pls, hcs, _, hle, hm, hmm, hx, hi⟩
  · simp [Value.cells] at hcs
    obtain ⟨rfl, rfl, rfl⟩ := hcs
    exact ⟨none, 0, [], rfl, Tr.nil W none, Nat.le_refl _, fun _ => rfl, fun p hp => by cases hp⟩
  · simp [Value.cells] at hcs
    obtain ⟨rfl, rfl, rfl⟩ := hcs
    simp only [if_true] at hmm
    have hv : ∀ i, i < m → ∃ p : Pl, WidePl p ∧ W.cells? 0 (a.add (i * 3)) 3 = some [.int .i64 p.n, .int .i64 p.u, .string p.s] := by
      intro i him
      obtain ⟨cs', h1, h2⟩ := hi i him
      rw [cells24] at h1
      obtain ⟨p, rfl, hw⟩ := read_pl h2
      exact ⟨p, hw, h1⟩
    obtain ⟨f, hf2⟩ := choose_lt hv
    have hlen : ((List.range len).map f).length = len := by simp
    refine ⟨some a, cap, (List.range len).map f, by rw [hlen], fun h => ?_, by rw [hlen]; exact hle, (fun e => by cases e), fun p hp => ?_⟩
    · rw [hlen] at h
      obtain ⟨bb, off, spot⟩ := a
      have cell : ∀ i, i < len → ∀ j v, [Value.int .i64 (f i).n, .int .i64 (f i).u, .string (f i).s][j]? = some v → W.cell? (((⟨bb, off, spot⟩ : Addr).add (i * 3)).add j) = some v := by
        intro i hil j v hv
        obtain ⟨_, _, hcell⟩ := World.cells?_some (hf2 i (by omega)).2
        have hj : j < 3 := by have := (List.getElem?_eq_some_iff.1 hv).1; simpa using this
        have := hcell j hj
        rw [this]; exact hv
      have hspot : spot = none := by
        have := cell 0 h 0 _ rfl
        simpa [Addr.add] using World.cell?_spot this
      subst hspot
      refine ⟨bb, off, rfl, block_lt_of_cell (cell 0 h 0 _ rfl), fun i hil => ?_⟩
      have hil' : i < len := by rw [hlen] at hil; exact hil
      have he : ((List.range len).map f)[i] = f i := by simp
      rw [he]
      refine ⟨?_, ?_, ?_⟩
      · have := cell i hil' 0 _ rfl; rwa [add_plain, add_plain] at this
      · have := cell i hil' 1 _ rfl; rwa [add_plain, add_plain] at this
      · have := cell i hil' 2 _ rfl; rwa [add_plain, add_plain] at this
    · obtain ⟨i, hi2, rfl⟩ := List.mem_map.1 hp
      exact (hf2 i (by have := List.mem_range.1 hi2; omega)).1

theorem long_le {l : List Pl} (h : ∀ p ∈ l, WidePl p) : ∀ p ∈ l, p.s.size ≤ 9223372036854775807 := fun p hp => Nat.le_trans (h p hp).2.2 (by unfold maxLen; omega)
theorem open_three {H : Type} {enc : TypeId × Value → H} {W : World} {base : Nat} {sp : Nat → Bool} {v : Value} {d : DataW H} {ps : List MemPlace}
    (hv : Value.okWide Try.prog W .any base 45 v) (h : DataW.Trod enc Try.prog W 0 sp true 45 v d ps) : ∃ a b c : Nat, v = .agg #[.int .u8 a, .int .u8 b, .int .u8 c] ∧ a < 256 ∧ b < 256 ∧ c < 256 := by
  obtain ⟨cs, rfl, hsz⟩ : ∃ cs : Array Value, v = .agg cs ∧ cs.size = 3 := by
    simp only [Value.okWide, Try.underlying45] at hv
    obtain ⟨cs, h1, h2, _⟩ := hv
    exact ⟨cs, h1, by rw [h2, cells45]⟩
  obtain ⟨fuel, hf⟩ := h
  obtain ⟨xs, m, rfl, _, hlen, hn, hel⟩ := DataW.trod_array Try.underlying45 hf
  have hcs : (Value.agg cs).cells.toList = cs.toList := rfl
  rw [hcs] at hel
  have hone : ∀ i, i < 3 → ∃ a : Nat, cs[i]? = some (.int .u8 a) ∧ a < 256 := by
    intro i hi
    have h1 := hel i hi
    rw [cells5, Nat.mul_one] at h1
    obtain ⟨x, hxk⟩ : ∃ x, xs[i]? = some x := ⟨_, List.getElem?_eq_getElem (by omega)⟩
    rw [hxk] at h1
    obtain ⟨n, e1, _, wf⟩ := DataW.trod_int Try.underlying5 h1
    have hb := bounds_u8 wf
    have h5 := congrArg (·[0]?) e1
    refine ⟨n.toNat, ?_, by omega⟩
    rw [Int.toNat_of_nonneg hb.1, ← Array.getElem?_toList]
    simpa using h5
  obtain ⟨a, ha, ha2⟩ := hone 0 (by decide)
  obtain ⟨b, hb, hb2⟩ := hone 1 (by decide)
  obtain ⟨c, hc, hc2⟩ := hone 2 (by decide)
  refine ⟨a, b, c, ?_, ha2, hb2, hc2⟩
  congr 1
  apply Array.ext_getElem?
  intro i
  match i with
  | 0 => rw [ha]; rfl
  | 1 => rw [hb]; rfl
  | 2 => rw [hc]; rfl
  | i + 3 => rw [Array.getElem?_eq_none (by omega)]; simp
end Go.Proofs.Ytfhonobaddkmhaa
