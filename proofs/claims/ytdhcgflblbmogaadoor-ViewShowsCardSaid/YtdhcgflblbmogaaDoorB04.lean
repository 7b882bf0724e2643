/- Texts laid one behind the other: To, Uo, Yi, Yp. -/
import Derived.Test.YtdhcgflblbmogaaDoorB03
import Derived.Lib.QuietBelow
import Derived.Lib.SmallJoins
import Derived.Deep.SlicePairs
import Derived.ChangeSlices
import Derived.ChangeShapes
import Derived.Test.YtdhcgflblbmogaaDoorTie
import Derived.Test.YtdhcgflblbmogaaDoorCards
import Derived.LaidMore
import Derived.Stop.Joined
import Derived.Stop.LaidErr
import Derived.SevenTiedAt
/- How the arguments of the laws are opened. -/
namespace Go.Proofs.YtdhcgflblbmogaaDoor
open Go.ChangeShapes Go.WideShapes Go.ChangeAt Go.RowKit Go.Deep Nam Cod Tre

theorem cells24 : Tryd.prog.cellsOf 33 = 3 := by kernel_rfl
/-- Its numbers are words, its text isn't too long for a machine. -/
def WidePl (p : Pl) : Prop := i64 p.n ∧ i64 p.u ∧ p.s.size ≤ maxLen
set_option maxRecDepth 100000 in
theorem read_pl {H : Type} {enc : TypeId × Value → H} {W : World} {base : Nat} {sp : Nat → Bool} {held : Bool} {fuel : Nat} {cs : List Value} {x : DataW H × List MemPlace}
    (h : DataW.trod enc Tryd.prog W base sp held fuel 33 cs = some x) : ∃ p : Pl, cs = [.int .i64 p.n, .int .i64 p.u, .string p.s] ∧ WidePl p := by
  obtain ⟨xs, n, _, _, hl, hlen, hf⟩ := DataW.trod_struct Tryd.underlying33 h
  have hl3 : cs.length = 3 := hl.trans cells24
  have hlx : xs.length = 3 := hlen
  match cs, hl3, xs, hlx with
  | [c0, c1, c2], _, [y0, y1, y2], _ =>
    have h0 := hf 0 _ rfl
    have h1 := hf 1 _ rfl
    have h2 := hf 2 _ rfl
    simp [cells3, cells9] at h0 h1 h2
    obtain ⟨n, e0, _, w0⟩ := DataW.trod_int Tryd.underlying3 h0
    obtain ⟨u, e1, _, w1⟩ := DataW.trod_int Tryd.underlying3 h1
    obtain ⟨s, e2, _, w2⟩ := DataW.trod_string Tryd.underlying9 h2
    simp at e0 e1 e2
    subst e0 e1 e2
    have b0 := bounds_i64 w0
    have b1 := bounds_i64 w1
    have j0 : i64 n := ⟨by omega, by omega⟩
    have j1 : i64 u := ⟨by omega, by omega⟩
    exact ⟨⟨n, u, s⟩, rfl, j0, j1, w2⟩
set_option maxRecDepth 100000 in
theorem open_pl {H : Type} {enc : TypeId × Value → H} {W : World} {base : Nat} {sp : Nat → Bool} {v : Value} {d : DataW H} {ps : List MemPlace}
    (hv : Value.okWide Tryd.prog W .any base 33 v) (h : DataW.Trod enc Tryd.prog W 0 sp true 33 v d ps) : ∃ p : Pl, v = .agg #[.int .i64 p.n, .int .i64 p.u, .string p.s] ∧ WidePl p := by
  obtain ⟨cs, rfl, _⟩ := okWide_struct Tryd.underlying33 hv
  obtain ⟨fuel, hf⟩ := h
  obtain ⟨p, e, hw⟩ := read_pl hf
  refine ⟨p, ?_, hw⟩
  obtain ⟨l⟩ := cs
  simp [Value.cells] at e
  rw [e]
theorem add_plain (b o n : Nat) : (⟨b, o, none⟩ : Addr).add n = ⟨b, o + n, none⟩ := Addr.add_lit b o n
set_option maxRecDepth 100000 in
/-- A list of places among the arguments. -/
theorem open_tree {H : Type} {enc : TypeId × Value → H} {W : World} {base : Nat} {v : Value} {d : DataW H} {ps : List MemPlace}
    (hv : Value.okWide Tryd.prog W .any base 22 v) (h : DataW.Trod enc Tryd.prog W 0 (fun _ => true) true 22 v d ps) :
    ∃ (A : Option Addr) (cap : Nat) (l : List Pl), v = .slice A l.length cap ∧ Tr W A l ∧ l.length ≤ cap ∧ (A = none → cap = 0) ∧ ∀ p ∈ l, WidePl p := by
  obtain ⟨a0, len, cap, rfl, _⟩ := okWide_slice Tryd.underlying22 hv
  obtain ⟨fuel, hf⟩ := h
  rcases open_slice Tryd.underlying22 hf with ⟨hcs, hx⟩ | ⟨a, len', cap', m, n, D, Pls, hcs, _, hle, hm, hmm, hx, hi⟩
  · simp [Value.cells] at hcs
    obtain ⟨rfl, rfl, rfl⟩ := hcs
    exact ⟨none, 0, [], rfl, Tr.nil W none, Nat.le_refl _, fun _ => rfl, fun p hp => by cases hp⟩
  · simp [Value.cells] at hcs
    obtain ⟨rfl, rfl, rfl⟩ := hcs
    simp only [if_true] at hmm
    have hv : ∀ i, i < m → ∃ p : Pl, WidePl p ∧ W.cells? 0 (a.add (i * 3)) 3 = some [.int .i64 p.n, .int .i64 p.u, .string p.s] := by
      intro i him
      obtain ⟨cs', h1, h2⟩ := hi i him
      rw [cells24] at h1
      obtain ⟨p, rfl, hw⟩ := read_pl h2
      exact ⟨p, hw, h1⟩
    obtain ⟨f, hf2⟩ := choose_lt hv
    have hlen : ((List.range len).map f).length = len := by simp
    refine ⟨some a, cap, (List.range len).map f, by rw [hlen], fun h => ?_, by rw [hlen]; exact hle, (fun e => by cases e), fun p hp => ?_⟩
    · rw [hlen] at h
      obtain ⟨bb, off, spot⟩ := a
      have cell : ∀ i, i < len → ∀ j v, [Value.int .i64 (f i).n, .int .i64 (f i).u, .string (f i).s][j]? = some v → W.cell? (((⟨bb, off, spot⟩ : Addr).add (i * 3)).add j) = some v := by
        intro i hil j v hv
        obtain ⟨_, _, hcell⟩ := World.cells?_some (hf2 i (by omega)).2
        have hj : j < 3 := by have := (List.getElem?_eq_some_iff.1 hv).1; simpa using this
        have := hcell j hj
        rw [this]; exact hv
      have hspot : spot = none := by
        have := cell 0 h 0 _ rfl
        simpa [Addr.add] using World.cell?_spot this
      subst hspot
      refine ⟨bb, off, rfl, block_lt_of_cell (cell 0 h 0 _ rfl), fun i hil => ?_⟩
      have hil' : i < len := by rw [hlen] at hil; exact hil
      have he : ((List.range len).map f)[i] = f i := by simp
      rw [he]
      refine ⟨?_, ?_, ?_⟩
      · have := cell i hil' 0 _ rfl; rwa [add_plain, add_plain] at this
      · have := cell i hil' 1 _ rfl; rwa [add_plain, add_plain] at this
      · have := cell i hil' 2 _ rfl; rwa [add_plain, add_plain] at this
    · obtain ⟨i, hi2, rfl⟩ := List.mem_map.1 hp
      exact (hf2 i (by have := List.mem_range.1 hi2; omega)).1

theorem long_le {l : List Pl} (h : ∀ p ∈ l, WidePl p) : ∀ p ∈ l, p.s.size ≤ 9223372036854775807 := fun p hp => Nat.le_trans (h p hp).2.2 (by unfold maxLen; omega)
end Go.Proofs.YtdhcgflblbmogaaDoor

/- Slices among the arguments, opened, whatever their elements; bytes as elements. -/
namespace Go.Proofs.YtdhcgflblbmogaaDoor
open Go.ChangeShapes Go.WideShapes Go.ChangeAt Go.RowKit Go.Deep Nam Cod Tre

def byE : El Int where
  e := 5
  k := 1
  c x := [.int .u8 x]
  len _ := rfl
  one p u h := by
    simp only [List.mem_cons, List.not_mem_nil, or_false] at h
    subst h; rfl
  pos := by decide
set_option maxRecDepth 100000 in
theorem open_list {α : Type} (E : El α) (Q : α → Prop) {st : TypeId} (hu : Tryd.prog.underlying st = some (.slice E.e)) (hk : Tryd.prog.cellsOf E.e = E.k) [Inhabited α] {H : Type} {enc : TypeId × Value → H} {W : World} {base : Nat} {v : Value} {d : DataW H} {ps : List MemPlace}
    (hrd : ∀ {base : Nat} {sp : Nat → Bool} {held : Bool} {fuel : Nat} {cs : List Value} {x : DataW H × List MemPlace}, DataW.trod enc Tryd.prog W base sp held fuel E.e cs = some x → ∃ a, cs = E.c a ∧ Q a)
    (hv : Value.okWide Tryd.prog W .any base st v) (h : DataW.Trod enc Tryd.prog W 0 (fun _ => true) true st v d ps) :
    ∃ (A : Option Addr) (cap : Nat) (l : List α), v = .slice A l.length cap ∧ E.Sl W A l ∧ l.length ≤ cap ∧ (A = none → cap = 0) ∧ ∀ p ∈ l, Q p := by
  obtain ⟨a0, len, cap, rfl, _⟩ := okWide_slice hu hv
  obtain ⟨fuel, hf⟩ := h
  rcases open_slice hu hf with ⟨hcs, hx⟩ | ⟨a, len', cap', m, n, D, Pls, hcs, _, hle, hm, hmm, hx, hi⟩
  · simp [Value.cells] at hcs
    obtain ⟨rfl, rfl, rfl⟩ := hcs
    exact ⟨none, 0, [], rfl, El.Sl.nil W none, Nat.le_refl _, fun _ => rfl, fun p hp => by cases hp⟩
  · simp [Value.cells] at hcs
    obtain ⟨rfl, rfl, rfl⟩ := hcs
    simp only [if_true] at hmm
    have hv : ∀ i, i < m → ∃ p : α, Q p ∧ W.cells? 0 (a.add (i * E.k)) E.k = some (E.c p) := by
      intro i him
      obtain ⟨cs', h1, h2⟩ := hi i him
      rw [hk] at h1
      obtain ⟨p, rfl, hw⟩ := hrd h2
      exact ⟨p, hw, h1⟩
    obtain ⟨f, hf2⟩ := choose_lt hv
    have hlen : ((List.range len).map f).length = len := by simp
    refine ⟨some a, cap, (List.range len).map f, by rw [hlen], fun h => ?_, by rw [hlen]; exact hle, (fun e => by cases e), fun p hp => ?_⟩
    · rw [hlen] at h
      obtain ⟨bb, off, spot⟩ := a
      have cell : ∀ i, i < len → ∀ j v, (E.c (f i))[j]? = some v → W.cell? (((⟨bb, off, spot⟩ : Addr).add (i * E.k)).add j) = some v := by
        intro i hil j v hv
        obtain ⟨_, _, hcell⟩ := World.cells?_some (hf2 i (by omega)).2
        have hj : j < E.k := by have := (List.getElem?_eq_some_iff.1 hv).1; rw [E.len] at this; exact this
        have := hcell j hj
        rw [this]; exact hv
      have h00 : ∃ v, (E.c (f 0))[0]? = some v := ⟨(E.c (f 0))[0]'(by rw [E.len]; exact E.pos), List.getElem?_eq_getElem _⟩
      obtain ⟨v0, hv0⟩ := h00
      have hspot : spot = none := by
        have := cell 0 h 0 _ hv0
        simpa [Addr.add] using World.cell?_spot this
      subst hspot
      refine ⟨bb, off, rfl, (by have h9 := block_lt_of_cell (cell 0 h 0 _ hv0); rw [add_plain, add_plain] at h9; exact h9), fun i hil => ?_⟩
      have hil' : i < len := by rw [hlen] at hil; exact hil
      have he : ((List.range len).map f)[i] = f i := by simp
      rw [he]
      intro j u hu
      have := cell i hil' j u hu
      rwa [add_plain, add_plain] at this
    · obtain ⟨i, hi2, rfl⟩ := List.mem_map.1 hp
      exact (hf2 i (by have := List.mem_range.1 hi2; omega)).1

set_option maxRecDepth 100000 in
theorem open_bytes {H : Type} {enc : TypeId × Value → H} {W : World} {base : Nat} {v : Value} {d : DataW H} {ps : List MemPlace}
    (hv : Value.okWide Tryd.prog W .any base 47 v) (h : DataW.Trod enc Tryd.prog W 0 (fun _ => true) true 47 v d ps) :
    ∃ (A : Option Addr) (cap : Nat) (l : List Int), v = .slice A l.length cap ∧ byE.Sl W A l ∧ l.length ≤ cap ∧ (A = none → cap = 0) ∧ ∀ t ∈ l, 0 ≤ t ∧ t ≤ 255 :=
  open_list byE (fun t => 0 ≤ t ∧ t ≤ 255) Tryd.underlying47 cells5 (fun h => by
    obtain ⟨x, e, _, wf⟩ := DataW.trod_int Tryd.underlying5 h
    have hb := bounds_u8 wf
    exact ⟨x, e, by omega, by omega⟩) hv h
set_option maxRecDepth 100000 in
theorem open_u8 {H : Type} {enc : TypeId × Value → H} {W : World} {base : Nat} {sp : Nat → Bool} {v : Value} {d : DataW H} {ps : List MemPlace}
    (hv : Value.okWide Tryd.prog W .any base 5 v) (h : DataW.Trod enc Tryd.prog W 0 sp true 5 v d ps) : ∃ t : Int, v = .int .u8 t ∧ 0 ≤ t ∧ t ≤ 255 := by
  obtain ⟨a, rfl, _, _, wf⟩ := open_int Tryd.underlying5 hv h
  have hb := bounds_u8 wf
  exact ⟨a, rfl, by omega, by omega⟩
/-- A block that is a row of these. -/
theorem El.Sl.row {α : Type} {E : El α} (w : World) (l : List α) (cs : Array Value) (hc : cs = (E.cells l).toArray) : E.Sl (w.alloc (.cells cs E.e)) (some ⟨w.heap.size, 0, none⟩) l := fun _ => by
  subst hc
  refine ⟨w.heap.size, 0, rfl, by rw [alloc_size]; omega, fun i hi j u hu => ?_⟩
  have h := cell_of_row (w.alloc (.cells (E.cells l).toArray E.e)) w.heap.size (i * E.k + j) _ E.e (0, 0) (heap_alloc_new w _)
  rw [show 0 + i * E.k + j = i * E.k + j by omega, h]
  simpa using El.cells_at l i hi j u hu
set_option maxRecDepth 100000 in
/-- A slice among the cells of an argument. -/
theorem open_cells {α : Type} (E : El α) (Q : α → Prop) {st : TypeId} (hu : Tryd.prog.underlying st = some (.slice E.e)) (hk : Tryd.prog.cellsOf E.e = E.k) [Inhabited α] {H : Type} {enc : TypeId × Value → H} {W : World} {fuel : Nat} {cs : List Value} {x : DataW H × List MemPlace}
    (hrd : ∀ {base : Nat} {sp : Nat → Bool} {held : Bool} {fuel : Nat} {cs : List Value} {x : DataW H × List MemPlace}, DataW.trod enc Tryd.prog W base sp held fuel E.e cs = some x → ∃ a, cs = E.c a ∧ Q a)
    (hf : DataW.trod enc Tryd.prog W 0 (fun _ => true) true fuel st cs = some x) :
    ∃ (A : Option Addr) (cap : Nat) (l : List α), cs = [.slice A l.length cap] ∧ (E.Sl W A l ∧ (A = none → cap = 0) ∧ l.length ≤ cap) ∧ ∀ p ∈ l, Q p := by
  rcases open_slice hu hf with ⟨hcs, hx⟩ | ⟨a, len, cap, m, n, D, Pls, hcs, _, hle, hm, hmm, hx, hi⟩
  · exact ⟨none, 0, [], hcs, ⟨El.Sl.nil W none, fun _ => rfl, Nat.le_refl _⟩, fun p hp => by cases hp⟩
  · simp only [if_true] at hmm
    have hv : ∀ i, i < m → ∃ p : α, Q p ∧ W.cells? 0 (a.add (i * E.k)) E.k = some (E.c p) := by
      intro i him
      obtain ⟨cs', h1, h2⟩ := hi i him
      rw [hk] at h1
      obtain ⟨p, rfl, hw⟩ := hrd h2
      exact ⟨p, hw, h1⟩
    obtain ⟨f, hf2⟩ := choose_lt hv
    have hlen : ((List.range len).map f).length = len := by simp
    refine ⟨some a, cap, (List.range len).map f, by rw [hlen]; exact hcs, ⟨fun h => ?_, (fun e => by cases e), by rw [hlen]; exact hle⟩, fun p hp => ?_⟩
    · rw [hlen] at h
      obtain ⟨bb, off, spot⟩ := a
      have cell : ∀ i, i < len → ∀ j v, (E.c (f i))[j]? = some v → W.cell? (((⟨bb, off, spot⟩ : Addr).add (i * E.k)).add j) = some v := by
        intro i hil j v hv
        obtain ⟨_, _, hcell⟩ := World.cells?_some (hf2 i (by omega)).2
        have hj : j < E.k := by have := (List.getElem?_eq_some_iff.1 hv).1; rw [E.len] at this; exact this
        have := hcell j hj
        rw [this]; exact hv
      have h00 : ∃ v, (E.c (f 0))[0]? = some v := ⟨(E.c (f 0))[0]'(by rw [E.len]; exact E.pos), List.getElem?_eq_getElem _⟩
      obtain ⟨v0, hv0⟩ := h00
      have hspot : spot = none := by
        have := cell 0 h 0 _ hv0
        simpa [Addr.add] using World.cell?_spot this
      subst hspot
      refine ⟨bb, off, rfl, (by have h9 := block_lt_of_cell (cell 0 h 0 _ hv0); rw [add_plain, add_plain] at h9; exact h9), fun i hil => ?_⟩
      have hil' : i < len := by rw [hlen] at hil; exact hil
      have he : ((List.range len).map f)[i] = f i := by simp
      rw [he]
      intro j u hu
      have := cell i hil' j u hu
      rwa [add_plain, add_plain] at this
    · obtain ⟨i, hi2, rfl⟩ := List.mem_map.1 hp
      exact (hf2 i (by have := List.mem_range.1 hi2; omega)).1
end Go.Proofs.YtdhcgflblbmogaaDoor

/- Of the laws on what is shown: awake. -/
namespace Go.Proofs.YtdhcgflblbmogaaDoor
open Go.RowKit Tre Cod Nam

def ta : ByteArray := ⟨#[97]⟩
def tb : ByteArray := ⟨#[98]⟩
def T0 : List Pl := [⟨2, 0, ⟨#[97]⟩⟩, ⟨3, 0, ⟨#[97]⟩⟩, ⟨4, 2, ⟨#[98]⟩⟩, ⟨5, 1, ⟨#[99]⟩⟩, ⟨6, 40, ⟨#[100]⟩⟩]
theorem T0_tree : treeB T0 = true := by rfl
theorem T0_twin : twinOf ⟨#[97]⟩ 3 = ⟨#[97, 126, 51]⟩ := by
  unfold twinOf
  rw [Lib.decDigits_one (by decide)]; rfl
theorem T0_show : showV T0 = [⟨2, 0, ⟨#[97]⟩⟩, ⟨4, 2, ⟨#[98]⟩⟩, ⟨3, 0, ⟨#[97, 126, 51]⟩⟩] := by
  rw [← T0_twin]
  unfold showV
  rw [T0_tree]; rfl
theorem T0_trash : trashV T0 = [⟨5, 1, ⟨#[99]⟩⟩] := by
  unfold trashV
  rw [T0_tree]; rfl
theorem T0_path4 : pathL (showV T0) 4 = ⟨#[47, 97, 47, 98]⟩ := by rw [T0_show]; rfl
theorem T0_path5 : pathL (showV T0) 5 = ⟨#[]⟩ := by rw [T0_show]; rfl
theorem T0_look : lookV T0 ⟨#[47, 97, 47, 98]⟩ = (4, true) := by unfold lookV; rw [T0_show]; rfl

set_option maxRecDepth 100000 in
set_option maxHeartbeats 4000000 in
theorem awake9_any (w : World) : Calls Tryd.prog 7 #[] w fun e w' => e = .returned (.bool true) ∧ Below w.heap.size w w' := by
  have hT : plE.Sl (w.alloc (.cells #[.int .i64 2, .int .i64 0, .string ⟨#[97]⟩, .int .i64 3, .int .i64 0, .string ⟨#[97]⟩, .int .i64 4, .int .i64 2, .string ⟨#[98]⟩, .int .i64 5, .int .i64 1, .string ⟨#[99]⟩, .int .i64 6, .int .i64 40, .string ⟨#[100]⟩] 33)) (some ⟨w.heap.size, 0, none⟩) T0 := El.Sl.row (E := plE) w T0 _ rfl
  have hB := below_alloc (Below.refl w.heap.size w) (.cells #[.int .i64 2, .int .i64 0, .string ⟨#[97]⟩, .int .i64 3, .int .i64 0, .string ⟨#[97]⟩, .int .i64 4, .int .i64 2, .string ⟨#[98]⟩, .int .i64 5, .int .i64 1, .string ⟨#[99]⟩, .int .i64 6, .int .i64 40, .string ⟨#[100]⟩] 33)
  have hsz : ∀ p ∈ T0, p.s.size ≤ 9223372036854775807 := fun p hp => by have := (tree_fit T0_tree p hp).s; omega
  have HS := Lib.hid (fun (wx : World) (A : Option Addr) (h : plE.Sl wx A T0) => (by have h2 := pShow_any A 5 T0 wx (by decide) hsz h; rw [T0_show] at h2; exact h2 : Calls Tryd.prog 11 #[.slice A 5 5] wx fun e w' => ∃ A' c', e = .returned (.slice A' 3 c') ∧ SlV seE w' A' c' [⟨2, 0, ⟨#[97]⟩⟩, ⟨4, 2, ⟨#[98]⟩⟩, ⟨3, 0, ⟨#[97, 126, 51]⟩⟩] ∧ Below wx.heap.size wx w'))
  have HT := Lib.hid (fun (wx : World) (A : Option Addr) (h : plE.Sl wx A T0) => (by have h2 := pTrash_any A 5 T0 wx (by decide) hsz h; rw [T0_trash] at h2; exact h2 : Calls Tryd.prog 13 #[.slice A 5 5] wx fun e w' => ∃ A' c', e = .returned (.slice A' 1 c') ∧ SlV seE w' A' c' [⟨5, 1, ⟨#[99]⟩⟩] ∧ Below wx.heap.size wx w'))
  have HP4 := Lib.hid (fun (wx : World) (A : Option Addr) (h : plE.Sl wx A T0) => (by have h2 := pPath_any A 5 T0 4 wx T0_tree (by decide) h; rw [T0_path4] at h2; exact h2 : Calls Tryd.prog 16 #[.slice A 5 5, .int .i64 4] wx fun e w' => e = .returned (.string ⟨#[47, 97, 47, 98]⟩) ∧ Below wx.heap.size wx w'))
  have HP5 := Lib.hid (fun (wx : World) (A : Option Addr) (h : plE.Sl wx A T0) => (by have h2 := pPath_any A 5 T0 5 wx T0_tree (by decide) h; rw [T0_path5] at h2; exact h2 : Calls Tryd.prog 16 #[.slice A 5 5, .int .i64 5] wx fun e w' => e = .returned (.string ⟨#[]⟩) ∧ Below wx.heap.size wx w'))
  have HL := Lib.hid (fun (wx : World) (A : Option Addr) (h : plE.Sl wx A T0) => (by have h2 := pLook_any A 5 T0 ⟨#[47, 97, 47, 98]⟩ wx (by decide) hsz h; rw [T0_look] at h2; exact h2 : Calls Tryd.prog 8 #[.slice A 5 5, .string ⟨#[47, 97, 47, 98]⟩] wx fun e w' => e = .returned (.tuple #[.int .i64 4, .bool true]) ∧ Below wx.heap.size wx w'))
  go_enter Tryd.func7, Tryd.ntmps7
  go_wp2_with fail
  generalize w.alloc (.cells #[.int .i64 2, .int .i64 0, .string ⟨#[97]⟩, .int .i64 3, .int .i64 0, .string ⟨#[97]⟩, .int .i64 4, .int .i64 2, .string ⟨#[98]⟩, .int .i64 5, .int .i64 1, .string ⟨#[99]⟩, .int .i64 6, .int .i64 40, .string ⟨#[100]⟩] 33) = W at *
  generalize (some (Addr.mk w.heap.size 0 none)) = A at *
  refine (HS.out W A hT).mono ?_
  rintro e w1 ⟨A1, c1, rfl, hS1, hb1⟩
  have hT1 := hT.below hb1
  have hB1 := hB.trans (hb1.mono hB.size)
  clear hT hB hb1 HS
  go_wp2_with fail
  refine (HL.out w1 A hT1).mono ?_
  rintro e w2 ⟨rfl, hb2⟩
  have hT2 := hT1.below hb2
  have hS2 := hS1.below hb2
  have hB2 := hB1.trans (hb2.mono hB1.size)
  clear hT1 hB1 hb2 HL hS1
  obtain ⟨b, off, hA1, hbw, hc⟩ := hS2.1 (by decide)
  subst hA1
  have a2 : w2.cell? ⟨b, off + 2, none⟩ = some (.string ⟨#[97]⟩) := (seAt3 (hc 0 (by decide))).2.2
  have b0 : w2.cell? ⟨b, off + 3, none⟩ = some (.int .i64 4) := (seAt3 (hc 1 (by decide))).1
  have d2 : w2.cell? ⟨b, off + 8, none⟩ = some (.string ⟨#[97, 126, 51]⟩) := (seAt3 (hc 2 (by decide))).2.2
  clear hc
  go_wp2_with fail
  clear a2 b0 d2
  refine (HT.out w2 A hT2).mono ?_
  rintro e w3 ⟨A3, c3, rfl, _, hb3⟩
  have hT3 := hT2.below hb3
  have hB3 := hB2.trans (hb3.mono hB2.size)
  clear hT2 hB2 hb3 HT hS2
  go_wp2_with fail
  refine (HP4.out w3 A hT3).mono ?_
  rintro e w4 ⟨rfl, hb4⟩
  have hT4 := hT3.below hb4
  have hB4 := hB3.trans (hb4.mono hB3.size)
  clear hT3 hB3 hb4 HP4
  go_wp2_with fail
  refine (HP5.out w4 A hT4).mono ?_
  rintro e w5 ⟨rfl, hb5⟩
  go_wp2_with fail
  go_ret
  exact ⟨rfl, hB4.trans (hb5.mono hB4.size)⟩
end Go.Proofs.YtdhcgflblbmogaaDoor

/- What the listed tables give at the start that meets the condition (no table is read by the walks). -/
namespace Go.Proofs.YtdhcgflblbmogaaDoor
open Go.ChangeShapes Go.WideShapes Go.ChangeAt Go.RowKit

abbrev laid3 {H : Type} : List (String × DataW H) := [("math/bits.deBruijn32tab", Rows.laid_math_bits_deBruijn32tab), ("math/bits.deBruijn64tab", Rows.laid_math_bits_deBruijn64tab), ("internal/strconv.uint64pow10", Rows.laid_internal_strconv_uint64pow10)]
theorem door_met (os : Os) (args : Array Value) : laidMetH Tryd.prog laid3 ((World.doorLaid Tryd.prog 24 os).forCall (fun _ _ => 0) ⟨#[], args, []⟩).memory :=
  laidMetH_of_parts3 (fuel := 8) (laidMet_of_run' 8 (by kernel_rfl) (by kernel_rfl)) (by kernel_rfl) (by kernel_rfl)
end Go.Proofs.YtdhcgflblbmogaaDoor
