/- Texts laid one behind the other: Tn, To, Uo, Gr, Qb, Qc, Eb, Qd, Qe, Ek, Qf. -/
import Derived.Test.YtdkolkjgojamcaaB02
import Derived.Lib.QuietBelow
import Derived.Lib.SmallJoins
import Derived.Deep.SlicePairs
import Derived.ChangeSlices
import Derived.ChangeShapes
import Derived.Deep.RegionHeld3
import Derived.Lib.MinMax
import Derived.Deep.CutRange
import Derived.BigQuiet
import Derived.Deep.QuietTactic
/- Places and trees as bytes; what may be a tree. -/
namespace Go.Proofs.Ytdkolkjgojamcaa
open Go.RowKit Nam Cod Tre

def isPlace (s : ByteArray) (p : Nat) (bad : Bool) : Option (Pl × Nat) :=
  (isNum s p bad).bind fun a => (isNum s a.2 false).bind fun b => (isText s b.2 false 16).bind fun c => some (⟨a.1, b.1, c.1⟩, c.2)
/-- So many places, from p on. -/
def isPlaces (s : ByteArray) : Nat → Nat → Option (List Pl × Nat)
  | 0, p => some ([], p)
  | n + 1, p => (isPlaces s n p).bind fun a => (isPlace s a.2 false).bind fun b => some (a.1 ++ [b.1], b.2)
def okPl (p : Pl) : Bool := decide (2 ≤ p.n ∧ p.n < 64 ∧ 0 ≤ p.u ∧ p.u < 64) && isName (L p.s)
def rising : List Pl → Bool
  | [] => true
  | [_] => true
  | p :: q :: l => decide (p.n < q.n) && rising (q :: l)
def treeB (l : List Pl) : Bool := l.all okPl && (rising l && l.all fun p => !above l p.n p.u)
def isTree (s : ByteArray) (p : Nat) (bad : Bool) : Option (List Pl × Nat) :=
  (isCount s p bad 64).bind fun a => (isPlaces s a.1.toNat a.2).bind fun b => if treeB b.1 = true then some b else none

def plBytes (p : Pl) : ByteArray := bytesOf p.n ++ bytesOf p.u ++ textOf p.s
def catL : List Pl → ByteArray
  | [] => ⟨#[]⟩
  | p :: l => plBytes p ++ catL l
def treeBytes (l : List Pl) : ByteArray := bytesOf l.length ++ catL l
/-- Numbers that a word holds; a text that isn't too long. -/
structure Fit (p : Pl) : Prop where
  n1 : -9223372036854775808 ≤ p.n
  n2 : p.n ≤ 9223372036854775807
  u1 : -9223372036854775808 ≤ p.u
  u2 : p.u ≤ 9223372036854775807
  s : p.s.size ≤ 16

theorem bempty (x : ByteArray) : x ++ (⟨#[]⟩ : ByteArray) = x := by apply L_inj; rw [L_app]; simp [L]
theorem empty_b (x : ByteArray) : (⟨#[]⟩ : ByteArray) ++ x = x := by apply L_inj; rw [L_app]; simp [L]
theorem catL_snoc (l : List Pl) (p : Pl) : catL (l ++ [p]) = catL l ++ plBytes p := by
  induction l with
  | nil => show plBytes p ++ ⟨#[]⟩ = ⟨#[]⟩ ++ plBytes p; rw [bempty, empty_b]
  | cons q l ih => show plBytes q ++ catL (l ++ [p]) = (plBytes q ++ catL l) ++ plBytes p; rw [ih, ByteArray.append_assoc]
theorem catL_app (l m : List Pl) : catL (l ++ m) = catL l ++ catL m := by
  induction l with
  | nil => exact (empty_b _).symm
  | cons q l ih => show plBytes q ++ catL (l ++ m) = (plBytes q ++ catL l) ++ catL m; rw [ih, ByteArray.append_assoc]
theorem okPl_fit {p : Pl} (h : okPl p = true) : Fit p ∧ 2 ≤ p.n ∧ p.n < 64 ∧ 0 ≤ p.u ∧ p.u < 64 ∧ isName (L p.s) = true := by
  unfold okPl at h
  rw [Bool.and_eq_true, decide_eq_true_iff] at h
  have hl := isName_len h.2
  rw [L_len] at hl
  exact ⟨⟨by omega, by omega, by omega, by omega, hl.2⟩, h.1.1, h.1.2.1, h.1.2.2.1, h.1.2.2.2, h.2⟩
theorem plBytes_le {p : Pl} (h : Fit p) : (plBytes p).size ≤ 46 := by
  unfold plBytes textOf
  simp only [ByteArray.size_append]
  have z1 := bytesOf_le p.n h.n1 h.n2
  have z2 := bytesOf_le p.u h.u1 h.u2
  have hs := h.s
  have z3 := bytesOf_le p.s.size (by omega) (by omega)
  omega
theorem catL_le : ∀ (l : List Pl), (∀ p ∈ l, Fit p) → (catL l).size ≤ 46 * l.length
  | [], _ => by show (ByteArray.mk #[]).size ≤ _; exact Nat.zero_le _
  | p :: l, h => by
    have h1 := plBytes_le (h p (by simp))
    have h2 := catL_le l (fun q hq => h q (by simp [hq]))
    show (plBytes p ++ catL l).size ≤ _
    rw [ByteArray.size_append, List.length_cons]; omega

theorem place_there (A Z : ByteArray) (p : Pl) (h : Fit p) : isPlace (A ++ (plBytes p ++ Z)) A.size false = some (p, A.size + (plBytes p).size) := by
  have h1 := num_there A (bytesOf p.u ++ textOf p.s ++ Z) p.n h.n1 h.n2
  have h2 := num_there (A ++ bytesOf p.n) (textOf p.s ++ Z) p.u h.u1 h.u2
  have h3 := text_there (A ++ bytesOf p.n ++ bytesOf p.u) p.s Z 16 (by have := h.s; omega) (by have := h.s; omega)
  have e : A ++ (plBytes p ++ Z) = A ++ (bytesOf p.n ++ (bytesOf p.u ++ textOf p.s ++ Z)) := by unfold plBytes; simp only [ByteArray.append_assoc]
  have e2 : A ++ (plBytes p ++ Z) = A ++ bytesOf p.n ++ (bytesOf p.u ++ (textOf p.s ++ Z)) := by unfold plBytes; simp only [ByteArray.append_assoc]
  have e3 : A ++ (plBytes p ++ Z) = A ++ bytesOf p.n ++ bytesOf p.u ++ (textOf p.s ++ Z) := by unfold plBytes; simp only [ByteArray.append_assoc]
  rw [← e] at h1
  rw [← e2, ByteArray.size_append] at h2
  rw [← e3, ByteArray.size_append, ByteArray.size_append] at h3
  unfold isPlace
  simp only [h1, h2, h3, Option.bind_some]
  unfold plBytes
  simp only [ByteArray.size_append, Nat.add_assoc]
theorem places_there (A Z : ByteArray) (l : List Pl) (h : ∀ p ∈ l, Fit p) : ∀ k, k ≤ l.length → isPlaces (A ++ (catL l ++ Z)) k A.size = some (l.take k, A.size + (catL (l.take k)).size)
  | 0, _ => by unfold isPlaces; simp [catL]; rfl
  | k + 1, hk => by
    have hlt : k < l.length := hk
    have e : catL l ++ Z = catL (l.take k) ++ (plBytes l[k] ++ (catL (l.drop (k + 1)) ++ Z)) := by
      have : l = l.take k ++ (l[k] :: l.drop (k + 1)) := by rw [← List.drop_eq_getElem_cons hlt, List.take_append_drop]
      conv => lhs; rw [this, catL_app]
      show catL (l.take k) ++ (plBytes l[k] ++ catL (l.drop (k + 1))) ++ Z = _
      simp only [ByteArray.append_assoc]
    have hp := place_there (A ++ catL (l.take k)) (catL (l.drop (k + 1)) ++ Z) l[k] (h _ (List.getElem_mem hlt))
    rw [ByteArray.append_assoc, ← e, ByteArray.size_append] at hp
    unfold isPlaces
    rw [places_there A Z l h k (by omega), Option.bind_some]
    simp only [hp, Option.bind_some]
    rw [List.take_succ_eq_append_getElem hlt, catL_snoc, ByteArray.size_append, Nat.add_assoc]
theorem tree_there (A Z : ByteArray) (l : List Pl) (h : treeB l = true) (hl : l.length ≤ 64) : isTree (A ++ (treeBytes l ++ Z)) A.size false = some (l, A.size + (treeBytes l).size) := by
  have hf : ∀ p ∈ l, Fit p := fun p hp => by
    unfold treeB at h
    rw [Bool.and_eq_true, List.all_eq_true] at h
    exact (okPl_fit (h.1 p hp)).1
  have h1 := count_there A (catL l ++ Z) l.length 64 (by omega) (by omega) (by omega)
  have e : A ++ (treeBytes l ++ Z) = A ++ (bytesOf l.length ++ (catL l ++ Z)) := by unfold treeBytes; rw [ByteArray.append_assoc]
  have h2 := places_there (A ++ bytesOf l.length) Z l hf l.length (Nat.le_refl _)
  rw [ByteArray.append_assoc, ← e, ByteArray.size_append, List.take_length] at h2
  rw [← e] at h1
  unfold isTree
  simp only [h1, Option.bind_some, Int.toNat_natCast, h2, h, if_true]
  unfold treeBytes
  rw [ByteArray.size_append, Nat.add_assoc]
theorem rising_cons {p : Pl} : ∀ {l : List Pl}, rising (p :: l) = true → rising l = true ∧ ∀ q ∈ l, p.n < q.n
  | [], _ => ⟨rfl, fun q hq => by cases hq⟩
  | q :: l, h => by
    unfold rising at h
    rw [Bool.and_eq_true, decide_eq_true_iff] at h
    refine ⟨h.2, fun x hx => ?_⟩
    rcases List.mem_cons.1 hx with rfl | hx
    · exact h.1
    · have := (rising_cons h.2).2 x hx; omega
theorem rising_sorted : ∀ {l : List Pl}, rising l = true → Sorted l
  | [], _ => fun i j hi => by simp at hi
  | p :: l, h => fun i j hi hj hij => by
    obtain ⟨h1, h2⟩ := rising_cons h
    cases j with
    | zero => omega
    | succ j =>
      have hj' : j < l.length := by simpa using hj
      cases i with
      | zero => exact h2 _ (List.getElem_mem hj')
      | succ i => exact rising_sorted h1 i j (by simpa using hi) hj' (by omega)
theorem treeB_facts {l : List Pl} (h : treeB l = true) : (∀ p ∈ l, okPl p = true) ∧ Sorted l ∧ NoRing l := by
  unfold treeB at h
  simp only [Bool.and_eq_true, List.all_eq_true, Bool.not_eq_true'] at h
  exact ⟨h.1, rising_sorted h.2.1, h.2.2⟩
/-- Nodes below 64, rising: no more than 62. -/
theorem sorted_len {l : List Pl} (hs : Sorted l) (h : ∀ p ∈ l, 2 ≤ p.n ∧ p.n < 64) : l.length ≤ 62 := by
  have key : ∀ i (hi : i < l.length), (i : Int) + 2 ≤ l[i].n := by
    intro i
    induction i with
    | zero => intro hi; have := (h _ (List.getElem_mem hi)).1; omega
    | succ i ih => intro hi; have h1 := ih (by omega); have h2 := hs i (i + 1) (by omega) hi (by omega); omega
  rcases Nat.lt_or_ge 62 l.length with hlt | hge
  · have h1 := key 62 hlt
    have h2 := (h _ (List.getElem_mem hlt)).2
    omega
  · exact hge
end Go.Proofs.Ytdkolkjgojamcaa

/- How the arguments of the laws are opened. -/
namespace Go.Proofs.Ytdkolkjgojamcaa
open Go.ChangeShapes Go.WideShapes Go.ChangeAt Go.RowKit Go.Deep Nam Cod Tre

/-- Its numbers are words, its text isn't too long for a machine. -/
def WidePl (p : Pl) : Prop := i64 p.n ∧ i64 p.u ∧ p.s.size ≤ maxLen
theorem add_plain (b o n : Nat) : (⟨b, o, none⟩ : Addr).add n = ⟨b, o + n, none⟩ := Addr.add_lit b o n
theorem long_le {l : List Pl} (h : ∀ p ∈ l, WidePl p) : ∀ p ∈ l, p.s.size ≤ 9223372036854775807 := fun p hp => Nat.le_trans (h p hp).2.2 (by unfold maxLen; omega)
end Go.Proofs.Ytdkolkjgojamcaa

/- Slices among the arguments, opened, whatever their elements; bytes as elements. -/
namespace Go.Proofs.Ytdkolkjgojamcaa
open Go.ChangeShapes Go.WideShapes Go.ChangeAt Go.RowKit Go.Deep Nam Cod Tre

def byE : El Int where
  e := 5
  k := 1
  c x := [.int .u8 x]
  len _ := rfl
  one p u h := by
    simp only [List.mem_cons, List.not_mem_nil, or_false] at h
    subst h; rfl
  pos := by decide
set_option maxRecDepth 100000 in
theorem open_list {α : Type} (E : El α) (Q : α → Prop) {st : TypeId} (hu : Try.prog.underlying st = some (.slice E.e)) (hk : Try.prog.cellsOf E.e = E.k) [Inhabited α] {H : Type} {enc : TypeId × Value → H} {W : World} {base : Nat} {v : Value} {d : DataW H} {ps : List MemPlace}
    (hrd : ∀ {fuel : Nat} {cs : List Value} {x : DataW H × List MemPlace}, DataW.trod enc Try.prog W 0 (fun _ => true) true fuel E.e cs = some x → ∃ a, cs = E.c a ∧ Q a)
    (hv : Value.okWide Try.prog W .any base st v) (h : DataW.Trod enc Try.prog W 0 (fun _ => true) true st v d ps) :
    ∃ (A : Option Addr) (cap : Nat) (l : List α), v = .slice A l.length cap ∧ E.Sl W A l ∧ l.length ≤ cap ∧ (A = none → cap = 0) ∧ ∀ p ∈ l, Q p := by
  obtain ⟨a0, len, cap, rfl, _⟩ := okWide_slice hu hv
  obtain ⟨fuel, hf⟩ := h
  rcases open_slice hu hf with ⟨hcs, hx⟩ | ⟨a, len', cap', m, n, D, Pls, hcs, _, hle, hm, hmm, hx, hi⟩
  · simp [Value.cells] at hcs
    obtain ⟨rfl, rfl, rfl⟩ := hcs
    exact ⟨none, 0, [], rfl, El.Sl.nil W none, Nat.le_refl _, fun _ => rfl, fun p hp => by cases hp⟩
  · simp [Value.cells] at hcs
    obtain ⟨rfl, rfl, rfl⟩ := hcs
    simp only [if_true] at hmm
    have hv : ∀ i, i < m → ∃ p : α, Q p ∧ W.cells? 0 (a.add (i * E.k)) E.k = some (E.c p) := by
      intro i him
      obtain ⟨cs', h1, h2⟩ := hi i him
      rw [hk] at h1
      obtain ⟨p, rfl, hw⟩ := hrd h2
      exact ⟨p, hw, h1⟩
    obtain ⟨f, hf2⟩ := choose_lt hv
    have hlen : ((List.range len).map f).length = len := by simp
    refine ⟨some a, cap, (List.range len).map f, by rw [hlen], fun h => ?_, by rw [hlen]; exact hle, (fun e => by cases e), fun p hp => ?_⟩
    · rw [hlen] at h
      obtain ⟨bb, off, spot⟩ := a
      have cell : ∀ i, i < len → ∀ j v, (E.c (f i))[j]? = some v → W.cell? (((⟨bb, off, spot⟩ : Addr).add (i * E.k)).add j) = some v := by
        intro i hil j v hv
        obtain ⟨_, _, hcell⟩ := World.cells?_some (hf2 i (by omega)).2
        have hj : j < E.k := by have := (List.getElem?_eq_some_iff.1 hv).1; rw [E.len] at this; exact this
        have := hcell j hj
        rw [this]; exact hv
      have h00 : ∃ v, (E.c (f 0))[0]? = some v := ⟨(E.c (f 0))[0]'(by rw [E.len]; exact E.pos), List.getElem?_eq_getElem _⟩
      obtain ⟨v0, hv0⟩ := h00
      have hspot : spot = none := by
        have := cell 0 h 0 _ hv0
        simpa [Addr.add] using World.cell?_spot this
      subst hspot
      refine ⟨bb, off, rfl, (by have h9 := block_lt_of_cell (cell 0 h 0 _ hv0); rw [add_plain, add_plain] at h9; exact h9), fun i hil => ?_⟩
      have hil' : i < len := by rw [hlen] at hil; exact hil
      have he : ((List.range len).map f)[i] = f i := by simp
      rw [he]
      intro j u hu
      have := cell i hil' j u hu
      rwa [add_plain, add_plain] at this
    · obtain ⟨i, hi2, rfl⟩ := List.mem_map.1 hp
      exact (hf2 i (by have := List.mem_range.1 hi2; omega)).1

set_option maxRecDepth 100000 in
theorem open_bytes {H : Type} {enc : TypeId × Value → H} {W : World} {base : Nat} {v : Value} {d : DataW H} {ps : List MemPlace}
    (hv : Value.okWide Try.prog W .any base 56 v) (h : DataW.Trod enc Try.prog W 0 (fun _ => true) true 56 v d ps) :
    ∃ (A : Option Addr) (cap : Nat) (l : List Int), v = .slice A l.length cap ∧ byE.Sl W A l ∧ l.length ≤ cap ∧ (A = none → cap = 0) ∧ ∀ t ∈ l, 0 ≤ t ∧ t ≤ 255 :=
  open_list byE (fun t => 0 ≤ t ∧ t ≤ 255) Try.underlying56 cells5 (fun h => by
    obtain ⟨x, e, _, wf⟩ := DataW.trod_int Try.underlying5 h
    have hb := bounds_u8 wf
    exact ⟨x, e, by omega, by omega⟩) hv h
set_option maxRecDepth 100000 in
theorem open_u8 {H : Type} {enc : TypeId × Value → H} {W : World} {base : Nat} {sp : Nat → Bool} {v : Value} {d : DataW H} {ps : List MemPlace}
    (hv : Value.okWide Try.prog W .any base 5 v) (h : DataW.Trod enc Try.prog W 0 sp true 5 v d ps) : ∃ t : Int, v = .int .u8 t ∧ 0 ≤ t ∧ t ≤ 255 := by
  obtain ⟨a, rfl, _, _, wf⟩ := open_int Try.underlying5 hv h
  have hb := bounds_u8 wf
  exact ⟨a, rfl, by omega, by omega⟩
/-- A block that is a row of these. -/
theorem El.Sl.row {α : Type} {E : El α} (w : World) (l : List α) (cs : Array Value) (hc : cs = (E.cells l).toArray) : E.Sl (w.alloc (.cells cs E.e)) (some ⟨w.heap.size, 0, none⟩) l := fun _ => by
  subst hc
  refine ⟨w.heap.size, 0, rfl, by rw [alloc_size]; omega, fun i hi j u hu => ?_⟩
  have h := cell_of_row (w.alloc (.cells (E.cells l).toArray E.e)) w.heap.size (i * E.k + j) _ E.e (0, 0) (heap_alloc_new w _)
  rw [show 0 + i * E.k + j = i * E.k + j by omega, h]
  simpa using El.cells_at l i hi j u hu
set_option maxRecDepth 100000 in
/-- A slice among the cells of an argument. -/
theorem open_cells {α : Type} (E : El α) (Q : α → Prop) {st : TypeId} (hu : Try.prog.underlying st = some (.slice E.e)) (hk : Try.prog.cellsOf E.e = E.k) [Inhabited α] {H : Type} {enc : TypeId × Value → H} {W : World} {fuel : Nat} {cs : List Value} {x : DataW H × List MemPlace}
    (hrd : ∀ {fuel : Nat} {cs : List Value} {x : DataW H × List MemPlace}, DataW.trod enc Try.prog W 0 (fun _ => true) true fuel E.e cs = some x → ∃ a, cs = E.c a ∧ Q a)
    (hf : DataW.trod enc Try.prog W 0 (fun _ => true) true fuel st cs = some x) :
    ∃ (A : Option Addr) (cap : Nat) (l : List α), cs = [.slice A l.length cap] ∧ (E.Sl W A l ∧ (A = none → cap = 0) ∧ l.length ≤ cap) ∧ ∀ p ∈ l, Q p := by
  rcases open_slice hu hf with ⟨hcs, hx⟩ | ⟨a, len, cap, m, n, D, Pls, hcs, _, hle, hm, hmm, hx, hi⟩
  · exact ⟨none, 0, [], hcs, ⟨El.Sl.nil W none, fun _ => rfl, Nat.le_refl _⟩, fun p hp => by cases hp⟩
  · simp only [if_true] at hmm
    have hv : ∀ i, i < m → ∃ p : α, Q p ∧ W.cells? 0 (a.add (i * E.k)) E.k = some (E.c p) := by
      intro i him
      obtain ⟨cs', h1, h2⟩ := hi i him
      rw [hk] at h1
      obtain ⟨p, rfl, hw⟩ := hrd h2
      exact ⟨p, hw, h1⟩
    obtain ⟨f, hf2⟩ := choose_lt hv
    have hlen : ((List.range len).map f).length = len := by simp
    refine ⟨some a, cap, (List.range len).map f, by rw [hlen]; exact hcs, ⟨fun h => ?_, (fun e => by cases e), by rw [hlen]; exact hle⟩, fun p hp => ?_⟩
    · rw [hlen] at h
      obtain ⟨bb, off, spot⟩ := a
      have cell : ∀ i, i < len → ∀ j v, (E.c (f i))[j]? = some v → W.cell? (((⟨bb, off, spot⟩ : Addr).add (i * E.k)).add j) = some v := by
        intro i hil j v hv
        obtain ⟨_, _, hcell⟩ := World.cells?_some (hf2 i (by omega)).2
        have hj : j < E.k := by have := (List.getElem?_eq_some_iff.1 hv).1; rw [E.len] at this; exact this
        have := hcell j hj
        rw [this]; exact hv
      have h00 : ∃ v, (E.c (f 0))[0]? = some v := ⟨(E.c (f 0))[0]'(by rw [E.len]; exact E.pos), List.getElem?_eq_getElem _⟩
      obtain ⟨v0, hv0⟩ := h00
      have hspot : spot = none := by
        have := cell 0 h 0 _ hv0
        simpa [Addr.add] using World.cell?_spot this
      subst hspot
      refine ⟨bb, off, rfl, (by have h9 := block_lt_of_cell (cell 0 h 0 _ hv0); rw [add_plain, add_plain] at h9; exact h9), fun i hil => ?_⟩
      have hil' : i < len := by rw [hlen] at hil; exact hil
      have he : ((List.range len).map f)[i] = f i := by simp
      rw [he]
      intro j u hu
      have := cell i hil' j u hu
      rwa [add_plain, add_plain] at this
    · obtain ⟨i, hi2, rfl⟩ := List.mem_map.1 hp
      exact (hf2 i (by have := List.mem_range.1 hi2; omega)).1
end Go.Proofs.Ytdkolkjgojamcaa

/- A region that draws its order, whose last operation writes what others of it read: S need not hold behind that one. No function of the program in it. -/
namespace Go.Proofs.Ytdkolkjgojamcaa
open Go.RowKit

section
variable {P : Program} {ops : Array Oper} {Q : Exit → Act → World → Prop} {md : Region.Mode} {S : World → Prop} {n : Nat}

/-- Whatever order is picked from here on; S holds behind every operation till number n comes. -/
def anyG (P : Program) (md : Region.Mode) (ops : Array Oper) (Q : Exit → Act → World → Prop) (S : World → Prop) (n : Nat) : Nat → Array Bool → Act → World → Prop
  | 0, listed, a, w => Region.ready md ops listed = [] ∧ Q .normal a w
  | fuel + 1, listed, a, w =>
    (Region.ready md ops listed = [] → Q .normal a w) ∧
    ∀ i ∈ Region.ready md ops listed, wpOp P ops Q i (fun b v => ((listed.setIfInBounds i true).getD n true = false → S v) ∧ anyG P md ops Q S n fuel (listed.setIfInBounds i true) b v) a w
theorem anyG_any : ∀ (fuel : Nat) (listed : Array Bool) (a : Act) (w : World), anyG P md ops Q S n fuel listed a w → wpAny P md ops Q fuel listed a w
  | 0, _, _, _, h => h
  | fuel + 1, _, _, _, h => ⟨h.1, fun i hi => wpOp_mono (fun b v hb => anyG_any fuel _ b v hb.2) (h.2 i hi)⟩
theorem region_anyG {id : Nat} {a : Act} {w : World} (n : Nat) (hm : P.follows .mixedOrders = true) (h : anyG P .any ops Q S n ops.size (Array.replicate ops.size false) a w.drew) : (Code.region id ops true).wp P Q a w :=
  wp_region_any hm (anyG_any _ _ _ _ h)

/-- Number n waits for number i. -/
def waitsB (md : Region.Mode) (ops : Array Oper) (n i : Nat) : Bool := match ops[n]? with
  | none => false
  | some o => o.after.any fun e => Region.binds md e && e.on == i
theorem waits_spec {listed : Array Bool} {i : Nat} (hl : waitsB md ops n i = true) (hr : n ∈ Region.ready md ops listed) : listed.getD i false = true := by
  obtain ⟨_, o, ho, hall⟩ := mem_ready.1 hr
  unfold waitsB at hl
  rw [ho] at hl
  obtain ⟨e, he, hb⟩ := Array.any_eq_true'.1 hl
  rw [Bool.and_eq_true, beq_iff_eq] at hb
  have := hall e he hb.1
  rw [hb.2] at this; exact this
theorem getD_false {listed : Array Bool} {i : Nat} (h : listed.getD i true = false) : listed.getD i false = false := by
  rcases Nat.lt_or_ge i listed.size with h1 | h1
  · simp [h1] at h ⊢; exact h
  · simp [Array.getElem?_eq_none h1] at h
theorem getD_here (listed : Array Bool) (n : Nat) : (listed.setIfInBounds n true).getD n true = true := by
  rcases Nat.lt_or_ge n listed.size with h1 | h1
  · simp [h1]
  · have h2 : (listed.setIfInBounds n true).size ≤ n := by simpa using h1
    simp [Array.getElem?_eq_none h2]

theorem anyG_first {i : Nat} {oi : Oper} {v : Value} (hi : ops[i]? = some oi) (hin : i ≠ n) (hsel : ∀ (j : Nat) (o : Oper) cs b, ops[j]? = some o → o.op ≠ .select cs b)
    (hQ : ∀ c a w, Q (.panic c) (a.put oi.dst v) w → Q (.panic c) a w) (T : World → Prop) (hT : waitsB md ops n i = true ∨ ∀ w, T w) :
    ∀ (fuel : Nat) (listed : Array Bool) (a : Act) (w : World),
      (∀ j oj, ops[j]? = some oj → j ≠ i → listed.getD j true = false → (∀ e ∈ oj.after, Region.binds md e = true → e.on ≠ i) → oi.apart ops oj = true) →
      i ∈ Region.ready md ops listed → YieldsIf P ops T oi v a → T w → (listed.getD n true = false → S w) → ((∀ w, T w) ∨ (listed.getD n true = false ∧ ∀ w, S w → T w)) →
      anyG P md ops Q S n fuel (listed.setIfInBounds i true) (a.put oi.dst v) w → anyG P md ops Q S n (fuel + 1) listed a w := by
  intro fuel
  induction fuel with
  | zero =>
    intro listed a w _ hr hy hTw hS _ H
    refine ⟨fun h => (by rw [h] at hr; cases hr), fun j hj => ?_⟩
    by_cases hji : j = i
    · subst hji; exact hy.wpOp hi hTw ⟨fun h => hS (by rw [getD_set_ne true hin] at h; exact h), H⟩
    · have h0 := ready_mono hj hji
      rw [H.1] at h0
      cases h0
  | succ fuel ih =>
    intro listed a w hfree hr hy hTw hS hTT H
    refine ⟨fun h => (by rw [h] at hr; cases hr), fun j hj => ?_⟩
    by_cases hji : j = i
    · subst hji; exact hy.wpOp hi hTw ⟨fun h => hS (by rw [getD_set_ne true hin] at h; exact h), H⟩
    · have hunf := getD_false (mem_ready.1 hr).1
      have h1 := H.2 j (ready_mono hj hji)
      obtain ⟨hjun, oj, hoj, hall⟩ := mem_ready.1 hj
      have hnot : ∀ e ∈ oj.after, Region.binds md e = true → e.on ≠ i := fun e he hb heq => by
        have h2 := hall e he hb
        rw [heq, hunf] at h2; cases h2
      have h2 := wpOp_putIf hoj (hfree j oj hoj hji hjun hnot) (fun cs b => hsel i oi cs b hi) (fun cs b => hsel j oj cs b hoj) hQ hy h1
      refine wpOp_mono (fun b u h3 => ?_) h2
      have hSu : (listed.setIfInBounds j true).getD n true = false → S u := fun h => h3.2.1 (by
        rw [Array.setIfInBounds_comm _ _ (Ne.symm hji), getD_set_ne true hin]; exact h)
      have hTu : T u ∧ ((∀ w, T w) ∨ ((listed.setIfInBounds j true).getD n true = false ∧ ∀ w, S w → T w)) := by
        rcases hTT with hTT | ⟨hun, hST⟩
        · exact ⟨hTT u, Or.inl hTT⟩
        · by_cases hjn : j = n
          · rcases hT with hT | hT
            · subst hjn
              have h4 := waits_spec hT hj
              rw [hunf] at h4; cases h4
            · exact ⟨hT u, Or.inl hT⟩
          · have hn2 : (listed.setIfInBounds j true).getD n true = false := by rw [getD_set_ne true hjn]; exact hun
            exact ⟨hST u (hSu hn2), Or.inr ⟨hn2, hST⟩⟩
      refine ⟨hSu, ih (listed.setIfInBounds j true) b u (fun k ok hk hki hku hno => hfree k ok hk hki ?_ hno) (ready_mono hr (Ne.symm hji)) h3.1 hTu.1 hSu hTu.2 ?_⟩
      · by_cases hjk : j = k
        · subst hjk; exact hjun
        · rw [getD_set_ne true hjk] at hku; exact hku
      · rw [Array.setIfInBounds_comm _ _ hji]
        exact h3.2.2
/-- What yields in whatever world meets S, and for what number n waits. -/
theorem anyG_take {i : Nat} {oi : Oper} {v : Value} {fuel : Nat} {listed : Array Bool} {a : Act} {w : World} (hi : ops.toList[i]? = some oi)
    (hl : waitsB md ops n i = true) (hin : (i == n || listed.getD n true) = false) (hs : Region.noSelect ops = true) (hf : Region.free md ops listed i = true) (hr : (Region.ready md ops listed).contains i = true)
    (hQ : ∀ c a w, Q (.panic c) (a.put oi.dst v) w → Q (.panic c) a w) (hy : YieldsIf P ops S oi v a) (hS : S w)
    (h : anyG P md ops Q S n fuel (listed.setIfInBounds i true) (a.put oi.dst v) w) : anyG P md ops Q S n (fuel + 1) listed a w := by
  have hi : ops[i]? = some oi := by rw [← Array.getElem?_toList]; exact hi
  rw [Bool.or_eq_false_iff] at hin
  exact anyG_first hi (by simpa using hin.1) (Region.noSelect_spec hs) hQ S (Or.inl hl) fuel listed a w (Region.free_spec hi hf) (by simpa using hr) hy hS (fun _ => hS) (Or.inr ⟨hin.2, fun _ h => h⟩) h
/-- What yields in every world: behind number n, too. -/
theorem anyG_plain {i : Nat} {oi : Oper} {v : Value} {fuel : Nat} {listed : Array Bool} {a : Act} {w : World} (hi : ops.toList[i]? = some oi)
    (hin : (i == n) = false) (hs : Region.noSelect ops = true) (hf : Region.free md ops listed i = true) (hr : (Region.ready md ops listed).contains i = true)
    (hQ : ∀ c a w, Q (.panic c) (a.put oi.dst v) w → Q (.panic c) a w) (hy : Yields P ops oi v a) (hS : listed.getD n true = false → S w)
    (h : anyG P md ops Q S n fuel (listed.setIfInBounds i true) (a.put oi.dst v) w) : anyG P md ops Q S n (fuel + 1) listed a w := by
  have hi : ops[i]? = some oi := by rw [← Array.getElem?_toList]; exact hi
  exact anyG_first hi (by simpa using hin) (Region.noSelect_spec hs) hQ (fun _ => True) (Or.inr fun _ => trivial) fuel listed a w (Region.free_spec hi hf) (by simpa using hr) hy.yieldsIf trivial hS (Or.inl fun _ => trivial) h
theorem anyG_done {listed : Array Bool} {a : Act} {w : World} (hr : Region.ready md ops listed = []) (h : Q .normal a w) : ∀ fuel, anyG P md ops Q S n fuel listed a w
  | 0 => ⟨hr, h⟩
  | _ + 1 => ⟨fun _ => h, by rw [hr]; simp⟩
/-- One of these comes next. -/
def AllG (P : Program) (md : Region.Mode) (ops : Array Oper) (Q : Exit → Act → World → Prop) (S : World → Prop) (n fuel : Nat) (listed : Array Bool) (a : Act) (w : World) (rs : List Nat) : Prop :=
  ∀ i ∈ rs, wpOp P ops Q i (fun b v => ((listed.setIfInBounds i true).getD n true = false → S v) ∧ anyG P md ops Q S n fuel (listed.setIfInBounds i true) b v) a w
theorem anyG_step {rs : List Nat} {fuel : Nat} {listed : Array Bool} {a : Act} {w : World} (hr : Region.ready md ops listed = rs) (hne : rs ≠ []) (h : AllG P md ops Q S n fuel listed a w rs) : anyG P md ops Q S n (fuel + 1) listed a w :=
  ⟨fun h0 => absurd (hr ▸ h0) hne, hr ▸ h⟩
theorem AllG.nil {fuel : Nat} {listed : Array Bool} {a : Act} {w : World} : AllG P md ops Q S n fuel listed a w [] := fun _ h => by cases h
/-- An operation of the middle: S anew. -/
theorem AllG.cons {fuel : Nat} {listed : Array Bool} {a : Act} {w : World} {i : Nat} {o : Oper} {rs : List Nat} (ho : ops.toList[i]? = some o)
    (h : ∀ K : Act → World → Prop, RowKit.Hid (∀ b v, S v → anyG P md ops Q S n fuel (listed.setIfInBounds i true) b v → K b v) → if Region.wanted o (yielded ops a.tmps) = true then Oper.wp P o a w K Q else K (a.put o.dst undef) w)
    (hs : AllG P md ops Q S n fuel listed a w rs) : AllG P md ops Q S n fuel listed a w (i :: rs) := fun j hj => by
  rcases List.mem_cons.1 hj with rfl | hj
  · exact wpOp_step (by rw [← Array.getElem?_toList]; exact ho) (fun K hK => h K (Lib.hid fun b v hS hW => hK b v ⟨fun _ => hS, hW⟩))
  · exact hs j hj
/-- The last one: nothing is asked behind it. -/
theorem AllG.last {fuel : Nat} {listed : Array Bool} {a : Act} {w : World} {o : Oper} (ho : ops.toList[n]? = some o)
    (h : ∀ K : Act → World → Prop, RowKit.Hid (∀ b v, anyG P md ops Q S n fuel (listed.setIfInBounds n true) b v → K b v) → if Region.wanted o (yielded ops a.tmps) = true then Oper.wp P o a w K Q else K (a.put o.dst undef) w) :
    AllG P md ops Q S n fuel listed a w [n] := fun j hj => by
  rw [List.mem_singleton] at hj
  subst hj
  exact wpOp_step (by rw [← Array.getElem?_toList]; exact ho) (fun K hK => h K (Lib.hid fun b v hW => hK b v ⟨fun e => (by rw [getD_here] at e; cases e), hW⟩))
end
end Go.Proofs.Ytdkolkjgojamcaa

/- Queues in memory; what the program's functions shall answer (QueueCalls); the document's New, Allow, Same. -/
namespace Go.Proofs.Ytdkolkjgojamcaa
open Go.RowKit Nam Cod

structure Qw where
  A : Option Addr
  c : Nat
  x : Qu
def quE : El Qw where
  e := 26
  k := 3
  c y := [.int .i64 y.x.f, .int .i64 y.x.g, .slice y.A y.x.os.length y.c]
  len _ := rfl
  one p u h := by
    simp only [List.mem_cons, List.not_mem_nil, or_false] at h
    rcases h with rfl | rfl | rfl <;> rfl
  pos := by decide
theorem quRow : quE.Row Try.prog := ⟨by kernel_rfl, _, Try.underlying26, rfl⟩
theorem quIn3 {w : World} {b : Nat} {y : Qw} (h : quE.In w b y) : w.cell? ⟨b, 0, none⟩ = some (.int .i64 y.x.f) ∧ w.cell? ⟨b, 1, none⟩ = some (.int .i64 y.x.g) ∧ w.cell? ⟨b, 2, none⟩ = some (.slice y.A y.x.os.length y.c) :=
  ⟨h.cell 0, h.cell 1, h.cell 2⟩
def Qw.ok (y : Qw) (w : World) : Prop := SlV opE w y.A y.c y.x.os
theorem Qw.ok.below {y : Qw} {W w : World} (h : y.ok W) (hb : Below W.heap.size W w) : y.ok w := SlV.below h hb
def zeroQw : Qw := ⟨none, 0, nilQu⟩
def newQw : Qw := ⟨none, 0, newQu⟩
theorem qu_off {w : World} {A : Option Addr} {l : List Mv} {n : Nat} {z : Qw} (h : opE.Sl w A l) (hP : quE.In w n z) : 0 < l.length → ∀ a, A = some a → some a.block ≠ some n := fun h0 a e e2 => by
  obtain ⟨b, off, eb, _, hc⟩ := h h0
  rw [e] at eb
  cases eb
  have e2 := Option.some.inj e2
  dsimp only at e2
  subst e2
  have h1 := hc 0 h0 6 _ rfl
  rw [hP.cell, List.getElem?_eq_none (by rw [quE.len]; show 3 ≤ off + 0 * 7 + 6; omega)] at h1
  cases h1
theorem SlV.keepO {w w' : World} {A : Option Addr} {c : Nat} {l : List Mv} {row : Option Nat} (h : SlV opE w A c l) (hg : w.grownBy w' row) (hne : 0 < l.length → ∀ a, A = some a → some a.block ≠ row) : SlV opE w' A c l :=
  ⟨fun h0 => (h.1.keep hg (hne h0)) h0, h.2⟩
theorem two_quB (w : World) (a b : Array Value) (z : Qw) (hb : b = (quE.c z).toArray) : quE.In ((w.alloc (.cells a 26)).alloc (.cells b 26)) (w.heap.size + 1) z := by
  have := El.In.new (E := quE) (w.alloc (.cells a 26)) z b hb
  rw [alloc_size] at this; exact this
/-- A queue whose numbers stay far from where they wrap. -/
structure QuN (x : Qu) : Prop where
  f : -1000000000000000 ≤ x.f ∧ x.f ≤ 1000000000000000
  g : -1000000000000000 ≤ x.g ∧ x.g ≤ 1000000000000000
  l : x.os.length ≤ 50000
def okW (l : List Mv) : Prop := ∀ o ∈ l, Wide o.C o.D o.I o.M o.K o.U ∧ o.s.size ≤ 1000
/-- What one holds lies in new memory, or where the other one's lies. -/
def Near (B : Nat) (y z : Qw) : Prop := 0 < z.x.os.length → ∀ a', z.A = some a' → B ≤ a'.block ∨ (0 < y.x.os.length ∧ ∃ a, y.A = some a ∧ a.block = a'.block)
theorem Near.mono {B B' : Nat} {y z : Qw} (h : Near B' y z) (hB : B ≤ B') : Near B y z := fun h0 a' e => by
  rcases h h0 a' e with h1 | h1
  · exact Or.inl (by omega)
  · exact Or.inr h1
theorem Near.self (B : Nat) (y : Qw) : Near B y y := fun h0 a' e => Or.inr ⟨h0, a', e, rfl⟩
structure QueueCalls : Prop where
  new : ∀ (w : World), Calls Try.prog 8 #[] w fun r w' => ∃ z : Qw, r = .returned (.agg #[.int .i64 z.x.f, .int .i64 z.x.g, .slice z.A z.x.os.length z.c]) ∧ z.x = newQu ∧ z.ok w' ∧ Below w.heap.size w w'
  right : ∀ (y : Qw) (w : World), QuN y.x → QuR y.x → y.ok w → Calls Try.prog 19 #[.agg #[.int .i64 y.x.f, .int .i64 y.x.g, .slice y.A y.x.os.length y.c]] w fun r w' => r = .returned (.bool true) ∧ Below w.heap.size w w'
  push : ∀ (y : Qw) (o : Mv) (w : World), QuN y.x → y.ok w → Calls Try.prog 25 #[.agg #[.int .i64 y.x.f, .int .i64 y.x.g, .slice y.A y.x.os.length y.c], .agg #[.int .i64 o.C, .int .i64 o.D, .int .i64 o.I, .int .i64 o.M, .int .i64 o.K, .int .i64 o.U, .string o.s]] w fun r w' => ∃ z : Qw, r = .returned (.agg #[.int .i64 z.x.f, .int .i64 z.x.g, .slice z.A z.x.os.length z.c]) ∧ z.x = pushQ y.x o ∧ z.ok w' ∧ Below w.heap.size w w' ∧ Near w.heap.size y z
  ack : ∀ (y : Qw) (a : Int) (w : World), QuN y.x → (-1000000000000000 ≤ a ∧ a ≤ 1000000000000000) → y.ok w → Calls Try.prog 24 #[.agg #[.int .i64 y.x.f, .int .i64 y.x.g, .slice y.A y.x.os.length y.c], .int .i64 a] w fun r w' => ∃ z : Qw, r = .returned (.agg #[.int .i64 z.x.f, .int .i64 z.x.g, .slice z.A z.x.os.length z.c]) ∧ z.x = ackQ y.x a ∧ z.ok w' ∧ Below w.heap.size w w' ∧ Near w.heap.size y z
  allow : ∀ (y : Qw) (g : Int) (w : World), QuN y.x → (-1000000000000000 ≤ g ∧ g ≤ 1000000000000000) → y.ok w → Calls Try.prog 26 #[.agg #[.int .i64 y.x.f, .int .i64 y.x.g, .slice y.A y.x.os.length y.c], .int .i64 g] w fun r w' => ∃ z : Qw, r = .returned (.agg #[.int .i64 z.x.f, .int .i64 z.x.g, .slice z.A z.x.os.length z.c]) ∧ z.x = allowQ y.x g ∧ z.ok w' ∧ Below w.heap.size w w' ∧ Near w.heap.size y z
  out : ∀ (y : Qw) (most : Int) (w : World), QuN y.x → i64 most → y.ok w → Calls Try.prog 17 #[.agg #[.int .i64 y.x.f, .int .i64 y.x.g, .slice y.A y.x.os.length y.c], .int .i64 most] w fun r w' => ∃ (A : Option Addr) (c : Nat), r = .returned (.slice A (outQ y.x most).length c) ∧ SlV opE w' A c (outQ y.x most) ∧ Below w.heap.size w w'
  print : ∀ (y : Qw) (w : World), QuN y.x → y.ok w → okW y.x.os → Calls Try.prog 20 #[.agg #[.int .i64 y.x.f, .int .i64 y.x.g, .slice y.A y.x.os.length y.c]] w fun r w' => r = .returned (.string (quBytes y.x)) ∧ Below w.heap.size w w'
theorem QueueCalls.pushW (H : QueueCalls) (y : Qw) (o : Mv) (w : World) (hn : QuN y.x) (ho : y.ok w) : Calls Try.prog 25 #[.agg #[.int .i64 y.x.f, .int .i64 y.x.g, .slice y.A y.x.os.length y.c], .agg #[.int .i64 o.C, .int .i64 o.D, .int .i64 o.I, .int .i64 o.M, .int .i64 o.K, .int .i64 o.U, .string o.s]] w fun r w' => ∃ z : Qw, r = .returned (.agg #[.int .i64 z.x.f, .int .i64 z.x.g, .slice z.A z.x.os.length z.c]) ∧ z.x = pushQ y.x o ∧ z.ok w' ∧ Below w.heap.size w w' :=
  (H.push y o w hn ho).mono fun _ _ ⟨z, h1, h2, h3, h4, _⟩ => ⟨z, h1, h2, h3, h4⟩
theorem QueueCalls.ackW (H : QueueCalls) (y : Qw) (a : Int) (w : World) (hn : QuN y.x) (ha : -1000000000000000 ≤ a ∧ a ≤ 1000000000000000) (ho : y.ok w) : Calls Try.prog 24 #[.agg #[.int .i64 y.x.f, .int .i64 y.x.g, .slice y.A y.x.os.length y.c], .int .i64 a] w fun r w' => ∃ z : Qw, r = .returned (.agg #[.int .i64 z.x.f, .int .i64 z.x.g, .slice z.A z.x.os.length z.c]) ∧ z.x = ackQ y.x a ∧ z.ok w' ∧ Below w.heap.size w w' :=
  (H.ack y a w hn ha ho).mono fun _ _ ⟨z, h1, h2, h3, h4, _⟩ => ⟨z, h1, h2, h3, h4⟩
theorem QueueCalls.allowW (H : QueueCalls) (y : Qw) (g : Int) (w : World) (hn : QuN y.x) (hg : -1000000000000000 ≤ g ∧ g ≤ 1000000000000000) (ho : y.ok w) : Calls Try.prog 26 #[.agg #[.int .i64 y.x.f, .int .i64 y.x.g, .slice y.A y.x.os.length y.c], .int .i64 g] w fun r w' => ∃ z : Qw, r = .returned (.agg #[.int .i64 z.x.f, .int .i64 z.x.g, .slice z.A z.x.os.length z.c]) ∧ z.x = allowQ y.x g ∧ z.ok w' ∧ Below w.heap.size w w' :=
  (H.allow y g w hn hg ho).mono fun _ _ ⟨z, h1, h2, h3, h4, _⟩ => ⟨z, h1, h2, h3, h4⟩
def quStep (s : ByteArray) (p : Nat) (bad : Bool) (x : Qu) (q : Nat) (bad' : Bool) : Prop := (isQu s p bad = some (x, q) ∧ bad' = false) ∨ (isQu s p bad = none ∧ bad' = true)
structure QueueBoth : Prop where
  calls : QueueCalls
  read : ∀ (w : World) (b p : Nat) (s : ByteArray) (bad : Bool), s.size ≤ 1000000 → p ≤ s.size → Rd 46 w b s p bad → Calls Try.prog 22 #[.pointer (some ⟨b, 0, none⟩)] w fun r w' => ∃ (y : Qw) (q : Nat) (bad' : Bool), r = .returned (.agg #[.int .i64 y.x.f, .int .i64 y.x.g, .slice y.A y.x.os.length y.c]) ∧ y.ok w' ∧ Rd 46 w' b s q bad' ∧ q ≤ s.size ∧ w.grownBy w' (some b) ∧ quStep s p bad y.x q bad'

theorem opIdxH {A : Option Addr} {b off len cap k : Nat} (hA : A = some ⟨b, off, none⟩) (h : k < len) : ∀ w, (Instr.indexAt 24 (.slice A len cap) (.int .i64 k)).run Try.prog w = .ok (.pointer (some ⟨b, off + k * 7, none⟩)) w := fun w => by
  subst hA
  have h2 : (k : Int) < (len : Int) := by omega
  go_simp

set_option maxRecDepth 100000 in
theorem refQuNew_any (w : World) : Calls Try.prog 9 #[] w fun r w' => ∃ z : Qw, r = .returned (.agg #[.int .i64 z.x.f, .int .i64 z.x.g, .slice z.A z.x.os.length z.c]) ∧ z.x = newQu ∧ z.ok w' ∧ Below w.heap.size w w' := by
  have hB := below_alloc (Below.refl w.heap.size w) (.cells #[.int .i64 1, .int .i64 0, .slice none 0 0] 26)
  have hP : quE.In (w.alloc (.cells #[.int .i64 1, .int .i64 0, .slice none 0 0] 26)) w.heap.size newQw := El.In.new (E := quE) w newQw _ rfl
  go_enter Try.func9, Try.ntmps9
  go_wp2_with fail
  refine El.ret1 quRow hP rfl rfl rfl #[.int .i64 1, .int .i64 0, .slice none 0 0] rfl ?_
  exact ⟨newQw, rfl, rfl, SlV.nil opE _, hB⟩

set_option maxRecDepth 100000 in
set_option maxHeartbeats 2000000 in
theorem refQuAllow_any (y : Qw) (g : Int) (w : World) (hok : y.ok w) : Calls Try.prog 14 #[.agg #[.int .i64 y.x.f, .int .i64 y.x.g, .slice y.A y.x.os.length y.c], .int .i64 g] w fun r w' => ∃ z : Qw, r = .returned (.agg #[.int .i64 z.x.f, .int .i64 z.x.g, .slice z.A z.x.os.length z.c]) ∧ z.x = allowQ y.x g ∧ z.ok w' ∧ Below w.heap.size w w' := by
  rcases Int.lt_or_le y.x.g g with hm | hm
  · skip
    have hmx : max y.x.g g = g := by omega
    have HV := Lib.hid (show (⟨y.x.f, g, y.x.os⟩ : Qu) = allowQ y.x g by unfold allowQ; rw [show max y.x.g g = g by omega])
    have hQ := two_quB w #[.int .i64 y.x.f, .int .i64 g, .slice y.A y.x.os.length y.c] #[.int .i64 y.x.f, .int .i64 g, .slice y.A y.x.os.length y.c] ⟨y.A, y.c, ⟨y.x.f, g, y.x.os⟩⟩ rfl
    have hB := below_alloc (below_alloc (Below.refl w.heap.size w) (.cells #[.int .i64 y.x.f, .int .i64 g, .slice y.A y.x.os.length y.c] 26)) (.cells #[.int .i64 y.x.f, .int .i64 g, .slice y.A y.x.os.length y.c] 26)
    go_enter Try.func14, Try.ntmps14
    go_wp2_with fail
    refine El.ret1 quRow hQ rfl rfl rfl #[.int .i64 y.x.f, .int .i64 g, .slice y.A y.x.os.length y.c] rfl ?_
    exact ⟨⟨y.A, y.c, ⟨y.x.f, g, y.x.os⟩⟩, rfl, HV.out, SlV.below hok hB, hB⟩
  · skip
    have hmx : max y.x.g g = y.x.g := by omega
    have HV := Lib.hid (show (⟨y.x.f, y.x.g, y.x.os⟩ : Qu) = allowQ y.x g by unfold allowQ; rw [show max y.x.g g = y.x.g by omega])
    have hQ := two_quB w #[.int .i64 y.x.f, .int .i64 y.x.g, .slice y.A y.x.os.length y.c] #[.int .i64 y.x.f, .int .i64 y.x.g, .slice y.A y.x.os.length y.c] ⟨y.A, y.c, ⟨y.x.f, y.x.g, y.x.os⟩⟩ rfl
    have hB := below_alloc (below_alloc (Below.refl w.heap.size w) (.cells #[.int .i64 y.x.f, .int .i64 y.x.g, .slice y.A y.x.os.length y.c] 26)) (.cells #[.int .i64 y.x.f, .int .i64 y.x.g, .slice y.A y.x.os.length y.c] 26)
    go_enter Try.func14, Try.ntmps14
    go_wp2_with fail
    refine El.ret1 quRow hQ rfl rfl rfl #[.int .i64 y.x.f, .int .i64 y.x.g, .slice y.A y.x.os.length y.c] rfl ?_
    exact ⟨⟨y.A, y.c, ⟨y.x.f, y.x.g, y.x.os⟩⟩, rfl, HV.out, SlV.below hok hB, hB⟩

set_option maxRecDepth 100000 in
set_option maxHeartbeats 2000000 in
/-- Same, of equal queues. -/
theorem refSameQu_any (y z : Qw) (w : World) (hx : z.x = y.x) (hy : y.ok w) (hz : z.ok w) (hl : y.x.os.length ≤ 50000) : Calls Try.prog 15 #[.agg #[.int .i64 y.x.f, .int .i64 y.x.g, .slice y.A y.x.os.length y.c], .agg #[.int .i64 z.x.f, .int .i64 z.x.g, .slice z.A z.x.os.length z.c]] w fun e w' => e = .returned (.bool true) ∧ Below w.heap.size w w' := by
  obtain ⟨A, c, x⟩ := y
  obtain ⟨A2, c2, x2⟩ := z
  dsimp only at hx hl ⊢
  subst hx
  have hP : quE.In ((w.alloc (.cells #[.int .i64 (⟨A, c, x2⟩ : Qw).x.f, .int .i64 (⟨A, c, x2⟩ : Qw).x.g, .slice (⟨A, c, x2⟩ : Qw).A (⟨A, c, x2⟩ : Qw).x.os.length (⟨A, c, x2⟩ : Qw).c] 26)).alloc (.cells #[.int .i64 (⟨A2, c2, x2⟩ : Qw).x.f, .int .i64 (⟨A2, c2, x2⟩ : Qw).x.g, .slice (⟨A2, c2, x2⟩ : Qw).A (⟨A2, c2, x2⟩ : Qw).x.os.length (⟨A2, c2, x2⟩ : Qw).c] 26)) w.heap.size ⟨A, c, x2⟩ := (El.In.new (E := quE) w ⟨A, c, x2⟩ _ rfl).alloc _
  have hQ := two_quB w #[.int .i64 (⟨A, c, x2⟩ : Qw).x.f, .int .i64 (⟨A, c, x2⟩ : Qw).x.g, .slice (⟨A, c, x2⟩ : Qw).A (⟨A, c, x2⟩ : Qw).x.os.length (⟨A, c, x2⟩ : Qw).c] #[.int .i64 (⟨A2, c2, x2⟩ : Qw).x.f, .int .i64 (⟨A2, c2, x2⟩ : Qw).x.g, .slice (⟨A2, c2, x2⟩ : Qw).A (⟨A2, c2, x2⟩ : Qw).x.os.length (⟨A2, c2, x2⟩ : Qw).c] ⟨A2, c2, x2⟩ rfl
  have hB := below_alloc (below_alloc (Below.refl w.heap.size w) (.cells #[.int .i64 (⟨A, c, x2⟩ : Qw).x.f, .int .i64 (⟨A, c, x2⟩ : Qw).x.g, .slice (⟨A, c, x2⟩ : Qw).A (⟨A, c, x2⟩ : Qw).x.os.length (⟨A, c, x2⟩ : Qw).c] 26)) (.cells #[.int .i64 (⟨A2, c2, x2⟩ : Qw).x.f, .int .i64 (⟨A2, c2, x2⟩ : Qw).x.g, .slice (⟨A2, c2, x2⟩ : Qw).A (⟨A2, c2, x2⟩ : Qw).x.os.length (⟨A2, c2, x2⟩ : Qw).c] 26)
  have HS := Lib.hid (fun (wx : World) (hb : Below w.heap.size w wx) => (sameOp_any A A2 c c2 x2.os x2.os wx hl hl (hy.1.below hb) (hz.1.below hb)).mono (by
    rintro e w' ⟨bv, rfl, hbv, hb2⟩
    obtain rfl : bv = true := hbv.2 rfl
    exact ⟨rfl, hb2⟩ : ∀ (e : Ending) (w' : World), _ → (e = .returned (.bool true) ∧ Below wx.heap.size wx w')))
  obtain ⟨p0, p1, p2⟩ := quIn3 hP
  obtain ⟨q0, q1, q2⟩ := quIn3 hQ
  dsimp only at p0 p1 p2 q0 q1 q2 hB
  clear hy hz hP hQ
  go_enter Try.func15, Try.ntmps15
  go_wp2_with fail
  refine (HS.out _ hB).mono ?_
  rintro r w1 ⟨rfl, hb1⟩
  go_wp2_with fail
  go_ret
  exact ⟨rfl, hB.trans (hb1.mono hB.size)⟩
end Go.Proofs.Ytdkolkjgojamcaa

/- The document's Push and Ack of queues. -/
namespace Go.Proofs.Ytdkolkjgojamcaa
open Go.RowKit Nam Cod

def PsQ (n1 n2 : Nat) (y : Qw) (e : Mv) (w : World) : Prop := (w.cell? ⟨n1, 2, none⟩ = some (.slice y.A y.x.os.length y.c) ∧ w.frozen? ⟨n1, 2, none⟩ = false) ∧ (w.cell? ⟨n2, 0, none⟩ = some (.int .i64 e.C) ∧ w.cell? ⟨n2, 1, none⟩ = some (.int .i64 e.D) ∧ w.cell? ⟨n2, 2, none⟩ = some (.int .i64 e.I) ∧ w.cell? ⟨n2, 3, none⟩ = some (.int .i64 e.M) ∧ w.cell? ⟨n2, 4, none⟩ = some (.int .i64 e.K) ∧ w.cell? ⟨n2, 5, none⟩ = some (.int .i64 e.U) ∧ w.cell? ⟨n2, 6, none⟩ = some (.string e.s))
theorem psQ {n1 n2 : Nat} {y : Qw} {e : Mv} {w : World} (hP : quE.In w n1 y) (hE : opE.In w n2 e) : PsQ n1 n2 y e w := ⟨⟨(quIn3 hP).2.2, hP.frozen 2⟩, opIn7 hE⟩
set_option maxRecDepth 100000 in
set_option maxHeartbeats 4000000 in
theorem refQuPush_any (y : Qw) (e : Mv) (w : World) (hl : y.x.os.length ≤ 90000) (hok : y.ok w) : Calls Try.prog 11 #[.agg #[.int .i64 y.x.f, .int .i64 y.x.g, .slice y.A y.x.os.length y.c], .agg #[.int .i64 e.C, .int .i64 e.D, .int .i64 e.I, .int .i64 e.M, .int .i64 e.K, .int .i64 e.U, .string e.s]] w fun r w' => ∃ z : Qw, r = .returned (.agg #[.int .i64 z.x.f, .int .i64 z.x.g, .slice z.A z.x.os.length z.c]) ∧ z.x = pushQ y.x e ∧ z.ok w' ∧ Below w.heap.size w w' := by
  have hP : quE.In (((w.alloc (.cells #[.int .i64 y.x.f, .int .i64 y.x.g, .slice y.A y.x.os.length y.c] 26)).alloc (.cells #[.int .i64 e.C, .int .i64 e.D, .int .i64 e.I, .int .i64 e.M, .int .i64 e.K, .int .i64 e.U, .string e.s] 35)).alloc (.cells #[.int .i64 0, .int .i64 0, .slice none 0 0] 26)) w.heap.size y := ((El.In.new (E := quE) w y _ rfl).alloc _).alloc _
  have hE : opE.In (((w.alloc (.cells #[.int .i64 y.x.f, .int .i64 y.x.g, .slice y.A y.x.os.length y.c] 26)).alloc (.cells #[.int .i64 e.C, .int .i64 e.D, .int .i64 e.I, .int .i64 e.M, .int .i64 e.K, .int .i64 e.U, .string e.s] 35)).alloc (.cells #[.int .i64 0, .int .i64 0, .slice none 0 0] 26)) (w.alloc (.cells #[.int .i64 y.x.f, .int .i64 y.x.g, .slice y.A y.x.os.length y.c] 26)).heap.size e := (El.In.new (E := opE) (w.alloc (.cells #[.int .i64 y.x.f, .int .i64 y.x.g, .slice y.A y.x.os.length y.c] 26)) e _ rfl).alloc _
  have hZ : quE.In (((w.alloc (.cells #[.int .i64 y.x.f, .int .i64 y.x.g, .slice y.A y.x.os.length y.c] 26)).alloc (.cells #[.int .i64 e.C, .int .i64 e.D, .int .i64 e.I, .int .i64 e.M, .int .i64 e.K, .int .i64 e.U, .string e.s] 35)).alloc (.cells #[.int .i64 0, .int .i64 0, .slice none 0 0] 26)) ((w.alloc (.cells #[.int .i64 y.x.f, .int .i64 y.x.g, .slice y.A y.x.os.length y.c] 26)).alloc (.cells #[.int .i64 e.C, .int .i64 e.D, .int .i64 e.I, .int .i64 e.M, .int .i64 e.K, .int .i64 e.U, .string e.s] 35)).heap.size zeroQw := El.In.new (E := quE) ((w.alloc (.cells #[.int .i64 y.x.f, .int .i64 y.x.g, .slice y.A y.x.os.length y.c] 26)).alloc (.cells #[.int .i64 e.C, .int .i64 e.D, .int .i64 e.I, .int .i64 e.M, .int .i64 e.K, .int .i64 e.U, .string e.s] 35)) zeroQw _ rfl
  rw [alloc_size] at hE
  rw [alloc_size, alloc_size] at hZ
  have hB := below_alloc (below_alloc (below_alloc (Below.refl w.heap.size w) (.cells #[.int .i64 y.x.f, .int .i64 y.x.g, .slice y.A y.x.os.length y.c] 26)) (.cells #[.int .i64 e.C, .int .i64 e.D, .int .i64 e.I, .int .i64 e.M, .int .i64 e.K, .int .i64 e.U, .string e.s] 35)) (.cells #[.int .i64 0, .int .i64 0, .slice none 0 0] 26)
  have hT := hok.1.below hB
  go_enter Try.func11, Try.ntmps11
  go_wp2_with fail
  generalize ((w.alloc (.cells #[.int .i64 y.x.f, .int .i64 y.x.g, .slice y.A y.x.os.length y.c] 26)).alloc (.cells #[.int .i64 e.C, .int .i64 e.D, .int .i64 e.I, .int .i64 e.M, .int .i64 e.K, .int .i64 e.U, .string e.s] 35)).alloc (.cells #[.int .i64 0, .int .i64 0, .slice none 0 0] 26) = V at *
  obtain ⟨n3, h3⟩ : ∃ n, w.heap.size + 1 + 1 = n := ⟨_, rfl⟩
  obtain ⟨n2, h2⟩ : ∃ n, w.heap.size + 1 = n := ⟨_, rfl⟩
  obtain ⟨n1, h1⟩ : ∃ n, w.heap.size = n := ⟨_, rfl⟩
  rw [h3] at hZ ⊢
  rw [h2] at hE ⊢
  rw [h1] at hP ⊢
  have hwn1 : w.heap.size ≤ n1 := by omega
  have hwn3 : w.heap.size ≤ n3 := by omega
  have hn12 : n1 < n2 := by omega
  have hn23 : n2 < n3 := by omega
  clear h1 h2 h3
  obtain ⟨B, hBe⟩ : ∃ B, V.heap.size = B := ⟨_, rfl⟩
  have hBV : B ≤ V.drew.heap.size := Nat.le_of_eq hBe.symm
  have tV : opE.SlB B V.drew y.A y.x.os := El.SlB.of hT (Nat.le_of_eq hBe)
  have hwB : w.heap.size ≤ B := by have := hB.size; omega
  have hnB : n3 < B := by have := hZ.lt; omega
  replace hP : quE.In V.drew n1 y := hP
  replace hE : opE.In V.drew n2 e := hE
  replace hZ : quE.In V.drew n3 zeroQw := hZ
  replace hB := hB.drew
  clear hT hBe
  refine region_anyG (S := PsQ n1 n2 y e) 8 (by kernel_rfl) ?_
  generalize V.drew = U at *
  have hS : PsQ n1 n2 y e U := psQ hP hE
  refine anyG_take (i := 1) (v := .pointer (some ⟨n1, 2, none⟩)) rfl (by kernel_rfl) (by kernel_rfl) (by kernel_rfl) (by kernel_rfl) (by kernel_rfl) (fun _ _ _ h => h) (Or.inl ⟨by rfl, fun w' hSw => by (obtain ⟨⟨s, sf⟩, s0, s1, s2, s3, s4, s5, s6⟩ := hSw; go_simp)⟩) hS ?_
  try simp only [Act.put, List.setIfInBounds_toArray, List.set_cons_zero, List.set_cons_succ]
  refine anyG_take (i := 2) (v := .slice y.A y.x.os.length y.c) rfl (by kernel_rfl) (by kernel_rfl) (by kernel_rfl) (by kernel_rfl) (by kernel_rfl) (fun _ _ _ h => h) (Or.inl ⟨by rfl, fun w' hSw => by (obtain ⟨⟨s, sf⟩, s0, s1, s2, s3, s4, s5, s6⟩ := hSw; go_simp)⟩) hS ?_
  try simp only [Act.put, List.setIfInBounds_toArray, List.set_cons_zero, List.set_cons_succ]
  refine anyG_take (i := 4) (v := .agg #[.int .i64 e.C, .int .i64 e.D, .int .i64 e.I, .int .i64 e.M, .int .i64 e.K, .int .i64 e.U, .string e.s]) rfl (by kernel_rfl) (by kernel_rfl) (by kernel_rfl) (by kernel_rfl) (by kernel_rfl) (fun _ _ _ h => h) (Or.inl ⟨by rfl, fun w' hSw => by (obtain ⟨⟨s, sf⟩, s0, s1, s2, s3, s4, s5, s6⟩ := hSw; go_simp)⟩) hS ?_
  try simp only [Act.put, List.setIfInBounds_toArray, List.set_cons_zero, List.set_cons_succ]
  refine anyG_step (rs := [0, 5]) (by kernel_rfl) (by simp) ?_
  refine AllG.cons rfl (fun K hK => ?_) (AllG.cons rfl (fun K hK => ?_) AllG.nil)
  · skip
    have hal := below_alloc (Below.refl (U).heap.size U) (.cells #[] 35)
    have hg := World.grownBy_alloc U (.cells #[] 35) none
    have hO0 : opE.Own ((U).alloc (.cells #[] 35)) B (.slice (some ⟨(U).heap.size, 0, none⟩) 0 0) [] := El.Own.empty (E := opE) U B hBV
    replace tV := tV.keep hg (fun k e => by cases e)
    replace hP := hP.below hal
    replace hE := hE.below hal
    replace hZ := hZ.below hal
    replace hB := hB.trans (hal.mono hB.size)
    replace hBV := Nat.le_trans hBV hal.size
    try replace he := he.below hal
    try have hn60 := Nat.ne_of_lt hn6
    clear hg
    try clear hS
    go_simp
    refine hK.out _ _ (psQ hP hE : PsQ n1 n2 y e _) ?_
    try simp only [Act.put, List.setIfInBounds_toArray, List.set_cons_zero, List.set_cons_succ]
    clear hK
    clear hal
    generalize (U).alloc (.cells #[] 35) = U1 at *
    generalize (U).heap.size = n0 at *
    refine anyG_step (rs := [3, 5]) (by kernel_rfl) (by simp) ?_
    refine AllG.cons rfl (fun K hK => ?_) (AllG.cons rfl (fun K hK => ?_) AllG.nil)
    · skip
      refine El.step_app opInn rfl (.tmp 5) (.tmp 7) rfl B _ [] y.x.os rfl hO0 y.A y.x.os.length y.c rfl rfl (tV.sl hBV) hok.2.1 (by simp; omega) hBV ?_
      intro v1 W4 hO1 hg4 _
      have hr := hO0.rows
      replace hO1 : opE.Own W4 B v1 y.x.os := hO1
      replace hP := hP.keep hg4 (fun e => by have := hr n1 e.symm; omega)
      replace hE := hE.keep hg4 (fun e => by have := hr n2 e.symm; omega)
      replace hZ := hZ.keep hg4 (fun e => by have := hr n3 e.symm; omega)
      replace hB := hB.grown hg4 hB.size (fun k e => by have := hr k e; omega)
      replace hBV := Nat.le_trans hBV hg4.size
      try replace he := he.keep1 hg4 (fun e => hn60 (Option.some.inj e))
      clear hr hO0 tV hg4
      refine hK.out _ _ (psQ hP hE : PsQ n1 n2 y e _) ?_
      try simp only [Act.put, List.setIfInBounds_toArray, List.set_cons_zero, List.set_cons_succ]
      clear hK
      refine anyG_step (rs := [5]) (by kernel_rfl) (by simp) ?_
      refine AllG.cons rfl (fun K hK => ?_) AllG.nil
      have hal := below_alloc (Below.refl (W4).heap.size W4) (.cells #[.int .i64 e.C, .int .i64 e.D, .int .i64 e.I, .int .i64 e.M, .int .i64 e.K, .int .i64 e.U, .string e.s] 35)
      have hg := World.grownBy_alloc W4 (.cells #[.int .i64 e.C, .int .i64 e.D, .int .i64 e.I, .int .i64 e.M, .int .i64 e.K, .int .i64 e.U, .string e.s] 35) none
      have he : opE.Sl ((W4).alloc (.cells #[.int .i64 e.C, .int .i64 e.D, .int .i64 e.I, .int .i64 e.M, .int .i64 e.K, .int .i64 e.U, .string e.s] 35)) (some ⟨(W4).heap.size, 0, none⟩) [e] := (El.In.new (E := opE) W4 e _ rfl).sl
      have hn6 : (W4).heap.size < ((W4).alloc (.cells #[.int .i64 e.C, .int .i64 e.D, .int .i64 e.I, .int .i64 e.M, .int .i64 e.K, .int .i64 e.U, .string e.s] 35)).heap.size := by rw [alloc_size]; omega
      try have hn60 : (W4).heap.size ≠ n0 := by have := (hO0.lt n0 rfl).2; omega
      try replace tV := tV.keep hg (fun k e => by cases e)
      replace hP := hP.below hal
      replace hE := hE.below hal
      replace hZ := hZ.below hal
      replace hB := hB.trans (hal.mono hB.size)
      replace hBV := Nat.le_trans hBV hal.size
      try replace hO0 := hO0.below hal
      try replace hO1 := hO1.below hal
      clear hg
      try clear hS
      go_simp
      refine hK.out _ _ (psQ hP hE : PsQ n1 n2 y e _) ?_
      try simp only [Act.put, List.setIfInBounds_toArray, List.set_cons_zero, List.set_cons_succ]
      clear hK
      clear hal
      generalize (W4).alloc (.cells #[.int .i64 e.C, .int .i64 e.D, .int .i64 e.I, .int .i64 e.M, .int .i64 e.K, .int .i64 e.U, .string e.s] 35) = U2 at *
      generalize (W4).heap.size = n6 at *
      refine anyG_step (rs := [6]) (by kernel_rfl) (by simp) ?_
      refine AllG.cons rfl (fun K hK => ?_) AllG.nil
      refine El.step_app opInn rfl (.tmp 8) (.tmp 10) rfl B v1 y.x.os [e] rfl hO1 (some ⟨n6, 0, none⟩) 1 1 rfl rfl he (fun e => by cases e) (by rw [List.length_singleton]; omega) hBV ?_
      intro v2 W7 hO2 hg7 _
      have hr7 := hO1.rows
      replace hP := hP.keep hg7 (fun e => by have := hr7 n1 e.symm; omega)
      replace hE := hE.keep hg7 (fun e => by have := hr7 n2 e.symm; omega)
      replace hZ := hZ.keep hg7 (fun e => by have := hr7 n3 e.symm; omega)
      replace hB := hB.grown hg7 hB.size (fun k e => by have := hr7 k e; omega)
      replace hBV := Nat.le_trans hBV hg7.size
      clear hr7 hO1 hg7 he
      refine hK.out _ _ (psQ hP hE : PsQ n1 n2 y e _) ?_
      try simp only [Act.put, List.setIfInBounds_toArray, List.set_cons_zero, List.set_cons_succ]
      clear hK
      have hS : PsQ n1 n2 y e W7 := psQ hP hE
      refine anyG_take (i := 7) (v := .pointer (some ⟨n1, 2, none⟩)) rfl (by kernel_rfl) (by kernel_rfl) (by kernel_rfl) (by kernel_rfl) (by kernel_rfl) (fun _ _ _ h => h) (Or.inl ⟨by rfl, fun w' hSw => by (obtain ⟨⟨s, sf⟩, s0, s1, s2, s3, s4, s5, s6⟩ := hSw; go_simp)⟩) hS ?_
      try simp only [Act.put, List.setIfInBounds_toArray, List.set_cons_zero, List.set_cons_succ]
      clear hS
      have hl8 := hO2.rows
      obtain ⟨L2, hL2⟩ : ∃ L2, y.x.os ++ [e] = L2 := ⟨_, rfl⟩
      rw [hL2] at hO2
      have HL2 := Lib.hid hL2
      clear hL2
      obtain ⟨A', c', rfl, hS'⟩ := SlV.own hO2
      have hne8 : ∀ a, A' = some a → some a.block ≠ some n1 := fun a e e2 => by
        have h1 := hl8 a.block (by rw [e]; rfl)
        have h2 := Option.some.inj e2
        omega
      have hfrs : ∀ a, A' = some a → B ≤ a.block := fun a e => hl8 a.block (by rw [e]; rfl)
      have kf := hP.frozen 2
      obtain ⟨k0, k1, k2⟩ := quIn3 hP
      have hP2 := hP.put ⟨A', c', ⟨y.x.f, y.x.g, L2⟩⟩ 2 (.slice A' L2.length c') rfl
      have hg8 := by_cell W7 n1 2 (.slice A' L2.length c')
      have hS2 : SlV opE (W7.setCell ⟨n1, 2, none⟩ (.slice A' L2.length c')) A' c' L2 := ⟨hS'.1.keep hg8 hne8, hS'.2⟩
      have hZ2 := hZ.other n1 2 (.slice A' L2.length c') (by omega)
      have hB2 := hB.grown hg8 hB.size (fun k e => by have := Option.some.inj e; omega)
      clear hO2 hl8 hS' hP hZ hB hg8 hE
      refine anyG_step (rs := [8]) (by kernel_rfl) (by simp) ?_
      refine AllG.last (n := 8) rfl (fun K hK => ?_)
      go_simp
      refine hK.out _ _ ?_
      try simp only [Act.put, List.setIfInBounds_toArray, List.set_cons_zero, List.set_cons_succ]
      clear hK k0 k1 k2 kf
      refine anyG_done (by kernel_rfl) ?_ _
      generalize W7.setCell ⟨n1, 2, none⟩ (.slice A' L2.length c') = W8 at *
      have hn3A : ∀ a, A' = some a → some a.block ≠ some n3 := fun a e e2 => by
        have h1 := hfrs a e
        have h2 := Option.some.inj e2
        omega
      go_wp2_with (first | (refine El.load quRow rfl _ rfl n1 0 rfl ⟨A', c', ⟨y.x.f, y.x.g, L2⟩⟩ hP2.at #[.int .i64 y.x.f, .int .i64 y.x.g, .slice A' L2.length c'] rfl ?_) | (refine El.store quRow rfl _ _ rfl n3 ⟨A', c', ⟨y.x.f, y.x.g, L2⟩⟩ #[.int .i64 y.x.f, .int .i64 y.x.g, .slice A' L2.length c'] rfl rfl rfl zeroQw hZ2 ?_) | fail)
      refine El.ret1 quRow (hZ2.set ⟨A', c', ⟨y.x.f, y.x.g, L2⟩⟩ _ rfl) rfl rfl rfl #[.int .i64 y.x.f, .int .i64 y.x.g, .slice A' L2.length c'] rfl ?_
      exact ⟨⟨A', c', ⟨y.x.f, y.x.g, L2⟩⟩, rfl, by unfold pushQ; rw [HL2.out], ⟨hS2.1.keep (by_row _ n3 _) hn3A, hS2.2⟩, below_setRow hB2 hwn3 _⟩
    · skip
      have hal := below_alloc (Below.refl (U1).heap.size U1) (.cells #[.int .i64 e.C, .int .i64 e.D, .int .i64 e.I, .int .i64 e.M, .int .i64 e.K, .int .i64 e.U, .string e.s] 35)
      have hg := World.grownBy_alloc U1 (.cells #[.int .i64 e.C, .int .i64 e.D, .int .i64 e.I, .int .i64 e.M, .int .i64 e.K, .int .i64 e.U, .string e.s] 35) none
      have he : opE.Sl ((U1).alloc (.cells #[.int .i64 e.C, .int .i64 e.D, .int .i64 e.I, .int .i64 e.M, .int .i64 e.K, .int .i64 e.U, .string e.s] 35)) (some ⟨(U1).heap.size, 0, none⟩) [e] := (El.In.new (E := opE) U1 e _ rfl).sl
      have hn6 : (U1).heap.size < ((U1).alloc (.cells #[.int .i64 e.C, .int .i64 e.D, .int .i64 e.I, .int .i64 e.M, .int .i64 e.K, .int .i64 e.U, .string e.s] 35)).heap.size := by rw [alloc_size]; omega
      try have hn60 : (U1).heap.size ≠ n0 := by have := (hO0.lt n0 rfl).2; omega
      try replace tV := tV.keep hg (fun k e => by cases e)
      replace hP := hP.below hal
      replace hE := hE.below hal
      replace hZ := hZ.below hal
      replace hB := hB.trans (hal.mono hB.size)
      replace hBV := Nat.le_trans hBV hal.size
      try replace hO0 := hO0.below hal
      try replace hO1 := hO1.below hal
      clear hg
      try clear hS
      go_simp
      refine hK.out _ _ (psQ hP hE : PsQ n1 n2 y e _) ?_
      try simp only [Act.put, List.setIfInBounds_toArray, List.set_cons_zero, List.set_cons_succ]
      clear hK
      clear hal
      generalize (U1).alloc (.cells #[.int .i64 e.C, .int .i64 e.D, .int .i64 e.I, .int .i64 e.M, .int .i64 e.K, .int .i64 e.U, .string e.s] 35) = U2 at *
      generalize (U1).heap.size = n6 at *
      refine anyG_step (rs := [3]) (by kernel_rfl) (by simp) ?_
      refine AllG.cons rfl (fun K hK => ?_) AllG.nil
      refine El.step_app opInn rfl (.tmp 5) (.tmp 7) rfl B _ [] y.x.os rfl hO0 y.A y.x.os.length y.c rfl rfl (tV.sl hBV) hok.2.1 (by simp; omega) hBV ?_
      intro v1 W4 hO1 hg4 _
      have hr := hO0.rows
      replace hO1 : opE.Own W4 B v1 y.x.os := hO1
      replace hP := hP.keep hg4 (fun e => by have := hr n1 e.symm; omega)
      replace hE := hE.keep hg4 (fun e => by have := hr n2 e.symm; omega)
      replace hZ := hZ.keep hg4 (fun e => by have := hr n3 e.symm; omega)
      replace hB := hB.grown hg4 hB.size (fun k e => by have := hr k e; omega)
      replace hBV := Nat.le_trans hBV hg4.size
      try replace he := he.keep1 hg4 (fun e => hn60 (Option.some.inj e))
      clear hr hO0 tV hg4
      refine hK.out _ _ (psQ hP hE : PsQ n1 n2 y e _) ?_
      try simp only [Act.put, List.setIfInBounds_toArray, List.set_cons_zero, List.set_cons_succ]
      clear hK
      refine anyG_step (rs := [6]) (by kernel_rfl) (by simp) ?_
      refine AllG.cons rfl (fun K hK => ?_) AllG.nil
      refine El.step_app opInn rfl (.tmp 8) (.tmp 10) rfl B v1 y.x.os [e] rfl hO1 (some ⟨n6, 0, none⟩) 1 1 rfl rfl he (fun e => by cases e) (by rw [List.length_singleton]; omega) hBV ?_
      intro v2 W7 hO2 hg7 _
      have hr7 := hO1.rows
      replace hP := hP.keep hg7 (fun e => by have := hr7 n1 e.symm; omega)
      replace hE := hE.keep hg7 (fun e => by have := hr7 n2 e.symm; omega)
      replace hZ := hZ.keep hg7 (fun e => by have := hr7 n3 e.symm; omega)
      replace hB := hB.grown hg7 hB.size (fun k e => by have := hr7 k e; omega)
      replace hBV := Nat.le_trans hBV hg7.size
      clear hr7 hO1 hg7 he
      refine hK.out _ _ (psQ hP hE : PsQ n1 n2 y e _) ?_
      try simp only [Act.put, List.setIfInBounds_toArray, List.set_cons_zero, List.set_cons_succ]
      clear hK
      have hS : PsQ n1 n2 y e W7 := psQ hP hE
      refine anyG_take (i := 7) (v := .pointer (some ⟨n1, 2, none⟩)) rfl (by kernel_rfl) (by kernel_rfl) (by kernel_rfl) (by kernel_rfl) (by kernel_rfl) (fun _ _ _ h => h) (Or.inl ⟨by rfl, fun w' hSw => by (obtain ⟨⟨s, sf⟩, s0, s1, s2, s3, s4, s5, s6⟩ := hSw; go_simp)⟩) hS ?_
      try simp only [Act.put, List.setIfInBounds_toArray, List.set_cons_zero, List.set_cons_succ]
      clear hS
      have hl8 := hO2.rows
      obtain ⟨L2, hL2⟩ : ∃ L2, y.x.os ++ [e] = L2 := ⟨_, rfl⟩
      rw [hL2] at hO2
      have HL2 := Lib.hid hL2
      clear hL2
      obtain ⟨A', c', rfl, hS'⟩ := SlV.own hO2
      have hne8 : ∀ a, A' = some a → some a.block ≠ some n1 := fun a e e2 => by
        have h1 := hl8 a.block (by rw [e]; rfl)
        have h2 := Option.some.inj e2
        omega
      have hfrs : ∀ a, A' = some a → B ≤ a.block := fun a e => hl8 a.block (by rw [e]; rfl)
      have kf := hP.frozen 2
      obtain ⟨k0, k1, k2⟩ := quIn3 hP
      have hP2 := hP.put ⟨A', c', ⟨y.x.f, y.x.g, L2⟩⟩ 2 (.slice A' L2.length c') rfl
      have hg8 := by_cell W7 n1 2 (.slice A' L2.length c')
      have hS2 : SlV opE (W7.setCell ⟨n1, 2, none⟩ (.slice A' L2.length c')) A' c' L2 := ⟨hS'.1.keep hg8 hne8, hS'.2⟩
      have hZ2 := hZ.other n1 2 (.slice A' L2.length c') (by omega)
      have hB2 := hB.grown hg8 hB.size (fun k e => by have := Option.some.inj e; omega)
      clear hO2 hl8 hS' hP hZ hB hg8 hE
      refine anyG_step (rs := [8]) (by kernel_rfl) (by simp) ?_
      refine AllG.last (n := 8) rfl (fun K hK => ?_)
      go_simp
      refine hK.out _ _ ?_
      try simp only [Act.put, List.setIfInBounds_toArray, List.set_cons_zero, List.set_cons_succ]
      clear hK k0 k1 k2 kf
      refine anyG_done (by kernel_rfl) ?_ _
      generalize W7.setCell ⟨n1, 2, none⟩ (.slice A' L2.length c') = W8 at *
      have hn3A : ∀ a, A' = some a → some a.block ≠ some n3 := fun a e e2 => by
        have h1 := hfrs a e
        have h2 := Option.some.inj e2
        omega
      go_wp2_with (first | (refine El.load quRow rfl _ rfl n1 0 rfl ⟨A', c', ⟨y.x.f, y.x.g, L2⟩⟩ hP2.at #[.int .i64 y.x.f, .int .i64 y.x.g, .slice A' L2.length c'] rfl ?_) | (refine El.store quRow rfl _ _ rfl n3 ⟨A', c', ⟨y.x.f, y.x.g, L2⟩⟩ #[.int .i64 y.x.f, .int .i64 y.x.g, .slice A' L2.length c'] rfl rfl rfl zeroQw hZ2 ?_) | fail)
      refine El.ret1 quRow (hZ2.set ⟨A', c', ⟨y.x.f, y.x.g, L2⟩⟩ _ rfl) rfl rfl rfl #[.int .i64 y.x.f, .int .i64 y.x.g, .slice A' L2.length c'] rfl ?_
      exact ⟨⟨A', c', ⟨y.x.f, y.x.g, L2⟩⟩, rfl, by unfold pushQ; rw [HL2.out], ⟨hS2.1.keep (by_row _ n3 _) hn3A, hS2.2⟩, below_setRow hB2 hwn3 _⟩
  · skip
    have hal := below_alloc (Below.refl (U).heap.size U) (.cells #[.int .i64 e.C, .int .i64 e.D, .int .i64 e.I, .int .i64 e.M, .int .i64 e.K, .int .i64 e.U, .string e.s] 35)
    have hg := World.grownBy_alloc U (.cells #[.int .i64 e.C, .int .i64 e.D, .int .i64 e.I, .int .i64 e.M, .int .i64 e.K, .int .i64 e.U, .string e.s] 35) none
    have he : opE.Sl ((U).alloc (.cells #[.int .i64 e.C, .int .i64 e.D, .int .i64 e.I, .int .i64 e.M, .int .i64 e.K, .int .i64 e.U, .string e.s] 35)) (some ⟨(U).heap.size, 0, none⟩) [e] := (El.In.new (E := opE) U e _ rfl).sl
    have hn6 : (U).heap.size < ((U).alloc (.cells #[.int .i64 e.C, .int .i64 e.D, .int .i64 e.I, .int .i64 e.M, .int .i64 e.K, .int .i64 e.U, .string e.s] 35)).heap.size := by rw [alloc_size]; omega
    try have hn60 : (U).heap.size ≠ n0 := by have := (hO0.lt n0 rfl).2; omega
    try replace tV := tV.keep hg (fun k e => by cases e)
    replace hP := hP.below hal
    replace hE := hE.below hal
    replace hZ := hZ.below hal
    replace hB := hB.trans (hal.mono hB.size)
    replace hBV := Nat.le_trans hBV hal.size
    try replace hO0 := hO0.below hal
    try replace hO1 := hO1.below hal
    clear hg
    try clear hS
    go_simp
    refine hK.out _ _ (psQ hP hE : PsQ n1 n2 y e _) ?_
    try simp only [Act.put, List.setIfInBounds_toArray, List.set_cons_zero, List.set_cons_succ]
    clear hK
    clear hal
    generalize (U).alloc (.cells #[.int .i64 e.C, .int .i64 e.D, .int .i64 e.I, .int .i64 e.M, .int .i64 e.K, .int .i64 e.U, .string e.s] 35) = U2 at *
    generalize (U).heap.size = n6 at *
    refine anyG_step (rs := [0]) (by kernel_rfl) (by simp) ?_
    refine AllG.cons rfl (fun K hK => ?_) AllG.nil
    have hal := below_alloc (Below.refl (U2).heap.size U2) (.cells #[] 35)
    have hg := World.grownBy_alloc U2 (.cells #[] 35) none
    have hO0 : opE.Own ((U2).alloc (.cells #[] 35)) B (.slice (some ⟨(U2).heap.size, 0, none⟩) 0 0) [] := El.Own.empty (E := opE) U2 B hBV
    replace tV := tV.keep hg (fun k e => by cases e)
    replace hP := hP.below hal
    replace hE := hE.below hal
    replace hZ := hZ.below hal
    replace hB := hB.trans (hal.mono hB.size)
    replace hBV := Nat.le_trans hBV hal.size
    try replace he := he.below hal
    try have hn60 := Nat.ne_of_lt hn6
    clear hg
    try clear hS
    go_simp
    refine hK.out _ _ (psQ hP hE : PsQ n1 n2 y e _) ?_
    try simp only [Act.put, List.setIfInBounds_toArray, List.set_cons_zero, List.set_cons_succ]
    clear hK
    clear hal
    generalize (U2).alloc (.cells #[] 35) = U1 at *
    generalize (U2).heap.size = n0 at *
    refine anyG_step (rs := [3]) (by kernel_rfl) (by simp) ?_
    refine AllG.cons rfl (fun K hK => ?_) AllG.nil
    refine El.step_app opInn rfl (.tmp 5) (.tmp 7) rfl B _ [] y.x.os rfl hO0 y.A y.x.os.length y.c rfl rfl (tV.sl hBV) hok.2.1 (by simp; omega) hBV ?_
    intro v1 W4 hO1 hg4 _
    have hr := hO0.rows
    replace hO1 : opE.Own W4 B v1 y.x.os := hO1
    replace hP := hP.keep hg4 (fun e => by have := hr n1 e.symm; omega)
    replace hE := hE.keep hg4 (fun e => by have := hr n2 e.symm; omega)
    replace hZ := hZ.keep hg4 (fun e => by have := hr n3 e.symm; omega)
    replace hB := hB.grown hg4 hB.size (fun k e => by have := hr k e; omega)
    replace hBV := Nat.le_trans hBV hg4.size
    try replace he := he.keep1 hg4 (fun e => hn60 (Option.some.inj e))
    clear hr hO0 tV hg4
    refine hK.out _ _ (psQ hP hE : PsQ n1 n2 y e _) ?_
    try simp only [Act.put, List.setIfInBounds_toArray, List.set_cons_zero, List.set_cons_succ]
    clear hK
    refine anyG_step (rs := [6]) (by kernel_rfl) (by simp) ?_
    refine AllG.cons rfl (fun K hK => ?_) AllG.nil
    refine El.step_app opInn rfl (.tmp 8) (.tmp 10) rfl B v1 y.x.os [e] rfl hO1 (some ⟨n6, 0, none⟩) 1 1 rfl rfl he (fun e => by cases e) (by rw [List.length_singleton]; omega) hBV ?_
    intro v2 W7 hO2 hg7 _
    have hr7 := hO1.rows
    replace hP := hP.keep hg7 (fun e => by have := hr7 n1 e.symm; omega)
    replace hE := hE.keep hg7 (fun e => by have := hr7 n2 e.symm; omega)
    replace hZ := hZ.keep hg7 (fun e => by have := hr7 n3 e.symm; omega)
    replace hB := hB.grown hg7 hB.size (fun k e => by have := hr7 k e; omega)
    replace hBV := Nat.le_trans hBV hg7.size
    clear hr7 hO1 hg7 he
    refine hK.out _ _ (psQ hP hE : PsQ n1 n2 y e _) ?_
    try simp only [Act.put, List.setIfInBounds_toArray, List.set_cons_zero, List.set_cons_succ]
    clear hK
    have hS : PsQ n1 n2 y e W7 := psQ hP hE
    refine anyG_take (i := 7) (v := .pointer (some ⟨n1, 2, none⟩)) rfl (by kernel_rfl) (by kernel_rfl) (by kernel_rfl) (by kernel_rfl) (by kernel_rfl) (fun _ _ _ h => h) (Or.inl ⟨by rfl, fun w' hSw => by (obtain ⟨⟨s, sf⟩, s0, s1, s2, s3, s4, s5, s6⟩ := hSw; go_simp)⟩) hS ?_
    try simp only [Act.put, List.setIfInBounds_toArray, List.set_cons_zero, List.set_cons_succ]
    clear hS
    have hl8 := hO2.rows
    obtain ⟨L2, hL2⟩ : ∃ L2, y.x.os ++ [e] = L2 := ⟨_, rfl⟩
    rw [hL2] at hO2
    have HL2 := Lib.hid hL2
    clear hL2
    obtain ⟨A', c', rfl, hS'⟩ := SlV.own hO2
    have hne8 : ∀ a, A' = some a → some a.block ≠ some n1 := fun a e e2 => by
      have h1 := hl8 a.block (by rw [e]; rfl)
      have h2 := Option.some.inj e2
      omega
    have hfrs : ∀ a, A' = some a → B ≤ a.block := fun a e => hl8 a.block (by rw [e]; rfl)
    have kf := hP.frozen 2
    obtain ⟨k0, k1, k2⟩ := quIn3 hP
    have hP2 := hP.put ⟨A', c', ⟨y.x.f, y.x.g, L2⟩⟩ 2 (.slice A' L2.length c') rfl
    have hg8 := by_cell W7 n1 2 (.slice A' L2.length c')
    have hS2 : SlV opE (W7.setCell ⟨n1, 2, none⟩ (.slice A' L2.length c')) A' c' L2 := ⟨hS'.1.keep hg8 hne8, hS'.2⟩
    have hZ2 := hZ.other n1 2 (.slice A' L2.length c') (by omega)
    have hB2 := hB.grown hg8 hB.size (fun k e => by have := Option.some.inj e; omega)
    clear hO2 hl8 hS' hP hZ hB hg8 hE
    refine anyG_step (rs := [8]) (by kernel_rfl) (by simp) ?_
    refine AllG.last (n := 8) rfl (fun K hK => ?_)
    go_simp
    refine hK.out _ _ ?_
    try simp only [Act.put, List.setIfInBounds_toArray, List.set_cons_zero, List.set_cons_succ]
    clear hK k0 k1 k2 kf
    refine anyG_done (by kernel_rfl) ?_ _
    generalize W7.setCell ⟨n1, 2, none⟩ (.slice A' L2.length c') = W8 at *
    have hn3A : ∀ a, A' = some a → some a.block ≠ some n3 := fun a e e2 => by
      have h1 := hfrs a e
      have h2 := Option.some.inj e2
      omega
    go_wp2_with (first | (refine El.load quRow rfl _ rfl n1 0 rfl ⟨A', c', ⟨y.x.f, y.x.g, L2⟩⟩ hP2.at #[.int .i64 y.x.f, .int .i64 y.x.g, .slice A' L2.length c'] rfl ?_) | (refine El.store quRow rfl _ _ rfl n3 ⟨A', c', ⟨y.x.f, y.x.g, L2⟩⟩ #[.int .i64 y.x.f, .int .i64 y.x.g, .slice A' L2.length c'] rfl rfl rfl zeroQw hZ2 ?_) | fail)
    refine El.ret1 quRow (hZ2.set ⟨A', c', ⟨y.x.f, y.x.g, L2⟩⟩ _ rfl) rfl rfl rfl #[.int .i64 y.x.f, .int .i64 y.x.g, .slice A' L2.length c'] rfl ?_
    exact ⟨⟨A', c', ⟨y.x.f, y.x.g, L2⟩⟩, rfl, by unfold pushQ; rw [HL2.out], ⟨hS2.1.keep (by_row _ n3 _) hn3A, hS2.2⟩, below_setRow hB2 hwn3 _⟩


set_option maxRecDepth 100000 in
set_option maxHeartbeats 4000000 in
theorem refQuAck_any (y : Qw) (a : Int) (w : World) (hn : QuN y.x) (ha : -1000000000000000 ≤ a ∧ a ≤ 1000000000000000) (hok : y.ok w) :
    Calls Try.prog 13 #[.agg #[.int .i64 y.x.f, .int .i64 y.x.g, .slice y.A y.x.os.length y.c], .int .i64 a] w fun r w' => ∃ z : Qw, r = .returned (.agg #[.int .i64 z.x.f, .int .i64 z.x.g, .slice z.A z.x.os.length z.c]) ∧ z.x = ackQ y.x a ∧ z.ok w' ∧ Below w.heap.size w w' := by
  have hf := hn.f
  have hl := hn.l
  clear hn
  rcases Int.lt_or_le a y.x.f with c1 | c1
  · have HV := Lib.hid (show y.x = ackQ y.x a by unfold ackQ; rw [if_pos c1])
    have hQ := two_quB w #[.int .i64 y.x.f, .int .i64 y.x.g, .slice y.A y.x.os.length y.c] #[.int .i64 y.x.f, .int .i64 y.x.g, .slice y.A y.x.os.length y.c] y rfl
    have hB := below_alloc (below_alloc (Below.refl w.heap.size w) (.cells #[.int .i64 y.x.f, .int .i64 y.x.g, .slice y.A y.x.os.length y.c] 26)) (.cells #[.int .i64 y.x.f, .int .i64 y.x.g, .slice y.A y.x.os.length y.c] 26)
    go_enter Try.func13, Try.ntmps13
    go_wp2_with fail
    refine El.ret1 quRow hQ rfl rfl rfl #[.int .i64 y.x.f, .int .i64 y.x.g, .slice y.A y.x.os.length y.c] rfl ?_
    exact ⟨y, rfl, HV.out, SlV.below hok hB, hB⟩
  · have f1 : IntKind.i64.wrap (a - y.x.f) = a - y.x.f := by rw [IntKind.wrap_i64]; omega
    rcases Int.lt_or_le (y.x.os.length : Int) (a - y.x.f + 1) with c2 | c2
    · have f2 : IntKind.i64.wrap (a - y.x.f + 1) = a - y.x.f + 1 := by rw [IntKind.wrap_i64]; omega
      have hdd : y.x.os.length ≤ y.x.os.length := Nat.le_refl _
      have m1 : min (a - y.x.f + 1) (y.x.os.length : Int) = (y.x.os.length : Int) := by omega
      have HV := Lib.hid (show (⟨y.x.f + ((y.x.os.length : Nat) : Int), y.x.g, y.x.os.drop (y.x.os.length)⟩ : Qu) = ackQ y.x a by unfold ackQ; rw [if_neg (by omega), show min (a - y.x.f + 1) (y.x.os.length : Int) = ((y.x.os.length : Nat) : Int) by omega]; rfl)
      obtain ⟨A3, hA3⟩ : ∃ A3, (if y.c = y.x.os.length then y.A else Option.map (fun x => x.add (y.x.os.length * 7)) y.A) = A3 := ⟨_, rfl⟩
      have hT3 := hok.1.drop hok.2.2 hA3
      have hz3 := El.drop_none hok.2.1 hA3
      have hcap := hok.2.2
      have HL3 := Lib.hid (show (y.x.os.drop (y.x.os.length)).length = 0 by rw [List.length_drop]; try omega)
      have f4 : IntKind.i64.wrap (y.x.f + ((y.x.os.length : Nat) : Int)) = y.x.f + ((y.x.os.length : Nat) : Int) := by rw [IntKind.wrap_i64]; omega
      have hP : quE.In (((w.alloc (.cells #[.int .i64 y.x.f, .int .i64 y.x.g, .slice y.A y.x.os.length y.c] 26)).alloc (.cells #[.int .i64 0, .int .i64 0, .slice none 0 0] 26)).alloc (.cells #[] 35)) w.heap.size y := ((El.In.new (E := quE) w y _ rfl).alloc _).alloc _
      have hZ := (two_quB w #[.int .i64 y.x.f, .int .i64 y.x.g, .slice y.A y.x.os.length y.c] #[.int .i64 0, .int .i64 0, .slice none 0 0] zeroQw rfl).alloc (.cells #[] 35)
      have hB2 := below_alloc (below_alloc (Below.refl w.heap.size w) (.cells #[.int .i64 y.x.f, .int .i64 y.x.g, .slice y.A y.x.os.length y.c] 26)) (.cells #[.int .i64 0, .int .i64 0, .slice none 0 0] 26)
      have hO := El.Own.empty (E := opE) ((w.alloc (.cells #[.int .i64 y.x.f, .int .i64 y.x.g, .slice y.A y.x.os.length y.c] 26)).alloc (.cells #[.int .i64 0, .int .i64 0, .slice none 0 0] 26)) (w.heap.size + 1 + 1) (by rw [alloc_size, alloc_size]; exact Nat.le_refl _)
      rw [alloc_size, alloc_size] at hO
      have hB := below_alloc hB2 (.cells #[] 35)
      have hT4 := hT3.below hB
      have hBs : w.heap.size + 1 + 1 ≤ (((w.alloc (.cells #[.int .i64 y.x.f, .int .i64 y.x.g, .slice y.A y.x.os.length y.c] 26)).alloc (.cells #[.int .i64 0, .int .i64 0, .slice none 0 0] 26)).alloc (.cells #[] 35)).heap.size := by rw [alloc_size, alloc_size, alloc_size]; omega
      have hdi : ((y.x.os.length : Nat) : Int) ≤ (y.c : Int) := by omega
      have hdl : ((y.x.os.length : Nat) : Int) ≤ (y.x.os.length : Int) := by omega
      have hd0 : (0 : Int) ≤ ((y.x.os.length : Nat) : Int) := by omega
      clear hB2 hT3 hok hdd
      skip
      generalize y.x.os.drop (y.x.os.length) = L3 at *
      go_enter Try.func13, Try.ntmps13
      have hne1 : ∀ k, Value.ownBlock (.slice (some ⟨w.heap.size + 1 + 1, 0, none⟩) 0 0) = some k → k = w.heap.size + 1 + 1 := fun k e => by cases e; rfl
      go_upto_region 6 with (first | (at_builtin; refine El.wpList_app opInn rfl _ _ rfl (w.heap.size + 1 + 1) _ [] L3 rfl hO A3 (0) (y.c - y.x.os.length) rfl HL3.out hT4 hz3 (by have := HL3.out; simp; omega) hBs ?_; intro v2 w2 hOw hg2 _; have hfr := (hOw : opE.Own w2 (w.heap.size + 1 + 1) v2 L3).rows; obtain ⟨A', c', rfl, hS⟩ := SlV.own (hOw : opE.Own w2 (w.heap.size + 1 + 1) v2 L3); have hP2 := hP.keep hg2 (fun e => by have := hne1 _ e.symm; omega); have hZ2 := hZ.keep hg2 (fun e => by have := hne1 _ e.symm; omega); have hB2 := hB.grown hg2 hB.size (fun k e => by have := hne1 k e; omega); obtain ⟨k0, k1, k2⟩ := quIn3 hP2; have kf := hP2.frozen; have hP3 := (hP2.put ⟨A', c', ⟨y.x.f, y.x.g, L3⟩⟩ 2 (.slice A' L3.length c') rfl).put ⟨A', c', ⟨y.x.f + ((y.x.os.length : Nat) : Int), y.x.g, L3⟩⟩ 0 (.int .i64 (y.x.f + ((y.x.os.length : Nat) : Int))) rfl; have hZ3 := (hZ2.other w.heap.size 2 (.slice A' L3.length c') (by omega)).other w.heap.size 0 (.int .i64 (y.x.f + ((y.x.os.length : Nat) : Int))) (by omega); have hfr1 : ∀ a, A' = some a → w.heap.size + 1 + 1 ≤ a.block := fun a e => hfr a.block (by rw [e]; rfl); have g1 := by_cell w2 w.heap.size 2 (.slice A' L3.length c'); have hS1 := SlV.keepO hS g1 (fun _ a e e2 => by have h1 := hfr1 a e; have h2 := Option.some.inj e2; omega); have hB3 := hB2.grown g1 hB2.size (fun k e => by have := Option.some.inj e; omega); have g2 := by_cell (w2.setCell ⟨w.heap.size, 2, none⟩ (.slice A' L3.length c')) w.heap.size 0 (.int .i64 (y.x.f + ((y.x.os.length : Nat) : Int))); have hS2 := SlV.keepO hS1 g2 (fun _ a e e2 => by have h1 := hfr1 a e; have h2 := Option.some.inj e2; omega); have hB4 := hB3.grown g2 hB3.size (fun k e => by have := Option.some.inj e; omega); clear hfr hfr1 g1 g2 hP hZ hB hB2 hB3 hP2 hZ2 hO hT4 hS hS1) | fail)
      clear k0 k1 k2 kf
      generalize (w2.setCell ⟨w.heap.size, 2, none⟩ (.slice A' L3.length c')).setCell ⟨w.heap.size, 0, none⟩ (.int .i64 (y.x.f + ((y.x.os.length : Nat) : Int))) = W9 at *
      go_wp2_with (first | (refine El.load quRow rfl _ rfl w.heap.size 0 rfl ⟨A', c', ⟨y.x.f + ((y.x.os.length : Nat) : Int), y.x.g, L3⟩⟩ hP3.at #[.int .i64 (y.x.f + ((y.x.os.length : Nat) : Int)), .int .i64 y.x.g, .slice A' L3.length c'] rfl ?_) | (refine El.store quRow rfl _ _ rfl (w.heap.size + 1) ⟨A', c', ⟨y.x.f + ((y.x.os.length : Nat) : Int), y.x.g, L3⟩⟩ #[.int .i64 (y.x.f + ((y.x.os.length : Nat) : Int)), .int .i64 y.x.g, .slice A' L3.length c'] rfl rfl rfl zeroQw hZ3 ?_) | fail)
      refine El.ret1 quRow (hZ3.set ⟨A', c', ⟨y.x.f + ((y.x.os.length : Nat) : Int), y.x.g, L3⟩⟩ _ rfl) rfl rfl rfl #[.int .i64 (y.x.f + ((y.x.os.length : Nat) : Int)), .int .i64 y.x.g, .slice A' L3.length c'] rfl ?_
      exact ⟨⟨A', c', ⟨y.x.f + ((y.x.os.length : Nat) : Int), y.x.g, L3⟩⟩, rfl, HV.out, SlV.keepO hS2 (by_row _ (w.heap.size + 1) _) (qu_off hS2.1 hZ3), below_setRow hB4 (by omega) _⟩
    · obtain ⟨d, hd⟩ : ∃ d : Nat, (d : Int) = a - y.x.f + 1 := ⟨(a - y.x.f + 1).toNat, by omega⟩
      have f2 : IntKind.i64.wrap (a - y.x.f + 1) = (d : Int) := by rw [IntKind.wrap_i64]; omega
      have c3 : (d : Int) ≤ (y.x.os.length : Int) := by omega
      have hdd : d ≤ y.x.os.length := by omega
      have m1 : min (d : Int) (y.x.os.length : Int) = (d : Int) := by omega
      have HV := Lib.hid (show (⟨y.x.f + ((d : Nat) : Int), y.x.g, y.x.os.drop (d)⟩ : Qu) = ackQ y.x a by unfold ackQ; rw [if_neg (by omega), show min (a - y.x.f + 1) (y.x.os.length : Int) = ((d : Nat) : Int) by omega]; rfl)
      obtain ⟨A3, hA3⟩ : ∃ A3, (if y.c = d then y.A else Option.map (fun x => x.add (d * 7)) y.A) = A3 := ⟨_, rfl⟩
      have hT3 := hok.1.drop hok.2.2 hA3
      have hz3 := El.drop_none hok.2.1 hA3
      have hcap := hok.2.2
      have HL3 := Lib.hid (show (y.x.os.drop (d)).length = y.x.os.length - d by rw [List.length_drop]; try omega)
      have f4 : IntKind.i64.wrap (y.x.f + ((d : Nat) : Int)) = y.x.f + ((d : Nat) : Int) := by rw [IntKind.wrap_i64]; omega
      have hP : quE.In (((w.alloc (.cells #[.int .i64 y.x.f, .int .i64 y.x.g, .slice y.A y.x.os.length y.c] 26)).alloc (.cells #[.int .i64 0, .int .i64 0, .slice none 0 0] 26)).alloc (.cells #[] 35)) w.heap.size y := ((El.In.new (E := quE) w y _ rfl).alloc _).alloc _
      have hZ := (two_quB w #[.int .i64 y.x.f, .int .i64 y.x.g, .slice y.A y.x.os.length y.c] #[.int .i64 0, .int .i64 0, .slice none 0 0] zeroQw rfl).alloc (.cells #[] 35)
      have hB2 := below_alloc (below_alloc (Below.refl w.heap.size w) (.cells #[.int .i64 y.x.f, .int .i64 y.x.g, .slice y.A y.x.os.length y.c] 26)) (.cells #[.int .i64 0, .int .i64 0, .slice none 0 0] 26)
      have hO := El.Own.empty (E := opE) ((w.alloc (.cells #[.int .i64 y.x.f, .int .i64 y.x.g, .slice y.A y.x.os.length y.c] 26)).alloc (.cells #[.int .i64 0, .int .i64 0, .slice none 0 0] 26)) (w.heap.size + 1 + 1) (by rw [alloc_size, alloc_size]; exact Nat.le_refl _)
      rw [alloc_size, alloc_size] at hO
      have hB := below_alloc hB2 (.cells #[] 35)
      have hT4 := hT3.below hB
      have hBs : w.heap.size + 1 + 1 ≤ (((w.alloc (.cells #[.int .i64 y.x.f, .int .i64 y.x.g, .slice y.A y.x.os.length y.c] 26)).alloc (.cells #[.int .i64 0, .int .i64 0, .slice none 0 0] 26)).alloc (.cells #[] 35)).heap.size := by rw [alloc_size, alloc_size, alloc_size]; omega
      have hdi : ((d : Nat) : Int) ≤ (y.c : Int) := by omega
      have hdl : ((d : Nat) : Int) ≤ (y.x.os.length : Int) := by omega
      have hd0 : (0 : Int) ≤ ((d : Nat) : Int) := by omega
      clear hB2 hT3 hok hdd
      clear hd c2
      generalize y.x.os.drop (d) = L3 at *
      go_enter Try.func13, Try.ntmps13
      have hne1 : ∀ k, Value.ownBlock (.slice (some ⟨w.heap.size + 1 + 1, 0, none⟩) 0 0) = some k → k = w.heap.size + 1 + 1 := fun k e => by cases e; rfl
      go_upto_region 6 with (first | (at_builtin; refine El.wpList_app opInn rfl _ _ rfl (w.heap.size + 1 + 1) _ [] L3 rfl hO A3 (y.x.os.length - d) (y.c - d) rfl HL3.out hT4 hz3 (by have := HL3.out; simp; omega) hBs ?_; intro v2 w2 hOw hg2 _; have hfr := (hOw : opE.Own w2 (w.heap.size + 1 + 1) v2 L3).rows; obtain ⟨A', c', rfl, hS⟩ := SlV.own (hOw : opE.Own w2 (w.heap.size + 1 + 1) v2 L3); have hP2 := hP.keep hg2 (fun e => by have := hne1 _ e.symm; omega); have hZ2 := hZ.keep hg2 (fun e => by have := hne1 _ e.symm; omega); have hB2 := hB.grown hg2 hB.size (fun k e => by have := hne1 k e; omega); obtain ⟨k0, k1, k2⟩ := quIn3 hP2; have kf := hP2.frozen; have hP3 := (hP2.put ⟨A', c', ⟨y.x.f, y.x.g, L3⟩⟩ 2 (.slice A' L3.length c') rfl).put ⟨A', c', ⟨y.x.f + ((d : Nat) : Int), y.x.g, L3⟩⟩ 0 (.int .i64 (y.x.f + ((d : Nat) : Int))) rfl; have hZ3 := (hZ2.other w.heap.size 2 (.slice A' L3.length c') (by omega)).other w.heap.size 0 (.int .i64 (y.x.f + ((d : Nat) : Int))) (by omega); have hfr1 : ∀ a, A' = some a → w.heap.size + 1 + 1 ≤ a.block := fun a e => hfr a.block (by rw [e]; rfl); have g1 := by_cell w2 w.heap.size 2 (.slice A' L3.length c'); have hS1 := SlV.keepO hS g1 (fun _ a e e2 => by have h1 := hfr1 a e; have h2 := Option.some.inj e2; omega); have hB3 := hB2.grown g1 hB2.size (fun k e => by have := Option.some.inj e; omega); have g2 := by_cell (w2.setCell ⟨w.heap.size, 2, none⟩ (.slice A' L3.length c')) w.heap.size 0 (.int .i64 (y.x.f + ((d : Nat) : Int))); have hS2 := SlV.keepO hS1 g2 (fun _ a e e2 => by have h1 := hfr1 a e; have h2 := Option.some.inj e2; omega); have hB4 := hB3.grown g2 hB3.size (fun k e => by have := Option.some.inj e; omega); clear hfr hfr1 g1 g2 hP hZ hB hB2 hB3 hP2 hZ2 hO hT4 hS hS1) | fail)
      clear k0 k1 k2 kf
      generalize (w2.setCell ⟨w.heap.size, 2, none⟩ (.slice A' L3.length c')).setCell ⟨w.heap.size, 0, none⟩ (.int .i64 (y.x.f + ((d : Nat) : Int))) = W9 at *
      go_wp2_with (first | (refine El.load quRow rfl _ rfl w.heap.size 0 rfl ⟨A', c', ⟨y.x.f + ((d : Nat) : Int), y.x.g, L3⟩⟩ hP3.at #[.int .i64 (y.x.f + ((d : Nat) : Int)), .int .i64 y.x.g, .slice A' L3.length c'] rfl ?_) | (refine El.store quRow rfl _ _ rfl (w.heap.size + 1) ⟨A', c', ⟨y.x.f + ((d : Nat) : Int), y.x.g, L3⟩⟩ #[.int .i64 (y.x.f + ((d : Nat) : Int)), .int .i64 y.x.g, .slice A' L3.length c'] rfl rfl rfl zeroQw hZ3 ?_) | fail)
      refine El.ret1 quRow (hZ3.set ⟨A', c', ⟨y.x.f + ((d : Nat) : Int), y.x.g, L3⟩⟩ _ rfl) rfl rfl rfl #[.int .i64 (y.x.f + ((d : Nat) : Int)), .int .i64 y.x.g, .slice A' L3.length c'] rfl ?_
      exact ⟨⟨A', c', ⟨y.x.f + ((d : Nat) : Int), y.x.g, L3⟩⟩, rfl, HV.out, SlV.keepO hS2 (by_row _ (w.heap.size + 1) _) (qu_off hS2.1 hZ3), below_setRow hB4 (by omega) _⟩
end Go.Proofs.Ytdkolkjgojamcaa

/- Entries and counts in memory; what the program's functions shall answer (EntryCalls: proved for the real program in a text of its own); the document's Right and Print. -/
namespace Go.Proofs.Ytdkolkjgojamcaa
open Go.RowKit Nam Cod

/-- An entry's numbers fit. -/
structure EnW (e : En) : Prop where
  k : i64 e.k
  d : i64 e.d
  i : i64 e.i
  o : Wide e.o.C e.o.D e.o.I e.o.M e.o.K e.o.U
def entStep (s : ByteArray) (p : Nat) (bad : Bool) (x : En) (q : Nat) (bad' : Bool) : Prop := (isEnt s p bad = some (x, q) ∧ bad' = false) ∨ (isEnt s p bad = none ∧ x = zeroEn ∧ bad' = true)
theorem opRefP_mv (m : Mv) (w : World) (hw : Wide m.C m.D m.I m.M m.K m.U) (hs : m.s.size ≤ 1000000) :
    Calls Try.prog 36 #[.agg #[.int .i64 m.C, .int .i64 m.D, .int .i64 m.I, .int .i64 m.M, .int .i64 m.K, .int .i64 m.U, .string m.s]] w fun e w' => e = .returned (.string m.bytes) ∧ Below w.heap.size w w' := opRefPrint_any m.C m.D m.I m.M m.K m.U m.s w hw hs


theorem toList_iff {a b : ByteArray} : a.toList = b.toList ↔ a = b := ⟨fun h => by
  by_cases e : a = b
  · exact e
  · exact absurd h (ne_list e), fun h => by rw [h]⟩
/-- Are these two operations, entries, counts the same? -/
def mvEq (C D I M K U : Int) (s : ByteArray) (C' D' I' M' K' U' : Int) (s' : ByteArray) : Bool := decide (C = C' ∧ D = D' ∧ I = I' ∧ M = M' ∧ K = K' ∧ U = U' ∧ s = s')
def enEq (k d i C D I M K U : Int) (s : ByteArray) (k' d' i' C' D' I' M' K' U' : Int) (s' : ByteArray) : Bool := decide (k = k' ∧ d = d' ∧ i = i' ∧ C = C' ∧ D = D' ∧ I = I' ∧ M = M' ∧ K = K' ∧ U = U' ∧ s = s')
def cnEq (d i n d' i' n' : Int) : Bool := decide (d = d' ∧ i = i' ∧ n = n')
theorem mvEq_iff {x y : Mv} : mvEq x.C x.D x.I x.M x.K x.U x.s y.C y.D y.I y.M y.K y.U y.s = true ↔ x = y := by
  unfold mvEq
  rw [decide_eq_true_iff]
  obtain ⟨C, D, I, M, K, U, s⟩ := x
  obtain ⟨C', D', I', M', K', U', s'⟩ := y
  simp
theorem enEq_iff {x y : En} : enEq x.k x.d x.i x.o.C x.o.D x.o.I x.o.M x.o.K x.o.U x.o.s y.k y.d y.i y.o.C y.o.D y.o.I y.o.M y.o.K y.o.U y.o.s = true ↔ x = y := by
  unfold enEq
  rw [decide_eq_true_iff]
  obtain ⟨k, d, i, C, D, I, M, K, U, s⟩ := x
  obtain ⟨k', d', i', C', D', I', M', K', U', s'⟩ := y
  simp
theorem cnEq_iff {x y : Cn} : cnEq x.d x.i x.n y.d y.i y.n = true ↔ x = y := by
  unfold cnEq
  rw [decide_eq_true_iff]
  obtain ⟨d, i, n⟩ := x
  obtain ⟨d', i', n'⟩ := y
  simp
set_option maxRecDepth 100000 in
set_option maxHeartbeats 4000000 in
theorem run_eqMv (w : World) (C D I M K U C' D' I' M' K' U' : Int) (s s' : ByteArray) : (Op.equalIn 10000 35 (.agg #[.int .i64 C, .int .i64 D, .int .i64 I, .int .i64 M, .int .i64 K, .int .i64 U, .string s]) (.agg #[.int .i64 C', .int .i64 D', .int .i64 I', .int .i64 M', .int .i64 K', .int .i64 U', .string s'])).run Try.prog w = .ok (mvEq C D I M K U s C' D' I' M' K' U' s') w := by
  by_cases h : C = C' ∧ D = D' ∧ I = I' ∧ M = M' ∧ K = K' ∧ U = U' ∧ s = s'
  · have hm : mvEq C D I M K U s C' D' I' M' K' U' s' = true := decide_eq_true h
    rw [hm]
    obtain ⟨rfl, rfl, rfl, rfl, rfl, rfl, rfl⟩ := h
    clear hm
    go_simp
  · have hm : mvEq C D I M K U s C' D' I' M' K' U' s' = false := decide_eq_false h
    rw [hm]
    clear hm
    go_simp
    exact fun h1 h2 h3 h4 h5 h6 h7 => h ⟨h1, h2, h3, h4, h5, h6, toList_iff.1 h7⟩
theorem bytesOf_le10 {n : Int} (h : i64 n) : (bytesOf n).size ≤ 10 := by rw [bytesOf_size]; exact enc_ten _ (fold_lt n h.1 h.2)
theorem mvBytes_le {o : Mv} (h : Wide o.C o.D o.I o.M o.K o.U) (hs : o.s.size ≤ 1000000) : o.bytes.size ≤ 1000070 := by
  obtain ⟨h1, h2, h3, h4, h5, h6⟩ := h
  have g1 := bytesOf_le10 (n := o.C) ⟨h1.1, h1.2⟩
  have g2 := bytesOf_le10 (n := o.D) ⟨h2.1, h2.2⟩
  have g3 := bytesOf_le10 (n := o.I) ⟨h3.1, h3.2⟩
  have g4 := bytesOf_le10 (n := o.M) ⟨h4.1, h4.2⟩
  have g5 := bytesOf_le10 (n := o.K) ⟨h5.1, h5.2⟩
  have g6 := bytesOf_le10 (n := o.U) ⟨h6.1, h6.2⟩
  have g7 := text_le o.s hs
  unfold Mv.bytes printOf
  simp only [ByteArray.size_append]
  omega
end Go.Proofs.Ytdkolkjgojamcaa

/- The document's Out and Print of queues. -/
namespace Go.Proofs.Ytdkolkjgojamcaa
open Go.RowKit Nam Cod

theorem outQ_next {x : Qu} {k : Nat} (h : k < x.os.length) : x.os.take (k + 1) = x.os.take k ++ [x.os[k]] := List.take_succ_eq_append_getElem h
theorem outQ_end {x : Qu} {most : Int} {k : Nat} (h1 : (k : Int) ≤ max (min most (x.g - x.f + 1)) 0) (h : ¬ (k < x.os.length ∧ (k : Int) < most ∧ x.f + k ≤ x.g)) (hk : k ≤ x.os.length) : x.os.take k = outQ x most := by
  unfold outQ
  by_cases c : k < x.os.length
  · congr 1; omega
  · rw [List.take_of_length_le (by omega), List.take_of_length_le (by omega)]
set_option maxRecDepth 100000 in
set_option maxHeartbeats 4000000 in
theorem refQuOut_any (y : Qw) (most : Int) (w : World) (hn : QuN y.x) (hok : y.ok w) :
    Calls Try.prog 18 #[.agg #[.int .i64 y.x.f, .int .i64 y.x.g, .slice y.A y.x.os.length y.c], .int .i64 most] w fun r w' => ∃ (A : Option Addr) (c : Nat), r = .returned (.slice A (outQ y.x most).length c) ∧ SlV opE w' A c (outQ y.x most) ∧ Below w.heap.size w w' := by
  have hP : quE.In (w.alloc (.cells #[.int .i64 y.x.f, .int .i64 y.x.g, .slice y.A y.x.os.length y.c] 26)) w.heap.size y := El.In.new (E := quE) w y _ rfl
  have hB := below_alloc (Below.refl w.heap.size w) (.cells #[.int .i64 y.x.f, .int .i64 y.x.g, .slice y.A y.x.os.length y.c] 26)
  have HT := Lib.hid hok.1
  have hf := hn.f
  have hg := hn.g
  have hl := hn.l
  clear hn hok
  go_enter Try.func18, Try.ntmps18
  go_wp2_with fail
  generalize w.alloc (.cells #[.int .i64 y.x.f, .int .i64 y.x.g, .slice y.A y.x.os.length y.c] 26) = W0 at *
  obtain ⟨n1, hn1⟩ : ∃ n, w.heap.size = n := ⟨_, rfl⟩
  rw [hn1] at hP ⊢
  clear hn1
  obtain ⟨B, hBe⟩ : ∃ B, W0.heap.size = B := ⟨_, rfl⟩
  have hnB : n1 < B := by have := hP.lt; omega
  have hBw : B ≤ W0.heap.size := by omega
  have hwB : w.heap.size ≤ B := by have := hB.size; omega
  clear hBe
  go_loopw [5, 6] (fun v i wr => ∃ (k : Nat) (v1 : Value), k ≤ y.x.os.length ∧ Hid ((k : Int) ≤ max (min most (y.x.g - y.x.f + 1)) 0) ∧ i = .int .i64 k ∧ v = v1 ∧ quE.In wr n1 y ∧ opE.Own wr B v1 (y.x.os.take k) ∧ B ≤ wr.heap.size ∧ Below w.heap.size w wr) (fun _ i _ => y.x.os.length - (intOf i).toNat)
  case atStart => exact ⟨0, _, Nat.zero_le _, Lib.hid (by omega), rfl, rfl, hP, El.Own.nil W0 B, hBw, hB⟩
  case round =>
    clear hP hB hBw
    obtain ⟨k, v1, hk, hm0, rfl, rfl, hP, hO, hBw, hB⟩ := hrel
    have hm := hm0.out
    obtain ⟨p0, p1, p2⟩ := quIn3 hP
    have w1 : IntKind.i64.wrap (y.x.f + (k : Int)) = y.x.f + (k : Int) := by rw [IntKind.wrap_i64]; omega
    by_cases hkl : k < y.x.os.length
    · have f1 : decide ((k : Int) < (y.x.os.length : Int)) = true := decide_eq_true (by omega)
      by_cases hkm : (k : Int) < most
      · have f2 : decide ((k : Int) < most) = true := decide_eq_true hkm
        by_cases hkg : y.x.f + k ≤ y.x.g
        · have f3 : decide (y.x.f + (k : Int) ≤ y.x.g) = true := decide_eq_true hkg
          have HM := Lib.hid (show ((k + 1 : Nat) : Int) ≤ max (min most (y.x.g - y.x.f + 1)) 0 by omega)
          obtain ⟨b, off, eA, hbw, hc⟩ := HT.out (by omega)
          have hx := opIdxH (cap := y.c) eA hkl
          have hat : opE.At wr b (off + k * 7) y.x.os[k] := (hc k hkl).below hB hbw
          have HNX := Lib.hid (outQ_next hkl)
          have HLJ := Lib.hid (show (y.x.os.take k).length = k by rw [List.length_take]; omega)
          obtain ⟨x, hx0⟩ : ∃ x, y.x.os[k] = x := ⟨_, rfl⟩
          rw [hx0] at hat HNX
          clear hx0
          generalize y.x.os.take k = L at *
          obtain ⟨A', c', rfl, _⟩ := SlV.own hO
          have hE : opE.Sl (wr.alloc (.cells #[.int .i64 x.C, .int .i64 x.D, .int .i64 x.I, .int .i64 x.M, .int .i64 x.K, .int .i64 x.U, .string x.s] 35)) (some ⟨wr.heap.size, 0, none⟩) [x] := (El.In.new (E := opE) wr x _ rfl).sl
          have hal := below_alloc (Below.refl wr.heap.size wr) (.cells #[.int .i64 x.C, .int .i64 x.D, .int .i64 x.I, .int .i64 x.M, .int .i64 x.K, .int .i64 x.U, .string x.s] 35)
          have hO2 := hO.below hal
          have hP2 := hP.below hal
          have hB2 := hB.trans (hal.mono hB.size)
          have hBw2 := Nat.le_trans hBw hal.size
          have hkl2 : k + 1 ≤ y.x.os.length := hkl
          clear hc eA hO hal hP hB hBw hm hm0 hkl
          go_wp2_with (first | (refine El.load opRow rfl _ rfl b (off + k * 7) rfl x hat #[.int .i64 x.C, .int .i64 x.D, .int .i64 x.I, .int .i64 x.M, .int .i64 x.K, .int .i64 x.U, .string x.s] rfl ?_) | (at_builtin; refine El.wpList_app opInn rfl _ _ rfl B (.slice A' L.length c') L [x] rfl hO2 (some ⟨wr.heap.size, 0, none⟩) 1 1 rfl rfl hE (fun e => by cases e) (by have := HLJ.out; rw [List.length_singleton]; omega) hBw2 ?_; intro v3 w3 hO3 hg3 _; have hP3 := hP2.keep hg3 (fun e => by have := (hO2.lt _ e.symm).1; omega); have hB3 := hB2.grown hg3 hB2.size (fun k e => by have := (hO2.lt k e).1; omega); have hBw3 := Nat.le_trans hBw2 hg3.size; clear hO2 hP2 hB2 hBw2) | fail)
          exact ⟨⟨k + 1, v3, hkl2, HM, by go_num, rfl, hP3, by rw [HNX.out]; exact hO3, hBw3, hB3⟩, by simp [intOf]; omega⟩
        · have f3 : decide (y.x.f + (k : Int) ≤ y.x.g) = false := decide_eq_false hkg
          have HR := Lib.hid (outQ_end (x := y.x) hm (by omega) hk)
          rw [HR.out] at hO
          obtain ⟨L, hL⟩ : ∃ L, outQ y.x most = L := ⟨_, rfl⟩
          rw [hL] at hO
          have HL := Lib.hid hL
          obtain ⟨A', c', rfl, hS⟩ := SlV.own hO
          clear hO hL HR
          go_wp2_with fail
          go_ret
          exact ⟨A', c', by rw [HL.out]; rfl, by rw [HL.out]; exact hS, hB⟩
      · have f2 : decide ((k : Int) < most) = false := decide_eq_false hkm
        have HR := Lib.hid (outQ_end (x := y.x) hm (by omega) hk)
        rw [HR.out] at hO
        obtain ⟨L, hL⟩ : ∃ L, outQ y.x most = L := ⟨_, rfl⟩
        rw [hL] at hO
        have HL := Lib.hid hL
        obtain ⟨A', c', rfl, hS⟩ := SlV.own hO
        clear hO hL HR
        go_wp2_with fail
        go_ret
        exact ⟨A', c', by rw [HL.out]; rfl, by rw [HL.out]; exact hS, hB⟩
    · have f1 : decide ((k : Int) < (y.x.os.length : Int)) = false := decide_eq_false (by omega)
      have f4 : decide (k < y.x.os.length) = false := decide_eq_false hkl
      have HR := Lib.hid (outQ_end (x := y.x) hm (by omega) hk)
      rw [HR.out] at hO
      obtain ⟨L, hL⟩ : ∃ L, outQ y.x most = L := ⟨_, rfl⟩
      rw [hL] at hO
      have HL := Lib.hid hL
      obtain ⟨A', c', rfl, hS⟩ := SlV.own hO
      clear hO hL HR
      go_wp2_with fail
      go_ret
      exact ⟨A', c', by rw [HL.out]; rfl, by rw [HL.out]; exact hS, hB⟩

theorem opsBytes_wide {l : List Mv} (h : ∀ o ∈ l, Wide o.C o.D o.I o.M o.K o.U ∧ o.s.size ≤ 1000000) : (opsBytes l).size ≤ 1000070 * l.length :=
  opsBytes_le l (fun o ho => mvBytes_le (h o ho).1 (h o ho).2)
set_option maxRecDepth 100000 in
set_option maxHeartbeats 4000000 in
theorem refQuPrint_any (y : Qw) (w : World) (hn : QuN y.x) (hok : y.ok w) (hw : ∀ o ∈ y.x.os, Wide o.C o.D o.I o.M o.K o.U ∧ o.s.size ≤ 1000000) :
    Calls Try.prog 21 #[.agg #[.int .i64 y.x.f, .int .i64 y.x.g, .slice y.A y.x.os.length y.c]] w fun r w' => r = .returned (.string (quBytes y.x)) ∧ Below w.heap.size w w' := by
  have hP : quE.In (w.alloc (.cells #[.int .i64 y.x.f, .int .i64 y.x.g, .slice y.A y.x.os.length y.c] 26)) w.heap.size y := El.In.new (E := quE) w y _ rfl
  have hB := below_alloc (Below.refl w.heap.size w) (.cells #[.int .i64 y.x.f, .int .i64 y.x.g, .slice y.A y.x.os.length y.c] 26)
  have HT := Lib.hid hok.1
  have HW := Lib.hid hw
  have hs := hn.f
  have ht := hn.g
  have hl := hn.l
  have C1 := Lib.hid (fun wx => refNum_any y.x.f wx (by omega) (by omega))
  have C2 := Lib.hid (fun wx => refNum_any y.x.g wx (by omega) (by omega))
  have C3 := Lib.hid (fun wx => refNum_any (y.x.os.length : Int) wx (by omega) (by omega))
  have z1 := bytesOf_le10 (n := y.x.f) (by unfold i64; omega)
  have z2 := bytesOf_le10 (n := y.x.g) (by unfold i64; omega)
  have z3 := bytesOf_le10 (n := (y.x.os.length : Int)) (by unfold i64; omega)
  have HV := Lib.hid (show quBytes y.x = bytesOf y.x.f ++ bytesOf y.x.g ++ bytesOf (y.x.os.length : Int) ++ opsBytes y.x.os from rfl)
  generalize bytesOf y.x.f = x1 at *
  generalize bytesOf y.x.g = x2 at *
  generalize bytesOf (y.x.os.length : Int) = x3 at *
  obtain ⟨p0, p1, p2⟩ := quIn3 hP
  clear hn hok hw
  go_enter Try.func21, Try.ntmps21
  go_wp2_with fail
  generalize w.alloc (.cells #[.int .i64 y.x.f, .int .i64 y.x.g, .slice y.A y.x.os.length y.c] 26) = W at *
  obtain ⟨n1, hn1⟩ : ∃ n, w.heap.size = n := ⟨_, rfl⟩
  rw [hn1] at p0 p1 p2 hP ⊢
  clear hn1
  have k0 := cell_regrown p0
  have k1 := cell_regrown p1
  have k2 := cell_regrown p2
  clear p0 p1 p2
  have d1 : ∀ d os, Calls Try.prog 35 #[.int .i64 y.x.f] (Sort.grow (redrawn W d) os) fun e w'' => e = .returned (.string x1) ∧ ∃ p : Regrown, w'' = Sort.grow (redrawn W p.d) p.os := fun d os => Calls.regrown_of (C1.out _)
  have d2 : ∀ d os, Calls Try.prog 35 #[.int .i64 y.x.g] (Sort.grow (redrawn W d) os) fun e w'' => e = .returned (.string x2) ∧ ∃ p : Regrown, w'' = Sort.grow (redrawn W p.d) p.os := fun d os => Calls.regrown_of (C2.out _)
  have d3 : ∀ d os, Calls Try.prog 35 #[.int .i64 (y.x.os.length : Int)] (Sort.grow (redrawn W d) os) fun e w'' => e = .returned (.string x3) ∧ ∃ p : Regrown, w'' = Sort.grow (redrawn W p.d) p.os := fun d os => Calls.regrown_of (C3.out _)
  refine wp_region_quiet_below (by kernel_rfl) (by kernel_rfl) ?_
  repeat (go_big_quiet_step ((with_reducible (first | exact d1 _ _ | exact d2 _ _ | exact d3 _ _))))
  refine wpQuiet_nil ?_
  intro _ hw'
  obtain ⟨⟨dq, osq⟩, hw''⟩ := hw'
  subst hw''
  clear d1 d2 d3 k0 k1 k2 C1 C2 C3
  have hgr := below_regrown W dq osq
  replace hP := hP.below hgr
  replace hB := below_then hB hgr
  clear hgr
  generalize Sort.grow (redrawn W dq) osq = W1 at *
  have hpre : (x1 ++ x2 ++ x3).size ≤ 30 := by rw [ByteArray.size_append, ByteArray.size_append]; omega
  go_wp2_with fail
  clear z1 z2 z3
  generalize x1 ++ x2 ++ x3 = X at *
  go_loopw [3, 4] (fun v i wr => ∃ k : Nat, k ≤ y.x.os.length ∧ i = .int .i64 k ∧ v = .string (X ++ opsBytes (y.x.os.take k)) ∧ quE.In wr n1 y ∧ Below w.heap.size w wr) (fun _ i _ => y.x.os.length - (intOf i).toNat)
  case atStart =>
    refine ⟨0, Nat.zero_le _, rfl, ?_, hP, hB⟩
    rw [List.take_zero, show X ++ opsBytes [] = X from L_inj (by rw [L_app]; show L X ++ L ⟨#[]⟩ = _; simp [L])]
  case round =>
    clear hP hB
    obtain ⟨k, hk, rfl, rfl, hP, hB⟩ := hrel
    obtain ⟨p0, p1, p2⟩ := quIn3 hP
    by_cases hkl : k < y.x.os.length
    · obtain ⟨b, off, eA, hbw, hc⟩ := HT.out (by omega)
      have hx := opIdxH (cap := y.c) eA hkl
      have hat : opE.At wr b (off + k * 7) y.x.os[k] := (hc k hkl).below hB hbw
      obtain ⟨hwd, hsz⟩ := HW.out y.x.os[k] (List.getElem_mem _)
      have HCN := Lib.hid (show X ++ opsBytes (y.x.os.take (k + 1)) = X ++ opsBytes (y.x.os.take k) ++ y.x.os[k].bytes by rw [opsBytes_next _ k hkl, ByteArray.append_assoc])
      have hle := opsBytes_wide (l := y.x.os.take k) (fun e he => HW.out e (List.mem_of_mem_take he))
      rw [List.length_take] at hle
      have hxl := mvBytes_le hwd hsz
      have hsm : (X ++ opsBytes (y.x.os.take k)).size ≤ 60000000000 := by rw [ByteArray.size_append]; omega
      generalize y.x.os[k] = x at *
      have HP := Lib.hid (fun wx => opRefP_mv x wx hwd hsz)
      generalize X ++ opsBytes (y.x.os.take k) = T at *
      generalize x.bytes = P at *
      clear hc eA hwd hle
      go_wp2_with (first | (refine El.load opRow rfl _ rfl b (off + k * 7) rfl x hat #[.int .i64 x.C, .int .i64 x.D, .int .i64 x.I, .int .i64 x.M, .int .i64 x.K, .int .i64 x.U, .string x.s] rfl ?_) | fail)
      refine (HP.out _).mono ?_
      rintro r w2 ⟨rfl, hb2⟩
      replace hP := hP.below hb2
      replace hB := below_then hB hb2
      clear p0 p1 p2
      go_wp2_with fail
      exact ⟨⟨k + 1, by omega, by go_num, by rw [HCN.out], hP, hB⟩, by simp [intOf]; omega⟩
    · obtain rfl : k = y.x.os.length := by omega
      have hV : X ++ opsBytes (y.x.os.take y.x.os.length) = quBytes y.x := by rw [List.take_length, HV.out]
      rw [hV]
      clear hV
      go_wp2_with fail
      go_ret
      exact ⟨rfl, hB⟩
end Go.Proofs.Ytdkolkjgojamcaa

/- Of law 13: steps in memory; some, step, awake, given the program's calls. -/
namespace Go.Proofs.Ytdkolkjgojamcaa
open Go.RowKit Nam Cod

def adE : El Ad where
  e := 29
  k := 2
  c y := [.int .i64 y.k, .int .i64 y.n]
  len _ := rfl
  one p u h := by
    simp only [List.mem_cons, List.not_mem_nil, or_false] at h
    rcases h with rfl | rfl <;> rfl
  pos := by decide
theorem adRow : adE.Row Try.prog := ⟨by kernel_rfl, _, Try.underlying29, rfl⟩
theorem adIn2 {w : World} {b : Nat} {y : Ad} (h : adE.In w b y) : w.cell? ⟨b, 0, none⟩ = some (.int .i64 y.k) ∧ w.cell? ⟨b, 1, none⟩ = some (.int .i64 y.n) := ⟨h.cell 0, h.cell 1⟩
theorem adAtH {w : World} {b o : Nat} {y : Ad} (h : adE.At w b o y) : w.cell? ⟨b, o, none⟩ = some (.int .i64 y.k) ∧ w.cell? ⟨b, o + 1, none⟩ = some (.int .i64 y.n) := ⟨h 0 _ rfl, h 1 _ rfl⟩
theorem adIdxH {A : Option Addr} {b off len cap k : Nat} (hA : A = some ⟨b, off, none⟩) (h : k < len) : ∀ w, (Instr.indexAt 22 (.slice A len cap) (.int .i64 k)).run Try.prog w = .ok (.pointer (some ⟨b, off + k * 2, none⟩)) w := fun w => by
  subst hA
  have h2 : (k : Int) < (len : Int) := by omega
  go_simp

set_option maxRecDepth 100000 in
set_option maxHeartbeats 2000000 in
theorem some13_any (n : Nat) (hn : n ≤ 1000000000000000) (w : World) : Calls Try.prog 12 #[.int .i64 n] w fun r w' => r = .returned (.agg #[.int .i64 (someO n).C, .int .i64 (someO n).D, .int .i64 (someO n).I, .int .i64 (someO n).M, .int .i64 (someO n).K, .int .i64 (someO n).U, .string (someO n).s]) ∧ Below w.heap.size w w' := by
  have h3 : IntKind.i64.wrap (1 + (n : Int)) = 1 + (n : Int) := by rw [IntKind.wrap_i64]; omega
  have h4 : IntKind.i64.wrap (2 + (n : Int) % 9) = 2 + (n : Int) % 9 := by rw [IntKind.wrap_i64]; omega
  have hZ : opE.In (w.alloc (.cells #[.int .i64 0, .int .i64 0, .int .i64 0, .int .i64 0, .int .i64 0, .int .i64 0, .string ⟨#[]⟩] 35)) w.heap.size zeroMv := El.In.new (E := opE) w zeroMv #[.int .i64 0, .int .i64 0, .int .i64 0, .int .i64 0, .int .i64 0, .int .i64 0, .string ⟨#[]⟩] rfl
  have hB := below_alloc (Below.refl w.heap.size w) (.cells #[.int .i64 0, .int .i64 0, .int .i64 0, .int .i64 0, .int .i64 0, .int .i64 0, .string ⟨#[]⟩] 35)
  go_enter Try.func12, Try.ntmps12
  go_wp2_with (first | (refine El.store opRow rfl _ _ rfl w.heap.size (someO n) #[.int .i64 (1 + (n : Int)), .int .i64 0, .int .i64 1, .int .i64 (1 + (n : Int)), .int .i64 (2 + (n : Int) % 9), .int .i64 0, .string ⟨#[97]⟩] rfl rfl rfl zeroMv hZ ?_) | fail)
  refine El.ret1 opRow (hZ.set (someO n) _ rfl) rfl rfl rfl _ rfl ?_
  exact ⟨rfl, below_setRow hB (Nat.le_refl _) _⟩

def PS3 (n1 : Nat) (z : Qw) (w : World) : Prop := w.cell? ⟨n1, 0, none⟩ = some (.int .i64 z.x.f) ∧ w.cell? ⟨n1, 1, none⟩ = some (.int .i64 z.x.g) ∧ w.cell? ⟨n1, 2, none⟩ = some (.slice z.A z.x.os.length z.c)
set_option maxRecDepth 100000 in
set_option maxHeartbeats 2000000 in
theorem step13_any (H : QueueCalls) (y : Qw) (a : Ad) (i : Nat) (w : World) (hn : QuN y.x) (ha : -1000000000000000 ≤ a.n ∧ a.n ≤ 1000000000000000) (hi : i ≤ 1000000) (hy : y.ok w) : Calls Try.prog 10 #[.agg #[.int .i64 y.x.f, .int .i64 y.x.g, .slice y.A y.x.os.length y.c], .agg #[.int .i64 a.k, .int .i64 a.n], .int .i64 i] w fun r w' => ∃ z : Qw, r = .returned (.agg #[.int .i64 z.x.f, .int .i64 z.x.g, .slice z.A z.x.os.length z.c]) ∧ z.x = stepQ y.x a i ∧ z.ok w' ∧ Below w.heap.size w w' ∧ Near w.heap.size y z := by
  have hP : quE.In (((w.alloc (.cells #[.int .i64 y.x.f, .int .i64 y.x.g, .slice y.A y.x.os.length y.c] 26)).alloc (.cells #[.int .i64 a.k, .int .i64 a.n] 29)).alloc (.cells #[.int .i64 0, .int .i64 0, .slice none 0 0] 26)) w.heap.size y := ((El.In.new (E := quE) w y _ rfl).alloc _).alloc _
  have hA : adE.In (((w.alloc (.cells #[.int .i64 y.x.f, .int .i64 y.x.g, .slice y.A y.x.os.length y.c] 26)).alloc (.cells #[.int .i64 a.k, .int .i64 a.n] 29)).alloc (.cells #[.int .i64 0, .int .i64 0, .slice none 0 0] 26)) (w.heap.size + 1) a := by
    have h := (El.In.new (E := adE) (w.alloc (.cells #[.int .i64 y.x.f, .int .i64 y.x.g, .slice y.A y.x.os.length y.c] 26)) a #[.int .i64 a.k, .int .i64 a.n] rfl).alloc (.cells #[.int .i64 0, .int .i64 0, .slice none 0 0] 26)
    rw [alloc_size] at h
    exact h
  have hZ : quE.In (((w.alloc (.cells #[.int .i64 y.x.f, .int .i64 y.x.g, .slice y.A y.x.os.length y.c] 26)).alloc (.cells #[.int .i64 a.k, .int .i64 a.n] 29)).alloc (.cells #[.int .i64 0, .int .i64 0, .slice none 0 0] 26)) (w.heap.size + 2) zeroQw := by
    have h := El.In.new (E := quE) ((w.alloc (.cells #[.int .i64 y.x.f, .int .i64 y.x.g, .slice y.A y.x.os.length y.c] 26)).alloc (.cells #[.int .i64 a.k, .int .i64 a.n] 29)) zeroQw #[.int .i64 0, .int .i64 0, .slice none 0 0] rfl
    rw [alloc_size, alloc_size] at h
    exact h
  have hB := below_alloc (below_alloc (below_alloc (Below.refl w.heap.size w) (.cells #[.int .i64 y.x.f, .int .i64 y.x.g, .slice y.A y.x.os.length y.c] 26)) (.cells #[.int .i64 a.k, .int .i64 a.n] 29)) (.cells #[.int .i64 0, .int .i64 0, .slice none 0 0] 26)
  have hyB := hy.below hB
  have HY0 := Lib.hid hy
  have HN := Lib.hid hn
  clear hy hn
  go_enter Try.func10, Try.ntmps10
  by_cases k0 : a.k = 0
  · have e0 : (a.k == 0) = true := by simp [k0]
    have HS := Lib.hid (show stepQ y.x a i = pushQ y.x (someO i) by unfold stepQ; rw [if_pos k0])
    clear k0
    go_wp2_with fail
    generalize (((w.alloc (.cells #[.int .i64 y.x.f, .int .i64 y.x.g, .slice y.A y.x.os.length y.c] 26)).alloc (.cells #[.int .i64 a.k, .int .i64 a.n] 29)).alloc (.cells #[.int .i64 0, .int .i64 0, .slice none 0 0] 26)) = W at *
    obtain ⟨n1, hn1⟩ : ∃ n, w.heap.size = n := ⟨_, rfl⟩
    have hn2 : w.heap.size ≤ n1 + 2 := by omega
    rw [hn1] at hP hZ hA ⊢
    clear hn1
    obtain ⟨p0, p1, p2⟩ := quIn3 hP
    obtain ⟨q0, q1⟩ := adIn2 hA
    have HSO := Lib.hid (fun wx => some13_any i (by omega) wx)
    have CP := Lib.hid (fun (wx : World) (ho : y.ok wx) => H.push y (someO i) wx HN.out ho)
    generalize someO i = x at *
    clear p0 p1 p2 q0 q1 hA
    refine region_anyG (S := PS3 n1 y) 4 (by kernel_rfl) ?_
    replace hP : quE.In W.drew n1 y := hP
    replace hZ : quE.In W.drew (n1 + 2) zeroQw := hZ
    replace hyB : y.ok W.drew := hyB
    replace hB := hB.drew
    generalize W.drew = U at *
    have hS : PS3 n1 y U := quIn3 hP
    refine anyG_take (i := 0) (v := .agg #[.int .i64 y.x.f, .int .i64 y.x.g, .slice y.A y.x.os.length y.c]) rfl (by kernel_rfl) (by kernel_rfl) (by kernel_rfl) (by kernel_rfl) (by kernel_rfl) (fun _ _ _ h => h) (Or.inl ⟨by rfl, fun w' hSw => by (obtain ⟨m0, m1, m2⟩ := hSw; go_simp)⟩) hS ?_
    try simp only [Act.put, List.setIfInBounds_toArray, List.set_cons_zero, List.set_cons_succ]
    refine anyG_take (i := 1) (v := .int .i64 i) rfl (by kernel_rfl) (by kernel_rfl) (by kernel_rfl) (by kernel_rfl) (by kernel_rfl) (fun _ _ _ h => h) (Or.inl ⟨by rfl, fun w' hSw => by (obtain ⟨m0, m1, m2⟩ := hSw; go_simp)⟩) hS ?_
    try simp only [Act.put, List.setIfInBounds_toArray, List.set_cons_zero, List.set_cons_succ]
    refine anyG_step (rs := [2]) (by kernel_rfl) (by simp) ?_
    refine AllG.cons rfl (fun K hK => ?_) AllG.nil
    go_simp
    refine (HSO.out U).mono ?_
    rintro r w1 ⟨rfl, hb1⟩
    replace hP := hP.below hb1
    replace hZ := hZ.below hb1
    replace hyB := hyB.below hb1
    replace hB := hB.trans (hb1.mono hB.size)
    clear hb1 hS HSO
    try go_wp2_with fail
    refine hK.out _ _ (quIn3 hP : PS3 n1 y w1) ?_
    try simp only [Act.put, List.setIfInBounds_toArray, List.set_cons_zero, List.set_cons_succ]
    clear hK
    refine anyG_step (rs := [3]) (by kernel_rfl) (by simp) ?_
    refine AllG.cons rfl (fun K hK => ?_) AllG.nil
    go_simp
    refine (CP.out w1 hyB).mono ?_
    rintro r w2 ⟨z, rfl, hz0, ho, hb2, hnr⟩
    replace hnr := hnr.mono hB.size
    have hz := Lib.hid hz0
    clear hz0
    replace hP := hP.below hb2
    replace hZ := hZ.below hb2
    replace hB := hB.trans (hb2.mono hB.size)
    clear CP hb2
    try go_wp2_with fail
    refine hK.out _ _ (quIn3 hP : PS3 n1 y w2) ?_
    try simp only [Act.put, List.setIfInBounds_toArray, List.set_cons_zero, List.set_cons_succ]
    clear hK
    refine anyG_step (rs := [4]) (by kernel_rfl) (by simp) ?_
    refine AllG.last (n := 4) rfl (fun K hK => ?_)
    refine El.step_store quRow rfl _ _ rfl (n1 + 2) z #[.int .i64 z.x.f, .int .i64 z.x.g, .slice z.A z.x.os.length z.c] rfl rfl rfl zeroQw hZ ?_
    refine hK.out _ _ ?_
    clear hK
    refine anyG_done (by kernel_rfl) ?_ _
    go_wp2_with fail
    refine El.ret1 quRow (hZ.set z _ rfl) rfl rfl rfl _ rfl ?_
    exact ⟨z, rfl, hz.out.trans HS.out.symm, SlV.keepO ho (by_row _ (n1 + 2) _) (qu_off ho.1 hZ), below_setRow hB hn2 _, hnr⟩
  · have e0 : (a.k == 0) = false := by simp [k0]
    by_cases k1 : a.k = 1
    · have e1 : (a.k == 1) = true := by simp [k1]
      have HS := Lib.hid (show stepQ y.x a i = ackQ y.x a.n by unfold stepQ; rw [if_neg k0, if_pos k1])
      clear k0 k1
      go_wp2_with fail
      generalize (((w.alloc (.cells #[.int .i64 y.x.f, .int .i64 y.x.g, .slice y.A y.x.os.length y.c] 26)).alloc (.cells #[.int .i64 a.k, .int .i64 a.n] 29)).alloc (.cells #[.int .i64 0, .int .i64 0, .slice none 0 0] 26)) = W at *
      obtain ⟨n1, hn1⟩ : ∃ n, w.heap.size = n := ⟨_, rfl⟩
      have hn2 : w.heap.size ≤ n1 + 2 := by omega
      rw [hn1] at hP hZ hA ⊢
      clear hn1
      obtain ⟨p0, p1, p2⟩ := quIn3 hP
      obtain ⟨q0, q1⟩ := adIn2 hA
      refine (H.ack y a.n W HN.out ha hyB).mono ?_
      rintro r w2 ⟨z, rfl, hz0, ho, hb2, hnr⟩
      replace hnr := hnr.mono hB.size
      have hz := Lib.hid hz0
      clear hz0 p0 p1 p2 q0 q1
      replace hZ := hZ.below hb2
      replace hB := hB.trans (hb2.mono hB.size)
      clear hb2
      go_wp2_with (first | (refine El.store quRow rfl _ _ rfl (n1 + 2) z #[.int .i64 z.x.f, .int .i64 z.x.g, .slice z.A z.x.os.length z.c] rfl rfl rfl zeroQw hZ ?_) | fail)
      refine El.ret1 quRow (hZ.set z _ rfl) rfl rfl rfl _ rfl ?_
      exact ⟨z, rfl, hz.out.trans HS.out.symm, SlV.keepO ho (by_row _ (n1 + 2) _) (qu_off ho.1 hZ), below_setRow hB hn2 _, hnr⟩
    · have e1 : (a.k == 1) = false := by simp [k1]
      by_cases k2 : a.k = 2
      · have e2 : (a.k == 2) = true := by simp [k2]
        have HS := Lib.hid (show stepQ y.x a i = allowQ y.x a.n by unfold stepQ; rw [if_neg k0, if_neg k1, if_pos k2])
        clear k0 k1 k2
        go_wp2_with fail
        generalize (((w.alloc (.cells #[.int .i64 y.x.f, .int .i64 y.x.g, .slice y.A y.x.os.length y.c] 26)).alloc (.cells #[.int .i64 a.k, .int .i64 a.n] 29)).alloc (.cells #[.int .i64 0, .int .i64 0, .slice none 0 0] 26)) = W at *
        obtain ⟨n1, hn1⟩ : ∃ n, w.heap.size = n := ⟨_, rfl⟩
        have hn2 : w.heap.size ≤ n1 + 2 := by omega
        rw [hn1] at hP hZ hA ⊢
        clear hn1
        obtain ⟨p0, p1, p2⟩ := quIn3 hP
        obtain ⟨q0, q1⟩ := adIn2 hA
        refine (H.allow y a.n W HN.out ha hyB).mono ?_
        rintro r w2 ⟨z, rfl, hz0, ho, hb2, hnr⟩
        replace hnr := hnr.mono hB.size
        have hz := Lib.hid hz0
        clear hz0 p0 p1 p2 q0 q1
        replace hZ := hZ.below hb2
        replace hB := hB.trans (hb2.mono hB.size)
        clear hb2
        go_wp2_with (first | (refine El.store quRow rfl _ _ rfl (n1 + 2) z #[.int .i64 z.x.f, .int .i64 z.x.g, .slice z.A z.x.os.length z.c] rfl rfl rfl zeroQw hZ ?_) | fail)
        refine El.ret1 quRow (hZ.set z _ rfl) rfl rfl rfl _ rfl ?_
        exact ⟨z, rfl, hz.out.trans HS.out.symm, SlV.keepO ho (by_row _ (n1 + 2) _) (qu_off ho.1 hZ), below_setRow hB hn2 _, hnr⟩
      · have e2 : (a.k == 2) = false := by simp [k2]
        have HS := Lib.hid (show stepQ y.x a i = y.x by unfold stepQ; rw [if_neg k0, if_neg k1, if_neg k2])
        clear k0 k1 k2
        have hQ : quE.In (((w.alloc (.cells #[.int .i64 y.x.f, .int .i64 y.x.g, .slice y.A y.x.os.length y.c] 26)).alloc (.cells #[.int .i64 a.k, .int .i64 a.n] 29)).alloc (.cells #[.int .i64 y.x.f, .int .i64 y.x.g, .slice y.A y.x.os.length y.c] 26)) (w.heap.size + 2) y := by
          have h := El.In.new (E := quE) ((w.alloc (.cells #[.int .i64 y.x.f, .int .i64 y.x.g, .slice y.A y.x.os.length y.c] 26)).alloc (.cells #[.int .i64 a.k, .int .i64 a.n] 29)) y #[.int .i64 y.x.f, .int .i64 y.x.g, .slice y.A y.x.os.length y.c] rfl
          rw [alloc_size, alloc_size] at h
          exact h
        have hB2 := below_alloc (below_alloc (below_alloc (Below.refl w.heap.size w) (.cells #[.int .i64 y.x.f, .int .i64 y.x.g, .slice y.A y.x.os.length y.c] 26)) (.cells #[.int .i64 a.k, .int .i64 a.n] 29)) (.cells #[.int .i64 y.x.f, .int .i64 y.x.g, .slice y.A y.x.os.length y.c] 26)
        go_wp2_with fail
        refine El.ret1 quRow hQ rfl rfl rfl _ rfl ?_
        exact ⟨y, rfl, HS.out.symm, HY0.out.below hB2, hB2, Near.self _ y⟩

def Q1 : Qu := ⟨1, 0, [someO 0]⟩
def Q2 : Qu := ⟨1, 0, [someO 0, someO 1]⟩
def Q3 : Qu := ⟨1, 1, [someO 0, someO 1]⟩
def Q4 : Qu := ⟨2, 0, [someO 1]⟩
def Q5 : Qu := ⟨3, 0, []⟩
def Q6 : Qu := ⟨1, 5, [someO 0, someO 1]⟩
theorem newQu_N : QuN newQu := ⟨by decide, by decide, by decide⟩
theorem q1_N : QuN Q1 := ⟨by decide, by decide, by decide⟩
theorem q2_N : QuN Q2 := ⟨by decide, by decide, by decide⟩
theorem q3_N : QuN Q3 := ⟨by decide, by decide, by decide⟩
theorem q4_N : QuN Q4 := ⟨by decide, by decide, by decide⟩
theorem q6_N : QuN Q6 := ⟨by decide, by decide, by decide⟩
theorem q4_R : QuR Q4 := ⟨by decide, by decide, by decide, by decide, fun o ho => by
  rcases List.mem_cons.1 ho with rfl | ho
  · exact someO_ok (by decide) (by decide)
  · cases ho⟩
theorem q1_push : pushQ newQu (someO 0) = Q1 := rfl
theorem q2_push : pushQ Q1 (someO 1) = Q2 := rfl
theorem q2_out : outQ Q2 9 = [] := rfl
theorem q3_allow : allowQ Q2 1 = Q3 := rfl
theorem q3_out : outQ Q3 9 = [someO 0] := rfl
theorem q4_ack : ackQ Q2 1 = Q4 := rfl
theorem q5_ack : ackQ Q2 9 = Q5 := rfl
theorem q6_allow : allowQ Q2 5 = Q6 := rfl
theorem q6_again : allowQ Q6 3 = Q6 := rfl
set_option maxRecDepth 100000 in
set_option maxHeartbeats 4000000 in
theorem awake13_any (H : QueueCalls) (w : World) : Calls Try.prog 7 #[] w fun e w' => e = .returned (.bool true) ∧ Below w.heap.size w w' := by
  have HS0 := Lib.hid (fun (wx : World) => (show Calls Try.prog 12 #[.int .i64 0] wx fun r w' => r = .returned (.agg #[.int .i64 (someO 0).C, .int .i64 (someO 0).D, .int .i64 (someO 0).I, .int .i64 (someO 0).M, .int .i64 (someO 0).K, .int .i64 (someO 0).U, .string (someO 0).s]) ∧ Below wx.heap.size wx w' from some13_any 0 (by decide) wx))
  have HS1 := Lib.hid (fun (wx : World) => (show Calls Try.prog 12 #[.int .i64 1] wx fun r w' => r = .returned (.agg #[.int .i64 (someO 1).C, .int .i64 (someO 1).D, .int .i64 (someO 1).I, .int .i64 (someO 1).M, .int .i64 (someO 1).K, .int .i64 (someO 1).U, .string (someO 1).s]) ∧ Below wx.heap.size wx w' from some13_any 1 (by decide) wx))
  have HN := Lib.hid (fun (wx : World) => (show Calls Try.prog 8 #[] wx fun r w' => ∃ A' c', r = .returned (.agg #[.int .i64 1, .int .i64 0, .slice A' 0 c']) ∧ SlV opE w' A' c' [] ∧ Below wx.heap.size wx w' from (H.new wx).mono (by
    rintro r w' ⟨⟨A, c, x⟩, rfl, hx, ho, hb⟩
    obtain rfl : x = newQu := hx
    exact ⟨A, c, rfl, ho, hb⟩
    )))
  have HP1 := Lib.hid (fun (A : Option Addr) (c : Nat) (wx : World) (h : SlV opE wx A c []) => (show Calls Try.prog 25 #[.agg #[.int .i64 1, .int .i64 0, .slice A 0 c], .agg #[.int .i64 (someO 0).C, .int .i64 (someO 0).D, .int .i64 (someO 0).I, .int .i64 (someO 0).M, .int .i64 (someO 0).K, .int .i64 (someO 0).U, .string (someO 0).s]] wx fun r w' => ∃ A' c', r = .returned (.agg #[.int .i64 1, .int .i64 0, .slice A' 1 c']) ∧ SlV opE w' A' c' Q1.os ∧ Below wx.heap.size wx w' from (H.pushW ⟨A, c, newQu⟩ (someO 0) wx newQu_N h).mono (by
    rintro r w' ⟨⟨A, c, x⟩, rfl, hx, ho, hb⟩
    obtain rfl : x = Q1 := hx
    exact ⟨A, c, rfl, ho, hb⟩
    )))
  have HP2 := Lib.hid (fun (A : Option Addr) (c : Nat) (wx : World) (h : SlV opE wx A c Q1.os) => (show Calls Try.prog 25 #[.agg #[.int .i64 1, .int .i64 0, .slice A 1 c], .agg #[.int .i64 (someO 1).C, .int .i64 (someO 1).D, .int .i64 (someO 1).I, .int .i64 (someO 1).M, .int .i64 (someO 1).K, .int .i64 (someO 1).U, .string (someO 1).s]] wx fun r w' => ∃ A' c', r = .returned (.agg #[.int .i64 1, .int .i64 0, .slice A' 2 c']) ∧ SlV opE w' A' c' Q2.os ∧ Below wx.heap.size wx w' from (H.pushW ⟨A, c, Q1⟩ (someO 1) wx q1_N h).mono (by
    rintro r w' ⟨⟨A, c, x⟩, rfl, hx, ho, hb⟩
    obtain rfl : x = Q2 := hx
    exact ⟨A, c, rfl, ho, hb⟩
    )))
  have HO2 := Lib.hid (fun (A : Option Addr) (c : Nat) (wx : World) (h : SlV opE wx A c Q2.os) => (show Calls Try.prog 17 #[.agg #[.int .i64 1, .int .i64 0, .slice A 2 c], .int .i64 9] wx fun r w' => ∃ A' c', r = .returned (.slice A' 0 c') ∧ Below wx.heap.size wx w' from (H.out ⟨A, c, Q2⟩ 9 wx q2_N (by unfold i64; omega) h).mono (by
    rintro r w' ⟨A', c', rfl, _, hb⟩
    exact ⟨A', c', rfl, hb⟩)))
  have HO3 := Lib.hid (fun (A : Option Addr) (c : Nat) (wx : World) (h : SlV opE wx A c Q2.os) => (show Calls Try.prog 17 #[.agg #[.int .i64 1, .int .i64 1, .slice A 2 c], .int .i64 9] wx fun r w' => ∃ A' c', r = .returned (.slice A' 1 c') ∧ Below wx.heap.size wx w' from (H.out ⟨A, c, Q3⟩ 9 wx q3_N (by unfold i64; omega) h).mono (by
    rintro r w' ⟨A', c', rfl, _, hb⟩
    exact ⟨A', c', rfl, hb⟩)))
  have HA1 := Lib.hid (fun (A : Option Addr) (c : Nat) (wx : World) (h : SlV opE wx A c Q2.os) => (show Calls Try.prog 26 #[.agg #[.int .i64 1, .int .i64 0, .slice A 2 c], .int .i64 1] wx fun r w' => ∃ A' c', r = .returned (.agg #[.int .i64 1, .int .i64 1, .slice A' 2 c']) ∧ SlV opE w' A' c' Q2.os ∧ Below wx.heap.size wx w' from (H.allowW ⟨A, c, Q2⟩ 1 wx q2_N (by decide) h).mono (by
    rintro r w' ⟨⟨A, c, x⟩, rfl, hx, ho, hb⟩
    obtain rfl : x = Q3 := hx
    exact ⟨A, c, rfl, ho, hb⟩
    )))
  have HA5 := Lib.hid (fun (A : Option Addr) (c : Nat) (wx : World) (h : SlV opE wx A c Q2.os) => (show Calls Try.prog 26 #[.agg #[.int .i64 1, .int .i64 0, .slice A 2 c], .int .i64 5] wx fun r w' => ∃ A' c', r = .returned (.agg #[.int .i64 1, .int .i64 5, .slice A' 2 c']) ∧ SlV opE w' A' c' Q2.os ∧ Below wx.heap.size wx w' from (H.allowW ⟨A, c, Q2⟩ 5 wx q2_N (by decide) h).mono (by
    rintro r w' ⟨⟨A, c, x⟩, rfl, hx, ho, hb⟩
    obtain rfl : x = Q6 := hx
    exact ⟨A, c, rfl, ho, hb⟩
    )))
  have HA3 := Lib.hid (fun (A : Option Addr) (c : Nat) (wx : World) (h : SlV opE wx A c Q2.os) => (show Calls Try.prog 26 #[.agg #[.int .i64 1, .int .i64 5, .slice A 2 c], .int .i64 3] wx fun r w' => ∃ A' c', r = .returned (.agg #[.int .i64 1, .int .i64 5, .slice A' 2 c']) ∧ SlV opE w' A' c' Q2.os ∧ Below wx.heap.size wx w' from (H.allowW ⟨A, c, Q6⟩ 3 wx q6_N (by decide) h).mono (by
    rintro r w' ⟨⟨A, c, x⟩, rfl, hx, ho, hb⟩
    obtain rfl : x = Q6 := hx
    exact ⟨A, c, rfl, ho, hb⟩
    )))
  have HK1 := Lib.hid (fun (A : Option Addr) (c : Nat) (wx : World) (h : SlV opE wx A c Q2.os) => (show Calls Try.prog 24 #[.agg #[.int .i64 1, .int .i64 0, .slice A 2 c], .int .i64 1] wx fun r w' => ∃ A' c', r = .returned (.agg #[.int .i64 2, .int .i64 0, .slice A' 1 c']) ∧ SlV opE w' A' c' Q4.os ∧ Below wx.heap.size wx w' from (H.ackW ⟨A, c, Q2⟩ 1 wx q2_N (by decide) h).mono (by
    rintro r w' ⟨⟨A, c, x⟩, rfl, hx, ho, hb⟩
    obtain rfl : x = Q4 := hx
    exact ⟨A, c, rfl, ho, hb⟩
    )))
  have HK9 := Lib.hid (fun (A : Option Addr) (c : Nat) (wx : World) (h : SlV opE wx A c Q2.os) => (show Calls Try.prog 24 #[.agg #[.int .i64 1, .int .i64 0, .slice A 2 c], .int .i64 9] wx fun r w' => ∃ A' c', r = .returned (.agg #[.int .i64 3, .int .i64 0, .slice A' 0 c']) ∧ SlV opE w' A' c' [] ∧ Below wx.heap.size wx w' from (H.ackW ⟨A, c, Q2⟩ 9 wx q2_N (by decide) h).mono (by
    rintro r w' ⟨⟨A, c, x⟩, rfl, hx, ho, hb⟩
    obtain rfl : x = Q5 := hx
    exact ⟨A, c, rfl, ho, hb⟩
    )))
  have HR := Lib.hid (fun (A : Option Addr) (c : Nat) (wx : World) (h : SlV opE wx A c Q4.os) => (show Calls Try.prog 19 #[.agg #[.int .i64 2, .int .i64 0, .slice A 1 c]] wx fun r w' => r = .returned (.bool true) ∧ Below wx.heap.size wx w' from H.right ⟨A, c, Q4⟩ wx q4_N q4_R h))
  have hf0 : ∀ (f g : Int) (A : Option Addr) (n c : Nat) (wx : World), (Instr.field 26 (.agg #[.int .i64 f, .int .i64 g, .slice A n c]) 0).run Try.prog wx = .ok (.int .i64 f) wx := fun _ _ _ _ _ _ => by kernel_rfl
  have hf1 : ∀ (f g : Int) (A : Option Addr) (n c : Nat) (wx : World), (Instr.field 26 (.agg #[.int .i64 f, .int .i64 g, .slice A n c]) 1).run Try.prog wx = .ok (.int .i64 g) wx := fun _ _ _ _ _ _ => by kernel_rfl
  have hf2 : ∀ (f g : Int) (A : Option Addr) (n c : Nat) (wx : World), (Instr.field 26 (.agg #[.int .i64 f, .int .i64 g, .slice A n c]) 2).run Try.prog wx = .ok (.slice A n c) wx := fun _ _ _ _ _ _ => by kernel_rfl
  have hB := Below.refl w.heap.size w
  go_enter Try.func7, Try.ntmps7
  go_wp2_with fail
  refine (HN.out _).mono ?_
  rintro r w1 ⟨A, c, rfl, hS, hb⟩
  replace hB := below_then hB hb
  clear hb
  go_wp2_with fail
  refine (HS0.out _).mono ?_
  rintro r w2 ⟨rfl, hb⟩
  replace hS := hS.below hb
  replace hB := below_then hB hb
  clear hb
  go_wp2_with fail
  refine (HP1.out _ _ _ hS).mono ?_
  clear hS
  rintro r w3 ⟨A, c, rfl, hS, hb⟩
  replace hB := below_then hB hb
  clear hb
  go_wp2_with fail
  refine (HS1.out _).mono ?_
  rintro r w4 ⟨rfl, hb⟩
  replace hS := hS.below hb
  replace hB := below_then hB hb
  clear hb
  go_wp2_with fail
  refine (HP2.out _ _ _ hS).mono ?_
  clear hS HN HS0 HS1 HP1 HP2
  rintro r w5 ⟨A, c, rfl, hS, hb⟩
  replace hB := below_then hB hb
  clear hb
  have hP : quE.In (w5.alloc (.cells #[.int .i64 1, .int .i64 0, .slice A 2 c] 26)) w5.heap.size ⟨A, c, Q2⟩ := El.In.new (E := quE) w5 ⟨A, c, Q2⟩ _ rfl
  have hal := below_alloc (Below.refl w5.heap.size w5) (.cells #[.int .i64 1, .int .i64 0, .slice A 2 c] 26)
  replace hS := hS.below hal
  replace hB := below_then hB hal
  clear hal
  go_wp2_with fail
  generalize w5.alloc (.cells #[.int .i64 1, .int .i64 0, .slice A 2 c] 26) = W5 at *
  obtain ⟨n1, hn1⟩ : ∃ n, w5.heap.size = n := ⟨_, rfl⟩
  rw [hn1] at hP ⊢
  clear hn1
  refine (HO2.out _ _ _ hS).mono ?_
  rintro r w6 ⟨A1, c1, rfl, hb⟩
  replace hP := hP.below hb
  replace hS := hS.below hb
  replace hB := below_then hB hb
  clear hb
  obtain ⟨p0, p1, p2⟩ : w6.cell? ⟨n1, 0, none⟩ = some (.int .i64 1) ∧ w6.cell? ⟨n1, 1, none⟩ = some (.int .i64 0) ∧ w6.cell? ⟨n1, 2, none⟩ = some (.slice A 2 c) := quIn3 hP
  go_wp2_with fail
  clear p0 p1 p2
  refine (HA1.out _ _ _ hS).mono ?_
  rintro r w7 ⟨A2, c2, rfl, hS2, hb⟩
  replace hP := hP.below hb
  replace hS := hS.below hb
  replace hB := below_then hB hb
  clear hb
  go_wp2_with fail
  refine (HO3.out _ _ _ hS2).mono ?_
  clear hS2
  rintro r w8 ⟨A2, c2, rfl, hb⟩
  replace hP := hP.below hb
  replace hS := hS.below hb
  replace hB := below_then hB hb
  clear hb
  obtain ⟨p0, p1, p2⟩ : w8.cell? ⟨n1, 0, none⟩ = some (.int .i64 1) ∧ w8.cell? ⟨n1, 1, none⟩ = some (.int .i64 0) ∧ w8.cell? ⟨n1, 2, none⟩ = some (.slice A 2 c) := quIn3 hP
  go_wp2_with fail
  clear p0 p1 p2
  refine (HK1.out _ _ _ hS).mono ?_
  rintro r w9 ⟨A4, c4, rfl, hS4, hb⟩
  replace hP := hP.below hb
  replace hS := hS.below hb
  replace hB := below_then hB hb
  clear hb
  have hQ : quE.In (w9.alloc (.cells #[.int .i64 2, .int .i64 0, .slice A4 1 c4] 26)) w9.heap.size ⟨A4, c4, Q4⟩ := El.In.new (E := quE) w9 ⟨A4, c4, Q4⟩ _ rfl
  have hal := below_alloc (Below.refl w9.heap.size w9) (.cells #[.int .i64 2, .int .i64 0, .slice A4 1 c4] 26)
  replace hP := hP.below hal
  replace hS := hS.below hal
  replace hS4 := hS4.below hal
  replace hB := below_then hB hal
  clear hal
  obtain ⟨p0, p1, p2⟩ : (w9.alloc (.cells #[.int .i64 2, .int .i64 0, .slice A4 1 c4] 26)).cell? ⟨n1, 0, none⟩ = some (.int .i64 1) ∧ (w9.alloc (.cells #[.int .i64 2, .int .i64 0, .slice A4 1 c4] 26)).cell? ⟨n1, 1, none⟩ = some (.int .i64 0) ∧ (w9.alloc (.cells #[.int .i64 2, .int .i64 0, .slice A4 1 c4] 26)).cell? ⟨n1, 2, none⟩ = some (.slice A 2 c) := quIn3 hP
  go_wp2_with fail
  clear p0 p1 p2
  generalize w9.alloc (.cells #[.int .i64 2, .int .i64 0, .slice A4 1 c4] 26) = W9 at *
  obtain ⟨n2, hn2⟩ : ∃ n, w9.heap.size = n := ⟨_, rfl⟩
  rw [hn2] at hQ ⊢
  clear hn2
  refine (HK9.out _ _ _ hS).mono ?_
  rintro r v1 ⟨A5, c5, rfl, _, hb⟩
  replace hQ := hQ.below hb
  replace hS4 := hS4.below hb
  replace hP := hP.below hb
  replace hS := hS.below hb
  replace hB := below_then hB hb
  clear hb
  obtain ⟨p0, p1, p2⟩ : v1.cell? ⟨n1, 0, none⟩ = some (.int .i64 1) ∧ v1.cell? ⟨n1, 1, none⟩ = some (.int .i64 0) ∧ v1.cell? ⟨n1, 2, none⟩ = some (.slice A 2 c) := quIn3 hP
  go_wp2_with fail
  clear p0 p1 p2
  refine (HK9.out _ _ _ hS).mono ?_
  rintro r v2 ⟨A6, c6, rfl, _, hb⟩
  replace hQ := hQ.below hb
  replace hS4 := hS4.below hb
  replace hP := hP.below hb
  replace hS := hS.below hb
  replace hB := below_then hB hb
  clear hb
  obtain ⟨p0, p1, p2⟩ : v2.cell? ⟨n1, 0, none⟩ = some (.int .i64 1) ∧ v2.cell? ⟨n1, 1, none⟩ = some (.int .i64 0) ∧ v2.cell? ⟨n1, 2, none⟩ = some (.slice A 2 c) := quIn3 hP
  go_wp2_with fail
  clear p0 p1 p2
  refine (HA5.out _ _ _ hS).mono ?_
  rintro r v3 ⟨A7, c7, rfl, hS7, hb⟩
  replace hQ := hQ.below hb
  replace hS4 := hS4.below hb
  replace hP := hP.below hb
  replace hS := hS.below hb
  replace hB := below_then hB hb
  clear hb
  obtain ⟨p0, p1, p2⟩ : v3.cell? ⟨n1, 0, none⟩ = some (.int .i64 1) ∧ v3.cell? ⟨n1, 1, none⟩ = some (.int .i64 0) ∧ v3.cell? ⟨n1, 2, none⟩ = some (.slice A 2 c) := quIn3 hP
  go_wp2_with fail
  clear p0 p1 p2
  refine (HA3.out _ _ _ hS7).mono ?_
  rintro r v4 ⟨A8, c8, rfl, _, hb⟩
  replace hQ := hQ.below hb
  replace hS4 := hS4.below hb
  obtain ⟨q0, q1, q2⟩ : v4.cell? ⟨n2, 0, none⟩ = some (.int .i64 2) ∧ v4.cell? ⟨n2, 1, none⟩ = some (.int .i64 0) ∧ v4.cell? ⟨n2, 2, none⟩ = some (.slice A4 1 c4) := quIn3 hQ
  replace hP := hP.below hb
  replace hS := hS.below hb
  replace hB := below_then hB hb
  clear hb
  obtain ⟨p0, p1, p2⟩ : v4.cell? ⟨n1, 0, none⟩ = some (.int .i64 1) ∧ v4.cell? ⟨n1, 1, none⟩ = some (.int .i64 0) ∧ v4.cell? ⟨n1, 2, none⟩ = some (.slice A 2 c) := quIn3 hP
  go_wp2_with fail
  clear p0 p1 p2
  refine (HR.out _ _ _ hS4).mono ?_
  rintro r v5 ⟨rfl, hb⟩
  replace hB := below_then hB hb
  go_wp2_with fail
  go_ret
  exact ⟨rfl, hB⟩
end Go.Proofs.Ytdkolkjgojamcaa

/- Entries and counts among the arguments, opened. -/
namespace Go.Proofs.Ytdkolkjgojamcaa
open Go.ChangeShapes Go.WideShapes Go.ChangeAt Go.RowKit Go.Deep Nam Cod

instance : Inhabited En := ⟨zeroEn⟩
instance : Inhabited Cn := ⟨zeroCn⟩
end Go.Proofs.Ytdkolkjgojamcaa

/- Of law 13: how far a queue comes; steps among the arguments; a step of a play; QueueOnce. -/
namespace Go.Proofs.Ytdkolkjgojamcaa
open Go.ChangeShapes Go.WideShapes Go.ChangeAt Go.RowKit Go.Deep Nam Cod

structure QuK (k : Nat) (x : Qu) : Prop where
  f1 : 1 ≤ x.f
  fl : x.f + x.os.length ≤ k + 1
  g0 : 0 ≤ x.g
  gm : x.g ≤ 549755813888
  ok : okL x.os
theorem newQu_K : QuK 0 newQu := ⟨by decide, by decide, by decide, by decide, fun o h => by cases h⟩
theorem QuK.n {k : Nat} {x : Qu} (h : QuK k x) (hk : k ≤ 1000) : QuN x := by
  have h1 := h.f1
  have h2 := h.fl
  have h3 := h.g0
  have h4 := h.gm
  exact ⟨by omega, by omega, by omega⟩
theorem QuK.r {k : Nat} {x : Qu} (h : QuK k x) (hk : k ≤ 1000) : QuR x := by
  have h1 := h.f1
  have h2 := h.fl
  have h3 := h.g0
  have h4 := h.gm
  exact ⟨by omega, by omega, by omega, by omega, h.ok⟩
theorem ackQ_end (x : Qu) (a : Int) : (ackQ x a).f + (ackQ x a).os.length = x.f + x.os.length ∧ x.f ≤ (ackQ x a).f ∧ (ackQ x a).g = x.g := by
  unfold ackQ
  split
  · exact ⟨rfl, Int.le_refl _, rfl⟩
  · dsimp only; rw [List.length_drop]; exact ⟨by omega, by omega, rfl⟩
theorem stepQ_K {k : Nat} {x : Qu} {c : Ad} (hk : k ≤ 1000) (h : QuK k x) (hc : fineA c) : QuK (k + 1) (stepQ x c k) := by
  have h1 := h.f1
  have h2 := h.fl
  have h3 := h.g0
  have h4 := h.gm
  obtain ⟨c1, c2⟩ := hc
  unfold stepQ
  by_cases e0 : c.k = 0
  · rw [if_pos e0]
    refine ⟨h1, ?_, h3, h4, fun o ho => ?_⟩
    · show x.f + ((x.os ++ [_]).length : Int) ≤ _
      rw [List.length_append, List.length_singleton]; omega
    · rcases List.mem_append.1 ho with ho | ho
      · exact h.ok o ho
      · rw [List.mem_singleton] at ho
        rw [ho]; exact someO_ok (by omega) (by omega)
  · rw [if_neg e0]
    by_cases e1 : c.k = 1
    · rw [if_pos e1]
      obtain ⟨g1, g2, g3⟩ := ackQ_end x c.n
      refine ⟨by omega, by omega, by omega, by omega, fun o ho => h.ok o ?_⟩
      unfold ackQ at ho
      split at ho
      · exact ho
      · exact List.mem_of_mem_drop ho
    · rw [if_neg e1]
      by_cases e2 : c.k = 2
      · rw [if_pos e2]
        exact ⟨h1, by show x.f + (x.os.length : Int) ≤ _; omega, by show 0 ≤ max x.g c.n; omega, by show max x.g c.n ≤ _; omega, h.ok⟩
      · rw [if_neg e2]
        exact ⟨h1, by omega, h3, h4, h.ok⟩
def fineTo (l : List Ad) (k : Nat) : Prop := ∀ (j : Nat) (h : j < l.length), j < k → fineA l[j]
theorem fineTo_next {l : List Ad} {k : Nat} (h : fineTo l k) (hkl : k < l.length) (hk : fineA l[k]) : fineTo l (k + 1) := fun j hj hjk => by
  by_cases e : j < k
  · exact h j hj e
  · obtain rfl : j = k := by omega
    exact hk
theorem qAt_K {l : List Ad} (hl : l.length ≤ 1000) : ∀ k, k ≤ l.length → fineTo l k → QuK k (qAt l k)
  | 0, _, _ => newQu_K
  | k + 1, h, hf => by
    rw [qAt_next l k (by omega)]
    exact stepQ_K (by omega) (qAt_K hl k (by omega) (fun j hj hjk => hf j hj (by omega))) (hf k (by omega) (by omega))
theorem stepped (H : QueueCalls) {l : List Ad} (hl : l.length ≤ 1000) {k : Nat} (hkl : k < l.length) (hf : fineTo l k) {y : Qw} (hy : y.x = qAt l k) (a : Ad) (ha : l[k] = a) (hk : fineA a) (wx : World) (ho : y.ok wx) :
    Calls Try.prog 10 #[.agg #[.int .i64 y.x.f, .int .i64 y.x.g, .slice y.A y.x.os.length y.c], .agg #[.int .i64 a.k, .int .i64 a.n], .int .i64 k] wx fun r w' => ∃ z : Qw, r = .returned (.agg #[.int .i64 z.x.f, .int .i64 z.x.g, .slice z.A z.x.os.length z.c]) ∧ z.x = qAt l (k + 1) ∧ z.ok w' ∧ Below wx.heap.size wx w' ∧ Near wx.heap.size y z := by
  subst ha
  have hK := qAt_K hl k (by omega) hf
  rw [← hy] at hK
  obtain ⟨c1, c2⟩ := hk
  refine (step13_any H y l[k] k wx (hK.n (by omega)) (by omega) (by omega) ho).mono ?_
  rintro r w' ⟨z, hr, hz, hzo, hb, hnr⟩
  exact ⟨z, hr, by rw [hz, qAt_next l k hkl, hy], hzo, hb, hnr⟩

theorem cellsAd : Try.prog.cellsOf 29 = 2 := by kernel_rfl
set_option maxRecDepth 100000 in
theorem read_ad {H : Type} {enc : TypeId × Value → H} {W : World} {fuel : Nat} {cs : List Value} {x : DataW H × List MemPlace}
    (h : DataW.trod enc Try.prog W 0 (fun _ => true) true fuel 29 cs = some x) : ∃ a : Ad, cs = adE.c a ∧ True := by
  obtain ⟨xs, n, _, _, hl, hlen, hf⟩ := DataW.trod_struct Try.underlying29 h
  have hl10 : cs.length = 2 := hl.trans cellsAd
  have hl4 : xs.length = 2 := hlen
  match cs, hl10, xs, hl4 with
  | [c0, c1], _, [y0, y1], _ =>
    have h0 := hf 0 _ rfl
    have h1 := hf 1 _ rfl
    simp [cells3] at h0 h1
    obtain ⟨k, e0, _, _⟩ := DataW.trod_int Try.underlying3 h0
    obtain ⟨d, e1, _, _⟩ := DataW.trod_int Try.underlying3 h1
    simp at e0 e1
    subst e0 e1
    exact ⟨⟨k, d⟩, rfl, trivial⟩
instance : Inhabited Ad := ⟨⟨0, 0⟩⟩
set_option maxRecDepth 100000 in
theorem open_ads {H : Type} {enc : TypeId × Value → H} {W : World} {base : Nat} {v : Value} {d : DataW H} {ps : List MemPlace}
    (hv : Value.okWide Try.prog W .any base 22 v) (h : DataW.Trod enc Try.prog W 0 (fun _ => true) true 22 v d ps) :
    ∃ (A : Option Addr) (cap : Nat) (l : List Ad), v = .slice A l.length cap ∧ adE.Sl W A l := by
  obtain ⟨A, cap, l, rfl, hS, _, _, _⟩ := open_list adE (fun _ => True) Try.underlying22 cellsAd (fun h => read_ad h) hv h
  exact ⟨A, cap, l, rfl, hS⟩
def PLQ (n1 : Nat) (z : Qw) (b o : Nat) (a : Ad) (w : World) : Prop := PS3 n1 z w ∧ (w.cell? ⟨b, o, none⟩ = some (.int .i64 a.k) ∧ w.cell? ⟨b, o + 1, none⟩ = some (.int .i64 a.n))
end Go.Proofs.Ytdkolkjgojamcaa
