/- Texts laid one behind the other: Zb, Zc, Zn, Db, Dc, Id, De, Df, Ie, If, Ig, Dg. -/
import Derived.Test.YtjjjpifdmgpnjaaB02
import Derived.Deep.CutRange
import Derived.Deep.CutBlock
import Derived.Deep.RegionHeld3
/- What follows of a plan that may be: kinds, kids, one device more. No call in it. -/
namespace Pln

theorem Right.neg {p : Pn} (h : Right p) : p.u.getD 0 0 < 0 := by rw [h.up0]; decide
theorem root_kid {u : List Int} (hp : Par u) (h : 2 ≤ u.length) : 1 ∈ kidsN u 0 := by
  obtain ⟨h1, h2⟩ := hp 1 (by omega) (by omega)
  exact mem_kids.2 ⟨by omega, by omega, by omega⟩
theorem kind_root {u : List Int} (h : 0 < u.length) : kindL u 0 = 1 := by
  unfold kindL; rw [if_neg (by omega), if_pos rfl]
theorem kind_of {u : List Int} {i : Nat} (h0 : 0 < i) (h : i < u.length) : kindL u i = if (kidsN u i).length = 0 then 3 else 2 := by
  unfold kindL; rw [if_neg (by omega), if_neg (by omega)]
theorem kind_end (u : List Int) : kindL u u.length = 0 := by
  unfold kindL; rw [if_pos (by omega)]
theorem kind_leaf {u : List Int} (hp : Par u) (h2 : 2 ≤ u.length) {i : Nat} (h : i < u.length) : (kidsN u i).length = 0 ↔ kindL u i = 3 := by
  by_cases h0 : i = 0
  · subst h0
    have h1 : 0 < (kidsN u (0 : Nat)).length := List.length_pos_of_mem (root_kid hp h2)
    have h3 : kindL u ((0 : Nat) : Int) = 1 := kind_root (by omega)
    rw [h3]
    constructor
    · intro h; omega
    · intro h; exact absurd h (by decide)
  · rw [kind_of (by omega) h]
    by_cases e : (kidsN u i).length = 0
    · rw [if_pos e]; exact ⟨fun _ => rfl, fun _ => e⟩
    · rw [if_neg e]; exact ⟨fun h => absurd h e, fun h => absurd h (by decide)⟩
theorem kind_in {u : List Int} {i : Nat} (h : i < u.length) : 1 ≤ kindL u i ∧ kindL u i ≤ 3 := by
  by_cases h0 : i = 0
  · subst h0
    have h3 : kindL u ((0 : Nat) : Int) = 1 := kind_root (by omega)
    rw [h3]; decide
  · rw [kind_of (by omega) h]
    by_cases e : (kidsN u i).length = 0
    · rw [if_pos e]; decide
    · rw [if_neg e]; decide
theorem last_dev {u : List Int} (hp : Par u) (h2 : 2 ≤ u.length) : u.length - 1 ∈ devsN u := by
  refine mem_devs.2 ⟨by omega, ?_⟩
  refine (kind_leaf hp h2 (by omega)).1 ?_
  rcases e : kidsN u ((u.length - 1 : Nat) : Int) with _ | ⟨j, l⟩
  · rfl
  · have hj : j ∈ kidsN u ((u.length - 1 : Nat) : Int) := by rw [e]; simp
    obtain ⟨h1, h3, h4⟩ := mem_kids.1 hj
    have := (hp j h1 h3).2
    omega
theorem devs_pos {u : List Int} (hp : Par u) (h2 : 2 ≤ u.length) : 1 ≤ (devsN u).length := List.length_pos_of_mem (last_dev hp h2)

/-- One node more below the root. -/
theorem more_get (u : List Int) (i : Nat) : (u ++ [0]).getD i 0 = u.getD i 0 := by
  rcases Nat.lt_trichotomy i u.length with h | h | h
  · simp [List.getElem?_append_left h]
  · subst h; simp
  · simp [List.getElem?_eq_none (show u.length ≤ i by omega), List.getElem?_eq_none (show (u ++ [0]).length ≤ i by rw [List.length_append, List.length_singleton]; omega)]
theorem more_len (u : List Int) : (u ++ [0]).length = u.length + 1 := by rw [List.length_append, List.length_singleton]
theorem more_par {u : List Int} (hp : Par u) (h : 0 < u.length) : Par (u ++ [0]) := fun i h0 hi => by
  rw [more_get]
  rw [more_len] at hi
  by_cases e : i < u.length
  · exact hp i h0 e
  · have : u.getD i 0 = 0 := by simp [List.getElem?_eq_none (show u.length ≤ i by omega)]
    rw [this]; omega
theorem more_kids {u : List Int} (h : 0 < u.length) (n : Int) : kidsN (u ++ [0]) n = kidsN u n ++ (if n = 0 then [u.length] else []) := by
  unfold kidsN
  rw [more_len, List.range_succ, List.filter_append]
  simp only [more_get]
  congr 1
  have hd : u.getD u.length 0 = 0 := by simp
  by_cases e : n = 0
  · subst e
    rw [if_pos rfl, List.filter_cons, hd]
    simp [h]
  · rw [if_neg e, List.filter_cons, hd]
    have : ¬ (0 : Int) = n := fun h => e h.symm
    simp [this]
theorem more_kids_no {u : List Int} (h : 0 < u.length) {n : Int} (hn : n ≠ 0) : kidsN (u ++ [0]) n = kidsN u n := by rw [more_kids h, if_neg hn, List.append_nil]
theorem more_kids_root {u : List Int} (h : 0 < u.length) : kidsN (u ++ [0]) 0 = kidsN u 0 ++ [u.length] := by rw [more_kids h, if_pos rfl]
theorem more_deep {u : List Int} (hp : Par u) {i : Nat} (h : i < u.length) : deepL (u ++ [0]) i = deepL u i := by
  have hp2 := more_par hp (by omega)
  unfold deepL
  rw [deepF_at hp2 (u.length + 1) _ i (by omega) (by rw [more_len]; omega), deepF_at hp u.length _ i (by omega) (by omega)]
  have : ∀ (f : Nat) (j : Nat), j < u.length → deepF (u ++ [0]) f j = deepF u f j := fun f => by
    induction f with
    | zero => intro j _; rfl
    | succ f ih =>
      intro j hj
      unfold deepF
      have et : ((j : Nat) : Int).toNat = j := by omega
      rw [et, more_get, more_len]
      by_cases h0 : 0 < j
      · obtain ⟨h1, h2⟩ := hp j h0 hj
        rw [if_pos ⟨by omega, by omega, by omega⟩, if_pos ⟨by omega, by omega, by omega⟩]
        obtain ⟨k, hk⟩ : ∃ k : Nat, u.getD j 0 = k := ⟨(u.getD j 0).toNat, by omega⟩
        rw [hk, ih k (by omega)]
      · rw [if_neg (by omega), if_neg (by omega)]
  exact this i i h
theorem more_deep_new {u : List Int} (hp : Par u) (h : 0 < u.length) : deepL (u ++ [0]) u.length = 1 := by
  have hp2 := more_par hp h
  have hd : u.getD u.length 0 = 0 := by simp
  have h1 := deep_kid hp2 (i := 0) (j := u.length) h (by rw [more_len]; omega) (by rw [more_get, hd]; rfl)
  rw [h1]
  have h2 : deepL (u ++ [0]) ((0 : Nat) : Int) = 0 := deep_zero _
  rw [h2]
theorem more_deepest {u : List Int} (hp : Par u) (h : 2 ≤ u.length) : deepest (u ++ [0]) = deepest u := by
  have h1 : 1 ≤ deepest u := by
    have h2 := deep_le (u := u) (i := 1) (by omega)
    have h3 := hp 1 (by omega) (by omega)
    have h4 := deep_kid hp (i := 0) (j := 1) (by omega) (by omega) (by omega)
    omega
  apply Nat.le_antisymm
  · refine deepest_le fun i hi => ?_
    rw [more_len] at hi
    by_cases e : i < u.length
    · rw [more_deep hp e]; exact deep_le e
    · obtain rfl : i = u.length := by omega
      rw [more_deep_new hp (by omega)]; exact h1
  · refine deepest_le fun i hi => ?_
    rw [← more_deep hp hi]; exact deep_le (by rw [more_len]; omega)
theorem more_kind {u : List Int} (h2 : 0 < u.length) {i : Nat} (h : i < u.length) : kindL (u ++ [0]) i = kindL u i := by
  by_cases h0 : i = 0
  · subst h0
    have h3 : kindL u ((0 : Nat) : Int) = 1 := kind_root (by omega)
    have h4 : kindL (u ++ [0]) ((0 : Nat) : Int) = 1 := kind_root (by rw [more_len]; omega)
    rw [h3, h4]
  · rw [kind_of (by omega) h, kind_of (by omega) (by rw [more_len]; omega), more_kids_no h2 (by omega)]
theorem more_kind_new {u : List Int} (hp : Par u) (h : 0 < u.length) : kindL (u ++ [0]) u.length = 3 := by
  rw [kind_of h (by rw [more_len]; omega), more_kids_no h (by omega)]
  rcases e : kidsN u (u.length : Int) with _ | ⟨j, l⟩
  · rfl
  · have hj : j ∈ kidsN u (u.length : Int) := by rw [e]; simp
    obtain ⟨h1, h3, h4⟩ := mem_kids.1 hj
    have := (hp j h1 h3).2
    omega
theorem more_devs {u : List Int} (hp : Par u) (h : 0 < u.length) : devsN (u ++ [0]) = devsN u ++ [u.length] := by
  unfold devsN
  rw [more_len, List.range_succ, List.filter_append]
  congr 1
  · exact List.filter_congr fun i hi => by rw [more_kind h (List.mem_range.1 hi)]
  · rw [List.filter_cons, more_kind_new hp h]; rfl
theorem Right.more {p : Pn} (h : Right p) : Right { p with u := p.u ++ [0] } ↔ p.u.length + 1 ≤ 12 ∧ (kidsN p.u 0).length < 4 ∧ (devsN p.u).length < 8 := by
  have h2 := h.n2
  constructor
  · intro g
    have g1 := g.n12
    have g2 := g.kids 0 (by show 0 < (p.u ++ [0]).length; rw [more_len]; omega)
    have g3 := g.devs
    simp only at g1 g2 g3
    rw [more_len] at g1
    rw [more_devs h.par (by omega), List.length_append, List.length_singleton] at g3
    have e0 : (((0 : Nat) : Int)) = 0 := rfl
    rw [e0, more_kids_root (by omega), List.length_append, List.length_singleton] at g2
    exact ⟨g1, by omega, by omega⟩
  · rintro ⟨g1, g2, g3⟩
    exact {
      n2 := by show 2 ≤ (p.u ++ [0]).length; rw [more_len]; omega
      n12 := by show (p.u ++ [0]).length ≤ 12; rw [more_len]; omega
      up0 := by show (p.u ++ [0]).getD 0 0 = -1; rw [more_get]; exact h.up0
      par := more_par h.par (by omega)
      deep := fun i hi => by
        have hi : i < (p.u ++ [0]).length := hi
        rw [more_len] at hi
        show deepL (p.u ++ [0]) i ≤ 4
        by_cases e : i < p.u.length
        · rw [more_deep h.par e]; exact h.deep i e
        · obtain rfl : i = p.u.length := by omega
          rw [more_deep_new h.par (by omega)]; decide
      kids := fun i hi => by
        have hi : i < (p.u ++ [0]).length := hi
        rw [more_len] at hi
        show (kidsN (p.u ++ [0]) i).length ≤ 4
        by_cases e : i = 0
        · subst e
          have e0 : (((0 : Nat) : Int)) = 0 := rfl
          rw [e0, more_kids_root (by omega), List.length_append, List.length_singleton]; omega
        · rw [more_kids_no (by omega) (by omega)]
          by_cases e2 : i < p.u.length
          · exact h.kids i e2
          · obtain rfl : i = p.u.length := by omega
            have h5 := more_kind_new h.par (show 0 < p.u.length by omega)
            rw [kind_of (by omega) (by rw [more_len]; omega), more_kids_no (by omega) (by omega)] at h5
            by_cases e3 : (kidsN p.u p.u.length).length = 0
            · omega
            · rw [if_neg e3] at h5; exact absurd h5 (by decide)
      devs := by
        show (devsN (p.u ++ [0])).length ≤ 8
        rw [more_devs h.par (by omega), List.length_append, List.length_singleton]; omega
      q := h.q
      r := h.r
      b := h.b
      w := h.w
      c := h.c
      k := h.k
      i := h.i
      l := by
        show 2 * (deepest (p.u ++ [0]) : Int) * (p.w + 2) < p.l ∧ p.l ≤ 1000
        rw [more_deepest h.par h2]; exact h.l }
end Pln

/- Plans as values; what the program's functions shall answer of plans that may be (PlanCalls: proved for the real program in a text of its own); the laws' awake. -/
namespace Go.Proofs.Ytjjjpifdmgpnjaa
open Go.RowKit Pln

/-- A plan, and where its slice lies. -/
structure Pnw where
  A : Option Addr
  c : Nat
  p : Pn
def inE : El Int where
  e := 3
  k := 1
  c x := [.int .i64 x]
  len _ := rfl
  one p u h := by
    simp only [List.mem_cons, List.not_mem_nil, or_false] at h
    subst h; rfl
  pos := by decide
def Pnw.zero : Pnw := ⟨none, 0, ⟨[], 0, 0, 0, 0, 0, 0, 0, 0⟩⟩
/-- Numbers of nodes as values. -/
def ints (l : List Nat) : List Int := l.map fun (i : Nat) => (i : Int)
theorem ints_len (l : List Nat) : (ints l).length = l.length := by unfold ints; rw [List.length_map]
def P0 : Pn := ⟨[-1, 0, 1, 1, 0], 2, 3, 2, 20, 2, 32, 4, 16⟩
def Q0 : Pn := ⟨[-1, 0, 1, 1, 0], 2, 3, 2, 16, 2, 32, 4, 16⟩
theorem P0_deepest : Pln.deepest P0.u = 2 := by rfl
theorem P0_right : Pln.Right P0 where
  n2 := by decide
  n12 := by decide
  up0 := by rfl
  par := fun i h0 hi => by
    have hi : i < 5 := hi
    match i, h0, hi with
    | 1, _, _ => decide
    | 2, _, _ => decide
    | 3, _, _ => decide
    | 4, _, _ => decide
  deep := fun i hi => by
    have hi : i < 5 := hi
    match i, hi with
    | 0, _ => decide
    | 1, _ => decide
    | 2, _ => decide
    | 3, _ => decide
    | 4, _ => decide
  kids := fun i hi => by
    have hi : i < 5 := hi
    match i, hi with
    | 0, _ => decide
    | 1, _ => decide
    | 2, _ => decide
    | 3, _ => decide
    | 4, _ => decide
  devs := by decide
  q := by decide
  r := by decide
  b := by decide
  w := by decide
  c := by decide
  k := by decide
  i := by decide
  l := by rw [P0_deepest]; decide
theorem Q0_not : ¬ Pln.Right Q0 := fun h => by
  have h1 := h.l
  have h2 : Pln.deepest Q0.u = 2 := by rfl
  rw [h2] at h1
  exact absurd h1.1 (by decide)

def x0 (n : Nat) : Pnw := ⟨some ⟨n, 0, none⟩, 5, P0⟩
end Go.Proofs.Ytjjjpifdmgpnjaa

/- Lists of ints in a row of the call's own: a cell read, a cell written. -/
namespace Go.Proofs.Ytjjjpifdmgpnjaa
open Go.RowKit Go.Deep Pln

theorem by_cellG (w : World) (b i : Nat) (v : Value) : w.grownBy (w.setCell ⟨b, i, none⟩ v) (some b) := ⟨rfl, rfl, rfl, by simp [World.setCell], fun k _ hk => Below.heap_setCell w ⟨b, i, none⟩ v k (fun e => hk (by rw [e]))⟩
theorem inInnT : inE.Inn Try.prog 30 := El.inn_of (z := .int .i64 0) (bytes := 8) Try.underlying30 (by kernel_rfl) rfl (by decide)
theorem inZero : ∃ i z, Try.prog.info? inE.e = some i ∧ i.zero = some z ∧ z.cells.toList = inE.c (0 : Int) := by
  obtain ⟨i, hi, hz, _, _⟩ := info_parts (show (Try.prog.info? 3).map (fun i => (i.zero, i.size, i.bytes)) = some (some (.int .i64 0), 1, 8) by kernel_rfl)
  exact ⟨i, _, hi, hz, rfl⟩
theorem inCells : ∀ (l : List Int) (j : Nat) (h : j < l.length), (inE.cells l)[j]? = some (.int .i64 l[j])
  | x :: l, 0, _ => rfl
  | x :: l, j + 1, h => by
    have := inCells l j (by simpa using h)
    show (inE.c x ++ inE.cells l)[j + 1]? = _
    rw [List.getElem?_append_right (by rw [inE.len]; show 1 ≤ j + 1; omega), inE.len]
    exact this
theorem inSet (l : List Int) (j : Nat) (v : Int) : inE.cells (l.set j v) = (inE.cells l).set j (.int .i64 v) := by
  induction l generalizing j with
  | nil => rfl
  | cons x l ih =>
    cases j with
    | zero => rfl
    | succ j =>
      show inE.c x ++ inE.cells (l.set j v) = (inE.c x ++ inE.cells l).set (j + 1) _
      rw [ih]; rfl
theorem inOwn_cells {w : World} {B g cap : Nat} {l : List Int} (h : inE.Own w B (.slice (some ⟨g, 0, none⟩) l.length cap) l) : B ≤ g ∧ (∀ j (hj : j < l.length), w.cell? ⟨g, j, none⟩ = some (.int .i64 l[j])) ∧ (∀ j, w.frozen? ⟨g, j, none⟩ = false) ∧ g < w.heap.size := by
  have hlt := h.lt g rfl
  have hc := World.ownsRow.cells h (g := g) rfl
  refine ⟨hlt.1, fun j hj => ?_, fun j => ?_, hlt.2⟩
  · have := hc j _ (inCells l j hj)
    rw [Addr.add_lit, Nat.zero_add] at this
    exact this
  · unfold El.Own at h
    rcases h.2 with ⟨e, _⟩ | ⟨g', _, cur, e, _, hg, _⟩
    · cases e
    · injection e with e1
      have : g' = g := by injection e1 with e1; injection e1 with e1; exact e1.symm
      subst this
      simp [World.frozen?, hg]
theorem inOwn_put {w : World} {B g cap : Nat} {l : List Int} (h : inE.Own w B (.slice (some ⟨g, 0, none⟩) l.length cap) l) (j : Nat) (hj : j < l.length) (v : Int) : inE.Own (w.setCell ⟨g, j, none⟩ (.int .i64 v)) B (.slice (some ⟨g, 0, none⟩) l.length cap) (l.set j v) := by
  unfold El.Own at h ⊢
  rcases h.2 with ⟨e, _⟩ | ⟨g', cap', cur, e, hb, hg, hnc, hcm, hcs, htk⟩
  · cases e
  · injection e with e1 _ e3
    have : g' = g := by injection e1 with e1; injection e1 with e1; exact e1.symm
    subst this e3
    refine ⟨by rw [El.cells_len], .inr ⟨g', cap, cur.setIfInBounds j (.int .i64 v), by rw [List.length_set], hb, ?_, by rw [List.length_set]; exact hnc, hcm, by rw [Array.size_setIfInBounds]; exact hcs, ?_⟩⟩
    · simp [World.setCell, Array.getElem?_modify, hg]
    · rw [List.length_set, inSet, ← htk, Array.toList_setIfInBounds, List.take_set]

theorem inAt1 {w : World} {b o : Nat} {v : Int} (h : inE.At w b o v) : w.cell? ⟨b, o, none⟩ = some (.int .i64 v) := h 0 _ rfl
theorem slCell {w : World} {b off : Nat} {l : List Int} (h : inE.Sl w (some ⟨b, off, none⟩) l) (j : Nat) (hj : j < l.length) : w.cell? ⟨b, off + j, none⟩ = some (.int .i64 l[j]) := by
  obtain ⟨b', off', e, _, hc⟩ := h (by omega)
  cases e
  have := hc j hj 0 _ rfl
  rw [show inE.k = 1 from rfl, Nat.mul_one] at this
  exact this
theorem slCell0 {w : World} {b : Nat} {l : List Int} (h : inE.Sl w (some ⟨b, 0, none⟩) l) (j : Nat) (hj : j < l.length) : w.cell? ⟨b, j, none⟩ = some (.int .i64 l[j]) := by
  have := slCell h j hj
  rw [Nat.zero_add] at this; exact this
theorem getD_at {u : List Int} {i : Nat} (h : i < u.length) : u.getD i 0 = u[i] := by simp [h]
end Go.Proofs.Ytjjjpifdmgpnjaa

/- Members in memory; what the program's functions shall answer (RosterCalls); the document's Find, Put, Stable, Counter. -/
namespace Go.Proofs.Ytjjjpifdmgpnjaa
open Go.RowKit Cod

def mbE : El Mb where
  e := 39
  k := 16
  c m := [.int .i64 m.d, .int .i64 m.i, .bool m.w, .int .i64 m.n, .int .i64 m.l, .int .i64 m.o, .int .i64 m.r.d, .int .i64 m.r.i, .int .i64 m.r.b, .int .i64 m.r.t, .int .i64 m.r.m, .int .i64 m.r.p, .int .i64 m.r.c, .int .i64 m.r.s, .int .i64 m.r.k, .string m.f]
  len _ := rfl
  one p u h := by
    simp only [List.mem_cons, List.not_mem_nil, or_false] at h
    rcases h with rfl | rfl | rfl | rfl | rfl | rfl | rfl | rfl | rfl | rfl | rfl | rfl | rfl | rfl | rfl | rfl <;> rfl
  pos := by decide
theorem mbRow : mbE.Row Try.prog := ⟨by kernel_rfl, _, Try.underlying39, rfl⟩
theorem mbInn : mbE.Inn Try.prog 22 := El.inn_of (z := .agg #[.int .i64 0, .int .i64 0, .bool false, .int .i64 0, .int .i64 0, .int .i64 0, .int .i64 0, .int .i64 0, .int .i64 0, .int .i64 0, .int .i64 0, .int .i64 0, .int .i64 0, .int .i64 0, .int .i64 0, .string ⟨#[]⟩]) (bytes := 136) Try.underlying22 (by kernel_rfl) rfl (by decide)
theorem mbIn16 {w : World} {b : Nat} {m : Mb} (h : mbE.In w b m) : w.cell? ⟨b, 0, none⟩ = some (.int .i64 m.d) ∧ w.cell? ⟨b, 1, none⟩ = some (.int .i64 m.i) ∧ w.cell? ⟨b, 2, none⟩ = some (.bool m.w) ∧ w.cell? ⟨b, 3, none⟩ = some (.int .i64 m.n) ∧ w.cell? ⟨b, 4, none⟩ = some (.int .i64 m.l) ∧ w.cell? ⟨b, 5, none⟩ = some (.int .i64 m.o) ∧ w.cell? ⟨b, 6, none⟩ = some (.int .i64 m.r.d) ∧ w.cell? ⟨b, 7, none⟩ = some (.int .i64 m.r.i) ∧ w.cell? ⟨b, 8, none⟩ = some (.int .i64 m.r.b) ∧ w.cell? ⟨b, 9, none⟩ = some (.int .i64 m.r.t) ∧ w.cell? ⟨b, 10, none⟩ = some (.int .i64 m.r.m) ∧ w.cell? ⟨b, 11, none⟩ = some (.int .i64 m.r.p) ∧ w.cell? ⟨b, 12, none⟩ = some (.int .i64 m.r.c) ∧ w.cell? ⟨b, 13, none⟩ = some (.int .i64 m.r.s) ∧ w.cell? ⟨b, 14, none⟩ = some (.int .i64 m.r.k) ∧ w.cell? ⟨b, 15, none⟩ = some (.string m.f) :=
  ⟨h.cell 0, h.cell 1, h.cell 2, h.cell 3, h.cell 4, h.cell 5, h.cell 6, h.cell 7, h.cell 8, h.cell 9, h.cell 10, h.cell 11, h.cell 12, h.cell 13, h.cell 14, h.cell 15⟩
theorem mbAt16 {w : World} {b o : Nat} {m : Mb} (h : mbE.At w b o m) : w.cell? ⟨b, o, none⟩ = some (.int .i64 m.d) ∧ w.cell? ⟨b, o + 1, none⟩ = some (.int .i64 m.i) ∧ w.cell? ⟨b, o + 2, none⟩ = some (.bool m.w) ∧ w.cell? ⟨b, o + 3, none⟩ = some (.int .i64 m.n) ∧ w.cell? ⟨b, o + 4, none⟩ = some (.int .i64 m.l) ∧ w.cell? ⟨b, o + 5, none⟩ = some (.int .i64 m.o) ∧ w.cell? ⟨b, o + 6, none⟩ = some (.int .i64 m.r.d) ∧ w.cell? ⟨b, o + 7, none⟩ = some (.int .i64 m.r.i) ∧ w.cell? ⟨b, o + 8, none⟩ = some (.int .i64 m.r.b) ∧ w.cell? ⟨b, o + 9, none⟩ = some (.int .i64 m.r.t) ∧ w.cell? ⟨b, o + 10, none⟩ = some (.int .i64 m.r.m) ∧ w.cell? ⟨b, o + 11, none⟩ = some (.int .i64 m.r.p) ∧ w.cell? ⟨b, o + 12, none⟩ = some (.int .i64 m.r.c) ∧ w.cell? ⟨b, o + 13, none⟩ = some (.int .i64 m.r.s) ∧ w.cell? ⟨b, o + 14, none⟩ = some (.int .i64 m.r.k) ∧ w.cell? ⟨b, o + 15, none⟩ = some (.string m.f) :=
  ⟨h 0 _ rfl, h 1 _ rfl, h 2 _ rfl, h 3 _ rfl, h 4 _ rfl, h 5 _ rfl, h 6 _ rfl, h 7 _ rfl, h 8 _ rfl, h 9 _ rfl, h 10 _ rfl, h 11 _ rfl, h 12 _ rfl, h 13 _ rfl, h 14 _ rfl, h 15 _ rfl⟩
theorem mbIdx {A : Option Addr} {b off len cap k : Nat} (hA : A = some ⟨b, off, none⟩) (h : k < len) : ∀ w, (Instr.indexAt 22 (.slice A len cap) (.int .i64 k)).run Try.prog w = .ok (.pointer (some ⟨b, off + k * 16, none⟩)) w := fun w => by
  subst hA
  have h2 : (k : Int) < (len : Int) := by omega
  go_simp
def mbsStep (s : ByteArray) (p : Nat) (bad : Bool) (l : List Mb) (q : Nat) (bad' : Bool) : Prop := (isMbs s p bad = some (l, q) ∧ bad' = false) ∨ (isMbs s p bad = none ∧ l = [] ∧ bad' = true)
structure RosterCalls : Prop where
  new : ∀ (A : Option Addr) (c : Nat) (l : List Int) (w : World), l.length ≤ 1000 → SlV inE w A c l → Calls Try.prog 23 #[.slice A l.length c] w fun e w' => ∃ (A' : Option Addr) (c' : Nat), e = .returned (.slice A' l.length c') ∧ SlV mbE w' A' c' (l.map newMb) ∧ Below w.heap.size w w'
  find : ∀ (A : Option Addr) (c : Nat) (l : List Mb) (d : Int) (w : World), l.length ≤ 1000 → SlV mbE w A c l → Calls Try.prog 12 #[.slice A l.length c, .int .i64 d] w fun e w' => e = .returned (.int .i64 (findM l d)) ∧ Below w.heap.size w w'
  put : ∀ (A : Option Addr) (c : Nat) (l : List Mb) (m : Mb) (w : World), l.length ≤ 1000 → SlV mbE w A c l → Calls Try.prog 25 #[.slice A l.length c, .agg #[.int .i64 m.d, .int .i64 m.i, .bool m.w, .int .i64 m.n, .int .i64 m.l, .int .i64 m.o, .int .i64 m.r.d, .int .i64 m.r.i, .int .i64 m.r.b, .int .i64 m.r.t, .int .i64 m.r.m, .int .i64 m.r.p, .int .i64 m.r.c, .int .i64 m.r.s, .int .i64 m.r.k, .string m.f]] w fun e w' => ∃ (A' : Option Addr) (c' : Nat), e = .returned (.slice A' l.length c') ∧ SlV mbE w' A' c' (putM l m) ∧ Below w.heap.size w w'
  stable : ∀ (A : Option Addr) (c : Nat) (l : List Mb) (pos : Int) (w : World), l.length ≤ 1000 → SlV mbE w A c l → Calls Try.prog 14 #[.slice A l.length c, .int .i64 pos] w fun e w' => e = .returned (.int .i64 (stabM l pos)) ∧ Below w.heap.size w w'
  counter : ∀ (A : Option Addr) (c : Nat) (l : List Mb) (clock lowest : Int) (w : World), l.length ≤ 1000 → SlV mbE w A c l → -1152921504606846976 ≤ lowest → lowest ≤ 9223372036854775807 → Calls Try.prog 16 #[.slice A l.length c, .int .i64 clock, .int .i64 lowest] w fun e w' => e = .returned (.int .i64 (cntrM l clock lowest)) ∧ Below w.heap.size w w'
  overdue : ∀ (A B : Option Addr) (c d : Nat) (l : List Mb) (h : List Int) (now lease : Int) (w : World), l.length ≤ 1000 → h.length ≤ 1000 → SlV mbE w A c l → SlV inE w B d h → (∀ n ∈ h, -1099511627776 ≤ n ∧ n ≤ 1099511627776) → -1099511627776 ≤ now ∧ now ≤ 1099511627776 → Calls Try.prog 20 #[.slice A l.length c, .slice B h.length d, .int .i64 now, .int .i64 lease] w fun e w' => ∃ (A' : Option Addr) (c' : Nat), e = .returned (.slice A' (overdueM l h now lease).length c') ∧ SlV inE w' A' c' (overdueM l h now lease) ∧ Below w.heap.size w w'
  right : ∀ (A : Option Addr) (c : Nat) (l : List Mb) (w : World), l.length ≤ 1000 → SlV mbE w A c l → (∀ m ∈ l, MbW m) → Calls Try.prog 10 #[.slice A l.length c] w fun e w' => e = .returned (.bool (mbsB l)) ∧ Below w.heap.size w w'
  print : ∀ (A : Option Addr) (c : Nat) (l : List Mb) (w : World), l.length ≤ 1000 → SlV mbE w A c l → (∀ m ∈ l, MbW m) → (mbK.part l).size ≤ 1000000 → Calls Try.prog 18 #[.slice A l.length c] w fun e w' => e = .returned (.string (mbK.part l)) ∧ Below w.heap.size w w'
  read : ∀ (w : World) (b p : Nat) (s : ByteArray) (bad : Bool), s.size ≤ 1000000 → p ≤ s.size → Rd 43 w b s p bad → Calls Try.prog 27 #[.pointer (some ⟨b, 0, none⟩)] w fun e w' => ∃ (A : Option Addr) (c : Nat) (l : List Mb) (q : Nat) (bad' : Bool), e = .returned (.slice A l.length c) ∧ SlV mbE w' A c l ∧ Rd 43 w' b s q bad' ∧ q ≤ s.size ∧ w.grownBy w' (some b) ∧ mbsStep s p bad l q bad'

set_option maxRecDepth 100000 in
set_option maxHeartbeats 2000000 in
theorem refFind16_any (A : Option Addr) (c : Nat) (l : List Mb) (d : Int) (w : World) (hl : l.length ≤ 1000) (hT : mbE.Sl w A l) : Calls Try.prog 13 #[.slice A l.length c, .int .i64 d] w fun e w' => e = .returned (.int .i64 (findM l d)) ∧ Below w.heap.size w w' := by
  have HC0 := Lib.hid (fun (j : Nat) (h : j < l.length) (hj : j < 0) => (absurd hj (Nat.not_lt_zero j) : l[j].d ≠ d))
  have hB := Below.refl w.heap.size w
  have HT := Lib.hid hT
  clear hT
  go_enter Try.func13, Try.ntmps13
  go_wp2_with fail
  go_loopw [5] (fun y wr => ∃ k : Nat, k ≤ l.length ∧ y = .int .i64 k ∧ Hid (∀ j (h : j < l.length), j < k → l[j].d ≠ d) ∧ Below w.heap.size w wr) (fun y _ => l.length - (intOf y).toNat)
  case atStart => exact ⟨0, Nat.zero_le _, rfl, HC0, hB⟩
  case round =>
    clear HC0 hB
    obtain ⟨k, hk, rfl, HK, hB⟩ := hrel
    by_cases hkl : k < l.length
    · obtain ⟨b, off, eA, hbw, hc⟩ := HT.out (by omega)
      have hx := mbIdx (cap := c) eA hkl
      have hat : mbE.At wr b (off + k * 16) l[k] := (hc k hkl).below hB hbw
      have h0 := (mbAt16 hat).1
      by_cases hd : l[k].d = d
      · have hv : findM l d = k := by
          have e := cutM_is hk HK.out (fun _ => hd)
          unfold findM; rw [e, if_pos hkl]
        have HV := Lib.hid hv
        generalize l[k] = x at *
        have f1 : (x.d == d) = true := beq_iff_eq.2 hd
        clear hc eA hv hat hd
        go_wp2_with fail
        go_ret
        exact ⟨by rw [HV.out]; rfl, hB⟩
      · have HN := Lib.hid (fun (j : Nat) (h : j < l.length) (hj : j < k + 1) => (by
          by_cases e : j < k
          · exact HK.out j h e
          · obtain rfl : j = k := by omega
            exact hd : l[j].d ≠ d))
        generalize l[k] = x at *
        have f1 : (x.d == d) = false := beq_eq_false_iff_ne.2 hd
        clear hc eA hat hd
        go_wp2_with fail
        exact ⟨⟨k + 1, by omega, by go_num, HN, hB⟩, by simp [intOf]; omega⟩
    · obtain rfl : k = l.length := by omega
      have hv : findM l d = -1 := by
        have e := cutM_is hk HK.out (fun h => absurd h (Nat.lt_irrefl _))
        unfold findM; rw [e, if_neg (Nat.lt_irrefl _)]
      have HV := Lib.hid hv
      clear hv
      go_wp2_with fail
      go_ret
      exact ⟨by rw [HV.out]; rfl, hB⟩

set_option maxRecDepth 100000 in
set_option maxHeartbeats 2000000 in
theorem refStable16_any (A : Option Addr) (c : Nat) (l : List Mb) (pos : Int) (w : World) (hl : l.length ≤ 1000) (hT : mbE.Sl w A l) : Calls Try.prog 15 #[.slice A l.length c, .int .i64 pos] w fun e w' => e = .returned (.int .i64 (stabM l pos)) ∧ Below w.heap.size w w' := by
  have hB := Below.refl w.heap.size w
  have HT := Lib.hid hT
  clear hT
  go_enter Try.func15, Try.ntmps15
  go_wp2_with fail
  go_loopw [1, 5] (fun p y wr => ∃ k : Nat, k ≤ l.length ∧ y = .int .i64 k ∧ p = .int .i64 ((l.take k).foldl stabM1 pos) ∧ Below w.heap.size w wr) (fun _ y _ => l.length - (intOf y).toNat)
  case atStart => exact ⟨0, Nat.zero_le _, rfl, rfl, hB⟩
  case round =>
    clear hB
    obtain ⟨k, hk, rfl, rfl, hB⟩ := hrel
    by_cases hkl : k < l.length
    · skip
      obtain ⟨b, off, eA, hbw, hc⟩ := HT.out (by omega)
      have hx := mbIdx (cap := c) eA hkl
      have hat : mbE.At wr b (off + k * 16) l[k] := (hc k hkl).below hB hbw
      have HNX := Lib.hid (show (l.take (k + 1)).foldl stabM1 pos = stabM1 ((l.take k).foldl stabM1 pos) l[k] by rw [List.take_succ_eq_append_getElem hkl, List.foldl_append]; rfl)
      generalize l[k] = x at *
      generalize (l.take k).foldl stabM1 pos = t at *
      obtain ⟨_, _, h2, _, _, _, _, _, _, _, _, h11, _, _, _, _⟩ := mbAt16 hat
      have HV := Lib.hid (show stabM1 t x = if x.w = true then min t x.r.p else t from rfl)
      clear hc eA hat
      cases hw : x.w with
      | true =>
        rw [hw] at h2
        rcases Int.le_total t x.r.p with h | h
        · have hm : min t x.r.p = t := Int.min_eq_left h
          have hv : stabM1 t x = t := by rw [HV.out, hw, if_pos rfl, hm]
          have HVV := Lib.hid hv
          clear hv hw h
          go_wp2_with fail
          exact ⟨⟨k + 1, by omega, by go_num, by rw [HNX.out, HVV.out], hB⟩, by simp [intOf]; omega⟩
        · have hm : min t x.r.p = x.r.p := Int.min_eq_right h
          have hv : stabM1 t x = x.r.p := by rw [HV.out, hw, if_pos rfl, hm]
          have HVV := Lib.hid hv
          clear hv hw h
          go_wp2_with fail
          exact ⟨⟨k + 1, by omega, by go_num, by rw [HNX.out, HVV.out], hB⟩, by simp [intOf]; omega⟩
      | false =>
        rw [hw] at h2
        have hv : stabM1 t x = t := by rw [HV.out, hw, if_neg (by decide)]
        have HVV := Lib.hid hv
        clear hv hw
        go_wp2_with fail
        exact ⟨⟨k + 1, by omega, by go_num, by rw [HNX.out, HVV.out], hB⟩, by simp [intOf]; omega⟩
    · obtain rfl : k = l.length := by omega
      rw [List.take_length]
      go_wp2_with fail
      go_ret
      exact ⟨rfl, hB⟩

set_option maxRecDepth 100000 in
set_option maxHeartbeats 4000000 in
theorem refCounter16_any (A : Option Addr) (c : Nat) (l : List Mb) (clock lowest : Int) (w : World) (hl : l.length ≤ 1000) (hT : mbE.Sl w A l) (hlo : -1152921504606846976 ≤ lowest) (hhi : lowest ≤ 9223372036854775807) : Calls Try.prog 17 #[.slice A l.length c, .int .i64 clock, .int .i64 lowest] w fun e w' => e = .returned (.int .i64 (cntrM l clock lowest)) ∧ Below w.heap.size w w' := by
  have hB := Below.refl w.heap.size w
  have HT := Lib.hid hT
  clear hT
  have hs : IntKind.i64.wrap (lowest - 1) = lowest - 1 := by rw [IntKind.wrap_i64]; omega
  obtain ⟨t0, ht0⟩ : ∃ t, min clock (lowest - 1) = t := ⟨_, rfl⟩
  have HV0 := Lib.hid (show cntrM l clock lowest = l.foldl cntM1 t0 by unfold cntrM; rw [ht0])
  clear hlo hhi
  go_enter Try.func17, Try.ntmps17
  go_wp2_with fail
  go_loopw [7, 8] (fun p y wr => ∃ k : Nat, k ≤ l.length ∧ y = .int .i64 k ∧ p = .int .i64 ((l.take k).foldl cntM1 t0) ∧ Below w.heap.size w wr) (fun _ y _ => l.length - (intOf y).toNat)
  case atStart => exact ⟨0, Nat.zero_le _, rfl, rfl, hB⟩
  case round =>
    clear hB ht0 hs
    obtain ⟨k, hk, rfl, rfl, hB⟩ := hrel
    by_cases hkl : k < l.length
    · skip
      obtain ⟨b, off, eA, hbw, hc⟩ := HT.out (by omega)
      have hx := mbIdx (cap := c) eA hkl
      have hat : mbE.At wr b (off + k * 16) l[k] := (hc k hkl).below hB hbw
      have HNX := Lib.hid (show (l.take (k + 1)).foldl cntM1 t0 = cntM1 ((l.take k).foldl cntM1 t0) l[k] by rw [List.take_succ_eq_append_getElem hkl, List.foldl_append]; rfl)
      generalize l[k] = x at *
      generalize (l.take k).foldl cntM1 t0 = t at *
      have HV := Lib.hid (show cntM1 t x = if x.w = true then (if x.r.s = x.n then min t x.r.c else min t x.l) else t from rfl)
      have hE : mbE.In (wr.alloc (.cells #[.int .i64 x.d, .int .i64 x.i, .bool x.w, .int .i64 x.n, .int .i64 x.l, .int .i64 x.o, .int .i64 x.r.d, .int .i64 x.r.i, .int .i64 x.r.b, .int .i64 x.r.t, .int .i64 x.r.m, .int .i64 x.r.p, .int .i64 x.r.c, .int .i64 x.r.s, .int .i64 x.r.k, .string x.f] 39)) wr.heap.size x := El.In.new (E := mbE) wr x _ rfl
      have hal := below_alloc (Below.refl wr.heap.size wr) (.cells #[.int .i64 x.d, .int .i64 x.i, .bool x.w, .int .i64 x.n, .int .i64 x.l, .int .i64 x.o, .int .i64 x.r.d, .int .i64 x.r.i, .int .i64 x.r.b, .int .i64 x.r.t, .int .i64 x.r.m, .int .i64 x.r.p, .int .i64 x.r.c, .int .i64 x.r.s, .int .i64 x.r.k, .string x.f] 39)
      replace hB := below_then hB hal
      clear hal
      clear hc eA
      go_upto_region 6 with (first | (refine El.load mbRow rfl _ rfl b (off + k * 16) rfl x hat #[.int .i64 x.d, .int .i64 x.i, .bool x.w, .int .i64 x.n, .int .i64 x.l, .int .i64 x.o, .int .i64 x.r.d, .int .i64 x.r.i, .int .i64 x.r.b, .int .i64 x.r.t, .int .i64 x.r.m, .int .i64 x.r.p, .int .i64 x.r.c, .int .i64 x.r.s, .int .i64 x.r.k, .string x.f] rfl ?_) | fail)
      clear hat hx hbw
      generalize wr.alloc (.cells #[.int .i64 x.d, .int .i64 x.i, .bool x.w, .int .i64 x.n, .int .i64 x.l, .int .i64 x.o, .int .i64 x.r.d, .int .i64 x.r.i, .int .i64 x.r.b, .int .i64 x.r.t, .int .i64 x.r.m, .int .i64 x.r.p, .int .i64 x.r.c, .int .i64 x.r.s, .int .i64 x.r.k, .string x.f] 39) = V at *
      generalize wr.heap.size = n at *
      obtain ⟨_, _, h2, h3, h4, _, _, _, _, _, _, _, h12, h13, _, _⟩ := mbIn16 hE
      clear hE
      cases hw : x.w with
      | true =>
        rw [hw] at h2
        by_cases he : x.r.s = x.n
        · have f1 : (x.r.s == x.n) = true := beq_iff_eq.2 he
          rcases Int.le_total t x.r.c with h | h
          · have hm : min t x.r.c = t := Int.min_eq_left h
            have hv : cntM1 t x = t := by rw [HV.out, hw, if_pos rfl, if_pos he, hm]
            have HVV := Lib.hid hv
            clear hv hw h he
            go_wp2_with fail
            exact ⟨⟨k + 1, by omega, by go_num, by rw [HNX.out, HVV.out], hB⟩, by simp [intOf]; omega⟩
          · have hm : min t x.r.c = x.r.c := Int.min_eq_right h
            have hv : cntM1 t x = x.r.c := by rw [HV.out, hw, if_pos rfl, if_pos he, hm]
            have HVV := Lib.hid hv
            clear hv hw h he
            go_wp2_with fail
            exact ⟨⟨k + 1, by omega, by go_num, by rw [HNX.out, HVV.out], hB⟩, by simp [intOf]; omega⟩
        · have f1 : (x.r.s == x.n) = false := beq_eq_false_iff_ne.2 he
          rcases Int.le_total t x.l with h | h
          · have hm : min t x.l = t := Int.min_eq_left h
            have hv : cntM1 t x = t := by rw [HV.out, hw, if_pos rfl, if_neg he, hm]
            have HVV := Lib.hid hv
            clear hv hw h he
            go_wp2_with fail
            exact ⟨⟨k + 1, by omega, by go_num, by rw [HNX.out, HVV.out], hB⟩, by simp [intOf]; omega⟩
          · have hm : min t x.l = x.l := Int.min_eq_right h
            have hv : cntM1 t x = x.l := by rw [HV.out, hw, if_pos rfl, if_neg he, hm]
            have HVV := Lib.hid hv
            clear hv hw h he
            go_wp2_with fail
            exact ⟨⟨k + 1, by omega, by go_num, by rw [HNX.out, HVV.out], hB⟩, by simp [intOf]; omega⟩
      | false =>
        rw [hw] at h2
        have hv : cntM1 t x = t := by rw [HV.out, hw, if_neg (by decide)]
        have HVV := Lib.hid hv
        clear hv hw
        go_wp2_with fail
        exact ⟨⟨k + 1, by omega, by go_num, by rw [HNX.out, HVV.out], hB⟩, by simp [intOf]; omega⟩
    · obtain rfl : k = l.length := by omega
      rw [List.take_length]
      go_wp2_with fail
      go_ret
      exact ⟨by rw [HV0.out]; rfl, hB⟩

theorem putM_none {l : List Mb} {m : Mb} (h : findM l m.d = -1) : putM l m = l := by
  unfold findM at h
  split at h
  · omega
  · unfold putM
    rw [List.set_eq_of_length_le (by omega)]
theorem putM_at {l : List Mb} {m : Mb} {k : Nat} (h : findM l m.d = k) : k < l.length ∧ putM l m = l.set k m := by
  unfold findM at h
  split at h
  · rename_i hc
    have e : cutM l m.d = k := by omega
    exact ⟨by omega, by unfold putM; rw [e]⟩
  · omega
theorem findM_cases (l : List Mb) (d : Int) : findM l d = -1 ∨ ∃ k : Nat, findM l d = k ∧ k < l.length := by
  unfold findM
  split
  · rename_i h; exact Or.inr ⟨_, rfl, h⟩
  · exact Or.inl rfl
theorem own_at {α : Type} {E : El α} {w : World} {B n c : Nat} {A : Option Addr} {l : List α} (h : E.Own w B (.slice A n c) l) (hl : 0 < l.length) : ∃ g, A = some ⟨g, 0, none⟩ := by
  unfold El.Own at h
  rcases h.2 with ⟨_, e⟩ | ⟨g, cap, cur, e, _⟩
  · omega
  · injection e with e1 _ _
    exact ⟨g, e1⟩
set_option maxRecDepth 100000 in
set_option maxHeartbeats 4000000 in
theorem refPut16_any (A : Option Addr) (c : Nat) (l : List Mb) (m : Mb) (w : World) (hl : l.length ≤ 1000) (hT0 : SlV mbE w A c l) : Calls Try.prog 26 #[.slice A l.length c, .agg #[.int .i64 m.d, .int .i64 m.i, .bool m.w, .int .i64 m.n, .int .i64 m.l, .int .i64 m.o, .int .i64 m.r.d, .int .i64 m.r.i, .int .i64 m.r.b, .int .i64 m.r.t, .int .i64 m.r.m, .int .i64 m.r.p, .int .i64 m.r.c, .int .i64 m.r.s, .int .i64 m.r.k, .string m.f]] w fun e w' => ∃ (A' : Option Addr) (c' : Nat), e = .returned (.slice A' l.length c') ∧ SlV mbE w' A' c' (putM l m) ∧ Below w.heap.size w w' := by
  have hP : mbE.In (w.alloc (.cells #[.int .i64 m.d, .int .i64 m.i, .bool m.w, .int .i64 m.n, .int .i64 m.l, .int .i64 m.o, .int .i64 m.r.d, .int .i64 m.r.i, .int .i64 m.r.b, .int .i64 m.r.t, .int .i64 m.r.m, .int .i64 m.r.p, .int .i64 m.r.c, .int .i64 m.r.s, .int .i64 m.r.k, .string m.f] 39)) w.heap.size m := El.In.new (E := mbE) w m _ rfl
  have hB := below_alloc (Below.refl w.heap.size w) (.cells #[.int .i64 m.d, .int .i64 m.i, .bool m.w, .int .i64 m.n, .int .i64 m.l, .int .i64 m.o, .int .i64 m.r.d, .int .i64 m.r.i, .int .i64 m.r.b, .int .i64 m.r.t, .int .i64 m.r.m, .int .i64 m.r.p, .int .i64 m.r.c, .int .i64 m.r.s, .int .i64 m.r.k, .string m.f] 39)
  obtain ⟨hT, hz, hlc⟩ := hT0
  have C := Lib.hid (fun wx (hb : Below w.heap.size w wx) => refFind16_any A c l m.d wx hl (hT.below hb))
  go_enter Try.func26, Try.ntmps26
  go_upto_region 1 with fail
  generalize w.alloc (.cells #[.int .i64 m.d, .int .i64 m.i, .bool m.w, .int .i64 m.n, .int .i64 m.l, .int .i64 m.o, .int .i64 m.r.d, .int .i64 m.r.i, .int .i64 m.r.b, .int .i64 m.r.t, .int .i64 m.r.m, .int .i64 m.r.p, .int .i64 m.r.c, .int .i64 m.r.s, .int .i64 m.r.k, .string m.f] 39) = W at *
  obtain ⟨n1, hn1⟩ : ∃ n, w.heap.size = n := ⟨_, rfl⟩
  rw [hn1] at hP ⊢
  clear hn1
  have hlt := hP.lt
  have hO := El.Own.empty (E := mbE) W W.heap.size (Nat.le_refl _)
  have hal := below_alloc (Below.refl W.heap.size W) (.cells #[] 39)
  have hws := hB.size
  replace hP := hP.below hal
  replace hB := below_then hB hal
  have hT2 := hT.below hB
  have hBs := hal.size
  clear hal hT
  go_wp2_with (first | (at_builtin; refine El.wpList_app mbInn rfl _ _ rfl W.heap.size _ [] l rfl hO A _ c rfl rfl hT2 hz (by simp; omega) hBs ?_; intro v1 w2 hOw hg2 _; replace hP := hP.keep hg2 (fun e => by have := (hO.lt _ e.symm).1; omega); have p0 := (mbIn16 hP).1) | fail)
  replace hB := hB.grown hg2 hB.size (fun k hk => by have := hO.rows k hk; omega)
  replace hOw : mbE.Own w2 W.heap.size v1 l := hOw
  clear hO hT2 hBs hg2
  obtain ⟨A', c', rfl, hS⟩ := SlV.own hOw
  refine (C.out _ hB).mono ?_
  rintro e w3 ⟨rfl, hb3⟩
  replace hP := hP.below hb3
  replace hB := below_then hB hb3
  replace hOw := hOw.below hb3
  replace hS := SlV.below hS hb3
  clear hb3 C p0
  rcases findM_cases l m.d with hf | ⟨k, hf, hk⟩
  · have HV := Lib.hid (putM_none hf)
    rw [hf]
    clear hf
    go_wp2_with fail
    go_ret
    exact ⟨A', c', rfl, by rw [HV.out]; exact hS, hB⟩
  · have HV := Lib.hid (putM_at hf).2
    rw [hf]
    clear hf hS
    obtain ⟨g, rfl⟩ := own_at hOw (by omega)
    have f1 : decide ((0 : Int) ≤ (k : Int)) = true := decide_eq_true (by omega)
    go_wp2_with (first | (refine El.load mbRow rfl _ rfl n1 0 rfl m hP.at #[.int .i64 m.d, .int .i64 m.i, .bool m.w, .int .i64 m.n, .int .i64 m.l, .int .i64 m.o, .int .i64 m.r.d, .int .i64 m.r.i, .int .i64 m.r.b, .int .i64 m.r.t, .int .i64 m.r.m, .int .i64 m.r.p, .int .i64 m.r.c, .int .i64 m.r.s, .int .i64 m.r.k, .string m.f] rfl ?_) | (refine El.wpList_setAt mbRow rfl _ _ rfl W.heap.size g c' k l m hOw hk #[.int .i64 m.d, .int .i64 m.i, .bool m.w, .int .i64 m.n, .int .i64 m.l, .int .i64 m.o, .int .i64 m.r.d, .int .i64 m.r.i, .int .i64 m.r.b, .int .i64 m.r.t, .int .i64 m.r.m, .int .i64 m.r.p, .int .i64 m.r.c, .int .i64 m.r.s, .int .i64 m.r.k, .string m.f] rfl rfl rfl ?_; intro w7 hO7 hg7 _) | fail)
    have hO8 := (SlV.own hO7)
    obtain ⟨A8, c8, e8, hS8⟩ := hO8
    injection e8 with e9 _ e10
    subst e9 e10
    go_wp2_with fail
    go_ret
    exact ⟨_, _, rfl, by rw [HV.out]; exact hS8, hB.grown hg7 hB.size (fun k hk => by have := hOw.rows k (by rw [← hk]; rfl); omega)⟩
end Go.Proofs.Ytjjjpifdmgpnjaa

/- Members: the document's Overdue, New. -/
namespace Go.Proofs.Ytjjjpifdmgpnjaa
open Go.RowKit Cod

theorem inIdx {A : Option Addr} {b off len cap k : Nat} (hA : A = some ⟨b, off, none⟩) (h : k < len) : ∀ w, (Instr.indexAt 30 (.slice A len cap) (.int .i64 k)).run Try.prog w = .ok (.pointer (some ⟨b, off + k, none⟩)) w := fun w => by
  subst hA
  have h2 : (k : Int) < (len : Int) := by omega
  go_simp
theorem overdueM_next {l : List Mb} {h : List Int} {now lease : Int} {k : Nat} (hk : k < l.length) : overdueM (l.take (k + 1)) h now lease = overdueM (l.take k) h now lease ++ (if overM h now lease l[k] = true then [l[k].d] else []) := by
  unfold overdueM
  rw [List.take_succ_eq_append_getElem hk, List.filter_append, List.map_append]
  congr 1
  by_cases c : overM h now lease l[k] = true
  · rw [if_pos c, List.filter_cons_of_pos c]; rfl
  · rw [if_neg c, List.filter_cons_of_neg c]; rfl
theorem overdueM_le (l : List Mb) (h : List Int) (now lease : Int) : (overdueM l h now lease).length ≤ l.length := by
  unfold overdueM
  rw [List.length_map]
  exact List.length_filter_le _ _
set_option maxRecDepth 100000 in
set_option maxHeartbeats 4000000 in
theorem refOverdue16_any (A B : Option Addr) (c d : Nat) (l : List Mb) (h : List Int) (now lease : Int) (w : World) (hl : l.length ≤ 1000) (hlh : h.length ≤ 1000) (hT : mbE.Sl w A l) (hH : inE.Sl w B h) (hh : ∀ n ∈ h, -1099511627776 ≤ n ∧ n ≤ 1099511627776) (hnow : -1099511627776 ≤ now ∧ now ≤ 1099511627776) :
    Calls Try.prog 21 #[.slice A l.length c, .slice B h.length d, .int .i64 now, .int .i64 lease] w fun e w' => ∃ (A' : Option Addr) (c' : Nat), e = .returned (.slice A' (overdueM l h now lease).length c') ∧ SlV inE w' A' c' (overdueM l h now lease) ∧ Below w.heap.size w w' := by
  have hB := Below.refl w.heap.size w
  have HT := Lib.hid hT
  have HH := Lib.hid hH
  have HHH := Lib.hid hh
  clear hT hH hh
  have hO := El.Own.nil (E := inE) w w.heap.size
  go_enter Try.func21, Try.ntmps21
  go_wp2_with fail
  go_loopw [9, 10] (fun p y wr => ∃ (k : Nat) (v : Value), k ≤ l.length ∧ y = .int .i64 k ∧ p = v ∧ inE.Own wr w.heap.size v (overdueM (l.take k) h now lease) ∧ Below w.heap.size w wr) (fun _ y _ => l.length - (intOf y).toNat)
  case atStart => exact ⟨0, _, Nat.zero_le _, rfl, rfl, hO, hB⟩
  case round =>
    clear hB hO
    obtain ⟨k, v, hk, rfl, rfl, hO, hB⟩ := hrel
    by_cases hkl : k < l.length
    · obtain ⟨b, off, eA, hbw, hc⟩ := HT.out (by omega)
      have hx := mbIdx (cap := c) eA hkl
      have hat : mbE.At wr b (off + k * 16) l[k] := (hc k hkl).below hB hbw
      have HNX := Lib.hid (overdueM_next (h := h) (now := now) (lease := lease) hkl)
      have hle := overdueM_le (l.take k) h now lease
      rw [List.length_take] at hle
      generalize l[k] = x at *
      obtain ⟨LO, hLO⟩ : ∃ L, overdueM (l.take k) h now lease = L := ⟨_, rfl⟩
      rw [hLO] at HNX hO hle
      have HLE := Lib.hid (show LO.length ≤ 1000 by omega)
      clear hle hLO
      obtain ⟨A0, c0, rfl, _⟩ := SlV.own hO
      have HV := Lib.hid (show overM h now lease x = (x.w && (decide (0 ≤ x.d ∧ x.d < h.length) && decide (lease < now - h.getD x.d.toNat 0))) from rfl)
      have hE : mbE.In (wr.alloc (.cells #[.int .i64 x.d, .int .i64 x.i, .bool x.w, .int .i64 x.n, .int .i64 x.l, .int .i64 x.o, .int .i64 x.r.d, .int .i64 x.r.i, .int .i64 x.r.b, .int .i64 x.r.t, .int .i64 x.r.m, .int .i64 x.r.p, .int .i64 x.r.c, .int .i64 x.r.s, .int .i64 x.r.k, .string x.f] 39)) wr.heap.size x := El.In.new (E := mbE) wr x _ rfl
      have hal := below_alloc (Below.refl wr.heap.size wr) (.cells #[.int .i64 x.d, .int .i64 x.i, .bool x.w, .int .i64 x.n, .int .i64 x.l, .int .i64 x.o, .int .i64 x.r.d, .int .i64 x.r.i, .int .i64 x.r.b, .int .i64 x.r.t, .int .i64 x.r.m, .int .i64 x.r.p, .int .i64 x.r.c, .int .i64 x.r.s, .int .i64 x.r.k, .string x.f] 39)
      replace hB := below_then hB hal
      replace hO := hO.below hal
      clear hal hc eA
      go_upto_region 6 with (first | (refine El.load mbRow rfl _ rfl b (off + k * 16) rfl x hat #[.int .i64 x.d, .int .i64 x.i, .bool x.w, .int .i64 x.n, .int .i64 x.l, .int .i64 x.o, .int .i64 x.r.d, .int .i64 x.r.i, .int .i64 x.r.b, .int .i64 x.r.t, .int .i64 x.r.m, .int .i64 x.r.p, .int .i64 x.r.c, .int .i64 x.r.s, .int .i64 x.r.k, .string x.f] rfl ?_) | fail)
      clear hat hx hbw
      generalize wr.alloc (.cells #[.int .i64 x.d, .int .i64 x.i, .bool x.w, .int .i64 x.n, .int .i64 x.l, .int .i64 x.o, .int .i64 x.r.d, .int .i64 x.r.i, .int .i64 x.r.b, .int .i64 x.r.t, .int .i64 x.r.m, .int .i64 x.r.p, .int .i64 x.r.c, .int .i64 x.r.s, .int .i64 x.r.k, .string x.f] 39) = V at *
      generalize wr.heap.size = n at *
      have hlt := hE.lt
      obtain ⟨h0, _, h2, _, _, _, _, _, _, _, _, _, _, _, _, _⟩ := mbIn16 hE
      cases hw : x.w with
      | false =>
        rw [hw] at h2
        have hv : overM h now lease x = false := by rw [HV.out, hw]; rfl
        have HNV := Lib.hid (show overdueM (l.take (k + 1)) h now lease = LO by rw [HNX.out, hv]; simp)
        clear hv
        go_wp2_with fail
        exact ⟨⟨k + 1, _, by omega, by go_num, rfl, by rw [HNV.out]; exact hO, hB⟩, by simp [intOf]; omega⟩
      | true =>
        rw [hw] at h2
        by_cases hd0 : 0 ≤ x.d
        · obtain ⟨j, hj⟩ : ∃ j : Nat, x.d = j := ⟨x.d.toNat, by omega⟩
          rw [hj] at h0
          have f0 : decide ((0 : Int) ≤ (j : Int)) = true := decide_eq_true (by omega)
          by_cases hjl : j < h.length
          · have f1 : decide ((j : Int) < (h.length : Int)) = true := decide_eq_true (by omega)
            have f2 : decide (j < h.length) = true := decide_eq_true hjl
            obtain ⟨b2, off2, eB, hbw2, hc2⟩ := HH.out (by omega)
            have hx2 := inIdx (cap := d) eB hjl
            have hat2 : inE.At V b2 (off2 + j * 1) h[j] := (hc2 j hjl).below hB hbw2
            have hcell : V.cell? ⟨b2, off2 + j, none⟩ = some (.int .i64 h[j]) := by
              have := inAt1 hat2
              rw [Nat.mul_one] at this
              exact this
            have hm := HHH.out h[j] (List.getElem_mem _)
            have hgd : h.getD x.d.toNat 0 = h[j] := by rw [hj, Int.toNat_natCast, List.getD_eq_getElem?_getD, List.getElem?_eq_getElem hjl]; rfl
            have HGD := Lib.hid hgd
            have HJ := Lib.hid hj
            have HJL := Lib.hid hjl
            generalize h[j] = hv at *
            have hs : IntKind.i64.wrap (now - hv) = now - hv := by rw [IntKind.wrap_i64]; omega
            clear hc2 eB hat2 hgd hj hm hjl
            by_cases hls : lease < now - hv
            · have f3 : decide (lease < now - hv) = true := decide_eq_true hls
              have HVT := Lib.hid (show overM h now lease x = true by rw [HV.out, hw, HGD.out, f3, decide_eq_true (show 0 ≤ x.d ∧ x.d < h.length by have := HJ.out; have := HJL.out; omega)]; rfl)
              have HNV := Lib.hid (show overdueM (l.take (k + 1)) h now lease = LO ++ [(j : Int)] by rw [HNX.out, HVT.out, if_pos rfl, HJ.out])
              have hal2 := below_alloc (Below.refl V.heap.size V) (.cells #[.int .i64 (j : Int)] 3)
              have hO2 := hO.below hal2
              have hT2 : inE.Sl (V.alloc (.cells #[.int .i64 (j : Int)] 3)) (some ⟨V.heap.size, 0, none⟩) [(j : Int)] := (El.In.new (E := inE) V (j : Int) _ rfl).sl
              have hB2 := below_then hB hal2
              have hBs := hB2.size
              clear hal2 hO hls hE
              go_wp2_with (first | (at_builtin; refine El.wpList_app inInnT rfl _ _ rfl w.heap.size _ LO [(j : Int)] rfl hO2 (some ⟨V.heap.size, 0, none⟩) 1 1 rfl rfl hT2 (fun e => by cases e) (by have := HLE.out; rw [List.length_singleton]; omega) hBs ?_; intro v' w5 hO5 hg5 _) | fail)
              have hB5 := hB2.grown hg5 hB2.size (fun k e => (hO2.lt k e).1)
              go_wp2_with fail
              exact ⟨⟨k + 1, v', by omega, by go_num, rfl, by rw [HNV.out]; exact hO5, hB5⟩, by simp [intOf]; omega⟩
            · have f3 : decide (lease < now - hv) = false := decide_eq_false hls
              clear hls
              have hv : overM h now lease x = false := by rw [HV.out, hw, HGD.out, f3, Bool.and_false, Bool.and_false]
              have HNV := Lib.hid (show overdueM (l.take (k + 1)) h now lease = LO by rw [HNX.out, hv]; simp)
              clear hv
              go_wp2_with fail
              exact ⟨⟨k + 1, _, by omega, by go_num, rfl, by rw [HNV.out]; exact hO, hB⟩, by simp [intOf]; omega⟩
          · have f1 : decide ((j : Int) < (h.length : Int)) = false := decide_eq_false (by omega)
            have f2 : decide (j < h.length) = false := decide_eq_false hjl
            have HJ := Lib.hid hj
            have HJL := Lib.hid hjl
            clear hj hjl
            have hv : overM h now lease x = false := by rw [HV.out, hw, decide_eq_false (show ¬ (0 ≤ x.d ∧ x.d < h.length) by have := HJ.out; have := HJL.out; omega)]; rfl
            have HNV := Lib.hid (show overdueM (l.take (k + 1)) h now lease = LO by rw [HNX.out, hv]; simp)
            clear hv
            go_wp2_with fail
            exact ⟨⟨k + 1, _, by omega, by go_num, rfl, by rw [HNV.out]; exact hO, hB⟩, by simp [intOf]; omega⟩
        · have f0 : decide ((0 : Int) ≤ x.d) = false := decide_eq_false hd0
          have HD0 := Lib.hid hd0
          clear hd0
          have hv : overM h now lease x = false := by rw [HV.out, hw, decide_eq_false (show ¬ (0 ≤ x.d ∧ x.d < h.length) by have := HD0.out; omega)]; rfl
          have HNV := Lib.hid (show overdueM (l.take (k + 1)) h now lease = LO by rw [HNX.out, hv]; simp)
          clear hv
          go_wp2_with fail
          exact ⟨⟨k + 1, _, by omega, by go_num, rfl, by rw [HNV.out]; exact hO, hB⟩, by simp [intOf]; omega⟩
    · obtain rfl : k = l.length := by omega
      rw [List.take_length] at hO
      obtain ⟨A', c', rfl, hS⟩ := SlV.own hO
      go_wp2_with fail
      go_ret
      exact ⟨A', c', rfl, hS, hB⟩

set_option maxRecDepth 100000 in
set_option maxHeartbeats 4000000 in
theorem refNew16_any (A : Option Addr) (c : Nat) (l : List Int) (w : World) (hl : l.length ≤ 1000) (hT : inE.Sl w A l) :
    Calls Try.prog 24 #[.slice A l.length c] w fun e w' => ∃ (A' : Option Addr) (c' : Nat), e = .returned (.slice A' l.length c') ∧ SlV mbE w' A' c' (l.map newMb) ∧ Below w.heap.size w w' := by
  have hB := Below.refl w.heap.size w
  have HT := Lib.hid hT
  clear hT
  have hO := El.Own.nil (E := mbE) w w.heap.size
  go_enter Try.func24, Try.ntmps24
  go_wp2_with fail
  go_loopw [3, 4] (fun p y wr => ∃ (k : Nat) (v : Value), k ≤ l.length ∧ y = .int .i64 k ∧ p = v ∧ mbE.Own wr w.heap.size v ((l.take k).map newMb) ∧ Below w.heap.size w wr) (fun _ y _ => l.length - (intOf y).toNat)
  case atStart => exact ⟨0, _, Nat.zero_le _, rfl, rfl, hO, hB⟩
  case round =>
    clear hB hO
    obtain ⟨k, v, hk, rfl, rfl, hO, hB⟩ := hrel
    by_cases hkl : k < l.length
    · obtain ⟨b, off, eA, hbw, hc⟩ := HT.out (by omega)
      have hx := inIdx (cap := c) eA hkl
      have hcw := inAt1 (show inE.At w b (off + k * 1) l[k] from hc k hkl)
      rw [Nat.mul_one] at hcw
      have HSO := Lib.hid (fun (Vx : World) (hb : Below w.heap.size w Vx) => (((bcell hb).1 b (off + k) hbw).trans hcw : Vx.cell? ⟨b, off + k, none⟩ = some (.int .i64 l[k])))
      have HNX := Lib.hid (show (l.take (k + 1)).map newMb = (l.take k).map newMb ++ [newMb l[k]] by rw [List.take_succ_eq_append_getElem hkl, List.map_append]; rfl)
      have HLE := Lib.hid (show ((l.take k).map newMb).length ≤ 1000 by rw [List.length_map, List.length_take]; omega)
      generalize l[k] = d at *
      generalize (l.take k).map newMb = LO at *
      clear hc eA hcw
      obtain ⟨A0, c0, rfl, _⟩ := SlV.own hO
      go_upto_region 5 with fail
      refine region_anyG (S := fun w' => w'.cell? ⟨b, off + k, none⟩ = some (.int .i64 d)) 13 (by kernel_rfl) ?_
      replace hO : mbE.Own wr.drew w.heap.size (.slice A0 LO.length c0) LO := hO.below (Below.refl _ _).drew
      replace hB := hB.drew
      have hS := HSO.out _ hB
      generalize wr.drew = U at *
      refine anyG_take (i := 0) (v := .slice A0 LO.length c0) rfl (by kernel_rfl) (by kernel_rfl) (by kernel_rfl) (by kernel_rfl) (by kernel_rfl) (fun _ _ _ h => h) (Or.inl ⟨by rfl, fun w' hSw => by go_simp⟩) hS ?_
      try simp only [Act.put, List.setIfInBounds_toArray, List.set_cons_zero, List.set_cons_succ]
      refine anyG_take (i := 1) (v := .slice A l.length c) rfl (by kernel_rfl) (by kernel_rfl) (by kernel_rfl) (by kernel_rfl) (by kernel_rfl) (fun _ _ _ h => h) (Or.inl ⟨by rfl, fun w' hSw => by go_simp⟩) hS ?_
      try simp only [Act.put, List.setIfInBounds_toArray, List.set_cons_zero, List.set_cons_succ]
      refine anyG_take (i := 2) (v := .int .i64 k) rfl (by kernel_rfl) (by kernel_rfl) (by kernel_rfl) (by kernel_rfl) (by kernel_rfl) (fun _ _ _ h => h) (Or.inl ⟨by rfl, fun w' hSw => by go_simp⟩) hS ?_
      try simp only [Act.put, List.setIfInBounds_toArray, List.set_cons_zero, List.set_cons_succ]
      refine anyG_take (i := 3) (v := .pointer (some ⟨b, off + k, none⟩)) rfl (by kernel_rfl) (by kernel_rfl) (by kernel_rfl) (by kernel_rfl) (by kernel_rfl) (fun _ _ _ h => h) (Or.inl ⟨by rfl, fun w' hSw => by go_simp⟩) hS ?_
      try simp only [Act.put, List.setIfInBounds_toArray, List.set_cons_zero, List.set_cons_succ]
      refine anyG_take (i := 4) (v := .int .i64 d) rfl (by kernel_rfl) (by kernel_rfl) (by kernel_rfl) (by kernel_rfl) (by kernel_rfl) (fun _ _ _ h => h) (Or.inl ⟨by rfl, fun w' hSw => by go_simp⟩) hS ?_
      try simp only [Act.put, List.setIfInBounds_toArray, List.set_cons_zero, List.set_cons_succ]
      refine anyG_take (i := 5) (v := .slice A l.length c) rfl (by kernel_rfl) (by kernel_rfl) (by kernel_rfl) (by kernel_rfl) (by kernel_rfl) (fun _ _ _ h => h) (Or.inl ⟨by rfl, fun w' hSw => by go_simp⟩) hS ?_
      try simp only [Act.put, List.setIfInBounds_toArray, List.set_cons_zero, List.set_cons_succ]
      refine anyG_take (i := 6) (v := .int .i64 k) rfl (by kernel_rfl) (by kernel_rfl) (by kernel_rfl) (by kernel_rfl) (by kernel_rfl) (fun _ _ _ h => h) (Or.inl ⟨by rfl, fun w' hSw => by go_simp⟩) hS ?_
      try simp only [Act.put, List.setIfInBounds_toArray, List.set_cons_zero, List.set_cons_succ]
      refine anyG_take (i := 7) (v := .pointer (some ⟨b, off + k, none⟩)) rfl (by kernel_rfl) (by kernel_rfl) (by kernel_rfl) (by kernel_rfl) (by kernel_rfl) (fun _ _ _ h => h) (Or.inl ⟨by rfl, fun w' hSw => by go_simp⟩) hS ?_
      try simp only [Act.put, List.setIfInBounds_toArray, List.set_cons_zero, List.set_cons_succ]
      refine anyG_take (i := 8) (v := .int .i64 d) rfl (by kernel_rfl) (by kernel_rfl) (by kernel_rfl) (by kernel_rfl) (by kernel_rfl) (fun _ _ _ h => h) (Or.inl ⟨by rfl, fun w' hSw => by go_simp⟩) hS ?_
      try simp only [Act.put, List.setIfInBounds_toArray, List.set_cons_zero, List.set_cons_succ]
      refine anyG_take (i := 9) (v := .agg #[.int .i64 d, .int .i64 1, .int .i64 0, .int .i64 0, .int .i64 1, .int .i64 0, .int .i64 0, .int .i64 0, .int .i64 0]) rfl (by kernel_rfl) (by kernel_rfl) (by kernel_rfl) (by kernel_rfl) (by kernel_rfl) (fun _ _ _ h => h) (Or.inl ⟨by rfl, fun w' hSw => by go_simp⟩) hS ?_
      try simp only [Act.put, List.setIfInBounds_toArray, List.set_cons_zero, List.set_cons_succ]
      refine anyG_take (i := 10) (v := .agg #[.int .i64 d, .int .i64 1, .bool true, .int .i64 0, .int .i64 0, .int .i64 0, .int .i64 d, .int .i64 1, .int .i64 0, .int .i64 0, .int .i64 1, .int .i64 0, .int .i64 0, .int .i64 0, .int .i64 0, .string ⟨#[]⟩]) rfl (by kernel_rfl) (by kernel_rfl) (by kernel_rfl) (by kernel_rfl) (by kernel_rfl) (fun _ _ _ h => h) (Or.inl ⟨by rfl, fun w' hSw => by go_simp⟩) hS ?_
      try simp only [Act.put, List.setIfInBounds_toArray, List.set_cons_zero, List.set_cons_succ]
      have he : mbE.Sl (U.alloc (.cells #[.int .i64 d, .int .i64 1, .bool true, .int .i64 0, .int .i64 0, .int .i64 0, .int .i64 d, .int .i64 1, .int .i64 0, .int .i64 0, .int .i64 1, .int .i64 0, .int .i64 0, .int .i64 0, .int .i64 0, .string ⟨#[]⟩] 39)) (some ⟨U.heap.size, 0, none⟩) [newMb d] := (El.In.new (E := mbE) U (newMb d) _ rfl).sl
      have hal := below_alloc (Below.refl U.heap.size U) (.cells #[.int .i64 d, .int .i64 1, .bool true, .int .i64 0, .int .i64 0, .int .i64 0, .int .i64 d, .int .i64 1, .int .i64 0, .int .i64 0, .int .i64 1, .int .i64 0, .int .i64 0, .int .i64 0, .int .i64 0, .string ⟨#[]⟩] 39)
      clear hS
      replace hO := hO.below hal
      replace hB := below_then hB hal
      refine anyG_step (rs := [11]) (by kernel_rfl) (by simp) ?_
      refine AllG.cons rfl (fun K hK => ?_) AllG.nil
      go_simp
      refine hK.out _ _ (HSO.out _ hB) ?_
      try simp only [Act.put, List.setIfInBounds_toArray, List.set_cons_zero, List.set_cons_succ]
      clear hK hal
      have hBs := hB.size
      refine anyG_step (rs := [12]) (by kernel_rfl) (by simp) ?_
      refine AllG.cons rfl (fun K hK => ?_) AllG.nil
      refine El.step_app mbInn rfl (.tmp 11) (.tmp 22) rfl w.heap.size (.slice A0 LO.length c0) LO [newMb d] rfl hO (some ⟨U.heap.size, 0, none⟩) 1 1 rfl rfl he (fun e => by cases e) (by have := HLE.out; rw [List.length_singleton]; omega) hBs ?_
      intro v2 U3 hO2 hg7 _
      replace hB := hB.grown hg7 hB.size (fun k e => (hO.lt k e).1)
      clear hg7 he hO hBs
      refine hK.out _ _ (HSO.out _ hB) ?_
      try simp only [Act.put, List.setIfInBounds_toArray, List.set_cons_zero, List.set_cons_succ]
      clear hK
      refine anyG_step (rs := [13]) (by kernel_rfl) (by simp) ?_
      refine AllG.last (n := 13) rfl (fun K hK => ?_)
      go_simp
      refine hK.out _ _ ?_
      try simp only [Act.put, List.setIfInBounds_toArray, List.set_cons_zero, List.set_cons_succ]
      clear hK
      refine anyG_done (by kernel_rfl) ?_ _
      go_wp2_with fail
      exact ⟨⟨k + 1, _, by omega, by go_num, rfl, by rw [HNX.out]; exact hO2, hB⟩, by simp [intOf]; omega⟩
    · obtain rfl : k = l.length := by omega
      rw [List.take_length] at hO
      obtain ⟨A', c', rfl, hS⟩ := SlV.own hO
      rw [List.length_map]
      go_wp2_with fail
      go_ret
      exact ⟨A', c', rfl, hS, hB⟩
end Go.Proofs.Ytjjjpifdmgpnjaa

/- The document's Right, Print, Same of reports. -/
namespace Go.Proofs.Ytjjjpifdmgpnjaa
open Go.RowKit Cod

def rpEq (a b : Rp) : Bool := decide (a.d = b.d ∧ a.i = b.i ∧ a.b = b.b ∧ a.t = b.t ∧ a.m = b.m ∧ a.p = b.p ∧ a.c = b.c ∧ a.s = b.s ∧ a.k = b.k)
theorem rpEq_iff {a b : Rp} : rpEq a b = true ↔ a = b := by
  unfold rpEq
  rw [decide_eq_true_iff]
  obtain ⟨_, _, _, _, _, _, _, _, _⟩ := a
  obtain ⟨_, _, _, _, _, _, _, _, _⟩ := b
  simp
set_option maxRecDepth 100000 in
set_option maxHeartbeats 4000000 in
theorem run_eqRp (a b : Rp) (w : World) : (Op.equalIn 10000 37 (.agg #[.int .i64 a.d, .int .i64 a.i, .int .i64 a.b, .int .i64 a.t, .int .i64 a.m, .int .i64 a.p, .int .i64 a.c, .int .i64 a.s, .int .i64 a.k]) (.agg #[.int .i64 b.d, .int .i64 b.i, .int .i64 b.b, .int .i64 b.t, .int .i64 b.m, .int .i64 b.p, .int .i64 b.c, .int .i64 b.s, .int .i64 b.k])).run Try.prog w = .ok (rpEq a b) w := by
  obtain ⟨a1, a2, a3, a4, a5, a6, a7, a8, a9⟩ := a
  obtain ⟨b1, b2, b3, b4, b5, b6, b7, b8, b9⟩ := b
  dsimp only
  by_cases h : a1 = b1 ∧ a2 = b2 ∧ a3 = b3 ∧ a4 = b4 ∧ a5 = b5 ∧ a6 = b6 ∧ a7 = b7 ∧ a8 = b8 ∧ a9 = b9
  · have hm : rpEq ⟨a1, a2, a3, a4, a5, a6, a7, a8, a9⟩ ⟨b1, b2, b3, b4, b5, b6, b7, b8, b9⟩ = true := decide_eq_true h
    rw [hm]
    obtain ⟨rfl, rfl, rfl, rfl, rfl, rfl, rfl, rfl, rfl⟩ := h
    clear hm
    go_simp
  · have hm : rpEq ⟨a1, a2, a3, a4, a5, a6, a7, a8, a9⟩ ⟨b1, b2, b3, b4, b5, b6, b7, b8, b9⟩ = false := decide_eq_false h
    rw [hm]
    clear hm
    go_simp
    exact fun h1 h2 h3 h4 h5 h6 h7 h8 h9 => h ⟨h1, h2, h3, h4, h5, h6, h7, h8, h9⟩

set_option maxRecDepth 100000 in
set_option maxHeartbeats 4000000 in
theorem refRpRight_any (r : Rp) (w : World) : Calls Try.prog 29 #[.agg #[.int .i64 r.d, .int .i64 r.i, .int .i64 r.b, .int .i64 r.t, .int .i64 r.m, .int .i64 r.p, .int .i64 r.c, .int .i64 r.s, .int .i64 r.k]] w fun e w' => e = .returned (.bool (rpB r)) ∧ Below w.heap.size w w' := by
  have hP : rpE.In (w.alloc (.cells #[.int .i64 r.d, .int .i64 r.i, .int .i64 r.b, .int .i64 r.t, .int .i64 r.m, .int .i64 r.p, .int .i64 r.c, .int .i64 r.s, .int .i64 r.k] 37)) w.heap.size r := El.In.new (E := rpE) w r _ rfl
  have hB := below_alloc (Below.refl w.heap.size w) (.cells #[.int .i64 r.d, .int .i64 r.i, .int .i64 r.b, .int .i64 r.t, .int .i64 r.m, .int .i64 r.p, .int .i64 r.c, .int .i64 r.s, .int .i64 r.k] 37)
  obtain ⟨p0, p1, p2, p3, p4, p5, p6, p7, p8⟩ := rpIn9 hP
  have HC0 := Lib.hid (fun (j : Nat) (hj : j < 0) => (absurd hj (Nat.not_lt_zero j) : cnt0 ((rp7 r).getD j 0) = true))
  clear hP
  obtain ⟨bv, hbv⟩ : ∃ bv, rpB r = bv := ⟨_, rfl⟩
  rw [hbv]
  have HV := Lib.hid hbv
  clear hbv
  go_enter Try.func29, Try.ntmps29
  go_wp2_with fail
  generalize w.alloc (.cells #[.int .i64 r.d, .int .i64 r.i, .int .i64 r.b, .int .i64 r.t, .int .i64 r.m, .int .i64 r.p, .int .i64 r.c, .int .i64 r.s, .int .i64 r.k] 37) = W at *
  go_loopw [20] (fun i wr => ∃ k : Nat, k ≤ 7 ∧ i = .int .i64 k ∧ Hid (∀ j, j < k → cnt0 ((rp7 r).getD j 0) = true) ∧ wr = W) (fun i _ => 7 - (intOf i).toNat)
  case atStart => exact ⟨0, Nat.zero_le _, rfl, HC0, rfl⟩
  case round =>
    clear HC0
    obtain ⟨k, hk, rfl, HC, rfl⟩ := hrel
    by_cases hkl : k < 7
    · have hx := fun wx => idx7 r wx k hkl
      have HO := Lib.hid (rpB_out (r := r) hkl)
      have HN := Lib.hid (fun (h : cnt0 ((rp7 r).getD k 0) = true) (j : Nat) (hj : j < k + 1) => (by
        by_cases e : j < k
        · exact HC.out j e
        · obtain rfl : j = k := by omega
          exact h : cnt0 ((rp7 r).getD j 0) = true))
      generalize (rp7 r).getD k 0 = n at *
      by_cases h0 : n < 0
      · have hv := HO.out (by unfold cnt0; exact decide_eq_false (by omega))
        obtain rfl : false = bv := hv.symm.trans HV.out
        have f1 : decide (n < 0) = true := decide_eq_true h0
        clear hv
        go_wp2_with fail
        go_ret
        exact ⟨rfl, hB⟩
      · have f1 : decide (n < 0) = false := decide_eq_false h0
        by_cases h1 : 1099511627776 < n
        · have hv := HO.out (by unfold cnt0; exact decide_eq_false (by omega))
          obtain rfl : false = bv := hv.symm.trans HV.out
          have f2 : decide (1099511627776 < n) = true := decide_eq_true h1
          clear hv
          go_wp2_with fail
          go_ret
          exact ⟨rfl, hB⟩
        · have f2 : decide (1099511627776 < n) = false := decide_eq_false h1
          have HN2 := Lib.hid (HN.out (by unfold cnt0; exact decide_eq_true (by omega)))
          go_wp2_with fail
          exact ⟨⟨k + 1, by omega, by go_num, HN2, by trivial⟩, by simp [intOf]; omega⟩
    · obtain rfl : k = 7 := by omega
      have hv := (rpB_in HC.out).symm.trans HV.out
      have hh : headB r = (decide (0 ≤ r.d) && (decide (r.d < 12) && (decide (1 ≤ r.i) && (decide (r.m = 1) || decide (r.m = 2))))) := by
        unfold headB
        by_cases a1 : 0 ≤ r.d <;> by_cases a2 : r.d < 12 <;> by_cases a3 : 1 ≤ r.i <;> by_cases a4 : r.m = 1 <;> by_cases a5 : r.m = 2 <;> simp [a1, a2, a3, a4, a5]
      rw [hh] at hv
      clear hh HC HV
      by_cases a1 : 0 ≤ r.d
      · by_cases a2 : r.d < 12
        · by_cases a3 : 1 ≤ r.i
          · by_cases a4 : r.m = 1
            · have e4 : (r.m == 1) = true := beq_iff_eq.2 a4
              have hv2 : true = bv := by rw [← hv]; simp [a1, a2, a3, a4]
              subst hv2
              go_wp2_with fail
              go_ret
              exact ⟨rfl, hB⟩
            · have e4 : (r.m == 1) = false := beq_eq_false_iff_ne.2 a4
              by_cases a5 : r.m = 2
              · have e5 : (r.m == 2) = true := beq_iff_eq.2 a5
                have hv2 : true = bv := by rw [← hv]; simp [a1, a2, a3, a5]
                subst hv2
                go_wp2_with fail
                go_ret
                exact ⟨rfl, hB⟩
              · have e5 : (r.m == 2) = false := beq_eq_false_iff_ne.2 a5
                have hv2 : false = bv := by rw [← hv]; simp [a1, a2, a3, a4, a5]
                subst hv2
                go_wp2_with fail
                go_ret
                exact ⟨rfl, hB⟩
          · skip
            have hv2 : false = bv := by rw [← hv]; simp [a1, a2, a3]
            subst hv2
            go_wp2_with fail
            go_ret
            exact ⟨rfl, hB⟩
        · skip
          have hv2 : false = bv := by rw [← hv]; simp [a1, a2]
          subst hv2
          go_wp2_with fail
          go_ret
          exact ⟨rfl, hB⟩
      · skip
        have hv2 : false = bv := by rw [← hv]; simp [a1]
        subst hv2
        go_wp2_with fail
        go_ret
        exact ⟨rfl, hB⟩

theorem rp9_i64 {r : Rp} (h : RpW r) {k : Nat} (hk : k < 9) : i64 ((rpL r).getD k 0) := by
  rw [List.getD_eq_getElem?_getD, List.getElem?_eq_getElem (by simpa [rpL] using hk)]
  exact h _ (List.getElem_mem _)
theorem rp9_next (r : Rp) {k : Nat} (hk : k < 9) : catN ((rpL r).take (k + 1)) = catN ((rpL r).take k) ++ bytesOf ((rpL r).getD k 0) := by
  have hl : k < (rpL r).length := by simpa [rpL] using hk
  rw [catN_next _ k hl, List.getD_eq_getElem?_getD, List.getElem?_eq_getElem hl]; rfl
set_option maxRecDepth 100000 in
set_option maxHeartbeats 4000000 in
theorem refRpPrint_any (r : Rp) (w : World) (hw : RpW r) : Calls Try.prog 43 #[.agg #[.int .i64 r.d, .int .i64 r.i, .int .i64 r.b, .int .i64 r.t, .int .i64 r.m, .int .i64 r.p, .int .i64 r.c, .int .i64 r.s, .int .i64 r.k]] w fun e w' => e = .returned (.string (rpBytes r)) ∧ Below w.heap.size w w' := by
  have hP : rpE.In (w.alloc (.cells #[.int .i64 r.d, .int .i64 r.i, .int .i64 r.b, .int .i64 r.t, .int .i64 r.m, .int .i64 r.p, .int .i64 r.c, .int .i64 r.s, .int .i64 r.k] 37)) w.heap.size r := El.In.new (E := rpE) w r _ rfl
  have hB := below_alloc (Below.refl w.heap.size w) (.cells #[.int .i64 r.d, .int .i64 r.i, .int .i64 r.b, .int .i64 r.t, .int .i64 r.m, .int .i64 r.p, .int .i64 r.c, .int .i64 r.s, .int .i64 r.k] 37)
  obtain ⟨p0, p1, p2, p3, p4, p5, p6, p7, p8⟩ := rpIn9 hP
  have HW := Lib.hid hw
  clear hP hw
  go_enter Try.func43, Try.ntmps43
  go_wp2_with fail
  clear p0 p1 p2 p3 p4 p5 p6 p7 p8
  generalize w.alloc (.cells #[.int .i64 r.d, .int .i64 r.i, .int .i64 r.b, .int .i64 r.t, .int .i64 r.m, .int .i64 r.p, .int .i64 r.c, .int .i64 r.s, .int .i64 r.k] 37) = W at *
  go_loopw [3, 25] (fun v i wr => ∃ k : Nat, k ≤ 9 ∧ i = .int .i64 k ∧ v = .string (catN ((rpL r).take k)) ∧ Below w.heap.size w wr) (fun _ i _ => 9 - (intOf i).toNat)
  case atStart => exact ⟨0, Nat.zero_le _, rfl, rfl, hB⟩
  case round =>
    clear hB
    obtain ⟨k, hk, rfl, rfl, hB⟩ := hrel
    by_cases hkl : k < 9
    · have hx := fun wx => idx9 r wx k hkl
      have hi := rp9_i64 HW.out hkl
      have HNX := Lib.hid (rp9_next r hkl)
      have hle := catN_le ((rpL r).take k) (fun n hn => HW.out n (List.mem_of_mem_take hn))
      rw [List.length_take] at hle
      generalize (rpL r).getD k 0 = n at *
      have C := Lib.hid (fun wx => refNum_any n wx hi.1 hi.2)
      have hz : (bytesOf n).size ≤ 10 := by rw [bytesOf_size]; exact enc_ten _ (fold_lt n hi.1 hi.2)
      generalize catN ((rpL r).take k) = T at *
      generalize bytesOf n = x at *
      have hT : T.size ≤ 90 := by omega
      clear hi hle
      go_wp2_with fail
      refine (C.out _).mono ?_
      rintro e w2 ⟨rfl, hb2⟩
      replace hB := below_then hB hb2
      go_wp2_with fail
      exact ⟨⟨k + 1, by omega, by go_num, by rw [HNX.out], hB⟩, by simp [intOf]; omega⟩
    · obtain rfl : k = 9 := by omega
      have hv : catN ((rpL r).take 9) = rpBytes r := rfl
      rw [hv]
      clear hv
      go_wp2_with fail
      go_ret
      exact ⟨rfl, hB⟩

end Go.Proofs.Ytjjjpifdmgpnjaa

/- Members: the document's Print, Same; whole. -/
namespace Go.Proofs.Ytjjjpifdmgpnjaa
open Go.RowKit Cod

set_option maxRecDepth 100000 in
set_option maxHeartbeats 8000000 in
theorem refPrint16_any (A : Option Addr) (c : Nat) (l : List Mb) (w : World) (hl : l.length ≤ 1000) (hT : mbE.Sl w A l) (hw : ∀ m ∈ l, MbW m) (hz : (mbK.part l).size ≤ 1000000) : Calls Try.prog 19 #[.slice A l.length c] w fun e w' => e = .returned (.string (mbK.part l)) ∧ Below w.heap.size w w' := by
  have hB := Below.refl w.heap.size w
  have HT := Lib.hid hT
  have HW := Lib.hid hw
  unfold Kd.part at hz
  rw [ByteArray.size_append] at hz
  have C0 := Lib.hid (fun wx => refNum_any (l.length : Int) wx (by omega) (by omega))
  have HV := Lib.hid (show mbK.part l = bytesOf l.length ++ mbK.cat l from rfl)
  generalize bytesOf (l.length : Int) = N at *
  clear hT hw
  go_enter Try.func19, Try.ntmps19
  go_wp2_with fail
  refine (C0.out _).mono ?_
  rintro e w1 ⟨rfl, hb1⟩
  replace hB := below_then hB hb1
  clear hb1 C0
  have hst : N = N ++ mbK.cat (l.take 0) := by rw [List.take_zero]; exact L_inj (by rw [L_app]; show L N = L N ++ L ⟨#[]⟩; simp [L])
  have HST := Lib.hid hst
  clear hst
  go_wp2_with fail
  go_loopw [3, 4] (fun v i wr => ∃ k : Nat, k ≤ l.length ∧ i = .int .i64 k ∧ v = .string (N ++ mbK.cat (l.take k)) ∧ Below w.heap.size w wr) (fun _ i _ => l.length - (intOf i).toNat)
  case atStart => exact ⟨0, Nat.zero_le _, rfl, by rw [← HST.out], hB⟩
  case round =>
    clear hB
    obtain ⟨k, hk, rfl, rfl, hB⟩ := hrel
    by_cases hkl : k < l.length
    · obtain ⟨b, off, eA, hbw, hc⟩ := HT.out (by omega)
      have hx := mbIdx (cap := c) eA hkl
      have hat : mbE.At wr b (off + k * 16) l[k] := (hc k hkl).below hB hbw
      have hit := mbK.item_le l k hkl
      have HNX := Lib.hid (show N ++ mbK.cat (l.take (k + 1)) = N ++ mbK.cat (l.take k) ++ mbBytes l[k] by rw [mbK.cat_next l k hkl, ByteArray.append_assoc]; rfl)
      obtain ⟨i1, i2, i3, i4, i5, i6, i7⟩ := HW.out l[k] (List.getElem_mem _)
      have hbb : (mbK.b l[k]).size = (mbBytes l[k]).size := rfl
      generalize l[k] = x at *
      have hss : (N ++ mbK.cat (l.take k)).size = N.size + (mbK.cat (l.take k)).size := ByteArray.size_append
      generalize N ++ mbK.cat (l.take k) = Z at *
      have C1 := Lib.hid (fun wx => refNum_any x.d wx i1.1 i1.2)
      have C2 := Lib.hid (fun wx => refNum_any x.i wx i2.1 i2.2)
      have C3 := Lib.hid (fun wx => refBit_any x.w wx)
      have C4 := Lib.hid (fun wx => refNum_any x.n wx i3.1 i3.2)
      have C5 := Lib.hid (fun wx => refNum_any x.l wx i4.1 i4.2)
      have C6 := Lib.hid (fun wx => refNum_any x.o wx i5.1 i5.2)
      have C7 := Lib.hid (fun wx => refRpPrint_any x.r wx i6)
      have C8 := Lib.hid (fun wx => refText_any x.f wx i7)
      have HX := Lib.hid (show mbBytes x = bytesOf x.d ++ bytesOf x.i ++ bitOf x.w ++ bytesOf x.n ++ bytesOf x.l ++ bytesOf x.o ++ rpBytes x.r ++ textOf x.f from rfl)
      have hzx : (mbBytes x).size = (bytesOf x.d).size + (bytesOf x.i).size + (bitOf x.w).size + (bytesOf x.n).size + (bytesOf x.l).size + (bytesOf x.o).size + (rpBytes x.r).size + (textOf x.f).size := by rw [HX.out]; simp only [ByteArray.size_append]
      generalize mbBytes x = B at *
      generalize bytesOf x.d = x1 at *
      generalize bytesOf x.i = x2 at *
      generalize bitOf x.w = x3 at *
      generalize bytesOf x.n = x4 at *
      generalize bytesOf x.l = x5 at *
      generalize bytesOf x.o = x6 at *
      generalize rpBytes x.r = x7 at *
      generalize textOf x.f = x8 at *
      have HNV := Lib.hid (show N ++ mbK.cat (l.take (k + 1)) = Z ++ x1 ++ x2 ++ x3 ++ x4 ++ x5 ++ x6 ++ x7 ++ x8 by rw [HNX.out, HX.out]; simp only [ByteArray.append_assoc])
      have y1 : ¬ 9223372036854775807 < Z.size + x1.size := by omega
      have y2 : ¬ 9223372036854775807 < Z.size + x1.size + x2.size := by omega
      have y3 : ¬ 9223372036854775807 < Z.size + x1.size + x2.size + x3.size := by omega
      have y4 : ¬ 9223372036854775807 < Z.size + x1.size + x2.size + x3.size + x4.size := by omega
      have y5 : ¬ 9223372036854775807 < Z.size + x1.size + x2.size + x3.size + x4.size + x5.size := by omega
      have y6 : ¬ 9223372036854775807 < Z.size + x1.size + x2.size + x3.size + x4.size + x5.size + x6.size := by omega
      have y7 : ¬ 9223372036854775807 < Z.size + x1.size + x2.size + x3.size + x4.size + x5.size + x6.size + x7.size := by omega
      have y8 : ¬ 9223372036854775807 < Z.size + x1.size + x2.size + x3.size + x4.size + x5.size + x6.size + x7.size + x8.size := by omega
      have hE : mbE.In (wr.alloc (.cells #[.int .i64 x.d, .int .i64 x.i, .bool x.w, .int .i64 x.n, .int .i64 x.l, .int .i64 x.o, .int .i64 x.r.d, .int .i64 x.r.i, .int .i64 x.r.b, .int .i64 x.r.t, .int .i64 x.r.m, .int .i64 x.r.p, .int .i64 x.r.c, .int .i64 x.r.s, .int .i64 x.r.k, .string x.f] 39)) wr.heap.size x := El.In.new (E := mbE) wr x _ rfl
      have hal := below_alloc (Below.refl wr.heap.size wr) (.cells #[.int .i64 x.d, .int .i64 x.i, .bool x.w, .int .i64 x.n, .int .i64 x.l, .int .i64 x.o, .int .i64 x.r.d, .int .i64 x.r.i, .int .i64 x.r.b, .int .i64 x.r.t, .int .i64 x.r.m, .int .i64 x.r.p, .int .i64 x.r.c, .int .i64 x.r.s, .int .i64 x.r.k, .string x.f] 39)
      replace hB := below_then hB hal
      clear hal hc eA i1 i2 i3 i4 i5 i6 i7 hit hss hzx hbb HNX HX
      go_upto_region 6 with (first | (refine El.load mbRow rfl _ rfl b (off + k * 16) rfl x hat #[.int .i64 x.d, .int .i64 x.i, .bool x.w, .int .i64 x.n, .int .i64 x.l, .int .i64 x.o, .int .i64 x.r.d, .int .i64 x.r.i, .int .i64 x.r.b, .int .i64 x.r.t, .int .i64 x.r.m, .int .i64 x.r.p, .int .i64 x.r.c, .int .i64 x.r.s, .int .i64 x.r.k, .string x.f] rfl ?_) | fail)
      clear hat hx hbw
      generalize wr.alloc (.cells #[.int .i64 x.d, .int .i64 x.i, .bool x.w, .int .i64 x.n, .int .i64 x.l, .int .i64 x.o, .int .i64 x.r.d, .int .i64 x.r.i, .int .i64 x.r.b, .int .i64 x.r.t, .int .i64 x.r.m, .int .i64 x.r.p, .int .i64 x.r.c, .int .i64 x.r.s, .int .i64 x.r.k, .string x.f] 39) = V at *
      generalize wr.heap.size = n at *
      replace hE : mbE.In V.drew n x := hE
      replace hB := hB.drew
      go_region_held3 (fun w' => w'.cell? ⟨n, 0, none⟩ = some (.int .i64 x.d) ∧ w'.cell? ⟨n, 1, none⟩ = some (.int .i64 x.i) ∧ w'.cell? ⟨n, 2, none⟩ = some (.bool x.w) ∧ w'.cell? ⟨n, 3, none⟩ = some (.int .i64 x.n) ∧ w'.cell? ⟨n, 4, none⟩ = some (.int .i64 x.l) ∧ w'.cell? ⟨n, 5, none⟩ = some (.int .i64 x.o) ∧ w'.cell? ⟨n, 6, none⟩ = some (.int .i64 x.r.d) ∧ w'.cell? ⟨n, 7, none⟩ = some (.int .i64 x.r.i) ∧ w'.cell? ⟨n, 8, none⟩ = some (.int .i64 x.r.b) ∧ w'.cell? ⟨n, 9, none⟩ = some (.int .i64 x.r.t) ∧ w'.cell? ⟨n, 10, none⟩ = some (.int .i64 x.r.m) ∧ w'.cell? ⟨n, 11, none⟩ = some (.int .i64 x.r.p) ∧ w'.cell? ⟨n, 12, none⟩ = some (.int .i64 x.r.c) ∧ w'.cell? ⟨n, 13, none⟩ = some (.int .i64 x.r.s) ∧ w'.cell? ⟨n, 14, none⟩ = some (.int .i64 x.r.k) ∧ w'.cell? ⟨n, 15, none⟩ = some (.string x.f)) (with_reducible exact mbIn16 hE) (first | (go_at_call 41; (with_reducible first | refine (C1.out _).mono ?_ | refine (C2.out _).mono ?_ | refine (C4.out _).mono ?_ | refine (C5.out _).mono ?_ | refine (C6.out _).mono ?_); rintro e w3 ⟨rfl, hb3⟩; have hE := hE.below hb3; have hB := hB.trans (hb3.mono hB.size)) | (go_at_call 42; (with_reducible refine (C3.out _).mono ?_); rintro e w3 ⟨rfl, hb3⟩; have hE := hE.below hb3; have hB := hB.trans (hb3.mono hB.size)) | (go_at_call 43; (with_reducible refine (C7.out _).mono ?_); rintro e w3 ⟨rfl, hb3⟩; have hE := hE.below hb3; have hB := hB.trans (hb3.mono hB.size)) | (go_at_call 44; (with_reducible refine (C8.out _).mono ?_); rintro e w3 ⟨rfl, hb3⟩; have hE := hE.below hb3; have hB := hB.trans (hb3.mono hB.size)))
      all_goals
        clear hE y1 y2 y3 y4 y5 y6 y7 y8 C1 C2 C3 C4 C5 C6 C7 C8
        go_wp2_with fail
        exact ⟨⟨k + 1, by omega, by go_num, by rw [HNV.out], hB⟩, by simp [intOf]; omega⟩
    · obtain rfl : k = l.length := by omega
      rw [List.take_length, ← HV.out]
      go_wp2_with fail
      go_ret
      exact ⟨rfl, hB⟩

def mbEq (a b : Mb) : Bool := decide (a.d = b.d ∧ a.i = b.i ∧ a.w = b.w ∧ a.n = b.n ∧ a.l = b.l ∧ a.o = b.o ∧ a.r.d = b.r.d ∧ a.r.i = b.r.i ∧ a.r.b = b.r.b ∧ a.r.t = b.r.t ∧ a.r.m = b.r.m ∧ a.r.p = b.r.p ∧ a.r.c = b.r.c ∧ a.r.s = b.r.s ∧ a.r.k = b.r.k ∧ a.f = b.f)
theorem toList_iffD {a b : ByteArray} : a.toList = b.toList ↔ a = b := ⟨fun h => by
  by_cases e : a = b
  · exact e
  · exact absurd h (ne_list e), fun h => by rw [h]⟩
theorem mbEq_iff {a b : Mb} : mbEq a b = true ↔ a = b := by
  unfold mbEq
  rw [decide_eq_true_iff]
  obtain ⟨_, _, _, _, _, _, ⟨_, _, _, _, _, _, _, _, _⟩, _⟩ := a
  obtain ⟨_, _, _, _, _, _, ⟨_, _, _, _, _, _, _, _, _⟩, _⟩ := b
  simp only [Mb.mk.injEq, Rp.mk.injEq]
  constructor
  · rintro ⟨h1, h2, h3, h4, h5, h6, h7, h8, h9, h10, h11, h12, h13, h14, h15, h16⟩
    exact ⟨h1, h2, h3, h4, h5, h6, ⟨h7, h8, h9, h10, h11, h12, h13, h14, h15⟩, h16⟩
  · rintro ⟨h1, h2, h3, h4, h5, h6, ⟨h7, h8, h9, h10, h11, h12, h13, h14, h15⟩, h16⟩
    exact ⟨h1, h2, h3, h4, h5, h6, h7, h8, h9, h10, h11, h12, h13, h14, h15, h16⟩
set_option maxRecDepth 100000 in
set_option maxHeartbeats 8000000 in
theorem run_eqMb (a b : Mb) (w : World) : (Op.equalIn 10000 39 (.agg #[.int .i64 a.d, .int .i64 a.i, .bool a.w, .int .i64 a.n, .int .i64 a.l, .int .i64 a.o, .int .i64 a.r.d, .int .i64 a.r.i, .int .i64 a.r.b, .int .i64 a.r.t, .int .i64 a.r.m, .int .i64 a.r.p, .int .i64 a.r.c, .int .i64 a.r.s, .int .i64 a.r.k, .string a.f]) (.agg #[.int .i64 b.d, .int .i64 b.i, .bool b.w, .int .i64 b.n, .int .i64 b.l, .int .i64 b.o, .int .i64 b.r.d, .int .i64 b.r.i, .int .i64 b.r.b, .int .i64 b.r.t, .int .i64 b.r.m, .int .i64 b.r.p, .int .i64 b.r.c, .int .i64 b.r.s, .int .i64 b.r.k, .string b.f])).run Try.prog w = .ok (mbEq a b) w := by
  obtain ⟨a1, a2, a3, a4, a5, a6, ⟨a7, a8, a9, a10, a11, a12, a13, a14, a15⟩, a16⟩ := a
  obtain ⟨b1, b2, b3, b4, b5, b6, ⟨b7, b8, b9, b10, b11, b12, b13, b14, b15⟩, b16⟩ := b
  dsimp only
  by_cases h : a1 = b1 ∧ a2 = b2 ∧ a3 = b3 ∧ a4 = b4 ∧ a5 = b5 ∧ a6 = b6 ∧ a7 = b7 ∧ a8 = b8 ∧ a9 = b9 ∧ a10 = b10 ∧ a11 = b11 ∧ a12 = b12 ∧ a13 = b13 ∧ a14 = b14 ∧ a15 = b15 ∧ a16 = b16
  · have hm : mbEq ⟨a1, a2, a3, a4, a5, a6, ⟨a7, a8, a9, a10, a11, a12, a13, a14, a15⟩, a16⟩ ⟨b1, b2, b3, b4, b5, b6, ⟨b7, b8, b9, b10, b11, b12, b13, b14, b15⟩, b16⟩ = true := decide_eq_true h
    rw [hm]
    obtain ⟨rfl, rfl, rfl, rfl, rfl, rfl, rfl, rfl, rfl, rfl, rfl, rfl, rfl, rfl, rfl, rfl⟩ := h
    clear hm
    go_simp
  · have hm : mbEq ⟨a1, a2, a3, a4, a5, a6, ⟨a7, a8, a9, a10, a11, a12, a13, a14, a15⟩, a16⟩ ⟨b1, b2, b3, b4, b5, b6, ⟨b7, b8, b9, b10, b11, b12, b13, b14, b15⟩, b16⟩ = false := decide_eq_false h
    rw [hm]
    clear hm
    go_simp
    exact fun h1 h2 h3 h4 h5 h6 h7 h8 h9 h10 h11 h12 h13 h14 h15 h16 => h ⟨h1, h2, h3, h4, h5, h6, h7, h8, h9, h10, h11, h12, h13, h14, h15, toList_iffD.1 h16⟩
set_option maxRecDepth 100000 in
set_option maxHeartbeats 4000000 in
theorem sameMb_iff (A1 A2 : Option Addr) (c1 c2 : Nat) (l m : List Mb) (w : World) (hl : l.length ≤ 50000) (hm : m.length ≤ 50000) (h1 : mbE.Sl w A1 l) (h2 : mbE.Sl w A2 m) :
    Calls Try.prog 22 #[.slice A1 l.length c1, .slice A2 m.length c2] w fun e w' => ∃ b, e = .returned (.bool b) ∧ (b = true ↔ l = m) ∧ Below w.heap.size w w' := by
  by_cases hlen : l.length = m.length
  · rw [← hlen]
    have HL := Lib.hid hlen
    clear hlen
    go_enter Try.func22, Try.ntmps22
    go_wp2
    go_loopw [5] (fun x wr => ∃ k : Nat, k ≤ l.length ∧ x = .int .i64 k ∧ (∀ j (hj : j < k) (ha : j < l.length) (hb : j < m.length), l[j] = m[j]) ∧ Below w.heap.size w wr) (fun x _ => l.length - (intOf x).toNat)
    case atStart => exact ⟨0, Nat.zero_le _, rfl, fun j hj => by omega, Below.refl _ _⟩
    case round =>
      obtain ⟨k, hk, rfl, hall, hnx⟩ := hrel
      by_cases hlt : k < l.length
      · obtain ⟨b1, o1, hA1, hw1, hc1⟩ := h1 (by omega)
        have hlt2 : k < m.length := by have := HL.out; omega
        obtain ⟨b2, o2, hA2, hw2, hc2⟩ := h2 (by omega)
        have hat : mbE.At wr b1 (o1 + k * 16) l[k] := (hc1 k hlt).below hnx hw1
        have hat2 : mbE.At wr b2 (o2 + k * 16) m[k] := (hc2 k hlt2).below hnx hw2
        obtain ⟨p, hp⟩ : ∃ p, l[k] = p := ⟨_, rfl⟩
        obtain ⟨q, hq⟩ : ∃ q, m[k] = q := ⟨_, rfl⟩
        rw [hp] at hat
        rw [hq] at hat2
        have HP := Lib.hid hp
        have HQ := Lib.hid hq
        have HA := Lib.hid hall
        obtain ⟨s0, s1, s2, s3, s4, s5, s6, s7, s8, s9, s10, s11, s12, s13, s14, s15⟩ := mbAt16 hat
        obtain ⟨t0, t1, t2, t3, t4, t5, t6, t7, t8, t9, t10, t11, t12, t13, t14, t15⟩ := mbAt16 hat2
        clear hc1 hc2 hp hq h1 h2 hall hat hat2
        subst hA1 hA2
        have hrun := fun w => run_eqMb p q w
        have hiff := @mbEq_iff p q
        cases heq : mbEq p q with
        | true =>
          have HE := Lib.hid (hiff.1 heq)
          rw [heq] at hrun
          clear hiff heq
          go_wp2
          go_quiet (fail)
          go_wp2
          go_roundw
          case rel =>
            refine ⟨k + 1, by omega, by go_num, fun j hj ha hb => ?_, below_drew hnx _⟩
            by_cases e : j = k
            · subst e; rw [HP.out, HQ.out]; exact HE.out
            · exact HA.out j (by omega) ha hb
          case measure => simp [intOf]; omega
        | false =>
          have HN := Lib.hid (show ¬ p = q from fun e => by rw [hiff.2 e] at heq; cases heq)
          rw [heq] at hrun
          clear hiff heq
          go_wp2
          go_quiet (fail)
          go_wp2
          go_ret
          refine ⟨false, rfl, ⟨fun h => (by cases h), fun h => ?_⟩, below_drew hnx _⟩
          subst h
          exact absurd (HP.out.symm.trans HQ.out) HN.out
      · obtain rfl : k = l.length := by omega
        have HE := Lib.hid (show l = m from List.ext_getElem HL.out fun j h1 h2 => hall j h1 h1 h2)
        clear hall
        go_wp2
        go_ret
        exact ⟨true, rfl, ⟨fun _ => HE.out, fun _ => rfl⟩, hnx⟩
  · have hd : ((l.length : Int) == (m.length : Int)) = false := by rw [beq_eq_false_iff_ne]; omega
    go_enter Try.func22, Try.ntmps22
    go_wp2
    go_ret
    exact ⟨false, rfl, ⟨fun h => (by cases h), fun h => absurd (by rw [h]) hlen⟩, Below.refl _ _⟩
end Go.Proofs.Ytjjjpifdmgpnjaa

/- Members: whole, awake. -/
namespace Go.Proofs.Ytjjjpifdmgpnjaa
open Go.RowKit Cod

def sumF : List Mb → Nat
  | [] => 0
  | m :: l => m.f.size + sumF l
theorem sumF_take (l : List Mb) (k : Nat) (h : k < l.length) : sumF (l.take (k + 1)) = sumF (l.take k) + l[k].f.size := by
  induction l generalizing k with
  | nil => exact absurd h (Nat.not_lt_zero _)
  | cons a l ih =>
    cases k with
    | zero => simp [sumF]
    | succ k =>
      rw [List.length_cons] at h
      have := ih k (by omega)
      simp only [List.take_succ_cons, sumF, List.getElem_cons_succ]
      omega
theorem sumF_mem {l : List Mb} {m : Mb} (h : m ∈ l) : m.f.size ≤ sumF l := by
  induction l with
  | nil => cases h
  | cons a l ih =>
    rw [sumF]
    rcases List.mem_cons.1 h with rfl | h
    · omega
    · have := ih h; omega
set_option maxRecDepth 100000 in
set_option maxHeartbeats 4000000 in
theorem whole16_any (A : Option Addr) (c : Nat) (l : List Mb) (w : World) (hl : l.length ≤ 140737488355328) (hT : mbE.Sl w A l) (hw : ∀ m ∈ l, m.f.size ≤ 9223372036854775807) : Calls Try.prog 8 #[.slice A l.length c] w fun e w' => ∃ bv : Bool, e = .returned (.bool bv) ∧ Hid (bv = true → l.length ≤ 40 ∧ sumF l ≤ 3000) ∧ Below w.heap.size w w' := by
  have hB := Below.refl w.heap.size w
  have HT := Lib.hid hT
  have HW := Lib.hid hw
  have HS0 := Lib.hid (show sumF (l.take 0) = 0 by rw [List.take_zero]; rfl)
  clear hT hw
  go_enter Try.func8, Try.ntmps8
  go_wp2_with fail
  go_loopw [3, 4] (fun p y wr => ∃ k n : Nat, k ≤ l.length ∧ y = .int .i64 k ∧ p = .int .i64 n ∧ n ≤ 3000 ∧ Hid (sumF (l.take k) = n) ∧ Below w.heap.size w wr) (fun _ y _ => l.length - (intOf y).toNat)
  case atStart => exact ⟨0, 0, Nat.zero_le _, rfl, rfl, Nat.zero_le _, HS0, hB⟩
  case round =>
    clear hB HS0
    obtain ⟨k, n, hk, rfl, rfl, hn, HS, hB⟩ := hrel
    by_cases hkl : k < l.length
    · obtain ⟨b, off, eA, hbw, hc⟩ := HT.out (by omega)
      have hx := mbIdx (cap := c) eA hkl
      have hat : mbE.At wr b (off + k * 16) l[k] := (hc k hkl).below hB hbw
      have hsz := HW.out l[k] (List.getElem_mem _)
      have HNX := Lib.hid (sumF_take l k hkl)
      generalize l[k] = x at *
      obtain ⟨_, _, _, _, _, _, _, _, _, _, _, _, _, _, _, h15⟩ := mbAt16 hat
      have hs : IntKind.i64.wrap (3000 - (n : Int)) = 3000 - (n : Int) := by rw [IntKind.wrap_i64]; omega
      clear hc eA hat
      by_cases hb : 3000 - (n : Int) < (x.f.size : Int)
      · have f1 : decide (3000 - (n : Int) < (x.f.size : Int)) = true := decide_eq_true hb
        clear hb
        go_wp2_with fail
        go_ret
        exact ⟨false, rfl, Lib.hid (fun h => by cases h), hB⟩
      · have f1 : decide (3000 - (n : Int) < (x.f.size : Int)) = false := decide_eq_false hb
        have hs2 : IntKind.i64.wrap ((n : Int) + (x.f.size : Int)) = ((n + x.f.size : Nat) : Int) := by rw [IntKind.wrap_i64]; omega
        have HSN := Lib.hid (show sumF (l.take (k + 1)) = n + x.f.size by rw [HNX.out, HS.out])
        have hn2 : n + x.f.size ≤ 3000 := by omega
        clear hb hn
        go_wp2_with fail
        exact ⟨⟨k + 1, n + x.f.size, by omega, by go_num, by go_num, hn2, HSN, hB⟩, by simp [intOf]; omega⟩
    · obtain rfl : k = l.length := by omega
      have HN := Lib.hid (show sumF l ≤ 3000 by have h := HS.out; rw [List.take_length] at h; omega)
      by_cases h4 : l.length ≤ 40
      · have f1 : decide ((l.length : Int) ≤ 40) = true := decide_eq_true (by omega)
        have f2 : decide (l.length ≤ 40) = true := decide_eq_true h4
        have H4 := Lib.hid h4
        clear h4
        go_wp2_with fail
        go_ret
        exact ⟨_, rfl, Lib.hid (fun _ => ⟨H4.out, HN.out⟩), hB⟩
      · have f1 : decide ((l.length : Int) ≤ 40) = false := decide_eq_false (by omega)
        have f2 : decide (l.length ≤ 40) = false := decide_eq_false h4
        clear h4
        go_wp2_with fail
        go_ret
        exact ⟨false, rfl, Lib.hid (fun h => by cases h), hB⟩

theorem rowCell16 (w : World) (vs : Array Value) (T : TypeId) (j : Nat) : (w.alloc (.cells vs T)).cell? ⟨w.heap.size, j, none⟩ = vs[j]? := cell_of_row (w.alloc (.cells vs T)) w.heap.size j vs T (0, 0) (heap_alloc_new w _)
theorem rowInts16 (w : World) (l : List Int) (T : TypeId) (vs : Array Value) (h : vs = (l.map fun n => (Value.int .i64 n)).toArray) (j : Nat) (hj : j < l.length) : (w.alloc (.cells vs T)).cell? ⟨w.heap.size, j, none⟩ = some (.int .i64 l[j]) := by
  subst h
  rw [rowCell16]
  simp [hj]
theorem SlV.keepD {w : World} {A : Option Addr} {c : Nat} {l : List Mb} {b o : Nat} (h : SlV mbE w A c l) (n i : Nat) (v : Value) (hne : n ≠ b) (hA : A = some ⟨b, o, none⟩ := by rfl) : SlV mbE (w.setCell ⟨n, i, none⟩ v) A c l :=
  ⟨h.1.keep (by_cellG w n i v) (fun a e e2 => by
    rw [hA] at e
    have e3 := Option.some.inj e
    subst e3
    exact hne (Option.some.inj e2).symm), h.2⟩
/-- The example's members. -/
def exA : Mb := ⟨2, 1, true, 2, 8, 0, ⟨2, 1, 0, 0, 1, 5, 9, 2, 0⟩, ⟨#[]⟩⟩
def exB : Mb := ⟨3, 1, false, 0, 0, 0, ⟨3, 1, 0, 0, 1, 0, 0, 0, 0⟩, ⟨#[]⟩⟩
theorem mbIdx0 {b off len cap : Nat} (h : 0 < len) : ∀ w, (Instr.indexAt 22 (.slice (some ⟨b, off, none⟩) len cap) (.int .i64 0)).run Try.prog w = .ok (.pointer (some ⟨b, off, none⟩)) w := fun w => by
  have h2 := mbIdx (A := some ⟨b, off, none⟩) (cap := cap) rfl h w
  simpa using h2
theorem mbIdx1 {b off len cap : Nat} (h : 1 < len) : ∀ w, (Instr.indexAt 22 (.slice (some ⟨b, off, none⟩) len cap) (.int .i64 1)).run Try.prog w = .ok (.pointer (some ⟨b, off + 16, none⟩)) w := fun w => by
  have h2 := mbIdx (A := some ⟨b, off, none⟩) (cap := cap) rfl h w
  simpa using h2
theorem exAB_wide : ∀ m ∈ [exA, exB], MbW m := fun m hm => by
  simp only [List.mem_cons, List.not_mem_nil, or_false] at hm
  rcases hm with rfl | rfl
  · exact ⟨by unfold i64; decide, by unfold i64; decide, by unfold i64; decide, by unfold i64; decide, by unfold i64; decide, fun n hn => by
      simp only [rpL, exA, List.mem_cons, List.not_mem_nil, or_false] at hn
      unfold i64; omega, by decide⟩
  · exact ⟨by unfold i64; decide, by unfold i64; decide, by unfold i64; decide, by unfold i64; decide, by unfold i64; decide, fun n hn => by
      simp only [rpL, exB, List.mem_cons, List.not_mem_nil, or_false] at hn
      unfold i64; omega, by decide⟩
theorem slInts16 (w : World) (l : List Int) (vs : Array Value) (h : vs = (l.map fun n => (Value.int .i64 n)).toArray) (n : Nat) (hn : n = l.length) (h0 : 0 < n) : SlV inE (w.alloc (.cells vs 3)) (some ⟨w.heap.size, 0, none⟩) n l := ⟨fun _ => ⟨w.heap.size, 0, rfl, by rw [alloc_size]; omega, fun j hj => by
    have h1 := rowInts16 w l 3 vs h j hj
    intro i u hu
    cases i with
    | zero =>
      rw [Nat.zero_add, show inE.k = 1 from rfl, Nat.mul_one, Nat.add_zero, h1]
      exact hu
    | succ i => simp [inE] at hu⟩, (fun e => by cases e), by omega⟩
theorem ints4 (w : World) : SlV inE (w.alloc (.cells #[.int .i64 0, .int .i64 0, .int .i64 5, .int .i64 0] 3)) (some ⟨w.heap.size, 0, none⟩) 4 [0, 0, 5, 0] := slInts16 w [0, 0, 5, 0] _ rfl 4 rfl (by decide)
set_option maxRecDepth 100000 in
set_option maxHeartbeats 8000000 in
theorem awake16_any (H : RosterCalls) (w : World) : Calls Try.prog 9 #[] w fun e w' => e = .returned (.bool true) ∧ Below w.heap.size w w' := by
  have hT0 : SlV inE (w.alloc (.cells #[.int .i64 2, .int .i64 3] 3)) (some ⟨w.heap.size, 0, none⟩) 2 [2, 3] := slInts16 w [2, 3] _ rfl 2 rfl (by decide)
  have hB := below_alloc (Below.refl w.heap.size w) (.cells #[.int .i64 2, .int .i64 3] 3)
  have C0 := Lib.hid (show Calls Try.prog 23 #[.slice (some ⟨w.heap.size, 0, none⟩) 2 2] (w.alloc (.cells #[.int .i64 2, .int .i64 3] 3)) fun e w' => ∃ (A' : Option Addr) (c' : Nat), e = .returned (.slice A' 2 c') ∧ SlV mbE w' A' c' [newMb 2, newMb 3] ∧ Below (w.alloc (.cells #[.int .i64 2, .int .i64 3] 3)).heap.size (w.alloc (.cells #[.int .i64 2, .int .i64 3] 3)) w' from H.new _ 2 [2, 3] _ (by decide) hT0)
  clear hT0
  go_enter Try.func9, Try.ntmps9
  go_wp2_with fail
  refine C0.out.mono ?_
  rintro e w1 ⟨A1, c1, rfl, hS1, hb1⟩
  replace hB := below_then hB hb1
  clear hb1 C0
  obtain ⟨b1, o1, rfl, hbw1, hc1⟩ := hS1.1 (by decide)
  have hat0 : mbE.At w1 b1 o1 (newMb 2) := by have h := hc1 0 (by decide); simpa using h
  have hx0 := mbIdx0 (b := b1) (off := o1) (cap := c1) (show 0 < 2 by decide)
  have hE : mbE.In (w1.alloc (.cells #[.int .i64 2, .int .i64 1, .bool true, .int .i64 0, .int .i64 0, .int .i64 0, .int .i64 2, .int .i64 1, .int .i64 0, .int .i64 0, .int .i64 1, .int .i64 0, .int .i64 0, .int .i64 0, .int .i64 0, .string ⟨#[]⟩] 39)) w1.heap.size (newMb 2) := El.In.new (E := mbE) w1 (newMb 2) #[.int .i64 2, .int .i64 1, .bool true, .int .i64 0, .int .i64 0, .int .i64 0, .int .i64 2, .int .i64 1, .int .i64 0, .int .i64 0, .int .i64 1, .int .i64 0, .int .i64 0, .int .i64 0, .int .i64 0, .string ⟨#[]⟩] rfl
  go_upto_region 5 with (first | (refine El.load mbRow rfl _ rfl b1 o1 rfl (newMb 2) hat0 #[.int .i64 2, .int .i64 1, .bool true, .int .i64 0, .int .i64 0, .int .i64 0, .int .i64 2, .int .i64 1, .int .i64 0, .int .i64 0, .int .i64 1, .int .i64 0, .int .i64 0, .int .i64 0, .int .i64 0, .string ⟨#[]⟩] rfl ?_) | fail)
  have hal := below_alloc (Below.refl w1.heap.size w1) (.cells #[.int .i64 2, .int .i64 1, .bool true, .int .i64 0, .int .i64 0, .int .i64 0, .int .i64 2, .int .i64 1, .int .i64 0, .int .i64 0, .int .i64 1, .int .i64 0, .int .i64 0, .int .i64 0, .int .i64 0, .string ⟨#[]⟩] 39)
  have hw1 := hB.size
  replace hS1 := SlV.below hS1 hal
  replace hB := below_then hB hal
  clear hal hat0 hx0 hc1
  generalize w1.alloc (.cells #[.int .i64 2, .int .i64 1, .bool true, .int .i64 0, .int .i64 0, .int .i64 0, .int .i64 2, .int .i64 1, .int .i64 0, .int .i64 0, .int .i64 1, .int .i64 0, .int .i64 0, .int .i64 0, .int .i64 0, .string ⟨#[]⟩] 39) = V at *
  have hbV : b1 < V.heap.size := by obtain ⟨b, o, e, hb, _⟩ := hS1.1 (by decide); cases e; exact hb
  have hnb : w1.heap.size ≠ b1 := by omega
  generalize w1.heap.size = n at *
  have kc11 : V.cell? ⟨n, 11, none⟩ = some (.int .i64 0) := hE.cell 11
  have kc12 : V.cell? ⟨n, 12, none⟩ = some (.int .i64 0) := hE.cell 12
  have kc3 : V.cell? ⟨n, 3, none⟩ = some (.int .i64 0) := hE.cell 3
  have kc13 : V.cell? ⟨n, 13, none⟩ = some (.int .i64 0) := hE.cell 13
  have kc4 : V.cell? ⟨n, 4, none⟩ = some (.int .i64 0) := hE.cell 4
  have kf := hE.frozen
  have hF : mbE.In (((((V.setCell ⟨n, 11, none⟩ (.int .i64 5)).setCell ⟨n, 12, none⟩ (.int .i64 9)).setCell ⟨n, 3, none⟩ (.int .i64 2)).setCell ⟨n, 13, none⟩ (.int .i64 2)).setCell ⟨n, 4, none⟩ (.int .i64 8)) n exA :=
    (((((hE.put ⟨2, 1, true, 0, 0, 0, ⟨2, 1, 0, 0, 1, 5, 0, 0, 0⟩, ⟨#[]⟩⟩ 11 _ rfl).put ⟨2, 1, true, 0, 0, 0, ⟨2, 1, 0, 0, 1, 5, 9, 0, 0⟩, ⟨#[]⟩⟩ 12 _ rfl).put ⟨2, 1, true, 2, 0, 0, ⟨2, 1, 0, 0, 1, 5, 9, 0, 0⟩, ⟨#[]⟩⟩ 3 _ rfl).put ⟨2, 1, true, 2, 0, 0, ⟨2, 1, 0, 0, 1, 5, 9, 2, 0⟩, ⟨#[]⟩⟩ 13 _ rfl).put exA 4 _ rfl)
  have hSF := SlV.keepD (SlV.keepD (SlV.keepD (SlV.keepD (SlV.keepD hS1 n 11 (.int .i64 5) hnb) n 12 (.int .i64 9) hnb) n 3 (.int .i64 2) hnb) n 13 (.int .i64 2) hnb) n 4 (.int .i64 8) hnb
  have hBF := Below.setCell (Below.setCell (Below.setCell (Below.setCell (Below.setCell hB (p := ⟨n, 11, none⟩) hw1 (.int .i64 5)) (p := ⟨n, 12, none⟩) hw1 (.int .i64 9)) (p := ⟨n, 3, none⟩) hw1 (.int .i64 2)) (p := ⟨n, 13, none⟩) hw1 (.int .i64 2)) (p := ⟨n, 4, none⟩) hw1 (.int .i64 8)
  clear hS1 hB hE
  go_upto_region 6 with fail
  clear kc11 kc12 kc3 kc13 kc4 kf
  generalize ((((V.setCell ⟨n, 11, none⟩ (.int .i64 5)).setCell ⟨n, 12, none⟩ (.int .i64 9)).setCell ⟨n, 3, none⟩ (.int .i64 2)).setCell ⟨n, 13, none⟩ (.int .i64 2)).setCell ⟨n, 4, none⟩ (.int .i64 8) = W1 at *
  have C1 := Lib.hid (show Calls Try.prog 25 #[.slice (some ⟨b1, o1, none⟩) 2 c1, .agg #[.int .i64 2, .int .i64 1, .bool true, .int .i64 2, .int .i64 8, .int .i64 0, .int .i64 2, .int .i64 1, .int .i64 0, .int .i64 0, .int .i64 1, .int .i64 5, .int .i64 9, .int .i64 2, .int .i64 0, .string ⟨#[]⟩]] W1 fun e w' => ∃ (A' : Option Addr) (c' : Nat), e = .returned (.slice A' 2 c') ∧ SlV mbE w' A' c' [exA, newMb 3] ∧ Below W1.heap.size W1 w' from H.put _ c1 [newMb 2, newMb 3] exA _ (by decide) hSF)
  go_wp2_with (first | (refine El.load mbRow rfl _ rfl n 0 rfl exA hF.at #[.int .i64 2, .int .i64 1, .bool true, .int .i64 2, .int .i64 8, .int .i64 0, .int .i64 2, .int .i64 1, .int .i64 0, .int .i64 0, .int .i64 1, .int .i64 5, .int .i64 9, .int .i64 2, .int .i64 0, .string ⟨#[]⟩] rfl ?_) | fail)
  refine C1.out.mono ?_
  rintro e w2 ⟨A2, c2, rfl, hS2, hb2⟩
  replace hB := below_then hBF hb2
  clear hb2 C1 hSF hF hBF
  have C2 := Lib.hid (fun wx (hb : Below w2.heap.size w2 wx) => (show Calls Try.prog 14 #[.slice A2 2 c2, .int .i64 7] wx fun e w' => e = .returned (.int .i64 0) ∧ Below wx.heap.size wx w' from H.stable A2 c2 [exA, newMb 3] 7 wx (by decide) (SlV.below hS2 hb)))
  have C3 := Lib.hid (fun wx (hb : Below w2.heap.size w2 wx) => (show Calls Try.prog 16 #[.slice A2 2 c2, .int .i64 20, .int .i64 30] wx fun e w' => e = .returned (.int .i64 0) ∧ Below wx.heap.size wx w' from H.counter A2 c2 [exA, newMb 3] 20 30 wx (by decide) (SlV.below hS2 hb) (by decide) (by decide)))
  go_wp2_with fail
  refine (C2.out _ (Below.refl _ _)).mono ?_
  rintro e w3 ⟨rfl, hb3⟩
  replace hB := below_then hB hb3
  go_wp2_with fail
  refine (C3.out _ hb3).mono ?_
  rintro e w4 ⟨rfl, hb4⟩
  replace hB := below_then hB hb4
  replace hS2 := SlV.below (SlV.below hS2 hb3) hb4
  clear hb3 hb4 C2 C3
  obtain ⟨b2, o2, rfl, hbw2, hc2⟩ := hS2.1 (by decide)
  have hat1 : mbE.At w4 b2 (o2 + 16) (newMb 3) := by have h : mbE.At w4 b2 (o2 + 1 * 16) (newMb 3) := hc2 1 (by decide); simpa using h
  have hx1 := mbIdx1 (b := b2) (off := o2) (cap := c2) (show 1 < 2 by decide)
  have hE : mbE.In (w4.alloc (.cells #[.int .i64 3, .int .i64 1, .bool true, .int .i64 0, .int .i64 0, .int .i64 0, .int .i64 3, .int .i64 1, .int .i64 0, .int .i64 0, .int .i64 1, .int .i64 0, .int .i64 0, .int .i64 0, .int .i64 0, .string ⟨#[]⟩] 39)) w4.heap.size (newMb 3) := El.In.new (E := mbE) w4 (newMb 3) #[.int .i64 3, .int .i64 1, .bool true, .int .i64 0, .int .i64 0, .int .i64 0, .int .i64 3, .int .i64 1, .int .i64 0, .int .i64 0, .int .i64 1, .int .i64 0, .int .i64 0, .int .i64 0, .int .i64 0, .string ⟨#[]⟩] rfl
  go_upto_region 11 with (first | (refine El.load mbRow rfl _ rfl b2 (o2 + 16) rfl (newMb 3) hat1 #[.int .i64 3, .int .i64 1, .bool true, .int .i64 0, .int .i64 0, .int .i64 0, .int .i64 3, .int .i64 1, .int .i64 0, .int .i64 0, .int .i64 1, .int .i64 0, .int .i64 0, .int .i64 0, .int .i64 0, .string ⟨#[]⟩] rfl ?_) | fail)
  have hal := below_alloc (Below.refl w4.heap.size w4) (.cells #[.int .i64 3, .int .i64 1, .bool true, .int .i64 0, .int .i64 0, .int .i64 0, .int .i64 3, .int .i64 1, .int .i64 0, .int .i64 0, .int .i64 1, .int .i64 0, .int .i64 0, .int .i64 0, .int .i64 0, .string ⟨#[]⟩] 39)
  have hw1 := hB.size
  replace hS2 := SlV.below hS2 hal
  replace hB := below_then hB hal
  clear hal hat1 hx1 hc2
  generalize w4.alloc (.cells #[.int .i64 3, .int .i64 1, .bool true, .int .i64 0, .int .i64 0, .int .i64 0, .int .i64 3, .int .i64 1, .int .i64 0, .int .i64 0, .int .i64 1, .int .i64 0, .int .i64 0, .int .i64 0, .int .i64 0, .string ⟨#[]⟩] 39) = V at *
  have hnb : w4.heap.size ≠ b2 := by omega
  generalize w4.heap.size = n at *
  have kc2 : V.cell? ⟨n, 2, none⟩ = some (.bool true) := hE.cell 2
  have kf := hE.frozen
  have hF : mbE.In (V.setCell ⟨n, 2, none⟩ (.bool false)) n exB := hE.put exB 2 _ rfl
  have hSF := SlV.keepD hS2 n 2 (.bool false) hnb
  have hBF := Below.setCell hB (p := ⟨n, 2, none⟩) hw1 (.bool false)
  clear hS2 hB hE
  go_upto_region 12 with fail
  clear kc2 kf
  generalize V.setCell ⟨n, 2, none⟩ (.bool false) = W2 at *
  have C1 := Lib.hid (show Calls Try.prog 25 #[.slice (some ⟨b2, o2, none⟩) 2 c2, .agg #[.int .i64 3, .int .i64 1, .bool false, .int .i64 0, .int .i64 0, .int .i64 0, .int .i64 3, .int .i64 1, .int .i64 0, .int .i64 0, .int .i64 1, .int .i64 0, .int .i64 0, .int .i64 0, .int .i64 0, .string ⟨#[]⟩]] W2 fun e w' => ∃ (A' : Option Addr) (c' : Nat), e = .returned (.slice A' 2 c') ∧ SlV mbE w' A' c' [exA, exB] ∧ Below W2.heap.size W2 w' from H.put _ c2 [exA, newMb 3] exB _ (by decide) hSF)
  go_wp2_with (first | (refine El.load mbRow rfl _ rfl n 0 rfl exB hF.at #[.int .i64 3, .int .i64 1, .bool false, .int .i64 0, .int .i64 0, .int .i64 0, .int .i64 3, .int .i64 1, .int .i64 0, .int .i64 0, .int .i64 1, .int .i64 0, .int .i64 0, .int .i64 0, .int .i64 0, .string ⟨#[]⟩] rfl ?_) | fail)
  refine C1.out.mono ?_
  rintro e w5 ⟨A5, c5, rfl, hS5, hb5⟩
  replace hB := below_then hBF hb5
  clear hb5 C1 hSF hF hBF
  have D1 := Lib.hid (fun wx (hb : Below w5.heap.size w5 wx) => (show Calls Try.prog 14 #[.slice A5 2 c5, .int .i64 7] wx fun e w' => e = .returned (.int .i64 5) ∧ Below wx.heap.size wx w' from H.stable A5 c5 [exA, exB] 7 wx (by decide) (SlV.below hS5 hb)))
  have D2 := Lib.hid (fun wx (hb : Below w5.heap.size w5 wx) => (show Calls Try.prog 16 #[.slice A5 2 c5, .int .i64 20, .int .i64 30] wx fun e w' => e = .returned (.int .i64 9) ∧ Below wx.heap.size wx w' from H.counter A5 c5 [exA, exB] 20 30 wx (by decide) (SlV.below hS5 hb) (by decide) (by decide)))
  have D3 := Lib.hid (fun wx (hb : Below w5.heap.size w5 wx) => (show Calls Try.prog 16 #[.slice A5 2 c5, .int .i64 20, .int .i64 4] wx fun e w' => e = .returned (.int .i64 3) ∧ Below wx.heap.size wx w' from H.counter A5 c5 [exA, exB] 20 4 wx (by decide) (SlV.below hS5 hb) (by decide) (by decide)))
  have D4 := Lib.hid (fun wx (hb : Below w5.heap.size w5 wx) => (show Calls Try.prog 12 #[.slice A5 2 c5, .int .i64 3] wx fun e w' => e = .returned (.int .i64 1) ∧ Below wx.heap.size wx w' from H.find A5 c5 [exA, exB] 3 wx (by decide) (SlV.below hS5 hb)))
  have D5 := Lib.hid (fun wx (hb : Below w5.heap.size w5 wx) => (show Calls Try.prog 12 #[.slice A5 2 c5, .int .i64 4] wx fun e w' => e = .returned (.int .i64 (-1)) ∧ Below wx.heap.size wx w' from H.find A5 c5 [exA, exB] 4 wx (by decide) (SlV.below hS5 hb)))
  have D7 := Lib.hid (fun wx (hb : Below w5.heap.size w5 wx) => (show Calls Try.prog 10 #[.slice A5 2 c5] wx fun e w' => e = .returned (.bool true) ∧ Below wx.heap.size wx w' from H.right A5 c5 [exA, exB] wx (by decide) (SlV.below hS5 hb) exAB_wide))
  have D6 := Lib.hid (fun wx (hb : Below w5.heap.size w5 wx) => (show Calls Try.prog 20 #[.slice A5 2 c5, .slice (some ⟨wx.heap.size, 0, none⟩) 4 4, .int .i64 16, .int .i64 10] (wx.alloc (.cells #[.int .i64 0, .int .i64 0, .int .i64 5, .int .i64 0] 3)) fun e w' => (∃ (A' : Option Addr) (c' : Nat), e = .returned (.slice A' 1 c') ∧ True) ∧ Below wx.heap.size wx w' from
    (H.overdue A5 _ c5 4 [exA, exB] [0, 0, 5, 0] 16 10 _ (by decide) (by decide) (SlV.below hS5 (below_alloc hb _)) (ints4 wx) (by decide) (by decide)).mono (by
      rintro e w' ⟨A', c', rfl, _, hb2⟩
      exact ⟨⟨A', c', rfl, trivial⟩, below_then (below_alloc (Below.refl _ _) _) hb2⟩)))
  have hb0 := Below.refl w5.heap.size w5
  clear hS5
  go_wp2_with fail
  refine (D1.out _ hb0).mono ?_
  rintro e w6 ⟨rfl, hb6⟩
  replace hb0 := below_then hb0 hb6
  clear hb6 D1
  go_wp2_with fail
  refine (D2.out _ hb0).mono ?_
  rintro e w7 ⟨rfl, hb6⟩
  replace hb0 := below_then hb0 hb6
  clear hb6 D2
  go_wp2_with fail
  refine (D3.out _ hb0).mono ?_
  rintro e w8 ⟨rfl, hb6⟩
  replace hb0 := below_then hb0 hb6
  clear hb6 D3
  go_wp2_with fail
  refine (D4.out _ hb0).mono ?_
  rintro e w9 ⟨rfl, hb6⟩
  replace hb0 := below_then hb0 hb6
  clear hb6 D4
  go_wp2_with fail
  refine (D5.out _ hb0).mono ?_
  rintro e w10 ⟨rfl, hb6⟩
  replace hb0 := below_then hb0 hb6
  clear hb6 D5
  go_wp2_with fail
  refine (D6.out _ hb0).mono ?_
  rintro e w11 ⟨⟨A6, c6, rfl, _⟩, hb6⟩
  replace hb0 := below_then hb0 hb6
  clear hb6 D6
  go_wp2_with fail
  refine (D7.out _ hb0).mono ?_
  rintro e w12 ⟨rfl, hb6⟩
  replace hb0 := below_then hb0 hb6
  go_wp2_with fail
  go_ret
  exact ⟨rfl, below_then hB hb0⟩
end Go.Proofs.Ytjjjpifdmgpnjaa

/- The document's Merge of reports. -/
namespace Go.Proofs.Ytjjjpifdmgpnjaa
open Go.RowKit Cod

theorem cutR_next {l : List Rp} {d : Int} {k : Nat} (hk : k ≤ cutR l d) (h : k < l.length) (hd : l[k].d < d) : k + 1 ≤ cutR l d := by
  rcases Nat.lt_or_ge k (cutR l d) with h1 | h1
  · exact h1
  · obtain rfl : k = cutR l d := by omega
    exact absurd hd (cutR_at l d h)
theorem cutR_here {l : List Rp} {d : Int} {k : Nat} (hk : k ≤ cutR l d) (h : k = l.length ∨ ∃ h : k < l.length, d ≤ l[k].d) : k = cutR l d := by
  rcases Nat.lt_or_ge k (cutR l d) with h1 | h1
  · rcases h with h | ⟨h, h2⟩
    · have := cutR_le l d; omega
    · have := cutR_lt l d k h h1; omega
  · omega
def RpS (n : Nat) (r : Rp) (w : World) : Prop := w.cell? ⟨n, 0, none⟩ = some (.int .i64 r.d) ∧ w.cell? ⟨n, 1, none⟩ = some (.int .i64 r.i) ∧ w.cell? ⟨n, 2, none⟩ = some (.int .i64 r.b) ∧ w.cell? ⟨n, 3, none⟩ = some (.int .i64 r.t) ∧ w.cell? ⟨n, 4, none⟩ = some (.int .i64 r.m) ∧ w.cell? ⟨n, 5, none⟩ = some (.int .i64 r.p) ∧ w.cell? ⟨n, 6, none⟩ = some (.int .i64 r.c) ∧ w.cell? ⟨n, 7, none⟩ = some (.int .i64 r.s) ∧ w.cell? ⟨n, 8, none⟩ = some (.int .i64 r.k)

end Go.Proofs.Ytjjjpifdmgpnjaa

/- Of law 14: awake, given the program's calls. -/
namespace Go.Proofs.Ytjjjpifdmgpnjaa
open Go.RowKit Cod

def Ra : Rp := ⟨2, 1, 3, 9, 1, 0, 0, 0, 0⟩
def Rb : Rp := ⟨2, 2, 1, 1, 2, 0, 0, 0, 0⟩
def Rx : Rp := ⟨1, 1, 0, 0, 1, 0, 0, 0, 0⟩
def Ry : Rp := ⟨0, 1, 0, 0, 0, 0, 0, 0, 0⟩
theorem ra_cells {w : World} {n : Nat} (h : rpE.In w n Ra) : (w.cell? ⟨n, 0, none⟩ = some (.int .i64 2) ∧ w.cell? ⟨n, 1, none⟩ = some (.int .i64 1) ∧ w.cell? ⟨n, 2, none⟩ = some (.int .i64 3) ∧ w.cell? ⟨n, 3, none⟩ = some (.int .i64 9) ∧ w.cell? ⟨n, 4, none⟩ = some (.int .i64 1) ∧ w.cell? ⟨n, 5, none⟩ = some (.int .i64 0) ∧ w.cell? ⟨n, 6, none⟩ = some (.int .i64 0) ∧ w.cell? ⟨n, 7, none⟩ = some (.int .i64 0) ∧ w.cell? ⟨n, 8, none⟩ = some (.int .i64 0)) := rpIn9 h
theorem rb_cells {w : World} {n : Nat} (h : rpE.In w n Rb) : (w.cell? ⟨n, 0, none⟩ = some (.int .i64 2) ∧ w.cell? ⟨n, 1, none⟩ = some (.int .i64 2) ∧ w.cell? ⟨n, 2, none⟩ = some (.int .i64 1) ∧ w.cell? ⟨n, 3, none⟩ = some (.int .i64 1) ∧ w.cell? ⟨n, 4, none⟩ = some (.int .i64 2) ∧ w.cell? ⟨n, 5, none⟩ = some (.int .i64 0) ∧ w.cell? ⟨n, 6, none⟩ = some (.int .i64 0) ∧ w.cell? ⟨n, 7, none⟩ = some (.int .i64 0) ∧ w.cell? ⟨n, 8, none⟩ = some (.int .i64 0)) := rpIn9 h
theorem x0_cell {w : World} {b o : Nat} (h : rpE.At w b o Rx) : w.cell? ⟨b, o, none⟩ = some (.int .i64 1) := (rpAt9 h).1
theorem x1_cell {w : World} {b o : Nat} (h : rpE.At w b (o + 9) Rb) : w.cell? ⟨b, o + 9 + 1, none⟩ = some (.int .i64 2) := (rpAt9 h).2.1
theorem ra_R : RpR Ra := rpB_iff.1 rfl
theorem ra_W : RpW Ra := ra_R.i64
theorem m1_eq : mergeR [] Ra = [Ra] := rfl
theorem m2_eq : mergeR [Ra] Rx = [Rx, Ra] := rfl
theorem m3_eq : mergeR [Rx, Ra] Rb = [Rx, Rb] := rfl
end Go.Proofs.Ytjjjpifdmgpnjaa

/- Reports among the arguments, opened. -/
namespace Go.Proofs.Ytjjjpifdmgpnjaa
open Go.ChangeShapes Go.WideShapes Go.ChangeAt Go.RowKit Go.Deep Cod

theorem cellsRp : Try.prog.cellsOf 37 = 9 := by kernel_rfl
set_option maxRecDepth 100000 in
theorem read_rp {H : Type} {enc : TypeId × Value → H} {W : World} {base : Nat} {sp : Nat → Bool} {held : Bool} {fuel : Nat} {cs : List Value} {x : DataW H × List MemPlace}
    (h : DataW.trod enc Try.prog W base sp held fuel 37 cs = some x) : ∃ r : Rp, cs = rpE.c r ∧ RpW r := by
  obtain ⟨xs, n, _, _, hl, hlen, hf⟩ := DataW.trod_struct Try.underlying37 h
  have hl9 : cs.length = 9 := hl.trans cellsRp
  have hl4 : xs.length = 9 := hlen
  match cs, hl9, xs, hl4 with
  | [c0, c1, c2, c3, c4, c5, c6, c7, c8], _, [y0, y1, y2, y3, y4, y5, y6, y7, y8], _ =>
    have h0 := hf 0 _ rfl
    have h1 := hf 1 _ rfl
    have h2 := hf 2 _ rfl
    have h3 := hf 3 _ rfl
    have h4 := hf 4 _ rfl
    have h5 := hf 5 _ rfl
    have h6 := hf 6 _ rfl
    have h7 := hf 7 _ rfl
    have h8 := hf 8 _ rfl
    simp [cells3] at h0 h1 h2 h3 h4 h5 h6 h7 h8
    obtain ⟨n0, e0, _, w0⟩ := DataW.trod_int Try.underlying3 h0
    obtain ⟨n1, e1, _, w1⟩ := DataW.trod_int Try.underlying3 h1
    obtain ⟨n2, e2, _, w2⟩ := DataW.trod_int Try.underlying3 h2
    obtain ⟨n3, e3, _, w3⟩ := DataW.trod_int Try.underlying3 h3
    obtain ⟨n4, e4, _, w4⟩ := DataW.trod_int Try.underlying3 h4
    obtain ⟨n5, e5, _, w5⟩ := DataW.trod_int Try.underlying3 h5
    obtain ⟨n6, e6, _, w6⟩ := DataW.trod_int Try.underlying3 h6
    obtain ⟨n7, e7, _, w7⟩ := DataW.trod_int Try.underlying3 h7
    obtain ⟨n8, e8, _, w8⟩ := DataW.trod_int Try.underlying3 h8
    simp at e0 e1 e2 e3 e4 e5 e6 e7 e8
    subst e0 e1 e2 e3 e4 e5 e6 e7 e8
    have b0 := bounds_i64 w0
    have b1 := bounds_i64 w1
    have b2 := bounds_i64 w2
    have b3 := bounds_i64 w3
    have b4 := bounds_i64 w4
    have b5 := bounds_i64 w5
    have b6 := bounds_i64 w6
    have b7 := bounds_i64 w7
    have b8 := bounds_i64 w8
    refine ⟨⟨n0, n1, n2, n3, n4, n5, n6, n7, n8⟩, rfl, fun n hn => ?_⟩
    simp only [rpL, List.mem_cons, List.not_mem_nil, or_false] at hn
    unfold i64
    rcases hn with rfl | rfl | rfl | rfl | rfl | rfl | rfl | rfl | rfl <;> omega
set_option maxRecDepth 100000 in
theorem open_rp {H : Type} {enc : TypeId × Value → H} {W : World} {base : Nat} {sp : Nat → Bool} {v : Value} {d : DataW H} {ps : List MemPlace}
    (hv : Value.okWide Try.prog W .any base 37 v) (h : DataW.Trod enc Try.prog W 0 sp true 37 v d ps) : ∃ r : Rp, v = .agg #[.int .i64 r.d, .int .i64 r.i, .int .i64 r.b, .int .i64 r.t, .int .i64 r.m, .int .i64 r.p, .int .i64 r.c, .int .i64 r.s, .int .i64 r.k] ∧ RpW r := by
  obtain ⟨cs, rfl, _⟩ := okWide_struct Try.underlying37 hv
  obtain ⟨fuel, hf⟩ := h
  obtain ⟨e, he, hw⟩ := read_rp hf
  refine ⟨e, ?_, hw⟩
  obtain ⟨l⟩ := cs
  simp [Value.cells] at he
  rw [he]
  rfl
instance : Inhabited Rp := ⟨zeroRp⟩
end Go.Proofs.Ytjjjpifdmgpnjaa

/- Members among the arguments, opened. -/
namespace Go.Proofs.Ytjjjpifdmgpnjaa
open Go.ChangeShapes Go.WideShapes Go.ChangeAt Go.RowKit Go.Deep Cod

theorem cellsMb : Try.prog.cellsOf 39 = 16 := by kernel_rfl
theorem cells4D : Try.prog.cellsOf 4 = 1 := by kernel_rfl
theorem cells9D : Try.prog.cellsOf 9 = 1 := by kernel_rfl
structure MbQ (m : Mb) : Prop where
  d : i64 m.d
  i : i64 m.i
  n : i64 m.n
  l : i64 m.l
  o : i64 m.o
  r : RpW m.r
  f : m.f.size ≤ maxLen
set_option maxRecDepth 100000 in
theorem read_mb {H : Type} {enc : TypeId × Value → H} {W : World} {base : Nat} {sp : Nat → Bool} {held : Bool} {fuel : Nat} {cs : List Value} {x : DataW H × List MemPlace}
    (h : DataW.trod enc Try.prog W base sp held fuel 39 cs = some x) : ∃ m : Mb, cs = mbE.c m ∧ MbQ m := by
  obtain ⟨xs, n, _, _, hl, hlen, hf⟩ := DataW.trod_struct Try.underlying39 h
  have hl9 : cs.length = 16 := hl.trans cellsMb
  have hl4 : xs.length = 8 := hlen
  match cs, hl9, xs, hl4 with
  | [c0, c1, c2, c3, c4, c5, c6, c7, c8, c9, c10, c11, c12, c13, c14, c15], _, [y0, y1, y2, y3, y4, y5, y6, y7], _ =>
    have h0 := hf 0 _ rfl
    have h1 := hf 1 _ rfl
    have h2 := hf 2 _ rfl
    have h3 := hf 3 _ rfl
    have h4 := hf 4 _ rfl
    have h5 := hf 5 _ rfl
    have h6 := hf 6 _ rfl
    have h7 := hf 7 _ rfl
    simp [cells3, cells4D, cells9D, cellsRp] at h0 h1 h2 h3 h4 h5 h6 h7
    obtain ⟨n0, e0, _, w0⟩ := DataW.trod_int Try.underlying3 h0
    obtain ⟨n1, e1, _, w1⟩ := DataW.trod_int Try.underlying3 h1
    obtain ⟨n2, e2, _⟩ := DataW.trod_bool Try.underlying4 h2
    obtain ⟨n3, e3, _, w3⟩ := DataW.trod_int Try.underlying3 h3
    obtain ⟨n4, e4, _, w4⟩ := DataW.trod_int Try.underlying3 h4
    obtain ⟨n5, e5, _, w5⟩ := DataW.trod_int Try.underlying3 h5
    obtain ⟨r, e6, w6⟩ := read_rp h6
    obtain ⟨s, e7, _, w7⟩ := DataW.trod_string Try.underlying9 h7
    simp at e0 e1 e2 e3 e4 e5 e7
    have e6 : [c6, c7, c8, c9, c10, c11, c12, c13, c14] = [.int .i64 r.d, .int .i64 r.i, .int .i64 r.b, .int .i64 r.t, .int .i64 r.m, .int .i64 r.p, .int .i64 r.c, .int .i64 r.s, .int .i64 r.k] := e6
    simp only [List.cons.injEq, and_true] at e6
    obtain ⟨f0, f1, f2, f3, f4, f5, f6, f7, f8⟩ := e6
    subst e0 e1 e2 e3 e4 e5 e7 f0 f1 f2 f3 f4 f5 f6 f7 f8
    have b0 := bounds_i64 w0
    have b1 := bounds_i64 w1
    have b3 := bounds_i64 w3
    have b4 := bounds_i64 w4
    have b5 := bounds_i64 w5
    exact ⟨⟨n0, n1, n2, n3, n4, n5, r, s⟩, rfl, ⟨by unfold i64; omega, by unfold i64; omega, by unfold i64; omega, by unfold i64; omega, by unfold i64; omega, w6, w7⟩⟩
set_option maxRecDepth 100000 in
theorem open_mb {H : Type} {enc : TypeId × Value → H} {W : World} {base : Nat} {sp : Nat → Bool} {v : Value} {d : DataW H} {ps : List MemPlace}
    (hv : Value.okWide Try.prog W .any base 39 v) (h : DataW.Trod enc Try.prog W 0 sp true 39 v d ps) : ∃ m : Mb, v = .agg #[.int .i64 m.d, .int .i64 m.i, .bool m.w, .int .i64 m.n, .int .i64 m.l, .int .i64 m.o, .int .i64 m.r.d, .int .i64 m.r.i, .int .i64 m.r.b, .int .i64 m.r.t, .int .i64 m.r.m, .int .i64 m.r.p, .int .i64 m.r.c, .int .i64 m.r.s, .int .i64 m.r.k, .string m.f] ∧ MbQ m := by
  obtain ⟨cs, rfl, _⟩ := okWide_struct Try.underlying39 hv
  obtain ⟨fuel, hf⟩ := h
  obtain ⟨e, he, hw⟩ := read_mb hf
  refine ⟨e, ?_, hw⟩
  obtain ⟨l⟩ := cs
  simp [Value.cells] at he
  rw [he]
  rfl
instance : Inhabited Mb := ⟨zeroMb⟩
set_option maxRecDepth 100000 in
theorem open_mbs {H : Type} {enc : TypeId × Value → H} {W : World} {base : Nat} {v : Value} {d : DataW H} {ps : List MemPlace}
    (hv : Value.okWide Try.prog W .any base 22 v) (h : DataW.Trod enc Try.prog W 0 (fun _ => true) true 22 v d ps) :
    ∃ (A : Option Addr) (cap : Nat) (l : List Mb), v = .slice A l.length cap ∧ mbE.Sl W A l ∧ l.length ≤ cap ∧ (A = none → cap = 0) ∧ ∀ m ∈ l, MbQ m :=
  open_list mbE MbQ Try.underlying22 cellsMb (fun h => read_mb h) hv h

/-- A row's contract, with the claim's bound on sizes handed to it. -/
theorem handed_sized {H : Type} {enc : TypeId × Value → H} {a : Assume} {C : Checked} {os : Os} {f : FuncId} {fn : Func} {s : ChangeSpec} {conds : List PathCond} {apart fresh handsOn again : Bool}
    (own : ownKnob C.prog.godebug = none) (started : os.Started) (noInit : C.prog.inits.idxOf? f = none) (hfn : C.prog.funcs[f]? = some fn)
    (witness : ∃ (w : World) (tape : Tape) (i : Input), w.os = os ∧ (w.forCall tape i).Shaped C.prog ∧ i.vars = [] ∧ Input.okWide C.prog (w.forCall tape i) .any w.heap.size f i ∧
      s.pre6 enc C.prog fn conds apart (w.forCall tape i).memory i.args ∧ a.holds C.prog (lone (Frame.enter C.prog f i.args .normal) [] (w.forCall tape i)))
    (contract : ∀ (W : World) (base : Nat) (args : Array Value) (ds gs : List (DataW H)) (before : List MemPlace),
      (∀ (j : Nat) t v, fn.params[j]? = some t → args[j]? = some v → Value.okWide C.prog W .any base t v) →
      DataW.Whole enc C.prog fn.params.toList s.vars apart W args.toList ds gs before →
      (DataW.weightsEach C.prog (fn.params.toList ++ s.plain.varTypes C.prog) (ds ++ gs)).all (· ≤ reachBytes) = true →
      Calls C.prog f args W fun e W' => ∃ v, e = .returned v ∧ s.post enc C.prog fn apart fresh handsOn again W args v W') :
    ReturnsInHanded a C os f .any (s.pre6 enc C.prog fn conds apart) (s.post enc C.prog fn apart fresh handsOn again) := by
  have h := returnsInHanded_of_change_and (enc := enc) (s := s) (conds := conds) (apart := apart) (fresh := fresh) (handsOn := handsOn) (again := again) (X := fun _ _ => True) (fun _ _ _ _ h => h) own started noInit hfn
    (by obtain ⟨w, tape, i, h1, h2, h3, h4, h5, h6⟩ := witness; exact ⟨w, tape, i, h1, h2, h3, h4, ⟨⟨h5.1, trivial⟩, h5.2⟩, h6⟩)
    (fun W base args ds gs before h1 h2 _ h4 _ _ => contract W base args ds gs before h1 h2 h4)
  have e : (fun w args => (s.pre enc C.prog fn conds apart w args ∧ True) ∧ sizedMet enc C.prog fn (OpenSpec.ofChange s) apart w args) = s.pre6 enc C.prog fn conds apart := by
    funext w args
    unfold ChangeSpec.pre6
    rw [and_true]
  rw [e] at h
  exact h
theorem cellsMbsD : Try.prog.cellsOf 22 = 1 := by kernel_rfl
theorem slice_lenD {st e : TypeId} (hu : Try.prog.underlying st = some (.slice e)) (hb : 0 < Try.prog.bytesOf e) {H : Type} {enc : TypeId × Value → H} {W : World} {fuel : Nat} {A : Option Addr} {n c : Nat} {x : DataW H × List MemPlace}
    (h : DataW.trod enc Try.prog W 0 (fun _ => true) true fuel st [.slice A n c] = some x) (hw : (x.1.weights Try.prog st).all (· ≤ reachBytes) = true) : n ≤ reachBytes := by
  rcases DataW.trod_slice hu h with ⟨e1, _⟩ | ⟨a, len, cap, elems, rest, m, _, e1, e2, _, _, _, hlen, _⟩
  · simp at e1; rw [e1.2.1]; exact Nat.zero_le _
  · simp at e1
    obtain ⟨_, rfl, _⟩ := e1
    rw [e2] at hw
    simp only [DataW.weights, hu, List.all_cons, Bool.and_eq_true, decide_eq_true_iff, List.length_map] at hw
    have h1 := hw.1
    have h2 : elems.length * 1 ≤ (elems.length + rest.length) * Try.prog.bytesOf e := Nat.mul_le_mul (by omega) hb
    omega
/-- Members among the arguments, how many there may be. -/
theorem open_mbsN {H : Type} {enc : TypeId × Value → H} {W : World} {base : Nat} {v : Value} {d : DataW H} {ps : List MemPlace}
    (hv : Value.okWide Try.prog W .any base 22 v) (h : DataW.Trod enc Try.prog W 0 (fun _ => true) true 22 v d ps) (hw : (d.weights Try.prog 22).all (· ≤ reachBytes) = true) :
    ∃ (A : Option Addr) (cap : Nat) (l : List Mb), v = .slice A l.length cap ∧ SlV mbE W A cap l ∧ l.length ≤ reachBytes ∧ ∀ m ∈ l, MbQ m := by
  obtain ⟨A, cap, l, rfl, hS, hc, hz, hm⟩ := open_mbs hv h
  obtain ⟨fuel, hf⟩ := h
  exact ⟨A, cap, l, rfl, ⟨hS, hz, hc⟩, slice_lenD (x := (d, ps)) Try.underlying22 (by rw [show Try.prog.bytesOf 39 = 136 by kernel_rfl]; decide) hf hw, hm⟩
set_option maxRecDepth 100000 in
theorem open_int3 {H : Type} {enc : TypeId × Value → H} {W : World} {base : Nat} {sp : Nat → Bool} {v : Value} {d : DataW H} {ps : List MemPlace}
    (hv : Value.okWide Try.prog W .any base 23 v) (h : DataW.Trod enc Try.prog W 0 sp true 23 v d ps) : ∃ a b c : Int, v = .agg #[.int .i64 a, .int .i64 b, .int .i64 c] ∧ i64 a ∧ i64 b ∧ i64 c := by
  obtain ⟨cs, rfl, hsz⟩ : ∃ cs : Array Value, v = .agg cs ∧ cs.size = 3 := by
    simp only [Value.okWide, Try.underlying23] at hv
    obtain ⟨cs, h1, h2, _⟩ := hv
    exact ⟨cs, h1, by rw [h2]; kernel_rfl⟩
  obtain ⟨fuel, hf⟩ := h
  obtain ⟨xs, m, rfl, _, hlen, hn, hel⟩ := DataW.trod_array Try.underlying23 hf
  have hcs : (Value.agg cs).cells.toList = cs.toList := rfl
  rw [hcs] at hel
  have hone : ∀ i, i < 3 → ∃ a : Int, cs[i]? = some (.int .i64 a) ∧ i64 a := by
    intro i hi
    have h1 := hel i hi
    rw [cells3, Nat.mul_one] at h1
    obtain ⟨x, hxk⟩ : ∃ x, xs[i]? = some x := ⟨_, List.getElem?_eq_getElem (by omega)⟩
    rw [hxk] at h1
    obtain ⟨n, e1, _, wf⟩ := DataW.trod_int Try.underlying3 h1
    have hb := bounds_i64 wf
    have h5 := congrArg (·[0]?) e1
    refine ⟨n, ?_, by unfold i64; omega⟩
    rw [← Array.getElem?_toList]
    simpa using h5
  obtain ⟨a, ha, ha2⟩ := hone 0 (by decide)
  obtain ⟨b, hb, hb2⟩ := hone 1 (by decide)
  obtain ⟨c, hc, hc2⟩ := hone 2 (by decide)
  refine ⟨a, b, c, ?_, ha2, hb2, hc2⟩
  congr 1
  apply Array.ext
  · rw [hsz]; rfl
  · intro i h1 h2
    have h3 : i < 3 := by omega
    match i, h3 with
    | 0, _ => rw [Array.getElem?_eq_getElem h1] at ha; exact Option.some.inj ha
    | 1, _ => rw [Array.getElem?_eq_getElem h1] at hb; exact Option.some.inj hb
    | 2, _ => rw [Array.getElem?_eq_getElem h1] at hc; exact Option.some.inj hc
set_option maxRecDepth 100000 in
theorem open_int2 {H : Type} {enc : TypeId × Value → H} {W : World} {base : Nat} {sp : Nat → Bool} {v : Value} {d : DataW H} {ps : List MemPlace}
    (hv : Value.okWide Try.prog W .any base 31 v) (h : DataW.Trod enc Try.prog W 0 sp true 31 v d ps) : ∃ a b : Int, v = .agg #[.int .i64 a, .int .i64 b] ∧ i64 a ∧ i64 b := by
  obtain ⟨cs, rfl, hsz⟩ : ∃ cs : Array Value, v = .agg cs ∧ cs.size = 2 := by
    simp only [Value.okWide, Try.underlying31] at hv
    obtain ⟨cs, h1, h2, _⟩ := hv
    exact ⟨cs, h1, by rw [h2]; kernel_rfl⟩
  obtain ⟨fuel, hf⟩ := h
  obtain ⟨xs, m, rfl, _, hlen, hn, hel⟩ := DataW.trod_array Try.underlying31 hf
  have hcs : (Value.agg cs).cells.toList = cs.toList := rfl
  rw [hcs] at hel
  have hone : ∀ i, i < 2 → ∃ a : Int, cs[i]? = some (.int .i64 a) ∧ i64 a := by
    intro i hi
    have h1 := hel i hi
    rw [cells3, Nat.mul_one] at h1
    obtain ⟨x, hxk⟩ : ∃ x, xs[i]? = some x := ⟨_, List.getElem?_eq_getElem (by omega)⟩
    rw [hxk] at h1
    obtain ⟨n, e1, _, wf⟩ := DataW.trod_int Try.underlying3 h1
    have hb := bounds_i64 wf
    have h5 := congrArg (·[0]?) e1
    refine ⟨n, ?_, by unfold i64; omega⟩
    rw [← Array.getElem?_toList]
    simpa using h5
  obtain ⟨a, ha, ha2⟩ := hone 0 (by decide)
  obtain ⟨b, hb, hb2⟩ := hone 1 (by decide)
  refine ⟨a, b, ?_, ha2, hb2⟩
  congr 1
  apply Array.ext
  · rw [hsz]; rfl
  · intro i h1 h2
    have h3 : i < 2 := by omega
    match i, h3 with
    | 0, _ => rw [Array.getElem?_eq_getElem h1] at ha; exact Option.some.inj ha
    | 1, _ => rw [Array.getElem?_eq_getElem h1] at hb; exact Option.some.inj hb
end Go.Proofs.Ytjjjpifdmgpnjaa
