/- Texts laid one behind the other: Ge, Gf, Tm, Ta, Tb, Th, Ti, Tj, Tt, Mm, Va, Vb, Vc, Vf, Vg, Pm. -/
import Derived.Test.YtdcjffajmckleaaGreatDoorE01
import Derived.Maps.AppendAt
import Derived.Laws.OwnMore
import Derived.Lib.AppendZeros
import Derived.Laws.ResultCell
import Derived.Laws.CopyOwn
import Derived.Laws.CopyRow
import Derived.WalkKit
import Derived.BigQuiet
import Derived.Deep.QuietTactic
import Derived.Lib.QuietBelow
import Derived.StillTailTactics
import Derived.Lib.Builder
import Derived.Deep.RegionHeld3
import Derived.Lib.SliceRun
/- Rows and slices of structs, whatever the struct: what lies where, what is cut out, what append makes. No function of the program in it. -/
namespace Go.Proofs.YtdcjffajmckleaaGreatDoor
open Go.RowKit

/-- A kind of element: its type, how many cells it has, and which. -/
structure El (α : Type) where
  e : TypeId
  k : Nat
  c : α → List Value
  len : ∀ x, (c x).length = k
  one : ∀ x, ∀ u ∈ c x, u.oneCell' = true
  pos : 0 < k
section
variable {α : Type} (E : El α)
/-- From the cell o of block b on x lies. -/
def El.At (w : World) (b o : Nat) (x : α) : Prop := ∀ j u, (E.c x)[j]? = some u → w.cell? ⟨b, o + j, none⟩ = some u
/-- The slice at A holds these. -/
def El.Sl (w : World) (A : Option Addr) (l : List α) : Prop :=
  0 < l.length → ∃ b off, A = some ⟨b, off, none⟩ ∧ b < w.heap.size ∧ ∀ i (h : i < l.length), E.At w b (off + i * E.k) l[i]
/-- So, in a block ahead of B. -/
def El.SlB (B : Nat) (w : World) (A : Option Addr) (l : List α) : Prop :=
  0 < l.length → ∃ b off, A = some ⟨b, off, none⟩ ∧ b < B ∧ ∀ i (h : i < l.length), E.At w b (off + i * E.k) l[i]
/-- Block b is x's own. -/
def El.In (w : World) (b : Nat) (x : α) : Prop := w.heap[b]? = some (.cells (E.c x).toArray E.e (0, 0))
variable {E}
section
variable {W w w' : World} {b o B : Nat} {x : α} {A : Option Addr} {l : List α} {row : Option Nat}
theorem El.At.below (h : E.At W b o x) (hb : Below W.heap.size W w) (hl : b < W.heap.size) : E.At w b o x := fun j u hu => by rw [(bcell hb).1 _ _ hl]; exact h j u hu
theorem El.At.grown (h : E.At w b o x) (hg : w.grownBy w' row) (hne : some b ≠ row) : E.At w' b o x := fun j u hu => hg.cell (h j u hu) hne
theorem El.Sl.below (h : E.Sl W A l) (hb : Below W.heap.size W w) : E.Sl w A l := fun h0 => by
  obtain ⟨b, off, e, hl, hc⟩ := h h0
  exact ⟨b, off, e, Nat.lt_of_lt_of_le hl hb.size, fun i hi => (hc i hi).below hb hl⟩
theorem El.Sl.nil (w : World) (A : Option Addr) : E.Sl w A [] := fun h => by simp at h
theorem El.Sl.none_nil (h : E.Sl w none l) : l = [] := by
  rcases Nat.eq_zero_or_pos l.length with h0 | h0
  · exact List.eq_nil_of_length_eq_zero h0
  · obtain ⟨_, _, e, _⟩ := h h0; cases e
theorem El.Sl.take (h : E.Sl w A l) (n : Nat) : E.Sl w A (l.take n) := fun h0 => by
  have hk : (l.take n).length ≤ l.length := by rw [List.length_take]; omega
  obtain ⟨b, off, e, hb, hc⟩ := h (by omega)
  exact ⟨b, off, e, hb, fun i hi => by rw [List.getElem_take]; exact hc i (by omega)⟩
theorem El.Sl.drop {A3 : Option Addr} {cap tz : Nat} (h : E.Sl w A l) (hcap : l.length ≤ cap) (he : (if cap = tz then A else Option.map (fun x => x.add (tz * E.k)) A) = A3) : E.Sl w A3 (l.drop tz) := fun h0 => by
  rw [List.length_drop] at h0
  obtain ⟨b, off, e, hb, hc⟩ := h (by omega)
  rw [if_neg (by omega), e] at he
  refine ⟨b, off + tz * E.k, by rw [← he]; simp [Addr.add_lit], hb, fun i hi => ?_⟩
  rw [List.length_drop] at hi
  rw [List.getElem_drop, Nat.add_assoc, ← Nat.add_mul]
  exact hc _ (by omega)
theorem El.drop_none {A3 : Option Addr} {cap tz n : Nat} (hn : A = none → cap = 0) (he : (if cap = tz then A else Option.map (fun x => x.add n) A) = A3) (h : A3 = none) : cap - tz = 0 := by
  by_cases e : cap = tz
  · omega
  · rw [if_neg e, h, Option.map_eq_none_iff] at he
    have := hn he; omega
theorem El.SlB.of (h : E.Sl w A l) (hB : w.heap.size ≤ B) : E.SlB B w A l := fun h0 => by
  obtain ⟨b, off, e, hl, hc⟩ := h h0
  exact ⟨b, off, e, by omega, hc⟩
theorem El.SlB.sl (h : E.SlB B w A l) (hB : B ≤ w.heap.size) : E.Sl w A l := fun h0 => by
  obtain ⟨b, off, e, hl, hc⟩ := h h0
  exact ⟨b, off, e, by omega, hc⟩
theorem El.SlB.keep (h : E.SlB B w A l) (hg : w.grownBy w' row) (hrow : ∀ n, row = some n → B ≤ n) : E.SlB B w' A l := fun h0 => by
  obtain ⟨b, off, e, hl, hc⟩ := h h0
  exact ⟨b, off, e, hl, fun i hi => (hc i hi).grown hg (fun e => by have := hrow b e.symm; omega)⟩
theorem El.Sl.keep (h : E.Sl w A l) (hg : w.grownBy w' row) (hne : ∀ a, A = some a → some a.block ≠ row) : E.Sl w' A l := fun h0 => by
  obtain ⟨b, off, e, hl, hc⟩ := h h0
  exact ⟨b, off, e, Nat.lt_of_lt_of_le hl hg.size, fun i hi => (hc i hi).grown hg (hne _ e)⟩

theorem El.In.lt (h : E.In w b x) : b < w.heap.size := by
  rcases Nat.lt_or_ge b w.heap.size with hlt | hge
  · exact hlt
  · unfold El.In at h; rw [Array.getElem?_eq_none hge] at h; cases h
theorem El.In.cell (h : E.In w b x) (j : Nat) : w.cell? ⟨b, j, none⟩ = (E.c x)[j]? := by
  have := cell_of_row w b j _ E.e (0, 0) h
  rw [this]; simp
theorem El.In.at (h : E.In w b x) : E.At w b 0 x := fun j u hu => by rw [Nat.zero_add, h.cell]; exact hu
theorem El.In.frozen (h : E.In w b x) (i : Nat) : w.frozen? ⟨b, i, none⟩ = false := by
  unfold El.In at h
  simp [World.frozen?, h]
theorem El.In.new (w : World) (x : α) (cs : Array Value) (hc : cs = (E.c x).toArray) : E.In (w.alloc (.cells cs E.e)) w.heap.size x := by subst hc; exact heap_alloc_new w _
theorem El.In.below (h : E.In w b x) (hg : Below w.heap.size w w') : E.In w' b x := (hg.block b h.lt).trans h
theorem El.In.keep (h : E.In w b x) (hg : w.grownBy w' row) (hne : some b ≠ row) : E.In w' b x := (hg.block b h.lt hne).trans h
theorem El.In.alloc (h : E.In w b x) (o : Obj) : E.In (w.alloc o) b x := h.below (below_alloc (Below.refl _ _) o)
theorem El.In.set (h : E.In w b x) (y : α) (cs : Array Value) (hc : cs = (E.c y).toArray) : E.In (w.setRow b cs) b y := by subst hc; exact setRow_heap _ _ _ _ _ _ h
theorem El.In.put (h : E.In w b x) (y : α) (j : Nat) (u : Value) (hy : E.c y = (E.c x).set j u) : E.In (w.setCell ⟨b, j, none⟩ u) b y := by
  unfold El.In at h ⊢
  rw [hy]
  simp [World.setCell, Array.getElem?_modify, h]
theorem El.In.other (h : E.In w b x) (n i : Nat) (v : Value) (hne : b ≠ n) : E.In (w.setCell ⟨n, i, none⟩ v) b x :=
  (Below.heap_setCell w ⟨n, i, none⟩ v b hne).trans h
theorem El.In.rowN (h : E.In w b x) (n : Nat) (cs : Array Value) (hne : b ≠ n) : E.In (w.setRow n cs) b x := (setRow_other w n b cs hne).trans h
theorem El.In.sl (h : E.In w b x) : E.Sl w (some ⟨b, 0, none⟩) [x] := fun _ =>
  ⟨b, 0, rfl, h.lt, fun i hi => by
    obtain rfl : i = 0 := by simpa using hi
    rw [Nat.zero_mul]; exact h.at⟩
end

variable (E)
/-- The cells of a list. -/
def El.cells : List α → List Value
  | [] => []
  | x :: l => E.c x ++ El.cells l
variable {E}
theorem El.cells_len : ∀ l : List α, (E.cells l).length = l.length * E.k
  | [] => by simp [El.cells]
  | x :: l => by rw [El.cells, List.length_append, E.len, El.cells_len l, List.length_cons, Nat.succ_mul, Nat.add_comm]
theorem El.cells_app : ∀ l r : List α, E.cells (l ++ r) = E.cells l ++ E.cells r
  | [], r => rfl
  | x :: l, r => by rw [List.cons_append, El.cells, El.cells, El.cells_app l r, List.append_assoc]
theorem El.cells_one : ∀ l : List α, ∀ u ∈ E.cells l, u.oneCell' = true
  | [], u, h => by cases h
  | x :: l, u, h => by
    rcases List.mem_append.1 h with h | h
    · exact E.one x u h
    · exact El.cells_one l u h
theorem El.cells_at : ∀ (l : List α) (i : Nat) (h : i < l.length) (j : Nat) (u : Value), (E.c l[i])[j]? = some u → (E.cells l)[i * E.k + j]? = some u
  | x :: l, 0, _, j, u, hu => by
    rw [Nat.zero_mul, Nat.zero_add, El.cells, List.getElem?_append_left]
    · exact hu
    · have := (List.getElem?_eq_some_iff.1 hu).1; exact this
  | x :: l, i + 1, h, j, u, hu => by
    have := El.cells_at l i (by simpa using h) j u hu
    rw [El.cells, List.getElem?_append_right (by rw [E.len, Nat.succ_mul]; omega), E.len, Nat.succ_mul]
    rw [show i * E.k + E.k + j - E.k = i * E.k + j by omega]; exact this
theorem El.cells_get : ∀ (l : List α) (n : Nat) (u : Value), (E.cells l)[n]? = some u → ∃ i, ∃ h : i < l.length, ∃ j, n = i * E.k + j ∧ (E.c l[i])[j]? = some u
  | [], n, u, h => by simp [El.cells] at h
  | x :: l, n, u, h => by
    rw [El.cells] at h
    by_cases hn : n < E.k
    · rw [List.getElem?_append_left (by rw [E.len]; exact hn)] at h
      exact ⟨0, by simp, n, by rw [Nat.zero_mul, Nat.zero_add], h⟩
    · rw [List.getElem?_append_right (by rw [E.len]; omega), E.len] at h
      obtain ⟨i, hi, j, e, hu⟩ := El.cells_get l (n - E.k) u h
      exact ⟨i + 1, by simpa using hi, j, by rw [Nat.succ_mul]; omega, hu⟩
theorem El.Sl.cells {w : World} {a : Addr} {l : List α} (h : E.Sl w (some a) l) : ∀ j u, (E.cells l)[j]? = some u → w.cell? (a.add j) = some u := by
  intro n u hu
  obtain ⟨i, hi, j, rfl, hc⟩ := El.cells_get l n u hu
  obtain ⟨b, off, e, _, hat⟩ := h (by omega)
  obtain rfl := Option.some.inj e
  rw [Addr.add_lit, ← Nat.add_assoc]
  exact hat i hi j u hc

variable (E)
/-- The slice v holds these, in a row that the call has made. -/
def El.Own (w : World) (B : Nat) (v : Value) (l : List α) : Prop := w.ownsRow B E.e E.k v l.length (E.cells l)
variable {E}
section
variable {w w' : World} {B : Nat} {v : Value} {l : List α} {row : Option Nat}
theorem El.Own.nil (w : World) (B : Nat) : E.Own w B (.slice none 0 0) [] := World.ownsRow_nil w B E.e E.k
theorem El.Own.kept (h : E.Own w B v l) (hg : w.grownBy w' row) (hne : v.ownBlock = none ∨ v.ownBlock ≠ row) : E.Own w' B v l := World.ownsRow.kept h hg hne
theorem El.Own.below (h : E.Own w B v l) (hb : Below w.heap.size w w') : E.Own w' B v l :=
  World.ownsRow.kept h (row := none) ⟨hb.os, hb.tape, hb.output, hb.size, fun k hk _ => hb.block k hk⟩ (by cases hv : v.ownBlock <;> simp)
theorem El.Own.lt (h : E.Own w B v l) : ∀ n, v.ownBlock = some n → B ≤ n ∧ n < w.heap.size := World.ownsRow.lt h
theorem El.Own.rows (h : E.Own w B v l) : ∀ n, v.ownBlock = some n → B ≤ n := fun n e => (World.ownsRow.lt h n e).1
theorem El.Own.sl (h : E.Own w B v l) : ∃ A cap, v = .slice A l.length cap ∧ E.Sl w A l ∧ (A = none → cap = 0) ∧ l.length ≤ cap := by
  have hc := fun g (hg : v.ownBlock = some g) => World.ownsRow.cells h hg
  have hlt := World.ownsRow.lt h
  unfold El.Own at h
  rcases h.2 with ⟨rfl, h0⟩ | ⟨g, cap, cur, rfl, _, _, hnc, _⟩
  · have : l = [] := List.eq_nil_of_length_eq_zero h0
    subst this
    exact ⟨none, 0, rfl, El.Sl.nil w none, fun _ => rfl, Nat.le_refl _⟩
  · refine ⟨some ⟨g, 0, none⟩, cap, rfl, fun _ => ⟨g, 0, rfl, (hlt g rfl).2, fun i hi j u hu => ?_⟩, (fun e => by cases e), hnc⟩
    have := hc g rfl _ _ (El.cells_at l i hi j u hu)
    rw [Addr.add_lit, ← Nat.add_assoc] at this; exact this
theorem El.Own.empty (w : World) (B : Nat) (hB : B ≤ w.heap.size) : E.Own (w.alloc (.cells #[] E.e)) B (.slice (some ⟨w.heap.size, 0, none⟩) 0 0) [] :=
  World.ownsRow_made w #[] 0 hB (by unfold maxLen; omega) (Nat.zero_mul _).symm
end

/-- What a program says of the kind: its slices' type, and the type's zero. -/
structure El.Inn (E : El α) (P : Program) (st : TypeId) : Prop where
  und : P.underlying st = some (.slice E.e)
  info : ∃ i z, P.info? E.e = some i ∧ i.zero = some z ∧ i.size = E.k ∧ i.bytes ≤ 1000 ∧ z.cells.size = E.k
theorem El.inn_of {P : Program} {st : TypeId} {z : Value} {bytes : Nat} (hu : P.underlying st = some (.slice E.e)) (h : (P.info? E.e).map (fun i => (i.zero, i.size, i.bytes)) = some (some z, E.k, bytes)) (hz : z.cells.size = E.k) (hb : bytes ≤ 1000) : E.Inn P st := by
  obtain ⟨i, hi, hz0, hz1, hz2⟩ := info_parts h
  exact ⟨hu, i, z, hi, hz0, hz1, by rw [hz2]; exact hb, hz⟩
variable {P : Program} {st : TypeId}
theorem El.run_app (I : E.Inn P st) (w : World) (ty : TypeId) (B : Nat) (v : Value) (l r : List α) (hown : E.Own w B v l) (A : Option Addr) (m c : Nat) (hm : r.length = m) (hT : E.Sl w A r) (hc : A = none → c = 0) (hl : l.length + r.length ≤ 100000) (hB : B ≤ w.heap.size) :
    ∃ v' w', (Builtin.append_ #[st, st] ty #[v, .slice A m c]).run P w = .ok v' w' ∧ E.Own w' B v' (l ++ r) ∧ w.grownBy w' v.ownBlock ∧ (v'.ownBlock = v.ownBlock ∨ v'.ownBlock = some w.heap.size) := by
  subst hm
  obtain ⟨hu, i, z, hi, hz, hsz, hby, hzs⟩ := I
  cases A with
  | none =>
    obtain rfl := hT.none_nil
    obtain rfl := hc rfl
    refine ⟨v, w, run_append_owned_none (P := P) (w := w) B st ty E.e i E.k hu hi v l.length (E.cells l) hown, ?_, ⟨rfl, rfl, rfl, Nat.le_refl _, fun _ _ _ => rfl⟩, Or.inl rfl⟩
    rw [List.append_nil]; exact hown
  | some a =>
    have hb : (l.length + r.length) * i.bytes ≤ 100000 * 1000 := Nat.mul_le_mul hl hby
    obtain ⟨v', w', h1, h2, h3, _, h5⟩ := run_append_own_at (P := P) w B st ty E.e i z E.k i.bytes hu hi hz hsz rfl hzs E.pos v l.length (E.cells l) hown a r.length c (E.cells r) (El.cells_len r) hT.cells (El.cells_one r) (by unfold maxLen; omega) (by omega) hB
    refine ⟨v', w', h1, ?_, h3, h5⟩
    unfold El.Own
    rw [List.length_append, El.cells_app]; exact h2
theorem El.wp_app (I : E.Inn P st) {o : Oper} {a : Act} {w : World} {K : Act → World → Prop} {Q : Exit → Act → World → Prop} (s x : Operand)
    (ho : o.op = .call { callee := .builtin .append, args := #[s, x], argTypes := #[st, st] }) (B : Nat) (v : Value) (l r : List α) (hs : a.eval s = v) (hown : E.Own w B v l) (A : Option Addr) (m c : Nat) (hx : a.eval x = .slice A m c)
    (hm : r.length = m) (hT : E.Sl w A r) (hc : A = none → c = 0) (hl : l.length + r.length ≤ 100000) (hB : B ≤ w.heap.size)
    (h : ∀ v' w', E.Own w' B v' (l ++ r) → w.grownBy w' v.ownBlock → (v'.ownBlock = v.ownBlock ∨ v'.ownBlock = some w.heap.size) → K (a.put o.dst v') w') : o.wp P a w K Q := by
  obtain ⟨v', w', hr, h2, h3, h4⟩ := El.run_app I w o.type B v l r hown A m c hm hT hc hl hB
  unfold Oper.wp execOp
  simp only [ho, resolve, invoke, builtin, Sem.run_bind, Sem.run_pure, Result.andThen_ok, List.map_toArray, List.map_cons, List.map_nil, hs, hx, hr]
  exact h v' w' h2 h3 h4
theorem El.wpList_app (I : E.Inn P st) {ops : Array Oper} {rest : List Oper} {o : Oper} {a : Act} {w : World} {Q : Exit → Act → World → Prop} (hgd : o.guard = none) (s x : Operand)
    (ho : o.op = .call { callee := .builtin .append, args := #[s, x], argTypes := #[st, st] }) (B : Nat) (v : Value) (l r : List α) (hs : a.eval s = v) (hown : E.Own w B v l) (A : Option Addr) (m c : Nat) (hx : a.eval x = .slice A m c)
    (hm : r.length = m) (hT : E.Sl w A r) (hc : A = none → c = 0) (hl : l.length + r.length ≤ 100000) (hB : B ≤ w.heap.size)
    (h : ∀ v' w', E.Own w' B v' (l ++ r) → w.grownBy w' v.ownBlock → (v'.ownBlock = v.ownBlock ∨ v'.ownBlock = some w.heap.size) → wpList P ops Q rest (a.put o.dst v') w') : wpList P ops Q (o :: rest) a w :=
  wpList_plain hgd fun _ hK => El.wp_app I s x ho B v l r hs hown A m c hx hm hT hc hl hB fun v' w' h2 h3 h4 => hK _ _ (h v' w' h2 h3 h4)
theorem El.step_app (I : E.Inn P st) {ops : Array Oper} {o : Oper} {a : Act} {w : World} {K : Act → World → Prop} {Q : Exit → Act → World → Prop} {F : Prop} (hgd : o.guard = none) (s x : Operand)
    (ho : o.op = .call { callee := .builtin .append, args := #[s, x], argTypes := #[st, st] }) (B : Nat) (v : Value) (l r : List α) (hs : a.eval s = v) (hown : E.Own w B v l) (A : Option Addr) (m c : Nat) (hx : a.eval x = .slice A m c)
    (hm : r.length = m) (hT : E.Sl w A r) (hc : A = none → c = 0) (hl : l.length + r.length ≤ 100000) (hB : B ≤ w.heap.size)
    (h : ∀ v' w', E.Own w' B v' (l ++ r) → w.grownBy w' v.ownBlock → (v'.ownBlock = v.ownBlock ∨ v'.ownBlock = some w.heap.size) → K (a.put o.dst v') w') :
    if Region.wanted o (yielded ops a.tmps) = true then Oper.wp P o a w K Q else F := by
  rw [if_pos (by simp [Region.wanted, hgd])]
  exact El.wp_app I s x ho B v l r hs hown A m c hx hm hT hc hl hB h

/-- What a program says of the kind as a struct. -/
def isRow : TypeDesc → Bool
  | .struct _ => true
  | .array _ _ => true
  | _ => false
structure El.Row (E : El α) (P : Program) : Prop where
  size : (P.info? E.e).map (·.size) = some E.k
  desc : ∃ d, P.underlying E.e = some d ∧ isRow d = true
theorem El.run_load (R : El.Row E P) {w : World} {b off : Nat} {x : α} (h : E.At w b off x) : (loadVar E.e ⟨b, off, none⟩).run P w = .ok (.agg (E.c x).toArray) w := by
  obtain ⟨d, hu, hd⟩ := R.desc
  have hs0 := R.size
  have hl : (loadCells ⟨b, off, none⟩ (E.c x).length).run P w = .ok (E.c x).toArray w :=
    run_loadCells_list (P := P) w ⟨b, off, none⟩ (E.c x) (fun j v hv => by rw [Addr.add_lit]; exact h j v hv)
  cases hq : P.info? E.e with
  | none => simp [hq] at hs0
  | some i =>
    have hs : i.size = (E.c x).length := by rw [E.len]; simpa [hq] using hs0
    have hagg : (isAgg E.e).run P w = .ok true w := by
      unfold isAgg
      rw [Sem.run_bind, run_underlying hu w]
      cases d <;> simp_all [isRow]
    simp [loadVar, Sem.run_bind, hagg, sizeOf, typeInfo, hq, hs, hl]
theorem El.wp_load (R : El.Row E P) {o : Oper} {a : Act} {w : World} {K : Act → World → Prop} {Q : Exit → Act → World → Prop} (x : Operand) (ho : o.op = .load E.e x)
    (b off : Nat) (hx : a.eval x = .pointer (some ⟨b, off, none⟩)) (p : α) (hg : E.At w b off p) (cs : Array Value) (hc : cs = (E.c p).toArray)
    (h : K (a.put o.dst (.agg cs)) w) : o.wp P a w K Q := by
  subst hc
  unfold Oper.wp execOp
  simp only [ho, hx, Instr.loadAt, Instr.sureAddr, Sem.run_bind, Sem.run_pure, Result.andThen_ok, El.run_load R hg]
  exact h
theorem El.load (R : El.Row E P) {ops : Array Oper} {rest : List Oper} {o : Oper} {a : Act} {w : World} {Q : Exit → Act → World → Prop} (hgd : o.guard = none) (x : Operand) (ho : o.op = .load E.e x)
    (b off : Nat) (hx : a.eval x = .pointer (some ⟨b, off, none⟩)) (p : α) (hg : E.At w b off p) (cs : Array Value) (hc : cs = (E.c p).toArray)
    (h : wpList P ops Q rest (a.put o.dst (.agg cs)) w) : wpList P ops Q (o :: rest) a w :=
  wpList_plain hgd fun _ hK => El.wp_load R x ho b off hx p hg cs hc (hK _ _ h)
theorem El.store (R : El.Row E P) {ops : Array Oper} {rest : List Oper} {o : Oper} {a : Act} {w : World} {Q : Exit → Act → World → Prop} (hgd : o.guard = none) (x y : Operand) (ho : o.op = .store E.e x y)
    (b : Nat) (q : α) (cs : Array Value) (hc : cs = (E.c q).toArray) (hx : a.eval x = .pointer (some ⟨b, 0, none⟩)) (hy : a.eval y = .agg cs)
    (p : α) (hg : E.In w b p)
    (h : wpList P ops Q rest (a.put o.dst undef) (w.setRow b cs)) : wpList P ops Q (o :: rest) a w := by
  subst hc
  exact wpList_store_row hgd E.e x y ho b _ hx hy E.e _ hg (by simpa [E.len] using R.size) (by simp [E.len]) (by simpa using E.one q) h
theorem El.step_store (R : El.Row E P) {ops : Array Oper} {o : Oper} {a : Act} {w : World} {K : Act → World → Prop} {Q : Exit → Act → World → Prop} {F : Prop} (hgd : o.guard = none) (x y : Operand) (ho : o.op = .store E.e x y)
    (b : Nat) (q : α) (cs : Array Value) (hc : cs = (E.c q).toArray) (hx : a.eval x = .pointer (some ⟨b, 0, none⟩)) (hy : a.eval y = .agg cs)
    (p : α) (hg : E.In w b p)
    (h : K (a.put o.dst undef) (w.setRow b cs)) : if Region.wanted o (yielded ops a.tmps) = true then Oper.wp P o a w K Q else F := by
  rw [if_pos (by simp [Region.wanted, hgd])]
  subst hc
  exact wp_store_row E.e x y ho b _ hx hy E.e _ hg (by simpa [E.len] using R.size) (by simp [E.len]) (by simpa using E.one q) h
/-- One result, a struct of a block. -/
theorem El.ret1 (R : El.Row E P) {fn : Func} {K : Ending → World → Prop} {a : Act} {w : World} {b : Nat} {t : Tmp} {p : α} (h : E.In w b p) (hr : fn.results = #[.cell t E.e]) (hp : a.tmps.getD t undef = .pointer (some ⟨b, 0, none⟩)) (hd : a.defers = [])
    (cs : Array Value) (hc : cs = (E.c p).toArray) (hR : K (.returned (.agg cs)) w) : bodyPost P fn K .ret a w := by
  subst hc
  have hp' : a.tmps[t]?.getD undef = .pointer (some ⟨b, 0, none⟩) := by simpa using hp
  refine bodyPost_ret (v := .agg (E.c p).toArray) ?_ hd hR
  simp [results, hr, hp', asAddr, El.run_load R h.at]
/-- Two results, a struct of a block and a word. -/
theorem El.ret2 (R : El.Row E P) {fn : Func} {K : Ending → World → Prop} {a : Act} {w : World} {b : Nat} {t u : Tmp} {v : Value} {p : α} (h : E.In w b p) (hr : fn.results = #[.cell t E.e, .tmp u]) (hp : a.tmps.getD t undef = .pointer (some ⟨b, 0, none⟩)) (hv : a.tmps.getD u undef = v) (hd : a.defers = [])
    (cs : Array Value) (hc : cs = (E.c p).toArray) (hR : K (.returned (.tuple #[.agg cs, v])) w) : bodyPost P fn K .ret a w := by
  subst hc
  refine bodyPost_ret (v := .tuple #[.agg (E.c p).toArray, v]) ?_ hd hR
  rw [results_cell_tmp hr, hp, hv]
  simp only [asAddr, Sem.run_pure, Result.andThen, El.run_load R h.at]
/-- Two results, a word and a struct of a block. -/
theorem El.ret3 (R : El.Row E P) {fn : Func} {K : Ending → World → Prop} {a : Act} {w : World} {b : Nat} {t u : Tmp} {v : Value} {p : α} (h : E.In w b p) (hr : fn.results = #[.tmp u, .cell t E.e]) (hp : a.tmps.getD t undef = .pointer (some ⟨b, 0, none⟩)) (hv : a.tmps.getD u undef = v) (hd : a.defers = [])
    (cs : Array Value) (hc : cs = (E.c p).toArray) (hR : K (.returned (.tuple #[v, .agg cs])) w) : bodyPost P fn K .ret a w := by
  subst hc
  refine bodyPost_ret (v := .tuple #[v, .agg (E.c p).toArray]) ?_ hd hR
  have hp' : a.tmps[t]?.getD undef = .pointer (some ⟨b, 0, none⟩) := by simpa using hp
  have hv' : a.tmps[u]?.getD undef = v := by simpa using hv
  simp [results, hr, hp', hv', asAddr, El.run_load R h.at]
end
end Go.Proofs.YtdcjffajmckleaaGreatDoor

/- Rows of structs, whatever the struct: made, written at a place, built of one. No function of the program in it. -/
namespace Go.Proofs.YtdcjffajmckleaaGreatDoor
open Go.RowKit

section
variable {α : Type} {E : El α}
theorem El.cells_take (l : List α) (i : Nat) (h : i ≤ l.length) : E.cells (l.take i) = (E.cells l).take (i * E.k) := by
  have e : E.cells l = E.cells (l.take i) ++ E.cells (l.drop i) := by rw [← El.cells_app, List.take_append_drop]
  have hl : (E.cells (l.take i)).length = i * E.k := by rw [El.cells_len, List.length_take, Nat.min_eq_left h]
  rw [e]; exact (List.take_left' hl).symm
theorem El.cells_drop (l : List α) (i : Nat) (h : i ≤ l.length) : E.cells (l.drop i) = (E.cells l).drop (i * E.k) := by
  have e : E.cells l = E.cells (l.take i) ++ E.cells (l.drop i) := by rw [← El.cells_app, List.take_append_drop]
  have hl : (E.cells (l.take i)).length = i * E.k := by rw [El.cells_len, List.length_take, Nat.min_eq_left h]
  rw [e]; exact (List.drop_left' hl).symm
theorem El.cells_set (l : List α) (i : Nat) (h : i < l.length) (x : α) : E.cells (l.set i x) = (E.cells l).take (i * E.k) ++ E.c x ++ (E.cells l).drop (i * E.k + E.k) := by
  rw [List.set_eq_take_append_cons_drop, if_pos h, El.cells_app, El.cells, El.cells_take l i (by omega), El.cells_drop l (i + 1) h, Nat.succ_mul, List.append_assoc]
theorem El.cells_rep (x : α) : ∀ n, (E.cells (List.replicate n x)).length = n * E.k := fun n => by rw [El.cells_len, List.length_replicate]
theorem El.made (x : α) (z : Array Value) (hz : z.toList = E.c x) (n : Nat) : (madeCells z (n * E.k)).toList = E.cells (List.replicate n x) := by
  have hzs : z.size = E.k := by rw [← Array.length_toList, hz, E.len]
  have hpos := E.pos
  apply List.ext_getElem?
  intro m
  by_cases hm : m < n * E.k
  · have h1 : m / E.k < n := Nat.div_lt_of_lt_mul (by rw [Nat.mul_comm]; exact hm)
    have h2 : m % E.k < E.k := Nat.mod_lt _ hpos
    have hu : (E.c x)[m % E.k]? = some ((E.c x)[m % E.k]'(by rw [E.len]; exact h2)) := List.getElem?_eq_getElem _
    have h3 := El.cells_at (E := E) (List.replicate n x) (m / E.k) (by simpa using h1) (m % E.k) _ (by rw [List.getElem_replicate]; exact hu)
    rw [Nat.mul_comm, Nat.div_add_mod] at h3
    rw [h3]
    simp only [madeCells, Array.getElem?_toList, Array.getElem?_map, Array.getElem?_range, hm, if_true, Option.map_some, hzs]
    congr 1
    simp only [← hz, Array.getElem_toList]
    exact getElem!_pos z _ (by omega)
  · rw [List.getElem?_eq_none (by rw [Array.length_toList, size_madeCells]; omega), List.getElem?_eq_none (by rw [El.cells_rep]; omega)]

variable {P : Program} {st : TypeId}
/-- make([]T, n). -/
theorem El.wp_make (I : E.Inn P st) (x : α) (hx : ∃ i z, P.info? E.e = some i ∧ i.zero = some z ∧ z.cells.toList = E.c x) {o : Oper} {a : Act} {w : World} {K : Act → World → Prop} {Q : Exit → Act → World → Prop} (lx cx : Operand)
    (ho : o.op = .makeSlice st lx cx) (B n c : Nat) (hl : a.eval lx = .int .i64 n) (hc : a.eval cx = .int .i64 c) (hn : c ≤ 100000) (hnc : n ≤ c) (hB : B ≤ w.heap.size)
    (h : ∀ w', E.Own w' B (.slice (some ⟨w.heap.size, 0, none⟩) n c) (List.replicate n x) → w.grownBy w' none → w.heap.size < w'.heap.size → K (a.put o.dst (.slice (some ⟨w.heap.size, 0, none⟩) n c)) w') : o.wp P a w K Q := by
  obtain ⟨hu, i, z, hi, hz, hsz, hby, hzs⟩ := I
  obtain ⟨i', z', hi', hz', hzc⟩ := hx
  rw [hi] at hi'; cases hi'
  rw [hz] at hz'; cases hz'
  have hb : i.bytes * c ≤ 1000 * 100000 := Nat.mul_le_mul hby hn
  have hb' : (i.bytes : Int) * (c : Int) ≤ 281474976710656 := by
    have h : ((i.bytes * c : Nat) : Int) ≤ 281474976710656 := by omega
    rwa [Int.natCast_mul] at h
  have hr := run_make (P := P) w st E.e i z hu hi hz .i64 .i64 n c (by omega) (by omega) hb' (by omega)
  simp only [Int.toNat_natCast] at hr
  unfold Oper.wp execOp
  simp only [ho, hl, hc, Sem.run_bind, Sem.run_pure, Result.andThen_ok, hr]
  refine h _ ⟨by rw [List.length_replicate, El.cells_rep], .inr ⟨w.heap.size, c, _, ?_, hB, heap_alloc_new w _, ?_, by unfold maxLen; omega, ?_, ?_⟩⟩ (World.grownBy_alloc w _ none) (by simp)
  · rw [List.length_replicate]
  · rw [List.length_replicate]; exact hnc
  · rw [size_madeCells, hsz]
  · rw [hsz, El.made x z.cells hzc c, List.length_replicate, ← El.cells_rep (E := E) x n]
    obtain ⟨d, rfl⟩ : ∃ d, c = n + d := ⟨c - n, by omega⟩
    rw [← List.replicate_append_replicate, El.cells_app]
    exact List.take_left
theorem El.wpList_make (I : E.Inn P st) (x : α) (hx : ∃ i z, P.info? E.e = some i ∧ i.zero = some z ∧ z.cells.toList = E.c x) {ops : Array Oper} {rest : List Oper} {o : Oper} {a : Act} {w : World} {Q : Exit → Act → World → Prop} (hgd : o.guard = none) (lx cx : Operand)
    (ho : o.op = .makeSlice st lx cx) (B n c : Nat) (hl : a.eval lx = .int .i64 n) (hc : a.eval cx = .int .i64 c) (hn : c ≤ 100000) (hnc : n ≤ c) (hB : B ≤ w.heap.size)
    (h : ∀ w', E.Own w' B (.slice (some ⟨w.heap.size, 0, none⟩) n c) (List.replicate n x) → w.grownBy w' none → w.heap.size < w'.heap.size → wpList P ops Q rest (a.put o.dst (.slice (some ⟨w.heap.size, 0, none⟩) n c)) w') : wpList P ops Q (o :: rest) a w :=
  wpList_plain hgd fun _ hK => El.wp_make I x hx lx cx ho B n c hl hc hn hnc hB fun w' h1 h2 h3 => hK _ _ (h w' h1 h2 h3)

/-- s[i] = x, in a row of the call's own. -/
theorem El.wp_setAt (R : El.Row E P) {o : Oper} {a : Act} {w : World} {K : Act → World → Prop} {Q : Exit → Act → World → Prop} (x y : Operand) (ho : o.op = .store E.e x y)
    (B g cap i : Nat) (l : List α) (q : α) (hown : E.Own w B (.slice (some ⟨g, 0, none⟩) l.length cap) l) (hi : i < l.length) (cs : Array Value) (hcs : cs = (E.c q).toArray) (hx : a.eval x = .pointer (some ⟨g, i * E.k, none⟩)) (hy : a.eval y = .agg cs)
    (h : ∀ w', E.Own w' B (.slice (some ⟨g, 0, none⟩) l.length cap) (l.set i q) → w.grownBy w' (some g) → w'.heap.size = w.heap.size → K (a.put o.dst undef) w') : o.wp P a w K Q := by
  subst hcs
  unfold El.Own at hown
  rcases hown.2 with ⟨h', _⟩ | ⟨g', cap', cur, h', hb, hg, hnc, hcm, hcsz, htake⟩
  · simp at h'
  · simp only [Value.slice.injEq, Option.some.injEq, Addr.mk.injEq, and_true, true_and] at h'
    obtain ⟨rfl, rfl⟩ := h'
    have hlen := hown.1
    have hik : i * E.k + E.k ≤ l.length * E.k := by rw [← Nat.succ_mul]; exact Nat.mul_le_mul_right _ hi
    have hck : l.length * E.k ≤ cap * E.k := Nat.mul_le_mul_right _ hnc
    have hs := run_storeCells_at (P := P) g (i * E.k) E.e (E.c q) 0 cur w hg (by rw [E.len]; omega) (E.one q)
    have hsz : ((E.c q).toArray).size = E.k := by simp [E.len]
    have hv : (storeVar E.e ⟨g, i * E.k, none⟩ (.agg (E.c q).toArray)).run P w = .ok () (w.setRow g (cur.toList.take (i * E.k) ++ E.c q ++ cur.toList.drop (i * E.k + E.k)).toArray) := by
      have hR := R.size
      cases hq : P.info? E.e with
      | none => simp [hq] at hR
      | some inf =>
        have hinf : inf.size = E.k := by simpa [hq] using hR
        simp only [Nat.add_zero, E.len] at hs
        simp [storeVar, sizeOf, typeInfo, hq, Value.cells, hinf, E.len, hs]
    unfold Oper.wp execOp
    simp only [ho, hx, hy, Instr.storeAt, Instr.sureAddr, Sem.run_bind, Sem.run_pure, Result.andThen_ok, hv]
    refine h _ ⟨by rw [List.length_set, El.cells_len, List.length_set], .inr ⟨g, cap, _, by rw [List.length_set], hb, setRow_heap w g cur _ E.e (0, 0) hg, by rw [List.length_set]; exact hnc, hcm, ?_, ?_⟩⟩ ⟨rfl, rfl, rfl, by simp, fun k _ hk => setRow_other w g k _ (fun e => hk (by simp [e]))⟩ (by simp)
    · simp only [List.size_toArray, List.length_append, List.length_take, List.length_drop, Array.length_toList, E.len]; omega
    · rw [List.length_set, El.cells_set l i hi q, ← htake]
      have hcl : cur.toList.length = cap * E.k := by rw [Array.length_toList, hcsz]
      generalize cur.toList = C at *
      simp only [List.toList_toArray]
      rw [List.take_take, Nat.min_eq_left (by omega), List.drop_take]
      have e1 : (C.take (i * E.k)).length = i * E.k := by rw [List.length_take]; omega
      have e2 : (C.take (i * E.k) ++ E.c q).length = i * E.k + E.k := by rw [List.length_append, e1, E.len]
      rw [List.take_append (l₁ := C.take (i * E.k) ++ E.c q), e2, List.take_of_length_le (by omega : (C.take (i * E.k) ++ E.c q).length ≤ l.length * E.k)]
theorem El.wpList_setAt (R : El.Row E P) {ops : Array Oper} {rest : List Oper} {o : Oper} {a : Act} {w : World} {Q : Exit → Act → World → Prop} (hgd : o.guard = none) (x y : Operand) (ho : o.op = .store E.e x y)
    (B g cap i : Nat) (l : List α) (q : α) (hown : E.Own w B (.slice (some ⟨g, 0, none⟩) l.length cap) l) (hi : i < l.length) (cs : Array Value) (hcs : cs = (E.c q).toArray) (hx : a.eval x = .pointer (some ⟨g, i * E.k, none⟩)) (hy : a.eval y = .agg cs)
    (h : ∀ w', E.Own w' B (.slice (some ⟨g, 0, none⟩) l.length cap) (l.set i q) → w.grownBy w' (some g) → w'.heap.size = w.heap.size → wpList P ops Q rest (a.put o.dst undef) w') : wpList P ops Q (o :: rest) a w :=
  wpList_plain hgd fun _ hK => El.wp_setAt R x y ho B g cap i l q hown hi cs hcs hx hy fun w' h1 h2 h3 => hK _ _ (h w' h1 h2 h3)
end
end Go.Proofs.YtdcjffajmckleaaGreatDoor

/- Trees as lists of places: where a node stands, who is above whom. No program in it. -/
namespace Tre

structure Pl where
  n : Int
  u : Int
  s : ByteArray
def zero : Pl := ⟨0, 0, ⟨#[]⟩⟩
instance : Inhabited Pl := ⟨zero⟩

/-- How many stand ahead of node b. -/
def idx (l : List Pl) (b : Int) : Nat := (l.takeWhile fun p => decide (p.n < b)).length
def Sorted (l : List Pl) : Prop := ∀ i j (hi : i < l.length) (hj : j < l.length), i < j → l[i].n < l[j].n

theorem idx_cons_lt {p : Pl} {l : List Pl} {b : Int} (h : p.n < b) : idx (p :: l) b = idx l b + 1 := by
  unfold idx; rw [List.takeWhile_cons_of_pos (by simpa using h)]; rfl
theorem idx_cons_ge {p : Pl} {l : List Pl} {b : Int} (h : ¬ p.n < b) : idx (p :: l) b = 0 := by
  unfold idx; rw [List.takeWhile_cons_of_neg (by simpa using h)]; rfl
theorem idx_le (l : List Pl) (b : Int) : idx l b ≤ l.length := by
  induction l with
  | nil => exact Nat.le_refl _
  | cons p l ih =>
    by_cases h : p.n < b
    · rw [idx_cons_lt h]; simpa using ih
    · rw [idx_cons_ge h]; exact Nat.zero_le _
theorem idx_before : ∀ (l : List Pl) (b : Int) (i : Nat) (h : i < l.length), i < idx l b → l[i].n < b
  | p :: l, b, i, h, hi => by
    by_cases hp : p.n < b
    · rw [idx_cons_lt hp] at hi
      cases i with
      | zero => exact hp
      | succ i => exact idx_before l b i (by simpa using h) (by omega)
    · rw [idx_cons_ge hp] at hi; omega
theorem idx_at : ∀ (l : List Pl) (b : Int) (h : idx l b < l.length), b ≤ l[idx l b].n
  | p :: l, b, h => by
    by_cases hp : p.n < b
    · have e := idx_cons_lt (l := l) hp
      simp only [e, List.getElem_cons_succ]
      exact idx_at l b (by rw [e] at h; simpa using h)
    · have e := idx_cons_ge (l := l) hp
      simp only [e, List.getElem_cons_zero]; omega
/-- Where all ahead are below b, and all from there on aren't. -/
theorem idx_eq {l : List Pl} {b : Int} {k : Nat} (hk : k ≤ l.length) (h1 : ∀ i (h : i < l.length), i < k → l[i].n < b) (h2 : ∀ (h : k < l.length), b ≤ l[k].n) : k = idx l b := by
  rcases Nat.lt_trichotomy k (idx l b) with h | h | h
  · have hl : k < l.length := Nat.lt_of_lt_of_le h (idx_le l b)
    have := idx_before l b k hl h
    have := h2 hl
    omega
  · exact h
  · have hl : idx l b < l.length := Nat.lt_of_lt_of_le h hk
    have := h1 _ hl h
    have := idx_at l b hl
    omega
theorem idx_self {l : List Pl} (hs : Sorted l) (i : Nat) (h : i < l.length) : idx l l[i].n = i :=
  (idx_eq (Nat.le_of_lt h) (fun j hj hji => hs j i hj h hji) (fun _ => by omega)).symm

/-- A node's place. -/
def get (l : List Pl) (b : Int) : Option Pl := (l[idx l b]?).bind fun p => if p.n = b then some p else none
theorem get_some {l : List Pl} {b : Int} {p : Pl} (h : get l b = some p) : p ∈ l ∧ p.n = b ∧ ∃ h : idx l b < l.length, l[idx l b] = p := by
  unfold get at h
  rw [Option.bind_eq_some_iff] at h
  obtain ⟨q, h1, h2⟩ := h
  by_cases e : q.n = b
  · rw [if_pos e] at h2; cases h2
    obtain ⟨hl, he⟩ := List.getElem?_eq_some_iff.1 h1
    exact ⟨List.mem_of_getElem? h1, e, hl, he⟩
  · rw [if_neg e] at h2; cases h2
theorem get_of {l : List Pl} {b : Int} (h : idx l b < l.length) (e : l[idx l b].n = b) : get l b = some l[idx l b] := by
  unfold get; rw [List.getElem?_eq_getElem h, Option.bind_some, if_pos e]
theorem get_none_end {l : List Pl} {b : Int} (h : ¬ idx l b < l.length) : get l b = none := by
  unfold get; rw [List.getElem?_eq_none (by omega)]; rfl
theorem get_none_other {l : List Pl} {b : Int} (h : idx l b < l.length) (e : ¬ l[idx l b].n = b) : get l b = none := by
  unfold get; rw [List.getElem?_eq_getElem h, Option.bind_some, if_neg e]
theorem get_self {l : List Pl} (hs : Sorted l) (i : Nat) (h : i < l.length) : get l l[i].n = some l[i] := by
  have e := idx_self hs i h
  unfold get; rw [e, List.getElem?_eq_getElem h, Option.bind_some, if_pos rfl]

/-- k steps up. -/
def up (l : List Pl) : Nat → Int → Option Int
  | 0, b => some b
  | k + 1, b => (get l b).bind fun p => up l k p.u
theorem up_add (l : List Pl) : ∀ (m k : Nat) (b : Int), up l (m + k) b = (up l m b).bind (up l k)
  | 0, k, b => by rw [Nat.zero_add]; rfl
  | m + 1, k, b => by
    rw [Nat.succ_add]
    show (get l b).bind (fun p => up l (m + k) p.u) = ((get l b).bind fun p => up l m p.u).bind (up l k)
    rw [Option.bind_assoc]
    congr 1; funext p; exact up_add l m k p.u
/-- At or above, by so many looks. -/
def abv (l : List Pl) : Nat → Int → Int → Bool
  | 0, _, _ => false
  | f + 1, a, b => if a = b then true else match get l b with
    | none => false
    | some p => abv l f a p.u
theorem abv_iff (l : List Pl) (a : Int) : ∀ (f : Nat) (b : Int), abv l f a b = true ↔ ∃ k, k < f ∧ up l k b = some a
  | 0, b => by
    constructor
    · intro h; cases h
    · rintro ⟨k, h, _⟩; omega
  | f + 1, b => by
    unfold abv
    by_cases e : a = b
    · rw [if_pos e]
      exact ⟨fun _ => ⟨0, by omega, by rw [e]; rfl⟩, fun _ => rfl⟩
    · rw [if_neg e]
      rcases hg : get l b with _ | p
      · constructor
        · intro h; cases h
        · rintro ⟨k, hk, hu⟩
          cases k with
          | zero => exact absurd (Option.some.inj hu).symm e
          | succ k => rw [up, hg] at hu; cases hu
      · constructor
        · intro h
          obtain ⟨k, hk, hu⟩ := (abv_iff l a f p.u).1 h
          exact ⟨k + 1, by omega, by rw [up, hg]; exact hu⟩
        · rintro ⟨k, hk, hu⟩
          cases k with
          | zero => exact absurd (Option.some.inj hu).symm e
          | succ k =>
            rw [up, hg] at hu
            exact (abv_iff l a f p.u).2 ⟨k, by omega, hu⟩
def above (l : List Pl) (a b : Int) : Bool := abv l (l.length + 1) a b
/-- No place is at or above its own Up. -/
def NoRing (l : List Pl) : Prop := ∀ p ∈ l, above l p.n p.u = false

theorem pigeon {α : Type} [DecidableEq α] : ∀ (l m : List α), l.Nodup → (∀ x ∈ l, x ∈ m) → l.length ≤ m.length
  | [], _, _, _ => Nat.zero_le _
  | x :: l, m, hn, hs => by
    have hx : x ∈ m := hs x (by simp)
    have hn' := List.nodup_cons.1 hn
    have h := pigeon l (m.erase x) hn'.2 (fun y hy => by
      have hne : y ≠ x := fun e => hn'.1 (e ▸ hy)
      exact (List.mem_erase_of_ne hne).2 (hs y (by simp [hy])))
    rw [List.length_erase_of_mem hx] at h
    have : 0 < m.length := List.length_pos_of_mem hx
    simp only [List.length_cons]; omega

/-- A way up has no more steps than there are places. -/
theorem up_bound {l : List Pl} (hr : NoRing l) {k : Nat} {a b : Int} (h : up l k b = some a) : k ≤ l.length := by
  rcases Nat.lt_or_ge l.length k with hlt | hge
  · exfalso
    -- every step up to k stands
    have stand : ∀ i, i ≤ k → ∃ x, up l i b = some x := fun i hi => by
      have e : k = i + (k - i) := by omega
      rw [e, up_add] at h
      rcases hx : up l i b with _ | x
      · rw [hx] at h; cases h
      · exact ⟨x, rfl⟩
    have place : ∀ i x, i < k → up l i b = some x → ∃ p, get l x = some p ∧ up l (i + 1) b = some p.u := fun i x hi hx => by
      obtain ⟨y, hy⟩ := stand (i + 1) hi
      have hy' := hy
      rw [up_add, hx, Option.bind_some] at hy'
      rcases hg : get l x with _ | p
      · rw [up, hg] at hy'; cases hy'
      · rw [up, hg] at hy'
        exact ⟨p, rfl, by rw [hy]; exact hy'.symm⟩
    let s : Nat → Int := fun i => (up l i b).getD 0
    have hs : ∀ i, i ≤ k → up l i b = some (s i) := fun i hi => by
      obtain ⟨x, hx⟩ := stand i hi
      show up l i b = some ((up l i b).getD 0)
      rw [hx]; rfl
    have unlike : ∀ i j, i < j → j ≤ l.length → s i ≠ s j := fun i j hij hj e => by
      have hi := hs i (by omega)
      have hj' := hs j (by omega)
      obtain ⟨p, hp, hu⟩ := place i _ (by omega) hi
      have hj2 := hj'
      rw [show j = (i + 1) + (j - i - 1) by omega, up_add, hu, Option.bind_some] at hj2
      obtain ⟨hm, hn, _⟩ := get_some hp
      have hf := hr p hm
      have ht : above l p.n p.u = true := (abv_iff l p.n _ p.u).2 ⟨j - i - 1, by omega, by
        rw [hj2, hn, e]
        have : (i + 1) + (j - i - 1) = j := by omega
        rw [this]⟩
      rw [hf] at ht; cases ht
    have nd : ((List.range (l.length + 1)).map s).Nodup := by
      rw [List.nodup_iff_pairwise_ne, List.pairwise_map]
      exact List.Pairwise.imp_of_mem (fun {i j} hi hj hij => unlike i j hij (by have := List.mem_range.1 hj; omega)) List.pairwise_lt_range
    have sub : ∀ x ∈ (List.range (l.length + 1)).map s, x ∈ l.map (·.n) := fun x hx => by
      obtain ⟨i, hi, rfl⟩ := List.mem_map.1 hx
      have hi := List.mem_range.1 hi
      obtain ⟨p, hp, _⟩ := place i _ (by omega) (hs i (by omega))
      obtain ⟨hm, hn, _⟩ := get_some hp
      exact List.mem_map.2 ⟨p, hm, hn⟩
    have := pigeon _ _ nd sub
    simp at this
    omega
  · exact hge
theorem above_iff {l : List Pl} (hr : NoRing l) {a b : Int} : above l a b = true ↔ ∃ k, up l k b = some a := by
  unfold above
  rw [abv_iff]
  exact ⟨fun ⟨k, _, h⟩ => ⟨k, h⟩, fun ⟨k, h⟩ => ⟨k, by have := up_bound hr h; omega, h⟩⟩
theorem up_loop {l : List Pl} {k : Nat} {b : Int} (h : up l k b = some b) : ∀ m, up l (k * m) b = some b
  | 0 => rfl
  | m + 1 => by rw [Nat.mul_succ, up_add, up_loop h m, Option.bind_some, h]
/-- Where what stands behind node b's place begins. -/
def behind (l : List Pl) (b : Int) : Nat := if (get l b).isSome then idx l b + 1 else idx l b
def placedL (l : List Pl) (b : Int) (m : List Pl) : List Pl := (l.take (idx l b) ++ m) ++ l.drop (behind l b)
def putL (l : List Pl) (p : Pl) : List Pl := placedL l p.n [p]
def dropL (l : List Pl) (b : Int) : List Pl := placedL l b []
end Tre

/- A place in a block, a list of places in a slice; Find of the program. -/
namespace Go.Proofs.YtdcjffajmckleaaGreatDoor
open Go.RowKit Tre

/-- From the cell o of block b on a place lies. -/
def AtPl (w : World) (b o : Nat) (p : Pl) : Prop :=
  w.cell? ⟨b, o, none⟩ = some (.int .i64 p.n) ∧ w.cell? ⟨b, o + 1, none⟩ = some (.int .i64 p.u) ∧ w.cell? ⟨b, o + 2, none⟩ = some (.string p.s)
theorem AtPl.below {W w : World} {b o : Nat} {p : Pl} (h : AtPl W b o p) (hb : Below W.heap.size W w) (hl : b < W.heap.size) : AtPl w b o p := by
  unfold AtPl at h ⊢
  rw [(bcell hb).1 _ _ hl, (bcell hb).1 _ _ hl, (bcell hb).1 _ _ hl]; exact h
/-- The slice at A holds these places. -/
def Tr (w : World) (A : Option Addr) (l : List Pl) : Prop :=
  0 < l.length → ∃ b off, A = some ⟨b, off, none⟩ ∧ b < w.heap.size ∧ ∀ i (h : i < l.length), AtPl w b (off + i * 3) l[i]
theorem Tr.below {W w : World} {A : Option Addr} {l : List Pl} (h : Tr W A l) (hb : Below W.heap.size W w) : Tr w A l := fun h0 => by
  obtain ⟨b, off, e, hl, hc⟩ := h h0
  exact ⟨b, off, e, Nat.lt_of_lt_of_le hl hb.size, fun i hi => (hc i hi).below hb hl⟩
theorem Tr.nil (w : World) (A : Option Addr) : Tr w A [] := fun h => by simp at h

theorem nan_any (n : Int) (w : World) : Calls Tryz.prog 143 #[.int .i64 n] w fun e w' => e = .returned (.bool false) ∧ w' = w := by
  go_enter Tryz.func143, Tryz.ntmps143
  go_wp2
  go_ret
  exact ⟨rfl, rfl⟩

def cmp3 (a b : Int) : Int := if a < b then -1 else if b < a then 1 else 0
theorem cmp_any (a b : Int) (w : World) : Calls Tryz.prog 135 #[.int .i64 a, .int .i64 b] w fun e w' => e = .returned (.int .i64 (cmp3 a b)) ∧ w' = w := by
  have c := fun n => nan_any n w
  unfold cmp3
  by_cases h1 : a < b
  · rw [if_pos h1]
    go_enter Tryz.func135, Tryz.ntmps135
    go_wp2_with (go_at_call 143; (with_reducible refine (c _).mono ?_); rintro e w1 ⟨rfl, rfl⟩)
    go_ret
    exact ⟨rfl, rfl⟩
  · rw [if_neg h1]
    by_cases h2 : b < a
    · rw [if_pos h2]
      go_enter Tryz.func135, Tryz.ntmps135
      go_wp2_with (go_at_call 143; (with_reducible refine (c _).mono ?_); rintro e w1 ⟨rfl, rfl⟩)
      go_ret
      exact ⟨rfl, rfl⟩
    · rw [if_neg h2]
      go_enter Tryz.func135, Tryz.ntmps135
      go_wp2_with (go_at_call 143; (with_reducible refine (c _).mono ?_); rintro e w1 ⟨rfl, rfl⟩)
      go_ret
      exact ⟨rfl, rfl⟩

theorem findOne_any (p : Pl) (b : Int) (w : World) : Calls Tryz.prog 134 #[.agg #[.int .i64 p.n, .int .i64 p.u, .string p.s], .int .i64 b] w fun e w' => e = .returned (.int .i64 (cmp3 p.n b)) ∧ Below w.heap.size w w' := by
  have c := fun w => cmp_any p.n b w
  generalize cmp3 p.n b = r at *
  go_enter Tryz.func134, Tryz.ntmps134
  go_wp2_with (go_at_call 135; (with_reducible refine (c _).mono ?_); rintro e w1 ⟨rfl, rfl⟩)
  go_ret
  exact ⟨rfl, below_alloc (Below.refl _ _) _⟩

theorem search_any (A : Option Addr) (cap : Nat) (l : List Pl) (b : Int) (w : World) (hl : l.length ≤ 1000) (hs : Sorted l) (hT : Tr w A l) :
    Calls Tryz.prog 133 #[.slice A l.length cap, .int .i64 b, .func (.func 134) #[] #[]] w fun e w' => e = .returned (.tuple #[.int .i64 (idx l b), .bool (get l b).isSome]) ∧ Below w.heap.size w w' := by
  go_enter Tryz.func133, Tryz.ntmps133
  go_wp2
  go_loopw [9, 10] (fun x y wr => ∃ i j : Nat, i ≤ j ∧ j ≤ l.length ∧ x = .int .i64 i ∧ y = .int .i64 j ∧ (∀ k (h : k < l.length), k < i → l[k].n < b) ∧ (∀ k (h : k < l.length), j ≤ k → b ≤ l[k].n) ∧ Below w.heap.size w wr) (fun x y _ => (intOf y).toNat - (intOf x).toNat)
  case atStart => exact ⟨0, l.length, Nat.zero_le _, Nat.le_refl _, rfl, rfl, fun k h hk => by omega, fun k h hk => by omega, Below.refl _ _⟩
  case round =>
    obtain ⟨i, j, hij, hj, rfl, rfl, hlo, hhi, hnx⟩ := hrel
    by_cases hlt : i < j
    · obtain ⟨bb, off, rfl, hbw, hc⟩ := hT (by omega)
      have hat := (hc ((i + j) / 2) (by omega)).below hnx hbw
      have hsz := hnx.size
      obtain ⟨p, hp⟩ : ∃ p, l[(i + j) / 2]'(by omega) = p := ⟨_, rfl⟩
      rw [hp] at hat
      obtain ⟨q0, q1, q2⟩ := hat
      have C := fun w => findOne_any p b w
      by_cases hcm : p.n < b
      · have e3 : cmp3 p.n b = -1 := by unfold cmp3; rw [if_pos hcm]
        rw [e3] at C
        clear e3 hc
        go_wp2_with (go_at_call 134; (with_reducible refine (C _).mono ?_); rintro e w1 ⟨rfl, hb1⟩)
        go_roundw
        case rel =>
          refine ⟨(i + j) / 2 + 1, j, by omega, hj, by go_num, rfl, fun k h hk => ?_, hhi, below_then hnx hb1⟩
          by_cases e : k = (i + j) / 2
          · subst e; rw [hp]; exact hcm
          · have := hs k ((i + j) / 2) h (by omega) (by omega)
            rw [hp] at this; omega
        case measure => simp [intOf]; omega
      · have e3 : ¬ cmp3 p.n b < 0 := by unfold cmp3; rw [if_neg hcm]; split <;> omega
        generalize cmp3 p.n b = r at *
        clear hc
        go_wp2_with (go_at_call 134; (with_reducible refine (C _).mono ?_); rintro e w1 ⟨rfl, hb1⟩)
        go_roundw
        case rel =>
          refine ⟨i, (i + j) / 2, by omega, by omega, rfl, by go_num, hlo, fun k h hk => ?_, below_then hnx hb1⟩
          by_cases e : k = (i + j) / 2
          · subst e; rw [hp]; omega
          · have := hs ((i + j) / 2) k (by omega) h (by omega)
            rw [hp] at this; omega
        case measure => simp [intOf]; omega
    · obtain rfl : i = j := by omega
      have hix : i = idx l b := idx_eq hj hlo (fun h => hhi i h (Nat.le_refl _))
      by_cases hin : i < l.length
      · obtain ⟨bb, off, rfl, hbw, hc⟩ := hT (by omega)
        have hat := (hc i hin).below hnx hbw
        obtain ⟨p, hp⟩ : ∃ p, l[i]'(by omega) = p := ⟨_, rfl⟩
        rw [hp] at hat
        obtain ⟨q0, q1, q2⟩ := hat
        have C := fun w => findOne_any p b w
        have hg : (Tre.get l b).isSome = decide (cmp3 p.n b = 0) := by
          have h1 : ¬ p.n < b := by have := hhi i hin (Nat.le_refl _); rw [hp] at this; omega
          unfold cmp3
          rw [if_neg h1]
          by_cases e : p.n = b
          · rw [if_neg (by omega), get_of (by omega) (by simp only [← hix]; rw [hp]; exact e)]; rfl
          · rw [if_pos (by omega), get_none_other (by omega) (by simp only [← hix]; rw [hp]; exact e)]; rfl
        have HG := Lib.hid hg
        have HI := Lib.hid hix
        generalize cmp3 p.n b = r at *
        clear hc hg hix hlo hhi
        by_cases hr : r = 0
        · subst hr
          go_wp2_with (go_at_call 134; (with_reducible refine (C _).mono ?_); rintro e w1 ⟨rfl, hb1⟩)
          go_ret2
          exact ⟨by rw [HI.out, HG.out]; rfl, below_then hnx hb1⟩
        · go_wp2_with (go_at_call 134; (with_reducible refine (C _).mono ?_); rintro e w1 ⟨rfl, hb1⟩)
          go_ret2
          exact ⟨by rw [HI.out, HG.out]; simp [hr], below_then hnx hb1⟩
      · go_wp2
        go_ret2
        exact ⟨by rw [get_none_end (by omega), ← hix]; rfl, hnx⟩

theorem find_any (A : Option Addr) (cap : Nat) (l : List Pl) (b : Int) (w : World) (hl : l.length ≤ 1000) (hs : Sorted l) (hT : Tr w A l) :
    Calls Tryz.prog 121 #[.slice A l.length cap, .int .i64 b] w fun e w' => e = .returned (.tuple #[.int .i64 (idx l b), .bool (get l b).isSome]) ∧ Below w.heap.size w w' := by
  have C := search_any A cap l b w hl hs hT
  go_enter Tryz.func121, Tryz.ntmps121
  go_wp2_with (go_at_call 133; (with_reducible refine C.mono ?_); rintro e w1 ⟨rfl, hb1⟩)
  go_ret2
  exact ⟨rfl, hb1⟩
end Go.Proofs.YtdcjffajmckleaaGreatDoor

/- Find of the document; Get and Above of both. -/
namespace Go.Proofs.YtdcjffajmckleaaGreatDoor
open Go.RowKit Tre

/-- A place has a block of its own. -/
def PlIn (w : World) (b : Nat) (p : Pl) : Prop := w.heap[b]? = some (.cells #[.int .i64 p.n, .int .i64 p.u, .string p.s] 50 (0, 0))
section
variable {w w' : World} {b : Nat} {p : Pl}
theorem PlIn.lt (h : PlIn w b p) : b < w.heap.size := by
  rcases Nat.lt_or_ge b w.heap.size with hlt | hge
  · exact hlt
  · unfold PlIn at h; rw [Array.getElem?_eq_none hge] at h; cases h
theorem PlIn.cells (h : PlIn w b p) : w.cell? ⟨b, 0, none⟩ = some (.int .i64 p.n) ∧ w.cell? ⟨b, 1, none⟩ = some (.int .i64 p.u) ∧ w.cell? ⟨b, 2, none⟩ = some (.string p.s) :=
  ⟨cell_of_row w b 0 _ 50 (0, 0) h, cell_of_row w b 1 _ 50 (0, 0) h, cell_of_row w b 2 _ 50 (0, 0) h⟩
theorem PlIn.frozen (h : PlIn w b p) (i : Nat) : w.frozen? ⟨b, i, none⟩ = false := by
  unfold PlIn at h
  simp [World.frozen?, h]
theorem PlIn.new (w : World) (p : Pl) : PlIn (w.alloc (.cells #[.int .i64 p.n, .int .i64 p.u, .string p.s] 50)) w.heap.size p := heap_alloc_new w _
theorem PlIn.below (h : PlIn w b p) (hg : Below w.heap.size w w') : PlIn w' b p := (hg.block b h.lt).trans h
theorem PlIn.keep {row : Option Nat} (h : PlIn w b p) (hg : w.grownBy w' row) (hne : some b ≠ row) : PlIn w' b p := (hg.block b h.lt hne).trans h
theorem PlIn.set (h : PlIn w b p) (q : Pl) : PlIn (w.setRow b #[.int .i64 q.n, .int .i64 q.u, .string q.s]) b q := setRow_heap _ _ _ _ _ _ h
theorem below_setRow {W w : World} (h : Below W.heap.size W w) {n : Nat} (hn : W.heap.size ≤ n) (cs : Array Value) : Below W.heap.size W (w.setRow n cs) :=
  ⟨h.os, h.tape, h.output, by simpa [World.setRow] using h.size, fun k hk => (setRow_other w n k cs (by omega)).trans (h.block k hk)⟩
theorem PlIn.alloc (h : PlIn w b p) (o : Obj) : PlIn (w.alloc o) b p := h.below (below_alloc (Below.refl _ _) o)
end
theorem pl_size : (Tryz.prog.info? 50).map (·.size) = some 3 := by kernel_rfl
theorem store_pl {ops : Array Oper} {rest : List Oper} {o : Oper} {a : Act} {w : World} {Q : Exit → Act → World → Prop} (hgd : o.guard = none) (x y : Operand) (ho : o.op = .store 50 x y)
    (b : Nat) (q : Pl) (hx : a.eval x = .pointer (some ⟨b, 0, none⟩)) (hy : a.eval y = .agg #[.int .i64 q.n, .int .i64 q.u, .string q.s])
    (p : Pl) (hg : PlIn w b p)
    (h : wpList Tryz.prog ops Q rest (a.put o.dst undef) (w.setRow b #[.int .i64 q.n, .int .i64 q.u, .string q.s])) : wpList Tryz.prog ops Q (o :: rest) a w :=
  wpList_store_row hgd 50 x y ho b _ hx hy 50 _ hg pl_size rfl (by simp [Value.oneCell']) h
theorem loadVar_pl {w : World} {b : Nat} {p : Pl} (h : PlIn w b p) : (loadVar 50 ⟨b, 0, none⟩).run Tryz.prog w = .ok (.agg #[.int .i64 p.n, .int .i64 p.u, .string p.s]) w :=
  run_loadVar_row w b 50 50 _ (0, 0) _ h Tryz.underlying50 rfl pl_size
/-- Two results, a place and a word. -/
theorem ret_pl2 {fn : Func} {R : Ending → World → Prop} {a : Act} {w : World} {b : Nat} {t u : Tmp} {v : Value} {p : Pl} (h : PlIn w b p) (hr : fn.results = #[.cell t 50, .tmp u]) (hp : a.tmps.getD t undef = .pointer (some ⟨b, 0, none⟩)) (hv : a.tmps.getD u undef = v) (hd : a.defers = [])
    (hR : R (.returned (.tuple #[.agg #[.int .i64 p.n, .int .i64 p.u, .string p.s], v])) w) : bodyPost Tryz.prog fn R .ret a w := by
  refine bodyPost_ret (v := .tuple #[.agg #[.int .i64 p.n, .int .i64 p.u, .string p.s], v]) ?_ hd hR
  rw [results_cell_tmp hr, hp, hv]
  simp only [asAddr, Sem.run_pure, Result.andThen, loadVar_pl h]

theorem isSome_get {l : List Pl} {b : Int} {p : Pl} (hp : (Tre.get l b).getD zero = p) (hi : (Tre.get l b).isSome = true) : Tre.get l b = some p ∧ ∃ h : idx l b < l.length, l[idx l b] = p := by
  rcases h : Tre.get l b with _ | q
  · rw [h] at hi; cases hi
  · rw [h] at hp
    obtain rfl : q = p := hp
    exact ⟨rfl, (get_some h).2.2⟩
theorem none_get {l : List Pl} {b : Int} {p : Pl} (hp : (Tre.get l b).getD zero = p) (hi : (Tre.get l b).isSome = false) : p = zero := by
  rw [← hp]
  rcases h : Tre.get l b with _ | q
  · rfl
  · rw [h] at hi; cases hi

theorem get_any (A : Option Addr) (cap : Nat) (l : List Pl) (b : Int) (w : World) (hl : l.length ≤ 1000) (hs : Sorted l) (hT : Tr w A l) (p : Pl) (is : Bool) (hp : (Tre.get l b).getD zero = p) (hi : (Tre.get l b).isSome = is) :
    Calls Tryz.prog 105 #[.slice A l.length cap, .int .i64 b] w fun e w' => e = .returned (.tuple #[.agg #[.int .i64 p.n, .int .i64 p.u, .string p.s], .bool is]) ∧ Below w.heap.size w w' := by
  have C := fun w (hT : Tr w A l) => find_any A cap l b w hl hs hT
  rw [hi] at C
  have hT1 := fun o => hT.below (below_alloc (Below.refl _ _) o)
  cases is
  · obtain rfl := none_get hp hi
    go_enter Tryz.func105, Tryz.ntmps105
    go_wp2_with fail
    refine (C _ (hT1 _)).mono ?_
    rintro e w1 ⟨rfl, hb1⟩
    have hz := (PlIn.new w zero).below hb1
    have hn := (below_alloc (Below.refl _ w) (.cells #[.int .i64 zero.n, .int .i64 zero.u, .string zero.s] 50)).trans (hb1.mono (by simp))
    clear hb1
    go_wp2_with (refine store_pl rfl _ _ rfl _ zero rfl rfl zero hz ?_)
    exact ret_pl2 (hz.set zero) rfl rfl rfl rfl ⟨rfl, below_setRow hn (Nat.le_refl _) _⟩
  · obtain ⟨_, hx, hpx⟩ := isSome_get hp hi
    generalize idx l b = ix at *
    obtain ⟨bb, off, rfl, hbw, hc⟩ := hT (by omega)
    have hat := hc ix hx
    rw [hpx] at hat
    clear hpx hc
    go_enter Tryz.func105, Tryz.ntmps105
    go_wp2_with fail
    refine (C _ (hT1 _)).mono ?_
    rintro e w1 ⟨rfl, hb1⟩
    have hz := (PlIn.new w zero).below hb1
    have hn := (below_alloc (Below.refl _ w) (.cells #[.int .i64 zero.n, .int .i64 zero.u, .string zero.s] 50)).trans (hb1.mono (by simp))
    have hat := hat.below hn hbw
    obtain ⟨q0, q1, q2⟩ := hat
    have hlt := Nat.lt_of_lt_of_le hbw hn.size
    clear hb1
    go_wp2_with (refine store_pl rfl _ _ rfl _ p rfl rfl zero hz ?_)
    exact ret_pl2 (hz.set p) rfl rfl rfl rfl ⟨rfl, below_setRow hn (Nat.le_refl _) _⟩

theorem above_any (A : Option Addr) (cap : Nat) (l : List Pl) (a b : Int) (w : World) (hl : l.length ≤ 1000) (hs : Sorted l) (hT : Tr w A l) :
    Calls Tryz.prog 104 #[.slice A l.length cap, .int .i64 a, .int .i64 b] w fun e w' => e = .returned (.bool (above l a b)) ∧ Below w.heap.size w w' := by
  have C := fun w b p is (hT : Tr w A l) hp hi => get_any A cap l b w hl hs hT p is hp hi
  go_enter Tryz.func104, Tryz.ntmps104
  go_wp2
  go_loopw [2, 12] (fun x y wr => ∃ (c : Int) (k : Nat), k ≤ l.length + 1 ∧ x = .int .i64 c ∧ y = .int .i64 k ∧ abv l (l.length + 1 - k) a c = above l a b ∧ Below w.heap.size w wr) (fun _ y _ => l.length + 1 - (intOf y).toNat)
  case atStart => exact ⟨b, 0, Nat.zero_le _, rfl, rfl, rfl, Below.refl _ _⟩
  case round =>
    obtain ⟨c, k, hk, rfl, rfl, hab, hnx⟩ := hrel
    by_cases hlt : k < l.length + 1
    · obtain ⟨f, hf⟩ : ∃ f, l.length + 1 - k = f + 1 := ⟨l.length - k, by omega⟩
      rw [hf] at hab
      by_cases he : a = c
      · subst he
        have ht : above l a b = true := by rw [← hab]; unfold abv; rw [if_pos rfl]
        have HT := Lib.hid ht
        clear hab ht hf
        go_wp2
        go_ret
        exact ⟨by rw [HT.out]; rfl, hnx⟩
      · have hTr := hT.below hnx
        obtain ⟨p, hp⟩ : ∃ p, (Tre.get l c).getD zero = p := ⟨_, rfl⟩
        obtain ⟨is, hi⟩ : ∃ is, (Tre.get l c).isSome = is := ⟨_, rfl⟩
        have C := C wr c p is hTr hp hi
        cases is
        · have ht : above l a b = false := by
            rw [← hab]; unfold abv; rw [if_neg he]
            rcases h : Tre.get l c with _ | q
            · rfl
            · rw [h] at hi; cases hi
          have HT := Lib.hid ht
          clear hab ht hp hi hf
          go_wp2_with (go_at_call 105; (with_reducible refine C.mono ?_); rintro e w1 ⟨rfl, hb1⟩)
          go_ret
          exact ⟨by rw [HT.out]; rfl, below_alloc (below_then hnx hb1) _⟩
        · have ht : abv l f a p.u = above l a b := by
            rw [← hab]; conv => rhs; unfold abv
            rw [if_neg he, (isSome_get hp hi).1]
          have HT := Lib.hid ht
          have HF := Lib.hid hf
          clear hab ht hp hi hf
          go_wp2_with (go_at_call 105; (with_reducible refine C.mono ?_); rintro e w1 ⟨rfl, hb1⟩)
          go_roundw
          case rel =>
            have hf := HF.out
            exact ⟨p.u, k + 1, by omega, rfl, by go_num, by rw [← HT.out]; congr 1; omega, below_alloc (below_then hnx hb1) _⟩
          case measure => simp [intOf]; omega
    · obtain ⟨rfl⟩ : k = l.length + 1 := by omega
      have ht : above l a b = false := by rw [← hab, Nat.sub_self]; rfl
      have HT := Lib.hid ht
      clear hab ht
      go_wp2
      go_ret
      exact ⟨by rw [HT.out]; rfl, hnx⟩

end Go.Proofs.YtdcjffajmckleaaGreatDoor

/- A list of places of the call's own: what append makes of it. Grow and Concat of the library. -/
namespace Go.Proofs.YtdcjffajmckleaaGreatDoor
open Go.RowKit Tre

def plCells : List Pl → List Value
  | [] => []
  | p :: l => .int .i64 p.n :: .int .i64 p.u :: .string p.s :: plCells l
theorem plCells_len : ∀ l, (plCells l).length = l.length * 3
  | [] => rfl
  | p :: l => by simp only [plCells, List.length_cons, plCells_len l]; omega
theorem plCells_app : ∀ l r, plCells (l ++ r) = plCells l ++ plCells r
  | [], r => rfl
  | p :: l, r => by simp only [plCells, List.cons_append, plCells_app l r]
theorem plCells_one : ∀ (l : List Pl), ∀ u ∈ plCells l, u.oneCell' = true
  | [], u, h => by cases h
  | p :: l, u, h => by
    simp only [plCells, List.mem_cons] at h
    rcases h with rfl | rfl | rfl | h
    · rfl
    · rfl
    · rfl
    · exact plCells_one l u h
theorem plCells_at : ∀ (l : List Pl) (i : Nat) (h : i < l.length), (plCells l)[i * 3]? = some (.int .i64 l[i].n) ∧ (plCells l)[i * 3 + 1]? = some (.int .i64 l[i].u) ∧ (plCells l)[i * 3 + 2]? = some (.string l[i].s)
  | p :: l, 0, _ => ⟨rfl, rfl, rfl⟩
  | p :: l, i + 1, h => by
    have := plCells_at l i (by simpa using h)
    rw [show (i + 1) * 3 = i * 3 + 3 by omega]
    exact this
theorem plCells_get : ∀ (l : List Pl) (j : Nat) (u : Value), (plCells l)[j]? = some u → ∃ i, ∃ h : i < l.length, (j = i * 3 ∧ u = .int .i64 l[i].n) ∨ (j = i * 3 + 1 ∧ u = .int .i64 l[i].u) ∨ (j = i * 3 + 2 ∧ u = .string l[i].s)
  | [], j, u, h => by simp [plCells] at h
  | p :: l, 0, u, h => ⟨0, by simp, Or.inl ⟨rfl, by simpa [plCells] using h.symm⟩⟩
  | p :: l, 1, u, h => ⟨0, by simp, Or.inr (Or.inl ⟨rfl, by simpa [plCells] using h.symm⟩)⟩
  | p :: l, 2, u, h => ⟨0, by simp, Or.inr (Or.inr ⟨rfl, by simpa [plCells] using h.symm⟩)⟩
  | p :: l, j + 3, u, h => by
    obtain ⟨i, hi, hc⟩ := plCells_get l j u h
    refine ⟨i + 1, by simpa using hi, ?_⟩
    rcases hc with ⟨e, hu⟩ | ⟨e, hu⟩ | ⟨e, hu⟩
    · exact Or.inl ⟨by omega, by simpa using hu⟩
    · exact Or.inr (Or.inl ⟨by omega, by simpa using hu⟩)
    · exact Or.inr (Or.inr ⟨by omega, by simpa using hu⟩)

/-- The slice v holds these places, in a row that the call has made. -/
def Own (w : World) (B : Nat) (v : Value) (l : List Pl) : Prop := w.ownsRow B 50 3 v l.length (plCells l)
theorem Own.nil (w : World) (B : Nat) : Own w B (.slice none 0 0) [] := World.ownsRow_nil w B 50 3
theorem Own.kept {w w' : World} {B : Nat} {v : Value} {l : List Pl} {row : Option Nat} (h : Own w B v l) (hg : w.grownBy w' row) (hne : v.ownBlock = none ∨ v.ownBlock ≠ row) : Own w' B v l := World.ownsRow.kept h hg hne
theorem Own.below {w w' : World} {B : Nat} {v : Value} {l : List Pl} (h : Own w B v l) (hb : Below w.heap.size w w') : Own w' B v l :=
  World.ownsRow.kept h (row := none) ⟨hb.os, hb.tape, hb.output, hb.size, fun k hk _ => hb.block k hk⟩ (by cases hv : v.ownBlock <;> simp)
theorem add_lit (b o j : Nat) : (⟨b, o, none⟩ : Addr).add j = ⟨b, o + j, none⟩ := Addr.add_lit b o j
theorem Own.tr {w : World} {B : Nat} {v : Value} {l : List Pl} (h : Own w B v l) : ∃ A cap, v = .slice A l.length cap ∧ Tr w A l ∧ (A = none → cap = 0) ∧ l.length ≤ cap := by
  have hc := fun g (hg : v.ownBlock = some g) => World.ownsRow.cells h hg
  have hlt := World.ownsRow.lt h
  unfold Own at h
  rcases h.2 with ⟨rfl, h0⟩ | ⟨g, cap, cur, rfl, _, _, hnc, _⟩
  · have : l = [] := List.eq_nil_of_length_eq_zero h0
    subst this
    exact ⟨none, 0, rfl, Tr.nil w none, fun _ => rfl, Nat.le_refl _⟩
  · refine ⟨some ⟨g, 0, none⟩, cap, rfl, fun _ => ⟨g, 0, rfl, (hlt g rfl).2, fun i hi => ?_⟩, (fun e => by cases e), hnc⟩
    obtain ⟨h0, h1, h2⟩ := plCells_at l i hi
    have k0 := hc g rfl _ _ h0
    have k1 := hc g rfl _ _ h1
    have k2 := hc g rfl _ _ h2
    rw [add_lit] at k0 k1 k2
    exact ⟨k0, k1, k2⟩
/-- It lies from B on. -/
def Frs (B : Nat) (A : Option Addr) : Prop := ∀ a, A = some a → B ≤ a.block
theorem Frs.mono {B B' : Nat} {A : Option Addr} (h : Frs B A) (hB : B' ≤ B) : Frs B' A := fun a e => Nat.le_trans hB (h a e)
theorem Own.frs {w : World} {B n c : Nat} {A : Option Addr} {l : List Pl} (h : Own w B (.slice A n c) l) : Frs B A := fun a e => (World.ownsRow.lt h a.block (by rw [e]; rfl)).1
theorem Tr.cells {w : World} {a : Addr} {l : List Pl} (h : Tr w (some a) l) : ∀ j u, (plCells l)[j]? = some u → w.cell? (a.add j) = some u := by
  intro j u hu
  obtain ⟨i, hi, hc⟩ := plCells_get l j u hu
  obtain ⟨b, off, e, _, hat⟩ := h (by omega)
  obtain rfl := Option.some.inj e
  obtain ⟨a0, a1, a2⟩ := hat i hi
  rw [add_lit]
  rcases hc with ⟨rfl, rfl⟩ | ⟨rfl, rfl⟩ | ⟨rfl, rfl⟩
  · exact a0
  · exact a1
  · exact a2
theorem Tr.none_nil {w : World} {l : List Pl} (h : Tr w none l) : l = [] := by
  rcases Nat.eq_zero_or_pos l.length with h0 | h0
  · exact List.eq_nil_of_length_eq_zero h0
  · obtain ⟨_, _, e, _⟩ := h h0; cases e

theorem pl_info : (Tryz.prog.info? 50).map (fun i => (i.zero, i.size, i.bytes)) = some (some (.agg #[.int .i64 0, .int .i64 0, .string ⟨#[]⟩]), 3, 32) := by kernel_rfl

theorem run_app (w : World) (ty : TypeId) (B : Nat) (v : Value) (l r : List Pl) (hown : Own w B v l) (A : Option Addr) (m c : Nat) (hm : r.length = m) (hT : Tr w A r) (hc : A = none → c = 0) (hl : l.length + r.length ≤ 1000) (hB : B ≤ w.heap.size) :
    ∃ v' w', (Builtin.append_ #[22, 22] ty #[v, .slice A m c]).run Tryz.prog w = .ok v' w' ∧ Own w' B v' (l ++ r) ∧ w.grownBy w' v.ownBlock ∧ (v'.ownBlock = v.ownBlock ∨ v'.ownBlock = some w.heap.size) := by
  subst hm
  obtain ⟨i, hi, hz, hz1, hz2⟩ := info_parts pl_info
  cases A with
  | none =>
    obtain rfl := hT.none_nil
    obtain rfl := hc rfl
    refine ⟨v, w, run_append_owned_none (P := Tryz.prog) (w := w) B 22 ty 50 i 3 Tryz.underlying22 hi v l.length (plCells l) hown, ?_, ⟨rfl, rfl, rfl, Nat.le_refl _, fun _ _ _ => rfl⟩, Or.inl rfl⟩
    rw [List.append_nil]; exact hown
  | some a =>
    obtain ⟨v', w', h1, h2, h3, _, h5⟩ := run_append_own_at (P := Tryz.prog) w B 22 ty 50 i _ 3 32 Tryz.underlying22 hi hz hz1 hz2 rfl (by decide) v l.length (plCells l) hown a r.length c (plCells r) (plCells_len r) hT.cells (plCells_one r) (by unfold maxLen; omega) (by omega) hB
    refine ⟨v', w', h1, ?_, h3, h5⟩
    unfold Own
    rw [List.length_append, plCells_app]; exact h2

theorem wp_app {o : Oper} {a : Act} {w : World} {K : Act → World → Prop} {Q : Exit → Act → World → Prop} (s x : Operand)
    (ho : o.op = .call { callee := .builtin .append, args := #[s, x], argTypes := #[22, 22] }) (B : Nat) (v : Value) (l r : List Pl) (hs : a.eval s = v) (hown : Own w B v l) (A : Option Addr) (m c : Nat) (hx : a.eval x = .slice A m c)
    (hm : r.length = m) (hT : Tr w A r) (hc : A = none → c = 0) (hl : l.length + r.length ≤ 1000) (hB : B ≤ w.heap.size)
    (h : ∀ v' w', Own w' B v' (l ++ r) → w.grownBy w' v.ownBlock → (v'.ownBlock = v.ownBlock ∨ v'.ownBlock = some w.heap.size) → K (a.put o.dst v') w') : o.wp Tryz.prog a w K Q := by
  obtain ⟨v', w', hr, h2, h3, h4⟩ := run_app w o.type B v l r hown A m c hm hT hc hl hB
  unfold Oper.wp execOp
  simp only [ho, resolve, invoke, builtin, Sem.run_bind, Sem.run_pure, Result.andThen_ok, List.map_toArray, List.map_cons, List.map_nil, hs, hx, hr]
  exact h v' w' h2 h3 h4
theorem wpList_app {ops : Array Oper} {rest : List Oper} {o : Oper} {a : Act} {w : World} {Q : Exit → Act → World → Prop} (hgd : o.guard = none) (s x : Operand)
    (ho : o.op = .call { callee := .builtin .append, args := #[s, x], argTypes := #[22, 22] }) (B : Nat) (v : Value) (l r : List Pl) (hs : a.eval s = v) (hown : Own w B v l) (A : Option Addr) (m c : Nat) (hx : a.eval x = .slice A m c)
    (hm : r.length = m) (hT : Tr w A r) (hc : A = none → c = 0) (hl : l.length + r.length ≤ 1000) (hB : B ≤ w.heap.size)
    (h : ∀ v' w', Own w' B v' (l ++ r) → w.grownBy w' v.ownBlock → (v'.ownBlock = v.ownBlock ∨ v'.ownBlock = some w.heap.size) → wpList Tryz.prog ops Q rest (a.put o.dst v') w') : wpList Tryz.prog ops Q (o :: rest) a w :=
  wpList_plain hgd fun _ hK => wp_app s x ho B v l r hs hown A m c hx hm hT hc hl hB fun v' w' h2 h3 h4 => hK _ _ (h v' w' h2 h3 h4)

set_option maxRecDepth 100000 in
theorem grow_any (B n : Nat) (w : World) (hn : n ≤ 1000) (hB : B ≤ w.heap.size) :
    Calls Tryz.prog 144 #[.slice none 0 0, .int .i64 n] w fun e w' => ∃ v, e = .returned v ∧ Own w' B v [] ∧ Below w.heap.size w w' := by
  by_cases h0 : n = 0
  · subst h0
    go_enter Tryz.func144, Tryz.ntmps144
    go_wp2
    go_ret
    exact ⟨_, rfl, Own.nil _ B, Below.refl _ _⟩
  · obtain ⟨i, hi, hz, hz1, hz2⟩ := info_parts pl_info
    have hr := fun ty => Lib.run_append_nil_zeros (P := Tryz.prog) w 22 3 ty 50 i _ .i64 .i64 Tryz.underlying22 Tryz.underlying3 hi hz n (by omega) (by omega) (by omega) (by rw [hz2]; omega)
    have hg1 : n ≤ grownCap w n 0 50 := grownCap_ge w n 0 _
    have hg2 : grownCap w n 0 50 ≤ maxLen := grownCap_le_maxLen w n 0 50 (by unfold maxLen; omega)
    have hown : Own (w.drew.alloc (.cells (Builtin.zeroCells (Value.agg #[.int .i64 0, .int .i64 0, .string ⟨#[]⟩]).cells n ++ Builtin.zeroCells (Value.agg #[.int .i64 0, .int .i64 0, .string ⟨#[]⟩]).cells (grownCap w n 0 50 - n)) 50)) B (.slice (some ⟨w.heap.size, 0, none⟩) 0 (grownCap w n 0 50)) [] := by
      refine World.ownsRow_made w.drew _ (grownCap w n 0 50) hB hg2 ?_
      rw [Array.size_append, size_zeroCells, size_zeroCells]
      show n * 3 + (grownCap w n 0 50 - n) * 3 = _
      omega
    have hnx : Below w.heap.size w (w.drew.alloc (.cells (Builtin.zeroCells (Value.agg #[.int .i64 0, .int .i64 0, .string ⟨#[]⟩]).cells n ++ Builtin.zeroCells (Value.agg #[.int .i64 0, .int .i64 0, .string ⟨#[]⟩]).cells (grownCap w n 0 50 - n)) 50)) := below_alloc (Below.refl _ w).drew _
    generalize grownCap w n 0 50 = cap at *
    generalize w.drew.alloc (.cells (Builtin.zeroCells (Value.agg #[.int .i64 0, .int .i64 0, .string ⟨#[]⟩]).cells n ++ Builtin.zeroCells (Value.agg #[.int .i64 0, .int .i64 0, .string ⟨#[]⟩]).cells (cap - n)) 50) = W at *
    go_enter Tryz.func144, Tryz.ntmps144
    go_wp2_with (at_builtin; refine Lib.wpList_append_run _ rfl _ _ 22 3 rfl _ _ rfl rfl _ _ (hr _) ?_)
    go_wp2
    go_ret
    exact ⟨_, rfl, hown, hnx⟩
end Go.Proofs.YtdcjffajmckleaaGreatDoor

/- Concat of the library; Put and Drop of the program. -/
namespace Go.Proofs.YtdcjffajmckleaaGreatDoor
open Go.RowKit Tre

def catP (F : Nat → List Pl) : Nat → List Pl
  | 0 => []
  | k + 1 => catP F k ++ F k
theorem catP_le (F : Nat → List Pl) (k : Nat) : ∀ n, k ≤ n → (catP F k).length ≤ (catP F n).length
  | 0, h => by obtain rfl : k = 0 := by omega
               exact Nat.le_refl _
  | n + 1, h => by
    by_cases e : k = n + 1
    · subst e; exact Nat.le_refl _
    · have := catP_le F k n (by omega)
      rw [catP, List.length_append]; omega

set_option maxRecDepth 100000 in
theorem concat_any (sb : Nat) (F : Nat → List Pl) (A : Nat → Option Addr) (C : Nat → Nat) (w : World) (hcell : ∀ j, j < 3 → w.cell? ⟨sb, j, none⟩ = some (.slice (A j) (F j).length (C j)))
    (hT : ∀ j, j < 3 → Tr w (A j) (F j)) (hc : ∀ j, j < 3 → A j = none → C j = 0) (hl : (catP F 3).length ≤ 1000) (hsb : sb < w.heap.size) :
    Calls Tryz.prog 136 #[.slice (some ⟨sb, 0, none⟩) 3 3] w fun e w' => ∃ A' cap', e = .returned (.slice A' (catP F 3).length cap') ∧ Tr w' A' (catP F 3) ∧ (A' = none → cap' = 0) ∧ (catP F 3).length ≤ cap' ∧ Frs w.heap.size A' ∧ Below w.heap.size w w' := by
  have CG := fun n hn => grow_any w.heap.size n w hn (Nat.le_refl _)
  have hle := fun k h => catP_le F k 3 h
  have HCL := Lib.hid hcell
  have HTT := Lib.hid hT
  have HCC := Lib.hid hc
  clear hcell hT hc
  go_enter Tryz.func136, Tryz.ntmps136
  go_wp2
  go_loop [3, 11] (fun x y => ∃ k : Nat, k ≤ 3 ∧ y = .int .i64 k ∧ x = .int .i64 (catP F k).length) (fun _ y => 3 - (intOf y).toNat)
  case atStart => exact ⟨0, Nat.zero_le _, rfl, rfl⟩
  case round =>
    obtain ⟨k, hk, rfl, rfl⟩ := hrel
    by_cases hlt : k < 3
    · have h1 := HCL.out k hlt
      have h2 := hle (k + 1) hlt
      have h3 : (catP F (k + 1)).length = (catP F k).length + (F k).length := by rw [catP, List.length_append]
      have H3 := Lib.hid h3
      have h4 : (catP F k).length + (F k).length ≤ 1000 := by omega
      generalize (catP F k).length = n at *
      generalize (F k).length = m at *
      clear h3
      go_wp2
      go_round
      case rel => exact ⟨k + 1, by omega, by go_num, by rw [H3.out]; go_num⟩
      case measure => simp [intOf]; omega
    · obtain rfl : k = 3 := by omega
      have CG := CG _ hl
      go_wp2_with fail
      refine CG.mono ?_
      rintro e w1 ⟨v, rfl, hown, hb1⟩
      clear CG
      go_wp2
      go_loopw [6, 27] (fun x y wr => ∃ (k : Nat) (v : Value), k ≤ 3 ∧ y = .int .i64 k ∧ x = v ∧ Own wr w.heap.size v (catP F k) ∧ Below w.heap.size w wr) (fun _ y _ => 3 - (intOf y).toNat)
      case atStart => exact ⟨0, v, Nat.zero_le _, rfl, rfl, hown, hb1⟩
      case round =>
        clear hown hb1
        obtain ⟨k, v, hk, rfl, rfl, hown, hnx⟩ := hrel
        by_cases hlt : k < 3
        · have h1 := HCL.out k hlt
          rw [← (bcell hnx).1 _ _ hsb] at h1
          have h2 := hle (k + 1) hlt
          have h3 : (catP F (k + 1)).length = (catP F k).length + (F k).length := by rw [catP, List.length_append]
          have hTk := (HTT.out k hlt).below hnx
          have hck := HCC.out k hlt
          have hB := hnx.size
          go_wp2_with (at_builtin; refine wpList_app rfl _ _ rfl w.heap.size _ (catP F k) (F k) rfl hown (A k) _ (C k) rfl rfl hTk hck (by omega) hB ?_; intro v' w2 hown2 hg2 _)
          go_roundw
          case rel => exact ⟨k + 1, v', by omega, by go_num, rfl, hown2, hnx.grown hg2 hB (fun j hj => (World.ownsRow.lt hown j hj).1)⟩
          case measure => simp [intOf]; omega
        · obtain rfl : k = 3 := by omega
          obtain ⟨A', cap', rfl, hT', hc', hlc⟩ := hown.tr
          go_wp2
          go_ret
          exact ⟨A', cap', rfl, hT', hc', hlc, hown.frs, hnx⟩
end Go.Proofs.YtdcjffajmckleaaGreatDoor

/- Put and Drop of the program. -/
namespace Go.Proofs.YtdcjffajmckleaaGreatDoor
open Go.RowKit Tre

theorem behind_le (l : List Pl) (b : Int) : idx l b ≤ behind l b ∧ behind l b ≤ l.length := by
  unfold behind
  have h := idx_le l b
  split
  · rename_i hi
    rcases hg : Tre.get l b with _ | p
    · rw [hg] at hi; cases hi
    · obtain ⟨_, _, h1, _⟩ := get_some hg; omega
  · omega

theorem Tr.take {w : World} {A : Option Addr} {l : List Pl} (h : Tr w A l) (k : Nat) : Tr w A (l.take k) := fun h0 => by
  have hk : (l.take k).length ≤ l.length := by rw [List.length_take]; omega
  obtain ⟨b, off, e, hb, hc⟩ := h (by omega)
  exact ⟨b, off, e, hb, fun i hi => by rw [List.getElem_take]; exact hc i (by omega)⟩
theorem Tr.drop {w : World} {A A3 : Option Addr} {l : List Pl} {cap tz : Nat} (h : Tr w A l) (hcap : l.length ≤ cap) (he : (if cap = tz then A else Option.map (fun x => x.add (tz * 3)) A) = A3) : Tr w A3 (l.drop tz) := fun h0 => by
  rw [List.length_drop] at h0
  obtain ⟨b, off, e, hb, hc⟩ := h (by omega)
  rw [if_neg (by omega), e] at he
  refine ⟨b, off + tz * 3, by rw [← he]; simp [add_lit], hb, fun i hi => ?_⟩
  rw [List.length_drop] at hi
  rw [List.getElem_drop, show off + tz * 3 + i * 3 = off + (tz + i) * 3 by omega]
  exact hc _ (by omega)
theorem drop_none {A A3 : Option Addr} {cap tz : Nat} (hn : A = none → cap = 0) (he : (if cap = tz then A else Option.map (fun x => x.add (tz * 3)) A) = A3) (h : A3 = none) : cap - tz = 0 := by
  by_cases e : cap = tz
  · omega
  · rw [if_neg e, h, Option.map_eq_none_iff] at he
    have := hn he; omega

theorem concat3 (w : World) (A1 A2 A3 : Option Addr) (n1 c1 n2 c2 n3 c3 : Nat) (l1 l2 l3 : List Pl) (h1 : l1.length = n1) (h2 : l2.length = n2) (h3 : l3.length = n3) (t1 : Tr w A1 l1) (t2 : Tr w A2 l2) (t3 : Tr w A3 l3)
    (z1 : A1 = none → c1 = 0) (z2 : A2 = none → c2 = 0) (z3 : A3 = none → c3 = 0) (hl : n1 + n2 + n3 ≤ 1000) :
    Calls Tryz.prog 136 #[.slice (some ⟨w.heap.size, 0, none⟩) 3 3] (w.alloc (.cells #[.slice A1 n1 c1, .slice A2 n2 c2, .slice A3 n3 c3] 22)) fun e w' =>
      ∃ A' cap', e = .returned (.slice A' ((l1 ++ l2) ++ l3).length cap') ∧ Tr w' A' ((l1 ++ l2) ++ l3) ∧ (A' = none → cap' = 0) ∧ ((l1 ++ l2) ++ l3).length ≤ cap' ∧ Frs w.heap.size A' ∧ Below w.heap.size w w' := by
  subst h1 h2 h3
  have hb := below_alloc (Below.refl _ w) (.cells #[.slice A1 l1.length c1, .slice A2 l2.length c2, .slice A3 l3.length c3] 22)
  have hcell := fun j => Lib.cell_of_heap (heap_alloc_new w (.cells #[.slice A1 l1.length c1, .slice A2 l2.length c2, .slice A3 l3.length c3] 22)) j
  have he : catP (fun | 0 => l1 | 1 => l2 | _ => l3) 3 = (l1 ++ l2) ++ l3 := by
    show ((([] ++ l1) ++ l2) ++ l3) = _
    rw [List.nil_append]
  have C := concat_any w.heap.size (fun | 0 => l1 | 1 => l2 | _ => l3) (fun | 0 => A1 | 1 => A2 | _ => A3) (fun | 0 => c1 | 1 => c2 | _ => c3) _
    (fun j hj => (hcell j).trans (by match j, hj with | 0, _ => rfl | 1, _ => rfl | 2, _ => rfl))
    (fun j hj => match j, hj with | 0, _ => t1.below hb | 1, _ => t2.below hb | 2, _ => t3.below hb)
    (fun j hj => match j, hj with | 0, _ => z1 | 1, _ => z2 | 2, _ => z3)
    (by rw [he, List.length_append, List.length_append]; omega) (by simp)
  rw [he] at C
  refine C.mono ?_
  rintro e w' ⟨A', cap', he, ht, hz, hlc, hfr, hbb⟩
  exact ⟨A', cap', he, ht, hz, hlc, hfr.mono (by simp), below_then hb hbb⟩

set_option maxRecDepth 100000 in
theorem placed_any (A : Option Addr) (cap : Nat) (l : List Pl) (b : Int) (A2 : Option Addr) (mn cap2 : Nat) (m : List Pl) (w : World) (hmn : m.length = mn) (hl : l.length ≤ 900) (hs : Sorted l) (hT : Tr w A l) (hcap : l.length ≤ cap) (hn : A = none → cap = 0)
    (hm : mn ≤ 1) (hT2 : Tr w A2 m) (hn2 : A2 = none → cap2 = 0) :
    Calls Tryz.prog 122 #[.slice A l.length cap, .int .i64 b, .slice A2 mn cap2] w fun e w' => ∃ A' cap', e = .returned (.slice A' (placedL l b m).length cap') ∧ Tr w' A' (placedL l b m) ∧ (A' = none → cap' = 0) ∧ (placedL l b m).length ≤ cap' ∧ Frs w.heap.size A' ∧ Below w.heap.size w w' := by
  have hbl := behind_le l b
  have C := find_any A cap l b w (by omega) hs hT
  have hbe : behind l b = if (Tre.get l b).isSome then idx l b + 1 else idx l b := rfl
  unfold placedL
  generalize behind l b = tz at *
  generalize (Tre.get l b).isSome = is at *
  generalize idx l b = ix at *
  obtain ⟨A3, hA3⟩ : ∃ A3, (if cap = tz then A else Option.map (fun x => x.add (tz * 3)) A) = A3 := ⟨_, rfl⟩
  have h0 : (0 : Int) ≤ (ix : Int) := by omega
  have h1 : (ix : Int) ≤ (cap : Int) := by omega
  have h2 : (0 : Int) ≤ (tz : Int) := by omega
  have h3 : (tz : Int) ≤ (l.length : Int) := by omega
  have hT3 := hT.drop hcap hA3
  have hz3 := drop_none hn hA3
  have htk := hT.take ix
  have e1 : (l.take ix).length = ix := by rw [List.length_take]; omega
  have e3 : (l.drop tz).length = l.length - tz := List.length_drop
  have CC := fun (w1 : World) (hb : Below w.heap.size w w1) => concat3 w1 A A2 A3 ix cap mn cap2 (l.length - tz) (cap - tz) _ _ _ e1 hmn e3 (htk.below hb) (hT2.below hb) (hT3.below hb) hn hn2 hz3 (by omega)
  have HC := Lib.hid CC
  generalize ((l.take ix ++ m) ++ l.drop tz) = R at *
  clear CC hT3 hz3 htk e1 e3 hT hT2 hn hn2 hs
  cases is
  · obtain rfl : tz = ix := by simpa using hbe
    clear hbe
    go_enter Tryz.func122, Tryz.ntmps122
    go_wp2_with (go_at_call 121; (with_reducible refine C.mono ?_); rintro e w1 ⟨rfl, hb1⟩)
    go_still_tail 7, (by kernel_rfl)
    have hb2 : Below w.heap.size w w1.drew := hb1.drew
    change wpList _ _ _ _ _ w1.drew
    generalize w1.drew = w2 at *
    go_wp2_with (go_at_call 136; (with_reducible refine (HC.out w2 hb2).mono ?_); rintro e w3 ⟨A', cap', rfl, ht, hz, hlc, hfr, hb3⟩)
    go_ret
    exact ⟨A', cap', rfl, ht, hz, hlc, hfr.mono hb2.size, below_then hb2 hb3⟩
  · have hto : (ix : Int) + 1 = (tz : Int) := by have : tz = ix + 1 := by simpa using hbe
                                                 omega
    clear hbe
    go_enter Tryz.func122, Tryz.ntmps122
    go_wp2_with (go_at_call 121; (with_reducible refine C.mono ?_); rintro e w1 ⟨rfl, hb1⟩)
    go_still_tail 7, (by kernel_rfl)
    have hb2 : Below w.heap.size w w1.drew := hb1.drew
    change wpList _ _ _ _ _ w1.drew
    generalize w1.drew = w2 at *
    go_wp2_with (go_at_call 136; (with_reducible refine (HC.out w2 hb2).mono ?_); rintro e w3 ⟨A', cap', rfl, ht, hz, hlc, hfr, hb3⟩)
    go_ret
    exact ⟨A', cap', rfl, ht, hz, hlc, hfr.mono hb2.size, below_then hb2 hb3⟩

theorem AtPl.one {w : World} {b : Nat} {p : Pl} (h : PlIn w b p) : Tr w (some ⟨b, 0, none⟩) [p] := fun _ =>
  ⟨b, 0, rfl, h.lt, fun i hi => by
    obtain rfl : i = 0 := by simpa using hi
    exact h.cells⟩
theorem put_any (A : Option Addr) (cap : Nat) (l : List Pl) (p : Pl) (w : World) (hl : l.length ≤ 900) (hs : Sorted l) (hT : Tr w A l) (hcap : l.length ≤ cap) (hn : A = none → cap = 0) :
    Calls Tryz.prog 106 #[.slice A l.length cap, .agg #[.int .i64 p.n, .int .i64 p.u, .string p.s]] w fun e w' => ∃ A' cap', e = .returned (.slice A' (putL l p).length cap') ∧ Tr w' A' (putL l p) ∧ (A' = none → cap' = 0) ∧ (putL l p).length ≤ cap' ∧ Frs w.heap.size A' ∧ Below w.heap.size w w' := by
  have C := fun (w1 : World) (A2 : Option Addr) (hb : Below w.heap.size w w1) (h2 : Tr w1 A2 [p]) (hn2 : A2 = none → 1 = 0) => placed_any A cap l p.n A2 1 1 [p] w1 rfl hl hs (hT.below hb) hcap hn (Nat.le_refl _) h2 hn2
  have HC := Lib.hid C
  clear C hs hT hcap hn
  unfold putL
  generalize placedL l p.n [p] = R at *
  go_enter Tryz.func106, Tryz.ntmps106
  go_wp2_with fail
  have hb1 := below_alloc (Below.refl _ w) (.cells #[.int .i64 p.n, .int .i64 p.u, .string p.s] 50)
  have hb2 := below_alloc hb1 (.cells #[.int .i64 p.n, .int .i64 p.u, .string p.s] 50)
  have h1 := AtPl.one (PlIn.new (w.alloc (.cells #[.int .i64 p.n, .int .i64 p.u, .string p.s] 50)) p)
  rw [alloc_size] at h1
  refine (HC.out _ _ hb2 h1 (fun e => by cases e)).mono ?_
  rintro e w3 ⟨A', cap', rfl, ht, hz, hlc, hfr, hb3⟩
  go_wp2
  go_ret
  exact ⟨A', cap', rfl, ht, hz, hlc, hfr.mono hb2.size, below_then hb2 hb3⟩

theorem drop_any (A : Option Addr) (cap : Nat) (l : List Pl) (b : Int) (w : World) (hl : l.length ≤ 900) (hs : Sorted l) (hT : Tr w A l) (hcap : l.length ≤ cap) (hn : A = none → cap = 0) :
    Calls Tryz.prog 107 #[.slice A l.length cap, .int .i64 b] w fun e w' => ∃ A' cap', e = .returned (.slice A' (dropL l b).length cap') ∧ Tr w' A' (dropL l b) ∧ (A' = none → cap' = 0) ∧ (dropL l b).length ≤ cap' ∧ Frs w.heap.size A' ∧ Below w.heap.size w w' := by
  have C := placed_any A cap l b none 0 0 [] w rfl hl hs hT hcap hn (Nat.zero_le _) (Tr.nil w none) (fun _ => rfl)
  unfold dropL
  generalize placedL l b [] = R at *
  go_enter Tryz.func107, Tryz.ntmps107
  go_wp2_with (go_at_call 122; (with_reducible refine C.mono ?_); rintro e w3 ⟨A', cap', rfl, ht, hz, hlc, hfr, hb3⟩)
  go_ret
  exact ⟨A', cap', rfl, ht, hz, hlc, hfr, hb3⟩
end Go.Proofs.YtdcjffajmckleaaGreatDoor

/- Put and Drop of the document. -/
namespace Go.Proofs.YtdcjffajmckleaaGreatDoor
open Go.RowKit Tre

theorem step_app {ops : Array Oper} {o : Oper} {a : Act} {w : World} {K : Act → World → Prop} {Q : Exit → Act → World → Prop} {E : Prop} (hgd : o.guard = none) (s x : Operand)
    (ho : o.op = .call { callee := .builtin .append, args := #[s, x], argTypes := #[22, 22] }) (B : Nat) (v : Value) (l r : List Pl) (hs : a.eval s = v) (hown : Own w B v l) (A : Option Addr) (m c : Nat) (hx : a.eval x = .slice A m c)
    (hm : r.length = m) (hT : Tr w A r) (hc : A = none → c = 0) (hl : l.length + r.length ≤ 1000) (hB : B ≤ w.heap.size)
    (h : ∀ v' w', Own w' B v' (l ++ r) → w.grownBy w' v.ownBlock → (v'.ownBlock = v.ownBlock ∨ v'.ownBlock = some w.heap.size) → K (a.put o.dst v') w') :
    if Region.wanted o (yielded ops a.tmps) = true then Oper.wp Tryz.prog o a w K Q else E := by
  rw [if_pos (by simp [Region.wanted, hgd])]
  exact wp_app s x ho B v l r hs hown A m c hx hm hT hc hl hB h

/-- The slice at A holds these places, in a block ahead of B. -/
def TrB (B : Nat) (w : World) (A : Option Addr) (l : List Pl) : Prop :=
  0 < l.length → ∃ b off, A = some ⟨b, off, none⟩ ∧ b < B ∧ ∀ i (h : i < l.length), AtPl w b (off + i * 3) l[i]
theorem TrB.of {B : Nat} {w : World} {A : Option Addr} {l : List Pl} (h : Tr w A l) (hB : w.heap.size ≤ B) : TrB B w A l := fun h0 => by
  obtain ⟨b, off, e, hl, hc⟩ := h h0
  exact ⟨b, off, e, by omega, hc⟩
theorem TrB.tr {B : Nat} {w : World} {A : Option Addr} {l : List Pl} (h : TrB B w A l) (hB : B ≤ w.heap.size) : Tr w A l := fun h0 => by
  obtain ⟨b, off, e, hl, hc⟩ := h h0
  exact ⟨b, off, e, by omega, hc⟩
theorem AtPl.grown {w w' : World} {b o : Nat} {p : Pl} {row : Option Nat} (h : AtPl w b o p) (hg : w.grownBy w' row) (hne : some b ≠ row) : AtPl w' b o p :=
  ⟨hg.cell h.1 hne, hg.cell h.2.1 hne, hg.cell h.2.2 hne⟩
theorem TrB.keep {B : Nat} {w w' : World} {A : Option Addr} {l : List Pl} {row : Option Nat} (h : TrB B w A l) (hg : w.grownBy w' row) (hrow : ∀ k, row = some k → B ≤ k) : TrB B w' A l := fun h0 => by
  obtain ⟨b, off, e, hl, hc⟩ := h h0
  exact ⟨b, off, e, hl, fun i hi => (hc i hi).grown hg (fun e => by have := hrow b e.symm; omega)⟩
theorem TrB.alloc {B : Nat} {w : World} {A : Option Addr} {l : List Pl} (h : TrB B w A l) (hB : B ≤ w.heap.size) (o : Obj) : TrB B (w.alloc o) A l :=
  h.keep (World.grownBy_alloc w o none) (fun k e => by cases e)
end Go.Proofs.YtdcjffajmckleaaGreatDoor

/- Trees as sorted lists: what put, drop and a move make of them. No program in it. -/
namespace Tre

theorem sorted_pw {l : List Pl} : Sorted l ↔ l.Pairwise (fun p q => p.n < q.n) := by
  rw [List.pairwise_iff_getElem]
  exact ⟨fun h i j hi hj hij => h i j hi hj hij, fun h i j hi hj hij => h i j hi hj hij⟩
theorem get_iff {l : List Pl} (hs : Sorted l) {b : Int} {p : Pl} : get l b = some p ↔ p ∈ l ∧ p.n = b := by
  constructor
  · intro h
    obtain ⟨h1, h2, _⟩ := get_some h
    exact ⟨h1, h2⟩
  · rintro ⟨h, rfl⟩
    obtain ⟨i, hi, rfl⟩ := List.getElem_of_mem h
    exact get_self hs i hi
theorem sorted_one {l : List Pl} (hs : Sorted l) {p q : Pl} (hp : p ∈ l) (hq : q ∈ l) (h : p.n = q.n) : p = q := by
  have h1 := (get_iff hs).2 ⟨hp, h⟩
  have h2 := (get_iff hs).2 ⟨hq, rfl⟩
  rw [h1] at h2
  exact Option.some.inj h2
theorem sorted_ext : ∀ {l m : List Pl}, Sorted l → Sorted m → (∀ q, q ∈ l ↔ q ∈ m) → l = m
  | [], [], _, _, _ => rfl
  | [], q :: m, _, _, h => absurd ((h q).2 (by simp)) (by simp)
  | p :: l, [], _, _, h => absurd ((h p).1 (by simp)) (by simp)
  | p :: l, q :: m, hl, hm, h => by
    have hl' := List.pairwise_cons.1 (sorted_pw.1 hl)
    have hm' := List.pairwise_cons.1 (sorted_pw.1 hm)
    have e : p = q := by
      rcases List.mem_cons.1 ((h p).1 (by simp)) with e | e
      · exact e
      · rcases List.mem_cons.1 ((h q).2 (by simp)) with e2 | e2
        · exact e2.symm
        · have a := hm'.1 p e
          have b := hl'.1 q e2
          omega
    subst e
    congr 1
    refine sorted_ext (sorted_pw.2 hl'.2) (sorted_pw.2 hm'.2) fun r => ⟨fun hr => ?_, fun hr => ?_⟩
    · rcases List.mem_cons.1 ((h r).1 (by simp [hr])) with e | e
      · subst e; have := hl'.1 r hr; omega
      · exact e
    · rcases List.mem_cons.1 ((h r).2 (by simp [hr])) with e | e
      · subst e; have := hm'.1 r hr; omega
      · exact e
theorem sorted_ext_get {l m : List Pl} (hl : Sorted l) (hm : Sorted m) (h : ∀ b, get l b = get m b) : l = m :=
  sorted_ext hl hm fun q => by
    constructor
    · intro hq
      exact ((get_iff hm).1 ((h q.n).symm.trans ((get_iff hl).2 ⟨hq, rfl⟩))).1
    · intro hq
      exact ((get_iff hl).1 ((h q.n).trans ((get_iff hm).2 ⟨hq, rfl⟩))).1

theorem take_before (l : List Pl) (b : Int) : ∀ q ∈ l.take (idx l b), q.n < b := fun q hq => by
  obtain ⟨i, hi, rfl⟩ := List.getElem_of_mem hq
  rw [List.length_take] at hi
  rw [List.getElem_take]
  exact idx_before l b i (by omega) (by omega)
theorem drop_behind {l : List Pl} (hs : Sorted l) (b : Int) : ∀ q ∈ l.drop (behind l b), b < q.n := fun q hq => by
  obtain ⟨i, hi, rfl⟩ := List.getElem_of_mem hq
  rw [List.length_drop] at hi
  rw [List.getElem_drop]
  have hto : behind l b = if (get l b).isSome then idx l b + 1 else idx l b := rfl
  generalize behind l b = tz at *
  rcases hg : get l b with _ | p
  · rw [hg] at hto
    obtain rfl : tz = idx l b := by simpa using hto
    have hl : idx l b < l.length := by omega
    have h1 := idx_at l b hl
    have h2 : ¬ l[idx l b].n = b := fun e => by rw [get_of hl e] at hg; cases hg
    by_cases e : i = 0
    · subst e; simp only [Nat.add_zero]; omega
    · have := hs (idx l b) (idx l b + i) hl (by omega) (by omega)
      omega
  · obtain ⟨_, hn, hl, he⟩ := get_some hg
    rw [hg] at hto
    obtain rfl : tz = idx l b + 1 := by simpa using hto
    have := hs (idx l b) (idx l b + 1 + i) hl (by omega) (by omega)
    rw [he] at this
    omega
theorem mem_sides {l : List Pl} (hs : Sorted l) (b : Int) (q : Pl) : (q ∈ l.take (idx l b) ∨ q ∈ l.drop (behind l b)) ↔ (q ∈ l ∧ q.n ≠ b) := by
  constructor
  · rintro (h | h)
    · have := take_before l b q h
      exact ⟨List.mem_of_mem_take h, by omega⟩
    · have := drop_behind hs b q h
      exact ⟨List.mem_of_mem_drop h, by omega⟩
  · rintro ⟨h, hn⟩
    obtain ⟨i, hi, rfl⟩ := List.getElem_of_mem h
    by_cases h1 : i < idx l b
    · exact Or.inl (List.mem_take_iff_getElem.2 ⟨i, by omega, rfl⟩)
    · right
      have hb : behind l b ≤ i := by
        unfold behind
        rcases hg : get l b with _ | p
        · simp; omega
        · obtain ⟨_, hp, hl, he⟩ := get_some hg
          simp
          by_cases e : i = idx l b
          · subst e; rw [he] at hn; exact absurd hp hn
          · omega
      exact List.mem_drop_iff_getElem.2 ⟨i - behind l b, by omega, by congr 1; omega⟩
theorem sorted_placed {l : List Pl} (hs : Sorted l) (b : Int) (m : List Pl) (hm : ∀ q ∈ m, q.n = b) (h1 : m.length ≤ 1) : Sorted (placedL l b m) := by
  have hp := sorted_pw.1 hs
  refine sorted_pw.2 ?_
  unfold placedL
  have hmp : m.Pairwise (fun p q => p.n < q.n) := by
    match m, h1 with
    | [], _ => exact List.Pairwise.nil
    | [q], _ => exact List.pairwise_singleton _ _
  rw [List.pairwise_append, List.pairwise_append]
  refine ⟨⟨hp.sublist (List.take_sublist _ _), hmp, fun p hp q hq => ?_⟩, hp.sublist (List.drop_sublist _ _), fun p hp q hq => ?_⟩
  · have := take_before l b p hp
    have := hm q hq
    omega
  · have h2 := drop_behind hs b q hq
    rcases List.mem_append.1 hp with h | h
    · have := take_before l b p h; omega
    · have := hm p h; omega
theorem sorted_put {l : List Pl} (hs : Sorted l) (p : Pl) : Sorted (putL l p) := sorted_placed hs p.n [p] (fun q hq => by rw [List.mem_singleton] at hq; rw [hq]) (Nat.le_refl _)
theorem sorted_drop {l : List Pl} (hs : Sorted l) (b : Int) : Sorted (dropL l b) := sorted_placed hs b [] (fun q hq => by cases hq) (Nat.zero_le _)
theorem mem_put {l : List Pl} (hs : Sorted l) (p q : Pl) : q ∈ putL l p ↔ (q = p ∨ (q ∈ l ∧ q.n ≠ p.n)) := by
  unfold putL placedL
  rw [List.mem_append, List.mem_append, List.mem_singleton, ← mem_sides hs p.n q]
  constructor
  · rintro ((h | h) | h)
    · exact Or.inr (Or.inl h)
    · exact Or.inl h
    · exact Or.inr (Or.inr h)
  · rintro (h | h | h)
    · exact Or.inl (Or.inr h)
    · exact Or.inl (Or.inl h)
    · exact Or.inr h
theorem mem_drop {l : List Pl} (hs : Sorted l) (b : Int) (q : Pl) : q ∈ dropL l b ↔ (q ∈ l ∧ q.n ≠ b) := by
  unfold dropL placedL
  rw [List.append_nil, List.mem_append, mem_sides hs b q]
theorem get_put {l : List Pl} (hs : Sorted l) (p : Pl) (b : Int) : get (putL l p) b = if b = p.n then some p else get l b := by
  have hp := sorted_put hs p
  by_cases e : b = p.n
  · rw [if_pos e]
    exact (get_iff hp).2 ⟨(mem_put hs p p).2 (Or.inl rfl), e.symm⟩
  · rw [if_neg e]
    rcases h : get l b with _ | q
    · rcases h2 : get (putL l p) b with _ | r
      · rfl
      · obtain ⟨hm, hn⟩ := (get_iff hp).1 h2
        rcases (mem_put hs p r).1 hm with e2 | ⟨h3, _⟩
        · subst e2; exact absurd hn.symm e
        · rw [(get_iff hs).2 ⟨h3, hn⟩] at h; cases h
    · obtain ⟨hm, hn⟩ := (get_iff hs).1 h
      exact (get_iff hp).2 ⟨(mem_put hs p q).2 (Or.inr ⟨hm, by omega⟩), hn⟩
theorem get_drop {l : List Pl} (hs : Sorted l) (a b : Int) : get (dropL l a) b = if b = a then none else get l b := by
  have hp := sorted_drop hs a
  rcases h2 : get (dropL l a) b with _ | r
  · by_cases e : b = a
    · rw [if_pos e]
    · rw [if_neg e]
      rcases h : get l b with _ | q
      · rfl
      · obtain ⟨hm, hn⟩ := (get_iff hs).1 h
        rw [(get_iff hp).2 ⟨(mem_drop hs a q).2 ⟨hm, by omega⟩, hn⟩] at h2; cases h2
  · obtain ⟨hm, hn⟩ := (get_iff hp).1 h2
    obtain ⟨h3, h4⟩ := (mem_drop hs a r).1 hm
    rw [if_neg (by omega), (get_iff hs).2 ⟨h3, hn⟩]
theorem put_back {l : List Pl} (hs : Sorted l) {p q : Pl} (hq : get l p.n = some q) : putL (putL l p) q = l := by
  obtain ⟨_, hn⟩ := (get_iff hs).1 hq
  refine sorted_ext_get (sorted_put (sorted_put hs p) q) hs fun b => ?_
  rw [get_put (sorted_put hs p), get_put hs]
  by_cases e : b = q.n
  · rw [if_pos e, e, hn, hq]
  · rw [if_neg e, if_neg (by omega)]
theorem drop_put {l : List Pl} (hs : Sorted l) {p : Pl} (hq : get l p.n = none) : dropL (putL l p) p.n = l := by
  refine sorted_ext_get (sorted_drop (sorted_put hs p) _) hs fun b => ?_
  rw [get_drop (sorted_put hs p), get_put hs]
  by_cases e : b = p.n
  · rw [if_pos e, e, hq]
  · rw [if_neg e, if_neg e]

/-- No way leads from a node to itself. -/
def Acyc (l : List Pl) : Prop := ∀ k b, 0 < k → ¬ up l k b = some b
theorem acyc_of {l : List Pl} (hr : NoRing l) : Acyc l := fun k b hk h => by
  have h1 := up_loop h (l.length + 1)
  have h2 := up_bound hr h1
  have : l.length + 1 ≤ k * (l.length + 1) := Nat.le_mul_of_pos_left _ hk
  omega
theorem noRing_of {l : List Pl} (hs : Sorted l) (ha : Acyc l) : NoRing l := fun p hp => by
  rcases h : above l p.n p.u with _ | _
  · rfl
  · unfold above at h
    obtain ⟨k, _, hk⟩ := (abv_iff l p.n _ p.u).1 h
    refine absurd ?_ (ha (k + 1) p.n (Nat.succ_pos k))
    rw [up, (get_iff hs).2 ⟨hp, rfl⟩]
    exact hk
theorem least {P : Nat → Prop} : ∀ j, P j → ∃ j, P j ∧ ∀ i, i < j → ¬ P i := by
  intro j
  induction j using Nat.strongRecOn with
  | ind j ih =>
    intro hj
    by_cases h : ∃ i, i < j ∧ P i
    · obtain ⟨i, hi, hp⟩ := h
      exact ih i hi hp
    · exact ⟨j, hj, fun i hi hp => h ⟨i, hi, hp⟩⟩
/-- A way that doesn't come by K is one of the other tree, too. -/
theorem up_avoid {l m : List Pl} {K : Int} (hg : ∀ b, ¬ b = K → get m b = get l b) : ∀ (j : Nat) (c : Int), (∀ i, i < j → ¬ up m i c = some K) → up m j c = up l j c
  | 0, c, _ => rfl
  | j + 1, c, h => by
    have hc : ¬ c = K := fun e => h 0 (Nat.succ_pos j) (by rw [e]; rfl)
    rw [up, up, hg c hc]
    rcases hq : get l c with _ | q
    · rfl
    · rw [Option.bind_some, Option.bind_some]
      refine up_avoid hg j q.u fun i hi e => h (i + 1) (by omega) ?_
      rw [up, hg c hc, hq, Option.bind_some]; exact e
theorem put_noRing {l : List Pl} (hs : Sorted l) (hr : NoRing l) {p : Pl} (hu : above l p.n p.u = false) : NoRing (putL l p) := by
  have hp := sorted_put hs p
  refine noRing_of hp fun k b hk h => ?_
  have hg : ∀ c, ¬ c = p.n → get (putL l p) c = get l c := fun c hc => by rw [get_put hs, if_neg hc]
  by_cases hv : ∃ i, i < k ∧ up (putL l p) i b = some p.n
  · obtain ⟨i, hi, hb⟩ := hv
    have h1 : up (putL l p) (k - i) p.n = some b := by
      have : up (putL l p) (i + (k - i)) b = some b := by rw [show i + (k - i) = k by omega]; exact h
      rw [up_add, hb, Option.bind_some] at this
      exact this
    have h2 : up (putL l p) ((k - i) + i) p.n = some p.n := by rw [up_add, h1, Option.bind_some]; exact hb
    obtain ⟨m, hm⟩ : ∃ m, (k - i) + i = m + 1 := ⟨k - 1, by omega⟩
    rw [hm, up, get_put hs, if_pos rfl, Option.bind_some] at h2
    obtain ⟨j, hj, hl⟩ := least (P := fun j => up (putL l p) j p.u = some p.n) m h2
    have h3 := up_avoid hg j p.u hl
    rw [hj] at h3
    have h4 := (above_iff hr).2 ⟨j, h3.symm⟩
    rw [hu] at h4; cases h4
  · have h3 := up_avoid hg k b (fun i hi e => hv ⟨i, hi, e⟩)
    rw [h] at h3
    exact acyc_of hr k b hk h3.symm

/-- What undoes a move: what was, whether it had a place, whether it did anything. -/
structure Un where
  was : Pl
  had : Bool
  did : Bool
def noUn : Un := ⟨zero, false, false⟩
/-- A tree behind a move of p's node to p. -/
def doL (l : List Pl) (p : Pl) : List Pl × Un := if above l p.n p.u = true then (l, noUn) else (putL l p, ⟨(get l p.n).getD zero, (get l p.n).isSome, true⟩)
def backL (l : List Pl) (b : Int) (u : Un) : List Pl := if u.did = true then (if u.had = true then putL l u.was else dropL l b) else l
theorem back_do {l : List Pl} (hs : Sorted l) (p : Pl) : backL (doL l p).1 p.n (doL l p).2 = l := by
  unfold doL
  by_cases h : above l p.n p.u = true
  · rw [if_pos h]; rfl
  · rw [if_neg h]
    unfold backL
    rw [if_pos rfl]
    rcases hg : get l p.n with _ | q
    · simp only [Option.isSome_none, Bool.false_eq_true, if_false]
      exact drop_put hs hg
    · simp only [Option.isSome_some, if_true, Option.getD_some]
      exact put_back hs hg
theorem do_sorted {l : List Pl} (hs : Sorted l) (p : Pl) : Sorted (doL l p).1 := by
  unfold doL
  split
  · exact hs
  · exact sorted_put hs p
theorem do_noRing {l : List Pl} (hs : Sorted l) (hr : NoRing l) (p : Pl) : NoRing (doL l p).1 := by
  unfold doL
  by_cases h : above l p.n p.u = true
  · rw [if_pos h]; exact hr
  · rw [if_neg h]; exact put_noRing hs hr (by simpa using h)
theorem do_mem {l : List Pl} (hs : Sorted l) (p : Pl) {P : Pl → Prop} (hl : ∀ q ∈ l, P q) (hp : P p) : ∀ q ∈ (doL l p).1, P q := by
  unfold doL
  split
  · exact hl
  · intro q hq
    rcases (mem_put hs p q).1 hq with rfl | ⟨h, _⟩
    · exact hp
    · exact hl q h

/-- A tree behind moves, one by one, and what undoes each. -/
def foldL (l : List Pl) : List Pl → List Pl × List Un
  | [] => (l, [])
  | p :: ps => ((foldL (doL l p).1 ps).1, (doL l p).2 :: (foldL (doL l p).1 ps).2)
theorem foldL_app (l : List Pl) : ∀ (a b : List Pl), foldL l (a ++ b) = ((foldL (foldL l a).1 b).1, (foldL l a).2 ++ (foldL (foldL l a).1 b).2)
  | [], b => rfl
  | p :: a, b => by
    show foldL l (p :: (a ++ b)) = _
    rw [foldL, foldL_app (doL l p).1 a b]
    rfl
theorem foldL_len (l : List Pl) : ∀ (a : List Pl), (foldL l a).2.length = a.length := by
  intro a
  induction a generalizing l with
  | nil => rfl
  | cons p a ih => show ((doL l p).2 :: _).length = _; rw [List.length_cons, ih, List.length_cons]
theorem foldL_snoc (l a : List Pl) (p : Pl) : foldL l (a ++ [p]) = ((doL (foldL l a).1 p).1, (foldL l a).2 ++ [(doL (foldL l a).1 p).2]) := foldL_app l a [p]
theorem foldL_sorted {l : List Pl} (hs : Sorted l) (a : List Pl) : Sorted (foldL l a).1 := by
  induction a generalizing l with
  | nil => exact hs
  | cons p a ih => exact ih (do_sorted hs p)
theorem foldL_noRing {l : List Pl} (hs : Sorted l) (hr : NoRing l) (a : List Pl) : NoRing (foldL l a).1 := by
  induction a generalizing l with
  | nil => exact hr
  | cons p a ih => exact ih (do_sorted hs p) (do_noRing hs hr p)
theorem foldL_mem {l : List Pl} (hs : Sorted l) {P : Pl → Prop} (a : List Pl) (hl : ∀ q ∈ l, P q) (ha : ∀ q ∈ a, P q) : ∀ q ∈ (foldL l a).1, P q := by
  induction a generalizing l with
  | nil => exact hl
  | cons p a ih => exact ih (do_sorted hs p) (do_mem hs p hl (ha p (by simp))) (fun q hq => ha q (by simp [hq]))
theorem foldL_take (l a : List Pl) (j : Nat) (h : j < a.length) : foldL l (a.take (j + 1)) = ((doL (foldL l (a.take j)).1 a[j]).1, (foldL l (a.take j)).2 ++ [(doL (foldL l (a.take j)).1 a[j]).2]) := by
  rw [List.take_succ_eq_append_getElem h, foldL_snoc]
/-- What undoes the move at j. -/
theorem foldL_un : ∀ (l a : List Pl) (j : Nat) (h : j < a.length), (foldL l a).2[j]? = some (doL (foldL l (a.take j)).1 a[j]).2
  | l, p :: a, 0, _ => rfl
  | l, p :: a, j + 1, h => foldL_un (doL l p).1 a j (by simpa using h)
theorem foldL_undo {l : List Pl} (hs : Sorted l) (a : List Pl) (j : Nat) (h : j < a.length) : backL (foldL l (a.take (j + 1))).1 a[j].n (doL (foldL l (a.take j)).1 a[j]).2 = (foldL l (a.take j)).1 := by
  rw [foldL_take l a j h]; exact back_do (foldL_sorted hs _) _
end Tre

/- Places, operations and undos as elements; Clone of the library; Do and Back of both. -/
namespace Go.Proofs.YtdcjffajmckleaaGreatDoor
open Go.RowKit Tre Cod

def plE : El Pl where
  e := 50
  k := 3
  c p := [.int .i64 p.n, .int .i64 p.u, .string p.s]
  len _ := rfl
  one p u h := by
    simp only [List.mem_cons, List.not_mem_nil, or_false] at h
    rcases h with rfl | rfl | rfl <;> rfl
  pos := by decide
def opE : El Mv where
  e := 55
  k := 7
  c m := [.int .i64 m.C, .int .i64 m.D, .int .i64 m.I, .int .i64 m.M, .int .i64 m.K, .int .i64 m.U, .string m.s]
  len _ := rfl
  one p u h := by
    simp only [List.mem_cons, List.not_mem_nil, or_false] at h
    rcases h with rfl | rfl | rfl | rfl | rfl | rfl | rfl <;> rfl
  pos := by decide
def unE : El Un where
  e := 118
  k := 5
  c u := [.int .i64 u.was.n, .int .i64 u.was.u, .string u.was.s, .bool u.had, .bool u.did]
  len _ := rfl
  one p u h := by
    simp only [List.mem_cons, List.not_mem_nil, or_false] at h
    rcases h with rfl | rfl | rfl | rfl | rfl <;> rfl
  pos := by decide
theorem plInn : plE.Inn Tryz.prog 22 := El.inn_of (z := .agg #[.int .i64 0, .int .i64 0, .string ⟨#[]⟩]) (bytes := 32) Tryz.underlying22 (by kernel_rfl) rfl (by decide)
theorem opInn : opE.Inn Tryz.prog 31 := El.inn_of (z := .agg #[.int .i64 0, .int .i64 0, .int .i64 0, .int .i64 0, .int .i64 0, .int .i64 0, .string ⟨#[]⟩]) (bytes := 64) Tryz.underlying31 (by kernel_rfl) rfl (by decide)
theorem unInn : unE.Inn Tryz.prog 38 := El.inn_of (z := .agg #[.int .i64 0, .int .i64 0, .string ⟨#[]⟩, .bool false, .bool false]) (bytes := 40) Tryz.underlying38 (by kernel_rfl) rfl (by decide)
theorem plRow : plE.Row Tryz.prog := ⟨by kernel_rfl, _, Tryz.underlying50, rfl⟩
theorem opRow : opE.Row Tryz.prog := ⟨by kernel_rfl, _, Tryz.underlying55, rfl⟩
theorem unRow : unE.Row Tryz.prog := ⟨by kernel_rfl, _, Tryz.underlying118, rfl⟩

theorem plAt {w : World} {b o : Nat} {p : Pl} : plE.At w b o p ↔ AtPl w b o p := by
  constructor
  · intro h
    exact ⟨h 0 _ rfl, h 1 _ rfl, h 2 _ rfl⟩
  · rintro ⟨h0, h1, h2⟩ j u hu
    match j, hu with
    | 0, hu => cases hu; exact h0
    | 1, hu => cases hu; exact h1
    | 2, hu => cases hu; exact h2
theorem opAt {w : World} {b o : Nat} {m : Mv} (h : opE.At w b o m) : w.cell? ⟨b, o, none⟩ = some (.int .i64 m.C) ∧ w.cell? ⟨b, o + 1, none⟩ = some (.int .i64 m.D) ∧ w.cell? ⟨b, o + 2, none⟩ = some (.int .i64 m.I) ∧ w.cell? ⟨b, o + 3, none⟩ = some (.int .i64 m.M) ∧ w.cell? ⟨b, o + 4, none⟩ = some (.int .i64 m.K) ∧ w.cell? ⟨b, o + 5, none⟩ = some (.int .i64 m.U) ∧ w.cell? ⟨b, o + 6, none⟩ = some (.string m.s) :=
  ⟨h 0 _ rfl, h 1 _ rfl, h 2 _ rfl, h 3 _ rfl, h 4 _ rfl, h 5 _ rfl, h 6 _ rfl⟩
theorem unAt {w : World} {b o : Nat} {x : Un} (h : unE.At w b o x) : w.cell? ⟨b, o, none⟩ = some (.int .i64 x.was.n) ∧ w.cell? ⟨b, o + 1, none⟩ = some (.int .i64 x.was.u) ∧ w.cell? ⟨b, o + 2, none⟩ = some (.string x.was.s) ∧ w.cell? ⟨b, o + 3, none⟩ = some (.bool x.had) ∧ w.cell? ⟨b, o + 4, none⟩ = some (.bool x.did) :=
  ⟨h 0 _ rfl, h 1 _ rfl, h 2 _ rfl, h 3 _ rfl, h 4 _ rfl⟩
theorem plIn3 {w : World} {b : Nat} {p : Pl} (h : plE.In w b p) : w.cell? ⟨b, 0, none⟩ = some (.int .i64 p.n) ∧ w.cell? ⟨b, 1, none⟩ = some (.int .i64 p.u) ∧ w.cell? ⟨b, 2, none⟩ = some (.string p.s) :=
  ⟨h.cell 0, h.cell 1, h.cell 2⟩
theorem opIn7 {w : World} {b : Nat} {m : Mv} (h : opE.In w b m) : w.cell? ⟨b, 0, none⟩ = some (.int .i64 m.C) ∧ w.cell? ⟨b, 1, none⟩ = some (.int .i64 m.D) ∧ w.cell? ⟨b, 2, none⟩ = some (.int .i64 m.I) ∧ w.cell? ⟨b, 3, none⟩ = some (.int .i64 m.M) ∧ w.cell? ⟨b, 4, none⟩ = some (.int .i64 m.K) ∧ w.cell? ⟨b, 5, none⟩ = some (.int .i64 m.U) ∧ w.cell? ⟨b, 6, none⟩ = some (.string m.s) :=
  ⟨h.cell 0, h.cell 1, h.cell 2, h.cell 3, h.cell 4, h.cell 5, h.cell 6⟩
theorem unIn5 {w : World} {b : Nat} {x : Un} (h : unE.In w b x) : w.cell? ⟨b, 0, none⟩ = some (.int .i64 x.was.n) ∧ w.cell? ⟨b, 1, none⟩ = some (.int .i64 x.was.u) ∧ w.cell? ⟨b, 2, none⟩ = some (.string x.was.s) ∧ w.cell? ⟨b, 3, none⟩ = some (.bool x.had) ∧ w.cell? ⟨b, 4, none⟩ = some (.bool x.did) :=
  ⟨h.cell 0, h.cell 1, h.cell 2, h.cell 3, h.cell 4⟩
theorem plSl {w : World} {A : Option Addr} {l : List Pl} : plE.Sl w A l ↔ Tr w A l :=
  ⟨fun h h0 => let ⟨b, off, e, hb, hc⟩ := h h0; ⟨b, off, e, hb, fun i hi => plAt.1 (hc i hi)⟩, fun h h0 => let ⟨b, off, e, hb, hc⟩ := h h0; ⟨b, off, e, hb, fun i hi => plAt.2 (hc i hi)⟩⟩

/-- A slice of the whole: what it says, and that it holds the list. -/
def SlV {α : Type} (E : El α) (w : World) (A : Option Addr) (c : Nat) (l : List α) : Prop := E.Sl w A l ∧ (A = none → c = 0) ∧ l.length ≤ c
theorem SlV.below {α : Type} {E : El α} {W w : World} {A : Option Addr} {c : Nat} {l : List α} (h : SlV E W A c l) (hb : Below W.heap.size W w) : SlV E w A c l := ⟨h.1.below hb, h.2⟩
theorem SlV.nil {α : Type} (E : El α) (w : World) : SlV E w none 0 [] := ⟨El.Sl.nil w none, fun _ => rfl, Nat.le_refl _⟩
theorem frs_nil (B : Nat) : Frs B none := fun a e => by cases e
theorem El.Own.frs {α : Type} {E : El α} {w : World} {B n c : Nat} {A : Option Addr} {l : List α} (h : E.Own w B (.slice A n c) l) : Frs B A := fun a e => (World.ownsRow.lt h a.block (by rw [e]; rfl)).1
/-- A block ahead of it is written: it stays. -/
theorem SlV.keep {α : Type} {E : El α} {w w' : World} {A : Option Addr} {c B b : Nat} {l : List α} (h : SlV E w A c l) (hf : Frs B A) (hg : w.grownBy w' (some b)) (hb : b < B) : SlV E w' A c l :=
  ⟨h.1.keep hg (fun a e e2 => by have := hf a e; have := Option.some.inj e2; omega), h.2⟩
theorem by_row (w : World) (b : Nat) (cs : Array Value) : w.grownBy (w.setRow b cs) (some b) := ⟨rfl, rfl, rfl, by simp, fun k _ hk => setRow_other w b k cs (fun e => hk (by rw [e]))⟩
theorem by_cell (w : World) (b i : Nat) (v : Value) : w.grownBy (w.setCell ⟨b, i, none⟩ v) (some b) := ⟨rfl, rfl, rfl, by simp, fun k _ hk => heap_setCell_other w ⟨b, i, none⟩ k v (fun e => hk (by rw [e]))⟩
theorem by_cell2 {w w' : World} {b : Nat} (h : w.grownBy w' (some b)) (i : Nat) (v : Value) : w.grownBy (w'.setCell ⟨b, i, none⟩ v) (some b) := by
  have hg := by_cell w' b i v
  exact ⟨hg.os.trans h.os, hg.tape.trans h.tape, hg.output.trans h.output, Nat.le_trans h.size hg.size, fun k hk hne => (hg.block k (Nat.lt_of_lt_of_le hk h.size) hne).trans (h.block k hk hne)⟩
/-- An undo written cell by cell. -/
theorem un_put {w : World} {b : Nat} {x : Un} (h : unE.In w b x) (y : Un) :
    unE.In (((((w.setCell ⟨b, 0, none⟩ (.int .i64 y.was.n)).setCell ⟨b, 1, none⟩ (.int .i64 y.was.u)).setCell ⟨b, 2, none⟩ (.string y.was.s)).setCell ⟨b, 3, none⟩ (.bool y.had)).setCell ⟨b, 4, none⟩ (.bool y.did)) b y ∧
    w.grownBy (((((w.setCell ⟨b, 0, none⟩ (.int .i64 y.was.n)).setCell ⟨b, 1, none⟩ (.int .i64 y.was.u)).setCell ⟨b, 2, none⟩ (.string y.was.s)).setCell ⟨b, 3, none⟩ (.bool y.had)).setCell ⟨b, 4, none⟩ (.bool y.did)) (some b) := by
  refine ⟨?_, by_cell2 (by_cell2 (by_cell2 (by_cell2 (by_cell w b 0 _) 1 _) 2 _) 3 _) 4 _⟩
  have h1 := h.put ⟨⟨y.was.n, x.was.u, x.was.s⟩, x.had, x.did⟩ 0 (.int .i64 y.was.n) rfl
  have h2 := h1.put ⟨⟨y.was.n, y.was.u, x.was.s⟩, x.had, x.did⟩ 1 (.int .i64 y.was.u) rfl
  have h3 := h2.put ⟨⟨y.was.n, y.was.u, y.was.s⟩, x.had, x.did⟩ 2 (.string y.was.s) rfl
  have h4 := h3.put ⟨⟨y.was.n, y.was.u, y.was.s⟩, y.had, x.did⟩ 3 (.bool y.had) rfl
  exact h4.put y 4 (.bool y.did) rfl
theorem SlV.own {α : Type} {E : El α} {w : World} {B : Nat} {v : Value} {l : List α} (h : E.Own w B v l) : ∃ A c, v = .slice A l.length c ∧ SlV E w A c l :=
  let ⟨A, c, e, h1, h2, h3⟩ := h.sl
  ⟨A, c, e, h1, h2, h3⟩
def mvPl (m : Mv) : Pl := ⟨m.K, m.U, m.s⟩
def unV (u : Un) : Value := .agg #[.int .i64 u.was.n, .int .i64 u.was.u, .string u.was.s, .bool u.had, .bool u.did]
theorem below_own {w w1 w2 : World} {row : Option Nat} (h : Below w.heap.size w w1) (hg : w1.grownBy w2 row) (hrow : ∀ n, row = some n → w.heap.size ≤ n) : Below w.heap.size w w2 := h.grown hg h.size hrow

set_option maxRecDepth 100000 in
theorem clonePl_any (A : Option Addr) (c : Nat) (l : List Pl) (w : World) (hl : l.length ≤ 50000) (hT : SlV plE w A c l) :
    Calls Tryz.prog 54 #[.slice A l.length c] w fun e w' => ∃ A' c', e = .returned (.slice A' l.length c') ∧ SlV plE w' A' c' l ∧ Frs w.heap.size A' ∧ Below w.heap.size w w' := by
  obtain ⟨hT, hz, hlc⟩ := hT
  have q : ∀ (w : World) (a : Option Addr) (n c n' c' : Nat), (binOp .eql 22 (.slice a n c) (.slice none n' c')).run Tryz.prog w = .ok (.bool a.isNone) w := fun w a n c n' c' => Lib.run_eql_slice_nil w _ _ a n c n' c' Tryz.underlying22
  cases A with
  | none =>
    obtain rfl := hT.none_nil
    obtain rfl := hz rfl
    go_enter Tryz.func54, Tryz.ntmps54
    go_wp2
    go_ret
    exact ⟨none, 0, rfl, SlV.nil _ _, frs_nil _, Below.refl _ _⟩
  | some a =>
    go_enter Tryz.func54, Tryz.ntmps54
    have hE := El.Own.empty (E := plE) w w.heap.size (Nat.le_refl _)
    have hb0 := below_alloc (Below.refl w.heap.size w) (.cells #[] 50)
    go_wp2_with (at_builtin; refine El.wpList_app plInn rfl _ _ rfl w.heap.size _ [] l rfl hE (some a) _ c rfl rfl (hT.below hb0) (fun e => by cases e) (by simp; omega) (by simp) ?_; intro v' w2 hown hg _)
    obtain ⟨A', c', rfl, hS⟩ := SlV.own hown
    go_wp2
    go_ret
    exact ⟨A', c', rfl, hS, hown.frs, below_own hb0 hg (hE.rows)⟩
end Go.Proofs.YtdcjffajmckleaaGreatDoor

/- Do and Back of the program. -/
namespace Go.Proofs.YtdcjffajmckleaaGreatDoor
open Go.RowKit Tre Cod

theorem plV_get (l : List Pl) (b : Int) : ∃ p is, (Tre.get l b).getD zero = p ∧ (Tre.get l b).isSome = is := ⟨_, _, rfl, rfl⟩
theorem same_pl (A : Option Addr) (c : Nat) (l : List Pl) (w : World) (hl : l.length ≤ 50000) (hT : SlV plE w A c l) :
    Calls Tryz.prog 84 #[.slice A l.length c] w fun e w' => ∃ A' c', e = .returned (.slice A' l.length c') ∧ SlV plE w' A' c' l ∧ Frs w.heap.size A' ∧ Below w.heap.size w w' := by
  have C := clonePl_any A c l w hl hT
  go_enter Tryz.func84, Tryz.ntmps84
  go_wp2_with (go_at_call 54; (with_reducible refine C.mono ?_); rintro e w1 ⟨A', c', rfl, hS, hf, hb⟩)
  go_ret
  exact ⟨A', c', rfl, hS, hf, hb⟩

theorem put_sl (A : Option Addr) (c : Nat) (l : List Pl) (p : Pl) (w : World) (hl : l.length ≤ 900) (hs : Sorted l) (hT : SlV plE w A c l) :
    Calls Tryz.prog 106 #[.slice A l.length c, .agg #[.int .i64 p.n, .int .i64 p.u, .string p.s]] w fun e w' => ∃ A' c', e = .returned (.slice A' (putL l p).length c') ∧ SlV plE w' A' c' (putL l p) ∧ Frs w.heap.size A' ∧ Below w.heap.size w w' :=
  (put_any A c l p w hl hs (plSl.1 hT.1) hT.2.2 hT.2.1).mono fun _ _ ⟨A', c', he, ht, hz, hlc, hf, hb⟩ => ⟨A', c', he, ⟨plSl.2 ht, hz, hlc⟩, hf, hb⟩
theorem drop_sl (A : Option Addr) (c : Nat) (l : List Pl) (b : Int) (w : World) (hl : l.length ≤ 900) (hs : Sorted l) (hT : SlV plE w A c l) :
    Calls Tryz.prog 107 #[.slice A l.length c, .int .i64 b] w fun e w' => ∃ A' c', e = .returned (.slice A' (dropL l b).length c') ∧ SlV plE w' A' c' (dropL l b) ∧ Frs w.heap.size A' ∧ Below w.heap.size w w' :=
  (drop_any A c l b w hl hs (plSl.1 hT.1) hT.2.2 hT.2.1).mono fun _ _ ⟨A', c', he, ht, hz, hlc, hf, hb⟩ => ⟨A', c', he, ⟨plSl.2 ht, hz, hlc⟩, hf, hb⟩

set_option maxRecDepth 100000 in
set_option maxHeartbeats 4000000 in
theorem do_any (A : Option Addr) (c : Nat) (l : List Pl) (m : Mv) (w : World) (hl : l.length ≤ 900) (hs : Sorted l) (hT : SlV plE w A c l) :
    Calls Tryz.prog 85 #[.slice A l.length c, .agg #[.int .i64 m.C, .int .i64 m.D, .int .i64 m.I, .int .i64 m.M, .int .i64 m.K, .int .i64 m.U, .string m.s]] w fun e w' => ∃ A' c', e = .returned (.tuple #[.slice A' (doL l (mvPl m)).1.length c', unV (doL l (mvPl m)).2]) ∧ SlV plE w' A' c' (doL l (mvPl m)).1 ∧ Frs w.heap.size A' ∧ Below w.heap.size w w' := by
  have C1 := fun w (hT : SlV plE w A c l) => above_any A c l m.K m.U w (by omega) hs (plSl.1 hT.1)
  have C2 := fun w (hT : SlV plE w A c l) => same_pl A c l w (by omega) hT
  have C4 := fun w (hT : SlV plE w A c l) => put_sl A c l ⟨m.K, m.U, m.s⟩ w hl hs hT
  have hdo : doL l (mvPl m) = if above l m.K m.U = true then (l, noUn) else (putL l ⟨m.K, m.U, m.s⟩, ⟨(Tre.get l m.K).getD zero, (Tre.get l m.K).isSome, true⟩) := rfl
  obtain ⟨p, is, hp, hi⟩ := plV_get l m.K
  have C3 := fun w (hT : SlV plE w A c l) => get_any A c l m.K w (by omega) hs (plSl.1 hT.1) p is hp hi
  rw [hp, hi] at hdo
  clear hp hi hs
  obtain ⟨ab, hab⟩ : ∃ ab, above l m.K m.U = ab := ⟨_, rfl⟩
  rw [hab] at C1 hdo
  clear hab
  have hdo : (doL l (mvPl m)).1 = (if ab = true then l else putL l ⟨m.K, m.U, m.s⟩) ∧ (doL l (mvPl m)).2 = if ab = true then noUn else ⟨p, is, true⟩ := by rw [hdo]; cases ab <;> exact ⟨rfl, rfl⟩
  obtain ⟨hd1, hd2⟩ := hdo
  rw [hd1, hd2]
  clear hd1 hd2
  generalize putL l ⟨m.K, m.U, m.s⟩ = R at *
  have HC1 := Lib.hid C1
  have HC2 := Lib.hid C2
  have HC3 := Lib.hid C3
  have HC4 := Lib.hid C4
  clear C1 C2 C3 C4
  go_enter Tryz.func85, Tryz.ntmps85
  go_wp2_with fail
  have hO : opE.In ((w.alloc (.cells #[.int .i64 m.C, .int .i64 m.D, .int .i64 m.I, .int .i64 m.M, .int .i64 m.K, .int .i64 m.U, .string m.s] 55)).alloc (.cells #[.int .i64 0, .int .i64 0, .string ⟨#[]⟩, .bool false, .bool false] 118)) w.heap.size m := (El.In.new (E := opE) w m _ rfl).alloc _
  have hU : unE.In ((w.alloc (.cells #[.int .i64 m.C, .int .i64 m.D, .int .i64 m.I, .int .i64 m.M, .int .i64 m.K, .int .i64 m.U, .string m.s] 55)).alloc (.cells #[.int .i64 0, .int .i64 0, .string ⟨#[]⟩, .bool false, .bool false] 118)) (w.heap.size + 1) noUn := by
    have := El.In.new (E := unE) (w.alloc (.cells #[.int .i64 m.C, .int .i64 m.D, .int .i64 m.I, .int .i64 m.M, .int .i64 m.K, .int .i64 m.U, .string m.s] 55)) noUn #[.int .i64 0, .int .i64 0, .string ⟨#[]⟩, .bool false, .bool false] rfl
    rw [alloc_size] at this; exact this
  have hB := below_alloc (below_alloc (Below.refl w.heap.size w) (.cells #[.int .i64 m.C, .int .i64 m.D, .int .i64 m.I, .int .i64 m.M, .int .i64 m.K, .int .i64 m.U, .string m.s] 55)) (.cells #[.int .i64 0, .int .i64 0, .string ⟨#[]⟩, .bool false, .bool false] 118)
  generalize (w.alloc (.cells #[.int .i64 m.C, .int .i64 m.D, .int .i64 m.I, .int .i64 m.M, .int .i64 m.K, .int .i64 m.U, .string m.s] 55)).alloc (.cells #[.int .i64 0, .int .i64 0, .string ⟨#[]⟩, .bool false, .bool false] 118) = W at *
  have hn0 : w.heap.size ≤ w.heap.size := Nat.le_refl _
  obtain ⟨n0, h0⟩ : ∃ n, w.heap.size = n := ⟨_, rfl⟩
  obtain ⟨n1, h1⟩ : ∃ n, w.heap.size + 1 = n := ⟨_, rfl⟩
  have hn1 : w.heap.size ≤ n1 := by omega
  have h01 : n0 ≠ n1 := by omega
  rw [h1] at hU ⊢
  have hTW := hT.below hB
  rw [h0] at hO hn0 hn1 hB ⊢
  refine (HC1.out _ hTW).mono ?_
  rintro e w1 ⟨rfl, hb1⟩
  replace hO := hO.below hb1
  replace hU := hU.below hb1
  replace hTW := hTW.below hb1
  replace hB : Below n0 w w1 := hB.trans (hb1.mono (by have := hB.size; omega))
  clear hb1 hT
  clear hdo
  cases ab
  · simp only [Bool.false_eq_true, if_false]
    obtain ⟨k0, k1, k2, k3, k4, k5, k6⟩ := opAt hO.at
    go_wp2_with fail
    refine (HC3.out _ hTW).mono ?_
    rintro e w2 ⟨rfl, hb1⟩
    replace hO := hO.below hb1
    replace hU := hU.below hb1
    replace hTW := hTW.below hb1
    replace hB : Below n0 w w2 := hB.trans (hb1.mono (by have := hB.size; omega))
    clear hb1 k0 k1 k2 k3 k4 k5 k6
    have hs2 := hB.size
    have hlt1 := hU.lt
    have hlt0 := hO.lt
    have hne0 : n0 ≠ w2.heap.size := by omega
    have hne1 : n1 ≠ w2.heap.size := by omega
    obtain ⟨k0, k1, k2, k3, k4, k5, k6⟩ := opAt hO.at
    go_wp2_with fail
    have hP : plE.In ((w2.alloc (.cells #[.int .i64 p.n, .int .i64 p.u, .string p.s] 50)).alloc (.cells #[.int .i64 m.K, .int .i64 m.U, .string m.s] 50)) w2.heap.size p := (El.In.new (E := plE) w2 p _ rfl).alloc _
    have hQ : plE.In ((w2.alloc (.cells #[.int .i64 p.n, .int .i64 p.u, .string p.s] 50)).alloc (.cells #[.int .i64 m.K, .int .i64 m.U, .string m.s] 50)) (w2.heap.size + 1) ⟨m.K, m.U, m.s⟩ := by
      have := El.In.new (E := plE) (w2.alloc (.cells #[.int .i64 p.n, .int .i64 p.u, .string p.s] 50)) ⟨m.K, m.U, m.s⟩ #[.int .i64 m.K, .int .i64 m.U, .string m.s] rfl
      rw [alloc_size] at this; exact this
    have hb3 := below_alloc (below_alloc (Below.refl w2.heap.size w2) (.cells #[.int .i64 p.n, .int .i64 p.u, .string p.s] 50)) (.cells #[.int .i64 m.K, .int .i64 m.U, .string m.s] 50)
    replace hU := hU.below hb3
    replace hTW := hTW.below hb3
    replace hB := hB.trans (hb3.mono (by omega))
    have hs3 := hb3.size
    clear hb3 k0 k1 k2 k3 k4 k5 k6 hO
    generalize (w2.alloc (.cells #[.int .i64 p.n, .int .i64 p.u, .string p.s] 50)).alloc (.cells #[.int .i64 m.K, .int .i64 m.U, .string m.s] 50) = W2 at *
    generalize w2.heap.size = n2 at *
    obtain ⟨n3, h3⟩ : ∃ n, n2 + 1 = n := ⟨_, rfl⟩
    rw [h3] at hQ ⊢
    have hU0 := hU.lt
    replace hP : plE.In W2.drew n2 p := hP
    replace hQ : plE.In W2.drew n3 ⟨m.K, m.U, m.s⟩ := hQ
    replace hU : unE.In W2.drew n1 noUn := hU
    replace hTW : SlV plE W2.drew A c l := hTW
    replace hB : Below n0 w W2.drew := hB.drew
    replace hU0 : n1 < W2.drew.heap.size := hU0
    replace hs3 : n2 ≤ W2.drew.heap.size := hs3
    have hn12 : some n2 ≠ some n1 := fun e => hne1 (Option.some.inj e).symm
    have hn13 : some n3 ≠ some n1 := fun e => by have := Option.some.inj e; omega
    go_region_held3 (fun w' => (w'.cell? ⟨n2, 0, none⟩ = some (.int .i64 p.n) ∧ w'.cell? ⟨n2, 1, none⟩ = some (.int .i64 p.u) ∧ w'.cell? ⟨n2, 2, none⟩ = some (.string p.s)) ∧ (w'.cell? ⟨n3, 0, none⟩ = some (.int .i64 m.K) ∧ w'.cell? ⟨n3, 1, none⟩ = some (.int .i64 m.U) ∧ w'.cell? ⟨n3, 2, none⟩ = some (.string m.s))) (with_reducible first | exact ⟨plIn3 hP, plIn3 hQ⟩ | exact ⟨plIn3 hP5, plIn3 hQ5⟩ | exact ⟨plIn3 (hP5.keep (un_put hU5 ⟨p, is, true⟩).2 hn12), plIn3 (hQ5.keep (un_put hU5 ⟨p, is, true⟩).2 hn13)⟩) (first | (go_at_call 106; (with_reducible refine (HC4.out _ hTW).mono ?_); rintro e w5 ⟨A', c', rfl, hS, hf, hb5⟩; have hP5 := hP.below hb5; have hQ5 := hQ.below hb5; have hU5 := hU.below hb5; have hB5 := hB.trans (hb5.mono (by omega)); obtain ⟨u0, u1, u2, u3, u4⟩ := unIn5 hU5; have uf := hU5.frozen))
    all_goals
      have hP6 := un_put hU5 ⟨p, is, true⟩
      go_wp2
      refine El.ret3 unRow hP6.1 rfl rfl rfl rfl _ rfl ?_
      subst h0
      exact ⟨A', c', rfl, hS.keep hf hP6.2 hU0, hf.mono (by omega), hB5.grown hP6.2 hB5.size (fun k e => by have := Option.some.inj e; omega)⟩
  · simp only [if_true]
    go_wp2_with fail
    refine (HC2.out _ hTW).mono ?_
    rintro e w2 ⟨A', c', rfl, hS, hf, hb2⟩
    have hlt := hU.lt
    replace hU := hU.below hb2
    replace hB : Below n0 w w2 := hB.trans (hb2.mono (by have := hB.size; omega))
    have hs2 := hb2.size
    go_wp2_with (refine El.store unRow rfl _ _ rfl n1 noUn _ rfl rfl rfl noUn hU ?_)
    refine El.ret3 unRow (hU.set noUn _ rfl) rfl rfl rfl rfl _ rfl ?_
    subst h0
    exact ⟨A', c', rfl, hS.keep hf (by_row _ _ _) hlt, hf.mono (by omega), below_setRow hB hn1 _⟩

set_option maxRecDepth 100000 in
set_option maxHeartbeats 4000000 in
theorem back_any (A : Option Addr) (c : Nat) (l : List Pl) (m : Mv) (u : Un) (w : World) (hl : l.length ≤ 900) (hs : Sorted l) (hT : SlV plE w A c l) :
    Calls Tryz.prog 86 #[.slice A l.length c, .agg #[.int .i64 m.C, .int .i64 m.D, .int .i64 m.I, .int .i64 m.M, .int .i64 m.K, .int .i64 m.U, .string m.s], .agg #[.int .i64 u.was.n, .int .i64 u.was.u, .string u.was.s, .bool u.had, .bool u.did]] w fun e w' => ∃ A' c', e = .returned (.slice A' (backL l m.K u).length c') ∧ SlV plE w' A' c' (backL l m.K u) ∧ Frs w.heap.size A' ∧ Below w.heap.size w w' := by
  have C2 := fun w (hT : SlV plE w A c l) => same_pl A c l w (by omega) hT
  have C4 := fun w (hT : SlV plE w A c l) => put_sl A c l u.was w hl hs hT
  have C5 := fun w (hT : SlV plE w A c l) => drop_sl A c l m.K w hl hs hT
  have hbk : backL l m.K u = if u.did = true then (if u.had = true then putL l u.was else dropL l m.K) else l := rfl
  rw [hbk]
  clear hbk hs
  generalize putL l u.was = R1 at *
  generalize dropL l m.K = R2 at *
  have HC2 := Lib.hid C2
  have HC4 := Lib.hid C4
  have HC5 := Lib.hid C5
  clear C2 C4 C5
  have hB := below_alloc (below_alloc (Below.refl w.heap.size w) (.cells #[.int .i64 m.C, .int .i64 m.D, .int .i64 m.I, .int .i64 m.M, .int .i64 m.K, .int .i64 m.U, .string m.s] 55)) (.cells #[.int .i64 u.was.n, .int .i64 u.was.u, .string u.was.s, .bool u.had, .bool u.did] 118)
  have hTW := hT.below hB
  have hs2 := hB.size
  clear hT
  obtain ⟨⟨n, up, s⟩, had, did⟩ := u
  cases did
  · simp only [Bool.false_eq_true, if_false]
    go_enter Tryz.func86, Tryz.ntmps86
    go_wp2_with (go_at_call 84; (with_reducible refine (HC2.out _ hTW).mono ?_); rintro e w1 ⟨A', c', rfl, hS, hf, hb1⟩)
    go_ret
    exact ⟨A', c', rfl, hS, hf.mono hs2, below_then hB hb1⟩
  · cases had
    · simp only [Bool.false_eq_true, if_false, if_true]
      go_enter Tryz.func86, Tryz.ntmps86
      go_wp2_with (go_at_call 107; (with_reducible refine (HC5.out _ hTW).mono ?_); rintro e w1 ⟨A', c', rfl, hS, hf, hb1⟩)
      go_ret
      exact ⟨A', c', rfl, hS, hf.mono hs2, below_then hB hb1⟩
    · simp only [if_true]
      go_enter Tryz.func86, Tryz.ntmps86
      go_wp2_with (go_at_call 106; (with_reducible refine (HC4.out _ hTW).mono ?_); rintro e w1 ⟨A', c', rfl, hS, hf, hb1⟩)
      go_ret
      exact ⟨A', c', rfl, hS, hf.mono hs2, below_then hB hb1⟩
end Go.Proofs.YtdcjffajmckleaaGreatDoor

/- Fold of the program; the document's Do and Fold. -/
namespace Go.Proofs.YtdcjffajmckleaaGreatDoor
open Go.RowKit Tre Cod

theorem putL_len (l : List Pl) (p : Pl) : (putL l p).length ≤ l.length + 1 := by
  unfold putL placedL
  have := behind_le l p.n
  rw [List.length_append, List.length_append, List.length_take, List.length_drop, List.length_singleton]; omega
theorem doL_len (l : List Pl) (p : Pl) : (doL l p).1.length ≤ l.length + 1 := by
  unfold doL
  split
  · exact Nat.le_succ _
  · exact putL_len l p
theorem foldL_len1 (l : List Pl) (a : List Pl) : (foldL l a).1.length ≤ l.length + a.length := by
  induction a generalizing l with
  | nil => exact Nat.le_refl _
  | cons p a ih =>
    have h1 := ih (doL l p).1
    have h2 := doL_len l p
    show (foldL (doL l p).1 a).1.length ≤ _
    rw [List.length_cons]; omega
/-- The moves of operations. -/
def mvs (o : List Mv) : List Pl := o.map mvPl
theorem mvs_len (o : List Mv) : (mvs o).length = o.length := List.length_map ..
theorem mvs_take (o : List Mv) (k : Nat) : (mvs o).take k = mvs (o.take k) := by unfold mvs; rw [List.map_take]
/-- Behind k of the operations. -/
def fold1 (l : List Pl) (o : List Mv) (k : Nat) : List Pl := (foldL l (mvs (o.take k))).1
def fold2 (l : List Pl) (o : List Mv) (k : Nat) : List Un := (foldL l (mvs (o.take k))).2
theorem fold1_all (l : List Pl) (o : List Mv) : fold1 l o o.length = (foldL l (mvs o)).1 := by unfold fold1; rw [List.take_length]
theorem fold2_all (l : List Pl) (o : List Mv) : fold2 l o o.length = (foldL l (mvs o)).2 := by unfold fold2; rw [List.take_length]
theorem fold1_zero (l : List Pl) (o : List Mv) : fold1 l o 0 = l := rfl
theorem fold_next (l : List Pl) (o : List Mv) (k : Nat) (h : k < o.length) : fold1 l o (k + 1) = (doL (fold1 l o k) (mvPl o[k])).1 ∧ fold2 l o (k + 1) = fold2 l o k ++ [(doL (fold1 l o k) (mvPl o[k])).2] := by
  unfold fold1 fold2
  rw [← mvs_take, ← mvs_take, foldL_take l (mvs o) k (by rw [mvs_len]; exact h)]
  have e : (mvs o)[k]'(by rw [mvs_len]; exact h) = mvPl o[k] := by unfold mvs; rw [List.getElem_map]
  rw [e]
  exact ⟨rfl, rfl⟩
theorem fold1_len (l : List Pl) (o : List Mv) (k : Nat) : (fold1 l o k).length ≤ l.length + k := by
  have h := foldL_len1 l (mvs (o.take k))
  rw [mvs_len, List.length_take] at h
  unfold fold1; omega
theorem fold2_len (l : List Pl) (o : List Mv) (k : Nat) (h : k ≤ o.length) : (fold2 l o k).length = k := by
  unfold fold2
  rw [foldL_len, mvs_len, List.length_take]; omega
theorem fold1_sorted {l : List Pl} (hs : Sorted l) (o : List Mv) (k : Nat) : Sorted (fold1 l o k) := foldL_sorted hs _
/-- The undos so far, and the rest as it was made. -/
theorem un_set (us : List Un) (n k : Nat) (u : Un) (hk : us.length = k) (hn : k < n) : (us ++ List.replicate (n - k) noUn).set k u = (us ++ [u]) ++ List.replicate (n - (k + 1)) noUn := by
  obtain ⟨d, rfl⟩ : ∃ d, n = k + (d + 1) := ⟨n - k - 1, by omega⟩
  rw [show k + (d + 1) - k = d + 1 by omega, show k + (d + 1) - (k + 1) = d by omega, List.replicate_succ, ← hk, List.set_append_right _ _ (Nat.le_refl _), Nat.sub_self, List.set_cons_zero, List.append_assoc]
  rfl
theorem un_zero : ∃ i z, Tryz.prog.info? unE.e = some i ∧ i.zero = some z ∧ z.cells.toList = unE.c noUn := by
  obtain ⟨i, hi, hz, _, _⟩ := info_parts (show (Tryz.prog.info? 118).map (fun i => (i.zero, i.size, i.bytes)) = some (some (.agg #[.int .i64 0, .int .i64 0, .string ⟨#[]⟩, .bool false, .bool false]), 5, 40) by kernel_rfl)
  exact ⟨i, _, hi, hz, rfl⟩

set_option maxRecDepth 100000 in
set_option maxHeartbeats 4000000 in
theorem mvFold_any (A : Option Addr) (c : Nat) (l : List Pl) (O : Option Addr) (oc : Nat) (o : List Mv) (w : World) (hl : l.length + o.length ≤ 900) (hs : Sorted l) (hT : SlV plE w A c l) (hO : opE.Sl w O o) :
    Calls Tryz.prog 52 #[.slice A l.length c, .slice O o.length oc] w fun e w' => ∃ A' c' U' uc, e = .returned (.tuple #[.slice A' (foldL l (mvs o)).1.length c', .slice U' (foldL l (mvs o)).2.length uc]) ∧ SlV plE w' A' c' (foldL l (mvs o)).1 ∧ SlV unE w' U' uc (foldL l (mvs o)).2 ∧ Frs w.heap.size A' ∧ Frs w.heap.size U' ∧ Below w.heap.size w w' := by
  have C1 := same_pl A c l w (by omega) hT
  have hfl := fold2_len l o o.length (Nat.le_refl _)
  rw [← fold1_all, ← fold2_all, hfl]
  clear hfl
  go_enter Tryz.func52, Tryz.ntmps52
  go_wp2_with fail
  refine C1.mono ?_
  rintro e w1 ⟨A1, c1, rfl, hS1, hf1, hb1⟩
  clear C1
  have hsz1 := hb1.size
  go_wp2_with (at_make; refine El.wpList_make unInn noUn un_zero rfl _ _ rfl w.heap.size o.length o.length rfl rfl (by omega) (Nat.le_refl _) hsz1 ?_; intro w2 hU hg2 hg2s)
  obtain ⟨g, hg⟩ : ∃ g, w1.heap.size = g := ⟨_, rfl⟩
  have hwg : w.heap.size ≤ g := by omega
  have hg2l : g < w2.heap.size := by omega
  rw [hg] at hU ⊢
  have hB2 : Below w.heap.size w w2 := hb1.grown hg2 hsz1 (fun k e => by cases e)
  have hS2 : SlV plE w2 A1 c1 l := ⟨hS1.1.keep hg2 (fun a _ e => by cases e), hS1.2⟩
  clear hS1 hg2 hb1 hg2s hsz1 hg
  go_wp2
  go_loopw [0, 16] (fun x y wr => ∃ (k : Nat) (A' : Option Addr) (c' : Nat), k ≤ o.length ∧ y = .int .i64 k ∧ x = .slice A' (fold1 l o k).length c' ∧ SlV plE wr A' c' (fold1 l o k) ∧ Frs w.heap.size A' ∧ unE.Own wr w.heap.size (.slice (some ⟨g, 0, none⟩) o.length o.length) (fold2 l o k ++ List.replicate (o.length - k) noUn) ∧ g < wr.heap.size ∧ Below w.heap.size w wr) (fun _ y _ => o.length - (intOf y).toNat)
  case atStart => exact ⟨0, A1, c1, Nat.zero_le _, rfl, rfl, hS2, hf1, hU, hg2l, hB2⟩
  case round =>
    clear hS2 hf1 hU hg2l hB2 hT
    obtain ⟨k, A', c', hk, rfl, rfl, hS, hf, hU, hgl, hB⟩ := hrel
    by_cases hlt : k < o.length
    · obtain ⟨b, off, rfl, hbw, hc⟩ := hO (by omega)
      have hat := (hc k hlt).below hB hbw
      obtain ⟨e1, e2⟩ := fold_next l o k hlt
      have hl1 := fold1_len l o k
      have hl2 := fold2_len l o k hk
      have hs1 := fold1_sorted hs o k
      obtain ⟨m, hm⟩ : ∃ m, o[k] = m := ⟨_, rfl⟩
      rw [hm] at hat e1 e2
      have CD := fun (wx : World) (hx : Below wr.heap.size wr wx) => do_any A' c' (fold1 l o k) m wx (by omega) hs1 (hS.below hx)
      have huo := un_set (fold2 l o k) o.length k (doL (fold1 l o k) (mvPl m)).2 hl2 hlt
      rw [← e2] at huo
      have hul : (fold2 l o k ++ List.replicate (o.length - k) noUn).length = o.length := by rw [List.length_append, hl2, List.length_replicate]; omega
      generalize hdo2 : (doL (fold1 l o k) (mvPl m)).2 = u at *
      simp only [unV] at CD
      have HE1 := Lib.hid e1
      have HUO := Lib.hid huo
      have HCD := Lib.hid CD
      have HUL := Lib.hid hul
      have HF := Lib.hid hf
      clear e1 e2 huo CD hul hl1 hl2 hs1 hc hm hS hf hdo2
      obtain ⟨t0, t1, t2, t3, t4, t5, t6⟩ := opAt hat
      have hb0 := below_alloc (Below.refl wr.heap.size wr) (.cells #[.int .i64 m.C, .int .i64 m.D, .int .i64 m.I, .int .i64 m.M, .int .i64 m.K, .int .i64 m.U, .string m.s] 55)
      go_wp2_with (first | (refine El.load opRow rfl _ rfl b (off + k * 7) rfl m hat #[.int .i64 m.C, .int .i64 m.D, .int .i64 m.I, .int .i64 m.M, .int .i64 m.K, .int .i64 m.U, .string m.s] rfl ?_) | (go_at_call 85; (with_reducible refine (HCD.out _ hb0).mono ?_); rintro e w3 ⟨A3, c3, rfl, hS3, hf3, hb3⟩; have hU3 := (hU.below hb0).below hb3) | (refine El.wpList_setAt unRow rfl _ _ rfl w.heap.size g o.length k _ u (by rw [HUL.out]; exact hU3) (by rw [HUL.out]; exact hlt) #[.int .i64 u.was.n, .int .i64 u.was.u, .string u.was.s, .bool u.had, .bool u.did] rfl rfl rfl ?_; intro w4 hU4 hg4 hs4))
      have hsz := hb0.size
      have hsz3 := hb3.size
      have hwr := hB.size
      have hB3 := below_then hB (below_then hb0 hb3)
      go_roundw
      case rel =>
        refine ⟨k + 1, A3, c3, hlt, by go_num, by rw [HE1.out], ?_, hf3.mono (by omega), ?_, by omega, hB3.grown hg4 hB3.size (fun j e => by have := Option.some.inj e; omega)⟩
        · rw [HE1.out]; exact hS3.keep hf3 hg4 (by omega)
        · have h := hU4
          rw [HUL.out, HUO.out] at h; exact h
      case measure => simp [intOf]; omega
    · obtain rfl : k = o.length := by omega
      have hl2 := fold2_len l o o.length (Nat.le_refl _)
      have hz : fold2 l o o.length ++ List.replicate (o.length - o.length) noUn = fold2 l o o.length := by rw [Nat.sub_self, List.replicate_zero, List.append_nil]
      rw [hz] at hU
      go_wp2
      go_ret2
      have hUf : Frs w.heap.size (some ⟨g, 0, none⟩) := fun a e => by cases e; exact hwg
      have hUs : SlV unE wr (some ⟨g, 0, none⟩) o.length (fold2 l o o.length) := by
        obtain ⟨A2, c2, e, h1, h2, h3⟩ := hU.sl
        simp only [Value.slice.injEq] at e
        obtain ⟨rfl, _, rfl⟩ := e
        exact ⟨h1, h2, by omega⟩
      exact ⟨A', c', some ⟨g, 0, none⟩, o.length, rfl, hS, hUs, hf, hUf, hB⟩
end Go.Proofs.YtdcjffajmckleaaGreatDoor

/- The same places, operations, undos: the document's answers. -/
namespace Go.Proofs.YtdcjffajmckleaaGreatDoor
open Go.RowKit Tre Cod
theorem mv_unlike {p q : Mv} (h : ¬ p = q) : ((p.C == q.C) = false) ∨ (p.C = q.C ∧ (p.D == q.D) = false) ∨ (p.C = q.C ∧ p.D = q.D ∧ (p.I == q.I) = false) ∨ (p.C = q.C ∧ p.D = q.D ∧ p.I = q.I ∧ (p.M == q.M) = false) ∨ (p.C = q.C ∧ p.D = q.D ∧ p.I = q.I ∧ p.M = q.M ∧ (p.K == q.K) = false) ∨ (p.C = q.C ∧ p.D = q.D ∧ p.I = q.I ∧ p.M = q.M ∧ p.K = q.K ∧ (p.U == q.U) = false) ∨ (p.C = q.C ∧ p.D = q.D ∧ p.I = q.I ∧ p.M = q.M ∧ p.K = q.K ∧ p.U = q.U ∧ (p.s.toList == q.s.toList) = false) := by
  by_cases h0 : p.C = q.C
  rotate_left
  · left; exact beq_eq_false_iff_ne.2 h0
  by_cases h1 : p.D = q.D
  rotate_left
  · right; left; exact ⟨h0, beq_eq_false_iff_ne.2 h1⟩
  by_cases h2 : p.I = q.I
  rotate_left
  · right; right; left; exact ⟨h0, h1, beq_eq_false_iff_ne.2 h2⟩
  by_cases h3 : p.M = q.M
  rotate_left
  · right; right; right; left; exact ⟨h0, h1, h2, beq_eq_false_iff_ne.2 h3⟩
  by_cases h4 : p.K = q.K
  rotate_left
  · right; right; right; right; left; exact ⟨h0, h1, h2, h3, beq_eq_false_iff_ne.2 h4⟩
  by_cases h5 : p.U = q.U
  rotate_left
  · right; right; right; right; right; left; exact ⟨h0, h1, h2, h3, h4, beq_eq_false_iff_ne.2 h5⟩
  by_cases h6 : p.s = q.s
  · exfalso; apply h
    obtain ⟨a, b, c, d, e, f, g⟩ := p; obtain ⟨a', b', c', d', e', f', g'⟩ := q; simp only at h0 h1 h2 h3 h4 h5 h6; rw [h0, h1, h2, h3, h4, h5, h6]
  · right; right; right; right; right; right; exact ⟨h0, h1, h2, h3, h4, h5, ne_beq h6⟩
end Go.Proofs.YtdcjffajmckleaaGreatDoor

/- The same operations and undos: the document's answers. -/
namespace Go.Proofs.YtdcjffajmckleaaGreatDoor
open Go.RowKit Tre Cod

set_option maxRecDepth 100000 in
set_option maxHeartbeats 4000000 in
theorem sameOp_any (A1 A2 : Option Addr) (c1 c2 : Nat) (l m : List Mv) (w : World) (hl : l.length ≤ 50000) (hm : m.length ≤ 50000) (h1 : opE.Sl w A1 l) (h2 : opE.Sl w A2 m) :
    Calls Tryz.prog 18 #[.slice A1 l.length c1, .slice A2 m.length c2] w fun e w' => ∃ b, e = .returned (.bool b) ∧ (b = true ↔ l = m) ∧ Below w.heap.size w w' := by
  by_cases hlen : l.length = m.length
  · rw [← hlen]
    have HL := Lib.hid hlen
    clear hlen
    go_enter Tryz.func18, Tryz.ntmps18
    go_wp2
    go_loopw [5] (fun x wr => ∃ k : Nat, k ≤ l.length ∧ x = .int .i64 k ∧ (∀ j (hj : j < k) (ha : j < l.length) (hb : j < m.length), l[j] = m[j]) ∧ Below w.heap.size w wr) (fun x _ => l.length - (intOf x).toNat)
    case atStart => exact ⟨0, Nat.zero_le _, rfl, fun j hj => by omega, Below.refl _ _⟩
    case round =>
      obtain ⟨k, hk, rfl, hall, hnx⟩ := hrel
      by_cases hlt : k < l.length
      · obtain ⟨b1, o1, hA1, hw1, hc1⟩ := h1 (by omega)
        have hlt2 : k < m.length := by have := HL.out; omega
        obtain ⟨b2, o2, hA2, hw2, hc2⟩ := h2 (by omega)
        have hat : opE.At wr b1 (o1 + k * 7) l[k] := (hc1 k hlt).below hnx hw1
        have hat2 : opE.At wr b2 (o2 + k * 7) m[k] := (hc2 k hlt2).below hnx hw2
        obtain ⟨p, hp⟩ : ∃ p, l[k] = p := ⟨_, rfl⟩
        obtain ⟨q, hq⟩ : ∃ q, m[k] = q := ⟨_, rfl⟩
        rw [hp] at hat
        rw [hq] at hat2
        have HP := Lib.hid hp
        have HQ := Lib.hid hq
        have HA := Lib.hid hall
        obtain ⟨q0, q1, q2, q3, q4, q5, q6⟩ := opAt hat
        obtain ⟨r0, r1, r2, r3, r4, r5, r6⟩ := opAt hat2
        clear hc1 hc2 hp hq h1 h2 hall hat hat2
        subst hA1 hA2
        by_cases hpq : p = q
        · have HE := Lib.hid hpq
          subst hpq
          go_wp2
          go_quiet (fail)
          go_wp2
          go_roundw
          case rel =>
            refine ⟨k + 1, by omega, by go_num, fun j hj ha hb => ?_, below_drew hnx _⟩
            by_cases e : j = k
            · subst e; rw [HP.out, HQ.out]
            · exact HA.out j (by omega) ha hb
          case measure => simp [intOf]; omega
        · have HN := Lib.hid hpq
          rcases mv_unlike hpq with hu | ⟨a0, hu⟩ | ⟨a0, a1, hu⟩ | ⟨a0, a1, a2, hu⟩ | ⟨a0, a1, a2, a3, hu⟩ | ⟨a0, a1, a2, a3, a4, hu⟩ | ⟨a0, a1, a2, a3, a4, a5, hu⟩
          all_goals
            clear hpq
            go_wp2
            go_quiet (fail)
            go_wp2
            go_ret
            refine ⟨false, rfl, ⟨fun h => (by cases h), fun h => ?_⟩, below_drew hnx _⟩
            subst h
            exact absurd (HP.out.symm.trans HQ.out) HN.out
      · obtain rfl : k = l.length := by omega
        have HA := Lib.hid hall
        clear hall
        go_wp2
        go_ret
        exact ⟨true, rfl, ⟨fun _ => List.ext_getElem HL.out fun j ha hb => HA.out j ha ha hb, fun _ => rfl⟩, hnx⟩
  · have HL := Lib.hid hlen
    have hne : ¬ m.length = l.length := fun e => hlen e.symm
    go_enter Tryz.func18, Tryz.ntmps18
    go_wp2
    go_ret
    exact ⟨false, rfl, ⟨fun h => (by cases h), fun h => absurd (congrArg List.length h) HL.out⟩, Below.refl _ _⟩
end Go.Proofs.YtdcjffajmckleaaGreatDoor

/- Lists that rise by moments: what is put in, what is cut off, and the tree behind them. No program in it. -/
namespace Pst
open Tre

section
variable {α : Type} (c d : α → Int)
/-- The moment of x is ahead of that of y. -/
def bef (x y : α) : Prop := c x < c y ∨ (c x = c y ∧ d x < d y)
instance (x y : α) : Decidable (bef c d x y) := by unfold bef; infer_instance
def same (x y : α) : Prop := c x = c y ∧ d x = d y
instance (x y : α) : Decidable (same c d x y) := by unfold same; infer_instance
variable {c d}
theorem bef_trans {x y z : α} (h : bef c d x y) (k : bef c d y z) : bef c d x z := by unfold bef at *; omega
theorem bef_irrefl {x y : α} (h : same c d x y) : ¬ bef c d x y := by unfold bef same at *; omega
theorem bef_tri (x y : α) : bef c d x y ∨ same c d x y ∨ bef c d y x := by unfold bef same; omega
theorem bef_same {x y z : α} (h : bef c d x y) (k : same c d y z) : bef c d x z := by unfold bef same at *; omega
theorem not_bef {x y : α} (h : ¬ bef c d x y) (k : ¬ same c d x y) : bef c d y x := by
  rcases bef_tri (c := c) (d := d) x y with h1 | h1 | h1
  · exact absurd h1 h
  · exact absurd h1 k
  · exact h1

variable (c d)
def Ris (l : List α) : Prop := l.Pairwise (bef c d)
/-- How many stand ahead of o's moment. -/
def pos (l : List α) (o : α) : Nat := (l.takeWhile fun x => decide (bef c d x o)).length
def insL (l : List α) (o : α) : List α := (l.take (pos c d l o) ++ [o]) ++ l.drop (pos c d l o)
def has (l : List α) (o : α) : Bool := match l[pos c d l o]? with
  | some x => decide (same c d x o)
  | none => false
variable {c d}
theorem pos_le (l : List α) (o : α) : pos c d l o ≤ l.length := by
  unfold pos
  induction l with
  | nil => exact Nat.le_refl _
  | cons p l ih =>
    by_cases h : bef c d p o
    · rw [List.takeWhile_cons_of_pos (by simpa using h)]; simpa using ih
    · rw [List.takeWhile_cons_of_neg (by simpa using h)]; exact Nat.zero_le _
theorem pos_before : ∀ (l : List α) (o : α) (i : Nat) (h : i < l.length), i < pos c d l o → bef c d l[i] o
  | p :: l, o, i, h, hi => by
    unfold pos at hi
    by_cases hp : bef c d p o
    · rw [List.takeWhile_cons_of_pos (by simpa using hp)] at hi
      cases i with
      | zero => exact hp
      | succ i => exact pos_before l o i (by simpa using h) (by unfold pos; simpa using hi)
    · rw [List.takeWhile_cons_of_neg (by simpa using hp)] at hi; simp at hi
theorem pos_at : ∀ (l : List α) (o : α) (h : pos c d l o < l.length), ¬ bef c d l[pos c d l o] o
  | p :: l, o, h => by
    by_cases hp : bef c d p o
    · have e : pos c d (p :: l) o = pos c d l o + 1 := by unfold pos; rw [List.takeWhile_cons_of_pos (by simpa using hp)]; rfl
      simp only [e, List.getElem_cons_succ]
      exact pos_at l o (by rw [e] at h; simpa using h)
    · have e : pos c d (p :: l) o = 0 := by unfold pos; rw [List.takeWhile_cons_of_neg (by simpa using hp)]; rfl
      simp only [e, List.getElem_cons_zero]; exact hp
theorem pos_eq {l : List α} {o : α} {k : Nat} (hk : k ≤ l.length) (h1 : ∀ i (h : i < l.length), i < k → bef c d l[i] o) (h2 : ∀ (h : k < l.length), ¬ bef c d l[k] o) : k = pos c d l o := by
  rcases Nat.lt_trichotomy k (pos c d l o) with h | h | h
  · have hl : k < l.length := Nat.lt_of_lt_of_le h (pos_le l o)
    exact absurd (pos_before l o k hl h) (h2 hl)
  · exact h
  · have hl : pos c d l o < l.length := Nat.lt_of_lt_of_le h hk
    exact absurd (h1 _ hl h) (pos_at l o hl)
theorem ris_get {l : List α} (h : Ris c d l) {i j : Nat} (hi : i < l.length) (hj : j < l.length) (hij : i < j) : bef c d l[i] l[j] := List.pairwise_iff_getElem.1 h i j hi hj hij
theorem has_iff {l : List α} (hr : Ris c d l) (o : α) : has c d l o = true ↔ ∃ x ∈ l, same c d x o := by
  unfold has
  constructor
  · intro h
    rcases e : l[pos c d l o]? with _ | x
    · rw [e] at h; cases h
    · rw [e] at h
      exact ⟨x, List.mem_of_getElem? e, of_decide_eq_true h⟩
  · rintro ⟨x, hx, hs⟩
    obtain ⟨i, hi, rfl⟩ := List.getElem_of_mem hx
    have e : i = pos c d l o := pos_eq (Nat.le_of_lt hi) (fun j hj hji => bef_same (ris_get hr hj hi hji) hs) (fun _ => bef_irrefl hs)
    rw [← e, List.getElem?_eq_getElem hi]
    exact decide_eq_true hs
theorem mem_ins (l : List α) (o x : α) : x ∈ insL c d l o ↔ (x = o ∨ x ∈ l) := by
  unfold insL
  rw [List.mem_append, List.mem_append, List.mem_singleton]
  constructor
  · rintro ((h | h) | h)
    · exact Or.inr (List.mem_of_mem_take h)
    · exact Or.inl h
    · exact Or.inr (List.mem_of_mem_drop h)
  · rintro (h | h)
    · exact Or.inl (Or.inr h)
    · rw [← List.take_append_drop (pos c d l o) l, List.mem_append] at h
      rcases h with h | h
      · exact Or.inl (Or.inl h)
      · exact Or.inr h
theorem take_bef (l : List α) (o : α) : ∀ x ∈ l.take (pos c d l o), bef c d x o := fun x hx => by
  obtain ⟨i, hi, rfl⟩ := List.getElem_of_mem hx
  rw [List.length_take] at hi
  rw [List.getElem_take]
  exact pos_before l o i (by omega) (by omega)
theorem drop_bef {l : List α} (hr : Ris c d l) {o : α} (hn : has c d l o = false) : ∀ x ∈ l.drop (pos c d l o), bef c d o x := fun x hx => by
  obtain ⟨i, hi, rfl⟩ := List.getElem_of_mem hx
  rw [List.length_drop] at hi
  rw [List.getElem_drop]
  have hl : pos c d l o < l.length := by omega
  have h1 := pos_at l o hl
  have h2 : ¬ same c d l[pos c d l o] o := fun e => by
    have := (has_iff hr o).2 ⟨_, List.getElem_mem hl, e⟩
    rw [hn] at this; cases this
  have h3 := not_bef h1 h2
  by_cases e : i = 0
  · subst e; exact h3
  · exact bef_trans h3 (ris_get hr hl (by omega) (by omega))
theorem ris_ins {l : List α} (hr : Ris c d l) {o : α} (hn : has c d l o = false) : Ris c d (insL c d l o) := by
  unfold Ris insL
  rw [List.pairwise_append, List.pairwise_append]
  refine ⟨⟨hr.sublist (List.take_sublist _ _), List.pairwise_singleton _ _, fun x hx y hy => ?_⟩, hr.sublist (List.drop_sublist _ _), fun x hx y hy => ?_⟩
  · rw [List.mem_singleton] at hy; subst hy; exact take_bef l y x hx
  · have h2 := drop_bef hr hn y hy
    rcases List.mem_append.1 hx with h | h
    · exact bef_trans (take_bef l o x h) h2
    · rw [List.mem_singleton] at h; subst h; exact h2
theorem ins_len (l : List α) (o : α) : (insL c d l o).length = l.length + 1 := by
  have := pos_le (c := c) (d := d) l o
  unfold insL
  rw [List.length_append, List.length_append, List.length_take, List.length_drop, List.length_singleton]; omega

variable (c)
/-- How many have counters up to t. -/
def upto (l : List α) (t : Int) : Nat := (l.takeWhile fun x => decide (c x ≤ t)).length
variable {c}
theorem upto_le (l : List α) (t : Int) : upto c l t ≤ l.length := by
  unfold upto
  induction l with
  | nil => exact Nat.le_refl _
  | cons p l ih =>
    by_cases h : c p ≤ t
    · rw [List.takeWhile_cons_of_pos (by simpa using h)]; simpa using ih
    · rw [List.takeWhile_cons_of_neg (by simpa using h)]; exact Nat.zero_le _
theorem upto_before : ∀ (l : List α) (t : Int) (i : Nat) (h : i < l.length), i < upto c l t → c l[i] ≤ t
  | p :: l, t, i, h, hi => by
    unfold upto at hi
    by_cases hp : c p ≤ t
    · rw [List.takeWhile_cons_of_pos (by simpa using hp)] at hi
      cases i with
      | zero => exact hp
      | succ i => exact upto_before l t i (by simpa using h) (by unfold upto; simpa using hi)
    · rw [List.takeWhile_cons_of_neg (by simpa using hp)] at hi; simp at hi
theorem upto_at : ∀ (l : List α) (t : Int) (h : upto c l t < l.length), t < c l[upto c l t]
  | p :: l, t, h => by
    by_cases hp : c p ≤ t
    · have e : upto c (p :: l) t = upto c l t + 1 := by unfold upto; rw [List.takeWhile_cons_of_pos (by simpa using hp)]; rfl
      simp only [e, List.getElem_cons_succ]
      exact upto_at l t (by rw [e] at h; simpa using h)
    · have e : upto c (p :: l) t = 0 := by unfold upto; rw [List.takeWhile_cons_of_neg (by simpa using hp)]; rfl
      simp only [e, List.getElem_cons_zero]; omega
theorem upto_eq {l : List α} {t : Int} {k : Nat} (hk : k ≤ l.length) (h1 : ∀ i (h : i < l.length), i < k → c l[i] ≤ t) (h2 : ∀ (h : k < l.length), t < c l[k]) : k = upto c l t := by
  rcases Nat.lt_trichotomy k (upto c l t) with h | h | h
  · have hl : k < l.length := Nat.lt_of_lt_of_le h (upto_le l t)
    have := upto_before l t k hl h
    have := h2 hl
    omega
  · exact h
  · have hl : upto c l t < l.length := Nat.lt_of_lt_of_le h hk
    have := h1 _ hl h
    have := upto_at l t hl
    omega
theorem ris_c {l : List α} (hr : Ris c d l) {i j : Nat} (hi : i < l.length) (hj : j < l.length) (hij : i ≤ j) : c l[i] ≤ c l[j] := by
  by_cases e : i = j
  · subst e; exact Int.le_refl _
  · have := ris_get hr hi hj (by omega)
    unfold bef at this; omega
theorem upto_drop {l : List α} (hr : Ris c d l) (t : Int) : ∀ x ∈ l.drop (upto c l t), t < c x := fun x hx => by
  obtain ⟨i, hi, rfl⟩ := List.getElem_of_mem hx
  rw [List.length_drop] at hi
  rw [List.getElem_drop]
  have hl : upto c l t < l.length := by omega
  have h1 := upto_at l t hl
  have h2 := ris_c hr hl (j := upto c l t + i) (by omega) (by omega)
  omega
variable (mv : α → Pl)
end
end Pst
