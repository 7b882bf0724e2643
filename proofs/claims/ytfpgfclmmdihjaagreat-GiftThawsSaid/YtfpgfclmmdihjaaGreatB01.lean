/- Texts laid one behind the other: Bs, Ge, Gf, Tm, Ta, Tb, Th, Ti, Tj, Tt, Sf, Sa, Sb, Sc. -/
import Derived.Test.YtfpgfclmmdihjaaGreatChecked
import Derived.WalkKit
import Derived.WalkLawsBesides
import Derived.Lib.Hide
import Derived.KernelRfl
import Derived.Handy
import Derived.Lib.Strings
import Derived.Maps.AppendAt
import Derived.Laws.OwnMore
import Derived.Lib.AppendZeros
import Derived.Laws.ResultCell
import Derived.Laws.CopyOwn
import Derived.Laws.CopyRow
import Derived.BigQuiet
import Derived.Deep.QuietTactic
import Derived.Lib.QuietBelow
import Derived.StillTailTactics
import Derived.Lib.Builder
import Derived.Deep.RegionHeld3
import Derived.Laws.FloatArith
/- Small words that all texts share. -/
namespace Go.Proofs.YtfpgfclmmdihjaaGreat
open Go.RowKit

theorem ret_int {k : IntKind} {a b : Int} (h : a = b) : Ending.returned (.int k a) = .returned (.int k b) := by rw [h]
theorem ret_bool {a b : Bool} (h : b = a) : Ending.returned (.bool a) = .returned (.bool b) := by rw [h]
theorem ret_of {a b : Value} (h : a = b) : Ending.returned a = Ending.returned b := by rw [h]

/-- What was there reads as it did. -/
theorem bcell {W w1 : World} (hb : Below W.heap.size W w1) : (∀ b o, b < W.heap.size → w1.cell? ⟨b, o, none⟩ = W.cell? ⟨b, o, none⟩) ∧ (∀ b o, b < W.heap.size → w1.frozen? ⟨b, o, none⟩ = W.frozen? ⟨b, o, none⟩) :=
  ⟨fun b o h => hb.cell (p := ⟨b, o, none⟩) h, fun b o h => hb.frozen (p := ⟨b, o, none⟩) h⟩
theorem below_then {w w1 w2 : World} (h : Below w.heap.size w w1) (k : Below w1.heap.size w1 w2) : Below w.heap.size w w2 := h.trans (k.mono h.size)
theorem below_alloc {w w1 : World} (h : Below w.heap.size w w1) (o : Obj) : Below w.heap.size w (w1.alloc o) := h.alloc h.size o
theorem below_drew {W w : World} (h : Below W.heap.size W w) (n : Nat) : Below W.heap.size W (w.drewN n) := ⟨h.os, h.tape, h.output, h.size, h.block⟩

theorem alloc_size (w : World) (o : Obj) : (w.alloc o).heap.size = w.heap.size + 1 := by simp
def i64 (n : Int) : Prop := -9223372036854775808 ≤ n ∧ n ≤ 9223372036854775807

/-- The bytes of a text. -/
def L (s : ByteArray) : List UInt8 := s.data.toList
theorem L_len (s : ByteArray) : (L s).length = s.size := by unfold L; simp
theorem L_at (s : ByteArray) (i : Nat) (h : i < s.size) : (L s)[i]'(by rw [L_len]; exact h) = s[i] := rfl
theorem L_inj {a b : ByteArray} (h : L a = L b) : a = b := by
  unfold L at h; cases a; cases b; simp at h; rw [h]
theorem L_app (a b : ByteArray) : L (a ++ b) = L a ++ L b := by unfold L; simp
theorem ne_list {a b : ByteArray} (h : ¬ a = b) : ¬ a.toList = b.toList := by
  intro e
  rw [Lib.toList_data, Lib.toList_data] at e
  exact h (L_inj e)
theorem ne_beq {a b : ByteArray} (h : ¬ a = b) : (a.toList == b.toList) = false := by simpa using ne_list h

end Go.Proofs.YtfpgfclmmdihjaaGreat

/- Rows and slices of structs, whatever the struct: what lies where, what is cut out, what append makes. No function of the program in it. -/
namespace Go.Proofs.YtfpgfclmmdihjaaGreat
open Go.RowKit

/-- A kind of element: its type, how many cells it has, and which. -/
structure El (α : Type) where
  e : TypeId
  k : Nat
  c : α → List Value
  len : ∀ x, (c x).length = k
  one : ∀ x, ∀ u ∈ c x, u.oneCell' = true
  pos : 0 < k
section
variable {α : Type} (E : El α)
/-- From the cell o of block b on x lies. -/
def El.At (w : World) (b o : Nat) (x : α) : Prop := ∀ j u, (E.c x)[j]? = some u → w.cell? ⟨b, o + j, none⟩ = some u
/-- The slice at A holds these. -/
def El.Sl (w : World) (A : Option Addr) (l : List α) : Prop :=
  0 < l.length → ∃ b off, A = some ⟨b, off, none⟩ ∧ b < w.heap.size ∧ ∀ i (h : i < l.length), E.At w b (off + i * E.k) l[i]
/-- So, in a block ahead of B. -/
def El.SlB (B : Nat) (w : World) (A : Option Addr) (l : List α) : Prop :=
  0 < l.length → ∃ b off, A = some ⟨b, off, none⟩ ∧ b < B ∧ ∀ i (h : i < l.length), E.At w b (off + i * E.k) l[i]
/-- Block b is x's own. -/
def El.In (w : World) (b : Nat) (x : α) : Prop := w.heap[b]? = some (.cells (E.c x).toArray E.e (0, 0))
variable {E}
section
variable {W w w' : World} {b o B : Nat} {x : α} {A : Option Addr} {l : List α} {row : Option Nat}
theorem El.At.below (h : E.At W b o x) (hb : Below W.heap.size W w) (hl : b < W.heap.size) : E.At w b o x := fun j u hu => by rw [(bcell hb).1 _ _ hl]; exact h j u hu
theorem El.At.grown (h : E.At w b o x) (hg : w.grownBy w' row) (hne : some b ≠ row) : E.At w' b o x := fun j u hu => hg.cell (h j u hu) hne
theorem El.Sl.below (h : E.Sl W A l) (hb : Below W.heap.size W w) : E.Sl w A l := fun h0 => by
  obtain ⟨b, off, e, hl, hc⟩ := h h0
  exact ⟨b, off, e, Nat.lt_of_lt_of_le hl hb.size, fun i hi => (hc i hi).below hb hl⟩
theorem El.Sl.nil (w : World) (A : Option Addr) : E.Sl w A [] := fun h => by simp at h
theorem El.Sl.none_nil (h : E.Sl w none l) : l = [] := by
  rcases Nat.eq_zero_or_pos l.length with h0 | h0
  · exact List.eq_nil_of_length_eq_zero h0
  · obtain ⟨_, _, e, _⟩ := h h0; cases e
theorem El.Sl.take (h : E.Sl w A l) (n : Nat) : E.Sl w A (l.take n) := fun h0 => by
  have hk : (l.take n).length ≤ l.length := by rw [List.length_take]; omega
  obtain ⟨b, off, e, hb, hc⟩ := h (by omega)
  exact ⟨b, off, e, hb, fun i hi => by rw [List.getElem_take]; exact hc i (by omega)⟩
theorem El.Sl.drop {A3 : Option Addr} {cap tz : Nat} (h : E.Sl w A l) (hcap : l.length ≤ cap) (he : (if cap = tz then A else Option.map (fun x => x.add (tz * E.k)) A) = A3) : E.Sl w A3 (l.drop tz) := fun h0 => by
  rw [List.length_drop] at h0
  obtain ⟨b, off, e, hb, hc⟩ := h (by omega)
  rw [if_neg (by omega), e] at he
  refine ⟨b, off + tz * E.k, by rw [← he]; simp [Addr.add_lit], hb, fun i hi => ?_⟩
  rw [List.length_drop] at hi
  rw [List.getElem_drop, Nat.add_assoc, ← Nat.add_mul]
  exact hc _ (by omega)
theorem El.drop_none {A3 : Option Addr} {cap tz n : Nat} (hn : A = none → cap = 0) (he : (if cap = tz then A else Option.map (fun x => x.add n) A) = A3) (h : A3 = none) : cap - tz = 0 := by
  by_cases e : cap = tz
  · omega
  · rw [if_neg e, h, Option.map_eq_none_iff] at he
    have := hn he; omega
theorem El.SlB.of (h : E.Sl w A l) (hB : w.heap.size ≤ B) : E.SlB B w A l := fun h0 => by
  obtain ⟨b, off, e, hl, hc⟩ := h h0
  exact ⟨b, off, e, by omega, hc⟩
theorem El.SlB.sl (h : E.SlB B w A l) (hB : B ≤ w.heap.size) : E.Sl w A l := fun h0 => by
  obtain ⟨b, off, e, hl, hc⟩ := h h0
  exact ⟨b, off, e, by omega, hc⟩
theorem El.SlB.keep (h : E.SlB B w A l) (hg : w.grownBy w' row) (hrow : ∀ n, row = some n → B ≤ n) : E.SlB B w' A l := fun h0 => by
  obtain ⟨b, off, e, hl, hc⟩ := h h0
  exact ⟨b, off, e, hl, fun i hi => (hc i hi).grown hg (fun e => by have := hrow b e.symm; omega)⟩
theorem El.Sl.keep1 {a : Addr} (h : E.Sl w (some a) l) (hg : w.grownBy w' row) (hne : some a.block ≠ row) : E.Sl w' (some a) l := fun h0 => by
  obtain ⟨b, off, e, hl, hc⟩ := h h0
  cases e
  exact ⟨b, off, rfl, Nat.lt_of_lt_of_le hl hg.size, fun i hi => (hc i hi).grown hg hne⟩
theorem El.Sl.keep (h : E.Sl w A l) (hg : w.grownBy w' row) (hne : ∀ a, A = some a → some a.block ≠ row) : E.Sl w' A l := fun h0 => by
  obtain ⟨b, off, e, hl, hc⟩ := h h0
  exact ⟨b, off, e, Nat.lt_of_lt_of_le hl hg.size, fun i hi => (hc i hi).grown hg (hne _ e)⟩

theorem El.In.lt (h : E.In w b x) : b < w.heap.size := by
  rcases Nat.lt_or_ge b w.heap.size with hlt | hge
  · exact hlt
  · unfold El.In at h; rw [Array.getElem?_eq_none hge] at h; cases h
theorem El.In.cell (h : E.In w b x) (j : Nat) : w.cell? ⟨b, j, none⟩ = (E.c x)[j]? := by
  have := cell_of_row w b j _ E.e (0, 0) h
  rw [this]; simp
theorem El.In.at (h : E.In w b x) : E.At w b 0 x := fun j u hu => by rw [Nat.zero_add, h.cell]; exact hu
theorem El.In.frozen (h : E.In w b x) (i : Nat) : w.frozen? ⟨b, i, none⟩ = false := by
  unfold El.In at h
  simp [World.frozen?, h]
theorem El.In.new (w : World) (x : α) (cs : Array Value) (hc : cs = (E.c x).toArray) : E.In (w.alloc (.cells cs E.e)) w.heap.size x := by subst hc; exact heap_alloc_new w _
theorem El.In.below (h : E.In w b x) (hg : Below w.heap.size w w') : E.In w' b x := (hg.block b h.lt).trans h
theorem El.In.keep (h : E.In w b x) (hg : w.grownBy w' row) (hne : some b ≠ row) : E.In w' b x := (hg.block b h.lt hne).trans h
theorem El.In.alloc (h : E.In w b x) (o : Obj) : E.In (w.alloc o) b x := h.below (below_alloc (Below.refl _ _) o)
theorem El.In.set (h : E.In w b x) (y : α) (cs : Array Value) (hc : cs = (E.c y).toArray) : E.In (w.setRow b cs) b y := by subst hc; exact setRow_heap _ _ _ _ _ _ h
theorem El.In.put (h : E.In w b x) (y : α) (j : Nat) (u : Value) (hy : E.c y = (E.c x).set j u) : E.In (w.setCell ⟨b, j, none⟩ u) b y := by
  unfold El.In at h ⊢
  rw [hy]
  simp [World.setCell, Array.getElem?_modify, h]
theorem El.In.other (h : E.In w b x) (n i : Nat) (v : Value) (hne : b ≠ n) : E.In (w.setCell ⟨n, i, none⟩ v) b x :=
  (Below.heap_setCell w ⟨n, i, none⟩ v b hne).trans h
theorem El.In.rowN (h : E.In w b x) (n : Nat) (cs : Array Value) (hne : b ≠ n) : E.In (w.setRow n cs) b x := (setRow_other w n b cs hne).trans h
theorem El.In.sl (h : E.In w b x) : E.Sl w (some ⟨b, 0, none⟩) [x] := fun _ =>
  ⟨b, 0, rfl, h.lt, fun i hi => by
    obtain rfl : i = 0 := by simpa using hi
    rw [Nat.zero_mul]; exact h.at⟩
end

variable (E)
/-- The cells of a list. -/
def El.cells : List α → List Value
  | [] => []
  | x :: l => E.c x ++ El.cells l
variable {E}
theorem El.cells_len : ∀ l : List α, (E.cells l).length = l.length * E.k
  | [] => by simp [El.cells]
  | x :: l => by rw [El.cells, List.length_append, E.len, El.cells_len l, List.length_cons, Nat.succ_mul, Nat.add_comm]
theorem El.cells_app : ∀ l r : List α, E.cells (l ++ r) = E.cells l ++ E.cells r
  | [], r => rfl
  | x :: l, r => by rw [List.cons_append, El.cells, El.cells, El.cells_app l r, List.append_assoc]
theorem El.cells_one : ∀ l : List α, ∀ u ∈ E.cells l, u.oneCell' = true
  | [], u, h => by cases h
  | x :: l, u, h => by
    rcases List.mem_append.1 h with h | h
    · exact E.one x u h
    · exact El.cells_one l u h
theorem El.cells_at : ∀ (l : List α) (i : Nat) (h : i < l.length) (j : Nat) (u : Value), (E.c l[i])[j]? = some u → (E.cells l)[i * E.k + j]? = some u
  | x :: l, 0, _, j, u, hu => by
    rw [Nat.zero_mul, Nat.zero_add, El.cells, List.getElem?_append_left]
    · exact hu
    · have := (List.getElem?_eq_some_iff.1 hu).1; exact this
  | x :: l, i + 1, h, j, u, hu => by
    have := El.cells_at l i (by simpa using h) j u hu
    rw [El.cells, List.getElem?_append_right (by rw [E.len, Nat.succ_mul]; omega), E.len, Nat.succ_mul]
    rw [show i * E.k + E.k + j - E.k = i * E.k + j by omega]; exact this
theorem El.cells_get : ∀ (l : List α) (n : Nat) (u : Value), (E.cells l)[n]? = some u → ∃ i, ∃ h : i < l.length, ∃ j, n = i * E.k + j ∧ (E.c l[i])[j]? = some u
  | [], n, u, h => by simp [El.cells] at h
  | x :: l, n, u, h => by
    rw [El.cells] at h
    by_cases hn : n < E.k
    · rw [List.getElem?_append_left (by rw [E.len]; exact hn)] at h
      exact ⟨0, by simp, n, by rw [Nat.zero_mul, Nat.zero_add], h⟩
    · rw [List.getElem?_append_right (by rw [E.len]; omega), E.len] at h
      obtain ⟨i, hi, j, e, hu⟩ := El.cells_get l (n - E.k) u h
      exact ⟨i + 1, by simpa using hi, j, by rw [Nat.succ_mul]; omega, hu⟩
theorem El.Sl.cells {w : World} {a : Addr} {l : List α} (h : E.Sl w (some a) l) : ∀ j u, (E.cells l)[j]? = some u → w.cell? (a.add j) = some u := by
  intro n u hu
  obtain ⟨i, hi, j, rfl, hc⟩ := El.cells_get l n u hu
  obtain ⟨b, off, e, _, hat⟩ := h (by omega)
  obtain rfl := Option.some.inj e
  rw [Addr.add_lit, ← Nat.add_assoc]
  exact hat i hi j u hc

variable (E)
/-- The slice v holds these, in a row that the call has made. -/
def El.Own (w : World) (B : Nat) (v : Value) (l : List α) : Prop := w.ownsRow B E.e E.k v l.length (E.cells l)
variable {E}
section
variable {w w' : World} {B : Nat} {v : Value} {l : List α} {row : Option Nat}
theorem El.Own.nil (w : World) (B : Nat) : E.Own w B (.slice none 0 0) [] := World.ownsRow_nil w B E.e E.k
theorem El.Own.kept (h : E.Own w B v l) (hg : w.grownBy w' row) (hne : v.ownBlock = none ∨ v.ownBlock ≠ row) : E.Own w' B v l := World.ownsRow.kept h hg hne
theorem El.Own.below (h : E.Own w B v l) (hb : Below w.heap.size w w') : E.Own w' B v l :=
  World.ownsRow.kept h (row := none) ⟨hb.os, hb.tape, hb.output, hb.size, fun k hk _ => hb.block k hk⟩ (by cases hv : v.ownBlock <;> simp)
theorem El.Own.lt (h : E.Own w B v l) : ∀ n, v.ownBlock = some n → B ≤ n ∧ n < w.heap.size := World.ownsRow.lt h
theorem El.Own.rows (h : E.Own w B v l) : ∀ n, v.ownBlock = some n → B ≤ n := fun n e => (World.ownsRow.lt h n e).1
theorem El.Own.sl (h : E.Own w B v l) : ∃ A cap, v = .slice A l.length cap ∧ E.Sl w A l ∧ (A = none → cap = 0) ∧ l.length ≤ cap := by
  have hc := fun g (hg : v.ownBlock = some g) => World.ownsRow.cells h hg
  have hlt := World.ownsRow.lt h
  unfold El.Own at h
  rcases h.2 with ⟨rfl, h0⟩ | ⟨g, cap, cur, rfl, _, _, hnc, _⟩
  · have : l = [] := List.eq_nil_of_length_eq_zero h0
    subst this
    exact ⟨none, 0, rfl, El.Sl.nil w none, fun _ => rfl, Nat.le_refl _⟩
  · refine ⟨some ⟨g, 0, none⟩, cap, rfl, fun _ => ⟨g, 0, rfl, (hlt g rfl).2, fun i hi j u hu => ?_⟩, (fun e => by cases e), hnc⟩
    have := hc g rfl _ _ (El.cells_at l i hi j u hu)
    rw [Addr.add_lit, ← Nat.add_assoc] at this; exact this
theorem El.Own.empty (w : World) (B : Nat) (hB : B ≤ w.heap.size) : E.Own (w.alloc (.cells #[] E.e)) B (.slice (some ⟨w.heap.size, 0, none⟩) 0 0) [] :=
  World.ownsRow_made w #[] 0 hB (by unfold maxLen; omega) (Nat.zero_mul _).symm
end

/-- What a program says of the kind: its slices' type, and the type's zero. -/
structure El.Inn (E : El α) (P : Program) (st : TypeId) : Prop where
  und : P.underlying st = some (.slice E.e)
  info : ∃ i z, P.info? E.e = some i ∧ i.zero = some z ∧ i.size = E.k ∧ i.bytes ≤ 1000 ∧ z.cells.size = E.k
theorem El.inn_of {P : Program} {st : TypeId} {z : Value} {bytes : Nat} (hu : P.underlying st = some (.slice E.e)) (h : (P.info? E.e).map (fun i => (i.zero, i.size, i.bytes)) = some (some z, E.k, bytes)) (hz : z.cells.size = E.k) (hb : bytes ≤ 1000) : E.Inn P st := by
  obtain ⟨i, hi, hz0, hz1, hz2⟩ := info_parts h
  exact ⟨hu, i, z, hi, hz0, hz1, by rw [hz2]; exact hb, hz⟩
variable {P : Program} {st : TypeId}
theorem El.run_app (I : E.Inn P st) (w : World) (ty : TypeId) (B : Nat) (v : Value) (l r : List α) (hown : E.Own w B v l) (A : Option Addr) (m c : Nat) (hm : r.length = m) (hT : E.Sl w A r) (hc : A = none → c = 0) (hl : l.length + r.length ≤ 100000) (hB : B ≤ w.heap.size) :
    ∃ v' w', (Builtin.append_ #[st, st] ty #[v, .slice A m c]).run P w = .ok v' w' ∧ E.Own w' B v' (l ++ r) ∧ w.grownBy w' v.ownBlock ∧ (v'.ownBlock = v.ownBlock ∨ v'.ownBlock = some w.heap.size) := by
  subst hm
  obtain ⟨hu, i, z, hi, hz, hsz, hby, hzs⟩ := I
  cases A with
  | none =>
    obtain rfl := hT.none_nil
    obtain rfl := hc rfl
    refine ⟨v, w, run_append_owned_none (P := P) (w := w) B st ty E.e i E.k hu hi v l.length (E.cells l) hown, ?_, ⟨rfl, rfl, rfl, Nat.le_refl _, fun _ _ _ => rfl⟩, Or.inl rfl⟩
    rw [List.append_nil]; exact hown
  | some a =>
    have hb : (l.length + r.length) * i.bytes ≤ 100000 * 1000 := Nat.mul_le_mul hl hby
    obtain ⟨v', w', h1, h2, h3, _, h5⟩ := run_append_own_at (P := P) w B st ty E.e i z E.k i.bytes hu hi hz hsz rfl hzs E.pos v l.length (E.cells l) hown a r.length c (E.cells r) (El.cells_len r) hT.cells (El.cells_one r) (by unfold maxLen; omega) (by omega) hB
    refine ⟨v', w', h1, ?_, h3, h5⟩
    unfold El.Own
    rw [List.length_append, El.cells_app]; exact h2
theorem El.wp_app (I : E.Inn P st) {o : Oper} {a : Act} {w : World} {K : Act → World → Prop} {Q : Exit → Act → World → Prop} (s x : Operand)
    (ho : o.op = .call { callee := .builtin .append, args := #[s, x], argTypes := #[st, st] }) (B : Nat) (v : Value) (l r : List α) (hs : a.eval s = v) (hown : E.Own w B v l) (A : Option Addr) (m c : Nat) (hx : a.eval x = .slice A m c)
    (hm : r.length = m) (hT : E.Sl w A r) (hc : A = none → c = 0) (hl : l.length + r.length ≤ 100000) (hB : B ≤ w.heap.size)
    (h : ∀ v' w', E.Own w' B v' (l ++ r) → w.grownBy w' v.ownBlock → (v'.ownBlock = v.ownBlock ∨ v'.ownBlock = some w.heap.size) → K (a.put o.dst v') w') : o.wp P a w K Q := by
  obtain ⟨v', w', hr, h2, h3, h4⟩ := El.run_app I w o.type B v l r hown A m c hm hT hc hl hB
  unfold Oper.wp execOp
  simp only [ho, resolve, invoke, builtin, Sem.run_bind, Sem.run_pure, Result.andThen_ok, List.map_toArray, List.map_cons, List.map_nil, hs, hx, hr]
  exact h v' w' h2 h3 h4
theorem El.wpList_app (I : E.Inn P st) {ops : Array Oper} {rest : List Oper} {o : Oper} {a : Act} {w : World} {Q : Exit → Act → World → Prop} (hgd : o.guard = none) (s x : Operand)
    (ho : o.op = .call { callee := .builtin .append, args := #[s, x], argTypes := #[st, st] }) (B : Nat) (v : Value) (l r : List α) (hs : a.eval s = v) (hown : E.Own w B v l) (A : Option Addr) (m c : Nat) (hx : a.eval x = .slice A m c)
    (hm : r.length = m) (hT : E.Sl w A r) (hc : A = none → c = 0) (hl : l.length + r.length ≤ 100000) (hB : B ≤ w.heap.size)
    (h : ∀ v' w', E.Own w' B v' (l ++ r) → w.grownBy w' v.ownBlock → (v'.ownBlock = v.ownBlock ∨ v'.ownBlock = some w.heap.size) → wpList P ops Q rest (a.put o.dst v') w') : wpList P ops Q (o :: rest) a w :=
  wpList_plain hgd fun _ hK => El.wp_app I s x ho B v l r hs hown A m c hx hm hT hc hl hB fun v' w' h2 h3 h4 => hK _ _ (h v' w' h2 h3 h4)
theorem El.step_app (I : E.Inn P st) {ops : Array Oper} {o : Oper} {a : Act} {w : World} {K : Act → World → Prop} {Q : Exit → Act → World → Prop} {F : Prop} (hgd : o.guard = none) (s x : Operand)
    (ho : o.op = .call { callee := .builtin .append, args := #[s, x], argTypes := #[st, st] }) (B : Nat) (v : Value) (l r : List α) (hs : a.eval s = v) (hown : E.Own w B v l) (A : Option Addr) (m c : Nat) (hx : a.eval x = .slice A m c)
    (hm : r.length = m) (hT : E.Sl w A r) (hc : A = none → c = 0) (hl : l.length + r.length ≤ 100000) (hB : B ≤ w.heap.size)
    (h : ∀ v' w', E.Own w' B v' (l ++ r) → w.grownBy w' v.ownBlock → (v'.ownBlock = v.ownBlock ∨ v'.ownBlock = some w.heap.size) → K (a.put o.dst v') w') :
    if Region.wanted o (yielded ops a.tmps) = true then Oper.wp P o a w K Q else F := by
  rw [if_pos (by simp [Region.wanted, hgd])]
  exact El.wp_app I s x ho B v l r hs hown A m c hx hm hT hc hl hB h

/-- What a program says of the kind as a struct. -/
def isRow : TypeDesc → Bool
  | .struct _ => true
  | .array _ _ => true
  | _ => false
structure El.Row (E : El α) (P : Program) : Prop where
  size : (P.info? E.e).map (·.size) = some E.k
  desc : ∃ d, P.underlying E.e = some d ∧ isRow d = true
theorem El.run_load (R : El.Row E P) {w : World} {b off : Nat} {x : α} (h : E.At w b off x) : (loadVar E.e ⟨b, off, none⟩).run P w = .ok (.agg (E.c x).toArray) w := by
  obtain ⟨d, hu, hd⟩ := R.desc
  have hs0 := R.size
  have hl : (loadCells ⟨b, off, none⟩ (E.c x).length).run P w = .ok (E.c x).toArray w :=
    run_loadCells_list (P := P) w ⟨b, off, none⟩ (E.c x) (fun j v hv => by rw [Addr.add_lit]; exact h j v hv)
  cases hq : P.info? E.e with
  | none => simp [hq] at hs0
  | some i =>
    have hs : i.size = (E.c x).length := by rw [E.len]; simpa [hq] using hs0
    have hagg : (isAgg E.e).run P w = .ok true w := by
      unfold isAgg
      rw [Sem.run_bind, run_underlying hu w]
      cases d <;> simp_all [isRow]
    simp [loadVar, Sem.run_bind, hagg, sizeOf, typeInfo, hq, hs, hl]
theorem El.wp_load (R : El.Row E P) {o : Oper} {a : Act} {w : World} {K : Act → World → Prop} {Q : Exit → Act → World → Prop} (x : Operand) (ho : o.op = .load E.e x)
    (b off : Nat) (hx : a.eval x = .pointer (some ⟨b, off, none⟩)) (p : α) (hg : E.At w b off p) (cs : Array Value) (hc : cs = (E.c p).toArray)
    (h : K (a.put o.dst (.agg cs)) w) : o.wp P a w K Q := by
  subst hc
  unfold Oper.wp execOp
  simp only [ho, hx, Instr.loadAt, Instr.sureAddr, Sem.run_bind, Sem.run_pure, Result.andThen_ok, El.run_load R hg]
  exact h
theorem El.load (R : El.Row E P) {ops : Array Oper} {rest : List Oper} {o : Oper} {a : Act} {w : World} {Q : Exit → Act → World → Prop} (hgd : o.guard = none) (x : Operand) (ho : o.op = .load E.e x)
    (b off : Nat) (hx : a.eval x = .pointer (some ⟨b, off, none⟩)) (p : α) (hg : E.At w b off p) (cs : Array Value) (hc : cs = (E.c p).toArray)
    (h : wpList P ops Q rest (a.put o.dst (.agg cs)) w) : wpList P ops Q (o :: rest) a w :=
  wpList_plain hgd fun _ hK => El.wp_load R x ho b off hx p hg cs hc (hK _ _ h)
theorem El.store (R : El.Row E P) {ops : Array Oper} {rest : List Oper} {o : Oper} {a : Act} {w : World} {Q : Exit → Act → World → Prop} (hgd : o.guard = none) (x y : Operand) (ho : o.op = .store E.e x y)
    (b : Nat) (q : α) (cs : Array Value) (hc : cs = (E.c q).toArray) (hx : a.eval x = .pointer (some ⟨b, 0, none⟩)) (hy : a.eval y = .agg cs)
    (p : α) (hg : E.In w b p)
    (h : wpList P ops Q rest (a.put o.dst undef) (w.setRow b cs)) : wpList P ops Q (o :: rest) a w := by
  subst hc
  exact wpList_store_row hgd E.e x y ho b _ hx hy E.e _ hg (by simpa [E.len] using R.size) (by simp [E.len]) (by simpa using E.one q) h
theorem El.step_store (R : El.Row E P) {ops : Array Oper} {o : Oper} {a : Act} {w : World} {K : Act → World → Prop} {Q : Exit → Act → World → Prop} {F : Prop} (hgd : o.guard = none) (x y : Operand) (ho : o.op = .store E.e x y)
    (b : Nat) (q : α) (cs : Array Value) (hc : cs = (E.c q).toArray) (hx : a.eval x = .pointer (some ⟨b, 0, none⟩)) (hy : a.eval y = .agg cs)
    (p : α) (hg : E.In w b p)
    (h : K (a.put o.dst undef) (w.setRow b cs)) : if Region.wanted o (yielded ops a.tmps) = true then Oper.wp P o a w K Q else F := by
  rw [if_pos (by simp [Region.wanted, hgd])]
  subst hc
  exact wp_store_row E.e x y ho b _ hx hy E.e _ hg (by simpa [E.len] using R.size) (by simp [E.len]) (by simpa using E.one q) h
theorem El.step_load (R : El.Row E P) {ops : Array Oper} {o : Oper} {a : Act} {w : World} {K : Act → World → Prop} {Q : Exit → Act → World → Prop} {F : Prop} (hgd : o.guard = none) (x : Operand) (ho : o.op = .load E.e x)
    (b off : Nat) (hx : a.eval x = .pointer (some ⟨b, off, none⟩)) (p : α) (hg : E.At w b off p) (cs : Array Value) (hc : cs = (E.c p).toArray)
    (h : K (a.put o.dst (.agg cs)) w) : if Region.wanted o (yielded ops a.tmps) = true then Oper.wp P o a w K Q else F := by
  rw [if_pos (by simp [Region.wanted, hgd])]
  exact El.wp_load R x ho b off hx p hg cs hc h
/-- One result, a struct of a block. -/
theorem El.ret1 (R : El.Row E P) {fn : Func} {K : Ending → World → Prop} {a : Act} {w : World} {b : Nat} {t : Tmp} {p : α} (h : E.In w b p) (hr : fn.results = #[.cell t E.e]) (hp : a.tmps.getD t undef = .pointer (some ⟨b, 0, none⟩)) (hd : a.defers = [])
    (cs : Array Value) (hc : cs = (E.c p).toArray) (hR : K (.returned (.agg cs)) w) : bodyPost P fn K .ret a w := by
  subst hc
  have hp' : a.tmps[t]?.getD undef = .pointer (some ⟨b, 0, none⟩) := by simpa using hp
  refine bodyPost_ret (v := .agg (E.c p).toArray) ?_ hd hR
  simp [results, hr, hp', asAddr, El.run_load R h.at]
/-- Two results, a struct of a block and a word. -/
theorem El.ret2 (R : El.Row E P) {fn : Func} {K : Ending → World → Prop} {a : Act} {w : World} {b : Nat} {t u : Tmp} {v : Value} {p : α} (h : E.In w b p) (hr : fn.results = #[.cell t E.e, .tmp u]) (hp : a.tmps.getD t undef = .pointer (some ⟨b, 0, none⟩)) (hv : a.tmps.getD u undef = v) (hd : a.defers = [])
    (cs : Array Value) (hc : cs = (E.c p).toArray) (hR : K (.returned (.tuple #[.agg cs, v])) w) : bodyPost P fn K .ret a w := by
  subst hc
  refine bodyPost_ret (v := .tuple #[.agg (E.c p).toArray, v]) ?_ hd hR
  rw [results_cell_tmp hr, hp, hv]
  simp only [asAddr, Sem.run_pure, Result.andThen, El.run_load R h.at]
/-- Two results, a word and a struct of a block. -/
theorem El.ret3 (R : El.Row E P) {fn : Func} {K : Ending → World → Prop} {a : Act} {w : World} {b : Nat} {t u : Tmp} {v : Value} {p : α} (h : E.In w b p) (hr : fn.results = #[.tmp u, .cell t E.e]) (hp : a.tmps.getD t undef = .pointer (some ⟨b, 0, none⟩)) (hv : a.tmps.getD u undef = v) (hd : a.defers = [])
    (cs : Array Value) (hc : cs = (E.c p).toArray) (hR : K (.returned (.tuple #[v, .agg cs])) w) : bodyPost P fn K .ret a w := by
  subst hc
  refine bodyPost_ret (v := .tuple #[v, .agg (E.c p).toArray]) ?_ hd hR
  have hp' : a.tmps[t]?.getD undef = .pointer (some ⟨b, 0, none⟩) := by simpa using hp
  have hv' : a.tmps[u]?.getD undef = v := by simpa using hv
  simp [results, hr, hp', hv', asAddr, El.run_load R h.at]
end
end Go.Proofs.YtfpgfclmmdihjaaGreat

/- Rows of structs, whatever the struct: made, written at a place, built of one. No function of the program in it. -/
namespace Go.Proofs.YtfpgfclmmdihjaaGreat
open Go.RowKit

section
variable {α : Type} {E : El α}
theorem El.cells_take (l : List α) (i : Nat) (h : i ≤ l.length) : E.cells (l.take i) = (E.cells l).take (i * E.k) := by
  have e : E.cells l = E.cells (l.take i) ++ E.cells (l.drop i) := by rw [← El.cells_app, List.take_append_drop]
  have hl : (E.cells (l.take i)).length = i * E.k := by rw [El.cells_len, List.length_take, Nat.min_eq_left h]
  rw [e]; exact (List.take_left' hl).symm
theorem El.cells_drop (l : List α) (i : Nat) (h : i ≤ l.length) : E.cells (l.drop i) = (E.cells l).drop (i * E.k) := by
  have e : E.cells l = E.cells (l.take i) ++ E.cells (l.drop i) := by rw [← El.cells_app, List.take_append_drop]
  have hl : (E.cells (l.take i)).length = i * E.k := by rw [El.cells_len, List.length_take, Nat.min_eq_left h]
  rw [e]; exact (List.drop_left' hl).symm
theorem El.cells_set (l : List α) (i : Nat) (h : i < l.length) (x : α) : E.cells (l.set i x) = (E.cells l).take (i * E.k) ++ E.c x ++ (E.cells l).drop (i * E.k + E.k) := by
  rw [List.set_eq_take_append_cons_drop, if_pos h, El.cells_app, El.cells, El.cells_take l i (by omega), El.cells_drop l (i + 1) h, Nat.succ_mul, List.append_assoc]
theorem El.cells_rep (x : α) : ∀ n, (E.cells (List.replicate n x)).length = n * E.k := fun n => by rw [El.cells_len, List.length_replicate]
theorem El.made (x : α) (z : Array Value) (hz : z.toList = E.c x) (n : Nat) : (madeCells z (n * E.k)).toList = E.cells (List.replicate n x) := by
  have hzs : z.size = E.k := by rw [← Array.length_toList, hz, E.len]
  have hpos := E.pos
  apply List.ext_getElem?
  intro m
  by_cases hm : m < n * E.k
  · have h1 : m / E.k < n := Nat.div_lt_of_lt_mul (by rw [Nat.mul_comm]; exact hm)
    have h2 : m % E.k < E.k := Nat.mod_lt _ hpos
    have hu : (E.c x)[m % E.k]? = some ((E.c x)[m % E.k]'(by rw [E.len]; exact h2)) := List.getElem?_eq_getElem _
    have h3 := El.cells_at (E := E) (List.replicate n x) (m / E.k) (by simpa using h1) (m % E.k) _ (by rw [List.getElem_replicate]; exact hu)
    rw [Nat.mul_comm, Nat.div_add_mod] at h3
    rw [h3]
    simp only [madeCells, Array.getElem?_toList, Array.getElem?_map, Array.getElem?_range, hm, if_true, Option.map_some, hzs]
    congr 1
    simp only [← hz, Array.getElem_toList]
    exact getElem!_pos z _ (by omega)
  · rw [List.getElem?_eq_none (by rw [Array.length_toList, size_madeCells]; omega), List.getElem?_eq_none (by rw [El.cells_rep]; omega)]

variable {P : Program} {st : TypeId}
/-- make([]T, n). -/
theorem El.wp_make (I : E.Inn P st) (x : α) (hx : ∃ i z, P.info? E.e = some i ∧ i.zero = some z ∧ z.cells.toList = E.c x) {o : Oper} {a : Act} {w : World} {K : Act → World → Prop} {Q : Exit → Act → World → Prop} (lx cx : Operand)
    (ho : o.op = .makeSlice st lx cx) (B n c : Nat) (hl : a.eval lx = .int .i64 n) (hc : a.eval cx = .int .i64 c) (hn : c ≤ 100000) (hnc : n ≤ c) (hB : B ≤ w.heap.size)
    (h : ∀ w', E.Own w' B (.slice (some ⟨w.heap.size, 0, none⟩) n c) (List.replicate n x) → w.grownBy w' none → w.heap.size < w'.heap.size → K (a.put o.dst (.slice (some ⟨w.heap.size, 0, none⟩) n c)) w') : o.wp P a w K Q := by
  obtain ⟨hu, i, z, hi, hz, hsz, hby, hzs⟩ := I
  obtain ⟨i', z', hi', hz', hzc⟩ := hx
  rw [hi] at hi'; cases hi'
  rw [hz] at hz'; cases hz'
  have hb : i.bytes * c ≤ 1000 * 100000 := Nat.mul_le_mul hby hn
  have hb' : (i.bytes : Int) * (c : Int) ≤ 281474976710656 := by
    have h : ((i.bytes * c : Nat) : Int) ≤ 281474976710656 := by omega
    rwa [Int.natCast_mul] at h
  have hr := run_make (P := P) w st E.e i z hu hi hz .i64 .i64 n c (by omega) (by omega) hb' (by omega)
  simp only [Int.toNat_natCast] at hr
  unfold Oper.wp execOp
  simp only [ho, hl, hc, Sem.run_bind, Sem.run_pure, Result.andThen_ok, hr]
  refine h _ ⟨by rw [List.length_replicate, El.cells_rep], .inr ⟨w.heap.size, c, _, ?_, hB, heap_alloc_new w _, ?_, by unfold maxLen; omega, ?_, ?_⟩⟩ (World.grownBy_alloc w _ none) (by simp)
  · rw [List.length_replicate]
  · rw [List.length_replicate]; exact hnc
  · rw [size_madeCells, hsz]
  · rw [hsz, El.made x z.cells hzc c, List.length_replicate, ← El.cells_rep (E := E) x n]
    obtain ⟨d, rfl⟩ : ∃ d, c = n + d := ⟨c - n, by omega⟩
    rw [← List.replicate_append_replicate, El.cells_app]
    exact List.take_left
theorem El.wpList_make (I : E.Inn P st) (x : α) (hx : ∃ i z, P.info? E.e = some i ∧ i.zero = some z ∧ z.cells.toList = E.c x) {ops : Array Oper} {rest : List Oper} {o : Oper} {a : Act} {w : World} {Q : Exit → Act → World → Prop} (hgd : o.guard = none) (lx cx : Operand)
    (ho : o.op = .makeSlice st lx cx) (B n c : Nat) (hl : a.eval lx = .int .i64 n) (hc : a.eval cx = .int .i64 c) (hn : c ≤ 100000) (hnc : n ≤ c) (hB : B ≤ w.heap.size)
    (h : ∀ w', E.Own w' B (.slice (some ⟨w.heap.size, 0, none⟩) n c) (List.replicate n x) → w.grownBy w' none → w.heap.size < w'.heap.size → wpList P ops Q rest (a.put o.dst (.slice (some ⟨w.heap.size, 0, none⟩) n c)) w') : wpList P ops Q (o :: rest) a w :=
  wpList_plain hgd fun _ hK => El.wp_make I x hx lx cx ho B n c hl hc hn hnc hB fun w' h1 h2 h3 => hK _ _ (h w' h1 h2 h3)

/-- s[i] = x, in a row of the call's own. -/
theorem El.wp_setAt (R : El.Row E P) {o : Oper} {a : Act} {w : World} {K : Act → World → Prop} {Q : Exit → Act → World → Prop} (x y : Operand) (ho : o.op = .store E.e x y)
    (B g cap i : Nat) (l : List α) (q : α) (hown : E.Own w B (.slice (some ⟨g, 0, none⟩) l.length cap) l) (hi : i < l.length) (cs : Array Value) (hcs : cs = (E.c q).toArray) (hx : a.eval x = .pointer (some ⟨g, i * E.k, none⟩)) (hy : a.eval y = .agg cs)
    (h : ∀ w', E.Own w' B (.slice (some ⟨g, 0, none⟩) l.length cap) (l.set i q) → w.grownBy w' (some g) → w'.heap.size = w.heap.size → K (a.put o.dst undef) w') : o.wp P a w K Q := by
  subst hcs
  unfold El.Own at hown
  rcases hown.2 with ⟨h', _⟩ | ⟨g', cap', cur, h', hb, hg, hnc, hcm, hcsz, htake⟩
  · simp at h'
  · simp only [Value.slice.injEq, Option.some.injEq, Addr.mk.injEq, and_true, true_and] at h'
    obtain ⟨rfl, rfl⟩ := h'
    have hlen := hown.1
    have hik : i * E.k + E.k ≤ l.length * E.k := by rw [← Nat.succ_mul]; exact Nat.mul_le_mul_right _ hi
    have hck : l.length * E.k ≤ cap * E.k := Nat.mul_le_mul_right _ hnc
    have hs := run_storeCells_at (P := P) g (i * E.k) E.e (E.c q) 0 cur w hg (by rw [E.len]; omega) (E.one q)
    have hsz : ((E.c q).toArray).size = E.k := by simp [E.len]
    have hv : (storeVar E.e ⟨g, i * E.k, none⟩ (.agg (E.c q).toArray)).run P w = .ok () (w.setRow g (cur.toList.take (i * E.k) ++ E.c q ++ cur.toList.drop (i * E.k + E.k)).toArray) := by
      have hR := R.size
      cases hq : P.info? E.e with
      | none => simp [hq] at hR
      | some inf =>
        have hinf : inf.size = E.k := by simpa [hq] using hR
        simp only [Nat.add_zero, E.len] at hs
        simp [storeVar, sizeOf, typeInfo, hq, Value.cells, hinf, E.len, hs]
    unfold Oper.wp execOp
    simp only [ho, hx, hy, Instr.storeAt, Instr.sureAddr, Sem.run_bind, Sem.run_pure, Result.andThen_ok, hv]
    refine h _ ⟨by rw [List.length_set, El.cells_len, List.length_set], .inr ⟨g, cap, _, by rw [List.length_set], hb, setRow_heap w g cur _ E.e (0, 0) hg, by rw [List.length_set]; exact hnc, hcm, ?_, ?_⟩⟩ ⟨rfl, rfl, rfl, by simp, fun k _ hk => setRow_other w g k _ (fun e => hk (by simp [e]))⟩ (by simp)
    · simp only [List.size_toArray, List.length_append, List.length_take, List.length_drop, Array.length_toList, E.len]; omega
    · rw [List.length_set, El.cells_set l i hi q, ← htake]
      have hcl : cur.toList.length = cap * E.k := by rw [Array.length_toList, hcsz]
      generalize cur.toList = C at *
      simp only [List.toList_toArray]
      rw [List.take_take, Nat.min_eq_left (by omega), List.drop_take]
      have e1 : (C.take (i * E.k)).length = i * E.k := by rw [List.length_take]; omega
      have e2 : (C.take (i * E.k) ++ E.c q).length = i * E.k + E.k := by rw [List.length_append, e1, E.len]
      rw [List.take_append (l₁ := C.take (i * E.k) ++ E.c q), e2, List.take_of_length_le (by omega : (C.take (i * E.k) ++ E.c q).length ≤ l.length * E.k)]
theorem El.wpList_setAt (R : El.Row E P) {ops : Array Oper} {rest : List Oper} {o : Oper} {a : Act} {w : World} {Q : Exit → Act → World → Prop} (hgd : o.guard = none) (x y : Operand) (ho : o.op = .store E.e x y)
    (B g cap i : Nat) (l : List α) (q : α) (hown : E.Own w B (.slice (some ⟨g, 0, none⟩) l.length cap) l) (hi : i < l.length) (cs : Array Value) (hcs : cs = (E.c q).toArray) (hx : a.eval x = .pointer (some ⟨g, i * E.k, none⟩)) (hy : a.eval y = .agg cs)
    (h : ∀ w', E.Own w' B (.slice (some ⟨g, 0, none⟩) l.length cap) (l.set i q) → w.grownBy w' (some g) → w'.heap.size = w.heap.size → wpList P ops Q rest (a.put o.dst undef) w') : wpList P ops Q (o :: rest) a w :=
  wpList_plain hgd fun _ hK => El.wp_setAt R x y ho B g cap i l q hown hi cs hcs hx hy fun w' h1 h2 h3 => hK _ _ (h w' h1 h2 h3)
end
end Go.Proofs.YtfpgfclmmdihjaaGreat

/- Trees as lists of places: where a node stands, who is above whom. No program in it. -/
namespace Tre

structure Pl where
  n : Int
  u : Int
  s : ByteArray
def zero : Pl := ⟨0, 0, ⟨#[]⟩⟩
instance : Inhabited Pl := ⟨zero⟩

/-- How many stand ahead of node b. -/
def idx (l : List Pl) (b : Int) : Nat := (l.takeWhile fun p => decide (p.n < b)).length
def Sorted (l : List Pl) : Prop := ∀ i j (hi : i < l.length) (hj : j < l.length), i < j → l[i].n < l[j].n

theorem idx_nil (b : Int) : idx [] b = 0 := rfl
theorem idx_cons_lt {p : Pl} {l : List Pl} {b : Int} (h : p.n < b) : idx (p :: l) b = idx l b + 1 := by
  unfold idx; rw [List.takeWhile_cons_of_pos (by simpa using h)]; rfl
theorem idx_cons_ge {p : Pl} {l : List Pl} {b : Int} (h : ¬ p.n < b) : idx (p :: l) b = 0 := by
  unfold idx; rw [List.takeWhile_cons_of_neg (by simpa using h)]; rfl
theorem idx_le (l : List Pl) (b : Int) : idx l b ≤ l.length := by
  induction l with
  | nil => exact Nat.le_refl _
  | cons p l ih =>
    by_cases h : p.n < b
    · rw [idx_cons_lt h]; simpa using ih
    · rw [idx_cons_ge h]; exact Nat.zero_le _
theorem idx_before : ∀ (l : List Pl) (b : Int) (i : Nat) (h : i < l.length), i < idx l b → l[i].n < b
  | p :: l, b, i, h, hi => by
    by_cases hp : p.n < b
    · rw [idx_cons_lt hp] at hi
      cases i with
      | zero => exact hp
      | succ i => exact idx_before l b i (by simpa using h) (by omega)
    · rw [idx_cons_ge hp] at hi; omega
theorem idx_at : ∀ (l : List Pl) (b : Int) (h : idx l b < l.length), b ≤ l[idx l b].n
  | p :: l, b, h => by
    by_cases hp : p.n < b
    · have e := idx_cons_lt (l := l) hp
      simp only [e, List.getElem_cons_succ]
      exact idx_at l b (by rw [e] at h; simpa using h)
    · have e := idx_cons_ge (l := l) hp
      simp only [e, List.getElem_cons_zero]; omega
/-- Where all ahead are below b, and all from there on aren't. -/
theorem idx_eq {l : List Pl} {b : Int} {k : Nat} (hk : k ≤ l.length) (h1 : ∀ i (h : i < l.length), i < k → l[i].n < b) (h2 : ∀ (h : k < l.length), b ≤ l[k].n) : k = idx l b := by
  rcases Nat.lt_trichotomy k (idx l b) with h | h | h
  · have hl : k < l.length := Nat.lt_of_lt_of_le h (idx_le l b)
    have := idx_before l b k hl h
    have := h2 hl
    omega
  · exact h
  · have hl : idx l b < l.length := Nat.lt_of_lt_of_le h hk
    have := h1 _ hl h
    have := idx_at l b hl
    omega
theorem idx_self {l : List Pl} (hs : Sorted l) (i : Nat) (h : i < l.length) : idx l l[i].n = i :=
  (idx_eq (Nat.le_of_lt h) (fun j hj hji => hs j i hj h hji) (fun _ => by omega)).symm

/-- A node's place. -/
def get (l : List Pl) (b : Int) : Option Pl := (l[idx l b]?).bind fun p => if p.n = b then some p else none
theorem get_some {l : List Pl} {b : Int} {p : Pl} (h : get l b = some p) : p ∈ l ∧ p.n = b ∧ ∃ h : idx l b < l.length, l[idx l b] = p := by
  unfold get at h
  rw [Option.bind_eq_some_iff] at h
  obtain ⟨q, h1, h2⟩ := h
  by_cases e : q.n = b
  · rw [if_pos e] at h2; cases h2
    obtain ⟨hl, he⟩ := List.getElem?_eq_some_iff.1 h1
    exact ⟨List.mem_of_getElem? h1, e, hl, he⟩
  · rw [if_neg e] at h2; cases h2
theorem get_of {l : List Pl} {b : Int} (h : idx l b < l.length) (e : l[idx l b].n = b) : get l b = some l[idx l b] := by
  unfold get; rw [List.getElem?_eq_getElem h, Option.bind_some, if_pos e]
theorem get_none_end {l : List Pl} {b : Int} (h : ¬ idx l b < l.length) : get l b = none := by
  unfold get; rw [List.getElem?_eq_none (by omega)]; rfl
theorem get_none_other {l : List Pl} {b : Int} (h : idx l b < l.length) (e : ¬ l[idx l b].n = b) : get l b = none := by
  unfold get; rw [List.getElem?_eq_getElem h, Option.bind_some, if_neg e]
theorem get_self {l : List Pl} (hs : Sorted l) (i : Nat) (h : i < l.length) : get l l[i].n = some l[i] := by
  have e := idx_self hs i h
  unfold get; rw [e, List.getElem?_eq_getElem h, Option.bind_some, if_pos rfl]

/-- k steps up. -/
def up (l : List Pl) : Nat → Int → Option Int
  | 0, b => some b
  | k + 1, b => (get l b).bind fun p => up l k p.u
theorem up_add (l : List Pl) : ∀ (m k : Nat) (b : Int), up l (m + k) b = (up l m b).bind (up l k)
  | 0, k, b => by rw [Nat.zero_add]; rfl
  | m + 1, k, b => by
    rw [Nat.succ_add]
    show (get l b).bind (fun p => up l (m + k) p.u) = ((get l b).bind fun p => up l m p.u).bind (up l k)
    rw [Option.bind_assoc]
    congr 1; funext p; exact up_add l m k p.u
/-- At or above, by so many looks. -/
def abv (l : List Pl) : Nat → Int → Int → Bool
  | 0, _, _ => false
  | f + 1, a, b => if a = b then true else match get l b with
    | none => false
    | some p => abv l f a p.u
theorem abv_iff (l : List Pl) (a : Int) : ∀ (f : Nat) (b : Int), abv l f a b = true ↔ ∃ k, k < f ∧ up l k b = some a
  | 0, b => by
    constructor
    · intro h; cases h
    · rintro ⟨k, h, _⟩; omega
  | f + 1, b => by
    unfold abv
    by_cases e : a = b
    · rw [if_pos e]
      exact ⟨fun _ => ⟨0, by omega, by rw [e]; rfl⟩, fun _ => rfl⟩
    · rw [if_neg e]
      rcases hg : get l b with _ | p
      · constructor
        · intro h; cases h
        · rintro ⟨k, hk, hu⟩
          cases k with
          | zero => exact absurd (Option.some.inj hu).symm e
          | succ k => rw [up, hg] at hu; cases hu
      · constructor
        · intro h
          obtain ⟨k, hk, hu⟩ := (abv_iff l a f p.u).1 h
          exact ⟨k + 1, by omega, by rw [up, hg]; exact hu⟩
        · rintro ⟨k, hk, hu⟩
          cases k with
          | zero => exact absurd (Option.some.inj hu).symm e
          | succ k =>
            rw [up, hg] at hu
            exact (abv_iff l a f p.u).2 ⟨k, by omega, hu⟩
def above (l : List Pl) (a b : Int) : Bool := abv l (l.length + 1) a b
/-- No place is at or above its own Up. -/
def NoRing (l : List Pl) : Prop := ∀ p ∈ l, above l p.n p.u = false

theorem pigeon {α : Type} [DecidableEq α] : ∀ (l m : List α), l.Nodup → (∀ x ∈ l, x ∈ m) → l.length ≤ m.length
  | [], _, _, _ => Nat.zero_le _
  | x :: l, m, hn, hs => by
    have hx : x ∈ m := hs x (by simp)
    have hn' := List.nodup_cons.1 hn
    have h := pigeon l (m.erase x) hn'.2 (fun y hy => by
      have hne : y ≠ x := fun e => hn'.1 (e ▸ hy)
      exact (List.mem_erase_of_ne hne).2 (hs y (by simp [hy])))
    rw [List.length_erase_of_mem hx] at h
    have : 0 < m.length := List.length_pos_of_mem hx
    simp only [List.length_cons]; omega

/-- A way up has no more steps than there are places. -/
theorem up_bound {l : List Pl} (hr : NoRing l) {k : Nat} {a b : Int} (h : up l k b = some a) : k ≤ l.length := by
  rcases Nat.lt_or_ge l.length k with hlt | hge
  · exfalso
    -- every step up to k stands
    have stand : ∀ i, i ≤ k → ∃ x, up l i b = some x := fun i hi => by
      have e : k = i + (k - i) := by omega
      rw [e, up_add] at h
      rcases hx : up l i b with _ | x
      · rw [hx] at h; cases h
      · exact ⟨x, rfl⟩
    have place : ∀ i x, i < k → up l i b = some x → ∃ p, get l x = some p ∧ up l (i + 1) b = some p.u := fun i x hi hx => by
      obtain ⟨y, hy⟩ := stand (i + 1) hi
      have hy' := hy
      rw [up_add, hx, Option.bind_some] at hy'
      rcases hg : get l x with _ | p
      · rw [up, hg] at hy'; cases hy'
      · rw [up, hg] at hy'
        exact ⟨p, rfl, by rw [hy]; exact hy'.symm⟩
    let s : Nat → Int := fun i => (up l i b).getD 0
    have hs : ∀ i, i ≤ k → up l i b = some (s i) := fun i hi => by
      obtain ⟨x, hx⟩ := stand i hi
      show up l i b = some ((up l i b).getD 0)
      rw [hx]; rfl
    have unlike : ∀ i j, i < j → j ≤ l.length → s i ≠ s j := fun i j hij hj e => by
      have hi := hs i (by omega)
      have hj' := hs j (by omega)
      obtain ⟨p, hp, hu⟩ := place i _ (by omega) hi
      have hj2 := hj'
      rw [show j = (i + 1) + (j - i - 1) by omega, up_add, hu, Option.bind_some] at hj2
      obtain ⟨hm, hn, _⟩ := get_some hp
      have hf := hr p hm
      have ht : above l p.n p.u = true := (abv_iff l p.n _ p.u).2 ⟨j - i - 1, by omega, by
        rw [hj2, hn, e]
        have : (i + 1) + (j - i - 1) = j := by omega
        rw [this]⟩
      rw [hf] at ht; cases ht
    have nd : ((List.range (l.length + 1)).map s).Nodup := by
      rw [List.nodup_iff_pairwise_ne, List.pairwise_map]
      exact List.Pairwise.imp_of_mem (fun {i j} hi hj hij => unlike i j hij (by have := List.mem_range.1 hj; omega)) List.pairwise_lt_range
    have sub : ∀ x ∈ (List.range (l.length + 1)).map s, x ∈ l.map (·.n) := fun x hx => by
      obtain ⟨i, hi, rfl⟩ := List.mem_map.1 hx
      have hi := List.mem_range.1 hi
      obtain ⟨p, hp, _⟩ := place i _ (by omega) (hs i (by omega))
      obtain ⟨hm, hn, _⟩ := get_some hp
      exact List.mem_map.2 ⟨p, hm, hn⟩
    have := pigeon _ _ nd sub
    simp at this
    omega
  · exact hge
theorem above_iff {l : List Pl} (hr : NoRing l) {a b : Int} : above l a b = true ↔ ∃ k, up l k b = some a := by
  unfold above
  rw [abv_iff]
  exact ⟨fun ⟨k, _, h⟩ => ⟨k, h⟩, fun ⟨k, h⟩ => ⟨k, by have := up_bound hr h; omega, h⟩⟩
theorem above_trans {l : List Pl} (hr : NoRing l) {a b c : Int} (h1 : above l a b = true) (h2 : above l b c = true) : above l a c = true := by
  obtain ⟨k, hk⟩ := (above_iff hr).1 h1
  obtain ⟨m, hm⟩ := (above_iff hr).1 h2
  exact (above_iff hr).2 ⟨m + k, by rw [up_add, hm, Option.bind_some, hk]⟩
theorem up_loop {l : List Pl} {k : Nat} {b : Int} (h : up l k b = some b) : ∀ m, up l (k * m) b = some b
  | 0 => rfl
  | m + 1 => by rw [Nat.mul_succ, up_add, up_loop h m, Option.bind_some, h]
theorem above_anti {l : List Pl} (hr : NoRing l) {a b : Int} (h1 : above l a b = true) (h2 : above l b a = true) : a = b := by
  obtain ⟨k, hk⟩ := (above_iff hr).1 h1
  obtain ⟨m, hm⟩ := (above_iff hr).1 h2
  have h : up l (k + m) b = some b := by rw [up_add, hk, Option.bind_some, hm]
  rcases Nat.eq_zero_or_pos (k + m) with h0 | h0
  · obtain rfl : k = 0 := by omega
    exact (Option.some.inj hk).symm
  · have := up_bound hr (up_loop h (l.length + 1))
    have : l.length + 1 ≤ (k + m) * (l.length + 1) := Nat.le_mul_of_pos_left _ h0
    omega
theorem above_self (l : List Pl) (a : Int) : above l a a = true := by unfold above abv; rw [if_pos rfl]

/-- Where what stands behind node b's place begins. -/
def behind (l : List Pl) (b : Int) : Nat := if (get l b).isSome then idx l b + 1 else idx l b
def placedL (l : List Pl) (b : Int) (m : List Pl) : List Pl := (l.take (idx l b) ++ m) ++ l.drop (behind l b)
def putL (l : List Pl) (p : Pl) : List Pl := placedL l p.n [p]
def dropL (l : List Pl) (b : Int) : List Pl := placedL l b []
end Tre

/- A place in a block, a list of places in a slice; Find of the program. -/
namespace Go.Proofs.YtfpgfclmmdihjaaGreat
open Go.RowKit Tre

/-- From the cell o of block b on a place lies. -/
def AtPl (w : World) (b o : Nat) (p : Pl) : Prop :=
  w.cell? ⟨b, o, none⟩ = some (.int .i64 p.n) ∧ w.cell? ⟨b, o + 1, none⟩ = some (.int .i64 p.u) ∧ w.cell? ⟨b, o + 2, none⟩ = some (.string p.s)
theorem AtPl.below {W w : World} {b o : Nat} {p : Pl} (h : AtPl W b o p) (hb : Below W.heap.size W w) (hl : b < W.heap.size) : AtPl w b o p := by
  unfold AtPl at h ⊢
  rw [(bcell hb).1 _ _ hl, (bcell hb).1 _ _ hl, (bcell hb).1 _ _ hl]; exact h
/-- The slice at A holds these places. -/
def Tr (w : World) (A : Option Addr) (l : List Pl) : Prop :=
  0 < l.length → ∃ b off, A = some ⟨b, off, none⟩ ∧ b < w.heap.size ∧ ∀ i (h : i < l.length), AtPl w b (off + i * 3) l[i]
theorem Tr.below {W w : World} {A : Option Addr} {l : List Pl} (h : Tr W A l) (hb : Below W.heap.size W w) : Tr w A l := fun h0 => by
  obtain ⟨b, off, e, hl, hc⟩ := h h0
  exact ⟨b, off, e, Nat.lt_of_lt_of_le hl hb.size, fun i hi => (hc i hi).below hb hl⟩
theorem Tr.nil (w : World) (A : Option Addr) : Tr w A [] := fun h => by simp at h

theorem nan_any (n : Int) (w : World) : Calls Tryz.prog 102 #[.int .i64 n] w fun e w' => e = .returned (.bool false) ∧ w' = w := by
  go_enter Tryz.func102, Tryz.ntmps102
  go_wp2
  go_ret
  exact ⟨rfl, rfl⟩

def cmp3 (a b : Int) : Int := if a < b then -1 else if b < a then 1 else 0
theorem cmp_any (a b : Int) (w : World) : Calls Tryz.prog 100 #[.int .i64 a, .int .i64 b] w fun e w' => e = .returned (.int .i64 (cmp3 a b)) ∧ w' = w := by
  have c := fun n => nan_any n w
  unfold cmp3
  by_cases h1 : a < b
  · rw [if_pos h1]
    go_enter Tryz.func100, Tryz.ntmps100
    go_wp2_with (go_at_call 102; (with_reducible refine (c _).mono ?_); rintro e w1 ⟨rfl, rfl⟩)
    go_ret
    exact ⟨rfl, rfl⟩
  · rw [if_neg h1]
    by_cases h2 : b < a
    · rw [if_pos h2]
      go_enter Tryz.func100, Tryz.ntmps100
      go_wp2_with (go_at_call 102; (with_reducible refine (c _).mono ?_); rintro e w1 ⟨rfl, rfl⟩)
      go_ret
      exact ⟨rfl, rfl⟩
    · rw [if_neg h2]
      go_enter Tryz.func100, Tryz.ntmps100
      go_wp2_with (go_at_call 102; (with_reducible refine (c _).mono ?_); rintro e w1 ⟨rfl, rfl⟩)
      go_ret
      exact ⟨rfl, rfl⟩

theorem findOne_any (p : Pl) (b : Int) (w : World) : Calls Tryz.prog 99 #[.agg #[.int .i64 p.n, .int .i64 p.u, .string p.s], .int .i64 b] w fun e w' => e = .returned (.int .i64 (cmp3 p.n b)) ∧ Below w.heap.size w w' := by
  have c := fun w => cmp_any p.n b w
  generalize cmp3 p.n b = r at *
  go_enter Tryz.func99, Tryz.ntmps99
  go_wp2_with (go_at_call 100; (with_reducible refine (c _).mono ?_); rintro e w1 ⟨rfl, rfl⟩)
  go_ret
  exact ⟨rfl, below_alloc (Below.refl _ _) _⟩

theorem search_any (A : Option Addr) (cap : Nat) (l : List Pl) (b : Int) (w : World) (hl : l.length ≤ 1000) (hs : Sorted l) (hT : Tr w A l) :
    Calls Tryz.prog 98 #[.slice A l.length cap, .int .i64 b, .func (.func 99) #[] #[]] w fun e w' => e = .returned (.tuple #[.int .i64 (idx l b), .bool (get l b).isSome]) ∧ Below w.heap.size w w' := by
  go_enter Tryz.func98, Tryz.ntmps98
  go_wp2
  go_loopw [9, 10] (fun x y wr => ∃ i j : Nat, i ≤ j ∧ j ≤ l.length ∧ x = .int .i64 i ∧ y = .int .i64 j ∧ (∀ k (h : k < l.length), k < i → l[k].n < b) ∧ (∀ k (h : k < l.length), j ≤ k → b ≤ l[k].n) ∧ Below w.heap.size w wr) (fun x y _ => (intOf y).toNat - (intOf x).toNat)
  case atStart => exact ⟨0, l.length, Nat.zero_le _, Nat.le_refl _, rfl, rfl, fun k h hk => by omega, fun k h hk => by omega, Below.refl _ _⟩
  case round =>
    obtain ⟨i, j, hij, hj, rfl, rfl, hlo, hhi, hnx⟩ := hrel
    by_cases hlt : i < j
    · obtain ⟨bb, off, rfl, hbw, hc⟩ := hT (by omega)
      have hat := (hc ((i + j) / 2) (by omega)).below hnx hbw
      have hsz := hnx.size
      obtain ⟨p, hp⟩ : ∃ p, l[(i + j) / 2]'(by omega) = p := ⟨_, rfl⟩
      rw [hp] at hat
      obtain ⟨q0, q1, q2⟩ := hat
      have C := fun w => findOne_any p b w
      by_cases hcm : p.n < b
      · have e3 : cmp3 p.n b = -1 := by unfold cmp3; rw [if_pos hcm]
        rw [e3] at C
        clear e3 hc
        go_wp2_with (go_at_call 99; (with_reducible refine (C _).mono ?_); rintro e w1 ⟨rfl, hb1⟩)
        go_roundw
        case rel =>
          refine ⟨(i + j) / 2 + 1, j, by omega, hj, by go_num, rfl, fun k h hk => ?_, hhi, below_then hnx hb1⟩
          by_cases e : k = (i + j) / 2
          · subst e; rw [hp]; exact hcm
          · have := hs k ((i + j) / 2) h (by omega) (by omega)
            rw [hp] at this; omega
        case measure => simp [intOf]; omega
      · have e3 : ¬ cmp3 p.n b < 0 := by unfold cmp3; rw [if_neg hcm]; split <;> omega
        generalize cmp3 p.n b = r at *
        clear hc
        go_wp2_with (go_at_call 99; (with_reducible refine (C _).mono ?_); rintro e w1 ⟨rfl, hb1⟩)
        go_roundw
        case rel =>
          refine ⟨i, (i + j) / 2, by omega, by omega, rfl, by go_num, hlo, fun k h hk => ?_, below_then hnx hb1⟩
          by_cases e : k = (i + j) / 2
          · subst e; rw [hp]; omega
          · have := hs ((i + j) / 2) k (by omega) h (by omega)
            rw [hp] at this; omega
        case measure => simp [intOf]; omega
    · obtain rfl : i = j := by omega
      have hix : i = idx l b := idx_eq hj hlo (fun h => hhi i h (Nat.le_refl _))
      by_cases hin : i < l.length
      · obtain ⟨bb, off, rfl, hbw, hc⟩ := hT (by omega)
        have hat := (hc i hin).below hnx hbw
        obtain ⟨p, hp⟩ : ∃ p, l[i]'(by omega) = p := ⟨_, rfl⟩
        rw [hp] at hat
        obtain ⟨q0, q1, q2⟩ := hat
        have C := fun w => findOne_any p b w
        have hg : (Tre.get l b).isSome = decide (cmp3 p.n b = 0) := by
          have h1 : ¬ p.n < b := by have := hhi i hin (Nat.le_refl _); rw [hp] at this; omega
          unfold cmp3
          rw [if_neg h1]
          by_cases e : p.n = b
          · rw [if_neg (by omega), get_of (by omega) (by simp only [← hix]; rw [hp]; exact e)]; rfl
          · rw [if_pos (by omega), get_none_other (by omega) (by simp only [← hix]; rw [hp]; exact e)]; rfl
        have HG := Lib.hid hg
        have HI := Lib.hid hix
        generalize cmp3 p.n b = r at *
        clear hc hg hix hlo hhi
        by_cases hr : r = 0
        · subst hr
          go_wp2_with (go_at_call 99; (with_reducible refine (C _).mono ?_); rintro e w1 ⟨rfl, hb1⟩)
          go_ret2
          exact ⟨by rw [HI.out, HG.out]; rfl, below_then hnx hb1⟩
        · go_wp2_with (go_at_call 99; (with_reducible refine (C _).mono ?_); rintro e w1 ⟨rfl, hb1⟩)
          go_ret2
          exact ⟨by rw [HI.out, HG.out]; simp [hr], below_then hnx hb1⟩
      · go_wp2
        go_ret2
        exact ⟨by rw [get_none_end (by omega), ← hix]; rfl, hnx⟩

theorem find_any (A : Option Addr) (cap : Nat) (l : List Pl) (b : Int) (w : World) (hl : l.length ≤ 1000) (hs : Sorted l) (hT : Tr w A l) :
    Calls Tryz.prog 95 #[.slice A l.length cap, .int .i64 b] w fun e w' => e = .returned (.tuple #[.int .i64 (idx l b), .bool (get l b).isSome]) ∧ Below w.heap.size w w' := by
  have C := search_any A cap l b w hl hs hT
  go_enter Tryz.func95, Tryz.ntmps95
  go_wp2_with (go_at_call 98; (with_reducible refine C.mono ?_); rintro e w1 ⟨rfl, hb1⟩)
  go_ret2
  exact ⟨rfl, hb1⟩
end Go.Proofs.YtfpgfclmmdihjaaGreat

/- Find of the document; Get and Above of both. -/
namespace Go.Proofs.YtfpgfclmmdihjaaGreat
open Go.RowKit Tre

/-- A place has a block of its own. -/
def PlIn (w : World) (b : Nat) (p : Pl) : Prop := w.heap[b]? = some (.cells #[.int .i64 p.n, .int .i64 p.u, .string p.s] 117 (0, 0))
section
variable {w w' : World} {b : Nat} {p : Pl}
theorem PlIn.lt (h : PlIn w b p) : b < w.heap.size := by
  rcases Nat.lt_or_ge b w.heap.size with hlt | hge
  · exact hlt
  · unfold PlIn at h; rw [Array.getElem?_eq_none hge] at h; cases h
theorem PlIn.cells (h : PlIn w b p) : w.cell? ⟨b, 0, none⟩ = some (.int .i64 p.n) ∧ w.cell? ⟨b, 1, none⟩ = some (.int .i64 p.u) ∧ w.cell? ⟨b, 2, none⟩ = some (.string p.s) :=
  ⟨cell_of_row w b 0 _ 117 (0, 0) h, cell_of_row w b 1 _ 117 (0, 0) h, cell_of_row w b 2 _ 117 (0, 0) h⟩
theorem PlIn.frozen (h : PlIn w b p) (i : Nat) : w.frozen? ⟨b, i, none⟩ = false := by
  unfold PlIn at h
  simp [World.frozen?, h]
theorem PlIn.new (w : World) (p : Pl) : PlIn (w.alloc (.cells #[.int .i64 p.n, .int .i64 p.u, .string p.s] 117)) w.heap.size p := heap_alloc_new w _
theorem PlIn.below (h : PlIn w b p) (hg : Below w.heap.size w w') : PlIn w' b p := (hg.block b h.lt).trans h
theorem PlIn.keep {row : Option Nat} (h : PlIn w b p) (hg : w.grownBy w' row) (hne : some b ≠ row) : PlIn w' b p := (hg.block b h.lt hne).trans h
theorem PlIn.set (h : PlIn w b p) (q : Pl) : PlIn (w.setRow b #[.int .i64 q.n, .int .i64 q.u, .string q.s]) b q := setRow_heap _ _ _ _ _ _ h
theorem below_setRow {W w : World} (h : Below W.heap.size W w) {n : Nat} (hn : W.heap.size ≤ n) (cs : Array Value) : Below W.heap.size W (w.setRow n cs) :=
  ⟨h.os, h.tape, h.output, by simpa [World.setRow] using h.size, fun k hk => (setRow_other w n k cs (by omega)).trans (h.block k hk)⟩
theorem PlIn.alloc (h : PlIn w b p) (o : Obj) : PlIn (w.alloc o) b p := h.below (below_alloc (Below.refl _ _) o)
end
theorem pl_size : (Tryz.prog.info? 117).map (·.size) = some 3 := by kernel_rfl
theorem store_pl {ops : Array Oper} {rest : List Oper} {o : Oper} {a : Act} {w : World} {Q : Exit → Act → World → Prop} (hgd : o.guard = none) (x y : Operand) (ho : o.op = .store 117 x y)
    (b : Nat) (q : Pl) (hx : a.eval x = .pointer (some ⟨b, 0, none⟩)) (hy : a.eval y = .agg #[.int .i64 q.n, .int .i64 q.u, .string q.s])
    (p : Pl) (hg : PlIn w b p)
    (h : wpList Tryz.prog ops Q rest (a.put o.dst undef) (w.setRow b #[.int .i64 q.n, .int .i64 q.u, .string q.s])) : wpList Tryz.prog ops Q (o :: rest) a w :=
  wpList_store_row hgd 117 x y ho b _ hx hy 117 _ hg pl_size rfl (by simp [Value.oneCell']) h
theorem load_pl {ops : Array Oper} {rest : List Oper} {o : Oper} {a : Act} {w : World} {Q : Exit → Act → World → Prop} (hgd : o.guard = none) (x : Operand) (ho : o.op = .load 117 x)
    (b : Nat) (hx : a.eval x = .pointer (some ⟨b, 0, none⟩)) (p : Pl) (hg : PlIn w b p)
    (h : wpList Tryz.prog ops Q rest (a.put o.dst (.agg #[.int .i64 p.n, .int .i64 p.u, .string p.s])) w) : wpList Tryz.prog ops Q (o :: rest) a w :=
  wpList_load_row hgd 117 x ho b hx 117 _ (0, 0) _ hg Tryz.underlying117 rfl pl_size h
theorem loadVar_pl {w : World} {b : Nat} {p : Pl} (h : PlIn w b p) : (loadVar 117 ⟨b, 0, none⟩).run Tryz.prog w = .ok (.agg #[.int .i64 p.n, .int .i64 p.u, .string p.s]) w :=
  run_loadVar_row w b 117 117 _ (0, 0) _ h Tryz.underlying117 rfl pl_size
/-- One result, a place. -/
theorem ret_pl1 {fn : Func} {R : Ending → World → Prop} {a : Act} {w : World} {b : Nat} {t : Tmp} {p : Pl} (h : PlIn w b p) (hr : fn.results = #[.cell t 117]) (hp : a.tmps.getD t undef = .pointer (some ⟨b, 0, none⟩)) (hd : a.defers = [])
    (hR : R (.returned (.agg #[.int .i64 p.n, .int .i64 p.u, .string p.s])) w) : bodyPost Tryz.prog fn R .ret a w := by
  exact bodyPost_ret (results_cell_row hr a.tmps w b 117 _ (0, 0) _ hp h Tryz.underlying117 rfl pl_size) hd hR
/-- Two results, a place and a word. -/
theorem ret_pl2 {fn : Func} {R : Ending → World → Prop} {a : Act} {w : World} {b : Nat} {t u : Tmp} {v : Value} {p : Pl} (h : PlIn w b p) (hr : fn.results = #[.cell t 117, .tmp u]) (hp : a.tmps.getD t undef = .pointer (some ⟨b, 0, none⟩)) (hv : a.tmps.getD u undef = v) (hd : a.defers = [])
    (hR : R (.returned (.tuple #[.agg #[.int .i64 p.n, .int .i64 p.u, .string p.s], v])) w) : bodyPost Tryz.prog fn R .ret a w := by
  refine bodyPost_ret (v := .tuple #[.agg #[.int .i64 p.n, .int .i64 p.u, .string p.s], v]) ?_ hd hR
  rw [results_cell_tmp hr, hp, hv]
  simp only [asAddr, Sem.run_pure, Result.andThen, loadVar_pl h]

theorem find_end {l : List Pl} {b : Int} {i : Nat} {x : Bool} (h : i = idx l b) (k : (Tre.get l b).isSome = x) : Ending.returned (.tuple #[.int .i64 i, .bool x]) = Ending.returned (.tuple #[.int .i64 (idx l b), .bool (Tre.get l b).isSome]) := by rw [k, ← h]

theorem refFind_any (A : Option Addr) (cap : Nat) (l : List Pl) (b : Int) (w : World) (hl : l.length ≤ 1000) (hT : Tr w A l) :
    Calls Tryz.prog 97 #[.slice A l.length cap, .int .i64 b] w fun e w' => e = .returned (.tuple #[.int .i64 (idx l b), .bool (Tre.get l b).isSome]) ∧ Below w.heap.size w w' := by
  go_enter Tryz.func97, Tryz.ntmps97
  go_wp2
  go_loopw [6] (fun x wr => ∃ i : Nat, i ≤ l.length ∧ x = .int .i64 i ∧ (∀ k (h : k < l.length), k < i → l[k].n < b) ∧ Below w.heap.size w wr) (fun x _ => l.length - (intOf x).toNat)
  case atStart => exact ⟨0, Nat.zero_le _, rfl, fun k h hk => by omega, Below.refl _ _⟩
  case round =>
    obtain ⟨i, hi, rfl, hlo, hnx⟩ := hrel
    by_cases hlt : i < l.length
    · obtain ⟨bb, off, rfl, hbw, hc⟩ := hT (by omega)
      have hat := (hc i hlt).below hnx hbw
      obtain ⟨p, hp⟩ : ∃ p, l[i]'(by omega) = p := ⟨_, rfl⟩
      rw [hp] at hat
      obtain ⟨q0, q1, q2⟩ := hat
      by_cases hcm : p.n < b
      · clear hc
        go_wp2
        go_roundw
        case rel =>
          refine ⟨i + 1, by omega, by go_num, fun k h hk => ?_, hnx⟩
          by_cases e : k = i
          · subst e; rw [hp]; exact hcm
          · exact hlo k h (by omega)
        case measure => simp [intOf]; omega
      · have hix : i = idx l b := idx_eq hi hlo (fun h => by rw [hp]; omega)
        have hg : (Tre.get l b).isSome = decide (p.n = b) := by
          by_cases e : p.n = b
          · rw [get_of (by omega) (by simp only [← hix]; rw [hp]; exact e), decide_eq_true e]; rfl
          · rw [get_none_other (by omega) (by simp only [← hix]; rw [hp]; exact e), decide_eq_false e]; rfl
        have HG := Lib.hid hg
        have HI := Lib.hid hix
        clear hc hg hix hlo
        by_cases e : p.n = b
        · go_wp2
          go_quiet (fail)
          go_wp2
          go_ret2
          exact ⟨find_end HI.out (HG.out.trans (decide_eq_true e)), below_drew hnx _⟩
        · go_wp2
          go_quiet (fail)
          go_wp2
          go_ret2
          exact ⟨find_end HI.out HG.out, below_drew hnx _⟩
    · have hix : i = idx l b := idx_eq hi hlo (fun h => by omega)
      have HG := Lib.hid (get_none_end (l := l) (b := b) (by omega))
      have HI := Lib.hid hix
      clear hix hlo
      go_wp2
      have hd : decide ((i : Int) < (l.length : Int)) = false := decide_eq_false (by omega)
      go_quiet (fail)
      go_wp2
      go_ret2
      exact ⟨find_end HI.out (by rw [HG.out]; rfl), below_drew hnx _⟩

theorem isSome_get {l : List Pl} {b : Int} {p : Pl} (hp : (Tre.get l b).getD zero = p) (hi : (Tre.get l b).isSome = true) : Tre.get l b = some p ∧ ∃ h : idx l b < l.length, l[idx l b] = p := by
  rcases h : Tre.get l b with _ | q
  · rw [h] at hi; cases hi
  · rw [h] at hp
    obtain rfl : q = p := hp
    exact ⟨rfl, (get_some h).2.2⟩
theorem none_get {l : List Pl} {b : Int} {p : Pl} (hp : (Tre.get l b).getD zero = p) (hi : (Tre.get l b).isSome = false) : p = zero := by
  rw [← hp]
  rcases h : Tre.get l b with _ | q
  · rfl
  · rw [h] at hi; cases hi

theorem get_any (A : Option Addr) (cap : Nat) (l : List Pl) (b : Int) (w : World) (hl : l.length ≤ 1000) (hs : Sorted l) (hT : Tr w A l) (p : Pl) (is : Bool) (hp : (Tre.get l b).getD zero = p) (hi : (Tre.get l b).isSome = is) :
    Calls Tryz.prog 85 #[.slice A l.length cap, .int .i64 b] w fun e w' => e = .returned (.tuple #[.agg #[.int .i64 p.n, .int .i64 p.u, .string p.s], .bool is]) ∧ Below w.heap.size w w' := by
  have C := fun w (hT : Tr w A l) => find_any A cap l b w hl hs hT
  rw [hi] at C
  have hT1 := fun o => hT.below (below_alloc (Below.refl _ _) o)
  cases is
  · obtain rfl := none_get hp hi
    go_enter Tryz.func85, Tryz.ntmps85
    go_wp2_with fail
    refine (C _ (hT1 _)).mono ?_
    rintro e w1 ⟨rfl, hb1⟩
    have hz := (PlIn.new w zero).below hb1
    have hn := (below_alloc (Below.refl _ w) (.cells #[.int .i64 zero.n, .int .i64 zero.u, .string zero.s] 117)).trans (hb1.mono (by simp))
    clear hb1
    go_wp2_with (refine store_pl rfl _ _ rfl _ zero rfl rfl zero hz ?_)
    exact ret_pl2 (hz.set zero) rfl rfl rfl rfl ⟨rfl, below_setRow hn (Nat.le_refl _) _⟩
  · obtain ⟨_, hx, hpx⟩ := isSome_get hp hi
    generalize idx l b = ix at *
    obtain ⟨bb, off, rfl, hbw, hc⟩ := hT (by omega)
    have hat := hc ix hx
    rw [hpx] at hat
    clear hpx hc
    go_enter Tryz.func85, Tryz.ntmps85
    go_wp2_with fail
    refine (C _ (hT1 _)).mono ?_
    rintro e w1 ⟨rfl, hb1⟩
    have hz := (PlIn.new w zero).below hb1
    have hn := (below_alloc (Below.refl _ w) (.cells #[.int .i64 zero.n, .int .i64 zero.u, .string zero.s] 117)).trans (hb1.mono (by simp))
    have hat := hat.below hn hbw
    obtain ⟨q0, q1, q2⟩ := hat
    have hlt := Nat.lt_of_lt_of_le hbw hn.size
    clear hb1
    go_wp2_with (refine store_pl rfl _ _ rfl _ p rfl rfl zero hz ?_)
    exact ret_pl2 (hz.set p) rfl rfl rfl rfl ⟨rfl, below_setRow hn (Nat.le_refl _) _⟩

theorem refGet_any (A : Option Addr) (cap : Nat) (l : List Pl) (b : Int) (w : World) (hl : l.length ≤ 1000) (hT : Tr w A l) (p : Pl) (is : Bool) (hp : (Tre.get l b).getD zero = p) (hi : (Tre.get l b).isSome = is) :
    Calls Tryz.prog 90 #[.slice A l.length cap, .int .i64 b] w fun e w' => e = .returned (.tuple #[.agg #[.int .i64 p.n, .int .i64 p.u, .string p.s], .bool is]) ∧ Below w.heap.size w w' := by
  have C := fun w (hT : Tr w A l) => refFind_any A cap l b w hl hT
  rw [hi] at C
  have hT1 := fun o => hT.below (below_alloc (Below.refl _ _) o)
  cases is
  · obtain rfl := none_get hp hi
    go_enter Tryz.func90, Tryz.ntmps90
    go_wp2_with fail
    refine (C _ (hT1 _)).mono ?_
    rintro e w1 ⟨rfl, hb1⟩
    have hz := (PlIn.new w zero).below hb1
    have hn := (below_alloc (Below.refl _ w) (.cells #[.int .i64 zero.n, .int .i64 zero.u, .string zero.s] 117)).trans (hb1.mono (by simp))
    clear hb1
    go_wp2_with (refine store_pl rfl _ _ rfl _ zero rfl rfl zero hz ?_)
    exact ret_pl2 (hz.set zero) rfl rfl rfl rfl ⟨rfl, below_setRow hn (Nat.le_refl _) _⟩
  · obtain ⟨_, hx, hpx⟩ := isSome_get hp hi
    generalize idx l b = ix at *
    obtain ⟨bb, off, rfl, hbw, hc⟩ := hT (by omega)
    have hat := hc ix hx
    rw [hpx] at hat
    clear hpx hc
    go_enter Tryz.func90, Tryz.ntmps90
    go_wp2_with fail
    refine (C _ (hT1 _)).mono ?_
    rintro e w1 ⟨rfl, hb1⟩
    have hz := (PlIn.new w zero).below hb1
    have hn := (below_alloc (Below.refl _ w) (.cells #[.int .i64 zero.n, .int .i64 zero.u, .string zero.s] 117)).trans (hb1.mono (by simp))
    have hat := hat.below hn hbw
    obtain ⟨q0, q1, q2⟩ := hat
    have hlt := Nat.lt_of_lt_of_le hbw hn.size
    clear hb1
    go_wp2_with (refine store_pl rfl _ _ rfl _ p rfl rfl zero hz ?_)
    exact ret_pl2 (hz.set p) rfl rfl rfl rfl ⟨rfl, below_setRow hn (Nat.le_refl _) _⟩

theorem above_any (A : Option Addr) (cap : Nat) (l : List Pl) (a b : Int) (w : World) (hl : l.length ≤ 1000) (hs : Sorted l) (hT : Tr w A l) :
    Calls Tryz.prog 84 #[.slice A l.length cap, .int .i64 a, .int .i64 b] w fun e w' => e = .returned (.bool (above l a b)) ∧ Below w.heap.size w w' := by
  have C := fun w b p is (hT : Tr w A l) hp hi => get_any A cap l b w hl hs hT p is hp hi
  go_enter Tryz.func84, Tryz.ntmps84
  go_wp2
  go_loopw [2, 12] (fun x y wr => ∃ (c : Int) (k : Nat), k ≤ l.length + 1 ∧ x = .int .i64 c ∧ y = .int .i64 k ∧ abv l (l.length + 1 - k) a c = above l a b ∧ Below w.heap.size w wr) (fun _ y _ => l.length + 1 - (intOf y).toNat)
  case atStart => exact ⟨b, 0, Nat.zero_le _, rfl, rfl, rfl, Below.refl _ _⟩
  case round =>
    obtain ⟨c, k, hk, rfl, rfl, hab, hnx⟩ := hrel
    by_cases hlt : k < l.length + 1
    · obtain ⟨f, hf⟩ : ∃ f, l.length + 1 - k = f + 1 := ⟨l.length - k, by omega⟩
      rw [hf] at hab
      by_cases he : a = c
      · subst he
        have ht : above l a b = true := by rw [← hab]; unfold abv; rw [if_pos rfl]
        have HT := Lib.hid ht
        clear hab ht hf
        go_wp2
        go_ret
        exact ⟨by rw [HT.out]; rfl, hnx⟩
      · have hTr := hT.below hnx
        obtain ⟨p, hp⟩ : ∃ p, (Tre.get l c).getD zero = p := ⟨_, rfl⟩
        obtain ⟨is, hi⟩ : ∃ is, (Tre.get l c).isSome = is := ⟨_, rfl⟩
        have C := C wr c p is hTr hp hi
        cases is
        · have ht : above l a b = false := by
            rw [← hab]; unfold abv; rw [if_neg he]
            rcases h : Tre.get l c with _ | q
            · rfl
            · rw [h] at hi; cases hi
          have HT := Lib.hid ht
          clear hab ht hp hi hf
          go_wp2_with (go_at_call 85; (with_reducible refine C.mono ?_); rintro e w1 ⟨rfl, hb1⟩)
          go_ret
          exact ⟨by rw [HT.out]; rfl, below_alloc (below_then hnx hb1) _⟩
        · have ht : abv l f a p.u = above l a b := by
            rw [← hab]; conv => rhs; unfold abv
            rw [if_neg he, (isSome_get hp hi).1]
          have HT := Lib.hid ht
          have HF := Lib.hid hf
          clear hab ht hp hi hf
          go_wp2_with (go_at_call 85; (with_reducible refine C.mono ?_); rintro e w1 ⟨rfl, hb1⟩)
          go_roundw
          case rel =>
            have hf := HF.out
            exact ⟨p.u, k + 1, by omega, rfl, by go_num, by rw [← HT.out]; congr 1; omega, below_alloc (below_then hnx hb1) _⟩
          case measure => simp [intOf]; omega
    · obtain ⟨rfl⟩ : k = l.length + 1 := by omega
      have ht : above l a b = false := by rw [← hab, Nat.sub_self]; rfl
      have HT := Lib.hid ht
      clear hab ht
      go_wp2
      go_ret
      exact ⟨by rw [HT.out]; rfl, hnx⟩

theorem refAbove_any (A : Option Addr) (cap : Nat) (l : List Pl) (a b : Int) (w : World) (hl : l.length ≤ 1000) (hT : Tr w A l) :
    Calls Tryz.prog 88 #[.slice A l.length cap, .int .i64 a, .int .i64 b] w fun e w' => e = .returned (.bool (above l a b)) ∧ Below w.heap.size w w' := by
  have C := fun w b p is (hT : Tr w A l) hp hi => refGet_any A cap l b w hl hT p is hp hi
  go_enter Tryz.func88, Tryz.ntmps88
  go_wp2
  go_loopw [2, 7] (fun x y wr => ∃ (c : Int) (k : Nat), k ≤ l.length + 1 ∧ x = .int .i64 c ∧ y = .int .i64 k ∧ abv l (l.length + 1 - k) a c = above l a b ∧ Below w.heap.size w wr) (fun _ y _ => l.length + 1 - (intOf y).toNat)
  case atStart => exact ⟨b, 0, Nat.zero_le _, rfl, rfl, rfl, Below.refl _ _⟩
  case round =>
    obtain ⟨c, k, hk, rfl, rfl, hab, hnx⟩ := hrel
    by_cases hlt : k ≤ l.length
    · obtain ⟨f, hf⟩ : ∃ f, l.length + 1 - k = f + 1 := ⟨l.length - k, by omega⟩
      rw [hf] at hab
      by_cases he : a = c
      · subst he
        have ht : above l a b = true := by rw [← hab]; unfold abv; rw [if_pos rfl]
        have HT := Lib.hid ht
        clear hab ht hf
        go_wp2
        go_ret
        exact ⟨by rw [HT.out]; rfl, hnx⟩
      · have hTr := hT.below hnx
        obtain ⟨p, hp⟩ : ∃ p, (Tre.get l c).getD zero = p := ⟨_, rfl⟩
        obtain ⟨is, hi⟩ : ∃ is, (Tre.get l c).isSome = is := ⟨_, rfl⟩
        have C := C wr c p is hTr hp hi
        cases is
        · have ht : above l a b = false := by
            rw [← hab]; unfold abv; rw [if_neg he]
            rcases h : Tre.get l c with _ | q
            · rfl
            · rw [h] at hi; cases hi
          have HT := Lib.hid ht
          clear hab ht hp hi hf
          go_wp2_with (go_at_call 90; (with_reducible refine C.mono ?_); rintro e w1 ⟨rfl, hb1⟩)
          go_ret
          exact ⟨by rw [HT.out]; rfl, below_alloc (below_then hnx hb1) _⟩
        · have ht : abv l f a p.u = above l a b := by
            rw [← hab]; conv => rhs; unfold abv
            rw [if_neg he, (isSome_get hp hi).1]
          have HT := Lib.hid ht
          have HF := Lib.hid hf
          clear hab ht hp hi hf
          go_wp2_with (go_at_call 90; (with_reducible refine C.mono ?_); rintro e w1 ⟨rfl, hb1⟩)
          go_roundw
          case rel =>
            have hf := HF.out
            exact ⟨p.u, k + 1, by omega, rfl, by go_num, by rw [← HT.out]; congr 1; omega, below_alloc (below_then hnx hb1) _⟩
          case measure => simp [intOf]; omega
    · obtain ⟨rfl⟩ : k = l.length + 1 := by omega
      have ht : above l a b = false := by rw [← hab, Nat.sub_self]; rfl
      have HT := Lib.hid ht
      clear hab ht
      go_wp2
      go_ret
      exact ⟨by rw [HT.out]; rfl, hnx⟩

end Go.Proofs.YtfpgfclmmdihjaaGreat

/- A list of places of the call's own: what append makes of it. Grow and Concat of the library. -/
namespace Go.Proofs.YtfpgfclmmdihjaaGreat
open Go.RowKit Tre

def plCells : List Pl → List Value
  | [] => []
  | p :: l => .int .i64 p.n :: .int .i64 p.u :: .string p.s :: plCells l
theorem plCells_len : ∀ l, (plCells l).length = l.length * 3
  | [] => rfl
  | p :: l => by simp only [plCells, List.length_cons, plCells_len l]; omega
theorem plCells_app : ∀ l r, plCells (l ++ r) = plCells l ++ plCells r
  | [], r => rfl
  | p :: l, r => by simp only [plCells, List.cons_append, plCells_app l r]
theorem plCells_one : ∀ (l : List Pl), ∀ u ∈ plCells l, u.oneCell' = true
  | [], u, h => by cases h
  | p :: l, u, h => by
    simp only [plCells, List.mem_cons] at h
    rcases h with rfl | rfl | rfl | h
    · rfl
    · rfl
    · rfl
    · exact plCells_one l u h
theorem plCells_at : ∀ (l : List Pl) (i : Nat) (h : i < l.length), (plCells l)[i * 3]? = some (.int .i64 l[i].n) ∧ (plCells l)[i * 3 + 1]? = some (.int .i64 l[i].u) ∧ (plCells l)[i * 3 + 2]? = some (.string l[i].s)
  | p :: l, 0, _ => ⟨rfl, rfl, rfl⟩
  | p :: l, i + 1, h => by
    have := plCells_at l i (by simpa using h)
    rw [show (i + 1) * 3 = i * 3 + 3 by omega]
    exact this
theorem plCells_get : ∀ (l : List Pl) (j : Nat) (u : Value), (plCells l)[j]? = some u → ∃ i, ∃ h : i < l.length, (j = i * 3 ∧ u = .int .i64 l[i].n) ∨ (j = i * 3 + 1 ∧ u = .int .i64 l[i].u) ∨ (j = i * 3 + 2 ∧ u = .string l[i].s)
  | [], j, u, h => by simp [plCells] at h
  | p :: l, 0, u, h => ⟨0, by simp, Or.inl ⟨rfl, by simpa [plCells] using h.symm⟩⟩
  | p :: l, 1, u, h => ⟨0, by simp, Or.inr (Or.inl ⟨rfl, by simpa [plCells] using h.symm⟩)⟩
  | p :: l, 2, u, h => ⟨0, by simp, Or.inr (Or.inr ⟨rfl, by simpa [plCells] using h.symm⟩)⟩
  | p :: l, j + 3, u, h => by
    obtain ⟨i, hi, hc⟩ := plCells_get l j u h
    refine ⟨i + 1, by simpa using hi, ?_⟩
    rcases hc with ⟨e, hu⟩ | ⟨e, hu⟩ | ⟨e, hu⟩
    · exact Or.inl ⟨by omega, by simpa using hu⟩
    · exact Or.inr (Or.inl ⟨by omega, by simpa using hu⟩)
    · exact Or.inr (Or.inr ⟨by omega, by simpa using hu⟩)

/-- The slice v holds these places, in a row that the call has made. -/
def Own (w : World) (B : Nat) (v : Value) (l : List Pl) : Prop := w.ownsRow B 117 3 v l.length (plCells l)
theorem Own.nil (w : World) (B : Nat) : Own w B (.slice none 0 0) [] := World.ownsRow_nil w B 117 3
theorem Own.kept {w w' : World} {B : Nat} {v : Value} {l : List Pl} {row : Option Nat} (h : Own w B v l) (hg : w.grownBy w' row) (hne : v.ownBlock = none ∨ v.ownBlock ≠ row) : Own w' B v l := World.ownsRow.kept h hg hne
theorem Own.below {w w' : World} {B : Nat} {v : Value} {l : List Pl} (h : Own w B v l) (hb : Below w.heap.size w w') : Own w' B v l :=
  World.ownsRow.kept h (row := none) ⟨hb.os, hb.tape, hb.output, hb.size, fun k hk _ => hb.block k hk⟩ (by cases hv : v.ownBlock <;> simp)
theorem add_lit (b o j : Nat) : (⟨b, o, none⟩ : Addr).add j = ⟨b, o + j, none⟩ := Addr.add_lit b o j
theorem Own.tr {w : World} {B : Nat} {v : Value} {l : List Pl} (h : Own w B v l) : ∃ A cap, v = .slice A l.length cap ∧ Tr w A l ∧ (A = none → cap = 0) ∧ l.length ≤ cap := by
  have hc := fun g (hg : v.ownBlock = some g) => World.ownsRow.cells h hg
  have hlt := World.ownsRow.lt h
  unfold Own at h
  rcases h.2 with ⟨rfl, h0⟩ | ⟨g, cap, cur, rfl, _, _, hnc, _⟩
  · have : l = [] := List.eq_nil_of_length_eq_zero h0
    subst this
    exact ⟨none, 0, rfl, Tr.nil w none, fun _ => rfl, Nat.le_refl _⟩
  · refine ⟨some ⟨g, 0, none⟩, cap, rfl, fun _ => ⟨g, 0, rfl, (hlt g rfl).2, fun i hi => ?_⟩, (fun e => by cases e), hnc⟩
    obtain ⟨h0, h1, h2⟩ := plCells_at l i hi
    have k0 := hc g rfl _ _ h0
    have k1 := hc g rfl _ _ h1
    have k2 := hc g rfl _ _ h2
    rw [add_lit] at k0 k1 k2
    exact ⟨k0, k1, k2⟩
/-- It lies from B on. -/
def Frs (B : Nat) (A : Option Addr) : Prop := ∀ a, A = some a → B ≤ a.block
theorem Frs.mono {B B' : Nat} {A : Option Addr} (h : Frs B A) (hB : B' ≤ B) : Frs B' A := fun a e => Nat.le_trans hB (h a e)
theorem Own.frs {w : World} {B n c : Nat} {A : Option Addr} {l : List Pl} (h : Own w B (.slice A n c) l) : Frs B A := fun a e => (World.ownsRow.lt h a.block (by rw [e]; rfl)).1
theorem Tr.cells {w : World} {a : Addr} {l : List Pl} (h : Tr w (some a) l) : ∀ j u, (plCells l)[j]? = some u → w.cell? (a.add j) = some u := by
  intro j u hu
  obtain ⟨i, hi, hc⟩ := plCells_get l j u hu
  obtain ⟨b, off, e, _, hat⟩ := h (by omega)
  obtain rfl := Option.some.inj e
  obtain ⟨a0, a1, a2⟩ := hat i hi
  rw [add_lit]
  rcases hc with ⟨rfl, rfl⟩ | ⟨rfl, rfl⟩ | ⟨rfl, rfl⟩
  · exact a0
  · exact a1
  · exact a2
theorem Tr.none_nil {w : World} {l : List Pl} (h : Tr w none l) : l = [] := by
  rcases Nat.eq_zero_or_pos l.length with h0 | h0
  · exact List.eq_nil_of_length_eq_zero h0
  · obtain ⟨_, _, e, _⟩ := h h0; cases e

theorem pl_info : (Tryz.prog.info? 117).map (fun i => (i.zero, i.size, i.bytes)) = some (some (.agg #[.int .i64 0, .int .i64 0, .string ⟨#[]⟩]), 3, 32) := by kernel_rfl

theorem run_app (w : World) (ty : TypeId) (B : Nat) (v : Value) (l r : List Pl) (hown : Own w B v l) (A : Option Addr) (m c : Nat) (hm : r.length = m) (hT : Tr w A r) (hc : A = none → c = 0) (hl : l.length + r.length ≤ 1000) (hB : B ≤ w.heap.size) :
    ∃ v' w', (Builtin.append_ #[36, 36] ty #[v, .slice A m c]).run Tryz.prog w = .ok v' w' ∧ Own w' B v' (l ++ r) ∧ w.grownBy w' v.ownBlock ∧ (v'.ownBlock = v.ownBlock ∨ v'.ownBlock = some w.heap.size) := by
  subst hm
  obtain ⟨i, hi, hz, hz1, hz2⟩ := info_parts pl_info
  cases A with
  | none =>
    obtain rfl := hT.none_nil
    obtain rfl := hc rfl
    refine ⟨v, w, run_append_owned_none (P := Tryz.prog) (w := w) B 36 ty 117 i 3 Tryz.underlying36 hi v l.length (plCells l) hown, ?_, ⟨rfl, rfl, rfl, Nat.le_refl _, fun _ _ _ => rfl⟩, Or.inl rfl⟩
    rw [List.append_nil]; exact hown
  | some a =>
    obtain ⟨v', w', h1, h2, h3, _, h5⟩ := run_append_own_at (P := Tryz.prog) w B 36 ty 117 i _ 3 32 Tryz.underlying36 hi hz hz1 hz2 rfl (by decide) v l.length (plCells l) hown a r.length c (plCells r) (plCells_len r) hT.cells (plCells_one r) (by unfold maxLen; omega) (by omega) hB
    refine ⟨v', w', h1, ?_, h3, h5⟩
    unfold Own
    rw [List.length_append, plCells_app]; exact h2

theorem wp_app {o : Oper} {a : Act} {w : World} {K : Act → World → Prop} {Q : Exit → Act → World → Prop} (s x : Operand)
    (ho : o.op = .call { callee := .builtin .append, args := #[s, x], argTypes := #[36, 36] }) (B : Nat) (v : Value) (l r : List Pl) (hs : a.eval s = v) (hown : Own w B v l) (A : Option Addr) (m c : Nat) (hx : a.eval x = .slice A m c)
    (hm : r.length = m) (hT : Tr w A r) (hc : A = none → c = 0) (hl : l.length + r.length ≤ 1000) (hB : B ≤ w.heap.size)
    (h : ∀ v' w', Own w' B v' (l ++ r) → w.grownBy w' v.ownBlock → (v'.ownBlock = v.ownBlock ∨ v'.ownBlock = some w.heap.size) → K (a.put o.dst v') w') : o.wp Tryz.prog a w K Q := by
  obtain ⟨v', w', hr, h2, h3, h4⟩ := run_app w o.type B v l r hown A m c hm hT hc hl hB
  unfold Oper.wp execOp
  simp only [ho, resolve, invoke, builtin, Sem.run_bind, Sem.run_pure, Result.andThen_ok, List.map_toArray, List.map_cons, List.map_nil, hs, hx, hr]
  exact h v' w' h2 h3 h4
theorem wpList_app {ops : Array Oper} {rest : List Oper} {o : Oper} {a : Act} {w : World} {Q : Exit → Act → World → Prop} (hgd : o.guard = none) (s x : Operand)
    (ho : o.op = .call { callee := .builtin .append, args := #[s, x], argTypes := #[36, 36] }) (B : Nat) (v : Value) (l r : List Pl) (hs : a.eval s = v) (hown : Own w B v l) (A : Option Addr) (m c : Nat) (hx : a.eval x = .slice A m c)
    (hm : r.length = m) (hT : Tr w A r) (hc : A = none → c = 0) (hl : l.length + r.length ≤ 1000) (hB : B ≤ w.heap.size)
    (h : ∀ v' w', Own w' B v' (l ++ r) → w.grownBy w' v.ownBlock → (v'.ownBlock = v.ownBlock ∨ v'.ownBlock = some w.heap.size) → wpList Tryz.prog ops Q rest (a.put o.dst v') w') : wpList Tryz.prog ops Q (o :: rest) a w :=
  wpList_plain hgd fun _ hK => wp_app s x ho B v l r hs hown A m c hx hm hT hc hl hB fun v' w' h2 h3 h4 => hK _ _ (h v' w' h2 h3 h4)

set_option maxRecDepth 100000 in
theorem grow_any (B n : Nat) (w : World) (hn : n ≤ 1000) (hB : B ≤ w.heap.size) :
    Calls Tryz.prog 103 #[.slice none 0 0, .int .i64 n] w fun e w' => ∃ v, e = .returned v ∧ Own w' B v [] ∧ Below w.heap.size w w' := by
  by_cases h0 : n = 0
  · subst h0
    go_enter Tryz.func103, Tryz.ntmps103
    go_wp2
    go_ret
    exact ⟨_, rfl, Own.nil _ B, Below.refl _ _⟩
  · obtain ⟨i, hi, hz, hz1, hz2⟩ := info_parts pl_info
    have hr := fun ty => Lib.run_append_nil_zeros (P := Tryz.prog) w 36 3 ty 117 i _ .i64 .i64 Tryz.underlying36 Tryz.underlying3 hi hz n (by omega) (by omega) (by omega) (by rw [hz2]; omega)
    have hg1 : n ≤ grownCap w n 0 117 := grownCap_ge w n 0 _
    have hg2 : grownCap w n 0 117 ≤ maxLen := grownCap_le_maxLen w n 0 117 (by unfold maxLen; omega)
    have hown : Own (w.drew.alloc (.cells (Builtin.zeroCells (Value.agg #[.int .i64 0, .int .i64 0, .string ⟨#[]⟩]).cells n ++ Builtin.zeroCells (Value.agg #[.int .i64 0, .int .i64 0, .string ⟨#[]⟩]).cells (grownCap w n 0 117 - n)) 117)) B (.slice (some ⟨w.heap.size, 0, none⟩) 0 (grownCap w n 0 117)) [] := by
      refine World.ownsRow_made w.drew _ (grownCap w n 0 117) hB hg2 ?_
      rw [Array.size_append, size_zeroCells, size_zeroCells]
      show n * 3 + (grownCap w n 0 117 - n) * 3 = _
      omega
    have hnx : Below w.heap.size w (w.drew.alloc (.cells (Builtin.zeroCells (Value.agg #[.int .i64 0, .int .i64 0, .string ⟨#[]⟩]).cells n ++ Builtin.zeroCells (Value.agg #[.int .i64 0, .int .i64 0, .string ⟨#[]⟩]).cells (grownCap w n 0 117 - n)) 117)) := below_alloc (Below.refl _ w).drew _
    generalize grownCap w n 0 117 = cap at *
    generalize w.drew.alloc (.cells (Builtin.zeroCells (Value.agg #[.int .i64 0, .int .i64 0, .string ⟨#[]⟩]).cells n ++ Builtin.zeroCells (Value.agg #[.int .i64 0, .int .i64 0, .string ⟨#[]⟩]).cells (cap - n)) 117) = W at *
    go_enter Tryz.func103, Tryz.ntmps103
    go_wp2_with (at_builtin; refine Lib.wpList_append_run _ rfl _ _ 36 3 rfl _ _ rfl rfl _ _ (hr _) ?_)
    go_wp2
    go_ret
    exact ⟨_, rfl, hown, hnx⟩
end Go.Proofs.YtfpgfclmmdihjaaGreat

/- Concat of the library; Put and Drop of the program. -/
namespace Go.Proofs.YtfpgfclmmdihjaaGreat
open Go.RowKit Tre

def catP (F : Nat → List Pl) : Nat → List Pl
  | 0 => []
  | k + 1 => catP F k ++ F k
theorem catP_le (F : Nat → List Pl) (k : Nat) : ∀ n, k ≤ n → (catP F k).length ≤ (catP F n).length
  | 0, h => by obtain rfl : k = 0 := by omega
               exact Nat.le_refl _
  | n + 1, h => by
    by_cases e : k = n + 1
    · subst e; exact Nat.le_refl _
    · have := catP_le F k n (by omega)
      rw [catP, List.length_append]; omega

set_option maxRecDepth 100000 in
theorem concat_any (sb : Nat) (F : Nat → List Pl) (A : Nat → Option Addr) (C : Nat → Nat) (w : World) (hcell : ∀ j, j < 3 → w.cell? ⟨sb, j, none⟩ = some (.slice (A j) (F j).length (C j)))
    (hT : ∀ j, j < 3 → Tr w (A j) (F j)) (hc : ∀ j, j < 3 → A j = none → C j = 0) (hl : (catP F 3).length ≤ 1000) (hsb : sb < w.heap.size) :
    Calls Tryz.prog 101 #[.slice (some ⟨sb, 0, none⟩) 3 3] w fun e w' => ∃ A' cap', e = .returned (.slice A' (catP F 3).length cap') ∧ Tr w' A' (catP F 3) ∧ (A' = none → cap' = 0) ∧ (catP F 3).length ≤ cap' ∧ Frs w.heap.size A' ∧ Below w.heap.size w w' := by
  have CG := fun n hn => grow_any w.heap.size n w hn (Nat.le_refl _)
  have hle := fun k h => catP_le F k 3 h
  have HCL := Lib.hid hcell
  have HTT := Lib.hid hT
  have HCC := Lib.hid hc
  clear hcell hT hc
  go_enter Tryz.func101, Tryz.ntmps101
  go_wp2
  go_loop [3, 11] (fun x y => ∃ k : Nat, k ≤ 3 ∧ y = .int .i64 k ∧ x = .int .i64 (catP F k).length) (fun _ y => 3 - (intOf y).toNat)
  case atStart => exact ⟨0, Nat.zero_le _, rfl, rfl⟩
  case round =>
    obtain ⟨k, hk, rfl, rfl⟩ := hrel
    by_cases hlt : k < 3
    · have h1 := HCL.out k hlt
      have h2 := hle (k + 1) hlt
      have h3 : (catP F (k + 1)).length = (catP F k).length + (F k).length := by rw [catP, List.length_append]
      have H3 := Lib.hid h3
      have h4 : (catP F k).length + (F k).length ≤ 1000 := by omega
      generalize (catP F k).length = n at *
      generalize (F k).length = m at *
      clear h3
      go_wp2
      go_round
      case rel => exact ⟨k + 1, by omega, by go_num, by rw [H3.out]; go_num⟩
      case measure => simp [intOf]; omega
    · obtain rfl : k = 3 := by omega
      have CG := CG _ hl
      go_wp2_with fail
      refine CG.mono ?_
      rintro e w1 ⟨v, rfl, hown, hb1⟩
      clear CG
      go_wp2
      go_loopw [6, 27] (fun x y wr => ∃ (k : Nat) (v : Value), k ≤ 3 ∧ y = .int .i64 k ∧ x = v ∧ Own wr w.heap.size v (catP F k) ∧ Below w.heap.size w wr) (fun _ y _ => 3 - (intOf y).toNat)
      case atStart => exact ⟨0, v, Nat.zero_le _, rfl, rfl, hown, hb1⟩
      case round =>
        clear hown hb1
        obtain ⟨k, v, hk, rfl, rfl, hown, hnx⟩ := hrel
        by_cases hlt : k < 3
        · have h1 := HCL.out k hlt
          rw [← (bcell hnx).1 _ _ hsb] at h1
          have h2 := hle (k + 1) hlt
          have h3 : (catP F (k + 1)).length = (catP F k).length + (F k).length := by rw [catP, List.length_append]
          have hTk := (HTT.out k hlt).below hnx
          have hck := HCC.out k hlt
          have hB := hnx.size
          go_wp2_with (at_builtin; refine wpList_app rfl _ _ rfl w.heap.size _ (catP F k) (F k) rfl hown (A k) _ (C k) rfl rfl hTk hck (by omega) hB ?_; intro v' w2 hown2 hg2 _)
          go_roundw
          case rel => exact ⟨k + 1, v', by omega, by go_num, rfl, hown2, hnx.grown hg2 hB (fun j hj => (World.ownsRow.lt hown j hj).1)⟩
          case measure => simp [intOf]; omega
        · obtain rfl : k = 3 := by omega
          obtain ⟨A', cap', rfl, hT', hc', hlc⟩ := hown.tr
          go_wp2
          go_ret
          exact ⟨A', cap', rfl, hT', hc', hlc, hown.frs, hnx⟩
end Go.Proofs.YtfpgfclmmdihjaaGreat

/- Put and Drop of the program. -/
namespace Go.Proofs.YtfpgfclmmdihjaaGreat
open Go.RowKit Tre

theorem behind_le (l : List Pl) (b : Int) : idx l b ≤ behind l b ∧ behind l b ≤ l.length := by
  unfold behind
  have h := idx_le l b
  split
  · rename_i hi
    rcases hg : Tre.get l b with _ | p
    · rw [hg] at hi; cases hi
    · obtain ⟨_, _, h1, _⟩ := get_some hg; omega
  · omega

def partsF (l : List Pl) (ix tz : Nat) (m : List Pl) : Nat → List Pl
  | 0 => l.take ix
  | 1 => m
  | _ => l.drop tz
theorem parts_cat (l : List Pl) (ix tz : Nat) (m : List Pl) : catP (partsF l ix tz m) 3 = (l.take ix ++ m) ++ l.drop tz := by
  show ((([] ++ l.take ix) ++ m) ++ l.drop tz) = _
  rw [List.nil_append]

theorem Tr.take {w : World} {A : Option Addr} {l : List Pl} (h : Tr w A l) (k : Nat) : Tr w A (l.take k) := fun h0 => by
  have hk : (l.take k).length ≤ l.length := by rw [List.length_take]; omega
  obtain ⟨b, off, e, hb, hc⟩ := h (by omega)
  exact ⟨b, off, e, hb, fun i hi => by rw [List.getElem_take]; exact hc i (by omega)⟩
theorem Tr.drop {w : World} {A A3 : Option Addr} {l : List Pl} {cap tz : Nat} (h : Tr w A l) (hcap : l.length ≤ cap) (he : (if cap = tz then A else Option.map (fun x => x.add (tz * 3)) A) = A3) : Tr w A3 (l.drop tz) := fun h0 => by
  rw [List.length_drop] at h0
  obtain ⟨b, off, e, hb, hc⟩ := h (by omega)
  rw [if_neg (by omega), e] at he
  refine ⟨b, off + tz * 3, by rw [← he]; simp [add_lit], hb, fun i hi => ?_⟩
  rw [List.length_drop] at hi
  rw [List.getElem_drop, show off + tz * 3 + i * 3 = off + (tz + i) * 3 by omega]
  exact hc _ (by omega)
theorem drop_none {A A3 : Option Addr} {cap tz : Nat} (hn : A = none → cap = 0) (he : (if cap = tz then A else Option.map (fun x => x.add (tz * 3)) A) = A3) (h : A3 = none) : cap - tz = 0 := by
  by_cases e : cap = tz
  · omega
  · rw [if_neg e, h, Option.map_eq_none_iff] at he
    have := hn he; omega

theorem concat3 (w : World) (A1 A2 A3 : Option Addr) (n1 c1 n2 c2 n3 c3 : Nat) (l1 l2 l3 : List Pl) (h1 : l1.length = n1) (h2 : l2.length = n2) (h3 : l3.length = n3) (t1 : Tr w A1 l1) (t2 : Tr w A2 l2) (t3 : Tr w A3 l3)
    (z1 : A1 = none → c1 = 0) (z2 : A2 = none → c2 = 0) (z3 : A3 = none → c3 = 0) (hl : n1 + n2 + n3 ≤ 1000) :
    Calls Tryz.prog 101 #[.slice (some ⟨w.heap.size, 0, none⟩) 3 3] (w.alloc (.cells #[.slice A1 n1 c1, .slice A2 n2 c2, .slice A3 n3 c3] 36)) fun e w' =>
      ∃ A' cap', e = .returned (.slice A' ((l1 ++ l2) ++ l3).length cap') ∧ Tr w' A' ((l1 ++ l2) ++ l3) ∧ (A' = none → cap' = 0) ∧ ((l1 ++ l2) ++ l3).length ≤ cap' ∧ Frs w.heap.size A' ∧ Below w.heap.size w w' := by
  subst h1 h2 h3
  have hb := below_alloc (Below.refl _ w) (.cells #[.slice A1 l1.length c1, .slice A2 l2.length c2, .slice A3 l3.length c3] 36)
  have hcell := fun j => Lib.cell_of_heap (heap_alloc_new w (.cells #[.slice A1 l1.length c1, .slice A2 l2.length c2, .slice A3 l3.length c3] 36)) j
  have he : catP (fun | 0 => l1 | 1 => l2 | _ => l3) 3 = (l1 ++ l2) ++ l3 := by
    show ((([] ++ l1) ++ l2) ++ l3) = _
    rw [List.nil_append]
  have C := concat_any w.heap.size (fun | 0 => l1 | 1 => l2 | _ => l3) (fun | 0 => A1 | 1 => A2 | _ => A3) (fun | 0 => c1 | 1 => c2 | _ => c3) _
    (fun j hj => (hcell j).trans (by match j, hj with | 0, _ => rfl | 1, _ => rfl | 2, _ => rfl))
    (fun j hj => match j, hj with | 0, _ => t1.below hb | 1, _ => t2.below hb | 2, _ => t3.below hb)
    (fun j hj => match j, hj with | 0, _ => z1 | 1, _ => z2 | 2, _ => z3)
    (by rw [he, List.length_append, List.length_append]; omega) (by simp)
  rw [he] at C
  refine C.mono ?_
  rintro e w' ⟨A', cap', he, ht, hz, hlc, hfr, hbb⟩
  exact ⟨A', cap', he, ht, hz, hlc, hfr.mono (by simp), below_then hb hbb⟩

set_option maxRecDepth 100000 in
theorem placed_any (A : Option Addr) (cap : Nat) (l : List Pl) (b : Int) (A2 : Option Addr) (mn cap2 : Nat) (m : List Pl) (w : World) (hmn : m.length = mn) (hl : l.length ≤ 900) (hs : Sorted l) (hT : Tr w A l) (hcap : l.length ≤ cap) (hn : A = none → cap = 0)
    (hm : mn ≤ 1) (hT2 : Tr w A2 m) (hn2 : A2 = none → cap2 = 0) :
    Calls Tryz.prog 96 #[.slice A l.length cap, .int .i64 b, .slice A2 mn cap2] w fun e w' => ∃ A' cap', e = .returned (.slice A' (placedL l b m).length cap') ∧ Tr w' A' (placedL l b m) ∧ (A' = none → cap' = 0) ∧ (placedL l b m).length ≤ cap' ∧ Frs w.heap.size A' ∧ Below w.heap.size w w' := by
  have hbl := behind_le l b
  have C := find_any A cap l b w (by omega) hs hT
  have hbe : behind l b = if (Tre.get l b).isSome then idx l b + 1 else idx l b := rfl
  unfold placedL
  generalize behind l b = tz at *
  generalize (Tre.get l b).isSome = is at *
  generalize idx l b = ix at *
  obtain ⟨A3, hA3⟩ : ∃ A3, (if cap = tz then A else Option.map (fun x => x.add (tz * 3)) A) = A3 := ⟨_, rfl⟩
  have h0 : (0 : Int) ≤ (ix : Int) := by omega
  have h1 : (ix : Int) ≤ (cap : Int) := by omega
  have h2 : (0 : Int) ≤ (tz : Int) := by omega
  have h3 : (tz : Int) ≤ (l.length : Int) := by omega
  have hT3 := hT.drop hcap hA3
  have hz3 := drop_none hn hA3
  have htk := hT.take ix
  have e1 : (l.take ix).length = ix := by rw [List.length_take]; omega
  have e3 : (l.drop tz).length = l.length - tz := List.length_drop
  have CC := fun (w1 : World) (hb : Below w.heap.size w w1) => concat3 w1 A A2 A3 ix cap mn cap2 (l.length - tz) (cap - tz) _ _ _ e1 hmn e3 (htk.below hb) (hT2.below hb) (hT3.below hb) hn hn2 hz3 (by omega)
  have HC := Lib.hid CC
  generalize ((l.take ix ++ m) ++ l.drop tz) = R at *
  clear CC hT3 hz3 htk e1 e3 hT hT2 hn hn2 hs
  cases is
  · obtain rfl : tz = ix := by simpa using hbe
    clear hbe
    go_enter Tryz.func96, Tryz.ntmps96
    go_wp2_with (go_at_call 95; (with_reducible refine C.mono ?_); rintro e w1 ⟨rfl, hb1⟩)
    go_still_tail 7, (by kernel_rfl)
    have hb2 : Below w.heap.size w w1.drew := hb1.drew
    change wpList _ _ _ _ _ w1.drew
    generalize w1.drew = w2 at *
    go_wp2_with (go_at_call 101; (with_reducible refine (HC.out w2 hb2).mono ?_); rintro e w3 ⟨A', cap', rfl, ht, hz, hlc, hfr, hb3⟩)
    go_ret
    exact ⟨A', cap', rfl, ht, hz, hlc, hfr.mono hb2.size, below_then hb2 hb3⟩
  · have hto : (ix : Int) + 1 = (tz : Int) := by have : tz = ix + 1 := by simpa using hbe
                                                 omega
    clear hbe
    go_enter Tryz.func96, Tryz.ntmps96
    go_wp2_with (go_at_call 95; (with_reducible refine C.mono ?_); rintro e w1 ⟨rfl, hb1⟩)
    go_still_tail 7, (by kernel_rfl)
    have hb2 : Below w.heap.size w w1.drew := hb1.drew
    change wpList _ _ _ _ _ w1.drew
    generalize w1.drew = w2 at *
    go_wp2_with (go_at_call 101; (with_reducible refine (HC.out w2 hb2).mono ?_); rintro e w3 ⟨A', cap', rfl, ht, hz, hlc, hfr, hb3⟩)
    go_ret
    exact ⟨A', cap', rfl, ht, hz, hlc, hfr.mono hb2.size, below_then hb2 hb3⟩

theorem AtPl.one {w : World} {b : Nat} {p : Pl} (h : PlIn w b p) : Tr w (some ⟨b, 0, none⟩) [p] := fun _ =>
  ⟨b, 0, rfl, h.lt, fun i hi => by
    obtain rfl : i = 0 := by simpa using hi
    exact h.cells⟩
theorem put_any (A : Option Addr) (cap : Nat) (l : List Pl) (p : Pl) (w : World) (hl : l.length ≤ 900) (hs : Sorted l) (hT : Tr w A l) (hcap : l.length ≤ cap) (hn : A = none → cap = 0) :
    Calls Tryz.prog 86 #[.slice A l.length cap, .agg #[.int .i64 p.n, .int .i64 p.u, .string p.s]] w fun e w' => ∃ A' cap', e = .returned (.slice A' (putL l p).length cap') ∧ Tr w' A' (putL l p) ∧ (A' = none → cap' = 0) ∧ (putL l p).length ≤ cap' ∧ Frs w.heap.size A' ∧ Below w.heap.size w w' := by
  have C := fun (w1 : World) (A2 : Option Addr) (hb : Below w.heap.size w w1) (h2 : Tr w1 A2 [p]) (hn2 : A2 = none → 1 = 0) => placed_any A cap l p.n A2 1 1 [p] w1 rfl hl hs (hT.below hb) hcap hn (Nat.le_refl _) h2 hn2
  have HC := Lib.hid C
  clear C hs hT hcap hn
  unfold putL
  generalize placedL l p.n [p] = R at *
  go_enter Tryz.func86, Tryz.ntmps86
  go_wp2_with fail
  have hb1 := below_alloc (Below.refl _ w) (.cells #[.int .i64 p.n, .int .i64 p.u, .string p.s] 117)
  have hb2 := below_alloc hb1 (.cells #[.int .i64 p.n, .int .i64 p.u, .string p.s] 117)
  have h1 := AtPl.one (PlIn.new (w.alloc (.cells #[.int .i64 p.n, .int .i64 p.u, .string p.s] 117)) p)
  rw [alloc_size] at h1
  refine (HC.out _ _ hb2 h1 (fun e => by cases e)).mono ?_
  rintro e w3 ⟨A', cap', rfl, ht, hz, hlc, hfr, hb3⟩
  go_wp2
  go_ret
  exact ⟨A', cap', rfl, ht, hz, hlc, hfr.mono hb2.size, below_then hb2 hb3⟩

end Go.Proofs.YtfpgfclmmdihjaaGreat

/- Put and Drop of the document. -/
namespace Go.Proofs.YtfpgfclmmdihjaaGreat
open Go.RowKit Tre

theorem step_app {ops : Array Oper} {o : Oper} {a : Act} {w : World} {K : Act → World → Prop} {Q : Exit → Act → World → Prop} {E : Prop} (hgd : o.guard = none) (s x : Operand)
    (ho : o.op = .call { callee := .builtin .append, args := #[s, x], argTypes := #[36, 36] }) (B : Nat) (v : Value) (l r : List Pl) (hs : a.eval s = v) (hown : Own w B v l) (A : Option Addr) (m c : Nat) (hx : a.eval x = .slice A m c)
    (hm : r.length = m) (hT : Tr w A r) (hc : A = none → c = 0) (hl : l.length + r.length ≤ 1000) (hB : B ≤ w.heap.size)
    (h : ∀ v' w', Own w' B v' (l ++ r) → w.grownBy w' v.ownBlock → (v'.ownBlock = v.ownBlock ∨ v'.ownBlock = some w.heap.size) → K (a.put o.dst v') w') :
    if Region.wanted o (yielded ops a.tmps) = true then Oper.wp Tryz.prog o a w K Q else E := by
  rw [if_pos (by simp [Region.wanted, hgd])]
  exact wp_app s x ho B v l r hs hown A m c hx hm hT hc hl hB h

/-- The slice at A holds these places, in a block ahead of B. -/
def TrB (B : Nat) (w : World) (A : Option Addr) (l : List Pl) : Prop :=
  0 < l.length → ∃ b off, A = some ⟨b, off, none⟩ ∧ b < B ∧ ∀ i (h : i < l.length), AtPl w b (off + i * 3) l[i]
theorem TrB.of {B : Nat} {w : World} {A : Option Addr} {l : List Pl} (h : Tr w A l) (hB : w.heap.size ≤ B) : TrB B w A l := fun h0 => by
  obtain ⟨b, off, e, hl, hc⟩ := h h0
  exact ⟨b, off, e, by omega, hc⟩
theorem TrB.tr {B : Nat} {w : World} {A : Option Addr} {l : List Pl} (h : TrB B w A l) (hB : B ≤ w.heap.size) : Tr w A l := fun h0 => by
  obtain ⟨b, off, e, hl, hc⟩ := h h0
  exact ⟨b, off, e, by omega, hc⟩
theorem AtPl.grown {w w' : World} {b o : Nat} {p : Pl} {row : Option Nat} (h : AtPl w b o p) (hg : w.grownBy w' row) (hne : some b ≠ row) : AtPl w' b o p :=
  ⟨hg.cell h.1 hne, hg.cell h.2.1 hne, hg.cell h.2.2 hne⟩
theorem TrB.keep {B : Nat} {w w' : World} {A : Option Addr} {l : List Pl} {row : Option Nat} (h : TrB B w A l) (hg : w.grownBy w' row) (hrow : ∀ k, row = some k → B ≤ k) : TrB B w' A l := fun h0 => by
  obtain ⟨b, off, e, hl, hc⟩ := h h0
  exact ⟨b, off, e, hl, fun i hi => (hc i hi).grown hg (fun e => by have := hrow b e.symm; omega)⟩
theorem TrB.alloc {B : Nat} {w : World} {A : Option Addr} {l : List Pl} (h : TrB B w A l) (hB : B ≤ w.heap.size) (o : Obj) : TrB B (w.alloc o) A l :=
  h.keep (World.grownBy_alloc w o none) (fun k e => by cases e)
theorem own_empty (w : World) (B : Nat) (hB : B ≤ w.heap.size) : Own (w.alloc (.cells #[] 117)) B (.slice (some ⟨w.heap.size, 0, none⟩) 0 0) [] :=
  World.ownsRow_made w #[] 0 hB (by unfold maxLen; omega) rfl

theorem Tr.keep1 {w w' : World} {a : Addr} {l : List Pl} {row : Option Nat} (h : Tr w (some a) l) (hg : w.grownBy w' row) (hne : some a.block ≠ row) : Tr w' (some a) l := fun h0 => by
  obtain ⟨b, off, e, hl, hc⟩ := h h0
  cases e
  exact ⟨b, off, rfl, Nat.lt_of_lt_of_le hl hg.size, fun i hi => (hc i hi).grown hg hne⟩

set_option maxRecDepth 100000 in
set_option maxHeartbeats 4000000 in
theorem refPut_any (A : Option Addr) (cap : Nat) (l : List Pl) (p : Pl) (w : World) (hl : l.length ≤ 900) (hT : Tr w A l) (hcap : l.length ≤ cap) (hn : A = none → cap = 0) :
    Calls Tryz.prog 91 #[.slice A l.length cap, .agg #[.int .i64 p.n, .int .i64 p.u, .string p.s]] w fun e w' => ∃ A' cap', e = .returned (.slice A' (putL l p).length cap') ∧ Tr w' A' (putL l p) ∧ (A' = none → cap' = 0) ∧ (putL l p).length ≤ cap' ∧ Frs w.heap.size A' ∧ Below w.heap.size w w' := by
  have hbl := behind_le l p.n
  have C := fun w hT => refFind_any A cap l p.n w (by omega) hT
  have hbe : behind l p.n = if (Tre.get l p.n).isSome then idx l p.n + 1 else idx l p.n := rfl
  unfold putL placedL
  generalize behind l p.n = tz at *
  generalize (Tre.get l p.n).isSome = is at *
  generalize idx l p.n = ix at *
  obtain ⟨A3, hA3⟩ : ∃ A3, (if cap = tz then A else Option.map (fun x => x.add (tz * 3)) A) = A3 := ⟨_, rfl⟩
  have hT3 := hT.drop hcap hA3
  have hz3 := drop_none hn hA3
  have htk := hT.take ix
  have e1 : (l.take ix).length = ix := by rw [List.length_take]; omega
  have e3 : (l.drop tz).length = l.length - tz := List.length_drop
  have h0 : (0 : Int) ≤ (ix : Int) := by omega
  have h1 : (ix : Int) ≤ (cap : Int) := by omega
  have h2 : (0 : Int) ≤ (tz : Int) := by omega
  have h3 : (tz : Int) ≤ (l.length : Int) := by omega
  have h4 : (ix : Int) ≤ (l.length : Int) := by omega
  have hE : ([] ++ l.take ix ++ [p]) ++ l.drop tz = (l.take ix ++ [p]) ++ l.drop tz := rfl
  have HE1 := Lib.hid e1
  have HE3 := Lib.hid e3
  generalize l.take ix = L1 at *
  generalize l.drop tz = L3 at *
  cases is
  · obtain rfl : tz = ix := by simpa using hbe
    clear hbe e1 e3
    go_enter Tryz.func91, Tryz.ntmps91
    go_wp2_with fail
    have hb1 := below_alloc (Below.refl _ w) (.cells #[.int .i64 p.n, .int .i64 p.u, .string p.s] 117)
    have hO := PlIn.new w p
    have hpl : w.heap.size < (w.alloc (.cells #[.int .i64 p.n, .int .i64 p.u, .string p.s] 117)).heap.size := by simp
    refine (C _ (hT.below hb1)).mono ?_
    rintro e w1 ⟨rfl, hb2⟩
    have hN := below_then hb1 hb2
    have hO := hO.below hb2
    have hpl := Nat.lt_of_lt_of_le hpl hb2.size
    have hTw := hN
    clear hb2 C
    go_wp2_with fail
    have hOV : PlIn w1.drew w.heap.size p := hO
    have hNV : Below w.heap.size w w1.drew := hN.drew
    obtain ⟨B, hBe⟩ : ∃ B, w1.heap.size = B := ⟨_, rfl⟩
    have hB0 : B ≤ w1.drew.heap.size := Nat.le_of_eq hBe.symm
    have hpB : w.heap.size < B := by omega
    have tkV : TrB B w1.drew A L1 := TrB.of (htk.below hNV) (Nat.le_of_eq hBe)
    have t3V : TrB B w1.drew A3 L3 := TrB.of (hT3.below hNV) (Nat.le_of_eq hBe)
    have hwB : w.heap.size ≤ B := Nat.le_of_lt hpB
    have hB_p : B ≤ (w1.drew.alloc (.cells #[.int .i64 p.n, .int .i64 p.u, .string p.s] 117)).heap.size := by rw [alloc_size]; omega
    have o_p : PlIn (w1.drew.alloc (.cells #[.int .i64 p.n, .int .i64 p.u, .string p.s] 117)) w.heap.size p := hOV.alloc _
    have n_p : Below w.heap.size w (w1.drew.alloc (.cells #[.int .i64 p.n, .int .i64 p.u, .string p.s] 117)) := below_alloc hNV _
    have k_p : TrB B (w1.drew.alloc (.cells #[.int .i64 p.n, .int .i64 p.u, .string p.s] 117)) A L1 := tkV.alloc hB0 _
    have t_p : TrB B (w1.drew.alloc (.cells #[.int .i64 p.n, .int .i64 p.u, .string p.s] 117)) A3 L3 := t3V.alloc hB0 _
    have hB_i : B ≤ (w1.drew.alloc (.cells #[] 117)).heap.size := by rw [alloc_size]; omega
    have o_i : PlIn (w1.drew.alloc (.cells #[] 117)) w.heap.size p := hOV.alloc _
    have n_i : Below w.heap.size w (w1.drew.alloc (.cells #[] 117)) := below_alloc hNV _
    have k_i : TrB B (w1.drew.alloc (.cells #[] 117)) A L1 := tkV.alloc hB0 _
    have t_i : TrB B (w1.drew.alloc (.cells #[] 117)) A3 L3 := t3V.alloc hB0 _
    have hB_ii : B ≤ ((w1.drew.alloc (.cells #[] 117)).alloc (.cells #[.int .i64 p.n, .int .i64 p.u, .string p.s] 117)).heap.size := by rw [alloc_size]; omega
    have o_ii : PlIn ((w1.drew.alloc (.cells #[] 117)).alloc (.cells #[.int .i64 p.n, .int .i64 p.u, .string p.s] 117)) w.heap.size p := o_i.alloc _
    have n_ii : Below w.heap.size w ((w1.drew.alloc (.cells #[] 117)).alloc (.cells #[.int .i64 p.n, .int .i64 p.u, .string p.s] 117)) := below_alloc n_i _
    have k_ii : TrB B ((w1.drew.alloc (.cells #[] 117)).alloc (.cells #[.int .i64 p.n, .int .i64 p.u, .string p.s] 117)) A L1 := k_i.alloc hB_i _
    have t_ii : TrB B ((w1.drew.alloc (.cells #[] 117)).alloc (.cells #[.int .i64 p.n, .int .i64 p.u, .string p.s] 117)) A3 L3 := t_i.alloc hB_i _
    have hB_iii : B ≤ ((w1.drew.alloc (.cells #[.int .i64 p.n, .int .i64 p.u, .string p.s] 117)).alloc (.cells #[] 117)).heap.size := by rw [alloc_size]; omega
    have o_iii : PlIn ((w1.drew.alloc (.cells #[.int .i64 p.n, .int .i64 p.u, .string p.s] 117)).alloc (.cells #[] 117)) w.heap.size p := o_p.alloc _
    have n_iii : Below w.heap.size w ((w1.drew.alloc (.cells #[.int .i64 p.n, .int .i64 p.u, .string p.s] 117)).alloc (.cells #[] 117)) := below_alloc n_p _
    have k_iii : TrB B ((w1.drew.alloc (.cells #[.int .i64 p.n, .int .i64 p.u, .string p.s] 117)).alloc (.cells #[] 117)) A L1 := k_p.alloc hB_p _
    have t_iii : TrB B ((w1.drew.alloc (.cells #[.int .i64 p.n, .int .i64 p.u, .string p.s] 117)).alloc (.cells #[] 117)) A3 L3 := t_p.alloc hB_p _
    have own_i : Own (w1.drew.alloc (.cells #[] 117)) B (.slice (some ⟨B, 0, none⟩) 0 0) [] := by rw [← hBe]; exact own_empty w1.drew _ (Nat.le_refl _)
    have own_ii : Own ((w1.drew.alloc (.cells #[] 117)).alloc (.cells #[.int .i64 p.n, .int .i64 p.u, .string p.s] 117)) B (.slice (some ⟨B, 0, none⟩) 0 0) [] := own_i.below (below_alloc (Below.refl _ _) _)
    have e_ii : Tr ((w1.drew.alloc (.cells #[] 117)).alloc (.cells #[.int .i64 p.n, .int .i64 p.u, .string p.s] 117)) (some ⟨B + 1, 0, none⟩) [p] := by
      have := AtPl.one (PlIn.new (w1.drew.alloc (.cells #[] 117)) p)
      rw [alloc_size, show w1.drew.heap.size = B from hBe] at this
      exact this
    have own_iii : Own ((w1.drew.alloc (.cells #[.int .i64 p.n, .int .i64 p.u, .string p.s] 117)).alloc (.cells #[] 117)) B (.slice (some ⟨B + 1, 0, none⟩) 0 0) [] := by
      have := own_empty (w1.drew.alloc (.cells #[.int .i64 p.n, .int .i64 p.u, .string p.s] 117)) B hB_p
      rw [alloc_size, show w1.drew.heap.size = B from hBe] at this
      exact this
    have e_iii : Tr ((w1.drew.alloc (.cells #[.int .i64 p.n, .int .i64 p.u, .string p.s] 117)).alloc (.cells #[] 117)) (some ⟨B, 0, none⟩) [p] := by
      have := (AtPl.one (PlIn.new w1.drew p)).below (below_alloc (Below.refl _ _) (.cells #[] 117))
      rw [show w1.drew.heap.size = B from hBe] at this
      exact this
    have hL13 : L1.length + L3.length ≤ 900 := by have := HE1.out; have := HE3.out; omega
    have hO := hOV
    clear hT hTw htk hT3 hOV hNV tkV t3V k_p t_p n_p hcap
    go_region_held3 (fun w' => w'.cell? ⟨w.heap.size, 0, none⟩ = some (.int .i64 p.n) ∧ w'.cell? ⟨w.heap.size, 1, none⟩ = some (.int .i64 p.u) ∧ w'.cell? ⟨w.heap.size, 2, none⟩ = some (.string p.s)) (first | exact hO.cells | exact o_i.cells | exact o_p.cells | exact o_ii.cells | exact o_iii.cells | exact (hO.alloc _).cells) (first | (refine step_app rfl (.tmp 23) (.tmp 26) rfl B _ [] L1 rfl own_i A _ cap rfl HE1.out (k_i.tr hB_i) hn (by simp; omega) hB_i ?_; intro v1 w2 hOw hg2 hat2; have hr2 := (fun k e => (World.ownsRow.lt own_i k e).1 : ∀ k, Value.ownBlock (.slice (some ⟨B, 0, none⟩) 0 0) = some k → B ≤ k); have hO := o_i.keep hg2 (fun e => by have := hr2 _ e.symm; omega); have hN := n_i.grown hg2 (by have := n_i.size; omega) (fun k e => by have := hr2 k e; omega); have t3 := t_i.keep hg2 hr2; have hBw := Nat.le_trans hB_i hg2.size) | (refine step_app rfl (.tmp 23) (.tmp 26) rfl B _ [] L1 rfl own_ii A _ cap rfl HE1.out (k_ii.tr hB_ii) hn (by simp; omega) hB_ii ?_; intro v1 w2 hOw hg2 hat2; have hr2 := (fun k e => (World.ownsRow.lt own_ii k e).1 : ∀ k, Value.ownBlock (.slice (some ⟨B, 0, none⟩) 0 0) = some k → B ≤ k); have hO := o_ii.keep hg2 (fun e => by have := hr2 _ e.symm; omega); have hN := n_ii.grown hg2 (by have := n_ii.size; omega) (fun k e => by have := hr2 k e; omega); have t3 := t_ii.keep hg2 hr2; have hBw := Nat.le_trans hB_ii hg2.size; have hEE : Tr w2 (some ⟨B + 1, 0, none⟩) [p] := e_ii.keep1 hg2 (fun e => by have e : some (B + 1) = some B := e; have := Option.some.inj e; omega)) | (refine step_app rfl (.tmp 23) (.tmp 26) rfl B _ [] L1 rfl own_iii A _ cap rfl HE1.out (k_iii.tr hB_iii) hn (by simp; omega) hB_iii ?_; intro v1 w2 hOw hg2 hat2; have hr2 := (fun k e => (World.ownsRow.lt own_iii k e).1 : ∀ k, Value.ownBlock (.slice (some ⟨B + 1, 0, none⟩) 0 0) = some k → B ≤ k); have hO := o_iii.keep hg2 (fun e => by have := hr2 _ e.symm; omega); have hN := n_iii.grown hg2 (by have := n_iii.size; omega) (fun k e => by have := hr2 k e; omega); have t3 := t_iii.keep hg2 hr2; have hBw := Nat.le_trans hB_iii hg2.size; have hEE : Tr w2 (some ⟨B, 0, none⟩) [p] := e_iii.keep1 hg2 (fun e => by have e : some B = some (B + 1) := e; have := Option.some.inj e; omega)) | (refine step_app rfl (.tmp 27) (.tmp 29) rfl B _ _ [p] rfl hOw _ 1 1 rfl rfl hEE (fun e => by cases e) (by simp; omega) hBw ?_; intro v2 w3 hOw2 hg3 hat3; have hr3 := fun k e => (World.ownsRow.lt hOw k e).1; have hO := hO.keep hg3 (fun e => by have := hr3 _ e.symm; omega); have hN := hN.grown hg3 (by have := hN.size; omega) (fun k e => by have := hr3 k e; omega); have t3 := t3.keep hg3 hr3; have hBw := Nat.le_trans hBw hg3.size) | (refine step_app rfl (.tmp 27) (.tmp 29) rfl B _ _ [p] rfl (hOw.below (below_alloc (Below.refl _ _) (.cells #[.int .i64 p.n, .int .i64 p.u, .string p.s] 117))) _ 1 1 rfl rfl (AtPl.one (PlIn.new w2 p)) (fun e => by cases e) (by simp; omega) (by rw [alloc_size]; omega : B ≤ (w2.alloc (.cells #[.int .i64 p.n, .int .i64 p.u, .string p.s] 117)).heap.size) ?_; intro v2 w3 hOw2 hg3 hat3; have hr3 := fun k e => (World.ownsRow.lt hOw k e).1; have hO := (hO.alloc (.cells #[.int .i64 p.n, .int .i64 p.u, .string p.s] 117)).keep hg3 (fun e => by have := hr3 _ e.symm; omega); have hN := (below_alloc hN (.cells #[.int .i64 p.n, .int .i64 p.u, .string p.s] 117)).grown hg3 (by have := (below_alloc hN (.cells #[.int .i64 p.n, .int .i64 p.u, .string p.s] 117)).size; omega) (fun k e => by have := hr3 k e; omega); have t3 := (t3.alloc hBw (.cells #[.int .i64 p.n, .int .i64 p.u, .string p.s] 117)).keep hg3 hr3; have hBw := Nat.le_trans (by rw [alloc_size]; omega : B ≤ (w2.alloc (.cells #[.int .i64 p.n, .int .i64 p.u, .string p.s] 117)).heap.size) hg3.size) | (refine step_app rfl (.tmp 30) (.tmp 31) rfl B _ _ L3 rfl hOw2 A3 _ _ rfl HE3.out (t3.tr hBw) hz3 (by simp; omega) hBw ?_; intro v3 w4 hOw3 hg4 hat4; have hr4 := fun k e => (World.ownsRow.lt hOw2 k e).1; have hO := hO.keep hg4 (fun e => by have := hr4 _ e.symm; omega); have hN := hN.grown hg4 (by have := hN.size; omega) (fun k e => by have := hr4 k e; omega)))
    all_goals
      have hOw3 : Own w4 B v3 ((L1 ++ [p]) ++ L3) := hOw3
      obtain ⟨A', cap', rfl, hT', hz', hlc⟩ := hOw3.tr
      go_wp2
      go_ret
      exact ⟨A', cap', rfl, hT', hz', hlc, hOw3.frs.mono (by omega), hN⟩
  · obtain ⟨A4, hA4⟩ : ∃ A4, (if cap = ix then A else Option.map (fun x => x.add (ix * 3)) A) = A4 := ⟨_, rfl⟩
    have hto : (ix : Int) + 1 = (tz : Int) := by have : tz = ix + 1 := by simpa using hbe
                                                 omega
    clear hbe e1 e3
    go_enter Tryz.func91, Tryz.ntmps91
    go_wp2_with fail
    have hb1 := below_alloc (Below.refl _ w) (.cells #[.int .i64 p.n, .int .i64 p.u, .string p.s] 117)
    have hO := PlIn.new w p
    have hpl : w.heap.size < (w.alloc (.cells #[.int .i64 p.n, .int .i64 p.u, .string p.s] 117)).heap.size := by simp
    refine (C _ (hT.below hb1)).mono ?_
    rintro e w1 ⟨rfl, hb2⟩
    have hN := below_then hb1 hb2
    have hO := hO.below hb2
    have hpl := Nat.lt_of_lt_of_le hpl hb2.size
    have hTw := hN
    clear hb2 C
    go_wp2_with fail
    have hOV : PlIn w1.drew w.heap.size p := hO
    have hNV : Below w.heap.size w w1.drew := hN.drew
    obtain ⟨B, hBe⟩ : ∃ B, w1.heap.size = B := ⟨_, rfl⟩
    have hB0 : B ≤ w1.drew.heap.size := Nat.le_of_eq hBe.symm
    have hpB : w.heap.size < B := by omega
    have tkV : TrB B w1.drew A L1 := TrB.of (htk.below hNV) (Nat.le_of_eq hBe)
    have t3V : TrB B w1.drew A3 L3 := TrB.of (hT3.below hNV) (Nat.le_of_eq hBe)
    have hwB : w.heap.size ≤ B := Nat.le_of_lt hpB
    have hB_p : B ≤ (w1.drew.alloc (.cells #[.int .i64 p.n, .int .i64 p.u, .string p.s] 117)).heap.size := by rw [alloc_size]; omega
    have o_p : PlIn (w1.drew.alloc (.cells #[.int .i64 p.n, .int .i64 p.u, .string p.s] 117)) w.heap.size p := hOV.alloc _
    have n_p : Below w.heap.size w (w1.drew.alloc (.cells #[.int .i64 p.n, .int .i64 p.u, .string p.s] 117)) := below_alloc hNV _
    have k_p : TrB B (w1.drew.alloc (.cells #[.int .i64 p.n, .int .i64 p.u, .string p.s] 117)) A L1 := tkV.alloc hB0 _
    have t_p : TrB B (w1.drew.alloc (.cells #[.int .i64 p.n, .int .i64 p.u, .string p.s] 117)) A3 L3 := t3V.alloc hB0 _
    have hB_i : B ≤ (w1.drew.alloc (.cells #[] 117)).heap.size := by rw [alloc_size]; omega
    have o_i : PlIn (w1.drew.alloc (.cells #[] 117)) w.heap.size p := hOV.alloc _
    have n_i : Below w.heap.size w (w1.drew.alloc (.cells #[] 117)) := below_alloc hNV _
    have k_i : TrB B (w1.drew.alloc (.cells #[] 117)) A L1 := tkV.alloc hB0 _
    have t_i : TrB B (w1.drew.alloc (.cells #[] 117)) A3 L3 := t3V.alloc hB0 _
    have hB_ii : B ≤ ((w1.drew.alloc (.cells #[] 117)).alloc (.cells #[.int .i64 p.n, .int .i64 p.u, .string p.s] 117)).heap.size := by rw [alloc_size]; omega
    have o_ii : PlIn ((w1.drew.alloc (.cells #[] 117)).alloc (.cells #[.int .i64 p.n, .int .i64 p.u, .string p.s] 117)) w.heap.size p := o_i.alloc _
    have n_ii : Below w.heap.size w ((w1.drew.alloc (.cells #[] 117)).alloc (.cells #[.int .i64 p.n, .int .i64 p.u, .string p.s] 117)) := below_alloc n_i _
    have k_ii : TrB B ((w1.drew.alloc (.cells #[] 117)).alloc (.cells #[.int .i64 p.n, .int .i64 p.u, .string p.s] 117)) A L1 := k_i.alloc hB_i _
    have t_ii : TrB B ((w1.drew.alloc (.cells #[] 117)).alloc (.cells #[.int .i64 p.n, .int .i64 p.u, .string p.s] 117)) A3 L3 := t_i.alloc hB_i _
    have hB_iii : B ≤ ((w1.drew.alloc (.cells #[.int .i64 p.n, .int .i64 p.u, .string p.s] 117)).alloc (.cells #[] 117)).heap.size := by rw [alloc_size]; omega
    have o_iii : PlIn ((w1.drew.alloc (.cells #[.int .i64 p.n, .int .i64 p.u, .string p.s] 117)).alloc (.cells #[] 117)) w.heap.size p := o_p.alloc _
    have n_iii : Below w.heap.size w ((w1.drew.alloc (.cells #[.int .i64 p.n, .int .i64 p.u, .string p.s] 117)).alloc (.cells #[] 117)) := below_alloc n_p _
    have k_iii : TrB B ((w1.drew.alloc (.cells #[.int .i64 p.n, .int .i64 p.u, .string p.s] 117)).alloc (.cells #[] 117)) A L1 := k_p.alloc hB_p _
    have t_iii : TrB B ((w1.drew.alloc (.cells #[.int .i64 p.n, .int .i64 p.u, .string p.s] 117)).alloc (.cells #[] 117)) A3 L3 := t_p.alloc hB_p _
    have own_i : Own (w1.drew.alloc (.cells #[] 117)) B (.slice (some ⟨B, 0, none⟩) 0 0) [] := by rw [← hBe]; exact own_empty w1.drew _ (Nat.le_refl _)
    have own_ii : Own ((w1.drew.alloc (.cells #[] 117)).alloc (.cells #[.int .i64 p.n, .int .i64 p.u, .string p.s] 117)) B (.slice (some ⟨B, 0, none⟩) 0 0) [] := own_i.below (below_alloc (Below.refl _ _) _)
    have e_ii : Tr ((w1.drew.alloc (.cells #[] 117)).alloc (.cells #[.int .i64 p.n, .int .i64 p.u, .string p.s] 117)) (some ⟨B + 1, 0, none⟩) [p] := by
      have := AtPl.one (PlIn.new (w1.drew.alloc (.cells #[] 117)) p)
      rw [alloc_size, show w1.drew.heap.size = B from hBe] at this
      exact this
    have own_iii : Own ((w1.drew.alloc (.cells #[.int .i64 p.n, .int .i64 p.u, .string p.s] 117)).alloc (.cells #[] 117)) B (.slice (some ⟨B + 1, 0, none⟩) 0 0) [] := by
      have := own_empty (w1.drew.alloc (.cells #[.int .i64 p.n, .int .i64 p.u, .string p.s] 117)) B hB_p
      rw [alloc_size, show w1.drew.heap.size = B from hBe] at this
      exact this
    have e_iii : Tr ((w1.drew.alloc (.cells #[.int .i64 p.n, .int .i64 p.u, .string p.s] 117)).alloc (.cells #[] 117)) (some ⟨B, 0, none⟩) [p] := by
      have := (AtPl.one (PlIn.new w1.drew p)).below (below_alloc (Below.refl _ _) (.cells #[] 117))
      rw [show w1.drew.heap.size = B from hBe] at this
      exact this
    have hL13 : L1.length + L3.length ≤ 900 := by have := HE1.out; have := HE3.out; omega
    have hO := hOV
    clear hT hTw htk hT3 hOV hNV tkV t3V k_p t_p n_p hcap
    go_region_held3 (fun w' => w'.cell? ⟨w.heap.size, 0, none⟩ = some (.int .i64 p.n) ∧ w'.cell? ⟨w.heap.size, 1, none⟩ = some (.int .i64 p.u) ∧ w'.cell? ⟨w.heap.size, 2, none⟩ = some (.string p.s)) (first | exact hO.cells | exact o_i.cells | exact o_p.cells | exact o_ii.cells | exact o_iii.cells | exact (hO.alloc _).cells) (first | (refine step_app rfl (.tmp 23) (.tmp 26) rfl B _ [] L1 rfl own_i A _ cap rfl HE1.out (k_i.tr hB_i) hn (by simp; omega) hB_i ?_; intro v1 w2 hOw hg2 hat2; have hr2 := (fun k e => (World.ownsRow.lt own_i k e).1 : ∀ k, Value.ownBlock (.slice (some ⟨B, 0, none⟩) 0 0) = some k → B ≤ k); have hO := o_i.keep hg2 (fun e => by have := hr2 _ e.symm; omega); have hN := n_i.grown hg2 (by have := n_i.size; omega) (fun k e => by have := hr2 k e; omega); have t3 := t_i.keep hg2 hr2; have hBw := Nat.le_trans hB_i hg2.size) | (refine step_app rfl (.tmp 23) (.tmp 26) rfl B _ [] L1 rfl own_ii A _ cap rfl HE1.out (k_ii.tr hB_ii) hn (by simp; omega) hB_ii ?_; intro v1 w2 hOw hg2 hat2; have hr2 := (fun k e => (World.ownsRow.lt own_ii k e).1 : ∀ k, Value.ownBlock (.slice (some ⟨B, 0, none⟩) 0 0) = some k → B ≤ k); have hO := o_ii.keep hg2 (fun e => by have := hr2 _ e.symm; omega); have hN := n_ii.grown hg2 (by have := n_ii.size; omega) (fun k e => by have := hr2 k e; omega); have t3 := t_ii.keep hg2 hr2; have hBw := Nat.le_trans hB_ii hg2.size; have hEE : Tr w2 (some ⟨B + 1, 0, none⟩) [p] := e_ii.keep1 hg2 (fun e => by have e : some (B + 1) = some B := e; have := Option.some.inj e; omega)) | (refine step_app rfl (.tmp 23) (.tmp 26) rfl B _ [] L1 rfl own_iii A _ cap rfl HE1.out (k_iii.tr hB_iii) hn (by simp; omega) hB_iii ?_; intro v1 w2 hOw hg2 hat2; have hr2 := (fun k e => (World.ownsRow.lt own_iii k e).1 : ∀ k, Value.ownBlock (.slice (some ⟨B + 1, 0, none⟩) 0 0) = some k → B ≤ k); have hO := o_iii.keep hg2 (fun e => by have := hr2 _ e.symm; omega); have hN := n_iii.grown hg2 (by have := n_iii.size; omega) (fun k e => by have := hr2 k e; omega); have t3 := t_iii.keep hg2 hr2; have hBw := Nat.le_trans hB_iii hg2.size; have hEE : Tr w2 (some ⟨B, 0, none⟩) [p] := e_iii.keep1 hg2 (fun e => by have e : some B = some (B + 1) := e; have := Option.some.inj e; omega)) | (refine step_app rfl (.tmp 27) (.tmp 29) rfl B _ _ [p] rfl hOw _ 1 1 rfl rfl hEE (fun e => by cases e) (by simp; omega) hBw ?_; intro v2 w3 hOw2 hg3 hat3; have hr3 := fun k e => (World.ownsRow.lt hOw k e).1; have hO := hO.keep hg3 (fun e => by have := hr3 _ e.symm; omega); have hN := hN.grown hg3 (by have := hN.size; omega) (fun k e => by have := hr3 k e; omega); have t3 := t3.keep hg3 hr3; have hBw := Nat.le_trans hBw hg3.size) | (refine step_app rfl (.tmp 27) (.tmp 29) rfl B _ _ [p] rfl (hOw.below (below_alloc (Below.refl _ _) (.cells #[.int .i64 p.n, .int .i64 p.u, .string p.s] 117))) _ 1 1 rfl rfl (AtPl.one (PlIn.new w2 p)) (fun e => by cases e) (by simp; omega) (by rw [alloc_size]; omega : B ≤ (w2.alloc (.cells #[.int .i64 p.n, .int .i64 p.u, .string p.s] 117)).heap.size) ?_; intro v2 w3 hOw2 hg3 hat3; have hr3 := fun k e => (World.ownsRow.lt hOw k e).1; have hO := (hO.alloc (.cells #[.int .i64 p.n, .int .i64 p.u, .string p.s] 117)).keep hg3 (fun e => by have := hr3 _ e.symm; omega); have hN := (below_alloc hN (.cells #[.int .i64 p.n, .int .i64 p.u, .string p.s] 117)).grown hg3 (by have := (below_alloc hN (.cells #[.int .i64 p.n, .int .i64 p.u, .string p.s] 117)).size; omega) (fun k e => by have := hr3 k e; omega); have t3 := (t3.alloc hBw (.cells #[.int .i64 p.n, .int .i64 p.u, .string p.s] 117)).keep hg3 hr3; have hBw := Nat.le_trans (by rw [alloc_size]; omega : B ≤ (w2.alloc (.cells #[.int .i64 p.n, .int .i64 p.u, .string p.s] 117)).heap.size) hg3.size) | (refine step_app rfl (.tmp 30) (.tmp 31) rfl B _ _ L3 rfl hOw2 A3 _ _ rfl HE3.out (t3.tr hBw) hz3 (by simp; omega) hBw ?_; intro v3 w4 hOw3 hg4 hat4; have hr4 := fun k e => (World.ownsRow.lt hOw2 k e).1; have hO := hO.keep hg4 (fun e => by have := hr4 _ e.symm; omega); have hN := hN.grown hg4 (by have := hN.size; omega) (fun k e => by have := hr4 k e; omega)))
    all_goals
      have hOw3 : Own w4 B v3 ((L1 ++ [p]) ++ L3) := hOw3
      obtain ⟨A', cap', rfl, hT', hz', hlc⟩ := hOw3.tr
      go_wp2
      go_ret
      exact ⟨A', cap', rfl, hT', hz', hlc, hOw3.frs.mono (by omega), hN⟩

theorem dropL_none {l : List Pl} {b : Int} (h : (Tre.get l b).isSome = false) : dropL l b = l := by
  unfold dropL placedL behind
  rw [h, List.append_nil]
  exact List.take_append_drop _ _

end Go.Proofs.YtfpgfclmmdihjaaGreat

/- Floats that hold whole numbers: their words read back as these numbers; sums, differences, comparisons and conversions of them are those of the numbers. Conditions: the numbers are below 2^53. -/
namespace Go.Proofs.YtfpgfclmmdihjaaGreat.Flo
open Ieee

theorem shl (m k : Nat) : m <<< k = m * 2 ^ k := Nat.shiftLeft_eq m k

theorem signed_eq (s : Bool) (m k : Nat) : signed s m k = (if s then -1 else 1) * ((m : Int) * 2 ^ k) := by
  unfold signed
  cases s <;> simp [shl]

theorem signed_add (s : Bool) (m a k : Nat) : signed s m (a + k) = signed s m a * 2 ^ k := by
  rw [signed_eq, signed_eq, Int.pow_add, ← Int.mul_assoc (m : Int), ← Int.mul_assoc]

theorem cmp_scale (a b : Int) (k : Nat) : compare (a * 2 ^ k) (b * 2 ^ k) = compare a b := by
  have h : (0 : Int) < 2 ^ k := Int.pow_pos (by decide)
  have h1 : a * 2 ^ k < b * 2 ^ k ↔ a < b := Int.mul_lt_mul_right h
  have h2 : a * 2 ^ k = b * 2 ^ k ↔ a = b := Int.mul_eq_mul_right_iff (by omega)
  simp only [compare, compareOfLessAndEq, h1, h2]

theorem dbl_frac : double.fractionBits = 52 := rfl
theorem dbl_least : double.leastPlace = -1074 := by decide
theorem dbl_bin : double.binade = 4503599627370496 := by decide
theorem dbl_inf : double.infRung = 9218868437227405312 := by decide
theorem dbl_sign : double.signWeight = 9223372036854775808 := by decide

theorem read_word (neg : Bool) (r : Nat) (h : r < 9218868437227405312) : double.read (double.word neg r) =
    if r < 4503599627370496 then .number neg r (-1074)
    else .number neg (4503599627370496 + r % 4503599627370496) (-1074 + ((r / 4503599627370496 - 1 : Nat) : Int)) := by
  have e1 : (double.word neg r) % 9223372036854775808 = r := by
    unfold Format.word; rw [dbl_sign]; split <;> omega
  have e2 : ((double.word neg r) / 9223372036854775808 % 2 == 1) = neg := by
    unfold Format.word; rw [dbl_sign]
    cases neg
    · have : r / 9223372036854775808 = 0 := by omega
      simp [this]
    · have : (9223372036854775808 + r) / 9223372036854775808 = 1 := by omega
      simp [this]
  unfold Format.read
  simp only [dbl_sign, dbl_bin, dbl_inf, dbl_least, e1, e2, h, if_true]

theorem log2_mul_pow (c k : Nat) (h : 0 < c) : (c * 2 ^ k).log2 = c.log2 + k := by
  have hp : 0 < 2 ^ k := Nat.two_pow_pos k
  have hc : c ≠ 0 := by omega
  have hne : c * 2 ^ k ≠ 0 := Nat.mul_ne_zero hc (by omega)
  apply (Nat.log2_eq_iff hne).2
  have a := Nat.log2_self_le hc
  have b := Nat.lt_log2_self (n := c)
  constructor
  · rw [Nat.pow_add]; exact Nat.mul_le_mul_right _ a
  · rw [Nat.add_right_comm, Nat.pow_add]; exact (Nat.mul_lt_mul_right hp).2 b

/-- A cut that drops nothing but noughts. -/
theorem cut_even (neg : Bool) (c k d : Nat) (hd : d ≤ k) (hc : 0 < c) : Toward.even.cut neg (c * 2 ^ k) d = c * 2 ^ (k - d) := by
  have hl := log2_mul_pow c k hc
  have hm : min d ((c * 2 ^ k).log2 + 2) = d := by rw [hl]; omega
  have hk : c * 2 ^ k = (c * 2 ^ (k - d)) * 2 ^ d := by rw [Nat.mul_assoc, ← Nat.pow_add]; congr 2; omega
  have hp : 0 < 2 ^ d := Nat.two_pow_pos d
  unfold Toward.cut
  simp only [hm, shl, Nat.one_mul]
  rw [hk, Nat.mul_mod_left, Nat.mul_div_cancel _ hp]
  simp

theorem nearest_scale (neg : Bool) (c k : Nat) (place : Int) (hc : 0 < c) (hb : c < 2 ^ 53) (hp : -1074 ≤ place + k) :
    double.nearest neg (c * 2 ^ k) place =
      double.word neg (min ((max (place + k + c.log2 - 52) (-1074) + 1074).toNat * 4503599627370496 + c * 2 ^ (place + k - max (place + k + c.log2 - 52) (-1074)).toNat) 9218868437227405312) := by
  have hne : ¬ c * 2 ^ k = 0 := by have := Nat.two_pow_pos k; exact Nat.mul_ne_zero (by omega) (by omega)
  have hlc : c.log2 ≤ 52 := by
    have := (Nat.log2_lt (n := c) (k := 53) (by omega)).2 hb; omega
  unfold Format.nearest
  rw [if_neg hne]
  simp only [log2_mul_pow c k hc, dbl_frac, dbl_least, dbl_bin, dbl_inf]
  have e : place + ((c.log2 + k : Nat) : Int) - ((52 : Nat) : Int) = place + k + c.log2 - 52 := by omega
  rw [e]
  generalize hL : max (place + k + c.log2 - 52) (-1074) = last
  have hle : last ≤ place + k := by omega
  by_cases hpl : last ≤ place
  · have e0 : (last - place).toNat = 0 := by omega
    have e1 : (place + k - last).toNat = k + (place - last).toNat := by omega
    rw [e0, shl, Nat.mul_assoc, ← Nat.pow_add, cut_even neg c _ 0 (by omega) hc, e1, Nat.sub_zero, Int.sub_neg]
  · have e0 : (place - last).toNat = 0 := by omega
    have e1 : (place + k - last).toNat = k - (last - place).toNat := by omega
    rw [e0, shl, Nat.pow_zero, Nat.mul_one, cut_even neg c k _ (by omega) hc, e1, Int.sub_neg]

theorem pow_up (c d : Nat) (hc : c < 2 ^ (c.log2 + 1)) (h : c.log2 + d ≤ 52) : c * 2 ^ d < 9007199254740992 := by
  have h1 : c * 2 ^ d < 2 ^ (c.log2 + 1) * 2 ^ d := (Nat.mul_lt_mul_right (Nat.two_pow_pos _)).2 hc
  rw [← Nat.pow_add] at h1
  have h2 : 2 ^ (c.log2 + 1 + d) ≤ 2 ^ 53 := Nat.pow_le_pow_right (by decide) (by omega)
  exact Nat.lt_of_lt_of_le h1 h2

theorem pow_lo (c d : Nat) (hc : 2 ^ c.log2 ≤ c) (h : 52 ≤ c.log2 + d) : 4503599627370496 ≤ c * 2 ^ d := by
  have h1 : 2 ^ c.log2 * 2 ^ d ≤ c * 2 ^ d := Nat.mul_le_mul_right _ hc
  rw [← Nat.pow_add] at h1
  have h2 : 2 ^ 52 ≤ 2 ^ (c.log2 + d) := Nat.pow_le_pow_right (by decide) h
  exact Nat.le_trans h2 h1

theorem read_rung (neg : Bool) (q K : Nat) (hq : q ≤ 2000) (up : K < 9007199254740992) (lo : q = 0 ∨ 4503599627370496 ≤ K) :
    ∃ m e, double.read (double.word neg (min (q * 4503599627370496 + K) 9218868437227405312)) = .number neg m e ∧ -1074 ≤ e ∧ e ≤ -1074 + q ∧ m * 2 ^ (e + 1074).toNat = K * 2 ^ q := by
  have hmin : min (q * 4503599627370496 + K) 9218868437227405312 = q * 4503599627370496 + K := Nat.min_eq_left (by omega)
  rw [hmin, read_word neg _ (by omega)]
  by_cases hk : q * 4503599627370496 + K < 4503599627370496
  · rw [if_pos hk]
    have h0 : q = 0 := by omega
    have h1 : q * 4503599627370496 + K = K := by omega
    rw [h1]
    exact ⟨K, -1074, rfl, Int.le_refl _, by omega, by rw [h0]; rfl⟩
  · rw [if_neg hk]
    have e2 : 4503599627370496 + (q * 4503599627370496 + K) % 4503599627370496 = K := by omega
    have e1 : (q * 4503599627370496 + K) / 4503599627370496 - 1 = q := by omega
    rw [e1, e2]
    exact ⟨K, -1074 + q, rfl, by omega, Int.le_refl _, by rw [show ((-1074 : Int) + q + 1074).toNat = q by omega]⟩

theorem read_nearest (neg : Bool) (c k : Nat) (place : Int) (hc : 0 < c) (hb : c < 2 ^ 53) (hp : -1074 ≤ place + k) (hu : place + k ≤ 900) :
    ∃ m e, double.read (double.nearest neg (c * 2 ^ k) place) = .number neg m e ∧ -1074 ≤ e ∧ e ≤ max (place + k + c.log2 - 52) (-1074) ∧ m * 2 ^ (e + 1074).toNat = c * 2 ^ (place + k + 1074).toNat := by
  rw [nearest_scale neg c k place hc hb hp]
  have hlc : c.log2 ≤ 52 := by
    have := (Nat.log2_lt (n := c) (k := 53) (by omega)).2 hb; omega
  generalize place + k = P at *
  have hc0 : c ≠ 0 := by omega
  have a := Nat.log2_self_le hc0
  have b := Nat.lt_log2_self (n := c)
  generalize hL : max (P + c.log2 - 52) (-1074) = last
  obtain ⟨q, hq⟩ : ∃ q : Nat, last = -1074 + q := ⟨(last + 1074).toNat, by omega⟩
  have hq4 : (last + 1074).toNat = q := by omega
  rw [hq4]
  obtain ⟨m, e, h1, h2, h3, h4⟩ := read_rung neg q (c * 2 ^ (P - last).toNat) (by omega) (pow_up c _ b (by omega))
    (by by_cases h : q = 0
        · exact Or.inl h
        · exact Or.inr (pow_lo c _ a (by omega)))
  refine ⟨m, e, h1, h2, by omega, ?_⟩
  rw [h4, Nat.mul_assoc, ← Nat.pow_add]
  congr 2; omega

/-- One, in units of 2^-1074. -/
def U : Int := 2 ^ 1074
theorem U_split (g : Int) (h0 : g ≤ 0) (h1 : -1074 ≤ g) : U = 2 ^ (-g).toNat * 2 ^ (g + 1074).toNat := by
  unfold U; rw [← Int.pow_add]; congr 1; omega
theorem U_pos : 0 < U := Int.pow_pos (by decide)
theorem cmp_U (a b : Int) : compare (a * U) (b * U) = compare a b := cmp_scale a b 1074
theorem nat_pow (n k : Nat) : ((n * 2 ^ k : Nat) : Int) = n * 2 ^ k := by rw [Int.natCast_mul, Int.natCast_pow]; rfl
theorem U_nat (n : Nat) : ((n * 2 ^ 1074 : Nat) : Int) = n * U := nat_pow n 1074
theorem mul_pow_add (m k b : Nat) : (m : Int) * 2 ^ (k + b) = ((m * 2 ^ k : Nat) : Int) * 2 ^ b := by rw [nat_pow, Int.pow_add, Int.mul_assoc]
theorem U_mul (m k : Nat) : (m : Int) * 2 ^ (k + 1074) = ((m * 2 ^ k : Nat) : Int) * U := mul_pow_add m k 1074
attribute [irreducible] U

/-- The word x is the float of the whole number n. -/
def IsInt (x : Nat) (n : Int) : Prop := ∃ s m e, double.read x = .number s m e ∧ -1074 ≤ e ∧ e ≤ 0 ∧ signed s m (e + 1074).toNat = n * U

/-- The word x is a number of value v, in units of 2^-1074. -/
def Val (x : Nat) (v : Int) : Prop := ∃ s m e, double.read x = .number s m e ∧ -1074 ≤ e ∧ signed s m (e + 1074).toNat = v

theorem IsInt.val {x : Nat} {n : Int} (h : IsInt x n) : Val x (n * U) := by
  obtain ⟨s, m, e, h1, h2, _, h4⟩ := h; exact ⟨s, m, e, h1, h2, h4⟩

theorem order_val {x y : Nat} {a b : Int} (hx : Val x a) (hy : Val y b) : double.order x y = some (compare a b) := by
  obtain ⟨s, m, i, h1, h2, rfl⟩ := hx
  obtain ⟨t, n, j, k1, k2, rfl⟩ := hy
  unfold Format.order
  rw [h1, k1]
  simp only [Datum.order]
  have e1 : (i + 1074).toNat = (i - min i j).toNat + (min i j + 1074).toNat := by omega
  have e2 : (j + 1074).toNat = (j - min i j).toNat + (min i j + 1074).toNat := by omega
  rw [e1, e2, signed_add, signed_add, cmp_scale]

theorem order_int {x y : Nat} {a b : Int} (hx : IsInt x a) (hy : IsInt y b) : double.order x y = some (compare a b) := by
  rw [order_val hx.val hy.val, cmp_U]

theorem isInt_nearest (neg : Bool) (c k : Nat) (place : Int) (hb : c < 2 ^ 53) (hp : place + k = 0) (hz : c = 0 → neg = neg) :
    IsInt (double.nearest neg (c * 2 ^ k) place) (if neg then -(c : Int) else c) := by
  by_cases hc : c = 0
  · subst hc
    have : double.nearest neg (0 * 2 ^ k) place = double.word neg 0 := by unfold Format.nearest; simp
    rw [this]
    refine ⟨neg, 0, -1074, ?_, by omega, by omega, ?_⟩
    · rw [read_word neg 0 (by decide)]; simp
    · rw [signed_eq]; cases neg <;> simp
  · obtain ⟨m, e, h1, h2, h3, h4⟩ := read_nearest neg c k place (by omega) hb (by omega) (by omega)
    have hlc : c.log2 ≤ 52 := by
      have := (Nat.log2_lt (n := c) (k := 53) hc).2 hb; omega
    refine ⟨neg, m, e, h1, h2, by omega, ?_⟩
    rw [hp, show ((0 : Int) + 1074).toNat = 1074 by rfl] at h4
    have h5 : (m : Int) * 2 ^ (e + 1074).toNat = c * U := by rw [← U_nat, ← h4, Int.natCast_mul, Int.natCast_pow]; rfl
    rw [signed_eq, h5]
    cases neg
    · simp
    · simp [Int.neg_mul]

theorem isInt_ofInt (n : Int) (h : n.natAbs < 2 ^ 53) : IsInt (floatOfInt .f64 n) n := by
  have := isInt_nearest (decide (n < 0)) n.natAbs 0 0 h rfl (fun _ => rfl)
  rw [Nat.pow_zero, Nat.mul_one] at this
  have e : (if decide (n < 0) = true then -(n.natAbs : Int) else n.natAbs) = n := by
    by_cases hn : n < 0
    · simp only [hn, decide_true, if_true]; omega
    · simp only [hn, decide_false]; simp; omega
  rw [e] at this
  exact this

theorem signed_zero (s : Bool) (m k : Nat) : (signed s m k).natAbs = m * 2 ^ k := by
  rw [signed_eq]; cases s <;> simp [Int.natAbs_mul, Int.natAbs_pow]

/-- The sum of two data of whole numbers, written, is the sum's float. -/
theorem isInt_sum {s t : Bool} {m n : Nat} {i j : Int} {a b : Int} (hi : -1074 ≤ i) (hi0 : i ≤ 0) (hj : -1074 ≤ j) (hj0 : j ≤ 0)
    (ha : signed s m (i + 1074).toNat = a * U) (hb : signed t n (j + 1074).toNat = b * U) (hab : (a + b).natAbs < 2 ^ 53) :
    ∃ d, (Datum.number s m i).sum (.number t n j) = some d ∧ IsInt (double.write d) (a + b) := by
  refine ⟨_, rfl, ?_⟩
  simp only [Format.write]
  have e1 : (i + 1074).toNat = (i - min i j).toNat + (min i j + 1074).toNat := by omega
  have e2 : (j + 1074).toNat = (j - min i j).toNat + (min i j + 1074).toNat := by omega
  rw [e1, signed_add] at ha
  rw [e2, signed_add] at hb
  generalize hA : signed s m (i - min i j).toNat = A at *
  generalize hB : signed t n (j - min i j).toNat = B at *
  generalize hg : min i j = g at *
  have hg0 : g ≤ 0 := by omega
  have hg1 : -1074 ≤ g := by omega
  have hU := U_split g hg0 hg1
  have hp : (0 : Int) < 2 ^ (g + 1074).toNat := Int.pow_pos (by decide)
  have hs : A + B = (a + b) * 2 ^ (-g).toNat := by
    apply Int.eq_of_mul_eq_mul_right (a := 2 ^ (g + 1074).toNat) (by omega)
    rw [Int.add_mul, ha, hb, Int.mul_assoc, ← hU, Int.add_mul]
  have hn : (A + B).natAbs = (a + b).natAbs * 2 ^ (-g).toNat := by
    rw [hs, Int.natAbs_mul, Int.natAbs_pow]; rfl
  have hq : (0 : Int) < 2 ^ (-g).toNat := Int.pow_pos (by decide)
  have hlt : A + B < 0 ↔ a + b < 0 := by
    rw [hs]
    constructor
    · intro h
      rcases Int.lt_or_le (a + b) 0 with h' | h'
      · exact h'
      · have := Int.mul_nonneg h' (Int.le_of_lt hq); omega
    · intro h; exact Int.mul_neg_of_neg_of_pos h hq
  have hz : A + B = 0 ↔ a + b = 0 := by
    rw [hs]; constructor
    · intro h; rcases Int.mul_eq_zero.1 h with h' | h'
      · exact h'
      · omega
    · intro h; rw [h]; simp
  rw [hn]
  by_cases h0 : a + b = 0
  · have := isInt_nearest (if A + B = 0 then s && t else decide (A + B < 0)) (a + b).natAbs (-g).toNat g hab (by omega) (fun _ => rfl)
    have e : (if (if A + B = 0 then s && t else decide (A + B < 0)) = true then -((a + b).natAbs : Int) else (a + b).natAbs) = a + b := by
      have : ((a + b).natAbs : Int) = 0 := by omega
      rw [this, h0]; simp
    rw [e] at this
    exact this
  · have hz' : ¬ A + B = 0 := fun h => h0 (hz.1 h)
    rw [if_neg hz']
    have := isInt_nearest (decide (A + B < 0)) (a + b).natAbs (-g).toNat g hab (by omega) (fun _ => rfl)
    have e : (if decide (A + B < 0) = true then -((a + b).natAbs : Int) else (a + b).natAbs) = a + b := by
      by_cases h : a + b < 0
      · have h' := hlt.2 h
        simp only [h', decide_true, if_true]; omega
      · have h' : ¬ A + B < 0 := fun x => h (hlt.1 x)
        simp only [h', decide_false]; simp; omega
    rw [e] at this
    exact this

theorem add_int {x y : Nat} {a b : Int} (hx : IsInt x a) (hy : IsInt y b) (hab : (a + b).natAbs < 2 ^ 53) :
    ∃ r, floatBits .add .f64 x y = some r ∧ IsInt r (a + b) := by
  obtain ⟨s, m, i, h1, h2, h3, h4⟩ := hx
  obtain ⟨t, n, j, k1, k2, k3, k4⟩ := hy
  obtain ⟨d, hd, hi⟩ := isInt_sum h2 h3 k2 k3 h4 k4 hab
  refine ⟨double.write d, ?_, hi⟩
  show ((double.read x).sum (double.read y)).map double.write = _
  rw [h1, k1, hd]; rfl

theorem sub_int {x y : Nat} {a b : Int} (hx : IsInt x a) (hy : IsInt y b) (hab : (a - b).natAbs < 2 ^ 53) :
    ∃ r, floatBits .sub .f64 x y = some r ∧ IsInt r (a - b) := by
  obtain ⟨s, m, i, h1, h2, h3, h4⟩ := hx
  obtain ⟨t, n, j, k1, k2, k3, k4⟩ := hy
  have k5 : signed (!t) n (j + 1074).toNat = (-b) * U := by
    rw [signed_eq] at k4 ⊢
    rw [Int.neg_mul, ← k4]; cases t <;> simp
  obtain ⟨d, hd, hi⟩ := isInt_sum h2 h3 k2 k3 h4 k5 (by rw [← Int.sub_eq_add_neg]; exact hab)
  refine ⟨double.write d, ?_, by rw [Int.sub_eq_add_neg]; exact hi⟩
  show ((double.read x).sum (double.read y).opposite).map double.write = _
  rw [h1, k1]
  show ((Datum.number s m i).sum (Datum.number (!t) n j)).map double.write = _
  rw [hd]; rfl

/-- What a float compares with a whole number as not below and not above is a number. -/
theorem val_of_bounds {x lo hi : Nat} {a b : Int} (hlo : IsInt lo a) (hhi : IsInt hi b)
    (h1 : double.order lo x = some .lt ∨ double.order lo x = some .eq) (h2 : double.order x hi = some .lt ∨ double.order x hi = some .eq) :
    ∃ v, Val x v ∧ a * U ≤ v ∧ v ≤ b * U := by
  have hnum : ∃ s m e, double.read x = .number s m e ∧ -1074 ≤ e := by
    obtain ⟨s, m, i, l1, _, _, _⟩ := hlo
    obtain ⟨t, n, j, k1, _, _, _⟩ := hhi
    unfold Format.order at h1 h2
    rw [l1] at h1
    rw [k1] at h2
    have hread : double.read x = double.read x := rfl
    cases hr : double.read x with
    | number s m e =>
      refine ⟨s, m, e, rfl, ?_⟩
      unfold Format.read at hr
      simp only [dbl_least] at hr
      split at hr
      · cases hr; omega
      · split at hr
        · cases hr; omega
        · split at hr <;> cases hr
    | infinity sg =>
      rw [hr] at h1 h2
      cases sg <;> simp [Datum.order] at h1 h2
    | nan sg f =>
      rw [hr] at h1 h2
      simp [Datum.order] at h1
  obtain ⟨s, m, e, hr, he⟩ := hnum
  have hv : Val x (signed s m (e + 1074).toNat) := ⟨s, m, e, hr, he, rfl⟩
  refine ⟨_, hv, ?_, ?_⟩
  · rw [order_val hlo.val hv] at h1
    simp only [Option.some.injEq] at h1
    rcases h1 with h | h
    · exact Int.le_of_lt (Int.compare_eq_lt.1 h)
    · exact Int.le_of_eq (Int.compare_eq_eq.1 h)
  · rw [order_val hv hhi.val] at h2
    simp only [Option.some.injEq] at h2
    rcases h2 with h | h
    · exact Int.le_of_lt (Int.compare_eq_lt.1 h)
    · exact Int.le_of_eq (Int.compare_eq_eq.1 h)

theorem cut_zero (s : Bool) (n d : Nat) : Toward.zero.cut s n d = n / 2 ^ d := by
  unfold Toward.cut
  simp only [shl, Nat.one_mul, Bool.toNat_false, Nat.add_zero]
  by_cases h : d ≤ n.log2 + 2
  · rw [Nat.min_eq_left h]
  · rw [Nat.min_eq_right (by omega)]
    have h1 : n < 2 ^ (n.log2 + 1) := Nat.lt_log2_self
    have h2 : 2 ^ (n.log2 + 1) ≤ 2 ^ (n.log2 + 2) := Nat.pow_le_pow_right (by decide) (by omega)
    have h3 : 2 ^ (n.log2 + 2) ≤ 2 ^ d := Nat.pow_le_pow_right (by decide) (by omega)
    rw [Nat.div_eq_of_lt (Nat.lt_of_lt_of_le h1 h2), Nat.div_eq_of_lt (Nat.lt_of_lt_of_le h1 (Nat.le_trans h2 h3))]

theorem div_bounds (m d k : Nat) : ((m / 2 ^ d : Nat) : Int) * (2 ^ d * 2 ^ k) ≤ (m : Int) * 2 ^ k ∧ (m : Int) * 2 ^ k < (((m / 2 ^ d : Nat) : Int) + 1) * (2 ^ d * 2 ^ k) := by
  have hp : 0 < 2 ^ d := Nat.two_pow_pos d
  have h1 : m / 2 ^ d * 2 ^ d ≤ m := Nat.div_mul_le_self m (2 ^ d)
  have h2 : m < (m / 2 ^ d + 1) * 2 ^ d := by
    have := Nat.lt_div_mul_add (a := m) hp
    rw [Nat.add_mul, Nat.one_mul]; exact this
  have k0 : (0 : Int) < 2 ^ k := Int.pow_pos (by decide)
  have h1' : ((m / 2 ^ d : Nat) : Int) * 2 ^ d ≤ m := by rw [← nat_pow]; exact Int.ofNat_le.2 h1
  have h2' : (m : Int) < (((m / 2 ^ d : Nat) : Int) + 1) * 2 ^ d := by
    have : ((m / 2 ^ d + 1 : Nat) : Int) = ((m / 2 ^ d : Nat) : Int) + 1 := rfl
    rw [← this, ← nat_pow]; exact Int.ofNat_lt.2 h2
  rw [← Int.mul_assoc, ← Int.mul_assoc]
  exact ⟨Int.mul_le_mul_of_nonneg_right h1' (Int.le_of_lt k0), Int.mul_lt_mul_of_pos_right h2' k0⟩

/-- A number that is not below nought, cut towards nought. -/
theorem toInt_val {x : Nat} {v : Int} (hx : Val x v) (h0 : 0 ≤ v) : ∃ n : Nat, (double.read x).toInt .zero = some (n : Int) ∧ (n : Int) * U ≤ v ∧ v < ((n : Int) + 1) * U := by
  obtain ⟨s, m, e, h1, h2, h3⟩ := hx
  rw [h1]
  simp only [Datum.toInt, Datum.integral, shl, cut_zero]
  have hs : s = false ∨ m = 0 := by
    cases s
    · exact Or.inl rfl
    · right
      rw [signed_eq] at h3
      have hp : (0 : Int) < 2 ^ (e + 1074).toNat := Int.pow_pos (by decide)
      rcases Nat.eq_zero_or_pos m with h | h
      · exact h
      · have : (0 : Int) < (m : Int) * 2 ^ (e + 1074).toNat := Int.mul_pos (by omega) hp
        simp only [if_true] at h3
        omega
  have hv : v = (m : Int) * 2 ^ (e + 1074).toNat := by
    rw [← h3, signed_eq]
    rcases hs with h | h
    · rw [h]; simp
    · rw [h]; simp
  by_cases he : 0 ≤ e
  · refine ⟨m * 2 ^ e.toNat, ?_, ?_⟩
    · have e0 : (-e).toNat = 0 := by omega
      rw [e0, Nat.pow_zero, Nat.div_one, signed_eq]
      rcases hs with h | h
      · rw [h]; simp
      · rw [h]; simp
    · have : v = ((m * 2 ^ e.toNat : Nat) : Int) * U := by
        rw [hv, ← U_mul]; congr 2; omega
      rw [this]
      have := U_pos
      exact ⟨Int.le_refl _, Int.mul_lt_mul_of_pos_right (by omega) this⟩
  · have e0 : e.toNat = 0 := by omega
    refine ⟨m / 2 ^ (-e).toNat, ?_, ?_⟩
    · rw [e0, Nat.pow_zero, Nat.mul_one, signed_eq]
      rcases hs with h | h
      · rw [h]; simp
      · rw [h]; simp
    · rw [hv, U_split e (by omega) h2]
      exact div_bounds m (-e).toNat (e + 1074).toNat

theorem lt_of_mulU {a b : Int} (h : a * U < b * U) : a < b := Int.lt_of_mul_lt_mul_right h (Int.le_of_lt U_pos)
theorem le_of_mulU {a b : Int} (h : a * U ≤ b * U) : a ≤ b := Int.le_of_mul_le_mul_right h U_pos
theorem eq_of_mulU {a b : Int} (h : a * U = b * U) : a = b := Int.eq_of_mul_eq_mul_right (by have := U_pos; omega) h

theorem toIntVal_of {x : Nat} {v b : Int} (hx : Val x v) (h0 : 0 ≤ v) (h1 : v ≤ b * U) (hb : b < 4611686018427387904) :
    ∃ n : Int, floatToIntVal .f64 x .i64 = some n ∧ 0 ≤ n ∧ n ≤ b ∧ n * U ≤ v ∧ v < (n + 1) * U := by
  obtain ⟨n, h2, h3, h4⟩ := toInt_val hx h0
  have hn : (n : Int) ≤ b := le_of_mulU (Int.le_trans h3 h1)
  refine ⟨n, ?_, by omega, hn, h3, h4⟩
  have h5 : (FloatKind.f64.decode x).toInt .zero = some (n : Int) := h2
  have h6 : IntKind.i64.min = -9223372036854775808 := by decide
  have h7 : IntKind.i64.max = 9223372036854775807 := by decide
  unfold floatToIntVal
  rw [h5]
  simp only [h6, h7]
  rw [if_pos (by omega)]

end Go.Proofs.YtfpgfclmmdihjaaGreat.Flo

/- What each function of the stamp layer, and of the document's answer for it, gives. -/
namespace Go.Proofs.YtfpgfclmmdihjaaGreat
open Go.RowKit

def rightB (C D : Int) : Bool := decide (0 ≤ C ∧ C ≤ 1099511627776 ∧ 0 ≤ D ∧ D < 12)
theorem rightB_of {C D : Int} {b : Bool} (h : b = true ↔ (0 ≤ C ∧ C ≤ 1099511627776 ∧ 0 ≤ D ∧ D < 12)) : Value.bool b = .bool (rightB C D) := by
  unfold rightB; congr 1; rw [Bool.eq_iff_iff, h, decide_eq_true_iff]




theorem stRight_any (C D : Int) (w : World) : Calls Tryz.prog 94 #[.agg #[.int .i64 C, .int .i64 D]] w fun e w' => e = .returned (.bool (rightB C D)) ∧ Below w.heap.size w w' := by
  by_cases h : 0 ≤ C ∧ C ≤ 1099511627776 ∧ 0 ≤ D ∧ D < 12
  · obtain ⟨h1, h2, h3, h4⟩ := h
    go_enter Tryz.func94, Tryz.ntmps94
    go_wp2
    go_ret
    exact ⟨ret_of (rightB_of (by simp; omega)), by go_grown⟩
  · go_enter Tryz.func94, Tryz.ntmps94
    go_wp2
    all_goals go_ret
    all_goals exact ⟨ret_of (rightB_of (by simp; omega)), by go_grown⟩

theorem stRefRight_any (C D : Int) (w : World) : Calls Tryz.prog 89 #[.agg #[.int .i64 C, .int .i64 D]] w fun e w' => e = .returned (.bool (rightB C D)) ∧ Below w.heap.size w w' := by
  by_cases h : 0 ≤ C ∧ C ≤ 1099511627776 ∧ 0 ≤ D ∧ D < 12
  · obtain ⟨h1, h2, h3, h4⟩ := h
    go_enter Tryz.func89, Tryz.ntmps89
    go_wp2
    go_ret
    exact ⟨ret_of (rightB_of (by simp; omega)), by go_grown⟩
  · go_enter Tryz.func89, Tryz.ntmps89
    go_wp2
    all_goals go_ret
    all_goals exact ⟨ret_of (rightB_of (by simp; omega)), by go_grown⟩

/-- The number of a moment. -/
def numOf (C D : Int) : Value := .complex .f64 (floatOfInt .f64 C) (floatOfInt .f64 D)

theorem to_yes (C D : Int) (w : World) (h : rightB C D = true) : Calls Tryz.prog 82 #[.agg #[.int .i64 C, .int .i64 D]] w fun e w' => e = .returned (.tuple #[numOf C D, .bool true]) ∧ Below w.heap.size w w' := by
  have H := Lib.hid h
  clear h
  go_enter Tryz.func82, Tryz.ntmps82
  go_wp2_with (go_at_call 94; refine (stRight_any C D _).mono ?_; rintro e w1 ⟨rfl, hb⟩; rw [H.out]; obtain ⟨hc, hf⟩ := bcell hb)
  go_ret2
  exact ⟨rfl, below_then (below_alloc (Below.refl _ _) _) hb⟩

theorem to_no (C D : Int) (w : World) (h : rightB C D = false) : Calls Tryz.prog 82 #[.agg #[.int .i64 C, .int .i64 D]] w fun e w' => e = .returned (.tuple #[.complex .f64 0 0, .bool false]) ∧ Below w.heap.size w w' := by
  have H := Lib.hid h
  clear h
  go_enter Tryz.func82, Tryz.ntmps82
  go_wp2_with (go_at_call 94; refine (stRight_any C D _).mono ?_; rintro e w1 ⟨rfl, hb⟩; rw [H.out]; obtain ⟨hc, hf⟩ := bcell hb)
  go_ret2
  exact ⟨rfl, below_then (below_alloc (Below.refl _ _) _) hb⟩

/-- x is not below nought and not above m. -/
def leB (x y : Nat) : Bool := FloatKind.f64.format.order x y == some .lt || FloatKind.f64.format.order x y == some .eq
def wiB (x m : Nat) : Bool := leB 0 x && leB x m

end Go.Proofs.YtfpgfclmmdihjaaGreat

/- What From, Next and Before give. -/
namespace Go.Proofs.YtfpgfclmmdihjaaGreat
open Go.RowKit

/-- A moment of that number. -/
structure IsM (re im : Nat) (C D : Int) : Prop where
  vr : Flo.Val re (C * Flo.U)
  vi : Flo.Val im (D * Flo.U)
  ok : rightB C D = true

theorem rightB_iff {C D : Int} : rightB C D = true ↔ (0 ≤ C ∧ C ≤ 1099511627776 ∧ 0 ≤ D ∧ D < 12) := by unfold rightB; exact decide_eq_true_iff

theorem isInt_c0 : Flo.IsInt 0 0 := Flo.isInt_ofInt 0 (by decide)
theorem isInt_max : Flo.IsInt 4787326403894837248 1099511627776 := Flo.isInt_ofInt 1099511627776 (by decide)
theorem isInt_11 : Flo.IsInt 4622382067542392832 11 := Flo.isInt_ofInt 11 (by decide)
theorem isInt_12 : Flo.IsInt 4622945017495814144 12 := Flo.isInt_ofInt 12 (by decide)

theorem leB_int {x y : Nat} {a b : Int} (hx : Flo.Val x a) (hy : Flo.Val y b) : leB x y = decide (a ≤ b) := by
  have h : FloatKind.f64.format.order x y = some (compare a b) := Flo.order_val hx hy
  unfold leB
  rw [h]
  rcases Int.lt_trichotomy a b with h1 | h1 | h1
  · rw [Int.compare_eq_lt.2 h1]; simp; omega
  · rw [Int.compare_eq_eq.2 h1]; simp; omega
  · rw [Int.compare_eq_gt.2 h1]; simp; omega

theorem leB_or {x y : Nat} (h : leB x y = true) : Ieee.double.order x y = some .lt ∨ Ieee.double.order x y = some .eq := by
  unfold leB at h
  simp only [Bool.or_eq_true, beq_iff_eq] at h
  exact h

/-- A float that lies between nought and a whole number. -/
theorem wi_val {x m : Nat} {b : Int} (hm : Flo.IsInt m b) (h : wiB x m = true) : ∃ v, Flo.Val x v ∧ 0 ≤ v ∧ v ≤ b * Flo.U := by
  unfold wiB at h
  simp only [Bool.and_eq_true] at h
  obtain ⟨v, h1, h2, h3⟩ := Flo.val_of_bounds isInt_c0 hm (leB_or h.1) (leB_or h.2)
  exact ⟨v, h1, by omega, h3⟩

theorem wi_of {x m : Nat} {a b : Int} (hm : Flo.IsInt m b) (hx : Flo.Val x (a * Flo.U)) (h0 : 0 ≤ a) (h1 : a ≤ b) : wiB x m = true := by
  unfold wiB
  have hU := Flo.U_pos
  rw [leB_int isInt_c0.val hx, leB_int hx hm.val, Bool.and_eq_true, decide_eq_true_iff, decide_eq_true_iff]
  exact ⟨Int.mul_le_mul_of_nonneg_right h0 (by omega), Int.mul_le_mul_of_nonneg_right h1 (by omega)⟩

theorem order_eq {x y : Nat} {a b : Int} (hx : Flo.Val x a) (hy : Flo.Val y b) : FloatKind.f64.format.order x y = some .eq ↔ a = b := by
  have h : FloatKind.f64.format.order x y = some (compare a b) := Flo.order_val hx hy
  rw [h, Option.some.injEq]
  exact Int.compare_eq_eq

theorem trunc_exact {x : Nat} {a b : Int} (hx : Flo.Val x (a * Flo.U)) (h0 : 0 ≤ a) (h1 : a ≤ b) (hb : b < 4611686018427387904) : floatToIntVal .f64 x .i64 = some a := by
  have hU := Flo.U_pos
  obtain ⟨n, h2, _, _, h5, h6⟩ := Flo.toIntVal_of hx (Int.mul_nonneg h0 (by omega)) (Int.mul_le_mul_of_nonneg_right h1 (by omega)) hb
  have a1 := Flo.le_of_mulU h5
  have a2 := Flo.lt_of_mulU h6
  rw [h2]; congr 1; omega

theorem val_fun {x : Nat} {a b : Int} (h : Flo.Val x a) (k : Flo.Val x b) : a = b := by
  obtain ⟨s, m, e, h1, h2, h3⟩ := h
  obtain ⟨t, n, f, k1, k2, k3⟩ := k
  rw [h1] at k1
  cases k1
  rw [← h3, ← k3]

end Go.Proofs.YtfpgfclmmdihjaaGreat

/- What Next and Before give, and the document's answers. -/
namespace Go.Proofs.YtfpgfclmmdihjaaGreat
open Go.RowKit

theorem isInt_one : Flo.IsInt 4607182418800017408 1 := Flo.isInt_ofInt 1 (by decide)

theorem is_next (C D : Int) (re im : Nat) (h : rightB C D = true) (h2 : C < 1099511627776) (hs : cSumBits .add .f64 (floatOfInt .f64 C) (floatOfInt .f64 D) 4607182418800017408 0 = some (re, im)) : IsM re im (C + 1) D := by
  have hr := rightB_iff.1 h
  obtain ⟨a, a1, a2⟩ := Flo.add_int (Flo.isInt_ofInt C (by omega)) isInt_one (by omega)
  obtain ⟨b, b1, b2⟩ := Flo.add_int (Flo.isInt_ofInt D (by omega)) isInt_c0 (by omega)
  simp only [cSumBits, a1, b1, Option.bind_some, Option.some.injEq, Prod.mk.injEq] at hs
  obtain ⟨rfl, rfl⟩ := hs
  rw [Int.add_zero] at b2
  exact ⟨a2.val, b2.val, rightB_iff.2 (by omega)⟩

theorem none_next (C D : Int) (re im : Nat) (h : rightB C D = true) (h2 : ¬ C < 1099511627776) (hs : cSumBits .add .f64 (floatOfInt .f64 C) (floatOfInt .f64 D) 4607182418800017408 0 = some (re, im)) (A B : Int) : ¬ IsM re im A B := by
  have hr := rightB_iff.1 h
  obtain ⟨a, a1, a2⟩ := Flo.add_int (Flo.isInt_ofInt C (by omega)) isInt_one (by omega)
  obtain ⟨b, b1, b2⟩ := Flo.add_int (Flo.isInt_ofInt D (by omega)) isInt_c0 (by omega)
  simp only [cSumBits, a1, b1, Option.bind_some, Option.some.injEq, Prod.mk.injEq] at hs
  obtain ⟨rfl, rfl⟩ := hs
  rintro ⟨h3, h4, h5⟩
  have := Flo.eq_of_mulU (val_fun h3 a2.val)
  have := rightB_iff.1 h5
  omega

theorem has_next (C D : Int) (h : rightB C D = true) : ∃ re im, cSumBits .add .f64 (floatOfInt .f64 C) (floatOfInt .f64 D) 4607182418800017408 0 = some (re, im) := by
  have hr := rightB_iff.1 h
  obtain ⟨a, a1, a2⟩ := Flo.add_int (Flo.isInt_ofInt C (by omega)) isInt_one (by omega)
  obtain ⟨b, b1, b2⟩ := Flo.add_int (Flo.isInt_ofInt D (by omega)) isInt_c0 (by omega)
  exact ⟨a, b, by simp only [cSumBits, a1, b1, Option.bind_some]⟩

/-- The answer of Next, and the document's: some (c + 1, dev), or none. -/
def nextC (C D : Int) : Int := if rightB C D && decide (C < 1099511627776) then C + 1 else 0
def nextD (C D : Int) : Int := if rightB C D && decide (C < 1099511627776) then D else 0
def nextB (C D : Int) : Bool := rightB C D && decide (C < 1099511627776)

end Go.Proofs.YtfpgfclmmdihjaaGreat
