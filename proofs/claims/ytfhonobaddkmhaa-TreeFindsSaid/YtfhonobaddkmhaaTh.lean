/- A list of places of the call's own: what append makes of it. Grow and Concat of the library. -/
import Derived.Test.YtfhonobaddkmhaaTb
import Derived.Maps.AppendAt
import Derived.Laws.OwnMore
import Derived.Lib.AppendZeros
namespace Go.Proofs.Ytfhonobaddkmhaa
open Go.RowKit Tre

def plCells : List Pl → List Value
  | [] => []
  | p :: l => .int .i64 p.n :: .int .i64 p.u :: .string p.s :: plCells l
theorem plCells_len : ∀ l, (plCells l).length = l.length * 3
  | [] => rfl
  | p :: l => by simp only [plCells, List.length_cons, plCells_len l]; omega
theorem plCells_app : ∀ l r, plCells (l ++ r) = plCells l ++ plCells r
  | [], r => rfl
  | p :: l, r => by simp only [plCells, List.cons_append, plCells_app l r]
theorem plCells_one : ∀ (l : List Pl), ∀ u ∈ plCells l, u.oneCell' = true
  | [], u, h => by cases h
  | p :: l, u, h => by
    simp only [plCells, List.mem_cons] at h
    rcases h with rfl | rfl | rfl | h
    · rfl
    · rfl
    · rfl
    · exact plCells_one l u h
theorem plCells_at : ∀ (l : List Pl) (i : Nat) (h : i < l.length), (plCells l)[i * 3]? = some (.int .i64 l[i].n) ∧ (plCells l)[i * 3 + 1]? = some (.int .i64 l[i].u) ∧ (plCells l)[i * 3 + 2]? = some (.string l[i].s)
  | p :: l, 0, _ => ⟨rfl, rfl, rfl⟩
  | p :: l, i + 1, h => by
    have := plCells_at l i (by simpa using h)
    rw [show (i + 1) * 3 = i * 3 + 3 by omega]
    exact this
theorem plCells_get : ∀ (l : List Pl) (j : Nat) (u : Value), (plCells l)[j]? = some u → ∃ i, ∃ h : i < l.length, (j = i * 3 ∧ u = .int .i64 l[i].n) ∨ (j = i * 3 + 1 ∧ u = .int .i64 l[i].u) ∨ (j = i * 3 + 2 ∧ u = .string l[i].s)
  | [], j, u, h => by simp [plCells] at h
  | p :: l, 0, u, h => ⟨0, by simp, Or.inl ⟨rfl, by simpa [plCells] using h.symm⟩⟩
  | p :: l, 1, u, h => ⟨0, by simp, Or.inr (Or.inl ⟨rfl, by simpa [plCells] using h.symm⟩)⟩
  | p :: l, 2, u, h => ⟨0, by simp, Or.inr (Or.inr ⟨rfl, by simpa [plCells] using h.symm⟩)⟩
  | p :: l, j + 3, u, h => by
    obtain ⟨i, hi, hc⟩ := plCells_get l j u h
    refine ⟨i + 1, by simpa using hi, ?_⟩
    rcases hc with ⟨e, hu⟩ | ⟨e, hu⟩ | ⟨e, hu⟩
    · exact Or.inl ⟨by omega, by simpa using hu⟩
    · exact Or.inr (Or.inl ⟨by omega, by simpa using hu⟩)
    · exact Or.inr (Or.inr ⟨by omega, by simpa using hu⟩)

/-- The slice v holds these places, in a row that the call has made. -/
def Own (w : World) (B : Nat) (v : Value) (l : List Pl) : Prop := w.ownsRow B 24 3 v l.length (plCells l)
theorem Own.nil (w : World) (B : Nat) : Own w B (.slice none 0 0) [] := World.ownsRow_nil w B 24 3
theorem Own.kept {w w' : World} {B : Nat} {v : Value} {l : List Pl} {row : Option Nat} (h : Own w B v l) (hg : w.grownBy w' row) (hne : v.ownBlock = none ∨ v.ownBlock ≠ row) : Own w' B v l := World.ownsRow.kept h hg hne
theorem Own.below {w w' : World} {B : Nat} {v : Value} {l : List Pl} (h : Own w B v l) (hb : Below w.heap.size w w') : Own w' B v l :=
  World.ownsRow.kept h (row := none) ⟨hb.os, hb.tape, hb.output, hb.size, fun k hk _ => hb.block k hk⟩ (by cases hv : v.ownBlock <;> simp)
theorem add_lit (b o j : Nat) : (⟨b, o, none⟩ : Addr).add j = ⟨b, o + j, none⟩ := Addr.add_lit b o j
theorem Own.tr {w : World} {B : Nat} {v : Value} {l : List Pl} (h : Own w B v l) : ∃ A cap, v = .slice A l.length cap ∧ Tr w A l ∧ (A = none → cap = 0) ∧ l.length ≤ cap := by
  have hc := fun g (hg : v.ownBlock = some g) => World.ownsRow.cells h hg
  have hlt := World.ownsRow.lt h
  unfold Own at h
  rcases h.2 with ⟨rfl, h0⟩ | ⟨g, cap, cur, rfl, _, _, hnc, _⟩
  · have : l = [] := List.eq_nil_of_length_eq_zero h0
    subst this
    exact ⟨none, 0, rfl, Tr.nil w none, fun _ => rfl, Nat.le_refl _⟩
  · refine ⟨some ⟨g, 0, none⟩, cap, rfl, fun _ => ⟨g, 0, rfl, (hlt g rfl).2, fun i hi => ?_⟩, (fun e => by cases e), hnc⟩
    obtain ⟨h0, h1, h2⟩ := plCells_at l i hi
    have k0 := hc g rfl _ _ h0
    have k1 := hc g rfl _ _ h1
    have k2 := hc g rfl _ _ h2
    rw [add_lit] at k0 k1 k2
    exact ⟨k0, k1, k2⟩
theorem Tr.cells {w : World} {a : Addr} {l : List Pl} (h : Tr w (some a) l) : ∀ j u, (plCells l)[j]? = some u → w.cell? (a.add j) = some u := by
  intro j u hu
  obtain ⟨i, hi, hc⟩ := plCells_get l j u hu
  obtain ⟨b, off, e, _, hat⟩ := h (by omega)
  obtain rfl := Option.some.inj e
  obtain ⟨a0, a1, a2⟩ := hat i hi
  rw [add_lit]
  rcases hc with ⟨rfl, rfl⟩ | ⟨rfl, rfl⟩ | ⟨rfl, rfl⟩
  · exact a0
  · exact a1
  · exact a2
theorem Tr.none_nil {w : World} {l : List Pl} (h : Tr w none l) : l = [] := by
  rcases Nat.eq_zero_or_pos l.length with h0 | h0
  · exact List.eq_nil_of_length_eq_zero h0
  · obtain ⟨_, _, e, _⟩ := h h0; cases e

theorem pl_info : (Try.prog.info? 24).map (fun i => (i.zero, i.size, i.bytes)) = some (some (.agg #[.int .i64 0, .int .i64 0, .string ⟨#[]⟩]), 3, 32) := by kernel_rfl

theorem run_app (w : World) (ty : TypeId) (B : Nat) (v : Value) (l r : List Pl) (hown : Own w B v l) (A : Option Addr) (m c : Nat) (hm : r.length = m) (hT : Tr w A r) (hc : A = none → c = 0) (hl : l.length + r.length ≤ 1000) (hB : B ≤ w.heap.size) :
    ∃ v' w', (Builtin.append_ #[22, 22] ty #[v, .slice A m c]).run Try.prog w = .ok v' w' ∧ Own w' B v' (l ++ r) ∧ w.grownBy w' v.ownBlock ∧ (v'.ownBlock = v.ownBlock ∨ v'.ownBlock = some w.heap.size) := by
  subst hm
  obtain ⟨i, hi, hz, hz1, hz2⟩ := info_parts pl_info
  cases A with
  | none =>
    obtain rfl := hT.none_nil
    obtain rfl := hc rfl
    refine ⟨v, w, run_append_owned_none (P := Try.prog) (w := w) B 22 ty 24 i 3 Try.underlying22 hi v l.length (plCells l) hown, ?_, ⟨rfl, rfl, rfl, Nat.le_refl _, fun _ _ _ => rfl⟩, Or.inl rfl⟩
    rw [List.append_nil]; exact hown
  | some a =>
    obtain ⟨v', w', h1, h2, h3, _, h5⟩ := run_append_own_at (P := Try.prog) w B 22 ty 24 i _ 3 32 Try.underlying22 hi hz hz1 hz2 rfl (by decide) v l.length (plCells l) hown a r.length c (plCells r) (plCells_len r) hT.cells (plCells_one r) (by unfold maxLen; omega) (by omega) hB
    refine ⟨v', w', h1, ?_, h3, h5⟩
    unfold Own
    rw [List.length_append, plCells_app]; exact h2

theorem wp_app {o : Oper} {a : Act} {w : World} {K : Act → World → Prop} {Q : Exit → Act → World → Prop} (s x : Operand)
    (ho : o.op = .call { callee := .builtin .append, args := #[s, x], argTypes := #[22, 22] }) (B : Nat) (v : Value) (l r : List Pl) (hs : a.eval s = v) (hown : Own w B v l) (A : Option Addr) (m c : Nat) (hx : a.eval x = .slice A m c)
    (hm : r.length = m) (hT : Tr w A r) (hc : A = none → c = 0) (hl : l.length + r.length ≤ 1000) (hB : B ≤ w.heap.size)
    (h : ∀ v' w', Own w' B v' (l ++ r) → w.grownBy w' v.ownBlock → (v'.ownBlock = v.ownBlock ∨ v'.ownBlock = some w.heap.size) → K (a.put o.dst v') w') : o.wp Try.prog a w K Q := by
  obtain ⟨v', w', hr, h2, h3, h4⟩ := run_app w o.type B v l r hown A m c hm hT hc hl hB
  unfold Oper.wp execOp
  simp only [ho, resolve, invoke, builtin, Sem.run_bind, Sem.run_pure, Result.andThen_ok, List.map_toArray, List.map_cons, List.map_nil, hs, hx, hr]
  exact h v' w' h2 h3 h4
theorem wpList_app {ops : Array Oper} {rest : List Oper} {o : Oper} {a : Act} {w : World} {Q : Exit → Act → World → Prop} (hgd : o.guard = none) (s x : Operand)
    (ho : o.op = .call { callee := .builtin .append, args := #[s, x], argTypes := #[22, 22] }) (B : Nat) (v : Value) (l r : List Pl) (hs : a.eval s = v) (hown : Own w B v l) (A : Option Addr) (m c : Nat) (hx : a.eval x = .slice A m c)
    (hm : r.length = m) (hT : Tr w A r) (hc : A = none → c = 0) (hl : l.length + r.length ≤ 1000) (hB : B ≤ w.heap.size)
    (h : ∀ v' w', Own w' B v' (l ++ r) → w.grownBy w' v.ownBlock → (v'.ownBlock = v.ownBlock ∨ v'.ownBlock = some w.heap.size) → wpList Try.prog ops Q rest (a.put o.dst v') w') : wpList Try.prog ops Q (o :: rest) a w :=
  wpList_plain hgd fun _ hK => wp_app s x ho B v l r hs hown A m c hx hm hT hc hl hB fun v' w' h2 h3 h4 => hK _ _ (h v' w' h2 h3 h4)

set_option maxRecDepth 100000 in
theorem grow_any (B n : Nat) (w : World) (hn : n ≤ 1000) (hB : B ≤ w.heap.size) :
    Calls Try.prog 55 #[.slice none 0 0, .int .i64 n] w fun e w' => ∃ v, e = .returned v ∧ Own w' B v [] ∧ Below w.heap.size w w' := by
  by_cases h0 : n = 0
  · subst h0
    go_enter Try.func55, Try.ntmps55
    go_wp2
    go_ret
    exact ⟨_, rfl, Own.nil _ B, Below.refl _ _⟩
  · obtain ⟨i, hi, hz, hz1, hz2⟩ := info_parts pl_info
    have hr := fun ty => Lib.run_append_nil_zeros (P := Try.prog) w 22 3 ty 24 i _ .i64 .i64 Try.underlying22 Try.underlying3 hi hz n (by omega) (by omega) (by omega) (by rw [hz2]; omega)
    have hg1 : n ≤ grownCap w n 0 24 := grownCap_ge w n 0 24
    have hg2 : grownCap w n 0 24 ≤ maxLen := grownCap_le_maxLen w n 0 24 (by unfold maxLen; omega)
    have hown : Own (w.drew.alloc (.cells (Builtin.zeroCells (Value.agg #[.int .i64 0, .int .i64 0, .string ⟨#[]⟩]).cells n ++ Builtin.zeroCells (Value.agg #[.int .i64 0, .int .i64 0, .string ⟨#[]⟩]).cells (grownCap w n 0 24 - n)) 24)) B (.slice (some ⟨w.heap.size, 0, none⟩) 0 (grownCap w n 0 24)) [] := by
      refine World.ownsRow_made w.drew _ (grownCap w n 0 24) hB hg2 ?_
      rw [Array.size_append, size_zeroCells, size_zeroCells]
      show n * 3 + (grownCap w n 0 24 - n) * 3 = _
      omega
    have hnx : Below w.heap.size w (w.drew.alloc (.cells (Builtin.zeroCells (Value.agg #[.int .i64 0, .int .i64 0, .string ⟨#[]⟩]).cells n ++ Builtin.zeroCells (Value.agg #[.int .i64 0, .int .i64 0, .string ⟨#[]⟩]).cells (grownCap w n 0 24 - n)) 24)) := below_alloc (Below.refl _ w).drew _
    generalize grownCap w n 0 24 = cap at *
    generalize w.drew.alloc (.cells (Builtin.zeroCells (Value.agg #[.int .i64 0, .int .i64 0, .string ⟨#[]⟩]).cells n ++ Builtin.zeroCells (Value.agg #[.int .i64 0, .int .i64 0, .string ⟨#[]⟩]).cells (cap - n)) 24) = W at *
    go_enter Try.func55, Try.ntmps55
    go_wp2_with (at_builtin; refine Lib.wpList_append_run _ rfl _ _ 22 3 rfl _ _ rfl rfl _ _ (hr _) ?_)
    go_wp2
    go_ret
    exact ⟨_, rfl, hown, hnx⟩
end Go.Proofs.Ytfhonobaddkmhaa
