/- Texts laid one behind the other: Gf, Tt, Mm, Va, Xg, Xh, Vb, Vc, Vd, Ve, Vf, Vg, Pm, Gr, Vh. -/
import Derived.Test.YtfpgfclmmdihjaaB03
import Derived.Laws.CopyRow
import Derived.Deep.RegionHeld3
import Derived.Lib.SliceRun
import Derived.BigQuiet
import Derived.Deep.QuietTactic
/- Rows of structs, whatever the struct: made, written at a place, built of one. No function of the program in it. -/
namespace Go.Proofs.Ytfpgfclmmdihjaa
open Go.RowKit

section
variable {α : Type} {E : El α}
theorem El.cells_take (l : List α) (i : Nat) (h : i ≤ l.length) : E.cells (l.take i) = (E.cells l).take (i * E.k) := by
  have e : E.cells l = E.cells (l.take i) ++ E.cells (l.drop i) := by rw [← El.cells_app, List.take_append_drop]
  have hl : (E.cells (l.take i)).length = i * E.k := by rw [El.cells_len, List.length_take, Nat.min_eq_left h]
  rw [e]; exact (List.take_left' hl).symm
theorem El.cells_drop (l : List α) (i : Nat) (h : i ≤ l.length) : E.cells (l.drop i) = (E.cells l).drop (i * E.k) := by
  have e : E.cells l = E.cells (l.take i) ++ E.cells (l.drop i) := by rw [← El.cells_app, List.take_append_drop]
  have hl : (E.cells (l.take i)).length = i * E.k := by rw [El.cells_len, List.length_take, Nat.min_eq_left h]
  rw [e]; exact (List.drop_left' hl).symm
theorem El.cells_set (l : List α) (i : Nat) (h : i < l.length) (x : α) : E.cells (l.set i x) = (E.cells l).take (i * E.k) ++ E.c x ++ (E.cells l).drop (i * E.k + E.k) := by
  rw [List.set_eq_take_append_cons_drop, if_pos h, El.cells_app, El.cells, El.cells_take l i (by omega), El.cells_drop l (i + 1) h, Nat.succ_mul, List.append_assoc]
theorem El.cells_rep (x : α) : ∀ n, (E.cells (List.replicate n x)).length = n * E.k := fun n => by rw [El.cells_len, List.length_replicate]
theorem El.made (x : α) (z : Array Value) (hz : z.toList = E.c x) (n : Nat) : (madeCells z (n * E.k)).toList = E.cells (List.replicate n x) := by
  have hzs : z.size = E.k := by rw [← Array.length_toList, hz, E.len]
  have hpos := E.pos
  apply List.ext_getElem?
  intro m
  by_cases hm : m < n * E.k
  · have h1 : m / E.k < n := Nat.div_lt_of_lt_mul (by rw [Nat.mul_comm]; exact hm)
    have h2 : m % E.k < E.k := Nat.mod_lt _ hpos
    have hu : (E.c x)[m % E.k]? = some ((E.c x)[m % E.k]'(by rw [E.len]; exact h2)) := List.getElem?_eq_getElem _
    have h3 := El.cells_at (E := E) (List.replicate n x) (m / E.k) (by simpa using h1) (m % E.k) _ (by rw [List.getElem_replicate]; exact hu)
    rw [Nat.mul_comm, Nat.div_add_mod] at h3
    rw [h3]
    simp only [madeCells, Array.getElem?_toList, Array.getElem?_map, Array.getElem?_range, hm, if_true, Option.map_some, hzs]
    congr 1
    simp only [← hz, Array.getElem_toList]
    exact getElem!_pos z _ (by omega)
  · rw [List.getElem?_eq_none (by rw [Array.length_toList, size_madeCells]; omega), List.getElem?_eq_none (by rw [El.cells_rep]; omega)]

variable {P : Program} {st : TypeId}
/-- make([]T, n). -/
theorem El.wp_make (I : E.Inn P st) (x : α) (hx : ∃ i z, P.info? E.e = some i ∧ i.zero = some z ∧ z.cells.toList = E.c x) {o : Oper} {a : Act} {w : World} {K : Act → World → Prop} {Q : Exit → Act → World → Prop} (lx cx : Operand)
    (ho : o.op = .makeSlice st lx cx) (B n c : Nat) (hl : a.eval lx = .int .i64 n) (hc : a.eval cx = .int .i64 c) (hn : c ≤ 100000) (hnc : n ≤ c) (hB : B ≤ w.heap.size)
    (h : ∀ w', E.Own w' B (.slice (some ⟨w.heap.size, 0, none⟩) n c) (List.replicate n x) → w.grownBy w' none → w.heap.size < w'.heap.size → K (a.put o.dst (.slice (some ⟨w.heap.size, 0, none⟩) n c)) w') : o.wp P a w K Q := by
  obtain ⟨hu, i, z, hi, hz, hsz, hby, hzs⟩ := I
  obtain ⟨i', z', hi', hz', hzc⟩ := hx
  rw [hi] at hi'; cases hi'
  rw [hz] at hz'; cases hz'
  have hb : i.bytes * c ≤ 1000 * 100000 := Nat.mul_le_mul hby hn
  have hb' : (i.bytes : Int) * (c : Int) ≤ 281474976710656 := by
    have h : ((i.bytes * c : Nat) : Int) ≤ 281474976710656 := by omega
    rwa [Int.natCast_mul] at h
  have hr := run_make (P := P) w st E.e i z hu hi hz .i64 .i64 n c (by omega) (by omega) hb' (by omega)
  simp only [Int.toNat_natCast] at hr
  unfold Oper.wp execOp
  simp only [ho, hl, hc, Sem.run_bind, Sem.run_pure, Result.andThen_ok, hr]
  refine h _ ⟨by rw [List.length_replicate, El.cells_rep], .inr ⟨w.heap.size, c, _, ?_, hB, heap_alloc_new w _, ?_, by unfold maxLen; omega, ?_, ?_⟩⟩ (World.grownBy_alloc w _ none) (by simp)
  · rw [List.length_replicate]
  · rw [List.length_replicate]; exact hnc
  · rw [size_madeCells, hsz]
  · rw [hsz, El.made x z.cells hzc c, List.length_replicate, ← El.cells_rep (E := E) x n]
    obtain ⟨d, rfl⟩ : ∃ d, c = n + d := ⟨c - n, by omega⟩
    rw [← List.replicate_append_replicate, El.cells_app]
    exact List.take_left
theorem El.wpList_make (I : E.Inn P st) (x : α) (hx : ∃ i z, P.info? E.e = some i ∧ i.zero = some z ∧ z.cells.toList = E.c x) {ops : Array Oper} {rest : List Oper} {o : Oper} {a : Act} {w : World} {Q : Exit → Act → World → Prop} (hgd : o.guard = none) (lx cx : Operand)
    (ho : o.op = .makeSlice st lx cx) (B n c : Nat) (hl : a.eval lx = .int .i64 n) (hc : a.eval cx = .int .i64 c) (hn : c ≤ 100000) (hnc : n ≤ c) (hB : B ≤ w.heap.size)
    (h : ∀ w', E.Own w' B (.slice (some ⟨w.heap.size, 0, none⟩) n c) (List.replicate n x) → w.grownBy w' none → w.heap.size < w'.heap.size → wpList P ops Q rest (a.put o.dst (.slice (some ⟨w.heap.size, 0, none⟩) n c)) w') : wpList P ops Q (o :: rest) a w :=
  wpList_plain hgd fun _ hK => El.wp_make I x hx lx cx ho B n c hl hc hn hnc hB fun w' h1 h2 h3 => hK _ _ (h w' h1 h2 h3)

/-- s[i] = x, in a row of the call's own. -/
theorem El.wp_setAt (R : El.Row E P) {o : Oper} {a : Act} {w : World} {K : Act → World → Prop} {Q : Exit → Act → World → Prop} (x y : Operand) (ho : o.op = .store E.e x y)
    (B g cap i : Nat) (l : List α) (q : α) (hown : E.Own w B (.slice (some ⟨g, 0, none⟩) l.length cap) l) (hi : i < l.length) (cs : Array Value) (hcs : cs = (E.c q).toArray) (hx : a.eval x = .pointer (some ⟨g, i * E.k, none⟩)) (hy : a.eval y = .agg cs)
    (h : ∀ w', E.Own w' B (.slice (some ⟨g, 0, none⟩) l.length cap) (l.set i q) → w.grownBy w' (some g) → w'.heap.size = w.heap.size → K (a.put o.dst undef) w') : o.wp P a w K Q := by
  subst hcs
  unfold El.Own at hown
  rcases hown.2 with ⟨h', _⟩ | ⟨g', cap', cur, h', hb, hg, hnc, hcm, hcsz, htake⟩
  · simp at h'
  · simp only [Value.slice.injEq, Option.some.injEq, Addr.mk.injEq, and_true, true_and] at h'
    obtain ⟨rfl, rfl⟩ := h'
    have hlen := hown.1
    have hik : i * E.k + E.k ≤ l.length * E.k := by rw [← Nat.succ_mul]; exact Nat.mul_le_mul_right _ hi
    have hck : l.length * E.k ≤ cap * E.k := Nat.mul_le_mul_right _ hnc
    have hs := run_storeCells_at (P := P) g (i * E.k) E.e (E.c q) 0 cur w hg (by rw [E.len]; omega) (E.one q)
    have hsz : ((E.c q).toArray).size = E.k := by simp [E.len]
    have hv : (storeVar E.e ⟨g, i * E.k, none⟩ (.agg (E.c q).toArray)).run P w = .ok () (w.setRow g (cur.toList.take (i * E.k) ++ E.c q ++ cur.toList.drop (i * E.k + E.k)).toArray) := by
      have hR := R.size
      cases hq : P.info? E.e with
      | none => simp [hq] at hR
      | some inf =>
        have hinf : inf.size = E.k := by simpa [hq] using hR
        simp only [Nat.add_zero, E.len] at hs
        simp [storeVar, sizeOf, typeInfo, hq, Value.cells, hinf, E.len, hs]
    unfold Oper.wp execOp
    simp only [ho, hx, hy, Instr.storeAt, Instr.sureAddr, Sem.run_bind, Sem.run_pure, Result.andThen_ok, hv]
    refine h _ ⟨by rw [List.length_set, El.cells_len, List.length_set], .inr ⟨g, cap, _, by rw [List.length_set], hb, setRow_heap w g cur _ E.e (0, 0) hg, by rw [List.length_set]; exact hnc, hcm, ?_, ?_⟩⟩ ⟨rfl, rfl, rfl, by simp, fun k _ hk => setRow_other w g k _ (fun e => hk (by simp [e]))⟩ (by simp)
    · simp only [List.size_toArray, List.length_append, List.length_take, List.length_drop, Array.length_toList, E.len]; omega
    · rw [List.length_set, El.cells_set l i hi q, ← htake]
      have hcl : cur.toList.length = cap * E.k := by rw [Array.length_toList, hcsz]
      generalize cur.toList = C at *
      simp only [List.toList_toArray]
      rw [List.take_take, Nat.min_eq_left (by omega), List.drop_take]
      have e1 : (C.take (i * E.k)).length = i * E.k := by rw [List.length_take]; omega
      have e2 : (C.take (i * E.k) ++ E.c q).length = i * E.k + E.k := by rw [List.length_append, e1, E.len]
      rw [List.take_append (l₁ := C.take (i * E.k) ++ E.c q), e2, List.take_of_length_le (by omega : (C.take (i * E.k) ++ E.c q).length ≤ l.length * E.k)]
theorem El.wpList_setAt (R : El.Row E P) {ops : Array Oper} {rest : List Oper} {o : Oper} {a : Act} {w : World} {Q : Exit → Act → World → Prop} (hgd : o.guard = none) (x y : Operand) (ho : o.op = .store E.e x y)
    (B g cap i : Nat) (l : List α) (q : α) (hown : E.Own w B (.slice (some ⟨g, 0, none⟩) l.length cap) l) (hi : i < l.length) (cs : Array Value) (hcs : cs = (E.c q).toArray) (hx : a.eval x = .pointer (some ⟨g, i * E.k, none⟩)) (hy : a.eval y = .agg cs)
    (h : ∀ w', E.Own w' B (.slice (some ⟨g, 0, none⟩) l.length cap) (l.set i q) → w.grownBy w' (some g) → w'.heap.size = w.heap.size → wpList P ops Q rest (a.put o.dst undef) w') : wpList P ops Q (o :: rest) a w :=
  wpList_plain hgd fun _ hK => El.wp_setAt R x y ho B g cap i l q hown hi cs hcs hx hy fun w' h1 h2 h3 => hK _ _ (h w' h1 h2 h3)
end
end Go.Proofs.Ytfpgfclmmdihjaa

/- Put and Drop of the document. -/
namespace Go.Proofs.Ytfpgfclmmdihjaa
open Go.RowKit Tre

theorem step_app {ops : Array Oper} {o : Oper} {a : Act} {w : World} {K : Act → World → Prop} {Q : Exit → Act → World → Prop} {E : Prop} (hgd : o.guard = none) (s x : Operand)
    (ho : o.op = .call { callee := .builtin .append, args := #[s, x], argTypes := #[23, 23] }) (B : Nat) (v : Value) (l r : List Pl) (hs : a.eval s = v) (hown : Own w B v l) (A : Option Addr) (m c : Nat) (hx : a.eval x = .slice A m c)
    (hm : r.length = m) (hT : Tr w A r) (hc : A = none → c = 0) (hl : l.length + r.length ≤ 1000) (hB : B ≤ w.heap.size)
    (h : ∀ v' w', Own w' B v' (l ++ r) → w.grownBy w' v.ownBlock → (v'.ownBlock = v.ownBlock ∨ v'.ownBlock = some w.heap.size) → K (a.put o.dst v') w') :
    if Region.wanted o (yielded ops a.tmps) = true then Oper.wp Try.prog o a w K Q else E := by
  rw [if_pos (by simp [Region.wanted, hgd])]
  exact wp_app s x ho B v l r hs hown A m c hx hm hT hc hl hB h

/-- The slice at A holds these places, in a block ahead of B. -/
def TrB (B : Nat) (w : World) (A : Option Addr) (l : List Pl) : Prop :=
  0 < l.length → ∃ b off, A = some ⟨b, off, none⟩ ∧ b < B ∧ ∀ i (h : i < l.length), AtPl w b (off + i * 3) l[i]
theorem TrB.of {B : Nat} {w : World} {A : Option Addr} {l : List Pl} (h : Tr w A l) (hB : w.heap.size ≤ B) : TrB B w A l := fun h0 => by
  obtain ⟨b, off, e, hl, hc⟩ := h h0
  exact ⟨b, off, e, by omega, hc⟩
theorem TrB.tr {B : Nat} {w : World} {A : Option Addr} {l : List Pl} (h : TrB B w A l) (hB : B ≤ w.heap.size) : Tr w A l := fun h0 => by
  obtain ⟨b, off, e, hl, hc⟩ := h h0
  exact ⟨b, off, e, by omega, hc⟩
theorem AtPl.grown {w w' : World} {b o : Nat} {p : Pl} {row : Option Nat} (h : AtPl w b o p) (hg : w.grownBy w' row) (hne : some b ≠ row) : AtPl w' b o p :=
  ⟨hg.cell h.1 hne, hg.cell h.2.1 hne, hg.cell h.2.2 hne⟩
theorem TrB.keep {B : Nat} {w w' : World} {A : Option Addr} {l : List Pl} {row : Option Nat} (h : TrB B w A l) (hg : w.grownBy w' row) (hrow : ∀ k, row = some k → B ≤ k) : TrB B w' A l := fun h0 => by
  obtain ⟨b, off, e, hl, hc⟩ := h h0
  exact ⟨b, off, e, hl, fun i hi => (hc i hi).grown hg (fun e => by have := hrow b e.symm; omega)⟩
theorem TrB.alloc {B : Nat} {w : World} {A : Option Addr} {l : List Pl} (h : TrB B w A l) (hB : B ≤ w.heap.size) (o : Obj) : TrB B (w.alloc o) A l :=
  h.keep (World.grownBy_alloc w o none) (fun k e => by cases e)
theorem own_empty (w : World) (B : Nat) (hB : B ≤ w.heap.size) : Own (w.alloc (.cells #[] 115)) B (.slice (some ⟨w.heap.size, 0, none⟩) 0 0) [] :=
  World.ownsRow_made w #[] 0 hB (by unfold maxLen; omega) rfl

theorem Tr.keep1 {w w' : World} {a : Addr} {l : List Pl} {row : Option Nat} (h : Tr w (some a) l) (hg : w.grownBy w' row) (hne : some a.block ≠ row) : Tr w' (some a) l := fun h0 => by
  obtain ⟨b, off, e, hl, hc⟩ := h h0
  cases e
  exact ⟨b, off, rfl, Nat.lt_of_lt_of_le hl hg.size, fun i hi => (hc i hi).grown hg hne⟩

set_option maxRecDepth 100000 in
set_option maxHeartbeats 4000000 in
theorem refPut_any (A : Option Addr) (cap : Nat) (l : List Pl) (p : Pl) (w : World) (hl : l.length ≤ 900) (hT : Tr w A l) (hcap : l.length ≤ cap) (hn : A = none → cap = 0) :
    Calls Try.prog 74 #[.slice A l.length cap, .agg #[.int .i64 p.n, .int .i64 p.u, .string p.s]] w fun e w' => ∃ A' cap', e = .returned (.slice A' (putL l p).length cap') ∧ Tr w' A' (putL l p) ∧ (A' = none → cap' = 0) ∧ (putL l p).length ≤ cap' ∧ Frs w.heap.size A' ∧ Below w.heap.size w w' := by
  have hbl := behind_le l p.n
  have C := fun w hT => refFind_any A cap l p.n w (by omega) hT
  have hbe : behind l p.n = if (Tre.get l p.n).isSome then idx l p.n + 1 else idx l p.n := rfl
  unfold putL placedL
  generalize behind l p.n = tz at *
  generalize (Tre.get l p.n).isSome = is at *
  generalize idx l p.n = ix at *
  obtain ⟨A3, hA3⟩ : ∃ A3, (if cap = tz then A else Option.map (fun x => x.add (tz * 3)) A) = A3 := ⟨_, rfl⟩
  have hT3 := hT.drop hcap hA3
  have hz3 := drop_none hn hA3
  have htk := hT.take ix
  have e1 : (l.take ix).length = ix := by rw [List.length_take]; omega
  have e3 : (l.drop tz).length = l.length - tz := List.length_drop
  have h0 : (0 : Int) ≤ (ix : Int) := by omega
  have h1 : (ix : Int) ≤ (cap : Int) := by omega
  have h2 : (0 : Int) ≤ (tz : Int) := by omega
  have h3 : (tz : Int) ≤ (l.length : Int) := by omega
  have h4 : (ix : Int) ≤ (l.length : Int) := by omega
  have hE : ([] ++ l.take ix ++ [p]) ++ l.drop tz = (l.take ix ++ [p]) ++ l.drop tz := rfl
  have HE1 := Lib.hid e1
  have HE3 := Lib.hid e3
  generalize l.take ix = L1 at *
  generalize l.drop tz = L3 at *
  cases is
  · obtain rfl : tz = ix := by simpa using hbe
    clear hbe e1 e3
    go_enter Try.func74, Try.ntmps74
    go_wp2_with fail
    have hb1 := below_alloc (Below.refl _ w) (.cells #[.int .i64 p.n, .int .i64 p.u, .string p.s] 115)
    have hO := PlIn.new w p
    have hpl : w.heap.size < (w.alloc (.cells #[.int .i64 p.n, .int .i64 p.u, .string p.s] 115)).heap.size := by simp
    refine (C _ (hT.below hb1)).mono ?_
    rintro e w1 ⟨rfl, hb2⟩
    have hN := below_then hb1 hb2
    have hO := hO.below hb2
    have hpl := Nat.lt_of_lt_of_le hpl hb2.size
    have hTw := hN
    clear hb2 C
    go_wp2_with fail
    have hOV : PlIn w1.drew w.heap.size p := hO
    have hNV : Below w.heap.size w w1.drew := hN.drew
    obtain ⟨B, hBe⟩ : ∃ B, w1.heap.size = B := ⟨_, rfl⟩
    have hB0 : B ≤ w1.drew.heap.size := Nat.le_of_eq hBe.symm
    have hpB : w.heap.size < B := by omega
    have tkV : TrB B w1.drew A L1 := TrB.of (htk.below hNV) (Nat.le_of_eq hBe)
    have t3V : TrB B w1.drew A3 L3 := TrB.of (hT3.below hNV) (Nat.le_of_eq hBe)
    have hwB : w.heap.size ≤ B := Nat.le_of_lt hpB
    have hB_p : B ≤ (w1.drew.alloc (.cells #[.int .i64 p.n, .int .i64 p.u, .string p.s] 115)).heap.size := by rw [alloc_size]; omega
    have o_p : PlIn (w1.drew.alloc (.cells #[.int .i64 p.n, .int .i64 p.u, .string p.s] 115)) w.heap.size p := hOV.alloc _
    have n_p : Below w.heap.size w (w1.drew.alloc (.cells #[.int .i64 p.n, .int .i64 p.u, .string p.s] 115)) := below_alloc hNV _
    have k_p : TrB B (w1.drew.alloc (.cells #[.int .i64 p.n, .int .i64 p.u, .string p.s] 115)) A L1 := tkV.alloc hB0 _
    have t_p : TrB B (w1.drew.alloc (.cells #[.int .i64 p.n, .int .i64 p.u, .string p.s] 115)) A3 L3 := t3V.alloc hB0 _
    have hB_i : B ≤ (w1.drew.alloc (.cells #[] 115)).heap.size := by rw [alloc_size]; omega
    have o_i : PlIn (w1.drew.alloc (.cells #[] 115)) w.heap.size p := hOV.alloc _
    have n_i : Below w.heap.size w (w1.drew.alloc (.cells #[] 115)) := below_alloc hNV _
    have k_i : TrB B (w1.drew.alloc (.cells #[] 115)) A L1 := tkV.alloc hB0 _
    have t_i : TrB B (w1.drew.alloc (.cells #[] 115)) A3 L3 := t3V.alloc hB0 _
    have hB_ii : B ≤ ((w1.drew.alloc (.cells #[] 115)).alloc (.cells #[.int .i64 p.n, .int .i64 p.u, .string p.s] 115)).heap.size := by rw [alloc_size]; omega
    have o_ii : PlIn ((w1.drew.alloc (.cells #[] 115)).alloc (.cells #[.int .i64 p.n, .int .i64 p.u, .string p.s] 115)) w.heap.size p := o_i.alloc _
    have n_ii : Below w.heap.size w ((w1.drew.alloc (.cells #[] 115)).alloc (.cells #[.int .i64 p.n, .int .i64 p.u, .string p.s] 115)) := below_alloc n_i _
    have k_ii : TrB B ((w1.drew.alloc (.cells #[] 115)).alloc (.cells #[.int .i64 p.n, .int .i64 p.u, .string p.s] 115)) A L1 := k_i.alloc hB_i _
    have t_ii : TrB B ((w1.drew.alloc (.cells #[] 115)).alloc (.cells #[.int .i64 p.n, .int .i64 p.u, .string p.s] 115)) A3 L3 := t_i.alloc hB_i _
    have hB_iii : B ≤ ((w1.drew.alloc (.cells #[.int .i64 p.n, .int .i64 p.u, .string p.s] 115)).alloc (.cells #[] 115)).heap.size := by rw [alloc_size]; omega
    have o_iii : PlIn ((w1.drew.alloc (.cells #[.int .i64 p.n, .int .i64 p.u, .string p.s] 115)).alloc (.cells #[] 115)) w.heap.size p := o_p.alloc _
    have n_iii : Below w.heap.size w ((w1.drew.alloc (.cells #[.int .i64 p.n, .int .i64 p.u, .string p.s] 115)).alloc (.cells #[] 115)) := below_alloc n_p _
    have k_iii : TrB B ((w1.drew.alloc (.cells #[.int .i64 p.n, .int .i64 p.u, .string p.s] 115)).alloc (.cells #[] 115)) A L1 := k_p.alloc hB_p _
    have t_iii : TrB B ((w1.drew.alloc (.cells #[.int .i64 p.n, .int .i64 p.u, .string p.s] 115)).alloc (.cells #[] 115)) A3 L3 := t_p.alloc hB_p _
    have own_i : Own (w1.drew.alloc (.cells #[] 115)) B (.slice (some ⟨B, 0, none⟩) 0 0) [] := by rw [← hBe]; exact own_empty w1.drew _ (Nat.le_refl _)
    have own_ii : Own ((w1.drew.alloc (.cells #[] 115)).alloc (.cells #[.int .i64 p.n, .int .i64 p.u, .string p.s] 115)) B (.slice (some ⟨B, 0, none⟩) 0 0) [] := own_i.below (below_alloc (Below.refl _ _) _)
    have e_ii : Tr ((w1.drew.alloc (.cells #[] 115)).alloc (.cells #[.int .i64 p.n, .int .i64 p.u, .string p.s] 115)) (some ⟨B + 1, 0, none⟩) [p] := by
      have := AtPl.one (PlIn.new (w1.drew.alloc (.cells #[] 115)) p)
      rw [alloc_size, show w1.drew.heap.size = B from hBe] at this
      exact this
    have own_iii : Own ((w1.drew.alloc (.cells #[.int .i64 p.n, .int .i64 p.u, .string p.s] 115)).alloc (.cells #[] 115)) B (.slice (some ⟨B + 1, 0, none⟩) 0 0) [] := by
      have := own_empty (w1.drew.alloc (.cells #[.int .i64 p.n, .int .i64 p.u, .string p.s] 115)) B hB_p
      rw [alloc_size, show w1.drew.heap.size = B from hBe] at this
      exact this
    have e_iii : Tr ((w1.drew.alloc (.cells #[.int .i64 p.n, .int .i64 p.u, .string p.s] 115)).alloc (.cells #[] 115)) (some ⟨B, 0, none⟩) [p] := by
      have := (AtPl.one (PlIn.new w1.drew p)).below (below_alloc (Below.refl _ _) (.cells #[] 115))
      rw [show w1.drew.heap.size = B from hBe] at this
      exact this
    have hL13 : L1.length + L3.length ≤ 900 := by have := HE1.out; have := HE3.out; omega
    have hO := hOV
    clear hT hTw htk hT3 hOV hNV tkV t3V k_p t_p n_p hcap
    go_region_held3 (fun w' => w'.cell? ⟨w.heap.size, 0, none⟩ = some (.int .i64 p.n) ∧ w'.cell? ⟨w.heap.size, 1, none⟩ = some (.int .i64 p.u) ∧ w'.cell? ⟨w.heap.size, 2, none⟩ = some (.string p.s)) (first | exact hO.cells | exact o_i.cells | exact o_p.cells | exact o_ii.cells | exact o_iii.cells | exact (hO.alloc _).cells) (first | (refine step_app rfl (.tmp 23) (.tmp 26) rfl B _ [] L1 rfl own_i A _ cap rfl HE1.out (k_i.tr hB_i) hn (by simp; omega) hB_i ?_; intro v1 w2 hOw hg2 hat2; have hr2 := (fun k e => (World.ownsRow.lt own_i k e).1 : ∀ k, Value.ownBlock (.slice (some ⟨B, 0, none⟩) 0 0) = some k → B ≤ k); have hO := o_i.keep hg2 (fun e => by have := hr2 _ e.symm; omega); have hN := n_i.grown hg2 (by have := n_i.size; omega) (fun k e => by have := hr2 k e; omega); have t3 := t_i.keep hg2 hr2; have hBw := Nat.le_trans hB_i hg2.size) | (refine step_app rfl (.tmp 23) (.tmp 26) rfl B _ [] L1 rfl own_ii A _ cap rfl HE1.out (k_ii.tr hB_ii) hn (by simp; omega) hB_ii ?_; intro v1 w2 hOw hg2 hat2; have hr2 := (fun k e => (World.ownsRow.lt own_ii k e).1 : ∀ k, Value.ownBlock (.slice (some ⟨B, 0, none⟩) 0 0) = some k → B ≤ k); have hO := o_ii.keep hg2 (fun e => by have := hr2 _ e.symm; omega); have hN := n_ii.grown hg2 (by have := n_ii.size; omega) (fun k e => by have := hr2 k e; omega); have t3 := t_ii.keep hg2 hr2; have hBw := Nat.le_trans hB_ii hg2.size; have hEE : Tr w2 (some ⟨B + 1, 0, none⟩) [p] := e_ii.keep1 hg2 (fun e => by have e : some (B + 1) = some B := e; have := Option.some.inj e; omega)) | (refine step_app rfl (.tmp 23) (.tmp 26) rfl B _ [] L1 rfl own_iii A _ cap rfl HE1.out (k_iii.tr hB_iii) hn (by simp; omega) hB_iii ?_; intro v1 w2 hOw hg2 hat2; have hr2 := (fun k e => (World.ownsRow.lt own_iii k e).1 : ∀ k, Value.ownBlock (.slice (some ⟨B + 1, 0, none⟩) 0 0) = some k → B ≤ k); have hO := o_iii.keep hg2 (fun e => by have := hr2 _ e.symm; omega); have hN := n_iii.grown hg2 (by have := n_iii.size; omega) (fun k e => by have := hr2 k e; omega); have t3 := t_iii.keep hg2 hr2; have hBw := Nat.le_trans hB_iii hg2.size; have hEE : Tr w2 (some ⟨B, 0, none⟩) [p] := e_iii.keep1 hg2 (fun e => by have e : some B = some (B + 1) := e; have := Option.some.inj e; omega)) | (refine step_app rfl (.tmp 27) (.tmp 29) rfl B _ _ [p] rfl hOw _ 1 1 rfl rfl hEE (fun e => by cases e) (by simp; omega) hBw ?_; intro v2 w3 hOw2 hg3 hat3; have hr3 := fun k e => (World.ownsRow.lt hOw k e).1; have hO := hO.keep hg3 (fun e => by have := hr3 _ e.symm; omega); have hN := hN.grown hg3 (by have := hN.size; omega) (fun k e => by have := hr3 k e; omega); have t3 := t3.keep hg3 hr3; have hBw := Nat.le_trans hBw hg3.size) | (refine step_app rfl (.tmp 27) (.tmp 29) rfl B _ _ [p] rfl (hOw.below (below_alloc (Below.refl _ _) (.cells #[.int .i64 p.n, .int .i64 p.u, .string p.s] 115))) _ 1 1 rfl rfl (AtPl.one (PlIn.new w2 p)) (fun e => by cases e) (by simp; omega) (by rw [alloc_size]; omega : B ≤ (w2.alloc (.cells #[.int .i64 p.n, .int .i64 p.u, .string p.s] 115)).heap.size) ?_; intro v2 w3 hOw2 hg3 hat3; have hr3 := fun k e => (World.ownsRow.lt hOw k e).1; have hO := (hO.alloc (.cells #[.int .i64 p.n, .int .i64 p.u, .string p.s] 115)).keep hg3 (fun e => by have := hr3 _ e.symm; omega); have hN := (below_alloc hN (.cells #[.int .i64 p.n, .int .i64 p.u, .string p.s] 115)).grown hg3 (by have := (below_alloc hN (.cells #[.int .i64 p.n, .int .i64 p.u, .string p.s] 115)).size; omega) (fun k e => by have := hr3 k e; omega); have t3 := (t3.alloc hBw (.cells #[.int .i64 p.n, .int .i64 p.u, .string p.s] 115)).keep hg3 hr3; have hBw := Nat.le_trans (by rw [alloc_size]; omega : B ≤ (w2.alloc (.cells #[.int .i64 p.n, .int .i64 p.u, .string p.s] 115)).heap.size) hg3.size) | (refine step_app rfl (.tmp 30) (.tmp 31) rfl B _ _ L3 rfl hOw2 A3 _ _ rfl HE3.out (t3.tr hBw) hz3 (by simp; omega) hBw ?_; intro v3 w4 hOw3 hg4 hat4; have hr4 := fun k e => (World.ownsRow.lt hOw2 k e).1; have hO := hO.keep hg4 (fun e => by have := hr4 _ e.symm; omega); have hN := hN.grown hg4 (by have := hN.size; omega) (fun k e => by have := hr4 k e; omega)))
    all_goals
      have hOw3 : Own w4 B v3 ((L1 ++ [p]) ++ L3) := hOw3
      obtain ⟨A', cap', rfl, hT', hz', hlc⟩ := hOw3.tr
      go_wp2
      go_ret
      exact ⟨A', cap', rfl, hT', hz', hlc, hOw3.frs.mono (by omega), hN⟩
  · obtain ⟨A4, hA4⟩ : ∃ A4, (if cap = ix then A else Option.map (fun x => x.add (ix * 3)) A) = A4 := ⟨_, rfl⟩
    have hto : (ix : Int) + 1 = (tz : Int) := by have : tz = ix + 1 := by simpa using hbe
                                                 omega
    clear hbe e1 e3
    go_enter Try.func74, Try.ntmps74
    go_wp2_with fail
    have hb1 := below_alloc (Below.refl _ w) (.cells #[.int .i64 p.n, .int .i64 p.u, .string p.s] 115)
    have hO := PlIn.new w p
    have hpl : w.heap.size < (w.alloc (.cells #[.int .i64 p.n, .int .i64 p.u, .string p.s] 115)).heap.size := by simp
    refine (C _ (hT.below hb1)).mono ?_
    rintro e w1 ⟨rfl, hb2⟩
    have hN := below_then hb1 hb2
    have hO := hO.below hb2
    have hpl := Nat.lt_of_lt_of_le hpl hb2.size
    have hTw := hN
    clear hb2 C
    go_wp2_with fail
    have hOV : PlIn w1.drew w.heap.size p := hO
    have hNV : Below w.heap.size w w1.drew := hN.drew
    obtain ⟨B, hBe⟩ : ∃ B, w1.heap.size = B := ⟨_, rfl⟩
    have hB0 : B ≤ w1.drew.heap.size := Nat.le_of_eq hBe.symm
    have hpB : w.heap.size < B := by omega
    have tkV : TrB B w1.drew A L1 := TrB.of (htk.below hNV) (Nat.le_of_eq hBe)
    have t3V : TrB B w1.drew A3 L3 := TrB.of (hT3.below hNV) (Nat.le_of_eq hBe)
    have hwB : w.heap.size ≤ B := Nat.le_of_lt hpB
    have hB_p : B ≤ (w1.drew.alloc (.cells #[.int .i64 p.n, .int .i64 p.u, .string p.s] 115)).heap.size := by rw [alloc_size]; omega
    have o_p : PlIn (w1.drew.alloc (.cells #[.int .i64 p.n, .int .i64 p.u, .string p.s] 115)) w.heap.size p := hOV.alloc _
    have n_p : Below w.heap.size w (w1.drew.alloc (.cells #[.int .i64 p.n, .int .i64 p.u, .string p.s] 115)) := below_alloc hNV _
    have k_p : TrB B (w1.drew.alloc (.cells #[.int .i64 p.n, .int .i64 p.u, .string p.s] 115)) A L1 := tkV.alloc hB0 _
    have t_p : TrB B (w1.drew.alloc (.cells #[.int .i64 p.n, .int .i64 p.u, .string p.s] 115)) A3 L3 := t3V.alloc hB0 _
    have hB_i : B ≤ (w1.drew.alloc (.cells #[] 115)).heap.size := by rw [alloc_size]; omega
    have o_i : PlIn (w1.drew.alloc (.cells #[] 115)) w.heap.size p := hOV.alloc _
    have n_i : Below w.heap.size w (w1.drew.alloc (.cells #[] 115)) := below_alloc hNV _
    have k_i : TrB B (w1.drew.alloc (.cells #[] 115)) A L1 := tkV.alloc hB0 _
    have t_i : TrB B (w1.drew.alloc (.cells #[] 115)) A3 L3 := t3V.alloc hB0 _
    have hB_ii : B ≤ ((w1.drew.alloc (.cells #[] 115)).alloc (.cells #[.int .i64 p.n, .int .i64 p.u, .string p.s] 115)).heap.size := by rw [alloc_size]; omega
    have o_ii : PlIn ((w1.drew.alloc (.cells #[] 115)).alloc (.cells #[.int .i64 p.n, .int .i64 p.u, .string p.s] 115)) w.heap.size p := o_i.alloc _
    have n_ii : Below w.heap.size w ((w1.drew.alloc (.cells #[] 115)).alloc (.cells #[.int .i64 p.n, .int .i64 p.u, .string p.s] 115)) := below_alloc n_i _
    have k_ii : TrB B ((w1.drew.alloc (.cells #[] 115)).alloc (.cells #[.int .i64 p.n, .int .i64 p.u, .string p.s] 115)) A L1 := k_i.alloc hB_i _
    have t_ii : TrB B ((w1.drew.alloc (.cells #[] 115)).alloc (.cells #[.int .i64 p.n, .int .i64 p.u, .string p.s] 115)) A3 L3 := t_i.alloc hB_i _
    have hB_iii : B ≤ ((w1.drew.alloc (.cells #[.int .i64 p.n, .int .i64 p.u, .string p.s] 115)).alloc (.cells #[] 115)).heap.size := by rw [alloc_size]; omega
    have o_iii : PlIn ((w1.drew.alloc (.cells #[.int .i64 p.n, .int .i64 p.u, .string p.s] 115)).alloc (.cells #[] 115)) w.heap.size p := o_p.alloc _
    have n_iii : Below w.heap.size w ((w1.drew.alloc (.cells #[.int .i64 p.n, .int .i64 p.u, .string p.s] 115)).alloc (.cells #[] 115)) := below_alloc n_p _
    have k_iii : TrB B ((w1.drew.alloc (.cells #[.int .i64 p.n, .int .i64 p.u, .string p.s] 115)).alloc (.cells #[] 115)) A L1 := k_p.alloc hB_p _
    have t_iii : TrB B ((w1.drew.alloc (.cells #[.int .i64 p.n, .int .i64 p.u, .string p.s] 115)).alloc (.cells #[] 115)) A3 L3 := t_p.alloc hB_p _
    have own_i : Own (w1.drew.alloc (.cells #[] 115)) B (.slice (some ⟨B, 0, none⟩) 0 0) [] := by rw [← hBe]; exact own_empty w1.drew _ (Nat.le_refl _)
    have own_ii : Own ((w1.drew.alloc (.cells #[] 115)).alloc (.cells #[.int .i64 p.n, .int .i64 p.u, .string p.s] 115)) B (.slice (some ⟨B, 0, none⟩) 0 0) [] := own_i.below (below_alloc (Below.refl _ _) _)
    have e_ii : Tr ((w1.drew.alloc (.cells #[] 115)).alloc (.cells #[.int .i64 p.n, .int .i64 p.u, .string p.s] 115)) (some ⟨B + 1, 0, none⟩) [p] := by
      have := AtPl.one (PlIn.new (w1.drew.alloc (.cells #[] 115)) p)
      rw [alloc_size, show w1.drew.heap.size = B from hBe] at this
      exact this
    have own_iii : Own ((w1.drew.alloc (.cells #[.int .i64 p.n, .int .i64 p.u, .string p.s] 115)).alloc (.cells #[] 115)) B (.slice (some ⟨B + 1, 0, none⟩) 0 0) [] := by
      have := own_empty (w1.drew.alloc (.cells #[.int .i64 p.n, .int .i64 p.u, .string p.s] 115)) B hB_p
      rw [alloc_size, show w1.drew.heap.size = B from hBe] at this
      exact this
    have e_iii : Tr ((w1.drew.alloc (.cells #[.int .i64 p.n, .int .i64 p.u, .string p.s] 115)).alloc (.cells #[] 115)) (some ⟨B, 0, none⟩) [p] := by
      have := (AtPl.one (PlIn.new w1.drew p)).below (below_alloc (Below.refl _ _) (.cells #[] 115))
      rw [show w1.drew.heap.size = B from hBe] at this
      exact this
    have hL13 : L1.length + L3.length ≤ 900 := by have := HE1.out; have := HE3.out; omega
    have hO := hOV
    clear hT hTw htk hT3 hOV hNV tkV t3V k_p t_p n_p hcap
    go_region_held3 (fun w' => w'.cell? ⟨w.heap.size, 0, none⟩ = some (.int .i64 p.n) ∧ w'.cell? ⟨w.heap.size, 1, none⟩ = some (.int .i64 p.u) ∧ w'.cell? ⟨w.heap.size, 2, none⟩ = some (.string p.s)) (first | exact hO.cells | exact o_i.cells | exact o_p.cells | exact o_ii.cells | exact o_iii.cells | exact (hO.alloc _).cells) (first | (refine step_app rfl (.tmp 23) (.tmp 26) rfl B _ [] L1 rfl own_i A _ cap rfl HE1.out (k_i.tr hB_i) hn (by simp; omega) hB_i ?_; intro v1 w2 hOw hg2 hat2; have hr2 := (fun k e => (World.ownsRow.lt own_i k e).1 : ∀ k, Value.ownBlock (.slice (some ⟨B, 0, none⟩) 0 0) = some k → B ≤ k); have hO := o_i.keep hg2 (fun e => by have := hr2 _ e.symm; omega); have hN := n_i.grown hg2 (by have := n_i.size; omega) (fun k e => by have := hr2 k e; omega); have t3 := t_i.keep hg2 hr2; have hBw := Nat.le_trans hB_i hg2.size) | (refine step_app rfl (.tmp 23) (.tmp 26) rfl B _ [] L1 rfl own_ii A _ cap rfl HE1.out (k_ii.tr hB_ii) hn (by simp; omega) hB_ii ?_; intro v1 w2 hOw hg2 hat2; have hr2 := (fun k e => (World.ownsRow.lt own_ii k e).1 : ∀ k, Value.ownBlock (.slice (some ⟨B, 0, none⟩) 0 0) = some k → B ≤ k); have hO := o_ii.keep hg2 (fun e => by have := hr2 _ e.symm; omega); have hN := n_ii.grown hg2 (by have := n_ii.size; omega) (fun k e => by have := hr2 k e; omega); have t3 := t_ii.keep hg2 hr2; have hBw := Nat.le_trans hB_ii hg2.size; have hEE : Tr w2 (some ⟨B + 1, 0, none⟩) [p] := e_ii.keep1 hg2 (fun e => by have e : some (B + 1) = some B := e; have := Option.some.inj e; omega)) | (refine step_app rfl (.tmp 23) (.tmp 26) rfl B _ [] L1 rfl own_iii A _ cap rfl HE1.out (k_iii.tr hB_iii) hn (by simp; omega) hB_iii ?_; intro v1 w2 hOw hg2 hat2; have hr2 := (fun k e => (World.ownsRow.lt own_iii k e).1 : ∀ k, Value.ownBlock (.slice (some ⟨B + 1, 0, none⟩) 0 0) = some k → B ≤ k); have hO := o_iii.keep hg2 (fun e => by have := hr2 _ e.symm; omega); have hN := n_iii.grown hg2 (by have := n_iii.size; omega) (fun k e => by have := hr2 k e; omega); have t3 := t_iii.keep hg2 hr2; have hBw := Nat.le_trans hB_iii hg2.size; have hEE : Tr w2 (some ⟨B, 0, none⟩) [p] := e_iii.keep1 hg2 (fun e => by have e : some B = some (B + 1) := e; have := Option.some.inj e; omega)) | (refine step_app rfl (.tmp 27) (.tmp 29) rfl B _ _ [p] rfl hOw _ 1 1 rfl rfl hEE (fun e => by cases e) (by simp; omega) hBw ?_; intro v2 w3 hOw2 hg3 hat3; have hr3 := fun k e => (World.ownsRow.lt hOw k e).1; have hO := hO.keep hg3 (fun e => by have := hr3 _ e.symm; omega); have hN := hN.grown hg3 (by have := hN.size; omega) (fun k e => by have := hr3 k e; omega); have t3 := t3.keep hg3 hr3; have hBw := Nat.le_trans hBw hg3.size) | (refine step_app rfl (.tmp 27) (.tmp 29) rfl B _ _ [p] rfl (hOw.below (below_alloc (Below.refl _ _) (.cells #[.int .i64 p.n, .int .i64 p.u, .string p.s] 115))) _ 1 1 rfl rfl (AtPl.one (PlIn.new w2 p)) (fun e => by cases e) (by simp; omega) (by rw [alloc_size]; omega : B ≤ (w2.alloc (.cells #[.int .i64 p.n, .int .i64 p.u, .string p.s] 115)).heap.size) ?_; intro v2 w3 hOw2 hg3 hat3; have hr3 := fun k e => (World.ownsRow.lt hOw k e).1; have hO := (hO.alloc (.cells #[.int .i64 p.n, .int .i64 p.u, .string p.s] 115)).keep hg3 (fun e => by have := hr3 _ e.symm; omega); have hN := (below_alloc hN (.cells #[.int .i64 p.n, .int .i64 p.u, .string p.s] 115)).grown hg3 (by have := (below_alloc hN (.cells #[.int .i64 p.n, .int .i64 p.u, .string p.s] 115)).size; omega) (fun k e => by have := hr3 k e; omega); have t3 := (t3.alloc hBw (.cells #[.int .i64 p.n, .int .i64 p.u, .string p.s] 115)).keep hg3 hr3; have hBw := Nat.le_trans (by rw [alloc_size]; omega : B ≤ (w2.alloc (.cells #[.int .i64 p.n, .int .i64 p.u, .string p.s] 115)).heap.size) hg3.size) | (refine step_app rfl (.tmp 30) (.tmp 31) rfl B _ _ L3 rfl hOw2 A3 _ _ rfl HE3.out (t3.tr hBw) hz3 (by simp; omega) hBw ?_; intro v3 w4 hOw3 hg4 hat4; have hr4 := fun k e => (World.ownsRow.lt hOw2 k e).1; have hO := hO.keep hg4 (fun e => by have := hr4 _ e.symm; omega); have hN := hN.grown hg4 (by have := hN.size; omega) (fun k e => by have := hr4 k e; omega)))
    all_goals
      have hOw3 : Own w4 B v3 ((L1 ++ [p]) ++ L3) := hOw3
      obtain ⟨A', cap', rfl, hT', hz', hlc⟩ := hOw3.tr
      go_wp2
      go_ret
      exact ⟨A', cap', rfl, hT', hz', hlc, hOw3.frs.mono (by omega), hN⟩

theorem dropL_none {l : List Pl} {b : Int} (h : (Tre.get l b).isSome = false) : dropL l b = l := by
  unfold dropL placedL behind
  rw [h, List.append_nil]
  exact List.take_append_drop _ _

end Go.Proofs.Ytfpgfclmmdihjaa

/- Trees as sorted lists: what put, drop and a move make of them. No program in it. -/
namespace Tre

theorem sorted_pw {l : List Pl} : Sorted l ↔ l.Pairwise (fun p q => p.n < q.n) := by
  rw [List.pairwise_iff_getElem]
  exact ⟨fun h i j hi hj hij => h i j hi hj hij, fun h i j hi hj hij => h i j hi hj hij⟩
theorem get_iff {l : List Pl} (hs : Sorted l) {b : Int} {p : Pl} : get l b = some p ↔ p ∈ l ∧ p.n = b := by
  constructor
  · intro h
    obtain ⟨h1, h2, _⟩ := get_some h
    exact ⟨h1, h2⟩
  · rintro ⟨h, rfl⟩
    obtain ⟨i, hi, rfl⟩ := List.getElem_of_mem h
    exact get_self hs i hi
theorem sorted_one {l : List Pl} (hs : Sorted l) {p q : Pl} (hp : p ∈ l) (hq : q ∈ l) (h : p.n = q.n) : p = q := by
  have h1 := (get_iff hs).2 ⟨hp, h⟩
  have h2 := (get_iff hs).2 ⟨hq, rfl⟩
  rw [h1] at h2
  exact Option.some.inj h2
theorem sorted_ext : ∀ {l m : List Pl}, Sorted l → Sorted m → (∀ q, q ∈ l ↔ q ∈ m) → l = m
  | [], [], _, _, _ => rfl
  | [], q :: m, _, _, h => absurd ((h q).2 (by simp)) (by simp)
  | p :: l, [], _, _, h => absurd ((h p).1 (by simp)) (by simp)
  | p :: l, q :: m, hl, hm, h => by
    have hl' := List.pairwise_cons.1 (sorted_pw.1 hl)
    have hm' := List.pairwise_cons.1 (sorted_pw.1 hm)
    have e : p = q := by
      rcases List.mem_cons.1 ((h p).1 (by simp)) with e | e
      · exact e
      · rcases List.mem_cons.1 ((h q).2 (by simp)) with e2 | e2
        · exact e2.symm
        · have a := hm'.1 p e
          have b := hl'.1 q e2
          omega
    subst e
    congr 1
    refine sorted_ext (sorted_pw.2 hl'.2) (sorted_pw.2 hm'.2) fun r => ⟨fun hr => ?_, fun hr => ?_⟩
    · rcases List.mem_cons.1 ((h r).1 (by simp [hr])) with e | e
      · subst e; have := hl'.1 r hr; omega
      · exact e
    · rcases List.mem_cons.1 ((h r).2 (by simp [hr])) with e | e
      · subst e; have := hm'.1 r hr; omega
      · exact e
theorem sorted_ext_get {l m : List Pl} (hl : Sorted l) (hm : Sorted m) (h : ∀ b, get l b = get m b) : l = m :=
  sorted_ext hl hm fun q => by
    constructor
    · intro hq
      exact ((get_iff hm).1 ((h q.n).symm.trans ((get_iff hl).2 ⟨hq, rfl⟩))).1
    · intro hq
      exact ((get_iff hl).1 ((h q.n).trans ((get_iff hm).2 ⟨hq, rfl⟩))).1

theorem take_before (l : List Pl) (b : Int) : ∀ q ∈ l.take (idx l b), q.n < b := fun q hq => by
  obtain ⟨i, hi, rfl⟩ := List.getElem_of_mem hq
  rw [List.length_take] at hi
  rw [List.getElem_take]
  exact idx_before l b i (by omega) (by omega)
theorem drop_behind {l : List Pl} (hs : Sorted l) (b : Int) : ∀ q ∈ l.drop (behind l b), b < q.n := fun q hq => by
  obtain ⟨i, hi, rfl⟩ := List.getElem_of_mem hq
  rw [List.length_drop] at hi
  rw [List.getElem_drop]
  have hto : behind l b = if (get l b).isSome then idx l b + 1 else idx l b := rfl
  generalize behind l b = tz at *
  rcases hg : get l b with _ | p
  · rw [hg] at hto
    obtain rfl : tz = idx l b := by simpa using hto
    have hl : idx l b < l.length := by omega
    have h1 := idx_at l b hl
    have h2 : ¬ l[idx l b].n = b := fun e => by rw [get_of hl e] at hg; cases hg
    by_cases e : i = 0
    · subst e; simp only [Nat.add_zero]; omega
    · have := hs (idx l b) (idx l b + i) hl (by omega) (by omega)
      omega
  · obtain ⟨_, hn, hl, he⟩ := get_some hg
    rw [hg] at hto
    obtain rfl : tz = idx l b + 1 := by simpa using hto
    have := hs (idx l b) (idx l b + 1 + i) hl (by omega) (by omega)
    rw [he] at this
    omega
theorem mem_sides {l : List Pl} (hs : Sorted l) (b : Int) (q : Pl) : (q ∈ l.take (idx l b) ∨ q ∈ l.drop (behind l b)) ↔ (q ∈ l ∧ q.n ≠ b) := by
  constructor
  · rintro (h | h)
    · have := take_before l b q h
      exact ⟨List.mem_of_mem_take h, by omega⟩
    · have := drop_behind hs b q h
      exact ⟨List.mem_of_mem_drop h, by omega⟩
  · rintro ⟨h, hn⟩
    obtain ⟨i, hi, rfl⟩ := List.getElem_of_mem h
    by_cases h1 : i < idx l b
    · exact Or.inl (List.mem_take_iff_getElem.2 ⟨i, by omega, rfl⟩)
    · right
      have hb : behind l b ≤ i := by
        unfold behind
        rcases hg : get l b with _ | p
        · simp; omega
        · obtain ⟨_, hp, hl, he⟩ := get_some hg
          simp
          by_cases e : i = idx l b
          · subst e; rw [he] at hn; exact absurd hp hn
          · omega
      exact List.mem_drop_iff_getElem.2 ⟨i - behind l b, by omega, by congr 1; omega⟩
theorem sorted_placed {l : List Pl} (hs : Sorted l) (b : Int) (m : List Pl) (hm : ∀ q ∈ m, q.n = b) (h1 : m.length ≤ 1) : Sorted (placedL l b m) := by
  have hp := sorted_pw.1 hs
  refine sorted_pw.2 ?_
  unfold placedL
  have hmp : m.Pairwise (fun p q => p.n < q.n) := by
    match m, h1 with
    | [], _ => exact List.Pairwise.nil
    | [q], _ => exact List.pairwise_singleton _ _
  rw [List.pairwise_append, List.pairwise_append]
  refine ⟨⟨hp.sublist (List.take_sublist _ _), hmp, fun p hp q hq => ?_⟩, hp.sublist (List.drop_sublist _ _), fun p hp q hq => ?_⟩
  · have := take_before l b p hp
    have := hm q hq
    omega
  · have h2 := drop_behind hs b q hq
    rcases List.mem_append.1 hp with h | h
    · have := take_before l b p h; omega
    · have := hm p h; omega
theorem sorted_put {l : List Pl} (hs : Sorted l) (p : Pl) : Sorted (putL l p) := sorted_placed hs p.n [p] (fun q hq => by rw [List.mem_singleton] at hq; rw [hq]) (Nat.le_refl _)
theorem sorted_drop {l : List Pl} (hs : Sorted l) (b : Int) : Sorted (dropL l b) := sorted_placed hs b [] (fun q hq => by cases hq) (Nat.zero_le _)
theorem mem_put {l : List Pl} (hs : Sorted l) (p q : Pl) : q ∈ putL l p ↔ (q = p ∨ (q ∈ l ∧ q.n ≠ p.n)) := by
  unfold putL placedL
  rw [List.mem_append, List.mem_append, List.mem_singleton, ← mem_sides hs p.n q]
  constructor
  · rintro ((h | h) | h)
    · exact Or.inr (Or.inl h)
    · exact Or.inl h
    · exact Or.inr (Or.inr h)
  · rintro (h | h | h)
    · exact Or.inl (Or.inr h)
    · exact Or.inl (Or.inl h)
    · exact Or.inr h
theorem mem_drop {l : List Pl} (hs : Sorted l) (b : Int) (q : Pl) : q ∈ dropL l b ↔ (q ∈ l ∧ q.n ≠ b) := by
  unfold dropL placedL
  rw [List.append_nil, List.mem_append, mem_sides hs b q]
theorem get_put {l : List Pl} (hs : Sorted l) (p : Pl) (b : Int) : get (putL l p) b = if b = p.n then some p else get l b := by
  have hp := sorted_put hs p
  by_cases e : b = p.n
  · rw [if_pos e]
    exact (get_iff hp).2 ⟨(mem_put hs p p).2 (Or.inl rfl), e.symm⟩
  · rw [if_neg e]
    rcases h : get l b with _ | q
    · rcases h2 : get (putL l p) b with _ | r
      · rfl
      · obtain ⟨hm, hn⟩ := (get_iff hp).1 h2
        rcases (mem_put hs p r).1 hm with e2 | ⟨h3, _⟩
        · subst e2; exact absurd hn.symm e
        · rw [(get_iff hs).2 ⟨h3, hn⟩] at h; cases h
    · obtain ⟨hm, hn⟩ := (get_iff hs).1 h
      exact (get_iff hp).2 ⟨(mem_put hs p q).2 (Or.inr ⟨hm, by omega⟩), hn⟩
theorem get_drop {l : List Pl} (hs : Sorted l) (a b : Int) : get (dropL l a) b = if b = a then none else get l b := by
  have hp := sorted_drop hs a
  rcases h2 : get (dropL l a) b with _ | r
  · by_cases e : b = a
    · rw [if_pos e]
    · rw [if_neg e]
      rcases h : get l b with _ | q
      · rfl
      · obtain ⟨hm, hn⟩ := (get_iff hs).1 h
        rw [(get_iff hp).2 ⟨(mem_drop hs a q).2 ⟨hm, by omega⟩, hn⟩] at h2; cases h2
  · obtain ⟨hm, hn⟩ := (get_iff hp).1 h2
    obtain ⟨h3, h4⟩ := (mem_drop hs a r).1 hm
    rw [if_neg (by omega), (get_iff hs).2 ⟨h3, hn⟩]
theorem put_back {l : List Pl} (hs : Sorted l) {p q : Pl} (hq : get l p.n = some q) : putL (putL l p) q = l := by
  obtain ⟨_, hn⟩ := (get_iff hs).1 hq
  refine sorted_ext_get (sorted_put (sorted_put hs p) q) hs fun b => ?_
  rw [get_put (sorted_put hs p), get_put hs]
  by_cases e : b = q.n
  · rw [if_pos e, e, hn, hq]
  · rw [if_neg e, if_neg (by omega)]
theorem drop_put {l : List Pl} (hs : Sorted l) {p : Pl} (hq : get l p.n = none) : dropL (putL l p) p.n = l := by
  refine sorted_ext_get (sorted_drop (sorted_put hs p) _) hs fun b => ?_
  rw [get_drop (sorted_put hs p), get_put hs]
  by_cases e : b = p.n
  · rw [if_pos e, e, hq]
  · rw [if_neg e, if_neg e]

/-- No way leads from a node to itself. -/
def Acyc (l : List Pl) : Prop := ∀ k b, 0 < k → ¬ up l k b = some b
theorem acyc_of {l : List Pl} (hr : NoRing l) : Acyc l := fun k b hk h => by
  have h1 := up_loop h (l.length + 1)
  have h2 := up_bound hr h1
  have : l.length + 1 ≤ k * (l.length + 1) := Nat.le_mul_of_pos_left _ hk
  omega
theorem noRing_of {l : List Pl} (hs : Sorted l) (ha : Acyc l) : NoRing l := fun p hp => by
  rcases h : above l p.n p.u with _ | _
  · rfl
  · unfold above at h
    obtain ⟨k, _, hk⟩ := (abv_iff l p.n _ p.u).1 h
    refine absurd ?_ (ha (k + 1) p.n (Nat.succ_pos k))
    rw [up, (get_iff hs).2 ⟨hp, rfl⟩]
    exact hk
theorem least {P : Nat → Prop} : ∀ j, P j → ∃ j, P j ∧ ∀ i, i < j → ¬ P i := by
  intro j
  induction j using Nat.strongRecOn with
  | ind j ih =>
    intro hj
    by_cases h : ∃ i, i < j ∧ P i
    · obtain ⟨i, hi, hp⟩ := h
      exact ih i hi hp
    · exact ⟨j, hj, fun i hi hp => h ⟨i, hi, hp⟩⟩
/-- A way that doesn't come by K is one of the other tree, too. -/
theorem up_avoid {l m : List Pl} {K : Int} (hg : ∀ b, ¬ b = K → get m b = get l b) : ∀ (j : Nat) (c : Int), (∀ i, i < j → ¬ up m i c = some K) → up m j c = up l j c
  | 0, c, _ => rfl
  | j + 1, c, h => by
    have hc : ¬ c = K := fun e => h 0 (Nat.succ_pos j) (by rw [e]; rfl)
    rw [up, up, hg c hc]
    rcases hq : get l c with _ | q
    · rfl
    · rw [Option.bind_some, Option.bind_some]
      refine up_avoid hg j q.u fun i hi e => h (i + 1) (by omega) ?_
      rw [up, hg c hc, hq, Option.bind_some]; exact e
theorem put_noRing {l : List Pl} (hs : Sorted l) (hr : NoRing l) {p : Pl} (hu : above l p.n p.u = false) : NoRing (putL l p) := by
  have hp := sorted_put hs p
  refine noRing_of hp fun k b hk h => ?_
  have hg : ∀ c, ¬ c = p.n → get (putL l p) c = get l c := fun c hc => by rw [get_put hs, if_neg hc]
  by_cases hv : ∃ i, i < k ∧ up (putL l p) i b = some p.n
  · obtain ⟨i, hi, hb⟩ := hv
    have h1 : up (putL l p) (k - i) p.n = some b := by
      have : up (putL l p) (i + (k - i)) b = some b := by rw [show i + (k - i) = k by omega]; exact h
      rw [up_add, hb, Option.bind_some] at this
      exact this
    have h2 : up (putL l p) ((k - i) + i) p.n = some p.n := by rw [up_add, h1, Option.bind_some]; exact hb
    obtain ⟨m, hm⟩ : ∃ m, (k - i) + i = m + 1 := ⟨k - 1, by omega⟩
    rw [hm, up, get_put hs, if_pos rfl, Option.bind_some] at h2
    obtain ⟨j, hj, hl⟩ := least (P := fun j => up (putL l p) j p.u = some p.n) m h2
    have h3 := up_avoid hg j p.u hl
    rw [hj] at h3
    have h4 := (above_iff hr).2 ⟨j, h3.symm⟩
    rw [hu] at h4; cases h4
  · have h3 := up_avoid hg k b (fun i hi e => hv ⟨i, hi, e⟩)
    rw [h] at h3
    exact acyc_of hr k b hk h3.symm

/-- What undoes a move: what was, whether it had a place, whether it did anything. -/
structure Un where
  was : Pl
  had : Bool
  did : Bool
def noUn : Un := ⟨zero, false, false⟩
/-- A tree behind a move of p's node to p. -/
def doL (l : List Pl) (p : Pl) : List Pl × Un := if above l p.n p.u = true then (l, noUn) else (putL l p, ⟨(get l p.n).getD zero, (get l p.n).isSome, true⟩)
def backL (l : List Pl) (b : Int) (u : Un) : List Pl := if u.did = true then (if u.had = true then putL l u.was else dropL l b) else l
theorem back_do {l : List Pl} (hs : Sorted l) (p : Pl) : backL (doL l p).1 p.n (doL l p).2 = l := by
  unfold doL
  by_cases h : above l p.n p.u = true
  · rw [if_pos h]; rfl
  · rw [if_neg h]
    unfold backL
    rw [if_pos rfl]
    rcases hg : get l p.n with _ | q
    · simp only [Option.isSome_none, Bool.false_eq_true, if_false]
      exact drop_put hs hg
    · simp only [Option.isSome_some, if_true, Option.getD_some]
      exact put_back hs hg
theorem do_sorted {l : List Pl} (hs : Sorted l) (p : Pl) : Sorted (doL l p).1 := by
  unfold doL
  split
  · exact hs
  · exact sorted_put hs p
theorem do_noRing {l : List Pl} (hs : Sorted l) (hr : NoRing l) (p : Pl) : NoRing (doL l p).1 := by
  unfold doL
  by_cases h : above l p.n p.u = true
  · rw [if_pos h]; exact hr
  · rw [if_neg h]; exact put_noRing hs hr (by simpa using h)
theorem do_mem {l : List Pl} (hs : Sorted l) (p : Pl) {P : Pl → Prop} (hl : ∀ q ∈ l, P q) (hp : P p) : ∀ q ∈ (doL l p).1, P q := by
  unfold doL
  split
  · exact hl
  · intro q hq
    rcases (mem_put hs p q).1 hq with rfl | ⟨h, _⟩
    · exact hp
    · exact hl q h

/-- A tree behind moves, one by one, and what undoes each. -/
def foldL (l : List Pl) : List Pl → List Pl × List Un
  | [] => (l, [])
  | p :: ps => ((foldL (doL l p).1 ps).1, (doL l p).2 :: (foldL (doL l p).1 ps).2)
theorem foldL_app (l : List Pl) : ∀ (a b : List Pl), foldL l (a ++ b) = ((foldL (foldL l a).1 b).1, (foldL l a).2 ++ (foldL (foldL l a).1 b).2)
  | [], b => rfl
  | p :: a, b => by
    show foldL l (p :: (a ++ b)) = _
    rw [foldL, foldL_app (doL l p).1 a b]
    rfl
theorem foldL_len (l : List Pl) : ∀ (a : List Pl), (foldL l a).2.length = a.length := by
  intro a
  induction a generalizing l with
  | nil => rfl
  | cons p a ih => show ((doL l p).2 :: _).length = _; rw [List.length_cons, ih, List.length_cons]
theorem foldL_snoc (l a : List Pl) (p : Pl) : foldL l (a ++ [p]) = ((doL (foldL l a).1 p).1, (foldL l a).2 ++ [(doL (foldL l a).1 p).2]) := foldL_app l a [p]
theorem foldL_sorted {l : List Pl} (hs : Sorted l) (a : List Pl) : Sorted (foldL l a).1 := by
  induction a generalizing l with
  | nil => exact hs
  | cons p a ih => exact ih (do_sorted hs p)
theorem foldL_noRing {l : List Pl} (hs : Sorted l) (hr : NoRing l) (a : List Pl) : NoRing (foldL l a).1 := by
  induction a generalizing l with
  | nil => exact hr
  | cons p a ih => exact ih (do_sorted hs p) (do_noRing hs hr p)
theorem foldL_mem {l : List Pl} (hs : Sorted l) {P : Pl → Prop} (a : List Pl) (hl : ∀ q ∈ l, P q) (ha : ∀ q ∈ a, P q) : ∀ q ∈ (foldL l a).1, P q := by
  induction a generalizing l with
  | nil => exact hl
  | cons p a ih => exact ih (do_sorted hs p) (do_mem hs p hl (ha p (by simp))) (fun q hq => ha q (by simp [hq]))
/-- The last move undone. -/
theorem foldL_back {l : List Pl} (hs : Sorted l) (a : List Pl) (p : Pl) : backL (foldL l (a ++ [p])).1 p.n (doL (foldL l a).1 p).2 = (foldL l a).1 := by
  rw [foldL_snoc]; exact back_do (foldL_sorted hs a) p
theorem foldL_take (l a : List Pl) (j : Nat) (h : j < a.length) : foldL l (a.take (j + 1)) = ((doL (foldL l (a.take j)).1 a[j]).1, (foldL l (a.take j)).2 ++ [(doL (foldL l (a.take j)).1 a[j]).2]) := by
  rw [List.take_succ_eq_append_getElem h, foldL_snoc]
/-- What undoes the move at j. -/
theorem foldL_un : ∀ (l a : List Pl) (j : Nat) (h : j < a.length), (foldL l a).2[j]? = some (doL (foldL l (a.take j)).1 a[j]).2
  | l, p :: a, 0, _ => rfl
  | l, p :: a, j + 1, h => foldL_un (doL l p).1 a j (by simpa using h)
theorem foldL_undo {l : List Pl} (hs : Sorted l) (a : List Pl) (j : Nat) (h : j < a.length) : backL (foldL l (a.take (j + 1))).1 a[j].n (doL (foldL l (a.take j)).1 a[j]).2 = (foldL l (a.take j)).1 := by
  rw [foldL_take l a j h]; exact back_do (foldL_sorted hs _) _
theorem foldL_take_un (l a : List Pl) (k : Nat) (h : k ≤ a.length) : (foldL l (a.take k)).2 = (foldL l a).2.take k := by
  have e : a = a.take k ++ a.drop k := (List.take_append_drop k a).symm
  have h1 : (foldL l a).2 = (foldL l (a.take k)).2 ++ (foldL (foldL l (a.take k)).1 (a.drop k)).2 := by
    conv => lhs; rw [e, foldL_app]
  have h2 : (foldL l (a.take k)).2.length = k := by rw [foldL_len, List.length_take]; omega
  rw [h1]
  exact (List.take_left' h2).symm
end Tre

/- Places, operations and undos as elements; Clone of the library; Do and Back of both. -/
namespace Go.Proofs.Ytfpgfclmmdihjaa
open Go.RowKit Tre Cod

def plE : El Pl where
  e := 115
  k := 3
  c p := [.int .i64 p.n, .int .i64 p.u, .string p.s]
  len _ := rfl
  one p u h := by
    simp only [List.mem_cons, List.not_mem_nil, or_false] at h
    rcases h with rfl | rfl | rfl <;> rfl
  pos := by decide
def opE : El Mv where
  e := 48
  k := 7
  c m := [.int .i64 m.C, .int .i64 m.D, .int .i64 m.I, .int .i64 m.M, .int .i64 m.K, .int .i64 m.U, .string m.s]
  len _ := rfl
  one p u h := by
    simp only [List.mem_cons, List.not_mem_nil, or_false] at h
    rcases h with rfl | rfl | rfl | rfl | rfl | rfl | rfl <;> rfl
  pos := by decide
def unE : El Un where
  e := 120
  k := 5
  c u := [.int .i64 u.was.n, .int .i64 u.was.u, .string u.was.s, .bool u.had, .bool u.did]
  len _ := rfl
  one p u h := by
    simp only [List.mem_cons, List.not_mem_nil, or_false] at h
    rcases h with rfl | rfl | rfl | rfl | rfl <;> rfl
  pos := by decide
theorem plInn : plE.Inn Try.prog 23 := El.inn_of (z := .agg #[.int .i64 0, .int .i64 0, .string ⟨#[]⟩]) (bytes := 32) Try.underlying23 (by kernel_rfl) rfl (by decide)
theorem opInn : opE.Inn Try.prog 24 := El.inn_of (z := .agg #[.int .i64 0, .int .i64 0, .int .i64 0, .int .i64 0, .int .i64 0, .int .i64 0, .string ⟨#[]⟩]) (bytes := 64) Try.underlying24 (by kernel_rfl) rfl (by decide)
theorem unInn : unE.Inn Try.prog 25 := El.inn_of (z := .agg #[.int .i64 0, .int .i64 0, .string ⟨#[]⟩, .bool false, .bool false]) (bytes := 40) Try.underlying25 (by kernel_rfl) rfl (by decide)
theorem plRow : plE.Row Try.prog := ⟨by kernel_rfl, _, Try.underlying115, rfl⟩
theorem opRow : opE.Row Try.prog := ⟨by kernel_rfl, _, Try.underlying48, rfl⟩
theorem unRow : unE.Row Try.prog := ⟨by kernel_rfl, _, Try.underlying120, rfl⟩

theorem plAt {w : World} {b o : Nat} {p : Pl} : plE.At w b o p ↔ AtPl w b o p := by
  constructor
  · intro h
    exact ⟨h 0 _ rfl, h 1 _ rfl, h 2 _ rfl⟩
  · rintro ⟨h0, h1, h2⟩ j u hu
    match j, hu with
    | 0, hu => cases hu; exact h0
    | 1, hu => cases hu; exact h1
    | 2, hu => cases hu; exact h2
theorem opAt {w : World} {b o : Nat} {m : Mv} (h : opE.At w b o m) : w.cell? ⟨b, o, none⟩ = some (.int .i64 m.C) ∧ w.cell? ⟨b, o + 1, none⟩ = some (.int .i64 m.D) ∧ w.cell? ⟨b, o + 2, none⟩ = some (.int .i64 m.I) ∧ w.cell? ⟨b, o + 3, none⟩ = some (.int .i64 m.M) ∧ w.cell? ⟨b, o + 4, none⟩ = some (.int .i64 m.K) ∧ w.cell? ⟨b, o + 5, none⟩ = some (.int .i64 m.U) ∧ w.cell? ⟨b, o + 6, none⟩ = some (.string m.s) :=
  ⟨h 0 _ rfl, h 1 _ rfl, h 2 _ rfl, h 3 _ rfl, h 4 _ rfl, h 5 _ rfl, h 6 _ rfl⟩
theorem unAt {w : World} {b o : Nat} {x : Un} (h : unE.At w b o x) : w.cell? ⟨b, o, none⟩ = some (.int .i64 x.was.n) ∧ w.cell? ⟨b, o + 1, none⟩ = some (.int .i64 x.was.u) ∧ w.cell? ⟨b, o + 2, none⟩ = some (.string x.was.s) ∧ w.cell? ⟨b, o + 3, none⟩ = some (.bool x.had) ∧ w.cell? ⟨b, o + 4, none⟩ = some (.bool x.did) :=
  ⟨h 0 _ rfl, h 1 _ rfl, h 2 _ rfl, h 3 _ rfl, h 4 _ rfl⟩
theorem plIn3 {w : World} {b : Nat} {p : Pl} (h : plE.In w b p) : w.cell? ⟨b, 0, none⟩ = some (.int .i64 p.n) ∧ w.cell? ⟨b, 1, none⟩ = some (.int .i64 p.u) ∧ w.cell? ⟨b, 2, none⟩ = some (.string p.s) :=
  ⟨h.cell 0, h.cell 1, h.cell 2⟩
theorem opIn7 {w : World} {b : Nat} {m : Mv} (h : opE.In w b m) : w.cell? ⟨b, 0, none⟩ = some (.int .i64 m.C) ∧ w.cell? ⟨b, 1, none⟩ = some (.int .i64 m.D) ∧ w.cell? ⟨b, 2, none⟩ = some (.int .i64 m.I) ∧ w.cell? ⟨b, 3, none⟩ = some (.int .i64 m.M) ∧ w.cell? ⟨b, 4, none⟩ = some (.int .i64 m.K) ∧ w.cell? ⟨b, 5, none⟩ = some (.int .i64 m.U) ∧ w.cell? ⟨b, 6, none⟩ = some (.string m.s) :=
  ⟨h.cell 0, h.cell 1, h.cell 2, h.cell 3, h.cell 4, h.cell 5, h.cell 6⟩
theorem unIn5 {w : World} {b : Nat} {x : Un} (h : unE.In w b x) : w.cell? ⟨b, 0, none⟩ = some (.int .i64 x.was.n) ∧ w.cell? ⟨b, 1, none⟩ = some (.int .i64 x.was.u) ∧ w.cell? ⟨b, 2, none⟩ = some (.string x.was.s) ∧ w.cell? ⟨b, 3, none⟩ = some (.bool x.had) ∧ w.cell? ⟨b, 4, none⟩ = some (.bool x.did) :=
  ⟨h.cell 0, h.cell 1, h.cell 2, h.cell 3, h.cell 4⟩
theorem plSl {w : World} {A : Option Addr} {l : List Pl} : plE.Sl w A l ↔ Tr w A l :=
  ⟨fun h h0 => let ⟨b, off, e, hb, hc⟩ := h h0; ⟨b, off, e, hb, fun i hi => plAt.1 (hc i hi)⟩, fun h h0 => let ⟨b, off, e, hb, hc⟩ := h h0; ⟨b, off, e, hb, fun i hi => plAt.2 (hc i hi)⟩⟩

/-- A slice of the whole: what it says, and that it holds the list. -/
def SlV {α : Type} (E : El α) (w : World) (A : Option Addr) (c : Nat) (l : List α) : Prop := E.Sl w A l ∧ (A = none → c = 0) ∧ l.length ≤ c
theorem SlV.below {α : Type} {E : El α} {W w : World} {A : Option Addr} {c : Nat} {l : List α} (h : SlV E W A c l) (hb : Below W.heap.size W w) : SlV E w A c l := ⟨h.1.below hb, h.2⟩
theorem SlV.nil {α : Type} (E : El α) (w : World) : SlV E w none 0 [] := ⟨El.Sl.nil w none, fun _ => rfl, Nat.le_refl _⟩
theorem frs_nil (B : Nat) : Frs B none := fun a e => by cases e
theorem frs_of {B b : Nat} {A : Option Addr} (h : Frs B A) (hb : b < B) : ∀ a, A = some a → some a.block ≠ some b := fun a e e2 => by
  have := h a e; have := Option.some.inj e2; omega
theorem El.Own.frs {α : Type} {E : El α} {w : World} {B n c : Nat} {A : Option Addr} {l : List α} (h : E.Own w B (.slice A n c) l) : Frs B A := fun a e => (World.ownsRow.lt h a.block (by rw [e]; rfl)).1
/-- A block ahead of it is written: it stays. -/
theorem SlV.keep {α : Type} {E : El α} {w w' : World} {A : Option Addr} {c B b : Nat} {l : List α} (h : SlV E w A c l) (hf : Frs B A) (hg : w.grownBy w' (some b)) (hb : b < B) : SlV E w' A c l :=
  ⟨h.1.keep hg (fun a e e2 => by have := hf a e; have := Option.some.inj e2; omega), h.2⟩
theorem by_row (w : World) (b : Nat) (cs : Array Value) : w.grownBy (w.setRow b cs) (some b) := ⟨rfl, rfl, rfl, by simp, fun k _ hk => setRow_other w b k cs (fun e => hk (by rw [e]))⟩
theorem by_cell (w : World) (b i : Nat) (v : Value) : w.grownBy (w.setCell ⟨b, i, none⟩ v) (some b) := ⟨rfl, rfl, rfl, by simp, fun k _ hk => heap_setCell_other w ⟨b, i, none⟩ k v (fun e => hk (by rw [e]))⟩
theorem by_cell2 {w w' : World} {b : Nat} (h : w.grownBy w' (some b)) (i : Nat) (v : Value) : w.grownBy (w'.setCell ⟨b, i, none⟩ v) (some b) := by
  have hg := by_cell w' b i v
  exact ⟨hg.os.trans h.os, hg.tape.trans h.tape, hg.output.trans h.output, Nat.le_trans h.size hg.size, fun k hk hne => (hg.block k (Nat.lt_of_lt_of_le hk h.size) hne).trans (h.block k hk hne)⟩
/-- An undo written cell by cell. -/
theorem un_put {w : World} {b : Nat} {x : Un} (h : unE.In w b x) (y : Un) :
    unE.In (((((w.setCell ⟨b, 0, none⟩ (.int .i64 y.was.n)).setCell ⟨b, 1, none⟩ (.int .i64 y.was.u)).setCell ⟨b, 2, none⟩ (.string y.was.s)).setCell ⟨b, 3, none⟩ (.bool y.had)).setCell ⟨b, 4, none⟩ (.bool y.did)) b y ∧
    w.grownBy (((((w.setCell ⟨b, 0, none⟩ (.int .i64 y.was.n)).setCell ⟨b, 1, none⟩ (.int .i64 y.was.u)).setCell ⟨b, 2, none⟩ (.string y.was.s)).setCell ⟨b, 3, none⟩ (.bool y.had)).setCell ⟨b, 4, none⟩ (.bool y.did)) (some b) := by
  refine ⟨?_, by_cell2 (by_cell2 (by_cell2 (by_cell2 (by_cell w b 0 _) 1 _) 2 _) 3 _) 4 _⟩
  have h1 := h.put ⟨⟨y.was.n, x.was.u, x.was.s⟩, x.had, x.did⟩ 0 (.int .i64 y.was.n) rfl
  have h2 := h1.put ⟨⟨y.was.n, y.was.u, x.was.s⟩, x.had, x.did⟩ 1 (.int .i64 y.was.u) rfl
  have h3 := h2.put ⟨⟨y.was.n, y.was.u, y.was.s⟩, x.had, x.did⟩ 2 (.string y.was.s) rfl
  have h4 := h3.put ⟨⟨y.was.n, y.was.u, y.was.s⟩, y.had, x.did⟩ 3 (.bool y.had) rfl
  exact h4.put y 4 (.bool y.did) rfl
theorem SlV.own {α : Type} {E : El α} {w : World} {B : Nat} {v : Value} {l : List α} (h : E.Own w B v l) : ∃ A c, v = .slice A l.length c ∧ SlV E w A c l :=
  let ⟨A, c, e, h1, h2, h3⟩ := h.sl
  ⟨A, c, e, h1, h2, h3⟩
def mvPl (m : Mv) : Pl := ⟨m.K, m.U, m.s⟩
def unV (u : Un) : Value := .agg #[.int .i64 u.was.n, .int .i64 u.was.u, .string u.was.s, .bool u.had, .bool u.did]
def mvV (m : Mv) : Value := .agg #[.int .i64 m.C, .int .i64 m.D, .int .i64 m.I, .int .i64 m.M, .int .i64 m.K, .int .i64 m.U, .string m.s]
def plV (p : Pl) : Value := .agg #[.int .i64 p.n, .int .i64 p.u, .string p.s]

theorem below_own {w w1 w2 : World} {row : Option Nat} (h : Below w.heap.size w w1) (hg : w1.grownBy w2 row) (hrow : ∀ n, row = some n → w.heap.size ≤ n) : Below w.heap.size w w2 := h.grown hg h.size hrow

set_option maxRecDepth 100000 in
theorem clonePl_any (A : Option Addr) (c : Nat) (l : List Pl) (w : World) (hl : l.length ≤ 50000) (hT : SlV plE w A c l) :
    Calls Try.prog 97 #[.slice A l.length c] w fun e w' => ∃ A' c', e = .returned (.slice A' l.length c') ∧ SlV plE w' A' c' l ∧ Frs w.heap.size A' ∧ Below w.heap.size w w' := by
  obtain ⟨hT, hz, hlc⟩ := hT
  have q : ∀ (w : World) (a : Option Addr) (n c n' c' : Nat), (binOp .eql 23 (.slice a n c) (.slice none n' c')).run Try.prog w = .ok (.bool a.isNone) w := fun w a n c n' c' => Lib.run_eql_slice_nil w _ _ a n c n' c' Try.underlying23
  cases A with
  | none =>
    obtain rfl := hT.none_nil
    obtain rfl := hz rfl
    go_enter Try.func97, Try.ntmps97
    go_wp2
    go_ret
    exact ⟨none, 0, rfl, SlV.nil _ _, frs_nil _, Below.refl _ _⟩
  | some a =>
    go_enter Try.func97, Try.ntmps97
    have hE := El.Own.empty (E := plE) w w.heap.size (Nat.le_refl _)
    have hb0 := below_alloc (Below.refl w.heap.size w) (.cells #[] 115)
    go_wp2_with (at_builtin; refine El.wpList_app plInn rfl _ _ rfl w.heap.size _ [] l rfl hE (some a) _ c rfl rfl (hT.below hb0) (fun e => by cases e) (by simp; omega) (by simp) ?_; intro v' w2 hown hg _)
    obtain ⟨A', c', rfl, hS⟩ := SlV.own hown
    go_wp2
    go_ret
    exact ⟨A', c', rfl, hS, hown.frs, below_own hb0 hg (hE.rows)⟩
end Go.Proofs.Ytfpgfclmmdihjaa

/- The program's tree.Read, and of whose making the list is. -/
namespace Go.Proofs.Ytfpgfclmmdihjaa
open Go.RowKit Tre Cod Nam

set_option maxRecDepth 100000 in
set_option maxHeartbeats 8000000 in
theorem treeRead_slv {w : World} {b p : Nat} {s : ByteArray} {bad : Bool} (hs : s.size ≤ 1000000) (hp : p ≤ s.size) (hr : Rd 75 w b s p bad) :
    Calls Try.prog 67 #[.pointer (some ⟨b, 0, none⟩)] w fun e w' => ∃ A cap l q bad', e = .returned (.slice A l.length cap) ∧ SlV plE w' A cap l ∧ Frs w.heap.size A ∧ l.length ≤ 64 ∧ Rd 75 w' b s q bad' ∧ q ≤ s.size ∧ w.grownBy w' (some b) ∧ treeStep s p bad l q bad' := by
  have hbw := hr.lt
  obtain ⟨i, hi, hz0, hz1, hz2⟩ := info_parts pl_info
  go_enter Try.func67, Try.ntmps67
  go_wp2_with fail
  refine (cnt_uni hs hp hr).mono ?_
  rintro e w1 ⟨n, q0, b0, rfl, hn, hR, hq0, hG, hst⟩
  have hsz := hG.size
  go_wp2_with (at_make; refine wpList_make_own _ rfl _ _ 23 rfl w.heap.size 115 i _ 3 Try.underlying23 hi hz0 hz1 .i64 .i64 (n : Int) n rfl rfl rfl (by rw [hz2]; omega) (by unfold maxLen; omega) hsz ?_; intro w2 hown hg2)
  have hO : Own w2 w.heap.size (.slice (some ⟨w1.heap.size, 0, none⟩) 0 n) [] := hown
  have hR := hR.keep hg2 (by simp)
  have hG := by_own hG hg2 (fun k e => by cases e)
  have hw := wayStep.start hst
  clear hown hg2 hst hr hsz
  generalize w1.heap.size = nb at *
  go_loopw [4, 10] (fun x y wr => ∃ (k : Nat) (l : List Pl) (q : Nat) (b1 : Bool), k ≤ n ∧ l.length = k ∧ y = .int .i64 k ∧ Own wr w.heap.size x l ∧ Rd 75 wr b s q b1 ∧ q ≤ s.size ∧ w.grownBy wr (some b) ∧ (∀ p ∈ l, p.s.size ≤ 1000000) ∧ wayStep s p bad n k l q b1) (fun _ y _ => n - (intOf y).toNat)
  case atStart => exact ⟨0, [], q0, b0, Nat.zero_le _, rfl, rfl, hO, hR, hq0, hG, (fun p hp => by cases hp), hw⟩
  case round =>
    clear hO hR hG hw hq0
    obtain ⟨k, l, q, b1, hkn, hlk, rfl, hO, hR, hq, hG, hz, hw⟩ := hrel
    have hsz := hG.size
    by_cases hlt : k < n
    · have HZ := Lib.hid hz
      have HW := Lib.hid hw
      clear hz hw
      go_wp2_with fail
      refine (readPlace_uni hs hq hR).mono ?_
      clear hR hq
      rintro e w3 ⟨v, q', b2, rfl, hR, hq, hv, hg3, hst⟩
      have hO := hO.kept hg3 (Or.inr (fun e => by have := (World.ownsRow.lt hO b e).1; omega))
      have hG := by_trans hG hg3
      have hw := HW.out.next hlt hst
      have hz : ∀ p ∈ l ++ [v], p.s.size ≤ 1000000 := fun p hp => by
        rcases List.mem_append.1 hp with h | h
        · exact HZ.out p h
        · rw [List.mem_singleton] at h; subst h; exact hv
      have hb4 := below_alloc (Below.refl _ w3) (.cells #[.int .i64 v.n, .int .i64 v.u, .string v.s] 115)
      have hE := AtPl.one (PlIn.new w3 v)
      have hO := hO.below hb4
      have hR := hR.below hb4
      have hG := by_trans hG (by_below hb4 _)
      have hB := hG.size
      have hl3 : l.length ≤ 64 := by omega
      have HLK := Lib.hid hlk
      clear hg3 hb4 hst HZ HW hsz hlk
      have HW := Lib.hid hw
      have HZ := Lib.hid hz
      clear hw hz
      go_wp2_with (at_builtin; refine wpList_app rfl _ _ rfl w.heap.size _ l [v] rfl hO (some ⟨w3.heap.size, 0, none⟩) 1 1 rfl rfl hE (fun e => by cases e) (by have : [v].length = 1 := rfl; omega) hB ?_; intro v' w5 hO5 hg5 _)
      have hR := hR.keep hg5 (fun e => by have := (World.ownsRow.lt hO b e.symm).1; omega)
      have hG := by_own hG hg5 (fun k e => (World.ownsRow.lt hO k e).1)
      go_wp2
      go_roundw
      case rel => exact ⟨k + 1, l ++ [v], q', b2, by omega, by have := HLK.out; rw [List.length_append, this]; rfl, by go_num, hO5, hR, hq, hG, HZ.out, HW.out⟩
      case measure => simp [intOf]; omega
    · obtain rfl : k = n := by omega
      obtain ⟨A, cap, rfl, hTr, hA0, hAc⟩ := hO.tr
      have HA := Lib.hid (⟨hA0, hAc, hO.frs⟩ : (A = none → cap = 0) ∧ l.length ≤ cap ∧ Frs w.heap.size A)
      clear hA0 hAc
      have hl64 : l.length ≤ 64 := by omega
      clear hlk
      obtain ⟨r0, r1, r2⟩ := hR.cells
      clear r0 r1
      have rf := hR.frozen
      cases b1
      · have hop := hw.good
        have C := fun w (hT : Tr w A l) => right_any A cap l w (by omega) (fun p hp => Nat.le_trans (hz p hp) (by omega)) hT
        obtain ⟨tb, htb⟩ : ∃ x, treeB l = x := ⟨_, rfl⟩
        rw [htb] at C hop
        have HC := Lib.hid C
        have HOP := Lib.hid hop
        clear C hop hw hz hO htb
        cases tb
        · go_wp2_with fail
          refine (HC.out _ hTr).mono ?_
          rintro e w8 ⟨rfl, hb8⟩
          have hR := hR.below hb8
          have hG := by_trans hG (by_below hb8 _)
          clear hTr hb8 HC r2 rf
          obtain ⟨r0, r1, r2⟩ := hR.cells
          clear r0 r1
          have rf := hR.frozen
          go_wp2_with fail
          go_ret
          exact ⟨none, 0, [], q, true, rfl, SlV.nil _ _, frs_nil _, Nat.zero_le _, hR.setBad, hq, by_set hG 2 (.bool true), Or.inr ⟨by rw [HOP.out]; simp, rfl, rfl⟩⟩
        · go_wp2_with fail
          refine (HC.out _ hTr).mono ?_
          rintro e w8 ⟨rfl, hb8⟩
          have hR := hR.below hb8
          have hG := by_trans hG (by_below hb8 _)
          have hTr := hTr.below hb8
          clear hb8 HC r2 rf
          go_wp2_with fail
          go_ret
          exact ⟨A, cap, l, q, false, rfl, ⟨plSl.2 hTr, HA.out.1, HA.out.2.1⟩, HA.out.2.2, by omega, hR, hq, hG, Or.inl ⟨by rw [HOP.out]; simp, rfl⟩⟩
      · have HOP := Lib.hid (hw.ill hkn)
        clear hw hz hO hTr
        go_wp2_with fail
        go_ret
        exact ⟨none, 0, [], q, true, rfl, SlV.nil _ _, frs_nil _, Nat.zero_le _, hR.setBad, hq, by_set hG 2 (.bool true), Or.inr ⟨HOP.out, rfl, rfl⟩⟩

theorem treeRead_yes {w : World} {b p q : Nat} {s : ByteArray} {l : List Pl} (hs : s.size ≤ 1000000) (hp : p ≤ s.size) (hr : Rd 75 w b s p false) (h : isTree s p false = some (l, q)) :
    Calls Try.prog 67 #[.pointer (some ⟨b, 0, none⟩)] w fun e w' => ∃ A cap, e = .returned (.slice A l.length cap) ∧ SlV plE w' A cap l ∧ Frs w.heap.size A ∧ Rd 75 w' b s q false ∧ w.grownBy w' (some b) := by
  refine (treeRead_slv hs hp hr).mono ?_
  rintro e w' ⟨A, cap, l', q', bad', rfl, h1, h2, _, hR, _, hG, st⟩
  rcases st with ⟨h', rfl⟩ | ⟨h', _⟩
  · rw [h] at h'; cases h'
    exact ⟨A, cap, rfl, h1, h2, hR, hG⟩
  · rw [h] at h'; cases h'
end Go.Proofs.Ytfpgfclmmdihjaa

/- The program's readOps, where operations stand. -/
namespace Go.Proofs.Ytfpgfclmmdihjaa
open Go.RowKit Tre Cod Nam

theorem op_zero : ∃ i z, Try.prog.info? opE.e = some i ∧ i.zero = some z ∧ z.cells.toList = opE.c zeroMv := by
  obtain ⟨i, hi, hz, _, _⟩ := info_parts (show (Try.prog.info? 48).map (fun i => (i.zero, i.size, i.bytes)) = some (some (.agg #[.int .i64 0, .int .i64 0, .int .i64 0, .int .i64 0, .int .i64 0, .int .i64 0, .string ⟨#[]⟩]), 7, 64) by kernel_rfl)
  exact ⟨i, _, hi, hz, rfl⟩

set_option maxRecDepth 100000 in
set_option maxHeartbeats 2000000 in
theorem pReadOps_yes {w : World} {b p : Nat} {s : ByteArray} (l : List Mv) (pos : Nat → Nat) (hs : s.size ≤ 1000000) (hp : p ≤ s.size) (hr : Rd 75 w b s p false) (hl : l.length ≤ 60)
    (hcnt : isCount s p false 4096 = some ((l.length : Int), pos 0)) (hop : ∀ k (h : k < l.length), isOp s (pos k) false = some (l[k], pos (k + 1))) (hpos : ∀ k, k ≤ l.length → pos k ≤ s.size) :
    Calls Try.prog 68 #[.pointer (some ⟨b, 0, none⟩)] w fun e w' => ∃ A c, e = .returned (.slice A l.length c) ∧ SlV opE w' A c l ∧ Frs w.heap.size A ∧ Rd 75 w' b s (pos l.length) false ∧ w.grownBy w' (some b) := by
  have hbw := hr.lt
  have CC := count_yes (most := 4096) hs hp hr hcnt
  have HOP := Lib.hid hop
  have HPO := Lib.hid hpos
  clear hop hpos hcnt
  go_enter Try.func68, Try.ntmps68
  go_wp2_with fail
  refine CC.mono ?_
  rintro e w1 ⟨rfl, hR, hG⟩
  have hsz := hG.size
  clear CC hr hp
  go_wp2_with (at_make; refine El.wpList_make opInn zeroMv op_zero rfl _ _ rfl w.heap.size 0 l.length rfl rfl (by omega) (Nat.zero_le _) hsz ?_; intro w2 hO hg2 hg2s)
  replace hO : opE.Own w2 w.heap.size (.slice (some ⟨w1.heap.size, 0, none⟩) 0 l.length) [] := hO
  replace hR := hR.keep hg2 (by simp)
  replace hG := by_own hG hg2 (fun k e => by cases e)
  clear hg2 hg2s hsz
  generalize w1.heap.size = nb at *
  go_loopw [4, 10] (fun x y wr => ∃ k : Nat, k ≤ l.length ∧ y = .int .i64 k ∧ opE.Own wr w.heap.size x (l.take k) ∧ Rd 75 wr b s (pos k) false ∧ w.grownBy wr (some b)) (fun _ y _ => l.length - (intOf y).toNat)
  case atStart => exact ⟨0, Nat.zero_le _, rfl, hO, hR, hG⟩
  case round =>
    clear hO hR hG
    obtain ⟨k, hk, rfl, hO, hR, hG⟩ := hrel
    by_cases hlt : k < l.length
    · have CR := opRead_yes hs (HPO.out k hk) hR (HOP.out k hlt)
      have htk := List.take_succ_eq_append_getElem hlt
      obtain ⟨m, hm⟩ : ∃ m, l[k] = m := ⟨_, rfl⟩
      rw [hm] at CR htk
      have HTK := Lib.hid htk
      have hsz := hG.size
      clear hm htk
      go_wp2_with fail
      refine CR.mono ?_
      clear CR hR
      rintro e w3 ⟨rfl, hR, hg3⟩
      replace hO := hO.kept hg3 (Or.inr (fun e => by have := (hO.lt b e).1; omega))
      replace hG := by_trans hG hg3
      have hb4 := below_alloc (Below.refl _ w3) (.cells #[.int .i64 m.C, .int .i64 m.D, .int .i64 m.I, .int .i64 m.M, .int .i64 m.K, .int .i64 m.U, .string m.s] 48)
      have hE : opE.Sl (w3.alloc (.cells #[.int .i64 m.C, .int .i64 m.D, .int .i64 m.I, .int .i64 m.M, .int .i64 m.K, .int .i64 m.U, .string m.s] 48)) (some ⟨w3.heap.size, 0, none⟩) [m] := (El.In.new (E := opE) w3 m _ rfl).sl
      replace hO := hO.below hb4
      replace hR := hR.below hb4
      replace hG := by_trans hG (by_below hb4 _)
      have hB := hG.size
      have hlt2 : (l.take k).length + 1 ≤ 100000 := by rw [List.length_take]; omega
      have HLT := Lib.hid hlt2
      clear hg3 hb4 hsz hlt2
      go_wp2_with (at_builtin; refine El.wpList_app opInn rfl _ _ rfl w.heap.size _ (l.take k) [m] rfl hO (some ⟨w3.heap.size, 0, none⟩) 1 1 rfl rfl hE (fun e => by cases e) HLT.out hB ?_; intro v' w5 hO5 hg5 _)
      replace hR := hR.keep hg5 (fun e => by have := (hO.lt b e.symm).1; omega)
      replace hG := by_own hG hg5 (fun k e => (hO.lt k e).1)
      go_wp2
      go_roundw
      case rel => exact ⟨k + 1, by omega, by go_num, by rw [HTK.out]; exact hO5, hR, hG⟩
      case measure => simp [intOf]; omega
    · obtain rfl : k = l.length := by omega
      rw [List.take_length] at hO
      obtain ⟨A, c, rfl, hS, h0, hc⟩ := hO.sl
      have HS := Lib.hid (⟨⟨hS, h0, hc⟩, hO.frs⟩ : SlV opE wr A c l ∧ Frs w.heap.size A)
      clear hS h0 hc hO
      go_wp2_with fail
      go_ret
      exact ⟨A, c, rfl, HS.out.1, HS.out.2, hR, hG⟩
end Go.Proofs.Ytfpgfclmmdihjaa

/- Do and Back of the program. -/
namespace Go.Proofs.Ytfpgfclmmdihjaa
open Go.RowKit Tre Cod

theorem plV_get (l : List Pl) (b : Int) : ∃ p is, (Tre.get l b).getD zero = p ∧ (Tre.get l b).isSome = is := ⟨_, _, rfl, rfl⟩
theorem same_pl (A : Option Addr) (c : Nat) (l : List Pl) (w : World) (hl : l.length ≤ 50000) (hT : SlV plE w A c l) :
    Calls Try.prog 85 #[.slice A l.length c] w fun e w' => ∃ A' c', e = .returned (.slice A' l.length c') ∧ SlV plE w' A' c' l ∧ Frs w.heap.size A' ∧ Below w.heap.size w w' := by
  have C := clonePl_any A c l w hl hT
  go_enter Try.func85, Try.ntmps85
  go_wp2_with (go_at_call 97; (with_reducible refine C.mono ?_); rintro e w1 ⟨A', c', rfl, hS, hf, hb⟩)
  go_ret
  exact ⟨A', c', rfl, hS, hf, hb⟩

theorem put_sl (A : Option Addr) (c : Nat) (l : List Pl) (p : Pl) (w : World) (hl : l.length ≤ 900) (hs : Sorted l) (hT : SlV plE w A c l) :
    Calls Try.prog 100 #[.slice A l.length c, .agg #[.int .i64 p.n, .int .i64 p.u, .string p.s]] w fun e w' => ∃ A' c', e = .returned (.slice A' (putL l p).length c') ∧ SlV plE w' A' c' (putL l p) ∧ Frs w.heap.size A' ∧ Below w.heap.size w w' :=
  (put_any A c l p w hl hs (plSl.1 hT.1) hT.2.2 hT.2.1).mono fun _ _ ⟨A', c', he, ht, hz, hlc, hf, hb⟩ => ⟨A', c', he, ⟨plSl.2 ht, hz, hlc⟩, hf, hb⟩
set_option maxRecDepth 100000 in
set_option maxHeartbeats 4000000 in
theorem do_any (A : Option Addr) (c : Nat) (l : List Pl) (m : Mv) (w : World) (hl : l.length ≤ 900) (hs : Sorted l) (hT : SlV plE w A c l) :
    Calls Try.prog 86 #[.slice A l.length c, .agg #[.int .i64 m.C, .int .i64 m.D, .int .i64 m.I, .int .i64 m.M, .int .i64 m.K, .int .i64 m.U, .string m.s]] w fun e w' => ∃ A' c', e = .returned (.tuple #[.slice A' (doL l (mvPl m)).1.length c', unV (doL l (mvPl m)).2]) ∧ SlV plE w' A' c' (doL l (mvPl m)).1 ∧ Frs w.heap.size A' ∧ Below w.heap.size w w' := by
  have C1 := fun w (hT : SlV plE w A c l) => above_any A c l m.K m.U w (by omega) hs (plSl.1 hT.1)
  have C2 := fun w (hT : SlV plE w A c l) => same_pl A c l w (by omega) hT
  have C4 := fun w (hT : SlV plE w A c l) => put_sl A c l ⟨m.K, m.U, m.s⟩ w hl hs hT
  have hdo : doL l (mvPl m) = if above l m.K m.U = true then (l, noUn) else (putL l ⟨m.K, m.U, m.s⟩, ⟨(Tre.get l m.K).getD zero, (Tre.get l m.K).isSome, true⟩) := rfl
  obtain ⟨p, is, hp, hi⟩ := plV_get l m.K
  have C3 := fun w (hT : SlV plE w A c l) => get_any A c l m.K w (by omega) hs (plSl.1 hT.1) p is hp hi
  rw [hp, hi] at hdo
  clear hp hi hs
  obtain ⟨ab, hab⟩ : ∃ ab, above l m.K m.U = ab := ⟨_, rfl⟩
  rw [hab] at C1 hdo
  clear hab
  have hdo : (doL l (mvPl m)).1 = (if ab = true then l else putL l ⟨m.K, m.U, m.s⟩) ∧ (doL l (mvPl m)).2 = if ab = true then noUn else ⟨p, is, true⟩ := by rw [hdo]; cases ab <;> exact ⟨rfl, rfl⟩
  obtain ⟨hd1, hd2⟩ := hdo
  rw [hd1, hd2]
  clear hd1 hd2
  generalize putL l ⟨m.K, m.U, m.s⟩ = R at *
  have HC1 := Lib.hid C1
  have HC2 := Lib.hid C2
  have HC3 := Lib.hid C3
  have HC4 := Lib.hid C4
  clear C1 C2 C3 C4
  go_enter Try.func86, Try.ntmps86
  go_wp2_with fail
  have hO : opE.In ((w.alloc (.cells #[.int .i64 m.C, .int .i64 m.D, .int .i64 m.I, .int .i64 m.M, .int .i64 m.K, .int .i64 m.U, .string m.s] 48)).alloc (.cells #[.int .i64 0, .int .i64 0, .string ⟨#[]⟩, .bool false, .bool false] 120)) w.heap.size m := (El.In.new (E := opE) w m _ rfl).alloc _
  have hU : unE.In ((w.alloc (.cells #[.int .i64 m.C, .int .i64 m.D, .int .i64 m.I, .int .i64 m.M, .int .i64 m.K, .int .i64 m.U, .string m.s] 48)).alloc (.cells #[.int .i64 0, .int .i64 0, .string ⟨#[]⟩, .bool false, .bool false] 120)) (w.heap.size + 1) noUn := by
    have := El.In.new (E := unE) (w.alloc (.cells #[.int .i64 m.C, .int .i64 m.D, .int .i64 m.I, .int .i64 m.M, .int .i64 m.K, .int .i64 m.U, .string m.s] 48)) noUn #[.int .i64 0, .int .i64 0, .string ⟨#[]⟩, .bool false, .bool false] rfl
    rw [alloc_size] at this; exact this
  have hB := below_alloc (below_alloc (Below.refl w.heap.size w) (.cells #[.int .i64 m.C, .int .i64 m.D, .int .i64 m.I, .int .i64 m.M, .int .i64 m.K, .int .i64 m.U, .string m.s] 48)) (.cells #[.int .i64 0, .int .i64 0, .string ⟨#[]⟩, .bool false, .bool false] 120)
  generalize (w.alloc (.cells #[.int .i64 m.C, .int .i64 m.D, .int .i64 m.I, .int .i64 m.M, .int .i64 m.K, .int .i64 m.U, .string m.s] 48)).alloc (.cells #[.int .i64 0, .int .i64 0, .string ⟨#[]⟩, .bool false, .bool false] 120) = W at *
  have hn0 : w.heap.size ≤ w.heap.size := Nat.le_refl _
  obtain ⟨n0, h0⟩ : ∃ n, w.heap.size = n := ⟨_, rfl⟩
  obtain ⟨n1, h1⟩ : ∃ n, w.heap.size + 1 = n := ⟨_, rfl⟩
  have hn1 : w.heap.size ≤ n1 := by omega
  have h01 : n0 ≠ n1 := by omega
  rw [h1] at hU ⊢
  have hTW := hT.below hB
  rw [h0] at hO hn0 hn1 hB ⊢
  refine (HC1.out _ hTW).mono ?_
  rintro e w1 ⟨rfl, hb1⟩
  replace hO := hO.below hb1
  replace hU := hU.below hb1
  replace hTW := hTW.below hb1
  replace hB : Below n0 w w1 := hB.trans (hb1.mono (by have := hB.size; omega))
  clear hb1 hT
  clear hdo
  cases ab
  · simp only [Bool.false_eq_true, if_false]
    obtain ⟨k0, k1, k2, k3, k4, k5, k6⟩ := opAt hO.at
    go_wp2_with fail
    refine (HC3.out _ hTW).mono ?_
    rintro e w2 ⟨rfl, hb1⟩
    replace hO := hO.below hb1
    replace hU := hU.below hb1
    replace hTW := hTW.below hb1
    replace hB : Below n0 w w2 := hB.trans (hb1.mono (by have := hB.size; omega))
    clear hb1 k0 k1 k2 k3 k4 k5 k6
    have hs2 := hB.size
    have hlt1 := hU.lt
    have hlt0 := hO.lt
    have hne0 : n0 ≠ w2.heap.size := by omega
    have hne1 : n1 ≠ w2.heap.size := by omega
    obtain ⟨k0, k1, k2, k3, k4, k5, k6⟩ := opAt hO.at
    go_wp2_with fail
    have hP : plE.In ((w2.alloc (.cells #[.int .i64 p.n, .int .i64 p.u, .string p.s] 115)).alloc (.cells #[.int .i64 m.K, .int .i64 m.U, .string m.s] 115)) w2.heap.size p := (El.In.new (E := plE) w2 p _ rfl).alloc _
    have hQ : plE.In ((w2.alloc (.cells #[.int .i64 p.n, .int .i64 p.u, .string p.s] 115)).alloc (.cells #[.int .i64 m.K, .int .i64 m.U, .string m.s] 115)) (w2.heap.size + 1) ⟨m.K, m.U, m.s⟩ := by
      have := El.In.new (E := plE) (w2.alloc (.cells #[.int .i64 p.n, .int .i64 p.u, .string p.s] 115)) ⟨m.K, m.U, m.s⟩ #[.int .i64 m.K, .int .i64 m.U, .string m.s] rfl
      rw [alloc_size] at this; exact this
    have hb3 := below_alloc (below_alloc (Below.refl w2.heap.size w2) (.cells #[.int .i64 p.n, .int .i64 p.u, .string p.s] 115)) (.cells #[.int .i64 m.K, .int .i64 m.U, .string m.s] 115)
    replace hU := hU.below hb3
    replace hTW := hTW.below hb3
    replace hB := hB.trans (hb3.mono (by omega))
    have hs3 := hb3.size
    clear hb3 k0 k1 k2 k3 k4 k5 k6 hO
    generalize (w2.alloc (.cells #[.int .i64 p.n, .int .i64 p.u, .string p.s] 115)).alloc (.cells #[.int .i64 m.K, .int .i64 m.U, .string m.s] 115) = W2 at *
    generalize w2.heap.size = n2 at *
    obtain ⟨n3, h3⟩ : ∃ n, n2 + 1 = n := ⟨_, rfl⟩
    rw [h3] at hQ ⊢
    have hU0 := hU.lt
    replace hP : plE.In W2.drew n2 p := hP
    replace hQ : plE.In W2.drew n3 ⟨m.K, m.U, m.s⟩ := hQ
    replace hU : unE.In W2.drew n1 noUn := hU
    replace hTW : SlV plE W2.drew A c l := hTW
    replace hB : Below n0 w W2.drew := hB.drew
    replace hU0 : n1 < W2.drew.heap.size := hU0
    replace hs3 : n2 ≤ W2.drew.heap.size := hs3
    have hn12 : some n2 ≠ some n1 := fun e => hne1 (Option.some.inj e).symm
    have hn13 : some n3 ≠ some n1 := fun e => by have := Option.some.inj e; omega
    go_region_held3 (fun w' => (w'.cell? ⟨n2, 0, none⟩ = some (.int .i64 p.n) ∧ w'.cell? ⟨n2, 1, none⟩ = some (.int .i64 p.u) ∧ w'.cell? ⟨n2, 2, none⟩ = some (.string p.s)) ∧ (w'.cell? ⟨n3, 0, none⟩ = some (.int .i64 m.K) ∧ w'.cell? ⟨n3, 1, none⟩ = some (.int .i64 m.U) ∧ w'.cell? ⟨n3, 2, none⟩ = some (.string m.s))) (with_reducible first | exact ⟨plIn3 hP, plIn3 hQ⟩ | exact ⟨plIn3 hP5, plIn3 hQ5⟩ | exact ⟨plIn3 (hP5.keep (un_put hU5 ⟨p, is, true⟩).2 hn12), plIn3 (hQ5.keep (un_put hU5 ⟨p, is, true⟩).2 hn13)⟩) (first | (go_at_call 100; (with_reducible refine (HC4.out _ hTW).mono ?_); rintro e w5 ⟨A', c', rfl, hS, hf, hb5⟩; have hP5 := hP.below hb5; have hQ5 := hQ.below hb5; have hU5 := hU.below hb5; have hB5 := hB.trans (hb5.mono (by omega)); obtain ⟨u0, u1, u2, u3, u4⟩ := unIn5 hU5; have uf := hU5.frozen))
    all_goals
      have hP6 := un_put hU5 ⟨p, is, true⟩
      go_wp2
      refine El.ret3 unRow hP6.1 rfl rfl rfl rfl _ rfl ?_
      subst h0
      exact ⟨A', c', rfl, hS.keep hf hP6.2 hU0, hf.mono (by omega), hB5.grown hP6.2 hB5.size (fun k e => by have := Option.some.inj e; omega)⟩
  · simp only [if_true]
    go_wp2_with fail
    refine (HC2.out _ hTW).mono ?_
    rintro e w2 ⟨A', c', rfl, hS, hf, hb2⟩
    have hlt := hU.lt
    replace hU := hU.below hb2
    replace hB : Below n0 w w2 := hB.trans (hb2.mono (by have := hB.size; omega))
    have hs2 := hb2.size
    go_wp2_with (refine El.store unRow rfl _ _ rfl n1 noUn _ rfl rfl rfl noUn hU ?_)
    refine El.ret3 unRow (hU.set noUn _ rfl) rfl rfl rfl rfl _ rfl ?_
    subst h0
    exact ⟨A', c', rfl, hS.keep hf (by_row _ _ _) hlt, hf.mono (by omega), below_setRow hB hn1 _⟩

end Go.Proofs.Ytfpgfclmmdihjaa

/- Fold of the program; the document's Do and Fold. -/
namespace Go.Proofs.Ytfpgfclmmdihjaa
open Go.RowKit Tre Cod

theorem putL_len (l : List Pl) (p : Pl) : (putL l p).length ≤ l.length + 1 := by
  unfold putL placedL
  have := behind_le l p.n
  rw [List.length_append, List.length_append, List.length_take, List.length_drop, List.length_singleton]; omega
theorem dropL_len (l : List Pl) (b : Int) : (dropL l b).length ≤ l.length := by
  unfold dropL placedL
  have := behind_le l b
  rw [List.append_nil, List.length_append, List.length_take, List.length_drop]; omega
theorem doL_len (l : List Pl) (p : Pl) : (doL l p).1.length ≤ l.length + 1 := by
  unfold doL
  split
  · exact Nat.le_succ _
  · exact putL_len l p
theorem foldL_len1 (l : List Pl) (a : List Pl) : (foldL l a).1.length ≤ l.length + a.length := by
  induction a generalizing l with
  | nil => exact Nat.le_refl _
  | cons p a ih =>
    have h1 := ih (doL l p).1
    have h2 := doL_len l p
    show (foldL (doL l p).1 a).1.length ≤ _
    rw [List.length_cons]; omega
/-- The moves of operations. -/
def mvs (o : List Mv) : List Pl := o.map mvPl
theorem mvs_len (o : List Mv) : (mvs o).length = o.length := List.length_map ..
theorem mvs_take (o : List Mv) (k : Nat) : (mvs o).take k = mvs (o.take k) := by unfold mvs; rw [List.map_take]
/-- Behind k of the operations. -/
def fold1 (l : List Pl) (o : List Mv) (k : Nat) : List Pl := (foldL l (mvs (o.take k))).1
def fold2 (l : List Pl) (o : List Mv) (k : Nat) : List Un := (foldL l (mvs (o.take k))).2
theorem fold1_all (l : List Pl) (o : List Mv) : fold1 l o o.length = (foldL l (mvs o)).1 := by unfold fold1; rw [List.take_length]
theorem fold2_all (l : List Pl) (o : List Mv) : fold2 l o o.length = (foldL l (mvs o)).2 := by unfold fold2; rw [List.take_length]
theorem fold1_zero (l : List Pl) (o : List Mv) : fold1 l o 0 = l := rfl
theorem fold2_zero (l : List Pl) (o : List Mv) : fold2 l o 0 = [] := rfl
theorem fold_next (l : List Pl) (o : List Mv) (k : Nat) (h : k < o.length) : fold1 l o (k + 1) = (doL (fold1 l o k) (mvPl o[k])).1 ∧ fold2 l o (k + 1) = fold2 l o k ++ [(doL (fold1 l o k) (mvPl o[k])).2] := by
  unfold fold1 fold2
  rw [← mvs_take, ← mvs_take, foldL_take l (mvs o) k (by rw [mvs_len]; exact h)]
  have e : (mvs o)[k]'(by rw [mvs_len]; exact h) = mvPl o[k] := by unfold mvs; rw [List.getElem_map]
  rw [e]
  exact ⟨rfl, rfl⟩
theorem fold1_len (l : List Pl) (o : List Mv) (k : Nat) : (fold1 l o k).length ≤ l.length + k := by
  have h := foldL_len1 l (mvs (o.take k))
  rw [mvs_len, List.length_take] at h
  unfold fold1; omega
theorem fold2_len (l : List Pl) (o : List Mv) (k : Nat) (h : k ≤ o.length) : (fold2 l o k).length = k := by
  unfold fold2
  rw [foldL_len, mvs_len, List.length_take]; omega
theorem fold1_sorted {l : List Pl} (hs : Sorted l) (o : List Mv) (k : Nat) : Sorted (fold1 l o k) := foldL_sorted hs _
/-- The undos so far, and the rest as it was made. -/
theorem un_set (us : List Un) (n k : Nat) (u : Un) (hk : us.length = k) (hn : k < n) : (us ++ List.replicate (n - k) noUn).set k u = (us ++ [u]) ++ List.replicate (n - (k + 1)) noUn := by
  obtain ⟨d, rfl⟩ : ∃ d, n = k + (d + 1) := ⟨n - k - 1, by omega⟩
  rw [show k + (d + 1) - k = d + 1 by omega, show k + (d + 1) - (k + 1) = d by omega, List.replicate_succ, ← hk, List.set_append_right _ _ (Nat.le_refl _), Nat.sub_self, List.set_cons_zero, List.append_assoc]
  rfl
theorem un_zero : ∃ i z, Try.prog.info? unE.e = some i ∧ i.zero = some z ∧ z.cells.toList = unE.c noUn := by
  obtain ⟨i, hi, hz, _, _⟩ := info_parts (show (Try.prog.info? 120).map (fun i => (i.zero, i.size, i.bytes)) = some (some (.agg #[.int .i64 0, .int .i64 0, .string ⟨#[]⟩, .bool false, .bool false]), 5, 40) by kernel_rfl)
  exact ⟨i, _, hi, hz, rfl⟩

set_option maxRecDepth 100000 in
set_option maxHeartbeats 4000000 in
theorem mvFold_any (A : Option Addr) (c : Nat) (l : List Pl) (O : Option Addr) (oc : Nat) (o : List Mv) (w : World) (hl : l.length + o.length ≤ 900) (hs : Sorted l) (hT : SlV plE w A c l) (hO : opE.Sl w O o) :
    Calls Try.prog 70 #[.slice A l.length c, .slice O o.length oc] w fun e w' => ∃ A' c' U' uc, e = .returned (.tuple #[.slice A' (foldL l (mvs o)).1.length c', .slice U' (foldL l (mvs o)).2.length uc]) ∧ SlV plE w' A' c' (foldL l (mvs o)).1 ∧ SlV unE w' U' uc (foldL l (mvs o)).2 ∧ Frs w.heap.size A' ∧ Frs w.heap.size U' ∧ Below w.heap.size w w' := by
  have C1 := same_pl A c l w (by omega) hT
  have hfl := fold2_len l o o.length (Nat.le_refl _)
  rw [← fold1_all, ← fold2_all, hfl]
  clear hfl
  go_enter Try.func70, Try.ntmps70
  go_wp2_with fail
  refine C1.mono ?_
  rintro e w1 ⟨A1, c1, rfl, hS1, hf1, hb1⟩
  clear C1
  have hsz1 := hb1.size
  go_wp2_with (at_make; refine El.wpList_make unInn noUn un_zero rfl _ _ rfl w.heap.size o.length o.length rfl rfl (by omega) (Nat.le_refl _) hsz1 ?_; intro w2 hU hg2 hg2s)
  obtain ⟨g, hg⟩ : ∃ g, w1.heap.size = g := ⟨_, rfl⟩
  have hwg : w.heap.size ≤ g := by omega
  have hg2l : g < w2.heap.size := by omega
  rw [hg] at hU ⊢
  have hB2 : Below w.heap.size w w2 := hb1.grown hg2 hsz1 (fun k e => by cases e)
  have hS2 : SlV plE w2 A1 c1 l := ⟨hS1.1.keep hg2 (fun a _ e => by cases e), hS1.2⟩
  clear hS1 hg2 hb1 hg2s hsz1 hg
  go_wp2
  go_loopw [0, 16] (fun x y wr => ∃ (k : Nat) (A' : Option Addr) (c' : Nat), k ≤ o.length ∧ y = .int .i64 k ∧ x = .slice A' (fold1 l o k).length c' ∧ SlV plE wr A' c' (fold1 l o k) ∧ Frs w.heap.size A' ∧ unE.Own wr w.heap.size (.slice (some ⟨g, 0, none⟩) o.length o.length) (fold2 l o k ++ List.replicate (o.length - k) noUn) ∧ g < wr.heap.size ∧ Below w.heap.size w wr) (fun _ y _ => o.length - (intOf y).toNat)
  case atStart => exact ⟨0, A1, c1, Nat.zero_le _, rfl, rfl, hS2, hf1, hU, hg2l, hB2⟩
  case round =>
    clear hS2 hf1 hU hg2l hB2 hT
    obtain ⟨k, A', c', hk, rfl, rfl, hS, hf, hU, hgl, hB⟩ := hrel
    by_cases hlt : k < o.length
    · obtain ⟨b, off, rfl, hbw, hc⟩ := hO (by omega)
      have hat := (hc k hlt).below hB hbw
      obtain ⟨e1, e2⟩ := fold_next l o k hlt
      have hl1 := fold1_len l o k
      have hl2 := fold2_len l o k hk
      have hs1 := fold1_sorted hs o k
      obtain ⟨m, hm⟩ : ∃ m, o[k] = m := ⟨_, rfl⟩
      rw [hm] at hat e1 e2
      have CD := fun (wx : World) (hx : Below wr.heap.size wr wx) => do_any A' c' (fold1 l o k) m wx (by omega) hs1 (hS.below hx)
      have huo := un_set (fold2 l o k) o.length k (doL (fold1 l o k) (mvPl m)).2 hl2 hlt
      rw [← e2] at huo
      have hul : (fold2 l o k ++ List.replicate (o.length - k) noUn).length = o.length := by rw [List.length_append, hl2, List.length_replicate]; omega
      generalize hdo2 : (doL (fold1 l o k) (mvPl m)).2 = u at *
      simp only [unV] at CD
      have HE1 := Lib.hid e1
      have HUO := Lib.hid huo
      have HCD := Lib.hid CD
      have HUL := Lib.hid hul
      have HF := Lib.hid hf
      clear e1 e2 huo CD hul hl1 hl2 hs1 hc hm hS hf hdo2
      obtain ⟨t0, t1, t2, t3, t4, t5, t6⟩ := opAt hat
      have hb0 := below_alloc (Below.refl wr.heap.size wr) (.cells #[.int .i64 m.C, .int .i64 m.D, .int .i64 m.I, .int .i64 m.M, .int .i64 m.K, .int .i64 m.U, .string m.s] 48)
      go_wp2_with (first | (refine El.load opRow rfl _ rfl b (off + k * 7) rfl m hat #[.int .i64 m.C, .int .i64 m.D, .int .i64 m.I, .int .i64 m.M, .int .i64 m.K, .int .i64 m.U, .string m.s] rfl ?_) | (go_at_call 86; (with_reducible refine (HCD.out _ hb0).mono ?_); rintro e w3 ⟨A3, c3, rfl, hS3, hf3, hb3⟩; have hU3 := (hU.below hb0).below hb3) | (refine El.wpList_setAt unRow rfl _ _ rfl w.heap.size g o.length k _ u (by rw [HUL.out]; exact hU3) (by rw [HUL.out]; exact hlt) #[.int .i64 u.was.n, .int .i64 u.was.u, .string u.was.s, .bool u.had, .bool u.did] rfl rfl rfl ?_; intro w4 hU4 hg4 hs4))
      have hsz := hb0.size
      have hsz3 := hb3.size
      have hwr := hB.size
      have hB3 := below_then hB (below_then hb0 hb3)
      go_roundw
      case rel =>
        refine ⟨k + 1, A3, c3, hlt, by go_num, by rw [HE1.out], ?_, hf3.mono (by omega), ?_, by omega, hB3.grown hg4 hB3.size (fun j e => by have := Option.some.inj e; omega)⟩
        · rw [HE1.out]; exact hS3.keep hf3 hg4 (by omega)
        · have h := hU4
          rw [HUL.out, HUO.out] at h; exact h
      case measure => simp [intOf]; omega
    · obtain rfl : k = o.length := by omega
      have hl2 := fold2_len l o o.length (Nat.le_refl _)
      have hz : fold2 l o o.length ++ List.replicate (o.length - o.length) noUn = fold2 l o o.length := by rw [Nat.sub_self, List.replicate_zero, List.append_nil]
      rw [hz] at hU
      go_wp2
      go_ret2
      have hUf : Frs w.heap.size (some ⟨g, 0, none⟩) := fun a e => by cases e; exact hwg
      have hUs : SlV unE wr (some ⟨g, 0, none⟩) o.length (fold2 l o o.length) := by
        obtain ⟨A2, c2, e, h1, h2, h3⟩ := hU.sl
        simp only [Value.slice.injEq] at e
        obtain ⟨rfl, _, rfl⟩ := e
        exact ⟨h1, h2, by omega⟩
      exact ⟨A', c', some ⟨g, 0, none⟩, o.length, rfl, hS, hUs, hf, hUf, hB⟩
end Go.Proofs.Ytfpgfclmmdihjaa

/- The document's Do and Fold. -/
namespace Go.Proofs.Ytfpgfclmmdihjaa
open Go.RowKit Tre Cod

theorem refPut_sl (A : Option Addr) (c : Nat) (l : List Pl) (p : Pl) (w : World) (hl : l.length ≤ 900) (hT : SlV plE w A c l) :
    Calls Try.prog 74 #[.slice A l.length c, .agg #[.int .i64 p.n, .int .i64 p.u, .string p.s]] w fun e w' => ∃ A' c', e = .returned (.slice A' (putL l p).length c') ∧ SlV plE w' A' c' (putL l p) ∧ Frs w.heap.size A' ∧ Below w.heap.size w w' :=
  (refPut_any A c l p w hl (plSl.1 hT.1) hT.2.2 hT.2.1).mono fun _ _ ⟨A', c', he, ht, hz, hlc, hf, hb⟩ => ⟨A', c', he, ⟨plSl.2 ht, hz, hlc⟩, hf, hb⟩

set_option maxRecDepth 100000 in
set_option maxHeartbeats 4000000 in
theorem refDo_any (A : Option Addr) (c : Nat) (l : List Pl) (m : Mv) (w : World) (hl : l.length ≤ 900) (hT : SlV plE w A c l) :
    Calls Try.prog 57 #[.slice A l.length c, .agg #[.int .i64 m.C, .int .i64 m.D, .int .i64 m.I, .int .i64 m.M, .int .i64 m.K, .int .i64 m.U, .string m.s]] w fun e w' => ∃ A' c', e = .returned (.tuple #[.slice A' (doL l (mvPl m)).1.length c', unV (doL l (mvPl m)).2]) ∧ SlV plE w' A' c' (doL l (mvPl m)).1 ∧ Frs w.heap.size A' ∧ Below w.heap.size w w' := by
  have C1 := fun w (hT : SlV plE w A c l) => refAbove_any A c l m.K m.U w (by omega) (plSl.1 hT.1)
  have C4 := fun w (hT : SlV plE w A c l) => refPut_sl A c l ⟨m.K, m.U, m.s⟩ w hl hT
  have hdo : doL l (mvPl m) = if above l m.K m.U = true then (l, noUn) else (putL l ⟨m.K, m.U, m.s⟩, ⟨(Tre.get l m.K).getD zero, (Tre.get l m.K).isSome, true⟩) := rfl
  have hzr : (Tre.get l m.K).isSome = false → (Tre.get l m.K).getD zero = zero := by
    cases Tre.get l m.K with
    | none => intro _; rfl
    | some q => intro h; cases h
  obtain ⟨p, is, hp, hi⟩ := plV_get l m.K
  have C3 := fun w (hT : SlV plE w A c l) => refGet_any A c l m.K w (by omega) (plSl.1 hT.1) p is hp hi
  rw [hp, hi] at hdo hzr
  clear hp hi
  obtain ⟨ab, hab⟩ : ∃ ab, above l m.K m.U = ab := ⟨_, rfl⟩
  rw [hab] at C1 hdo
  clear hab
  have hdo : (doL l (mvPl m)).1 = (if ab = true then l else putL l ⟨m.K, m.U, m.s⟩) ∧ (doL l (mvPl m)).2 = if ab = true then noUn else ⟨p, is, true⟩ := by rw [hdo]; cases ab <;> exact ⟨rfl, rfl⟩
  obtain ⟨hd1, hd2⟩ := hdo
  rw [hd1, hd2]
  clear hd1 hd2 hdo
  generalize putL l ⟨m.K, m.U, m.s⟩ = R at *
  have HC1 := Lib.hid C1
  have HC3 := Lib.hid C3
  have HC4 := Lib.hid C4
  have HZ := Lib.hid hzr
  clear C1 C3 C4 hzr
  go_enter Try.func57, Try.ntmps57
  go_wp2_with fail
  have hO : opE.In ((w.alloc (.cells #[.int .i64 m.C, .int .i64 m.D, .int .i64 m.I, .int .i64 m.M, .int .i64 m.K, .int .i64 m.U, .string m.s] 48)).alloc (.cells #[.int .i64 0, .int .i64 0, .string ⟨#[]⟩, .bool false, .bool false] 120)) w.heap.size m := (El.In.new (E := opE) w m _ rfl).alloc _
  have hU : unE.In ((w.alloc (.cells #[.int .i64 m.C, .int .i64 m.D, .int .i64 m.I, .int .i64 m.M, .int .i64 m.K, .int .i64 m.U, .string m.s] 48)).alloc (.cells #[.int .i64 0, .int .i64 0, .string ⟨#[]⟩, .bool false, .bool false] 120)) (w.heap.size + 1) noUn := by
    have := El.In.new (E := unE) (w.alloc (.cells #[.int .i64 m.C, .int .i64 m.D, .int .i64 m.I, .int .i64 m.M, .int .i64 m.K, .int .i64 m.U, .string m.s] 48)) noUn #[.int .i64 0, .int .i64 0, .string ⟨#[]⟩, .bool false, .bool false] rfl
    rw [alloc_size] at this; exact this
  have hB := below_alloc (below_alloc (Below.refl w.heap.size w) (.cells #[.int .i64 m.C, .int .i64 m.D, .int .i64 m.I, .int .i64 m.M, .int .i64 m.K, .int .i64 m.U, .string m.s] 48)) (.cells #[.int .i64 0, .int .i64 0, .string ⟨#[]⟩, .bool false, .bool false] 120)
  generalize (w.alloc (.cells #[.int .i64 m.C, .int .i64 m.D, .int .i64 m.I, .int .i64 m.M, .int .i64 m.K, .int .i64 m.U, .string m.s] 48)).alloc (.cells #[.int .i64 0, .int .i64 0, .string ⟨#[]⟩, .bool false, .bool false] 120) = W at *
  have hn0 : w.heap.size ≤ w.heap.size := Nat.le_refl _
  obtain ⟨n0, h0⟩ : ∃ n, w.heap.size = n := ⟨_, rfl⟩
  obtain ⟨n1, h1⟩ : ∃ n, w.heap.size + 1 = n := ⟨_, rfl⟩
  have hn1 : w.heap.size ≤ n1 := by omega
  have h01 : n0 ≠ n1 := by omega
  rw [h1] at hU ⊢
  have hTW := hT.below hB
  rw [h0] at hO hn0 hn1 hB ⊢
  refine (HC3.out _ hTW).mono ?_
  rintro e w1 ⟨rfl, hb1⟩
  replace hO := hO.below hb1
  replace hU := hU.below hb1
  replace hTW := hTW.below hb1
  replace hB : Below n0 w w1 := hB.trans (hb1.mono (by have := hB.size; omega))
  clear hb1
  have hs2 := hB.size
  have hlt1 := hU.lt
  have hlt0 := hO.lt
  have hne0 : n0 ≠ w1.heap.size := by omega
  have hne1 : n1 ≠ w1.heap.size := by omega
  obtain ⟨k0, k1, k2, k3, k4, k5, k6⟩ := opIn7 hO
  go_wp2_with fail
  have hP : plE.In (w1.alloc (.cells #[.int .i64 p.n, .int .i64 p.u, .string p.s] 115)) w1.heap.size p := El.In.new (E := plE) w1 p _ rfl
  have hb3 := below_alloc (Below.refl w1.heap.size w1) (.cells #[.int .i64 p.n, .int .i64 p.u, .string p.s] 115)
  replace hO := hO.below hb3
  replace hU := hU.below hb3
  replace hTW := hTW.below hb3
  replace hB := hB.trans (hb3.mono (by omega))
  have hs3 := hb3.size
  clear hb3 k0 k1 k2 k3 k4 k5 k6
  generalize w1.alloc (.cells #[.int .i64 p.n, .int .i64 p.u, .string p.s] 115) = W2 at *
  generalize w1.heap.size = n2 at *
  refine (HC1.out _ hTW).mono ?_
  rintro e w2 ⟨rfl, hb1⟩
  replace hO := hO.below hb1
  replace hU := hU.below hb1
  replace hP := hP.below hb1
  replace hTW := hTW.below hb1
  replace hB : Below n0 w w2 := hB.trans (hb1.mono (by have := hB.size; omega))
  replace hs3 : n2 ≤ w2.heap.size := by have := hb1.size; omega
  clear hb1
  cases ab
  · simp only [Bool.false_eq_true, if_false]
    have hn12 : some n2 ≠ some n1 := fun e => by have := Option.some.inj e; omega
    have hn10 : some n0 ≠ some n1 := fun e => h01 (Option.some.inj e)
    cases is
    · have hz := HZ.out rfl
      have HZ0 := Lib.hid (show #[.int .i64 0, .int .i64 0, .string ⟨#[]⟩] = (plE.c p).toArray by rw [hz]; rfl)
      clear hz
      go_wp2_with (refine El.store plRow rfl _ _ rfl n2 p #[.int .i64 0, .int .i64 0, .string ⟨#[]⟩] HZ0.out rfl rfl p hP ?_)
      replace hO := hO.rowN n2 #[.int .i64 0, .int .i64 0, .string ⟨#[]⟩] (by omega)
      replace hU := hU.rowN n2 #[.int .i64 0, .int .i64 0, .string ⟨#[]⟩] (by omega)
      replace hP := hP.set p #[.int .i64 0, .int .i64 0, .string ⟨#[]⟩] HZ0.out
      replace hB : Below n0 w (w2.setRow n2 #[.int .i64 0, .int .i64 0, .string ⟨#[]⟩]) := hB.grown (by_row _ _ _) (by have := hB.size; omega) (fun k e => by have := Option.some.inj e; omega)
      replace hs3 : n2 ≤ (w2.setRow n2 #[.int .i64 0, .int .i64 0, .string ⟨#[]⟩]).heap.size := by simpa using hs3
      generalize w2.setRow n2 #[.int .i64 0, .int .i64 0, .string ⟨#[]⟩] = W3 at *
      clear hTW HZ0
      replace hO : opE.In W3.drew n0 m := hO
      replace hU : unE.In W3.drew n1 noUn := hU
      replace hP : plE.In W3.drew n2 p := hP
      replace hB : Below n0 w W3.drew := hB.drew
      have hTW : SlV plE W3.drew A c l := hT.below (by rw [h0]; exact hB)
      have hU0 : n1 < W3.drew.heap.size := hU.lt
      replace hs3 : n2 ≤ W3.drew.heap.size := hs3
      have o456 := opIn7 hO
      go_region_held3 (fun w' => (w'.cell? ⟨n2, 0, none⟩ = some (.int .i64 p.n) ∧ w'.cell? ⟨n2, 1, none⟩ = some (.int .i64 p.u) ∧ w'.cell? ⟨n2, 2, none⟩ = some (.string p.s)) ∧ (w'.cell? ⟨n0, 0, none⟩ = some (.int .i64 m.C) ∧ w'.cell? ⟨n0, 1, none⟩ = some (.int .i64 m.D) ∧ w'.cell? ⟨n0, 2, none⟩ = some (.int .i64 m.I) ∧ w'.cell? ⟨n0, 3, none⟩ = some (.int .i64 m.M) ∧ w'.cell? ⟨n0, 4, none⟩ = some (.int .i64 m.K) ∧ w'.cell? ⟨n0, 5, none⟩ = some (.int .i64 m.U) ∧ w'.cell? ⟨n0, 6, none⟩ = some (.string m.s))) (with_reducible first | exact ⟨plIn3 hP, opIn7 hO⟩ | exact ⟨plIn3 hP5, opIn7 hO5⟩ | exact ⟨plIn3 (hP5.keep (un_put hU5 ⟨p, false, true⟩).2 hn12), opIn7 (hO5.keep (un_put hU5 ⟨p, false, true⟩).2 hn10)⟩) (first | (go_at_call 74; (with_reducible refine (HC4.out _ hTW).mono ?_); rintro e w5 ⟨A', c', rfl, hS, hf, hb5⟩; have hP5 := hP.below hb5; have hO5 := hO.below hb5; have hU5 := hU.below hb5; have hB5 := hB.trans (hb5.mono (by omega)); obtain ⟨u0, u1, u2, u3, u4⟩ := unIn5 hU5; have uf := hU5.frozen))
      all_goals
        have hP6 := un_put hU5 ⟨p, false, true⟩
        go_wp2
        refine El.ret3 unRow hP6.1 rfl rfl rfl rfl _ rfl ?_
        subst h0
        exact ⟨A', c', rfl, hS.keep hf hP6.2 hU0, hf.mono (by omega), hB5.grown hP6.2 hB5.size (fun k e => by have := Option.some.inj e; omega)⟩
    · go_wp2_with fail
      generalize w2 = W3 at *
      clear hTW
      replace hO : opE.In W3.drew n0 m := hO
      replace hU : unE.In W3.drew n1 noUn := hU
      replace hP : plE.In W3.drew n2 p := hP
      replace hB : Below n0 w W3.drew := hB.drew
      have hTW : SlV plE W3.drew A c l := hT.below (by rw [h0]; exact hB)
      have hU0 : n1 < W3.drew.heap.size := hU.lt
      replace hs3 : n2 ≤ W3.drew.heap.size := hs3
      have o456 := opIn7 hO
      go_region_held3 (fun w' => (w'.cell? ⟨n2, 0, none⟩ = some (.int .i64 p.n) ∧ w'.cell? ⟨n2, 1, none⟩ = some (.int .i64 p.u) ∧ w'.cell? ⟨n2, 2, none⟩ = some (.string p.s)) ∧ (w'.cell? ⟨n0, 0, none⟩ = some (.int .i64 m.C) ∧ w'.cell? ⟨n0, 1, none⟩ = some (.int .i64 m.D) ∧ w'.cell? ⟨n0, 2, none⟩ = some (.int .i64 m.I) ∧ w'.cell? ⟨n0, 3, none⟩ = some (.int .i64 m.M) ∧ w'.cell? ⟨n0, 4, none⟩ = some (.int .i64 m.K) ∧ w'.cell? ⟨n0, 5, none⟩ = some (.int .i64 m.U) ∧ w'.cell? ⟨n0, 6, none⟩ = some (.string m.s))) (with_reducible first | exact ⟨plIn3 hP, opIn7 hO⟩ | exact ⟨plIn3 hP5, opIn7 hO5⟩ | exact ⟨plIn3 (hP5.keep (un_put hU5 ⟨p, true, true⟩).2 hn12), opIn7 (hO5.keep (un_put hU5 ⟨p, true, true⟩).2 hn10)⟩) (first | (go_at_call 74; (with_reducible refine (HC4.out _ hTW).mono ?_); rintro e w5 ⟨A', c', rfl, hS, hf, hb5⟩; have hP5 := hP.below hb5; have hO5 := hO.below hb5; have hU5 := hU.below hb5; have hB5 := hB.trans (hb5.mono (by omega)); obtain ⟨u0, u1, u2, u3, u4⟩ := unIn5 hU5; have uf := hU5.frozen))
      all_goals
        have hP6 := un_put hU5 ⟨p, true, true⟩
        go_wp2
        refine El.ret3 unRow hP6.1 rfl rfl rfl rfl _ rfl ?_
        subst h0
        exact ⟨A', c', rfl, hS.keep hf hP6.2 hU0, hf.mono (by omega), hB5.grown hP6.2 hB5.size (fun k e => by have := Option.some.inj e; omega)⟩
  · simp only [if_true]
    have hE := El.Own.empty (E := plE) w2 w2.heap.size (Nat.le_refl _)
    have hb0 := below_alloc (Below.refl w2.heap.size w2) (.cells #[] 115)
    have hU0 := hU.lt
    have hBs := hB.size
    go_wp2_with (first | (at_builtin; refine El.wpList_app plInn rfl _ _ rfl w2.heap.size _ [] l rfl hE A _ c rfl rfl (hTW.1.below hb0) hTW.2.1 (by simp; omega) (by simp) ?_; intro v' w3 hown hg _; have hU3 := (hU.below hb0).keep hg (fun e => by have := hE.rows _ e.symm; omega)) | (refine El.store unRow rfl _ _ rfl n1 noUn #[.int .i64 0, .int .i64 0, .string ⟨#[]⟩, .bool false, .bool false] rfl rfl rfl noUn hU3 ?_))
    obtain ⟨A', c', rfl, hS⟩ := SlV.own hown
    refine El.ret3 unRow (hU3.set noUn _ rfl) rfl rfl rfl rfl _ rfl ?_
    have hB3 : Below n0 w w3 := (hB.trans (hb0.mono (by omega))).grown hg (by simp; omega) (fun k e => by have := hE.rows _ e; omega)
    subst h0
    exact ⟨A', c', rfl, hS.keep hown.frs (by_row _ _ _) hU0, hown.frs.mono (by omega), below_setRow hB3 hn1 _⟩
end Go.Proofs.Ytfpgfclmmdihjaa

/- The document's Fold. -/
namespace Go.Proofs.Ytfpgfclmmdihjaa
open Go.RowKit Tre Cod

set_option maxRecDepth 100000 in
set_option maxHeartbeats 4000000 in
theorem mvRefFold_any (A : Option Addr) (c : Nat) (l : List Pl) (O : Option Addr) (oc : Nat) (o : List Mv) (w : World) (hl : l.length + o.length ≤ 900) (hT : SlV plE w A c l) (hO : opE.Sl w O o) :
    Calls Try.prog 32 #[.slice A l.length c, .slice O o.length oc] w fun e w' => ∃ A' c' U' uc, e = .returned (.tuple #[.slice A' (foldL l (mvs o)).1.length c', .slice U' (foldL l (mvs o)).2.length uc]) ∧ SlV plE w' A' c' (foldL l (mvs o)).1 ∧ SlV unE w' U' uc (foldL l (mvs o)).2 ∧ Frs w.heap.size A' ∧ Frs w.heap.size U' ∧ Below w.heap.size w w' := by
  rw [← fold1_all, ← fold2_all]
  have hE := El.Own.empty (E := plE) w w.heap.size (Nat.le_refl _)
  have hb0 := below_alloc (Below.refl w.heap.size w) (.cells #[] 115)
  go_enter Try.func32, Try.ntmps32
  go_wp2_with (at_builtin; refine El.wpList_app plInn rfl _ _ rfl w.heap.size _ [] l rfl hE A _ c rfl rfl (hT.1.below hb0) hT.2.1 (by simp; omega) (by simp) ?_; intro v' w2 hown hg _)
  rw [List.nil_append] at hown
  obtain ⟨A1, c1, rfl, hS1⟩ := SlV.own hown
  have hf1 := hown.frs
  have hB2 := below_own hb0 hg hE.rows
  clear hown hg hE hb0
  go_wp2
  go_loopw [0, 6, 7] (fun x y0 y wr => ∃ (k : Nat) (A' : Option Addr) (c' : Nat) (v : Value), k ≤ o.length ∧ y = .int .i64 k ∧ x = .slice A' (fold1 l o k).length c' ∧ y0 = v ∧ SlV plE wr A' c' (fold1 l o k) ∧ Frs w.heap.size A' ∧ unE.Own wr w.heap.size v (fold2 l o k) ∧ Below w.heap.size w wr) (fun _ _ y _ => o.length - (intOf y).toNat)
  case atStart => exact ⟨0, A1, c1, _, Nat.zero_le _, rfl, rfl, rfl, hS1, hf1, El.Own.nil _ _, hB2⟩
  case round =>
    clear hS1 hf1 hB2 hT
    obtain ⟨k, A', c', v, hk, rfl, rfl, rfl, hS, hf, hU, hB⟩ := hrel
    by_cases hlt : k < o.length
    · obtain ⟨b, off, rfl, hbw, hc⟩ := hO (by omega)
      have hat := (hc k hlt).below hB hbw
      obtain ⟨e1, e2⟩ := fold_next l o k hlt
      have hl1 := fold1_len l o k
      have hl2 := fold2_len l o k hk
      obtain ⟨m, hm⟩ : ∃ m, o[k] = m := ⟨_, rfl⟩
      rw [hm] at hat e1 e2
      have CD := refDo_any A' c' (fold1 l o k) m wr (by omega) hS
      generalize hdo2 : (doL (fold1 l o k) (mvPl m)).2 = u at *
      simp only [unV] at CD
      have HE1 := Lib.hid e1
      have HE2 := Lib.hid e2
      have HCD := Lib.hid CD
      have HL2 := Lib.hid hl2
      clear e1 e2 CD hl1 hl2 hc hm hS hf hdo2
      obtain ⟨t0, t1, t2, t3, t4, t5, t6⟩ := opAt hat
      go_wp2_with (first | (refine El.load opRow rfl _ rfl b (off + k * 7) rfl m hat #[.int .i64 m.C, .int .i64 m.D, .int .i64 m.I, .int .i64 m.M, .int .i64 m.K, .int .i64 m.U, .string m.s] rfl ?_) | (go_at_call 57; (with_reducible refine HCD.out.mono ?_); rintro e w3 ⟨A3, c3, rfl, hS3, hf3, hb3⟩; have hbx := below_alloc (below_alloc (Below.refl w3.heap.size w3) (.cells #[.int .i64 u.was.n, .int .i64 u.was.u, .string u.was.s, .bool u.had, .bool u.did] 120)) (.cells #[.int .i64 u.was.n, .int .i64 u.was.u, .string u.was.s, .bool u.had, .bool u.did] 120); have hUx := (hU.below hb3).below hbx; have hux : unE.Sl ((w3.alloc (.cells #[.int .i64 u.was.n, .int .i64 u.was.u, .string u.was.s, .bool u.had, .bool u.did] 120)).alloc (.cells #[.int .i64 u.was.n, .int .i64 u.was.u, .string u.was.s, .bool u.had, .bool u.did] 120)) (some ⟨w3.heap.size + 1, 0, none⟩) [u] := (by have h := (El.In.new (E := unE) (w3.alloc (.cells #[.int .i64 u.was.n, .int .i64 u.was.u, .string u.was.s, .bool u.had, .bool u.did] 120)) u #[.int .i64 u.was.n, .int .i64 u.was.u, .string u.was.s, .bool u.had, .bool u.did] rfl).sl; rw [alloc_size] at h; exact h); have hsx := hbx.size; have hs3 := hb3.size; have hsr := hB.size) | (at_builtin; refine El.wpList_app unInn rfl _ _ rfl w.heap.size _ (fold2 l o k) [u] rfl hUx (some ⟨w3.heap.size + 1, 0, none⟩) 1 1 rfl rfl hux (fun e => by cases e) (by rw [HL2.out]; simp; omega) (by omega) ?_; intro v4 w4 hU4 hg4 _))
      have hrw := hUx.rows
      have hB3 := (below_then hB hb3).trans (hbx.mono (by omega))
      go_roundw
      case rel =>
        refine ⟨k + 1, A3, c3, v4, hlt, by go_num, by rw [HE1.out], rfl, ?_, hf3.mono (by omega), by rw [HE2.out]; exact hU4, hB3.grown hg4 (by omega) hrw⟩
        · rw [HE1.out]
          exact ⟨(hS3.1.below hbx).keep hg4 (fun a e e2 => by have := hf3 a e; have := (hU.lt _ e2.symm).2; omega), hS3.2⟩
      case measure => simp [intOf]; omega
    · obtain rfl : k = o.length := by omega
      obtain ⟨U', uc, rfl, hUs⟩ := SlV.own hU
      have hUf := hU.frs
      go_wp2
      go_ret2
      exact ⟨A', c', U', uc, rfl, hS, hUs, hf, hUf, hB⟩
end Go.Proofs.Ytfpgfclmmdihjaa

/- The same places, operations, undos: the document's answers. -/
namespace Go.Proofs.Ytfpgfclmmdihjaa
open Go.RowKit Tre Cod

theorem pl_unlike {p q : Pl} (h : ¬ p = q) : ((p.n == q.n) = false) ∨ (p.n = q.n ∧ (p.u == q.u) = false) ∨ (p.n = q.n ∧ p.u = q.u ∧ (p.s.toList == q.s.toList) = false) := by
  by_cases h0 : p.n = q.n
  rotate_left
  · left; exact beq_eq_false_iff_ne.2 h0
  by_cases h1 : p.u = q.u
  rotate_left
  · right; left; exact ⟨h0, beq_eq_false_iff_ne.2 h1⟩
  by_cases h2 : p.s = q.s
  · exfalso; apply h
    obtain ⟨a, b, c⟩ := p; obtain ⟨a', b', c'⟩ := q; simp only at h0 h1 h2; rw [h0, h1, h2]
  · right; right; exact ⟨h0, h1, ne_beq h2⟩
theorem mv_unlike {p q : Mv} (h : ¬ p = q) : ((p.C == q.C) = false) ∨ (p.C = q.C ∧ (p.D == q.D) = false) ∨ (p.C = q.C ∧ p.D = q.D ∧ (p.I == q.I) = false) ∨ (p.C = q.C ∧ p.D = q.D ∧ p.I = q.I ∧ (p.M == q.M) = false) ∨ (p.C = q.C ∧ p.D = q.D ∧ p.I = q.I ∧ p.M = q.M ∧ (p.K == q.K) = false) ∨ (p.C = q.C ∧ p.D = q.D ∧ p.I = q.I ∧ p.M = q.M ∧ p.K = q.K ∧ (p.U == q.U) = false) ∨ (p.C = q.C ∧ p.D = q.D ∧ p.I = q.I ∧ p.M = q.M ∧ p.K = q.K ∧ p.U = q.U ∧ (p.s.toList == q.s.toList) = false) := by
  by_cases h0 : p.C = q.C
  rotate_left
  · left; exact beq_eq_false_iff_ne.2 h0
  by_cases h1 : p.D = q.D
  rotate_left
  · right; left; exact ⟨h0, beq_eq_false_iff_ne.2 h1⟩
  by_cases h2 : p.I = q.I
  rotate_left
  · right; right; left; exact ⟨h0, h1, beq_eq_false_iff_ne.2 h2⟩
  by_cases h3 : p.M = q.M
  rotate_left
  · right; right; right; left; exact ⟨h0, h1, h2, beq_eq_false_iff_ne.2 h3⟩
  by_cases h4 : p.K = q.K
  rotate_left
  · right; right; right; right; left; exact ⟨h0, h1, h2, h3, beq_eq_false_iff_ne.2 h4⟩
  by_cases h5 : p.U = q.U
  rotate_left
  · right; right; right; right; right; left; exact ⟨h0, h1, h2, h3, h4, beq_eq_false_iff_ne.2 h5⟩
  by_cases h6 : p.s = q.s
  · exfalso; apply h
    obtain ⟨a, b, c, d, e, f, g⟩ := p; obtain ⟨a', b', c', d', e', f', g'⟩ := q; simp only at h0 h1 h2 h3 h4 h5 h6; rw [h0, h1, h2, h3, h4, h5, h6]
  · right; right; right; right; right; right; exact ⟨h0, h1, h2, h3, h4, h5, ne_beq h6⟩
theorem un_unlike {p q : Un} (h : ¬ p = q) : ((p.was.n == q.was.n) = false) ∨ (p.was.n = q.was.n ∧ (p.was.u == q.was.u) = false) ∨ (p.was.n = q.was.n ∧ p.was.u = q.was.u ∧ (p.was.s.toList == q.was.s.toList) = false) ∨ (p.was.n = q.was.n ∧ p.was.u = q.was.u ∧ p.was.s = q.was.s ∧ (p.had == q.had) = false) ∨ (p.was.n = q.was.n ∧ p.was.u = q.was.u ∧ p.was.s = q.was.s ∧ p.had = q.had ∧ (p.did == q.did) = false) := by
  by_cases h0 : p.was.n = q.was.n
  rotate_left
  · left; exact beq_eq_false_iff_ne.2 h0
  by_cases h1 : p.was.u = q.was.u
  rotate_left
  · right; left; exact ⟨h0, beq_eq_false_iff_ne.2 h1⟩
  by_cases h2 : p.was.s = q.was.s
  rotate_left
  · right; right; left; exact ⟨h0, h1, ne_beq h2⟩
  by_cases h3 : p.had = q.had
  rotate_left
  · right; right; right; left; exact ⟨h0, h1, h2, beq_eq_false_iff_ne.2 h3⟩
  by_cases h4 : p.did = q.did
  · exfalso; apply h
    obtain ⟨⟨a, b, c⟩, d, e⟩ := p; obtain ⟨⟨a', b', c'⟩, d', e'⟩ := q; simp only at h0 h1 h2 h3 h4; rw [h0, h1, h2, h3, h4]
  · right; right; right; right; exact ⟨h0, h1, h2, h3, beq_eq_false_iff_ne.2 h4⟩
theorem plAtE {w : World} {b o : Nat} {p : Pl} (h : plE.At w b o p) : w.cell? ⟨b, o, none⟩ = some (.int .i64 p.n) ∧ w.cell? ⟨b, o + 1, none⟩ = some (.int .i64 p.u) ∧ w.cell? ⟨b, o + 2, none⟩ = some (.string p.s) := ⟨h 0 _ rfl, h 1 _ rfl, h 2 _ rfl⟩

set_option maxRecDepth 100000 in
set_option maxHeartbeats 4000000 in
theorem samePl_any (A1 A2 : Option Addr) (c1 c2 : Nat) (l m : List Pl) (w : World) (hl : l.length ≤ 50000) (hm : m.length ≤ 50000) (h1 : plE.Sl w A1 l) (h2 : plE.Sl w A2 m) :
    Calls Try.prog 33 #[.slice A1 l.length c1, .slice A2 m.length c2] w fun e w' => ∃ b, e = .returned (.bool b) ∧ (b = true ↔ l = m) ∧ Below w.heap.size w w' := by
  by_cases hlen : l.length = m.length
  · rw [← hlen]
    have HL := Lib.hid hlen
    clear hlen
    go_enter Try.func33, Try.ntmps33
    go_wp2
    go_loopw [5] (fun x wr => ∃ k : Nat, k ≤ l.length ∧ x = .int .i64 k ∧ (∀ j (hj : j < k) (ha : j < l.length) (hb : j < m.length), l[j] = m[j]) ∧ Below w.heap.size w wr) (fun x _ => l.length - (intOf x).toNat)
    case atStart => exact ⟨0, Nat.zero_le _, rfl, fun j hj => by omega, Below.refl _ _⟩
    case round =>
      obtain ⟨k, hk, rfl, hall, hnx⟩ := hrel
      by_cases hlt : k < l.length
      · obtain ⟨b1, o1, hA1, hw1, hc1⟩ := h1 (by omega)
        have hlt2 : k < m.length := by have := HL.out; omega
        obtain ⟨b2, o2, hA2, hw2, hc2⟩ := h2 (by omega)
        have hat : plE.At wr b1 (o1 + k * 3) l[k] := (hc1 k hlt).below hnx hw1
        have hat2 : plE.At wr b2 (o2 + k * 3) m[k] := (hc2 k hlt2).below hnx hw2
        obtain ⟨p, hp⟩ : ∃ p, l[k] = p := ⟨_, rfl⟩
        obtain ⟨q, hq⟩ : ∃ q, m[k] = q := ⟨_, rfl⟩
        rw [hp] at hat
        rw [hq] at hat2
        have HP := Lib.hid hp
        have HQ := Lib.hid hq
        have HA := Lib.hid hall
        obtain ⟨q0, q1, q2⟩ := plAtE hat
        obtain ⟨r0, r1, r2⟩ := plAtE hat2
        clear hc1 hc2 hp hq h1 h2 hall hat hat2
        subst hA1 hA2
        by_cases hpq : p = q
        · have HE := Lib.hid hpq
          subst hpq
          go_wp2
          go_quiet (fail)
          go_wp2
          go_roundw
          case rel =>
            refine ⟨k + 1, by omega, by go_num, fun j hj ha hb => ?_, below_drew hnx _⟩
            by_cases e : j = k
            · subst e; rw [HP.out, HQ.out]
            · exact HA.out j (by omega) ha hb
          case measure => simp [intOf]; omega
        · have HN := Lib.hid hpq
          rcases pl_unlike hpq with hu | ⟨a0, hu⟩ | ⟨a0, a1, hu⟩
          all_goals
            clear hpq
            go_wp2
            go_quiet (fail)
            go_wp2
            go_ret
            refine ⟨false, rfl, ⟨fun h => (by cases h), fun h => ?_⟩, below_drew hnx _⟩
            subst h
            exact absurd (HP.out.symm.trans HQ.out) HN.out
      · obtain rfl : k = l.length := by omega
        have HA := Lib.hid hall
        clear hall
        go_wp2
        go_ret
        exact ⟨true, rfl, ⟨fun _ => List.ext_getElem HL.out fun j ha hb => HA.out j ha ha hb, fun _ => rfl⟩, hnx⟩
  · have HL := Lib.hid hlen
    have hne : ¬ m.length = l.length := fun e => hlen e.symm
    go_enter Try.func33, Try.ntmps33
    go_wp2
    go_ret
    exact ⟨false, rfl, ⟨fun h => (by cases h), fun h => absurd (congrArg List.length h) HL.out⟩, Below.refl _ _⟩
end Go.Proofs.Ytfpgfclmmdihjaa

/- The same operations and undos: the document's answers. -/
namespace Go.Proofs.Ytfpgfclmmdihjaa
open Go.RowKit Tre Cod

set_option maxRecDepth 100000 in
set_option maxHeartbeats 4000000 in
theorem sameUn_any (A1 A2 : Option Addr) (c1 c2 : Nat) (l m : List Un) (w : World) (hl : l.length ≤ 50000) (hm : m.length ≤ 50000) (h1 : unE.Sl w A1 l) (h2 : unE.Sl w A2 m) :
    Calls Try.prog 34 #[.slice A1 l.length c1, .slice A2 m.length c2] w fun e w' => ∃ b, e = .returned (.bool b) ∧ (b = true ↔ l = m) ∧ Below w.heap.size w w' := by
  by_cases hlen : l.length = m.length
  · rw [← hlen]
    have HL := Lib.hid hlen
    clear hlen
    go_enter Try.func34, Try.ntmps34
    go_wp2
    go_loopw [5] (fun x wr => ∃ k : Nat, k ≤ l.length ∧ x = .int .i64 k ∧ (∀ j (hj : j < k) (ha : j < l.length) (hb : j < m.length), l[j] = m[j]) ∧ Below w.heap.size w wr) (fun x _ => l.length - (intOf x).toNat)
    case atStart => exact ⟨0, Nat.zero_le _, rfl, fun j hj => by omega, Below.refl _ _⟩
    case round =>
      obtain ⟨k, hk, rfl, hall, hnx⟩ := hrel
      by_cases hlt : k < l.length
      · obtain ⟨b1, o1, hA1, hw1, hc1⟩ := h1 (by omega)
        have hlt2 : k < m.length := by have := HL.out; omega
        obtain ⟨b2, o2, hA2, hw2, hc2⟩ := h2 (by omega)
        have hat : unE.At wr b1 (o1 + k * 5) l[k] := (hc1 k hlt).below hnx hw1
        have hat2 : unE.At wr b2 (o2 + k * 5) m[k] := (hc2 k hlt2).below hnx hw2
        obtain ⟨p, hp⟩ : ∃ p, l[k] = p := ⟨_, rfl⟩
        obtain ⟨q, hq⟩ : ∃ q, m[k] = q := ⟨_, rfl⟩
        rw [hp] at hat
        rw [hq] at hat2
        have HP := Lib.hid hp
        have HQ := Lib.hid hq
        have HA := Lib.hid hall
        obtain ⟨q0, q1, q2, q3, q4⟩ := unAt hat
        obtain ⟨r0, r1, r2, r3, r4⟩ := unAt hat2
        clear hc1 hc2 hp hq h1 h2 hall hat hat2
        subst hA1 hA2
        by_cases hpq : p = q
        · have HE := Lib.hid hpq
          subst hpq
          go_wp2
          go_quiet (fail)
          go_wp2
          go_roundw
          case rel =>
            refine ⟨k + 1, by omega, by go_num, fun j hj ha hb => ?_, below_drew hnx _⟩
            by_cases e : j = k
            · subst e; rw [HP.out, HQ.out]
            · exact HA.out j (by omega) ha hb
          case measure => simp [intOf]; omega
        · have HN := Lib.hid hpq
          rcases un_unlike hpq with hu | ⟨a0, hu⟩ | ⟨a0, a1, hu⟩ | ⟨a0, a1, a2, hu⟩ | ⟨a0, a1, a2, a3, hu⟩
          all_goals
            clear hpq
            go_wp2
            go_quiet (fail)
            go_wp2
            go_ret
            refine ⟨false, rfl, ⟨fun h => (by cases h), fun h => ?_⟩, below_drew hnx _⟩
            subst h
            exact absurd (HP.out.symm.trans HQ.out) HN.out
      · obtain rfl : k = l.length := by omega
        have HA := Lib.hid hall
        clear hall
        go_wp2
        go_ret
        exact ⟨true, rfl, ⟨fun _ => List.ext_getElem HL.out fun j ha hb => HA.out j ha ha hb, fun _ => rfl⟩, hnx⟩
  · have HL := Lib.hid hlen
    have hne : ¬ m.length = l.length := fun e => hlen e.symm
    go_enter Try.func34, Try.ntmps34
    go_wp2
    go_ret
    exact ⟨false, rfl, ⟨fun h => (by cases h), fun h => absurd (congrArg List.length h) HL.out⟩, Below.refl _ _⟩

set_option maxRecDepth 100000 in
set_option maxHeartbeats 4000000 in
theorem sameOp_any (A1 A2 : Option Addr) (c1 c2 : Nat) (l m : List Mv) (w : World) (hl : l.length ≤ 50000) (hm : m.length ≤ 50000) (h1 : opE.Sl w A1 l) (h2 : opE.Sl w A2 m) :
    Calls Try.prog 49 #[.slice A1 l.length c1, .slice A2 m.length c2] w fun e w' => ∃ b, e = .returned (.bool b) ∧ (b = true ↔ l = m) ∧ Below w.heap.size w w' := by
  by_cases hlen : l.length = m.length
  · rw [← hlen]
    have HL := Lib.hid hlen
    clear hlen
    go_enter Try.func49, Try.ntmps49
    go_wp2
    go_loopw [5] (fun x wr => ∃ k : Nat, k ≤ l.length ∧ x = .int .i64 k ∧ (∀ j (hj : j < k) (ha : j < l.length) (hb : j < m.length), l[j] = m[j]) ∧ Below w.heap.size w wr) (fun x _ => l.length - (intOf x).toNat)
    case atStart => exact ⟨0, Nat.zero_le _, rfl, fun j hj => by omega, Below.refl _ _⟩
    case round =>
      obtain ⟨k, hk, rfl, hall, hnx⟩ := hrel
      by_cases hlt : k < l.length
      · obtain ⟨b1, o1, hA1, hw1, hc1⟩ := h1 (by omega)
        have hlt2 : k < m.length := by have := HL.out; omega
        obtain ⟨b2, o2, hA2, hw2, hc2⟩ := h2 (by omega)
        have hat : opE.At wr b1 (o1 + k * 7) l[k] := (hc1 k hlt).below hnx hw1
        have hat2 : opE.At wr b2 (o2 + k * 7) m[k] := (hc2 k hlt2).below hnx hw2
        obtain ⟨p, hp⟩ : ∃ p, l[k] = p := ⟨_, rfl⟩
        obtain ⟨q, hq⟩ : ∃ q, m[k] = q := ⟨_, rfl⟩
        rw [hp] at hat
        rw [hq] at hat2
        have HP := Lib.hid hp
        have HQ := Lib.hid hq
        have HA := Lib.hid hall
        obtain ⟨q0, q1, q2, q3, q4, q5, q6⟩ := opAt hat
        obtain ⟨r0, r1, r2, r3, r4, r5, r6⟩ := opAt hat2
        clear hc1 hc2 hp hq h1 h2 hall hat hat2
        subst hA1 hA2
        by_cases hpq : p = q
        · have HE := Lib.hid hpq
          subst hpq
          go_wp2
          go_quiet (fail)
          go_wp2
          go_roundw
          case rel =>
            refine ⟨k + 1, by omega, by go_num, fun j hj ha hb => ?_, below_drew hnx _⟩
            by_cases e : j = k
            · subst e; rw [HP.out, HQ.out]
            · exact HA.out j (by omega) ha hb
          case measure => simp [intOf]; omega
        · have HN := Lib.hid hpq
          rcases mv_unlike hpq with hu | ⟨a0, hu⟩ | ⟨a0, a1, hu⟩ | ⟨a0, a1, a2, hu⟩ | ⟨a0, a1, a2, a3, hu⟩ | ⟨a0, a1, a2, a3, a4, hu⟩ | ⟨a0, a1, a2, a3, a4, a5, hu⟩
          all_goals
            clear hpq
            go_wp2
            go_quiet (fail)
            go_wp2
            go_ret
            refine ⟨false, rfl, ⟨fun h => (by cases h), fun h => ?_⟩, below_drew hnx _⟩
            subst h
            exact absurd (HP.out.symm.trans HQ.out) HN.out
      · obtain rfl : k = l.length := by omega
        have HA := Lib.hid hall
        clear hall
        go_wp2
        go_ret
        exact ⟨true, rfl, ⟨fun _ => List.ext_getElem HL.out fun j ha hb => HA.out j ha ha hb, fun _ => rfl⟩, hnx⟩
  · have HL := Lib.hid hlen
    have hne : ¬ m.length = l.length := fun e => hlen e.symm
    go_enter Try.func49, Try.ntmps49
    go_wp2
    go_ret
    exact ⟨false, rfl, ⟨fun h => (by cases h), fun h => absurd (congrArg List.length h) HL.out⟩, Below.refl _ _⟩
end Go.Proofs.Ytfpgfclmmdihjaa

/- Lists that rise by moments: what is put in, what is cut off, and the tree behind them. No program in it. -/
namespace Pst
open Tre

section
variable {α : Type} (c d : α → Int)
/-- The moment of x is ahead of that of y. -/
def bef (x y : α) : Prop := c x < c y ∨ (c x = c y ∧ d x < d y)
instance (x y : α) : Decidable (bef c d x y) := by unfold bef; infer_instance
def same (x y : α) : Prop := c x = c y ∧ d x = d y
instance (x y : α) : Decidable (same c d x y) := by unfold same; infer_instance
variable {c d}
theorem bef_trans {x y z : α} (h : bef c d x y) (k : bef c d y z) : bef c d x z := by unfold bef at *; omega
theorem bef_irrefl {x y : α} (h : same c d x y) : ¬ bef c d x y := by unfold bef same at *; omega
theorem bef_tri (x y : α) : bef c d x y ∨ same c d x y ∨ bef c d y x := by unfold bef same; omega
theorem bef_anti {x y : α} (h : bef c d x y) : ¬ bef c d y x := by unfold bef at *; omega
theorem bef_same {x y z : α} (h : bef c d x y) (k : same c d y z) : bef c d x z := by unfold bef same at *; omega
theorem not_bef {x y : α} (h : ¬ bef c d x y) (k : ¬ same c d x y) : bef c d y x := by
  rcases bef_tri (c := c) (d := d) x y with h1 | h1 | h1
  · exact absurd h1 h
  · exact absurd h1 k
  · exact h1

variable (c d)
def Ris (l : List α) : Prop := l.Pairwise (bef c d)
/-- How many stand ahead of o's moment. -/
def pos (l : List α) (o : α) : Nat := (l.takeWhile fun x => decide (bef c d x o)).length
def insL (l : List α) (o : α) : List α := (l.take (pos c d l o) ++ [o]) ++ l.drop (pos c d l o)
def has (l : List α) (o : α) : Bool := match l[pos c d l o]? with
  | some x => decide (same c d x o)
  | none => false
def addL (l : List α) (o : α) : List α := if has c d l o = true then l else insL c d l o
variable {c d}
theorem pos_le (l : List α) (o : α) : pos c d l o ≤ l.length := by
  unfold pos
  induction l with
  | nil => exact Nat.le_refl _
  | cons p l ih =>
    by_cases h : bef c d p o
    · rw [List.takeWhile_cons_of_pos (by simpa using h)]; simpa using ih
    · rw [List.takeWhile_cons_of_neg (by simpa using h)]; exact Nat.zero_le _
theorem pos_before : ∀ (l : List α) (o : α) (i : Nat) (h : i < l.length), i < pos c d l o → bef c d l[i] o
  | p :: l, o, i, h, hi => by
    unfold pos at hi
    by_cases hp : bef c d p o
    · rw [List.takeWhile_cons_of_pos (by simpa using hp)] at hi
      cases i with
      | zero => exact hp
      | succ i => exact pos_before l o i (by simpa using h) (by unfold pos; simpa using hi)
    · rw [List.takeWhile_cons_of_neg (by simpa using hp)] at hi; simp at hi
theorem pos_at : ∀ (l : List α) (o : α) (h : pos c d l o < l.length), ¬ bef c d l[pos c d l o] o
  | p :: l, o, h => by
    by_cases hp : bef c d p o
    · have e : pos c d (p :: l) o = pos c d l o + 1 := by unfold pos; rw [List.takeWhile_cons_of_pos (by simpa using hp)]; rfl
      simp only [e, List.getElem_cons_succ]
      exact pos_at l o (by rw [e] at h; simpa using h)
    · have e : pos c d (p :: l) o = 0 := by unfold pos; rw [List.takeWhile_cons_of_neg (by simpa using hp)]; rfl
      simp only [e, List.getElem_cons_zero]; exact hp
theorem pos_eq {l : List α} {o : α} {k : Nat} (hk : k ≤ l.length) (h1 : ∀ i (h : i < l.length), i < k → bef c d l[i] o) (h2 : ∀ (h : k < l.length), ¬ bef c d l[k] o) : k = pos c d l o := by
  rcases Nat.lt_trichotomy k (pos c d l o) with h | h | h
  · have hl : k < l.length := Nat.lt_of_lt_of_le h (pos_le l o)
    exact absurd (pos_before l o k hl h) (h2 hl)
  · exact h
  · have hl : pos c d l o < l.length := Nat.lt_of_lt_of_le h hk
    exact absurd (h1 _ hl h) (pos_at l o hl)
theorem ris_get {l : List α} (h : Ris c d l) {i j : Nat} (hi : i < l.length) (hj : j < l.length) (hij : i < j) : bef c d l[i] l[j] := List.pairwise_iff_getElem.1 h i j hi hj hij
theorem has_iff {l : List α} (hr : Ris c d l) (o : α) : has c d l o = true ↔ ∃ x ∈ l, same c d x o := by
  unfold has
  constructor
  · intro h
    rcases e : l[pos c d l o]? with _ | x
    · rw [e] at h; cases h
    · rw [e] at h
      exact ⟨x, List.mem_of_getElem? e, of_decide_eq_true h⟩
  · rintro ⟨x, hx, hs⟩
    obtain ⟨i, hi, rfl⟩ := List.getElem_of_mem hx
    have e : i = pos c d l o := pos_eq (Nat.le_of_lt hi) (fun j hj hji => bef_same (ris_get hr hj hi hji) hs) (fun _ => bef_irrefl hs)
    rw [← e, List.getElem?_eq_getElem hi]
    exact decide_eq_true hs
theorem mem_ins (l : List α) (o x : α) : x ∈ insL c d l o ↔ (x = o ∨ x ∈ l) := by
  unfold insL
  rw [List.mem_append, List.mem_append, List.mem_singleton]
  constructor
  · rintro ((h | h) | h)
    · exact Or.inr (List.mem_of_mem_take h)
    · exact Or.inl h
    · exact Or.inr (List.mem_of_mem_drop h)
  · rintro (h | h)
    · exact Or.inl (Or.inr h)
    · rw [← List.take_append_drop (pos c d l o) l, List.mem_append] at h
      rcases h with h | h
      · exact Or.inl (Or.inl h)
      · exact Or.inr h
theorem take_bef (l : List α) (o : α) : ∀ x ∈ l.take (pos c d l o), bef c d x o := fun x hx => by
  obtain ⟨i, hi, rfl⟩ := List.getElem_of_mem hx
  rw [List.length_take] at hi
  rw [List.getElem_take]
  exact pos_before l o i (by omega) (by omega)
theorem drop_bef {l : List α} (hr : Ris c d l) {o : α} (hn : has c d l o = false) : ∀ x ∈ l.drop (pos c d l o), bef c d o x := fun x hx => by
  obtain ⟨i, hi, rfl⟩ := List.getElem_of_mem hx
  rw [List.length_drop] at hi
  rw [List.getElem_drop]
  have hl : pos c d l o < l.length := by omega
  have h1 := pos_at l o hl
  have h2 : ¬ same c d l[pos c d l o] o := fun e => by
    have := (has_iff hr o).2 ⟨_, List.getElem_mem hl, e⟩
    rw [hn] at this; cases this
  have h3 := not_bef h1 h2
  by_cases e : i = 0
  · subst e; exact h3
  · exact bef_trans h3 (ris_get hr hl (by omega) (by omega))
theorem ris_ins {l : List α} (hr : Ris c d l) {o : α} (hn : has c d l o = false) : Ris c d (insL c d l o) := by
  unfold Ris insL
  rw [List.pairwise_append, List.pairwise_append]
  refine ⟨⟨hr.sublist (List.take_sublist _ _), List.pairwise_singleton _ _, fun x hx y hy => ?_⟩, hr.sublist (List.drop_sublist _ _), fun x hx y hy => ?_⟩
  · rw [List.mem_singleton] at hy; subst hy; exact take_bef l y x hx
  · have h2 := drop_bef hr hn y hy
    rcases List.mem_append.1 hx with h | h
    · exact bef_trans (take_bef l o x h) h2
    · rw [List.mem_singleton] at h; subst h; exact h2
theorem ris_add {l : List α} (hr : Ris c d l) (o : α) : Ris c d (addL c d l o) := by
  unfold addL
  by_cases h : has c d l o = true
  · rw [if_pos h]; exact hr
  · rw [if_neg h]; exact ris_ins hr (by simpa using h)
theorem ris_ext : ∀ {l m : List α}, Ris c d l → Ris c d m → (∀ x, x ∈ l ↔ x ∈ m) → l = m
  | [], [], _, _, _ => rfl
  | [], q :: m, _, _, h => absurd ((h q).2 (by simp)) (by simp)
  | p :: l, [], _, _, h => absurd ((h p).1 (by simp)) (by simp)
  | p :: l, q :: m, hl, hm, h => by
    have hl' := List.pairwise_cons.1 hl
    have hm' := List.pairwise_cons.1 hm
    have e : p = q := by
      rcases List.mem_cons.1 ((h p).1 (by simp)) with e | e
      · exact e
      · rcases List.mem_cons.1 ((h q).2 (by simp)) with e2 | e2
        · exact e2.symm
        · exact absurd (hl'.1 q e2) (bef_anti (hm'.1 p e))
    subst e
    congr 1
    refine ris_ext hl'.2 hm'.2 fun r => ⟨fun hr => ?_, fun hr => ?_⟩
    · rcases List.mem_cons.1 ((h r).1 (by simp [hr])) with e | e
      · subst e; exact absurd (hl'.1 r hr) (bef_irrefl ⟨rfl, rfl⟩)
      · exact e
    · rcases List.mem_cons.1 ((h r).2 (by simp [hr])) with e | e
      · subst e; exact absurd (hm'.1 r hr) (bef_irrefl ⟨rfl, rfl⟩)
      · exact e

/-- No two have one moment. -/
def Unlike (l : List α) : Prop := l.Pairwise fun x y => ¬ same c d x y
theorem add_all : ∀ (l a : List α), Ris c d a → (∀ x ∈ l, ∀ y ∈ a, ¬ same c d y x) → Unlike (c := c) (d := d) l → Ris c d (l.foldl (addL c d) a) ∧ ∀ x, x ∈ l.foldl (addL c d) a ↔ (x ∈ a ∨ x ∈ l)
  | [], a, hr, _, _ => ⟨hr, fun x => by simp⟩
  | o :: l, a, hr, hx, hu => by
    have hu' := List.pairwise_cons.1 hu
    have hn : has c d a o = false := by
      rcases h : has c d a o with _ | _
      · rfl
      · obtain ⟨y, hy, hs⟩ := (has_iff hr o).1 h
        exact absurd hs (hx o (by simp) y hy)
    have he : addL c d a o = insL c d a o := by unfold addL; rw [hn]; rfl
    rw [List.foldl_cons, he]
    obtain ⟨h1, h2⟩ := add_all l (insL c d a o) (ris_ins hr hn) (fun x hxl y hy => by
      rcases (mem_ins a o y).1 hy with rfl | hy
      · exact hu'.1 x hxl
      · exact hx x (by simp [hxl]) y hy) hu'.2
    refine ⟨h1, fun x => ?_⟩
    rw [h2, mem_ins, List.mem_cons]
    constructor
    · rintro ((h | h) | h)
      · exact Or.inr (Or.inl h)
      · exact Or.inl h
      · exact Or.inr (Or.inr h)
    · rintro (h | h | h)
      · exact Or.inl (Or.inr h)
      · exact Or.inl (Or.inl h)
      · exact Or.inr h
/-- In whatever order they come, the list is one. -/
theorem add_order {l m : List α} (hu : Unlike (c := c) (d := d) l) (hv : Unlike (c := c) (d := d) m) (h : ∀ x, x ∈ l ↔ x ∈ m) : l.foldl (addL c d) [] = m.foldl (addL c d) [] := by
  obtain ⟨h1, h2⟩ := add_all l [] List.Pairwise.nil (fun x _ y hy => by cases hy) hu
  obtain ⟨h3, h4⟩ := add_all m [] List.Pairwise.nil (fun x _ y hy => by cases hy) hv
  exact ris_ext h1 h3 fun x => by rw [h2, h4]; simp [h x]
theorem ins_len (l : List α) (o : α) : (insL c d l o).length = l.length + 1 := by
  have := pos_le (c := c) (d := d) l o
  unfold insL
  rw [List.length_append, List.length_append, List.length_take, List.length_drop, List.length_singleton]; omega

variable (c)
/-- How many have counters up to t. -/
def upto (l : List α) (t : Int) : Nat := (l.takeWhile fun x => decide (c x ≤ t)).length
variable {c}
theorem upto_le (l : List α) (t : Int) : upto c l t ≤ l.length := by
  unfold upto
  induction l with
  | nil => exact Nat.le_refl _
  | cons p l ih =>
    by_cases h : c p ≤ t
    · rw [List.takeWhile_cons_of_pos (by simpa using h)]; simpa using ih
    · rw [List.takeWhile_cons_of_neg (by simpa using h)]; exact Nat.zero_le _
theorem upto_before : ∀ (l : List α) (t : Int) (i : Nat) (h : i < l.length), i < upto c l t → c l[i] ≤ t
  | p :: l, t, i, h, hi => by
    unfold upto at hi
    by_cases hp : c p ≤ t
    · rw [List.takeWhile_cons_of_pos (by simpa using hp)] at hi
      cases i with
      | zero => exact hp
      | succ i => exact upto_before l t i (by simpa using h) (by unfold upto; simpa using hi)
    · rw [List.takeWhile_cons_of_neg (by simpa using hp)] at hi; simp at hi
theorem upto_at : ∀ (l : List α) (t : Int) (h : upto c l t < l.length), t < c l[upto c l t]
  | p :: l, t, h => by
    by_cases hp : c p ≤ t
    · have e : upto c (p :: l) t = upto c l t + 1 := by unfold upto; rw [List.takeWhile_cons_of_pos (by simpa using hp)]; rfl
      simp only [e, List.getElem_cons_succ]
      exact upto_at l t (by rw [e] at h; simpa using h)
    · have e : upto c (p :: l) t = 0 := by unfold upto; rw [List.takeWhile_cons_of_neg (by simpa using hp)]; rfl
      simp only [e, List.getElem_cons_zero]; omega
theorem upto_eq {l : List α} {t : Int} {k : Nat} (hk : k ≤ l.length) (h1 : ∀ i (h : i < l.length), i < k → c l[i] ≤ t) (h2 : ∀ (h : k < l.length), t < c l[k]) : k = upto c l t := by
  rcases Nat.lt_trichotomy k (upto c l t) with h | h | h
  · have hl : k < l.length := Nat.lt_of_lt_of_le h (upto_le l t)
    have := upto_before l t k hl h
    have := h2 hl
    omega
  · exact h
  · have hl : upto c l t < l.length := Nat.lt_of_lt_of_le h hk
    have := h1 _ hl h
    have := upto_at l t hl
    omega
theorem ris_c {l : List α} (hr : Ris c d l) {i j : Nat} (hi : i < l.length) (hj : j < l.length) (hij : i ≤ j) : c l[i] ≤ c l[j] := by
  by_cases e : i = j
  · subst e; exact Int.le_refl _
  · have := ris_get hr hi hj (by omega)
    unfold bef at this; omega
theorem upto_drop {l : List α} (hr : Ris c d l) (t : Int) : ∀ x ∈ l.drop (upto c l t), t < c x := fun x hx => by
  obtain ⟨i, hi, rfl⟩ := List.getElem_of_mem hx
  rw [List.length_drop] at hi
  rw [List.getElem_drop]
  have hl : upto c l t < l.length := by omega
  have h1 := upto_at l t hl
  have h2 := ris_c hr hl (j := upto c l t + i) (by omega) (by omega)
  omega
theorem upto_take (l : List α) (t : Int) : ∀ x ∈ l.take (upto c l t), c x ≤ t := fun x hx => by
  obtain ⟨i, hi, rfl⟩ := List.getElem_of_mem hx
  rw [List.length_take] at hi
  rw [List.getElem_take]
  exact upto_before l t i (by omega) (by omega)
/-- What comes behind t goes in behind what is cut off. -/
theorem pos_cut {l : List α} (hr : Ris c d l) {t : Int} {o : α} (ho : t < c o) : pos c d l o = upto c l t + pos c d (l.drop (upto c l t)) o := by
  have h1 := upto_le (c := c) l t
  have h2 := pos_le (c := c) (d := d) (l.drop (upto c l t)) o
  rw [List.length_drop] at h2
  refine (pos_eq (by omega) (fun i hi hlt => ?_) (fun h => ?_)).symm
  · by_cases h : i < upto c l t
    · have := upto_before l t i hi h
      exact Or.inl (by omega)
    · have h3 := pos_before (c := c) (d := d) (l.drop (upto c l t)) o (i - upto c l t) (by rw [List.length_drop]; omega) (by omega)
      rw [List.getElem_drop] at h3
      have e : upto c l t + (i - upto c l t) = i := by omega
      simp only [e] at h3; exact h3
  · have h3 := pos_at (c := c) (d := d) (l.drop (upto c l t)) o (by rw [List.length_drop]; omega)
    rw [List.getElem_drop] at h3
    exact h3
theorem ins_cut {l : List α} (hr : Ris c d l) {t : Int} {o : α} (ho : t < c o) : insL c d l o = l.take (upto c l t) ++ insL c d (l.drop (upto c l t)) o := by
  unfold insL
  rw [pos_cut hr ho, List.take_add, ← List.drop_drop]
  simp only [List.append_assoc]
theorem has_cut {l : List α} (hr : Ris c d l) {t : Int} {o : α} (ho : t < c o) : has c d l o = has c d (l.drop (upto c l t)) o := by
  unfold has
  rw [pos_cut hr ho, List.getElem?_drop]
theorem upto_ins {l : List α} (hr : Ris c d l) {t : Int} {o : α} (ho : t < c o) : upto c (insL c d l o) t = upto c l t := by
  have h1 := upto_le (c := c) l t
  have hlen := ins_len (c := c) (d := d) l o
  have ht : (l.take (upto c l t)).length = upto c l t := by rw [List.length_take]; omega
  refine (upto_eq (by omega) (fun i hi hlt => ?_) (fun h => ?_)).symm
  · have hi2 : i < l.length := by omega
    have : (insL c d l o)[i] = l[i] := by
      simp only [ins_cut hr ho]
      rw [List.getElem_append_left (by omega), List.getElem_take]
    rw [this]; exact upto_before l t i hi2 hlt
  · have hm : (insL c d l o)[upto c l t] ∈ insL c d (l.drop (upto c l t)) o := by
      simp only [ins_cut hr ho]
      rw [List.getElem_append_right (by omega)]
      exact List.getElem_mem _
    rcases (mem_ins _ _ _).1 hm with e | e
    · rw [e]; exact ho
    · exact upto_drop hr t _ e

variable (mv : α → Pl)
/-- The tree behind operations, and what undoes each. -/
def foldO (b : List Pl) (l : List α) : List Pl × List Un := foldL b (l.map mv)
theorem foldO_app (b : List Pl) (l m : List α) : (foldO mv b (l ++ m)).1 = (foldO mv (foldO mv b l).1 m).1 := by
  unfold foldO; rw [List.map_append, foldL_app]
/-- What is settled changes nothing of the tree. -/
theorem foldO_cut (b : List Pl) (l : List α) (k : Nat) : (foldO mv (foldO mv b (l.take k)).1 (l.drop k)).1 = (foldO mv b l).1 := by
  rw [← foldO_app, List.take_append_drop]
end
end Pst

/- A region that draws its order, whose last operation writes what others of it read: S need not hold behind that one. No function of the program in it. -/
namespace Go.Proofs.Ytfpgfclmmdihjaa
open Go.RowKit

section
variable {P : Program} {ops : Array Oper} {Q : Exit → Act → World → Prop} {md : Region.Mode} {S : World → Prop} {n : Nat}

/-- Whatever order is picked from here on; S holds behind every operation till number n comes. -/
def anyG (P : Program) (md : Region.Mode) (ops : Array Oper) (Q : Exit → Act → World → Prop) (S : World → Prop) (n : Nat) : Nat → Array Bool → Act → World → Prop
  | 0, listed, a, w => Region.ready md ops listed = [] ∧ Q .normal a w
  | fuel + 1, listed, a, w =>
    (Region.ready md ops listed = [] → Q .normal a w) ∧
    ∀ i ∈ Region.ready md ops listed, wpOp P ops Q i (fun b v => ((listed.setIfInBounds i true).getD n true = false → S v) ∧ anyG P md ops Q S n fuel (listed.setIfInBounds i true) b v) a w
theorem anyG_any : ∀ (fuel : Nat) (listed : Array Bool) (a : Act) (w : World), anyG P md ops Q S n fuel listed a w → wpAny P md ops Q fuel listed a w
  | 0, _, _, _, h => h
  | fuel + 1, _, _, _, h => ⟨h.1, fun i hi => wpOp_mono (fun b v hb => anyG_any fuel _ b v hb.2) (h.2 i hi)⟩
theorem region_anyG {id : Nat} {a : Act} {w : World} (n : Nat) (hm : P.follows .mixedOrders = true) (h : anyG P .any ops Q S n ops.size (Array.replicate ops.size false) a w.drew) : (Code.region id ops true).wp P Q a w :=
  wp_region_any hm (anyG_any _ _ _ _ h)

/-- Number n waits for number i. -/
def waitsB (md : Region.Mode) (ops : Array Oper) (n i : Nat) : Bool := match ops[n]? with
  | none => false
  | some o => o.after.any fun e => Region.binds md e && e.on == i
theorem waits_spec {listed : Array Bool} {i : Nat} (hl : waitsB md ops n i = true) (hr : n ∈ Region.ready md ops listed) : listed.getD i false = true := by
  obtain ⟨_, o, ho, hall⟩ := mem_ready.1 hr
  unfold waitsB at hl
  rw [ho] at hl
  obtain ⟨e, he, hb⟩ := Array.any_eq_true'.1 hl
  rw [Bool.and_eq_true, beq_iff_eq] at hb
  have := hall e he hb.1
  rw [hb.2] at this; exact this
theorem getD_false {listed : Array Bool} {i : Nat} (h : listed.getD i true = false) : listed.getD i false = false := by
  rcases Nat.lt_or_ge i listed.size with h1 | h1
  · simp [h1] at h ⊢; exact h
  · simp [Array.getElem?_eq_none h1] at h
theorem getD_here (listed : Array Bool) (n : Nat) : (listed.setIfInBounds n true).getD n true = true := by
  rcases Nat.lt_or_ge n listed.size with h1 | h1
  · simp [h1]
  · have h2 : (listed.setIfInBounds n true).size ≤ n := by simpa using h1
    simp [Array.getElem?_eq_none h2]

theorem anyG_first {i : Nat} {oi : Oper} {v : Value} (hi : ops[i]? = some oi) (hin : i ≠ n) (hsel : ∀ (j : Nat) (o : Oper) cs b, ops[j]? = some o → o.op ≠ .select cs b)
    (hQ : ∀ c a w, Q (.panic c) (a.put oi.dst v) w → Q (.panic c) a w) (T : World → Prop) (hT : waitsB md ops n i = true ∨ ∀ w, T w) :
    ∀ (fuel : Nat) (listed : Array Bool) (a : Act) (w : World),
      (∀ j oj, ops[j]? = some oj → j ≠ i → listed.getD j true = false → (∀ e ∈ oj.after, Region.binds md e = true → e.on ≠ i) → oi.apart ops oj = true) →
      i ∈ Region.ready md ops listed → YieldsIf P ops T oi v a → T w → (listed.getD n true = false → S w) → ((∀ w, T w) ∨ (listed.getD n true = false ∧ ∀ w, S w → T w)) →
      anyG P md ops Q S n fuel (listed.setIfInBounds i true) (a.put oi.dst v) w → anyG P md ops Q S n (fuel + 1) listed a w := by
  intro fuel
  induction fuel with
  | zero =>
    intro listed a w _ hr hy hTw hS _ H
    refine ⟨fun h => (by rw [h] at hr; cases hr), fun j hj => ?_⟩
    by_cases hji : j = i
    · subst hji; exact hy.wpOp hi hTw ⟨fun h => hS (by rw [getD_set_ne true hin] at h; exact h), H⟩
    · have h0 := ready_mono hj hji
      rw [H.1] at h0
      cases h0
  | succ fuel ih =>
    intro listed a w hfree hr hy hTw hS hTT H
    refine ⟨fun h => (by rw [h] at hr; cases hr), fun j hj => ?_⟩
    by_cases hji : j = i
    · subst hji; exact hy.wpOp hi hTw ⟨fun h => hS (by rw [getD_set_ne true hin] at h; exact h), H⟩
    · have hunf := getD_false (mem_ready.1 hr).1
      have h1 := H.2 j (ready_mono hj hji)
      obtain ⟨hjun, oj, hoj, hall⟩ := mem_ready.1 hj
      have hnot : ∀ e ∈ oj.after, Region.binds md e = true → e.on ≠ i := fun e he hb heq => by
        have h2 := hall e he hb
        rw [heq, hunf] at h2; cases h2
      have h2 := wpOp_putIf hoj (hfree j oj hoj hji hjun hnot) (fun cs b => hsel i oi cs b hi) (fun cs b => hsel j oj cs b hoj) hQ hy h1
      refine wpOp_mono (fun b u h3 => ?_) h2
      have hSu : (listed.setIfInBounds j true).getD n true = false → S u := fun h => h3.2.1 (by
        rw [Array.setIfInBounds_comm _ _ (Ne.symm hji), getD_set_ne true hin]; exact h)
      have hTu : T u ∧ ((∀ w, T w) ∨ ((listed.setIfInBounds j true).getD n true = false ∧ ∀ w, S w → T w)) := by
        rcases hTT with hTT | ⟨hun, hST⟩
        · exact ⟨hTT u, Or.inl hTT⟩
        · by_cases hjn : j = n
          · rcases hT with hT | hT
            · subst hjn
              have h4 := waits_spec hT hj
              rw [hunf] at h4; cases h4
            · exact ⟨hT u, Or.inl hT⟩
          · have hn2 : (listed.setIfInBounds j true).getD n true = false := by rw [getD_set_ne true hjn]; exact hun
            exact ⟨hST u (hSu hn2), Or.inr ⟨hn2, hST⟩⟩
      refine ⟨hSu, ih (listed.setIfInBounds j true) b u (fun k ok hk hki hku hno => hfree k ok hk hki ?_ hno) (ready_mono hr (Ne.symm hji)) h3.1 hTu.1 hSu hTu.2 ?_⟩
      · by_cases hjk : j = k
        · subst hjk; exact hjun
        · rw [getD_set_ne true hjk] at hku; exact hku
      · rw [Array.setIfInBounds_comm _ _ hji]
        exact h3.2.2
/-- What yields in whatever world meets S, and for what number n waits. -/
theorem anyG_take {i : Nat} {oi : Oper} {v : Value} {fuel : Nat} {listed : Array Bool} {a : Act} {w : World} (hi : ops.toList[i]? = some oi)
    (hl : waitsB md ops n i = true) (hin : (i == n || listed.getD n true) = false) (hs : Region.noSelect ops = true) (hf : Region.free md ops listed i = true) (hr : (Region.ready md ops listed).contains i = true)
    (hQ : ∀ c a w, Q (.panic c) (a.put oi.dst v) w → Q (.panic c) a w) (hy : YieldsIf P ops S oi v a) (hS : S w)
    (h : anyG P md ops Q S n fuel (listed.setIfInBounds i true) (a.put oi.dst v) w) : anyG P md ops Q S n (fuel + 1) listed a w := by
  have hi : ops[i]? = some oi := by rw [← Array.getElem?_toList]; exact hi
  rw [Bool.or_eq_false_iff] at hin
  exact anyG_first hi (by simpa using hin.1) (Region.noSelect_spec hs) hQ S (Or.inl hl) fuel listed a w (Region.free_spec hi hf) (by simpa using hr) hy hS (fun _ => hS) (Or.inr ⟨hin.2, fun _ h => h⟩) h
/-- What yields in every world: behind number n, too. -/
theorem anyG_plain {i : Nat} {oi : Oper} {v : Value} {fuel : Nat} {listed : Array Bool} {a : Act} {w : World} (hi : ops.toList[i]? = some oi)
    (hin : (i == n) = false) (hs : Region.noSelect ops = true) (hf : Region.free md ops listed i = true) (hr : (Region.ready md ops listed).contains i = true)
    (hQ : ∀ c a w, Q (.panic c) (a.put oi.dst v) w → Q (.panic c) a w) (hy : Yields P ops oi v a) (hS : listed.getD n true = false → S w)
    (h : anyG P md ops Q S n fuel (listed.setIfInBounds i true) (a.put oi.dst v) w) : anyG P md ops Q S n (fuel + 1) listed a w := by
  have hi : ops[i]? = some oi := by rw [← Array.getElem?_toList]; exact hi
  exact anyG_first hi (by simpa using hin) (Region.noSelect_spec hs) hQ (fun _ => True) (Or.inr fun _ => trivial) fuel listed a w (Region.free_spec hi hf) (by simpa using hr) hy.yieldsIf trivial hS (Or.inl fun _ => trivial) h
theorem anyG_done {listed : Array Bool} {a : Act} {w : World} (hr : Region.ready md ops listed = []) (h : Q .normal a w) : ∀ fuel, anyG P md ops Q S n fuel listed a w
  | 0 => ⟨hr, h⟩
  | _ + 1 => ⟨fun _ => h, by rw [hr]; simp⟩
/-- One of these comes next. -/
def AllG (P : Program) (md : Region.Mode) (ops : Array Oper) (Q : Exit → Act → World → Prop) (S : World → Prop) (n fuel : Nat) (listed : Array Bool) (a : Act) (w : World) (rs : List Nat) : Prop :=
  ∀ i ∈ rs, wpOp P ops Q i (fun b v => ((listed.setIfInBounds i true).getD n true = false → S v) ∧ anyG P md ops Q S n fuel (listed.setIfInBounds i true) b v) a w
theorem anyG_step {rs : List Nat} {fuel : Nat} {listed : Array Bool} {a : Act} {w : World} (hr : Region.ready md ops listed = rs) (hne : rs ≠ []) (h : AllG P md ops Q S n fuel listed a w rs) : anyG P md ops Q S n (fuel + 1) listed a w :=
  ⟨fun h0 => absurd (hr ▸ h0) hne, hr ▸ h⟩
theorem AllG.nil {fuel : Nat} {listed : Array Bool} {a : Act} {w : World} : AllG P md ops Q S n fuel listed a w [] := fun _ h => by cases h
/-- An operation of the middle: S anew. -/
theorem AllG.cons {fuel : Nat} {listed : Array Bool} {a : Act} {w : World} {i : Nat} {o : Oper} {rs : List Nat} (ho : ops.toList[i]? = some o)
    (h : ∀ K : Act → World → Prop, RowKit.Hid (∀ b v, S v → anyG P md ops Q S n fuel (listed.setIfInBounds i true) b v → K b v) → if Region.wanted o (yielded ops a.tmps) = true then Oper.wp P o a w K Q else K (a.put o.dst undef) w)
    (hs : AllG P md ops Q S n fuel listed a w rs) : AllG P md ops Q S n fuel listed a w (i :: rs) := fun j hj => by
  rcases List.mem_cons.1 hj with rfl | hj
  · exact wpOp_step (by rw [← Array.getElem?_toList]; exact ho) (fun K hK => h K (Lib.hid fun b v hS hW => hK b v ⟨fun _ => hS, hW⟩))
  · exact hs j hj
/-- The last one: nothing is asked behind it. -/
theorem AllG.last {fuel : Nat} {listed : Array Bool} {a : Act} {w : World} {o : Oper} (ho : ops.toList[n]? = some o)
    (h : ∀ K : Act → World → Prop, RowKit.Hid (∀ b v, anyG P md ops Q S n fuel (listed.setIfInBounds n true) b v → K b v) → if Region.wanted o (yielded ops a.tmps) = true then Oper.wp P o a w K Q else K (a.put o.dst undef) w) :
    AllG P md ops Q S n fuel listed a w [n] := fun j hj => by
  rw [List.mem_singleton] at hj
  subst hj
  exact wpOp_step (by rw [← Array.getElem?_toList]; exact ho) (fun K hK => h K (Lib.hid fun b v hW => hK b v ⟨fun e => (by rw [getD_here] at e; cases e), hW⟩))
end
end Go.Proofs.Ytfpgfclmmdihjaa

/- A past: what it is, where it lies; what is told of it by the document's answers. -/
namespace Go.Proofs.Ytfpgfclmmdihjaa
open Go.RowKit Tre Cod Pst

/-- A past's lists. -/
structure Pv where
  base : List Pl
  t : Int
  ops : List Mv
  us : List Un
  now : List Pl
def Pv.zero : Pv := ⟨[], 0, [], [], []⟩
/-- So, and where its slices lie. -/
structure Pw where
  bA : Option Addr
  bc : Nat
  base : List Pl
  t : Int
  oA : Option Addr
  oc : Nat
  ops : List Mv
  uA : Option Addr
  uc : Nat
  us : List Un
  wA : Option Addr
  wc : Nat
  now : List Pl
def Pw.v (x : Pw) : Pv := ⟨x.base, x.t, x.ops, x.us, x.now⟩
def Pw.zero : Pw := ⟨none, 0, [], 0, none, 0, [], none, 0, [], none, 0, []⟩
def pwE : El Pw where
  e := 27
  k := 5
  c x := [.slice x.bA x.base.length x.bc, .int .i64 x.t, .slice x.oA x.ops.length x.oc, .slice x.uA x.us.length x.uc, .slice x.wA x.now.length x.wc]
  len _ := rfl
  one p u h := by
    simp only [List.mem_cons, List.not_mem_nil, or_false] at h
    rcases h with rfl | rfl | rfl | rfl | rfl <;> rfl
  pos := by decide
theorem pwRow : pwE.Row Try.prog := ⟨by kernel_rfl, _, Try.underlying27, rfl⟩
theorem pwIn5 {w : World} {b : Nat} {x : Pw} (h : pwE.In w b x) : w.cell? ⟨b, 0, none⟩ = some (.slice x.bA x.base.length x.bc) ∧ w.cell? ⟨b, 1, none⟩ = some (.int .i64 x.t) ∧ w.cell? ⟨b, 2, none⟩ = some (.slice x.oA x.ops.length x.oc) ∧ w.cell? ⟨b, 3, none⟩ = some (.slice x.uA x.us.length x.uc) ∧ w.cell? ⟨b, 4, none⟩ = some (.slice x.wA x.now.length x.wc) :=
  ⟨h.cell 0, h.cell 1, h.cell 2, h.cell 3, h.cell 4⟩
/-- Its slices hold its lists. -/
structure PastOk (w : World) (x : Pw) : Prop where
  b : SlV plE w x.bA x.bc x.base
  o : SlV opE w x.oA x.oc x.ops
  u : SlV unE w x.uA x.uc x.us
  w : SlV plE w x.wA x.wc x.now
theorem PastOk.below {W w : World} {x : Pw} (h : PastOk W x) (hb : Below W.heap.size W w) : PastOk w x := ⟨h.b.below hb, h.o.below hb, h.u.below hb, h.w.below hb⟩
theorem PastOk.zero (w : World) : PastOk w Pw.zero := ⟨SlV.nil _ _, SlV.nil _ _, SlV.nil _ _, SlV.nil _ _⟩

/-- With an operation more. -/
def addV (q : Pv) (m : Mv) : Pv × Bool :=
  if m.C ≤ q.t then (q, false) else if has Mv.C Mv.D q.ops m = true then (q, false) else
    ({ q with ops := insL Mv.C Mv.D q.ops m, us := (foldL q.base (mvs (insL Mv.C Mv.D q.ops m))).2, now := (foldL q.base (mvs (insL Mv.C Mv.D q.ops m))).1 }, true)
/-- Settled up to t. -/
def settleV (q : Pv) (t : Int) : Pv :=
  if t ≤ q.t then q else
    let b := (foldL q.base (mvs (q.ops.take (upto Mv.C q.ops t)))).1
    let o := q.ops.drop (upto Mv.C q.ops t)
    ⟨b, t, o, (foldL b (mvs o)).2, (foldL b (mvs o)).1⟩
def ownV (q : Pv) (d i : Int) : Nat := (q.ops.filter fun m => decide (m.D = d ∧ m.I = i)).length
def ofV (q : Pv) (d : Int) : Nat := (q.ops.filter fun m => decide (m.D = d)).length

theorem bef_iff (a b : Mv) : befB a.C a.D b.C b.D = decide (bef Mv.C Mv.D a b) := by
  unfold befB bef; rfl
theorem has_end {l : List Mv} {m : Mv} (h : pos Mv.C Mv.D l m = l.length) : has Mv.C Mv.D l m = false := by
  unfold has; rw [h, List.getElem?_eq_none (Nat.le_refl _)]
theorem has_at {l : List Mv} {m x : Mv} {k : Nat} (h : k = pos Mv.C Mv.D l m) (hk : k < l.length) (hx : l[k] = x) : has Mv.C Mv.D l m = decide (x.C = m.C ∧ x.D = m.D) := by
  unfold has; rw [← h, List.getElem?_eq_getElem hk, hx]; rfl
end Go.Proofs.Ytfpgfclmmdihjaa
