/- Texts laid one behind the other: Pm, Gr, Vh, Vm, Wk, Wm, Wa, Wd, Wr, To, Uo, Tf, Tg, Vi, Pa, Za, Aa, Ad, Fb, Ic, Id, Eb, Fc, Qb, Hb, Zb, Zc. -/
import Derived.Test.YtnglpkfkepfkkaaB01
import Derived.Deep.RegionHeld3
import Derived.Lib.QuietBelow
import Derived.Lib.SmallJoins
import Derived.Deep.SlicePairs
import Derived.ChangeSlices
import Derived.ChangeShapes
import Derived.Lib.Builder
import Derived.Lib.AppendStr
import Derived.WalkKit
import Derived.Lib.MinMax
import Derived.BigQuiet
import Derived.Deep.QuietTactic
/- Lists that rise by moments: what is put in, what is cut off, and the tree behind them. No program in it. -/
namespace Pst
open Tre

section
variable {α : Type} (c d : α → Int)
/-- The moment of x is ahead of that of y. -/
def bef (x y : α) : Prop := c x < c y ∨ (c x = c y ∧ d x < d y)
instance (x y : α) : Decidable (bef c d x y) := by unfold bef; infer_instance
def same (x y : α) : Prop := c x = c y ∧ d x = d y
instance (x y : α) : Decidable (same c d x y) := by unfold same; infer_instance
variable {c d}
theorem bef_trans {x y z : α} (h : bef c d x y) (k : bef c d y z) : bef c d x z := by unfold bef at *; omega
theorem bef_irrefl {x y : α} (h : same c d x y) : ¬ bef c d x y := by unfold bef same at *; omega
theorem bef_tri (x y : α) : bef c d x y ∨ same c d x y ∨ bef c d y x := by unfold bef same; omega
theorem bef_same {x y z : α} (h : bef c d x y) (k : same c d y z) : bef c d x z := by unfold bef same at *; omega
theorem not_bef {x y : α} (h : ¬ bef c d x y) (k : ¬ same c d x y) : bef c d y x := by
  rcases bef_tri (c := c) (d := d) x y with h1 | h1 | h1
  · exact absurd h1 h
  · exact absurd h1 k
  · exact h1

variable (c d)
def Ris (l : List α) : Prop := l.Pairwise (bef c d)
/-- How many stand ahead of o's moment. -/
def pos (l : List α) (o : α) : Nat := (l.takeWhile fun x => decide (bef c d x o)).length
def insL (l : List α) (o : α) : List α := (l.take (pos c d l o) ++ [o]) ++ l.drop (pos c d l o)
def has (l : List α) (o : α) : Bool := match l[pos c d l o]? with
  | some x => decide (same c d x o)
  | none => false
variable {c d}
theorem pos_le (l : List α) (o : α) : pos c d l o ≤ l.length := by
  unfold pos
  induction l with
  | nil => exact Nat.le_refl _
  | cons p l ih =>
    by_cases h : bef c d p o
    · rw [List.takeWhile_cons_of_pos (by simpa using h)]; simpa using ih
    · rw [List.takeWhile_cons_of_neg (by simpa using h)]; exact Nat.zero_le _
theorem pos_before : ∀ (l : List α) (o : α) (i : Nat) (h : i < l.length), i < pos c d l o → bef c d l[i] o
  | p :: l, o, i, h, hi => by
    unfold pos at hi
    by_cases hp : bef c d p o
    · rw [List.takeWhile_cons_of_pos (by simpa using hp)] at hi
      cases i with
      | zero => exact hp
      | succ i => exact pos_before l o i (by simpa using h) (by unfold pos; simpa using hi)
    · rw [List.takeWhile_cons_of_neg (by simpa using hp)] at hi; simp at hi
theorem pos_at : ∀ (l : List α) (o : α) (h : pos c d l o < l.length), ¬ bef c d l[pos c d l o] o
  | p :: l, o, h => by
    by_cases hp : bef c d p o
    · have e : pos c d (p :: l) o = pos c d l o + 1 := by unfold pos; rw [List.takeWhile_cons_of_pos (by simpa using hp)]; rfl
      simp only [e, List.getElem_cons_succ]
      exact pos_at l o (by rw [e] at h; simpa using h)
    · have e : pos c d (p :: l) o = 0 := by unfold pos; rw [List.takeWhile_cons_of_neg (by simpa using hp)]; rfl
      simp only [e, List.getElem_cons_zero]; exact hp
theorem pos_eq {l : List α} {o : α} {k : Nat} (hk : k ≤ l.length) (h1 : ∀ i (h : i < l.length), i < k → bef c d l[i] o) (h2 : ∀ (h : k < l.length), ¬ bef c d l[k] o) : k = pos c d l o := by
  rcases Nat.lt_trichotomy k (pos c d l o) with h | h | h
  · have hl : k < l.length := Nat.lt_of_lt_of_le h (pos_le l o)
    exact absurd (pos_before l o k hl h) (h2 hl)
  · exact h
  · have hl : pos c d l o < l.length := Nat.lt_of_lt_of_le h hk
    exact absurd (h1 _ hl h) (pos_at l o hl)
theorem ris_get {l : List α} (h : Ris c d l) {i j : Nat} (hi : i < l.length) (hj : j < l.length) (hij : i < j) : bef c d l[i] l[j] := List.pairwise_iff_getElem.1 h i j hi hj hij
theorem has_iff {l : List α} (hr : Ris c d l) (o : α) : has c d l o = true ↔ ∃ x ∈ l, same c d x o := by
  unfold has
  constructor
  · intro h
    rcases e : l[pos c d l o]? with _ | x
    · rw [e] at h; cases h
    · rw [e] at h
      exact ⟨x, List.mem_of_getElem? e, of_decide_eq_true h⟩
  · rintro ⟨x, hx, hs⟩
    obtain ⟨i, hi, rfl⟩ := List.getElem_of_mem hx
    have e : i = pos c d l o := pos_eq (Nat.le_of_lt hi) (fun j hj hji => bef_same (ris_get hr hj hi hji) hs) (fun _ => bef_irrefl hs)
    rw [← e, List.getElem?_eq_getElem hi]
    exact decide_eq_true hs
theorem mem_ins (l : List α) (o x : α) : x ∈ insL c d l o ↔ (x = o ∨ x ∈ l) := by
  unfold insL
  rw [List.mem_append, List.mem_append, List.mem_singleton]
  constructor
  · rintro ((h | h) | h)
    · exact Or.inr (List.mem_of_mem_take h)
    · exact Or.inl h
    · exact Or.inr (List.mem_of_mem_drop h)
  · rintro (h | h)
    · exact Or.inl (Or.inr h)
    · rw [← List.take_append_drop (pos c d l o) l, List.mem_append] at h
      rcases h with h | h
      · exact Or.inl (Or.inl h)
      · exact Or.inr h
theorem take_bef (l : List α) (o : α) : ∀ x ∈ l.take (pos c d l o), bef c d x o := fun x hx => by
  obtain ⟨i, hi, rfl⟩ := List.getElem_of_mem hx
  rw [List.length_take] at hi
  rw [List.getElem_take]
  exact pos_before l o i (by omega) (by omega)
theorem drop_bef {l : List α} (hr : Ris c d l) {o : α} (hn : has c d l o = false) : ∀ x ∈ l.drop (pos c d l o), bef c d o x := fun x hx => by
  obtain ⟨i, hi, rfl⟩ := List.getElem_of_mem hx
  rw [List.length_drop] at hi
  rw [List.getElem_drop]
  have hl : pos c d l o < l.length := by omega
  have h1 := pos_at l o hl
  have h2 : ¬ same c d l[pos c d l o] o := fun e => by
    have := (has_iff hr o).2 ⟨_, List.getElem_mem hl, e⟩
    rw [hn] at this; cases this
  have h3 := not_bef h1 h2
  by_cases e : i = 0
  · subst e; exact h3
  · exact bef_trans h3 (ris_get hr hl (by omega) (by omega))
theorem ris_ins {l : List α} (hr : Ris c d l) {o : α} (hn : has c d l o = false) : Ris c d (insL c d l o) := by
  unfold Ris insL
  rw [List.pairwise_append, List.pairwise_append]
  refine ⟨⟨hr.sublist (List.take_sublist _ _), List.pairwise_singleton _ _, fun x hx y hy => ?_⟩, hr.sublist (List.drop_sublist _ _), fun x hx y hy => ?_⟩
  · rw [List.mem_singleton] at hy; subst hy; exact take_bef l y x hx
  · have h2 := drop_bef hr hn y hy
    rcases List.mem_append.1 hx with h | h
    · exact bef_trans (take_bef l o x h) h2
    · rw [List.mem_singleton] at h; subst h; exact h2
variable (c)
variable {c}
variable (mv : α → Pl)
end
end Pst

/- A region that draws its order, whose last operation writes what others of it read: S need not hold behind that one. No function of the program in it. -/
namespace Go.Proofs.Ytnglpkfkepfkkaa
open Go.RowKit

section
variable {P : Program} {ops : Array Oper} {Q : Exit → Act → World → Prop} {md : Region.Mode} {S : World → Prop} {n : Nat}

/-- Whatever order is picked from here on; S holds behind every operation till number n comes. -/
def anyG (P : Program) (md : Region.Mode) (ops : Array Oper) (Q : Exit → Act → World → Prop) (S : World → Prop) (n : Nat) : Nat → Array Bool → Act → World → Prop
  | 0, listed, a, w => Region.ready md ops listed = [] ∧ Q .normal a w
  | fuel + 1, listed, a, w =>
    (Region.ready md ops listed = [] → Q .normal a w) ∧
    ∀ i ∈ Region.ready md ops listed, wpOp P ops Q i (fun b v => ((listed.setIfInBounds i true).getD n true = false → S v) ∧ anyG P md ops Q S n fuel (listed.setIfInBounds i true) b v) a w
theorem anyG_any : ∀ (fuel : Nat) (listed : Array Bool) (a : Act) (w : World), anyG P md ops Q S n fuel listed a w → wpAny P md ops Q fuel listed a w
  | 0, _, _, _, h => h
  | fuel + 1, _, _, _, h => ⟨h.1, fun i hi => wpOp_mono (fun b v hb => anyG_any fuel _ b v hb.2) (h.2 i hi)⟩
theorem region_anyG {id : Nat} {a : Act} {w : World} (n : Nat) (hm : P.follows .mixedOrders = true) (h : anyG P .any ops Q S n ops.size (Array.replicate ops.size false) a w.drew) : (Code.region id ops true).wp P Q a w :=
  wp_region_any hm (anyG_any _ _ _ _ h)

/-- Number n waits for number i. -/
def waitsB (md : Region.Mode) (ops : Array Oper) (n i : Nat) : Bool := match ops[n]? with
  | none => false
  | some o => o.after.any fun e => Region.binds md e && e.on == i
theorem waits_spec {listed : Array Bool} {i : Nat} (hl : waitsB md ops n i = true) (hr : n ∈ Region.ready md ops listed) : listed.getD i false = true := by
  obtain ⟨_, o, ho, hall⟩ := mem_ready.1 hr
  unfold waitsB at hl
  rw [ho] at hl
  obtain ⟨e, he, hb⟩ := Array.any_eq_true'.1 hl
  rw [Bool.and_eq_true, beq_iff_eq] at hb
  have := hall e he hb.1
  rw [hb.2] at this; exact this
theorem getD_false {listed : Array Bool} {i : Nat} (h : listed.getD i true = false) : listed.getD i false = false := by
  rcases Nat.lt_or_ge i listed.size with h1 | h1
  · simp [h1] at h ⊢; exact h
  · simp [Array.getElem?_eq_none h1] at h
theorem getD_here (listed : Array Bool) (n : Nat) : (listed.setIfInBounds n true).getD n true = true := by
  rcases Nat.lt_or_ge n listed.size with h1 | h1
  · simp [h1]
  · have h2 : (listed.setIfInBounds n true).size ≤ n := by simpa using h1
    simp [Array.getElem?_eq_none h2]

theorem anyG_first {i : Nat} {oi : Oper} {v : Value} (hi : ops[i]? = some oi) (hin : i ≠ n) (hsel : ∀ (j : Nat) (o : Oper) cs b, ops[j]? = some o → o.op ≠ .select cs b)
    (hQ : ∀ c a w, Q (.panic c) (a.put oi.dst v) w → Q (.panic c) a w) (T : World → Prop) (hT : waitsB md ops n i = true ∨ ∀ w, T w) :
    ∀ (fuel : Nat) (listed : Array Bool) (a : Act) (w : World),
      (∀ j oj, ops[j]? = some oj → j ≠ i → listed.getD j true = false → (∀ e ∈ oj.after, Region.binds md e = true → e.on ≠ i) → oi.apart ops oj = true) →
      i ∈ Region.ready md ops listed → YieldsIf P ops T oi v a → T w → (listed.getD n true = false → S w) → ((∀ w, T w) ∨ (listed.getD n true = false ∧ ∀ w, S w → T w)) →
      anyG P md ops Q S n fuel (listed.setIfInBounds i true) (a.put oi.dst v) w → anyG P md ops Q S n (fuel + 1) listed a w := by
  intro fuel
  induction fuel with
  | zero =>
    intro listed a w _ hr hy hTw hS _ H
    refine ⟨fun h => (by rw [h] at hr; cases hr), fun j hj => ?_⟩
    by_cases hji : j = i
    · subst hji; exact hy.wpOp hi hTw ⟨fun h => hS (by rw [getD_set_ne true hin] at h; exact h), H⟩
    · have h0 := ready_mono hj hji
      rw [H.1] at h0
      cases h0
  | succ fuel ih =>
    intro listed a w hfree hr hy hTw hS hTT H
    refine ⟨fun h => (by rw [h] at hr; cases hr), fun j hj => ?_⟩
    by_cases hji : j = i
    · subst hji; exact hy.wpOp hi hTw ⟨fun h => hS (by rw [getD_set_ne true hin] at h; exact h), H⟩
    · have hunf := getD_false (mem_ready.1 hr).1
      have h1 := H.2 j (ready_mono hj hji)
      obtain ⟨hjun, oj, hoj, hall⟩ := mem_ready.1 hj
      have hnot : ∀ e ∈ oj.after, Region.binds md e = true → e.on ≠ i := fun e he hb heq => by
        have h2 := hall e he hb
        rw [heq, hunf] at h2; cases h2
      have h2 := wpOp_putIf hoj (hfree j oj hoj hji hjun hnot) (fun cs b => hsel i oi cs b hi) (fun cs b => hsel j oj cs b hoj) hQ hy h1
      refine wpOp_mono (fun b u h3 => ?_) h2
      have hSu : (listed.setIfInBounds j true).getD n true = false → S u := fun h => h3.2.1 (by
        rw [Array.setIfInBounds_comm _ _ (Ne.symm hji), getD_set_ne true hin]; exact h)
      have hTu : T u ∧ ((∀ w, T w) ∨ ((listed.setIfInBounds j true).getD n true = false ∧ ∀ w, S w → T w)) := by
        rcases hTT with hTT | ⟨hun, hST⟩
        · exact ⟨hTT u, Or.inl hTT⟩
        · by_cases hjn : j = n
          · rcases hT with hT | hT
            · subst hjn
              have h4 := waits_spec hT hj
              rw [hunf] at h4; cases h4
            · exact ⟨hT u, Or.inl hT⟩
          · have hn2 : (listed.setIfInBounds j true).getD n true = false := by rw [getD_set_ne true hjn]; exact hun
            exact ⟨hST u (hSu hn2), Or.inr ⟨hn2, hST⟩⟩
      refine ⟨hSu, ih (listed.setIfInBounds j true) b u (fun k ok hk hki hku hno => hfree k ok hk hki ?_ hno) (ready_mono hr (Ne.symm hji)) h3.1 hTu.1 hSu hTu.2 ?_⟩
      · by_cases hjk : j = k
        · subst hjk; exact hjun
        · rw [getD_set_ne true hjk] at hku; exact hku
      · rw [Array.setIfInBounds_comm _ _ hji]
        exact h3.2.2
/-- What yields in whatever world meets S, and for what number n waits. -/
theorem anyG_take {i : Nat} {oi : Oper} {v : Value} {fuel : Nat} {listed : Array Bool} {a : Act} {w : World} (hi : ops.toList[i]? = some oi)
    (hl : waitsB md ops n i = true) (hin : (i == n || listed.getD n true) = false) (hs : Region.noSelect ops = true) (hf : Region.free md ops listed i = true) (hr : (Region.ready md ops listed).contains i = true)
    (hQ : ∀ c a w, Q (.panic c) (a.put oi.dst v) w → Q (.panic c) a w) (hy : YieldsIf P ops S oi v a) (hS : S w)
    (h : anyG P md ops Q S n fuel (listed.setIfInBounds i true) (a.put oi.dst v) w) : anyG P md ops Q S n (fuel + 1) listed a w := by
  have hi : ops[i]? = some oi := by rw [← Array.getElem?_toList]; exact hi
  rw [Bool.or_eq_false_iff] at hin
  exact anyG_first hi (by simpa using hin.1) (Region.noSelect_spec hs) hQ S (Or.inl hl) fuel listed a w (Region.free_spec hi hf) (by simpa using hr) hy hS (fun _ => hS) (Or.inr ⟨hin.2, fun _ h => h⟩) h
/-- What yields in every world: behind number n, too. -/
theorem anyG_plain {i : Nat} {oi : Oper} {v : Value} {fuel : Nat} {listed : Array Bool} {a : Act} {w : World} (hi : ops.toList[i]? = some oi)
    (hin : (i == n) = false) (hs : Region.noSelect ops = true) (hf : Region.free md ops listed i = true) (hr : (Region.ready md ops listed).contains i = true)
    (hQ : ∀ c a w, Q (.panic c) (a.put oi.dst v) w → Q (.panic c) a w) (hy : Yields P ops oi v a) (hS : listed.getD n true = false → S w)
    (h : anyG P md ops Q S n fuel (listed.setIfInBounds i true) (a.put oi.dst v) w) : anyG P md ops Q S n (fuel + 1) listed a w := by
  have hi : ops[i]? = some oi := by rw [← Array.getElem?_toList]; exact hi
  exact anyG_first hi (by simpa using hin) (Region.noSelect_spec hs) hQ (fun _ => True) (Or.inr fun _ => trivial) fuel listed a w (Region.free_spec hi hf) (by simpa using hr) hy.yieldsIf trivial hS (Or.inl fun _ => trivial) h
theorem anyG_done {listed : Array Bool} {a : Act} {w : World} (hr : Region.ready md ops listed = []) (h : Q .normal a w) : ∀ fuel, anyG P md ops Q S n fuel listed a w
  | 0 => ⟨hr, h⟩
  | _ + 1 => ⟨fun _ => h, by rw [hr]; simp⟩
/-- One of these comes next. -/
def AllG (P : Program) (md : Region.Mode) (ops : Array Oper) (Q : Exit → Act → World → Prop) (S : World → Prop) (n fuel : Nat) (listed : Array Bool) (a : Act) (w : World) (rs : List Nat) : Prop :=
  ∀ i ∈ rs, wpOp P ops Q i (fun b v => ((listed.setIfInBounds i true).getD n true = false → S v) ∧ anyG P md ops Q S n fuel (listed.setIfInBounds i true) b v) a w
theorem anyG_step {rs : List Nat} {fuel : Nat} {listed : Array Bool} {a : Act} {w : World} (hr : Region.ready md ops listed = rs) (hne : rs ≠ []) (h : AllG P md ops Q S n fuel listed a w rs) : anyG P md ops Q S n (fuel + 1) listed a w :=
  ⟨fun h0 => absurd (hr ▸ h0) hne, hr ▸ h⟩
theorem AllG.nil {fuel : Nat} {listed : Array Bool} {a : Act} {w : World} : AllG P md ops Q S n fuel listed a w [] := fun _ h => by cases h
/-- An operation of the middle: S anew. -/
theorem AllG.cons {fuel : Nat} {listed : Array Bool} {a : Act} {w : World} {i : Nat} {o : Oper} {rs : List Nat} (ho : ops.toList[i]? = some o)
    (h : ∀ K : Act → World → Prop, RowKit.Hid (∀ b v, S v → anyG P md ops Q S n fuel (listed.setIfInBounds i true) b v → K b v) → if Region.wanted o (yielded ops a.tmps) = true then Oper.wp P o a w K Q else K (a.put o.dst undef) w)
    (hs : AllG P md ops Q S n fuel listed a w rs) : AllG P md ops Q S n fuel listed a w (i :: rs) := fun j hj => by
  rcases List.mem_cons.1 hj with rfl | hj
  · exact wpOp_step (by rw [← Array.getElem?_toList]; exact ho) (fun K hK => h K (Lib.hid fun b v hS hW => hK b v ⟨fun _ => hS, hW⟩))
  · exact hs j hj
/-- The last one: nothing is asked behind it. -/
theorem AllG.last {fuel : Nat} {listed : Array Bool} {a : Act} {w : World} {o : Oper} (ho : ops.toList[n]? = some o)
    (h : ∀ K : Act → World → Prop, RowKit.Hid (∀ b v, anyG P md ops Q S n fuel (listed.setIfInBounds n true) b v → K b v) → if Region.wanted o (yielded ops a.tmps) = true then Oper.wp P o a w K Q else K (a.put o.dst undef) w) :
    AllG P md ops Q S n fuel listed a w [n] := fun j hj => by
  rw [List.mem_singleton] at hj
  subst hj
  exact wpOp_step (by rw [← Array.getElem?_toList]; exact ho) (fun K hK => h K (Lib.hid fun b v hW => hK b v ⟨fun e => (by rw [getD_here] at e; cases e), hW⟩))
end
end Go.Proofs.Ytnglpkfkepfkkaa

/- A past: what it is, where it lies; what is told of it by the document's answers. -/
namespace Go.Proofs.Ytnglpkfkepfkkaa
open Go.RowKit Tre Cod Pst

/-- A past's lists. -/
structure Pv where
  base : List Pl
  t : Int
  ops : List Mv
  us : List Un
  now : List Pl
def Pv.zero : Pv := ⟨[], 0, [], [], []⟩
/-- So, and where its slices lie. -/
structure Pw where
  bA : Option Addr
  bc : Nat
  base : List Pl
  t : Int
  oA : Option Addr
  oc : Nat
  ops : List Mv
  uA : Option Addr
  uc : Nat
  us : List Un
  wA : Option Addr
  wc : Nat
  now : List Pl
def Pw.v (x : Pw) : Pv := ⟨x.base, x.t, x.ops, x.us, x.now⟩
def Pw.zero : Pw := ⟨none, 0, [], 0, none, 0, [], none, 0, [], none, 0, []⟩
def pwE : El Pw where
  e := 44
  k := 5
  c x := [.slice x.bA x.base.length x.bc, .int .i64 x.t, .slice x.oA x.ops.length x.oc, .slice x.uA x.us.length x.uc, .slice x.wA x.now.length x.wc]
  len _ := rfl
  one p u h := by
    simp only [List.mem_cons, List.not_mem_nil, or_false] at h
    rcases h with rfl | rfl | rfl | rfl | rfl <;> rfl
  pos := by decide
theorem pwIn5 {w : World} {b : Nat} {x : Pw} (h : pwE.In w b x) : w.cell? ⟨b, 0, none⟩ = some (.slice x.bA x.base.length x.bc) ∧ w.cell? ⟨b, 1, none⟩ = some (.int .i64 x.t) ∧ w.cell? ⟨b, 2, none⟩ = some (.slice x.oA x.ops.length x.oc) ∧ w.cell? ⟨b, 3, none⟩ = some (.slice x.uA x.us.length x.uc) ∧ w.cell? ⟨b, 4, none⟩ = some (.slice x.wA x.now.length x.wc) :=
  ⟨h.cell 0, h.cell 1, h.cell 2, h.cell 3, h.cell 4⟩
/-- Its slices hold its lists. -/
structure PastOk (w : World) (x : Pw) : Prop where
  b : SlV plE w x.bA x.bc x.base
  o : SlV opE w x.oA x.oc x.ops
  u : SlV unE w x.uA x.uc x.us
  w : SlV plE w x.wA x.wc x.now
theorem PastOk.below {W w : World} {x : Pw} (h : PastOk W x) (hb : Below W.heap.size W w) : PastOk w x := ⟨h.b.below hb, h.o.below hb, h.u.below hb, h.w.below hb⟩
theorem PastOk.zero (w : World) : PastOk w Pw.zero := ⟨SlV.nil _ _, SlV.nil _ _, SlV.nil _ _, SlV.nil _ _⟩

/-- With an operation more. -/
def addV (q : Pv) (m : Mv) : Pv × Bool :=
  if m.C ≤ q.t then (q, false) else if has Mv.C Mv.D q.ops m = true then (q, false) else
    ({ q with ops := insL Mv.C Mv.D q.ops m, us := (foldL q.base (mvs (insL Mv.C Mv.D q.ops m))).2, now := (foldL q.base (mvs (insL Mv.C Mv.D q.ops m))).1 }, true)
end Go.Proofs.Ytnglpkfkepfkkaa

/- A past as it must be, and what stays so. No call in it. -/
namespace Go.Proofs.Ytnglpkfkepfkkaa
open Go.RowKit Tre Cod Pst Nam
structure PInv (q : Pv) : Prop where
  tree : treeB q.base = true
  t0 : 0 ≤ q.t
  t1 : q.t ≤ 1099511627776
  ok : ∀ m ∈ q.ops, m.ok
  gt : ∀ m ∈ q.ops, q.t < m.C
  ris : Ris Mv.C Mv.D q.ops
  un : q.us = (foldL q.base (mvs q.ops)).2
  nw : q.now = (foldL q.base (mvs q.ops)).1
theorem PInv.zero : PInv Pv.zero where
  tree := rfl
  t0 := Int.le_refl _
  t1 := by decide
  ok := fun m h => by cases h
  gt := fun m h => by cases h
  ris := List.Pairwise.nil
  un := rfl
  nw := rfl
theorem addV_late' {q : Pv} {m : Mv} (h : m.C ≤ q.t) : addV q m = (q, false) := by unfold addV; rw [if_pos h]
theorem addV_same' {q : Pv} {m : Mv} (h : ¬ m.C ≤ q.t) (hh : has Mv.C Mv.D q.ops m = true) : addV q m = (q, false) := by unfold addV; rw [if_neg h, if_pos hh]
theorem addV_new' {q : Pv} {m : Mv} (h : ¬ m.C ≤ q.t) (hh : has Mv.C Mv.D q.ops m = false) : addV q m = ({ q with ops := insL Mv.C Mv.D q.ops m, us := (foldL q.base (mvs (insL Mv.C Mv.D q.ops m))).2, now := (foldL q.base (mvs (insL Mv.C Mv.D q.ops m))).1 }, true) := by
  unfold addV; rw [if_neg h, hh]; rfl
theorem PInv.add {q : Pv} (h : PInv q) {m : Mv} (hm : m.ok) : PInv (addV q m).1 := by
  by_cases h1 : m.C ≤ q.t
  · rw [addV_late' h1]; exact h
  · rcases h2 : has Mv.C Mv.D q.ops m with _ | _
    · rw [addV_new' h1 h2]
      refine ⟨h.tree, h.t0, h.t1, fun x hx => ?_, fun x hx => ?_, ris_ins h.ris h2, rfl, rfl⟩
      · rcases (mem_ins _ _ _).1 hx with rfl | hx
        · exact hm
        · exact h.ok x hx
      · rcases (mem_ins _ _ _).1 hx with rfl | hx
        · show q.t < _; omega
        · exact h.gt x hx
    · rw [addV_same' h1 h2]; exact h
end Go.Proofs.Ytnglpkfkepfkkaa

/- Whether operations may be, rise, and come behind a counter: rightOps of the program. -/
namespace Go.Proofs.Ytnglpkfkepfkkaa
open Go.RowKit Tre Cod Pst

/-- The first k may be, rise, and come behind t. -/
def OpsTo (l : List Mv) (t : Int) (k : Nat) : Prop := ∀ i (h : i < l.length), i < k → l[i].ok ∧ t < l[i].C ∧ ∀ (h0 : 0 < i), bef Mv.C Mv.D (l[i - 1]'(by omega)) l[i]
def OpsR (l : List Mv) (t : Int) : Prop := OpsTo l t l.length
theorem OpsTo.zero (l : List Mv) (t : Int) : OpsTo l t 0 := fun i h hi => by omega
theorem OpsR.at {l : List Mv} {t : Int} (h : OpsR l t) (k : Nat) (hk : k < l.length) : l[k].ok ∧ t < l[k].C ∧ ∀ (h0 : 0 < k), bef Mv.C Mv.D (l[k - 1]'(by omega)) l[k] := h k hk hk

end Go.Proofs.Ytnglpkfkepfkkaa

/- Whether a past is one: Right of the program. -/
namespace Go.Proofs.Ytnglpkfkepfkkaa
open Go.RowKit Tre Cod Pst Nam

def PastR (q : Pv) : Prop := treeB q.base = true ∧ 0 ≤ q.t ∧ q.t ≤ 1099511627776 ∧ OpsR q.ops q.t ∧ q.now = (foldL q.base (mvs q.ops)).1 ∧ q.us = (foldL q.base (mvs q.ops)).2
theorem PInv.right {q : Pv} (h : PInv q) : PastR q :=
  ⟨h.tree, h.t0, h.t1, fun i hi _ => ⟨h.ok _ (List.getElem_mem hi), h.gt _ (List.getElem_mem hi), fun h0 => ris_get h.ris (by omega) hi (by omega)⟩, h.nw, h.un⟩

end Go.Proofs.Ytnglpkfkepfkkaa

/- Of the library, at operations and undos: Clone, Grow, Concat. -/
namespace Go.Proofs.Ytnglpkfkepfkkaa
open Go.RowKit Tre Cod

def catE {α : Type} (F : Nat → List α) : Nat → List α
  | 0 => []
  | k + 1 => catE F k ++ F k
theorem catE_le {α : Type} (F : Nat → List α) (k : Nat) : ∀ n, k ≤ n → (catE F k).length ≤ (catE F n).length
  | 0, h => by obtain rfl : k = 0 := by omega
               exact Nat.le_refl _
  | n + 1, h => by
    by_cases e : k = n + 1
    · subst e; exact Nat.le_refl _
    · have := catE_le F k n (by omega)
      rw [catE, List.length_append]; omega

set_option maxRecDepth 100000 in
theorem cloneOp_any (A : Option Addr) (c : Nat) (l : List Mv) (w : World) (hl : l.length ≤ 50000) (hT : SlV opE w A c l) :
    Calls Try.prog 52 #[.slice A l.length c] w fun e w' => ∃ A' c', e = .returned (.slice A' l.length c') ∧ SlV opE w' A' c' l ∧ Frs w.heap.size A' ∧ Below w.heap.size w w' := by
  obtain ⟨hT, hz, hlc⟩ := hT
  have q : ∀ (w : World) (a : Option Addr) (n c n' c' : Nat), (binOp .eql 23 (.slice a n c) (.slice none n' c')).run Try.prog w = .ok (.bool a.isNone) w := fun w a n c n' c' => Lib.run_eql_slice_nil w _ _ a n c n' c' Try.underlying23
  cases A with
  | none =>
    obtain rfl := hT.none_nil
    obtain rfl := hz rfl
    go_enter Try.func52, Try.ntmps52
    go_wp2
    go_ret
    exact ⟨none, 0, rfl, SlV.nil _ _, frs_nil _, Below.refl _ _⟩
  | some a =>
    go_enter Try.func52, Try.ntmps52
    have hE := El.Own.empty (E := opE) w w.heap.size (Nat.le_refl _)
    have hb0 := below_alloc (Below.refl w.heap.size w) (.cells #[] 64)
    go_wp2_with (at_builtin; refine El.wpList_app opInn rfl _ _ rfl w.heap.size _ [] l rfl hE (some a) _ c rfl rfl (hT.below hb0) (fun e => by cases e) (by simp; omega) (by simp) ?_; intro v' w2 hown hg _)
    obtain ⟨A', c', rfl, hS⟩ := SlV.own hown
    go_wp2
    go_ret
    exact ⟨A', c', rfl, hS, hown.frs, below_own hb0 hg (hE.rows)⟩

end Go.Proofs.Ytnglpkfkepfkkaa

/- A past in new memory. -/
namespace Go.Proofs.Ytnglpkfkepfkkaa
open Go.RowKit Tre Cod Pst

section
variable {P : Program} {ops : Array Oper} {Q : Exit → Act → World → Prop} {md : Region.Mode} {S : World → Prop} {n : Nat}
/-- An operation behind number n: nothing is asked. -/
theorem AllG.after {fuel : Nat} {listed : Array Bool} {a : Act} {w : World} {i : Nat} {o : Oper} {rs : List Nat} (ho : ops.toList[i]? = some o) (hn : (listed.setIfInBounds i true).getD n true = true)
    (h : ∀ K : Act → World → Prop, RowKit.Hid (∀ b v, anyG P md ops Q S n fuel (listed.setIfInBounds i true) b v → K b v) → if Region.wanted o (yielded ops a.tmps) = true then Oper.wp P o a w K Q else K (a.put o.dst undef) w)
    (hs : AllG P md ops Q S n fuel listed a w rs) : AllG P md ops Q S n fuel listed a w (i :: rs) := fun j hj => by
  rcases List.mem_cons.1 hj with rfl | hj
  · exact wpOp_step (by rw [← Array.getElem?_toList]; exact ho) (fun K hK => h K (Lib.hid fun b v hW => hK b v ⟨fun e => (by rw [hn] at e; cases e), hW⟩))
  · exact hs j hj
theorem anyG_plain_after {i : Nat} {oi : Oper} {v : Value} {fuel : Nat} {listed : Array Bool} {a : Act} {w : World} (hi : ops.toList[i]? = some oi)
    (hin : (i == n) = false) (hs : Region.noSelect ops = true) (hf : Region.free md ops listed i = true) (hr : (Region.ready md ops listed).contains i = true)
    (hQ : ∀ c a w, Q (.panic c) (a.put oi.dst v) w → Q (.panic c) a w) (hy : Yields P ops oi v a) (hn : listed.getD n true = true)
    (h : anyG P md ops Q S n fuel (listed.setIfInBounds i true) (a.put oi.dst v) w) : anyG P md ops Q S n (fuel + 1) listed a w :=
  anyG_plain hi hin hs hf hr hQ hy (fun e => by rw [hn] at e; cases e) h
end

/-- Its slices are the call's own. -/
structure PFrs (B : Nat) (y : Pw) : Prop where
  b : Frs B y.bA
  o : Frs B y.oA
  u : Frs B y.uA
  w : Frs B y.wA
theorem PFrs.mono {B C : Nat} {y : Pw} (h : PFrs C y) (hb : B ≤ C) : PFrs B y := ⟨h.b.mono hb, h.o.mono hb, h.u.mono hb, h.w.mono hb⟩
/-- A block ahead of them is written: they stay. -/
theorem PastOk.keep {w w' : World} {y : Pw} {B b : Nat} (h : PastOk w y) (hf : PFrs B y) (hg : w.grownBy w' (some b)) (hb : b < B) : PastOk w' y :=
  ⟨h.b.keep hf.b hg hb, h.o.keep hf.o hg hb, h.u.keep hf.u hg hb, h.w.keep hf.w hg hb⟩
end Go.Proofs.Ytnglpkfkepfkkaa

/- The law's example; what a past's block leaves of pasts. -/
namespace Go.Proofs.Ytnglpkfkepfkkaa
open Go.RowKit Tre Cod Pst Nam

theorem two_int {w : World} {n o : Nat} {x : Pw} {a b : Int} (h : pwE.In w n x) (h1 : w.cell? ⟨n, o, none⟩ = some (.int .i64 a)) (h2 : w.cell? ⟨n, o + 1, none⟩ = some (.int .i64 b)) : False := by
  rw [h.cell] at h1 h2
  match o, h1, h2 with
  | 0, h1, _ => exact absurd (Option.some.inj h1) (by intro e; cases e)
  | 1, _, h2 => exact absurd (Option.some.inj h2) (by intro e; cases e)
  | 2, h1, _ => exact absurd (Option.some.inj h1) (by intro e; cases e)
  | 3, h1, _ => exact absurd (Option.some.inj h1) (by intro e; cases e)
  | 4, h1, _ => exact absurd (Option.some.inj h1) (by intro e; cases e)
  | o + 5, h1, _ => exact absurd h1 (by intro e; cases e)
theorem SlV.off {α : Type} {E : El α} {w w' : World} {A : Option Addr} {c n : Nat} {l : List α} {x : Pw} (h : SlV E w A c l) (hp : pwE.In w n x) (hg : w.grownBy w' (some n)) (hi : ∀ y : α, ∃ a b : Int, (E.c y)[0]? = some (.int .i64 a) ∧ (E.c y)[1]? = some (.int .i64 b)) : SlV E w' A c l := by
  refine ⟨?_, h.2⟩
  intro h0
  obtain ⟨b, off, e, hl, hc⟩ := h.1 h0
  refine ⟨b, off, e, Nat.lt_of_lt_of_le hl hg.size, fun i hi2 => (hc i hi2).grown hg fun e2 => ?_⟩
  have e3 := Option.some.inj e2
  subst e3
  obtain ⟨a1, a2, h1, h2⟩ := hi l[0]
  have g1 := hc 0 h0 0 _ h1
  have g2 := hc 0 h0 1 _ h2
  exact two_int hp g1 g2
/-- A past's own block is written: other pasts stay. -/
theorem PastOk.off {w w' : World} {n : Nat} {x y : Pw} (h : PastOk w y) (hp : pwE.In w n x) (hg : w.grownBy w' (some n)) : PastOk w' y :=
  ⟨h.b.off hp hg fun p => ⟨p.n, p.u, rfl, rfl⟩, h.o.off hp hg fun m => ⟨m.C, m.D, rfl, rfl⟩, h.u.off hp hg fun u => ⟨u.was.n, u.was.u, rfl, rfl⟩, h.w.off hp hg fun p => ⟨p.n, p.u, rfl, rfl⟩⟩

end Go.Proofs.Ytnglpkfkepfkkaa

/- How the arguments of the laws are opened. -/
namespace Go.Proofs.Ytnglpkfkepfkkaa
open Go.ChangeShapes Go.WideShapes Go.ChangeAt Go.RowKit Go.Deep Nam Cod Tre
theorem add_plain (b o n : Nat) : (⟨b, o, none⟩ : Addr).add n = ⟨b, o + n, none⟩ := Addr.add_lit b o n
end Go.Proofs.Ytnglpkfkepfkkaa

/- Slices among the arguments, opened, whatever their elements; bytes as elements. -/
namespace Go.Proofs.Ytnglpkfkepfkkaa
open Go.ChangeShapes Go.WideShapes Go.ChangeAt Go.RowKit Go.Deep Nam Cod Tre
/-- A block that is a row of these. -/
theorem El.Sl.row {α : Type} {E : El α} (w : World) (l : List α) (cs : Array Value) (hc : cs = (E.cells l).toArray) : E.Sl (w.alloc (.cells cs E.e)) (some ⟨w.heap.size, 0, none⟩) l := fun _ => by
  subst hc
  refine ⟨w.heap.size, 0, rfl, by rw [alloc_size]; omega, fun i hi j u hu => ?_⟩
  have h := cell_of_row (w.alloc (.cells (E.cells l).toArray E.e)) w.heap.size (i * E.k + j) _ E.e (0, 0) (heap_alloc_new w _)
  rw [show 0 + i * E.k + j = i * E.k + j by omega, h]
  simpa using El.cells_at l i hi j u hu
set_option maxRecDepth 100000 in
/-- A slice among the cells of an argument. -/
theorem open_cells {α : Type} (E : El α) (Q : α → Prop) {st : TypeId} (hu : Try.prog.underlying st = some (.slice E.e)) (hk : Try.prog.cellsOf E.e = E.k) [Inhabited α] {H : Type} {enc : TypeId × Value → H} {W : World} {fuel : Nat} {cs : List Value} {x : DataW H × List MemPlace}
    (hrd : ∀ {fuel : Nat} {cs : List Value} {x : DataW H × List MemPlace}, DataW.trod enc Try.prog W 0 (fun _ => true) true fuel E.e cs = some x → ∃ a, cs = E.c a ∧ Q a)
    (hf : DataW.trod enc Try.prog W 0 (fun _ => true) true fuel st cs = some x) :
    ∃ (A : Option Addr) (cap : Nat) (l : List α), cs = [.slice A l.length cap] ∧ (E.Sl W A l ∧ (A = none → cap = 0) ∧ l.length ≤ cap) ∧ ∀ p ∈ l, Q p := by
  rcases open_slice hu hf with ⟨hcs, hx⟩ | ⟨a, len, cap, m, n, D, Pls, hcs, _, hle, hm, hmm, hx, hi⟩
  · exact ⟨none, 0, [], hcs, ⟨El.Sl.nil W none, fun _ => rfl, Nat.le_refl _⟩, fun p hp => by cases hp⟩
  · simp only [if_true] at hmm
    have hv : ∀ i, i < m → ∃ p : α, Q p ∧ W.cells? 0 (a.add (i * E.k)) E.k = some (E.c p) := by
      intro i him
      obtain ⟨cs', h1, h2⟩ := hi i him
      rw [hk] at h1
      obtain ⟨p, rfl, hw⟩ := hrd h2
      exact ⟨p, hw, h1⟩
    obtain ⟨f, hf2⟩ := choose_lt hv
    have hlen : ((List.range len).map f).length = len := by simp
    refine ⟨some a, cap, (List.range len).map f, by rw [hlen]; exact hcs, ⟨fun h => ?_, (fun e => by cases e), by rw [hlen]; exact hle⟩, fun p hp => ?_⟩
    · rw [hlen] at h
      obtain ⟨bb, off, spot⟩ := a
      have cell : ∀ i, i < len → ∀ j v, (E.c (f i))[j]? = some v → W.cell? (((⟨bb, off, spot⟩ : Addr).add (i * E.k)).add j) = some v := by
        intro i hil j v hv
        obtain ⟨_, _, hcell⟩ := World.cells?_some (hf2 i (by omega)).2
        have hj : j < E.k := by have := (List.getElem?_eq_some_iff.1 hv).1; rw [E.len] at this; exact this
        have := hcell j hj
        rw [this]; exact hv
      have h00 : ∃ v, (E.c (f 0))[0]? = some v := ⟨(E.c (f 0))[0]'(by rw [E.len]; exact E.pos), List.getElem?_eq_getElem _⟩
      obtain ⟨v0, hv0⟩ := h00
      have hspot : spot = none := by
        have := cell 0 h 0 _ hv0
        simpa [Addr.add] using World.cell?_spot this
      subst hspot
      refine ⟨bb, off, rfl, (by have h9 := block_lt_of_cell (cell 0 h 0 _ hv0); rw [add_plain, add_plain] at h9; exact h9), fun i hil => ?_⟩
      have hil' : i < len := by rw [hlen] at hil; exact hil
      have he : ((List.range len).map f)[i] = f i := by simp
      rw [he]
      intro j u hu
      have := cell i hil' j u hu
      rwa [add_plain, add_plain] at this
    · obtain ⟨i, hi2, rfl⟩ := List.mem_map.1 hp
      exact (hf2 i (by have := List.mem_range.1 hi2; omega)).1
end Go.Proofs.Ytnglpkfkepfkkaa

/- The library's Builder: what WriteString does with one of the call's own. -/
namespace Go.Proofs.Ytnglpkfkepfkkaa
open Go.RowKit

/-- What is no row of bytes and isn't block b stays. -/
def Rest (b : Nat) (w w' : World) : Prop := ∀ k cs T fr, w.heap[k]? = some (.cells cs T fr) → k ≠ b → T ≠ 5 → w'.heap[k]? = w.heap[k]?
theorem Rest.then {b : Nat} {w w1 w2 : World} (h : Rest b w w1) (k : Rest b w1 w2) : Rest b w w2 := fun i cs T fr hi hne hT => by
  have h1 := h i cs T fr hi hne hT
  rw [k i cs T fr (h1.trans hi) hne hT, h1]
theorem Rest.cell (b : Nat) (w : World) (j : Nat) (v : Value) : Rest b w (w.setCell ⟨b, j, none⟩ v) := fun k _ _ _ _ hne _ => Below.heap_setCell _ _ _ _ hne

end Go.Proofs.Ytnglpkfkepfkkaa

/- What Print gives, of the program and of the document. -/
namespace Go.Proofs.Ytnglpkfkepfkkaa
open Go.RowKit Tre Nam Cod
theorem PlIn.rest {w w' : World} {b k : Nat} {p : Pl} (h : PlIn w k p) (hr : Rest b w w') (hne : k ≠ b) : PlIn w' k p := (hr k _ _ _ h hne (by decide)).trans h

end Go.Proofs.Ytnglpkfkepfkkaa

/- The document's Add. -/
namespace Go.Proofs.Ytnglpkfkepfkkaa
open Go.RowKit Tre Cod Pst

/-- What stays while the new list of operations is built. -/
structure InsK (W0 : World) (n0 n1 n2 B : Nat) (x : Pw) (m : Mv) (A1 A3 : Option Addr) (L1 L3 : List Mv) (W : World) : Prop where
  P : pwE.In W n0 x
  O : opE.In W n1 m
  R : pwE.In W n2 Pw.zero
  o1 : opE.SlB B W A1 L1
  o3 : opE.SlB B W A3 L3
  bel : Below W0.heap.size W0 W
  sz : B ≤ W.heap.size
  lt : n0 < B ∧ n1 < B ∧ n2 < B ∧ W0.heap.size ≤ B
theorem InsK.grown {W0 W W' : World} {n0 n1 n2 B : Nat} {x : Pw} {m : Mv} {A1 A3 : Option Addr} {L1 L3 : List Mv} {row : Option Nat} (h : InsK W0 n0 n1 n2 B x m A1 A3 L1 L3 W) (hg : W.grownBy W' row) (hrow : ∀ k, row = some k → B ≤ k) : InsK W0 n0 n1 n2 B x m A1 A3 L1 L3 W' := by
  obtain ⟨l0, l1, l2, l3⟩ := h.lt
  exact ⟨h.P.keep hg (fun e => by have := hrow _ e.symm; omega), h.O.keep hg (fun e => by have := hrow _ e.symm; omega), h.R.keep hg (fun e => by have := hrow _ e.symm; omega), h.o1.keep hg hrow, h.o3.keep hg hrow, h.bel.grown hg h.bel.size (fun k e => by have := hrow k e; omega), Nat.le_trans h.sz hg.size, h.lt⟩
theorem InsK.alloc {W0 W : World} {n0 n1 n2 B : Nat} {x : Pw} {m : Mv} {A1 A3 : Option Addr} {L1 L3 : List Mv} (h : InsK W0 n0 n1 n2 B x m A1 A3 L1 L3 W) (o : Obj) : InsK W0 n0 n1 n2 B x m A1 A3 L1 L3 (W.alloc o) :=
  h.grown (World.grownBy_alloc W o none) (fun k e => by cases e)
/-- What the region reads. -/
def InsS (n0 n1 : Nat) (A : Option Addr) (len c : Nat) (m : Mv) (w : World) : Prop := w.cell? ⟨n0, 2, none⟩ = some (.slice A len c) ∧ (w.cell? ⟨n1, 0, none⟩ = some (.int .i64 m.C) ∧ w.cell? ⟨n1, 1, none⟩ = some (.int .i64 m.D) ∧ w.cell? ⟨n1, 2, none⟩ = some (.int .i64 m.I) ∧ w.cell? ⟨n1, 3, none⟩ = some (.int .i64 m.M) ∧ w.cell? ⟨n1, 4, none⟩ = some (.int .i64 m.K) ∧ w.cell? ⟨n1, 5, none⟩ = some (.int .i64 m.U) ∧ w.cell? ⟨n1, 6, none⟩ = some (.string m.s))
theorem InsK.s {W0 W : World} {n0 n1 n2 B : Nat} {x : Pw} {m : Mv} {A1 A3 : Option Addr} {L1 L3 : List Mv} (h : InsK W0 n0 n1 n2 B x m A1 A3 L1 L3 W) : InsS n0 n1 x.oA x.ops.length x.oc m W := ⟨(pwIn5 h.P).2.2.1, opIn7 h.O⟩
end Go.Proofs.Ytnglpkfkepfkkaa

/- Gifts merged and wanted, counts read, snapshots, chunks: as values. No call in it. -/
namespace Go.Proofs.Ytnglpkfkepfkkaa
open Go.RowKit Nam Cod Tre Pst

def newG (a b : Gf) : Bool := decide (b.i < a.i) || (decide (a.i = b.i) && (decide (a.t = 0) || (decide (b.t ≠ 0) && decide (b.c ≤ a.c))))
/-- Does a report take a gift's place? -/
def outG (g : Gf) (r : Rp) : Bool := decide (r.d = g.d) && (decide (g.i < r.i) || (decide (r.i = g.i) && (decide (r.m = 1) || (decide (g.t ≠ 0) && decide (g.c < r.k)))))
def wantedG (g : Gf) (l : List Rp) : Bool := !(l.any (outG g))
/-- Merged: ahead of the first that isn't of a lesser device, or in its place. -/
def mergeG : List Gf → Gf → List Gf
  | [], r => [r]
  | x :: l, r => if x.d < r.d then x :: mergeG l r else if x.d = r.d then (if newG r x = true then r :: l else x :: l) else r :: x :: l
/-- How many are of lesser devices, at the front. -/
def cutG : List Gf → Int → Nat
  | [], _ => 0
  | x :: l, d => if x.d < d then cutG l d + 1 else 0
theorem cutG_le : ∀ (l : List Gf) (d : Int), cutG l d ≤ l.length
  | [], _ => Nat.le_refl _
  | x :: l, d => by
    unfold cutG
    split
    · rw [List.length_cons]; have := cutG_le l d; omega
    · exact Nat.zero_le _
theorem cutG_lt : ∀ (l : List Gf) (d : Int) (j : Nat) (h : j < l.length), j < cutG l d → l[j].d < d
  | [], _, j, h, _ => absurd h (Nat.not_lt_zero j)
  | x :: l, d, j, h, hc => by
    unfold cutG at hc
    split at hc
    · rename_i hx
      cases j with
      | zero => exact hx
      | succ j => exact cutG_lt l d j (by rw [List.length_cons] at h; omega) (by omega)
    · omega
theorem cutG_at : ∀ (l : List Gf) (d : Int) (h : cutG l d < l.length), ¬ l[cutG l d].d < d
  | [], _, h => absurd h (Nat.not_lt_zero _)
  | x :: l, d, h => by
    by_cases hx : x.d < d
    · have e : cutG (x :: l) d = cutG l d + 1 := if_pos hx
      simp only [e, List.getElem_cons_succ]
      exact cutG_at l d (by rw [e, List.length_cons] at h; omega)
    · have e : cutG (x :: l) d = 0 := if_neg hx
      simp only [e, List.getElem_cons_zero]
      exact hx
theorem mergeG_new : ∀ (l : List Gf) (r : Gf), (∀ h : cutG l r.d < l.length, l[cutG l r.d].d ≠ r.d) → mergeG l r = l.take (cutG l r.d) ++ [r] ++ l.drop (cutG l r.d)
  | [], r, _ => rfl
  | x :: l, r, h => by
    unfold mergeG
    by_cases hx : x.d < r.d
    · have e : cutG (x :: l) r.d = cutG l r.d + 1 := if_pos hx
      rw [if_pos hx, e, mergeG_new l r (fun h2 => by
        have := h (by rw [e, List.length_cons]; omega)
        simp only [e, List.getElem_cons_succ] at this
        exact this)]
      rfl
    · have e : cutG (x :: l) r.d = 0 := if_neg hx
      have hne : x.d ≠ r.d := by
        have := h (by rw [e, List.length_cons]; omega)
        simp only [e, List.getElem_cons_zero] at this
        exact this
      rw [if_neg hx, if_neg hne, e]; rfl
theorem mergeG_old : ∀ (l : List Gf) (r : Gf) (h : cutG l r.d < l.length), l[cutG l r.d].d = r.d → mergeG l r = if newG r l[cutG l r.d] = true then l.set (cutG l r.d) r else l
  | [], _, h, _ => absurd h (Nat.not_lt_zero _)
  | x :: l, r, h, hd => by
    unfold mergeG
    by_cases hx : x.d < r.d
    · have e : cutG (x :: l) r.d = cutG l r.d + 1 := if_pos hx
      simp only [e, List.getElem_cons_succ] at hd ⊢
      rw [if_pos hx, mergeG_old l r (by rw [e, List.length_cons] at h; omega) hd, List.set_cons_succ]
      split <;> rfl
    · have e : cutG (x :: l) r.d = 0 := if_neg hx
      simp only [e, List.getElem_cons_zero] at hd ⊢
      rw [if_neg hx, if_pos hd, List.set_cons_zero]
theorem mergeG_len (l : List Gf) (r : Gf) : (mergeG l r).length ≤ l.length + 1 := by
  induction l with
  | nil => exact Nat.le_refl _
  | cons x l ih =>
    unfold mergeG
    split
    · rw [List.length_cons, List.length_cons]; omega
    · split
      · split
        · rw [List.length_cons, List.length_cons]; omega
        · rw [List.length_cons]; omega
      · rw [List.length_cons, List.length_cons]; omega

/-- Rising devices. -/
def RisG : List Gf → Prop
  | [] => True
  | x :: l => (∀ y ∈ l, x.d < y.d) ∧ RisG l
theorem mergeG_mem : ∀ (l : List Gf) (r y : Gf), y ∈ mergeG l r → y = r ∨ y ∈ l
  | [], r, y, h => by
    have h : y ∈ [r] := h
    rw [List.mem_singleton] at h; exact Or.inl h
  | x :: l, r, y, h => by
    unfold mergeG at h
    split at h
    · rcases List.mem_cons.1 h with h | h
      · exact Or.inr (List.mem_cons.2 (Or.inl h))
      · rcases mergeG_mem l r y h with h | h
        · exact Or.inl h
        · exact Or.inr (List.mem_cons.2 (Or.inr h))
    · split at h
      · split at h
        · rcases List.mem_cons.1 h with h | h
          · exact Or.inl h
          · exact Or.inr (List.mem_cons.2 (Or.inr h))
        · exact Or.inr h
      · rcases List.mem_cons.1 h with h | h
        · exact Or.inl h
        · exact Or.inr h
theorem mergeG_ris : ∀ (l : List Gf) (r : Gf), RisG l → RisG (mergeG l r)
  | [], _, _ => ⟨(fun y h => by cases h), trivial⟩
  | x :: l, r, h => by
    unfold mergeG
    split
    · rename_i hx
      refine ⟨fun y hy => ?_, mergeG_ris l r h.2⟩
      rcases mergeG_mem l r y hy with rfl | hy
      · exact hx
      · exact h.1 y hy
    · rename_i hx
      split
      · rename_i he
        split
        · exact ⟨fun y hy => by rw [← he]; exact h.1 y hy, h.2⟩
        · exact h
      · rename_i he
        refine ⟨fun y hy => ?_, h⟩
        rcases List.mem_cons.1 hy with rfl | hy
        · omega
        · have := h.1 y hy; omega

theorem cutG_next {l : List Gf} {d : Int} {k : Nat} (hk : k ≤ cutG l d) (h : k < l.length) (hd : l[k].d < d) : k + 1 ≤ cutG l d := by
  rcases Nat.lt_or_ge k (cutG l d) with h1 | h1
  · exact h1
  · obtain rfl : k = cutG l d := by omega
    exact absurd hd (cutG_at l d h)
theorem cutG_here {l : List Gf} {d : Int} {k : Nat} (hk : k ≤ cutG l d) (h : k = l.length ∨ ∃ h : k < l.length, d ≤ l[k].d) : k = cutG l d := by
  rcases Nat.lt_or_ge k (cutG l d) with h1 | h1
  · rcases h with h | ⟨h, h2⟩
    · have := cutG_le l d; omega
    · have := cutG_lt l d k h h1; omega
  · omega
/-- A snapshot: a place, a clock, a past, counts. -/
structure Sn where
  pos : Int
  clock : Int
  p : Pv
  l : List Cn
end Go.Proofs.Ytnglpkfkepfkkaa

/- A fleet's shape as a list of parents: kids, depth, kinds, who is below whom; what follows of a plan that may be. No call in it. -/
namespace Pln

/-- Of nodes from 1 on: those whose Up this is, rising. -/
def kidsN (u : List Int) (n : Int) : List Nat := (List.range u.length).filter fun i => decide (0 < i) && decide (u.getD i 0 = n)
def deepF (u : List Int) : Nat → Int → Nat
  | 0, _ => 0
  | f + 1, n => if 0 < n ∧ n < u.length ∧ u.getD n.toNat 0 < n then deepF u f (u.getD n.toNat 0) + 1 else 0
def deepL (u : List Int) (n : Int) : Nat := deepF u u.length n
def deepest (u : List Int) : Nat := (List.range u.length).foldl (fun (m i : Nat) => max m (deepL u (i : Int))) 0
def kindL (u : List Int) (n : Int) : Int := if n < 0 ∨ (u.length : Int) ≤ n then 0 else if n = 0 then 1 else if (kidsN u n).length = 0 then 3 else 2
def devsN (u : List Int) : List Nat := (List.range u.length).filter fun i => decide (kindL u i = 3)
def belowF (u : List Int) : Nat → Int → Int → Bool
  | 0, _, _ => false
  | f + 1, n, top => if 0 ≤ n ∧ n < u.length then if n = top then true else if n ≤ u.getD n.toNat 0 then false else belowF u f (u.getD n.toNat 0) top else false
def belowU (u : List Int) (n top : Int) : Bool := belowF u (u.length + 1) n top

structure Pn where
  u : List Int
  q : Int
  r : Int
  b : Int
  l : Int
  w : Int
  c : Int
  k : Int
  i : Int
/-- Each node's Up but node 0's is one ahead of it. -/
def Par (u : List Int) : Prop := ∀ i : Nat, 0 < i → i < u.length → 0 ≤ u.getD i 0 ∧ u.getD i 0 < i
structure Right (p : Pn) : Prop where
  n2 : 2 ≤ p.u.length
  n12 : p.u.length ≤ 12
  up0 : p.u.getD 0 0 = -1
  par : Par p.u
  deep : ∀ i : Nat, i < p.u.length → deepL p.u i ≤ 4
  kids : ∀ i : Nat, i < p.u.length → (kidsN p.u i).length ≤ 4
  devs : (devsN p.u).length ≤ 8
  q : 1 ≤ p.q ∧ p.q ≤ 8
  r : 1 ≤ p.r ∧ p.r ≤ 16
  b : 1 ≤ p.b ∧ p.b ≤ 8
  w : 1 ≤ p.w ∧ p.w ≤ 8
  c : 16 ≤ p.c ∧ p.c ≤ 256
  k : 1 ≤ p.k ∧ p.k ≤ 16
  i : 3 ≤ p.i ∧ p.i ≤ 64
  l : 2 * (deepest p.u : Int) * (p.w + 2) < p.l ∧ p.l ≤ 1000

theorem mem_kids {u : List Int} {n : Int} {j : Nat} : j ∈ kidsN u n ↔ 0 < j ∧ j < u.length ∧ u.getD j 0 = n := by
  unfold kidsN
  rw [List.mem_filter, List.mem_range, Bool.and_eq_true, decide_eq_true_iff, decide_eq_true_iff]
  exact ⟨fun ⟨a, b, c⟩ => ⟨b, a, c⟩, fun ⟨b, a, c⟩ => ⟨a, b, c⟩⟩
/-- The depth needs no more looks than the node's number. -/
theorem deepF_at {u : List Int} (hp : Par u) : ∀ (m f : Nat) (i : Nat), i ≤ m → i ≤ f → deepF u f i = deepF u i i
  | m, f, 0, _, _ => by
    cases f with
    | zero => rfl
    | succ f => unfold deepF; rw [if_neg (by omega)]
  | m, f, i + 1, hm, hf => by
    obtain ⟨g, rfl⟩ : ∃ g, f = g + 1 := ⟨f - 1, by omega⟩
    unfold deepF
    have et : ((i + 1 : Nat) : Int).toNat = i + 1 := by omega
    rw [et]
    by_cases h : 0 < ((i + 1 : Nat) : Int) ∧ ((i + 1 : Nat) : Int) < u.length ∧ u.getD (i + 1) 0 < ((i + 1 : Nat) : Int)
    · rw [if_pos h, if_pos h]
      obtain ⟨h1, h2⟩ := hp (i + 1) (by omega) (by omega)
      obtain ⟨j, hj⟩ : ∃ j : Nat, u.getD (i + 1) 0 = j := ⟨(u.getD (i + 1) 0).toNat, by omega⟩
      rw [hj]
      cases m with
      | zero => omega
      | succ m => rw [deepF_at hp m g j (by omega) (by omega), deepF_at hp m i j (by omega) (by omega)]
    · rw [if_neg h, if_neg h]
theorem deep_zero (u : List Int) : deepL u 0 = 0 := by
  unfold deepL
  cases u.length with
  | zero => rfl
  | succ f => unfold deepF; rw [if_neg (by omega)]
theorem deep_kid {u : List Int} (hp : Par u) {i j : Nat} (h0 : 0 < j) (hj : j < u.length) (hu : u.getD j 0 = i) : deepL u j = deepL u i + 1 := by
  obtain ⟨h1, h2⟩ := hp j h0 hj
  unfold deepL
  obtain ⟨f, hf⟩ : ∃ f, u.length = f + 1 := ⟨u.length - 1, by omega⟩
  have e1 := deepF_at hp u.length u.length i (by omega) (by omega)
  have e2 := deepF_at hp u.length f i (by omega) (by omega)
  rw [e1, ← e2, hf]
  conv => lhs; unfold deepF
  have et : ((j : Nat) : Int).toNat = j := by omega
  rw [et, hu, if_pos ⟨by omega, by omega, by omega⟩]
theorem foldl_max_le (g : Nat → Nat) : ∀ (l : List Nat) (m : Nat), m ≤ l.foldl (fun m i => max m (g i)) m ∧ ∀ i ∈ l, g i ≤ l.foldl (fun m i => max m (g i)) m
  | [], m => ⟨Nat.le_refl _, fun i h => by cases h⟩
  | a :: l, m => by
    obtain ⟨h1, h2⟩ := foldl_max_le g l (max m (g a))
    rw [List.foldl_cons]
    refine ⟨by omega, fun i hi => ?_⟩
    rcases List.mem_cons.1 hi with rfl | hi
    · omega
    · exact h2 i hi
theorem foldl_max_bd (g : Nat → Nat) (B : Nat) : ∀ (l : List Nat) (m : Nat), m ≤ B → (∀ i ∈ l, g i ≤ B) → l.foldl (fun m i => max m (g i)) m ≤ B
  | [], m, hm, _ => hm
  | a :: l, m, hm, h => foldl_max_bd g B l _ (by have := h a (by simp); show max m (g a) ≤ B; omega) (fun i hi => h i (by simp [hi]))
theorem deep_le {u : List Int} {i : Nat} (h : i < u.length) : deepL u i ≤ deepest u := (foldl_max_le (fun i : Nat => deepL u (i : Int)) (List.range u.length) 0).2 i (List.mem_range.2 h)
theorem deepest_le {u : List Int} {B : Nat} (h : ∀ i : Nat, i < u.length → deepL u i ≤ B) : deepest u ≤ B := foldl_max_bd (fun i : Nat => deepL u (i : Int)) B _ 0 (Nat.zero_le _) fun i hi => h i (List.mem_range.1 hi)

/-- Who is below whom, by so many looks as the node's number. -/
theorem belowF_at {u : List Int} (hp : Par u) (h0 : u.getD 0 0 < 0) (top : Int) : ∀ (m f : Nat) (i : Nat), i ≤ m → i < f → belowF u f i top = belowF u (i + 1) i top
  | m, f, i, hm, hf => by
    obtain ⟨g, rfl⟩ : ∃ g, f = g + 1 := ⟨f - 1, by omega⟩
    unfold belowF
    have et : ((i : Nat) : Int).toNat = i := by omega
    rw [et]
    by_cases h : 0 ≤ (i : Int) ∧ (i : Int) < u.length
    · rw [if_pos h, if_pos h]
      by_cases ht : (i : Int) = top
      · rw [if_pos ht, if_pos ht]
      · rw [if_neg ht, if_neg ht]
        by_cases hu : (i : Int) ≤ u.getD i 0
        · rw [if_pos hu, if_pos hu]
        · rw [if_neg hu, if_neg hu]
          by_cases hi : i = 0
          · subst hi
            have hneg : ∀ f, belowF u f (u.getD 0 0) top = false := fun f => by
              cases f with
              | zero => rfl
              | succ f => unfold belowF; rw [if_neg (by omega)]
            rw [hneg, hneg]
          · obtain ⟨h1, h2⟩ := hp i (by omega) (by omega)
            obtain ⟨j, hj⟩ : ∃ j : Nat, u.getD i 0 = j := ⟨(u.getD i 0).toNat, by omega⟩
            rw [hj]
            cases m with
            | zero => omega
            | succ m => rw [belowF_at hp h0 top m g j (by omega) (by omega), belowF_at hp h0 top m i j (by omega) (by omega)]
    · rw [if_neg h, if_neg h]
theorem below_up {u : List Int} (hp : Par u) (h0 : u.getD 0 0 < 0) {j : Nat} (hj0 : 0 < j) (hj : j < u.length) {top : Int} (hne : (j : Int) ≠ top) : belowU u j top = belowU u (u.getD j 0) top := by
  obtain ⟨h1, h2⟩ := hp j hj0 hj
  unfold belowU
  obtain ⟨i, hi⟩ : ∃ i : Nat, u.getD j 0 = i := ⟨(u.getD j 0).toNat, by omega⟩
  rw [hi, belowF_at hp h0 top u.length (u.length + 1) i (by omega) (by omega), ← belowF_at hp h0 top u.length u.length i (by omega) (by omega)]
  conv => lhs; unfold belowF
  have et : ((j : Nat) : Int).toNat = j := by omega
  rw [et, hi, if_pos ⟨by omega, by omega⟩, if_neg hne, if_neg (by omega)]
end Pln

/- Relays, as values: what is taken, passed on, given. No call in it. -/
namespace Go.Proofs.Ytnglpkfkepfkkaa
open Go.RowKit Nam Cod Pln

/-- What a node knows of one below it: its number, the number of the last operation that it took of it, the entries that it has, its last start. -/
structure Kin where
  n : Int
  r : Int
  p : Int
  b : Int
structure Rlv where
  node : Int
  boot : Int
  above : Int
  st : Sm
  q : Qu
  ks : List Kin
  rs : List Rp
  gs : List Gf
def newR19 (u : List Int) (n : Int) : Rlv := ⟨n, 1, 0, zeroSm, newQu, (kidsN u n).map fun (i : Nat) => (⟨(i : Int), 0, 0, 0⟩ : Kin), [], []⟩
/-- The place of a node among the kids. -/
def kidAt : List Kin → Int → Option Nat
  | [], _ => none
  | x :: l, n => if x.n = n then some 0 else (kidAt l n).map (· + 1)
def kidI (l : List Kin) (n : Int) : Int := match kidAt l n with | some i => (i : Int) | none => -1
theorem kidAt_some : ∀ {l : List Kin} {n : Int} {i : Nat}, kidAt l n = some i → ∃ h : i < l.length, l[i].n = n
  | [], _, _, h => by cases h
  | x :: l, n, i, h => by
    unfold kidAt at h
    by_cases hx : x.n = n
    · rw [if_pos hx] at h
      injection h with h
      subst h
      exact ⟨Nat.succ_pos _, hx⟩
    · rw [if_neg hx] at h
      cases hk : kidAt l n with
      | none => rw [hk] at h; cases h
      | some j =>
        rw [hk] at h
        injection h with h
        subst h
        obtain ⟨h1, h2⟩ := kidAt_some hk
        exact ⟨Nat.succ_lt_succ h1, by rw [List.getElem_cons_succ]; exact h2⟩
/-- A kid is set: the places stay. -/
theorem kidAt_set : ∀ (l : List Kin) (n : Int) (i : Nat) (k : Kin) (h : i < l.length), k.n = l[i].n → kidAt (l.set i k) n = kidAt l n
  | [], _, i, _, h, _ => absurd h (Nat.not_lt_zero _)
  | x :: l, n, 0, k, _, hk => by
    rw [List.getElem_cons_zero] at hk
    rw [List.set_cons_zero]
    unfold kidAt
    rw [hk]
  | x :: l, n, i + 1, k, h, hk => by
    rw [List.length_cons] at h
    rw [List.getElem_cons_succ] at hk
    rw [List.set_cons_succ]
    unfold kidAt
    rw [kidAt_set l n i k (by omega) hk]
def upOps (room : Int) : Qu × Int → Int → List Mv → Qu × Int
  | x, _, [] => x
  | x, a, o :: l => upOps room (if a = x.2 + 1 ∧ (x.1.os.length : Int) < room then (pushQ x.1 o, x.2 + 1) else x) (a + 1) l
def repStep (u : List Int) (k : Int) (l : List Rp) (r : Rp) : List Rp := if kindL u r.d = 3 ∧ belowU u r.d k = true then mergeR l r else l
def gifStep (u : List Int) (n : Int) (l : List Gf) (g : Gf) : List Gf := if belowU u g.d n = true ∧ g.d ≠ n then mergeG l g else l
def pruneG (rs : List Rp) (gs : List Gf) : List Gf := gs.filter fun g => wantedG g rs
def upR (p : Pn) (x : Rlv) (i : Nat) (k : Kin) (f : Fr) : Rlv :=
  let y := upOps p.r (x.q, k.r) f.first f.os
  let rs := f.rs.foldl (repStep p.u f.a) x.rs
  { x with q := y.1, ks := x.ks.set i ⟨k.n, y.2, max k.p f.pos, f.boot⟩, rs := rs, gs := pruneG rs x.gs }
/-- Entries one by one, as long as there are fewer than so many. -/
def downS (most : Int) : Sm → Int → List En → Sm
  | x, _, [] => x
  | x, a, e :: l => if (x.es.length : Int) < most then downS most (takeS x a [e]) (a + 1) l else x
def winP (p : Pn) : Int := (p.q + 2) * (devsN p.u).length
def downR (p : Pn) (x : Rlv) (f : Fr) : Rlv :=
  { x with above := f.boot, q := allowQ (ackQ x.q f.ack) f.grant, st := downS (winP p) (settleS x.st f.s f.t) f.start f.es, gs := pruneG x.rs (f.gs.foldl (gifStep p.u x.node) x.gs) }
/-- Behind a frame; the errors' numbers are api's. -/
def takeR (p : Pn) (up : Int) (x : Rlv) (f : Fr) : Rlv × Int :=
  if f.b ≠ x.node then (x, 1)
  else if f.a = up then (if f.boot < x.above then (x, 7) else (downR p x f, 0))
  else match kidAt x.ks f.a with
    | none => (x, 1)
    | some i => if f.boot < (x.ks.getD i ⟨0, 0, 0, 0⟩).b then (x, 7) else (upR p x i (x.ks.getD i ⟨0, 0, 0, 0⟩) f, 0)
def downF (p : Pn) (x : Rlv) (k : Kin) (room : Int) (gs : List Gf) : Fr :=
  ⟨x.node, k.n, x.boot, 1, 0, fromP x.st k.p, k.r, k.r + max 0 room, x.st.s, x.st.t, [], [], fromS x.st k.p p.b, gs.filter fun g => belowU p.u g.d k.n⟩
def upF (p : Pn) (up : Int) (x : Rlv) : Fr := ⟨x.node, up, x.boot, x.q.f, x.st.p, 1, 0, 0, 0, 0, outQ x.q p.b, x.rs, [], []⟩
def framesR (p : Pn) (up : Int) (x : Rlv) : List Fr := upF p up x :: x.ks.map fun k => downF p x k (p.r - x.q.os.length) x.gs

/-! What comes again changes nothing. -/
theorem newB_old {a b c : Rp} (h1 : newB a c = false) (h2 : newB b c = true) : newB a b = false := by
  cases h : newB a b with
  | false => rfl
  | true =>
    rw [newB_iff] at h h2
    have h3 : newB a c = true := by rw [newB_iff]; omega
    rw [h3] at h1; cases h1
theorem mergeR_self : ∀ (l : List Rp) (r : Rp), mergeR (mergeR l r) r = mergeR l r
  | [], r => by
    show mergeR [r] r = [r]
    unfold mergeR
    rw [if_neg (Int.lt_irrefl _), if_pos rfl, newB_self]
    rfl
  | x :: l, r => by
    by_cases h1 : x.d < r.d
    · have e : mergeR (x :: l) r = x :: mergeR l r := by rw [mergeR, if_pos h1]
      rw [e, mergeR, if_pos h1, mergeR_self l r]
    · by_cases h2 : x.d = r.d
      · cases h3 : newB r x with
        | true =>
          have e : mergeR (x :: l) r = r :: l := by rw [mergeR, if_neg h1, if_pos h2, if_pos h3]
          rw [e, mergeR, if_neg (Int.lt_irrefl _), if_pos rfl, newB_self]
          rfl
        | false =>
          have e : mergeR (x :: l) r = x :: l := by rw [mergeR, if_neg h1, if_pos h2, h3]; rfl
          rw [e, e]
      · have e : mergeR (x :: l) r = r :: x :: l := by rw [mergeR, if_neg h1, if_neg h2]
        rw [e, mergeR, if_neg (Int.lt_irrefl _), if_pos rfl, newB_self]
        rfl
theorem mergeR_keep : ∀ (l : List Rp) (r s : Rp), mergeR l r = l → mergeR (mergeR l s) r = mergeR l s
  | [], r, s, h => by cases h
  | x :: l, r, s, h => by
    by_cases h1 : x.d < r.d
    · have hl : mergeR l r = l := by
        rw [mergeR, if_pos h1] at h
        injection h
      by_cases g1 : x.d < s.d
      · have e : mergeR (x :: l) s = x :: mergeR l s := by rw [mergeR, if_pos g1]
        rw [e, mergeR, if_pos h1, mergeR_keep l r s hl]
      · by_cases g2 : x.d = s.d
        · cases g3 : newB s x with
          | true =>
            have e : mergeR (x :: l) s = s :: l := by rw [mergeR, if_neg g1, if_pos g2, if_pos g3]
            rw [e, mergeR, if_pos (by omega), hl]
          | false =>
            have e : mergeR (x :: l) s = x :: l := by rw [mergeR, if_neg g1, if_pos g2, g3]; rfl
            rw [e, mergeR, if_pos h1, hl]
        · have e : mergeR (x :: l) s = s :: x :: l := by rw [mergeR, if_neg g1, if_neg g2]
          rw [e, mergeR, if_pos (by omega), mergeR, if_pos h1, hl]
    · by_cases h2 : x.d = r.d
      · cases h3 : newB r x with
        | true =>
          rw [mergeR, if_neg h1, if_pos h2, if_pos h3] at h
          injection h with h
          subst h
          rw [newB_self] at h3; cases h3
        | false =>
          have hr : ∀ m, mergeR (x :: m) r = x :: m := fun m => by rw [mergeR, if_neg h1, if_pos h2, h3]; rfl
          by_cases g1 : x.d < s.d
          · have e : mergeR (x :: l) s = x :: mergeR l s := by rw [mergeR, if_pos g1]
            rw [e, hr]
          · by_cases g2 : x.d = s.d
            · cases g3 : newB s x with
              | true =>
                have e : mergeR (x :: l) s = s :: l := by rw [mergeR, if_neg g1, if_pos g2, if_pos g3]
                rw [e, mergeR, if_neg (by omega), if_pos (by omega), newB_old h3 g3]
                rfl
              | false =>
                have e : mergeR (x :: l) s = x :: l := by rw [mergeR, if_neg g1, if_pos g2, g3]; rfl
                rw [e, hr]
            · have e : mergeR (x :: l) s = s :: x :: l := by rw [mergeR, if_neg g1, if_neg g2]
              rw [e, mergeR, if_pos (by omega), hr]
      · rw [mergeR, if_neg h1, if_neg h2] at h
        have := congrArg List.length h
        simp at this
theorem repStep_self (u : List Int) (k : Int) (l : List Rp) (r : Rp) : repStep u k (repStep u k l r) r = repStep u k l r := by
  unfold repStep
  split
  · exact mergeR_self l r
  · rfl
theorem repStep_keep (u : List Int) (k : Int) (l : List Rp) (r s : Rp) (h : repStep u k l r = l) : repStep u k (repStep u k l s) r = repStep u k l s := by
  unfold repStep at h ⊢
  split
  · rename_i h1
    rw [if_pos h1] at h
    split
    · exact mergeR_keep l r s h
    · exact h
  · rfl
theorem reps_keep (u : List Int) (k : Int) (r : Rp) : ∀ (m : List Rp) (l : List Rp), repStep u k l r = l → repStep u k (m.foldl (repStep u k) l) r = m.foldl (repStep u k) l
  | [], _, h => h
  | s :: m, l, h => reps_keep u k r m _ (repStep_keep u k l r s h)
theorem reps_had (u : List Int) (k : Int) : ∀ (m : List Rp) (l : List Rp), ∀ r ∈ m, repStep u k (m.foldl (repStep u k) l) r = m.foldl (repStep u k) l
  | [], _, r, h => by cases h
  | s :: m, l, r, h => by
    rcases List.mem_cons.1 h with rfl | h
    · exact reps_keep u k r m _ (repStep_self u k l r)
    · exact reps_had u k m _ r h
theorem fold_fix {α β : Type} (g : β → α → β) : ∀ (m : List α) (x : β), (∀ a ∈ m, g x a = x) → m.foldl g x = x
  | [], _, _ => rfl
  | a :: m, x, h => by
    show m.foldl g (g x a) = x
    rw [h a (List.mem_cons_self ..)]
    exact fold_fix g m x fun b hb => h b (List.mem_cons_of_mem _ hb)
theorem reps_twice (u : List Int) (k : Int) (m l : List Rp) : m.foldl (repStep u k) (m.foldl (repStep u k) l) = m.foldl (repStep u k) l :=
  fold_fix _ m _ (reps_had u k m l)
theorem prune_twice (rs : List Rp) (gs : List Gf) : pruneG rs (pruneG rs gs) = pruneG rs gs := by
  unfold pruneG
  rw [List.filter_filter]
  congr 1
  funext g
  rw [Bool.and_self]
theorem takeS_one (x : Sm) (a : Int) (e : En) : takeS x a [e] = if a = x.p + 1 then pushS x e else x := rfl
theorem downS_p (most : Int) : ∀ (l : List En) (x : Sm) (a : Int), x.p ≤ (downS most x a l).p
  | [], _, _ => Int.le_refl _
  | e :: l, x, a => by
    rw [downS]
    split
    · refine Int.le_trans ?_ (downS_p most l _ (a + 1))
      rw [takeS_one]
      split
      · show x.p ≤ x.p + 1; omega
      · exact Int.le_refl _
    · exact Int.le_refl _
theorem downS_far (most : Int) : ∀ (l : List En) (x : Sm) (a : Int), x.p + 1 < a → downS most x a l = x
  | [], _, _, _ => rfl
  | e :: l, x, a, h => by
    rw [downS]
    split
    · rw [takeS_one, if_neg (by omega)]
      exact downS_far most l x (a + 1) (by omega)
    · rfl
theorem downS_twice (most : Int) : ∀ (l : List En) (x : Sm) (a : Int), downS most (downS most x a l) a l = downS most x a l
  | [], _, _ => rfl
  | e :: l, x, a => by
    by_cases hf : (x.es.length : Int) < most
    · have e1 : downS most x a (e :: l) = downS most (takeS x a [e]) (a + 1) l := by rw [downS, if_pos hf]
      rw [e1]
      have hz : ∀ z, z = downS most (takeS x a [e]) (a + 1) l → downS most z a (e :: l) = z := fun z hz => by
        rw [downS]
        split
        · have hne : takeS z a [e] = z := by
            rw [takeS_one, if_neg]
            intro ha
            have hp := downS_p most l (takeS x a [e]) (a + 1)
            rw [← hz, takeS_one] at hp
            by_cases h1 : a = x.p + 1
            · rw [if_pos h1] at hp
              have : x.p + 1 ≤ z.p := hp
              omega
            · rw [if_neg h1] at hp
              rcases Int.lt_or_le (x.p + 1) a with h2 | h2
              · rw [takeS_one, if_neg h1, downS_far most l x (a + 1) (by omega)] at hz
                subst hz
                omega
              · omega
          rw [hne]
          rw [hz]
          exact downS_twice most l _ (a + 1)
        · rfl
      exact hz _ rfl
    · have e1 : downS most x a (e :: l) = x := by rw [downS, if_neg hf]
      rw [e1, e1]
theorem downS_st (most : Int) : ∀ (l : List En) (x : Sm) (a : Int), (downS most x a l).s = x.s ∧ (downS most x a l).t = x.t
  | [], _, _ => ⟨rfl, rfl⟩
  | e :: l, x, a => by
    rw [downS]
    split
    · obtain ⟨h1, h2⟩ := downS_st most l (takeS x a [e]) (a + 1)
      rw [h1, h2, takeS_one]
      split <;> exact ⟨rfl, rfl⟩
    · exact ⟨rfl, rfl⟩
theorem settleS_st (x : Sm) (place t : Int) : place ≤ (settleS x place t).s ∧ t ≤ (settleS x place t).t := by
  unfold settleS
  split
  · exact ⟨by assumption, by show t ≤ max x.t t; omega⟩
  · split <;> exact ⟨Int.le_refl _, by show t ≤ max x.t t; omega⟩
theorem settleS_had {x : Sm} {place t : Int} (h1 : place ≤ x.s) (h2 : t ≤ x.t) : settleS x place t = x := by
  unfold settleS
  rw [if_pos h1, show max x.t t = x.t from by omega]
theorem ack_twice (x : Qu) (a g : Int) : allowQ (ackQ (allowQ (ackQ x a) g) a) g = allowQ (ackQ x a) g := by
  obtain ⟨f, g0, os⟩ := x
  have hm : ∀ u : Int, max (max u g) g = max u g := fun u => by omega
  by_cases h : a < f
  · have e : ackQ ⟨f, g0, os⟩ a = ⟨f, g0, os⟩ := by unfold ackQ; rw [if_pos h]
    rw [e]
    have e2 : ackQ (allowQ ⟨f, g0, os⟩ g) a = allowQ ⟨f, g0, os⟩ g := by unfold ackQ; rw [if_pos (show a < (allowQ ⟨f, g0, os⟩ g).f from h)]
    rw [e2]
    unfold allowQ
    dsimp only
    rw [hm]
  · have e : ackQ ⟨f, g0, os⟩ a = ⟨f + min (a - f + 1) os.length, g0, os.drop (min (a - f + 1) os.length).toNat⟩ := by unfold ackQ; rw [if_neg h]
    rw [e]
    obtain ⟨y, hy⟩ : ∃ y, allowQ ⟨f + min (a - f + 1) os.length, g0, os.drop (min (a - f + 1) os.length).toNat⟩ g = y := ⟨_, rfl⟩
    rw [hy]
    have e2 : ackQ y a = y := by
      subst hy
      unfold ackQ allowQ
      dsimp only
      by_cases h2 : a < f + min (a - f + 1) os.length
      · rw [if_pos h2]
      · rw [if_neg h2]
        have h3 : os.length ≤ (min (a - f + 1) (os.length : Int)).toNat := by omega
        rw [List.drop_eq_nil_of_le h3]
        have h4 : min (a - (f + min (a - f + 1) (os.length : Int)) + 1) ((([] : List Mv).length : Nat) : Int) = 0 := by
          show min _ (0 : Int) = 0
          omega
        rw [h4]
        congr 1
        omega
    rw [e2]
    subst hy
    unfold allowQ
    dsimp only
    rw [hm]
theorem downR_twice (p : Pn) (x : Rlv) (f : Fr) (hg : f.gs = []) : downR p (downR p x f) f = downR p x f := by
  unfold downR
  dsimp only
  rw [hg]
  show ({ x with above := f.boot, q := allowQ (ackQ (allowQ (ackQ x.q f.ack) f.grant) f.ack) f.grant, st := downS (winP p) (settleS (downS (winP p) (settleS x.st f.s f.t) f.start f.es) f.s f.t) f.start f.es, gs := pruneG x.rs (pruneG x.rs x.gs) } : Rlv) = { x with above := f.boot, q := allowQ (ackQ x.q f.ack) f.grant, st := downS (winP p) (settleS x.st f.s f.t) f.start f.es, gs := pruneG x.rs x.gs }
  obtain ⟨h1, h2⟩ := downS_st (winP p) f.es (settleS x.st f.s f.t) f.start
  obtain ⟨h3, h4⟩ := settleS_st x.st f.s f.t
  rw [ack_twice, prune_twice, settleS_had (by rw [h1]; exact h3) (by rw [h2]; exact h4), downS_twice]
theorem kids_set {l : List Kin} {i : Nat} {k : Kin} (h : i < l.length) : (l.set i k).getD i ⟨0, 0, 0, 0⟩ = k := by
  rw [List.getD_eq_getElem?_getD, List.getElem?_set_self h]; rfl
theorem upR_twice (p : Pn) (x : Rlv) (i : Nat) (k : Kin) (f : Fr) (hi : i < x.ks.length) (ho : f.os = []) :
    upR p (upR p x i k f) i ((upR p x i k f).ks.getD i ⟨0, 0, 0, 0⟩) f = upR p x i k f := by
  have hk : (upR p x i k f).ks.getD i ⟨0, 0, 0, 0⟩ = ⟨k.n, k.r, max k.p f.pos, f.boot⟩ := by
    unfold upR
    dsimp only
    rw [kids_set hi, ho]
    rfl
  rw [hk]
  unfold upR
  dsimp only
  rw [ho]
  show ({ x with ks := (x.ks.set i ⟨k.n, k.r, max k.p f.pos, f.boot⟩).set i ⟨k.n, k.r, max (max k.p f.pos) f.pos, f.boot⟩, rs := f.rs.foldl (repStep p.u f.a) (f.rs.foldl (repStep p.u f.a) x.rs), gs := pruneG (f.rs.foldl (repStep p.u f.a) (f.rs.foldl (repStep p.u f.a) x.rs)) (pruneG (f.rs.foldl (repStep p.u f.a) x.rs) x.gs) } : Rlv) = { x with ks := x.ks.set i ⟨k.n, k.r, max k.p f.pos, f.boot⟩, rs := f.rs.foldl (repStep p.u f.a) x.rs, gs := pruneG (f.rs.foldl (repStep p.u f.a) x.rs) x.gs }
  rw [reps_twice, prune_twice, List.set_set, show max (max k.p f.pos) f.pos = max k.p f.pos from by omega]
theorem takeR_twice (p : Pn) (up : Int) (x : Rlv) (f : Fr) (ho : f.os = []) (hg : f.gs = []) (h : (takeR p up x f).2 = 0) : takeR p up (takeR p up x f).1 f = takeR p up x f := by
  by_cases h1 : f.b ≠ x.node
  · have e : takeR p up x f = (x, 1) := by unfold takeR; rw [if_pos h1]
    rw [e] at h; cases h
  · by_cases h2 : f.a = up
    · by_cases h3 : f.boot < x.above
      · have e : takeR p up x f = (x, 7) := by unfold takeR; rw [if_neg h1, if_pos h2, if_pos h3]
        rw [e] at h; cases h
      · have e : takeR p up x f = (downR p x f, 0) := by unfold takeR; rw [if_neg h1, if_pos h2, if_neg h3]
        rw [e]
        unfold takeR
        rw [if_neg (show ¬ f.b ≠ (downR p x f).node from h1), if_pos h2, if_neg (show ¬ f.boot < (downR p x f).above from Int.lt_irrefl _), downR_twice p x f hg]
    · cases hk : kidAt x.ks f.a with
      | none =>
        have e : takeR p up x f = (x, 1) := by unfold takeR; rw [if_neg h1, if_neg h2, hk]
        rw [e] at h; cases h
      | some i =>
        by_cases h3 : f.boot < (x.ks.getD i ⟨0, 0, 0, 0⟩).b
        · have e : takeR p up x f = (x, 7) := by unfold takeR; rw [if_neg h1, if_neg h2, hk]; dsimp only; rw [if_pos h3]
          rw [e] at h; cases h
        · have e : takeR p up x f = (upR p x i (x.ks.getD i ⟨0, 0, 0, 0⟩) f, 0) := by unfold takeR; rw [if_neg h1, if_neg h2, hk]; dsimp only; rw [if_neg h3]
          rw [e]
          obtain ⟨hi, hn⟩ := kidAt_some hk
          have hkd : x.ks.getD i ⟨0, 0, 0, 0⟩ = x.ks[i] := by rw [List.getD_eq_getElem?_getD, List.getElem?_eq_getElem hi]; rfl
          have hk2 : kidAt (upR p x i (x.ks.getD i ⟨0, 0, 0, 0⟩) f).ks f.a = some i := by
            unfold upR
            dsimp only
            rw [kidAt_set _ _ _ _ hi (by rw [hkd]), hk]
          unfold takeR
          rw [if_neg (show ¬ f.b ≠ (upR p x i (x.ks.getD i ⟨0, 0, 0, 0⟩) f).node from h1), if_neg h2, hk2]
          dsimp only
          rw [if_neg (by
            unfold upR
            dsimp only
            rw [kids_set hi]
            exact Int.lt_irrefl _)]
          rw [upR_twice p x i _ f hi ho]
end Go.Proofs.Ytnglpkfkepfkkaa

/- Relays, as values: what they keep, frame by frame. -/
namespace Go.Proofs.Ytnglpkfkepfkkaa
open Go.RowKit Nam Cod Pln

/-- A relay as it comes: n frames behind its beginning. -/
structure RlR (p : Pn) (up : Int) (n : Nat) (x : Rlv) : Prop where
  node : 0 < x.node ∧ p.u[x.node.toNat]? = some up ∧ 0 ≤ up ∧ x.node < 12
  boot : x.boot = 1
  above : 0 ≤ x.above ∧ x.above ≤ 1099511627776
  st : SmR x.st
  sp : x.st.p ≤ 1073741824 + 64 * (n : Int)
  stl : (x.st.es.length : Int) ≤ max 0 (winP p)
  qf : 1 ≤ x.q.f ∧ x.q.f + (x.q.os.length : Int) ≤ 1 + 64 * (n : Int)
  qg : 0 ≤ x.q.g ∧ x.q.g ≤ 1099511627776
  ql : (x.q.os.length : Int) ≤ max 0 p.r
  qo : ∀ o ∈ x.q.os, okB o = true
  kn : x.ks.map Kin.n = (kidsN p.u x.node).map fun (i : Nat) => (i : Int)
  kr : ∀ k ∈ x.ks, (0 ≤ k.r ∧ k.r ≤ 64 * (n : Int)) ∧ (0 ≤ k.p ∧ k.p ≤ 1099511627776) ∧ 0 ≤ k.b ∧ k.b ≤ 1099511627776
  rs : RisR x.rs ∧ ∀ r ∈ x.rs, rpB r = true ∧ kindL p.u r.d = 3
  gs : RisG x.gs ∧ ∀ g ∈ x.gs, gfB g = true ∧ g.d ≠ x.node ∧ belowU p.u g.d x.node = true ∧ wantedG g x.rs = true
theorem newR19_r {p : Pn} {up n : Int} (h : 0 < n ∧ p.u[n.toNat]? = some up ∧ 0 ≤ up ∧ n < 12) : RlR p up 0 (newR19 p.u n) where
  node := h
  boot := rfl
  above := by show (0 : Int) ≤ 0 ∧ (0 : Int) ≤ 1099511627776; omega
  st := zeroSm_R
  sp := by show (0 : Int) ≤ 1073741824 + 64 * ((0 : Nat) : Int); omega
  stl := by show (0 : Int) ≤ max 0 (winP p); omega
  qf := by show (1 : Int) ≤ 1 ∧ (1 : Int) + ((0 : Nat) : Int) ≤ 1 + 64 * ((0 : Nat) : Int); omega
  qg := by show (0 : Int) ≤ 0 ∧ (0 : Int) ≤ 1099511627776; omega
  ql := by show ((0 : Nat) : Int) ≤ max 0 p.r; omega
  qo := fun o h => by cases h
  kn := by
    show ((kidsN p.u n).map fun (i : Nat) => (⟨(i : Int), 0, 0, 0⟩ : Kin)).map Kin.n = _
    rw [List.map_map]; rfl
  kr := fun k h => by
    have h : k ∈ (kidsN p.u n).map fun (i : Nat) => (⟨(i : Int), 0, 0, 0⟩ : Kin) := h
    obtain ⟨i, _, rfl⟩ := List.mem_map.1 h
    dsimp only
    omega
  rs := ⟨trivial, fun r h => by cases h⟩
  gs := ⟨trivial, fun g h => by cases h⟩
theorem downS_R {most : Int} : ∀ (l : List En) {x : Sm} (a : Int), SmR x → (∀ e ∈ l, entB e = true) → x.p + l.length ≤ 1099511627776 → SmR (downS most x a l) ∧ (downS most x a l).p ≤ x.p + l.length ∧ (((downS most x a l).es.length : Int) ≤ max (x.es.length : Int) most)
  | [], x, _, h, _, _ => ⟨h, by show x.p ≤ x.p + ((0 : Nat) : Int); omega, by show (x.es.length : Int) ≤ _; omega⟩
  | e :: l, x, a, h, he, hp => by
    rw [List.length_cons] at hp
    rw [downS]
    by_cases hf : (x.es.length : Int) < most
    · rw [if_pos hf]
      have ht := takeS_R [e] a h (fun y hy => he y (by rw [List.mem_singleton] at hy; subst hy; exact List.mem_cons_self ..)) (by show x.p + ((1 : Nat) : Int) ≤ _; omega)
      obtain ⟨t1, t2, t3, _⟩ := takeS_p [e] x a
      have t1 : (takeS x a [e]).p ≤ x.p + 1 := t1
      have t3 : (takeS x a [e]).es.length ≤ x.es.length + 1 := t3
      obtain ⟨i1, i2, i3⟩ := downS_R l (most := most) (a + 1) ht (fun y hy => he y (List.mem_cons_of_mem _ hy)) (by omega)
      refine ⟨i1, by rw [List.length_cons]; omega, ?_⟩
      omega
    · rw [if_neg hf]
      exact ⟨h, by rw [List.length_cons]; omega, by omega⟩
theorem settleS_p (x : Sm) (place t : Int) : (settleS x place t).p ≤ max x.p place := by
  unfold settleS
  split
  · show x.p ≤ _; omega
  · split
    · show place ≤ _; omega
    · show x.p ≤ _; omega
theorem ackQ_b (x : Qu) (a : Int) : x.f ≤ (ackQ x a).f ∧ (ackQ x a).f + ((ackQ x a).os.length : Int) = x.f + x.os.length ∧ (ackQ x a).g = x.g ∧ (∀ o ∈ (ackQ x a).os, o ∈ x.os) ∧ (ackQ x a).os.length ≤ x.os.length := by
  unfold ackQ
  split
  · exact ⟨Int.le_refl _, rfl, rfl, fun o h => h, Nat.le_refl _⟩
  · dsimp only
    rw [List.length_drop]
    refine ⟨by omega, by omega, rfl, fun o h => List.mem_of_mem_drop h, by omega⟩
theorem upOps_b (room : Int) : ∀ (l : List Mv) (x : Qu × Int) (a : Int), x.2 ≤ (upOps room x a l).2 ∧ (upOps room x a l).2 ≤ x.2 + l.length ∧ (upOps room x a l).1.f = x.1.f ∧ (upOps room x a l).1.g = x.1.g ∧ ((upOps room x a l).1.os.length : Int) = (x.1.os.length : Int) + ((upOps room x a l).2 - x.2) ∧ ((upOps room x a l).1.os.length : Int) ≤ max (x.1.os.length : Int) room ∧ (∀ o ∈ (upOps room x a l).1.os, o ∈ x.1.os ∨ o ∈ l)
  | [], x, _ => ⟨Int.le_refl _, by show x.2 ≤ x.2 + ((0 : Nat) : Int); omega, rfl, rfl, by show (x.1.os.length : Int) = (x.1.os.length : Int) + (x.2 - x.2); omega, by show (x.1.os.length : Int) ≤ _; omega, fun o h => Or.inl h⟩
  | o :: l, x, a => by
    rw [upOps]
    by_cases h : a = x.2 + 1 ∧ (x.1.os.length : Int) < room
    · rw [if_pos h]
      obtain ⟨i1, i2, i3, i4, i5, i6, i7⟩ := upOps_b room l (pushQ x.1 o, x.2 + 1) (a + 1)
      have e1 : ((pushQ x.1 o).os.length : Int) = (x.1.os.length : Int) + 1 := by
        show ((x.1.os ++ [o]).length : Int) = _
        rw [List.length_append, List.length_singleton]; omega
      have i1 : x.2 + 1 ≤ (upOps room (pushQ x.1 o, x.2 + 1) (a + 1) l).2 := i1
      have i2 : (upOps room (pushQ x.1 o, x.2 + 1) (a + 1) l).2 ≤ x.2 + 1 + l.length := i2
      have i5 : ((upOps room (pushQ x.1 o, x.2 + 1) (a + 1) l).1.os.length : Int) = ((pushQ x.1 o).os.length : Int) + ((upOps room (pushQ x.1 o, x.2 + 1) (a + 1) l).2 - (x.2 + 1)) := i5
      have i6 : ((upOps room (pushQ x.1 o, x.2 + 1) (a + 1) l).1.os.length : Int) ≤ max ((pushQ x.1 o).os.length : Int) room := i6
      rw [e1] at i5 i6
      refine ⟨by omega, by rw [List.length_cons]; omega, i3, i4, by omega, by omega, fun y hy => ?_⟩
      rcases i7 y hy with h1 | h1
      · have h1 : y ∈ x.1.os ++ [o] := h1
        rw [List.mem_append, List.mem_singleton] at h1
        rcases h1 with h1 | rfl
        · exact Or.inl h1
        · exact Or.inr (List.mem_cons_self ..)
      · exact Or.inr (List.mem_cons_of_mem _ h1)
    · rw [if_neg h]
      obtain ⟨i1, i2, i3, i4, i5, i6, i7⟩ := upOps_b room l x (a + 1)
      exact ⟨i1, by rw [List.length_cons]; omega, i3, i4, i5, i6, fun y hy => (i7 y hy).imp id (List.mem_cons_of_mem _)⟩
theorem reps_R (u : List Int) (k : Int) : ∀ (m : List Rp) (l : List Rp), (∀ r ∈ m, rpB r = true) → RisR l → (∀ r ∈ l, rpB r = true ∧ kindL u r.d = 3) → RisR (m.foldl (repStep u k) l) ∧ ∀ r ∈ m.foldl (repStep u k) l, rpB r = true ∧ kindL u r.d = 3
  | [], _, _, h1, h2 => ⟨h1, h2⟩
  | s :: m, l, hm, h1, h2 => by
    have hs : RisR (repStep u k l s) ∧ ∀ r ∈ repStep u k l s, rpB r = true ∧ kindL u r.d = 3 := by
      unfold repStep
      split
      · rename_i hk
        refine ⟨mergeR_ris l s h1, fun r hr => ?_⟩
        rcases mergeR_mem l s r hr with rfl | hr
        · exact ⟨hm _ (List.mem_cons_self ..), hk.1⟩
        · exact h2 r hr
      · exact ⟨h1, h2⟩
    exact reps_R u k m _ (fun r hr => hm r (List.mem_cons_of_mem _ hr)) hs.1 hs.2
theorem gifs_R (u : List Int) (n : Int) : ∀ (m : List Gf) (l : List Gf), (∀ g ∈ m, gfB g = true) → RisG l → (∀ g ∈ l, gfB g = true ∧ g.d ≠ n ∧ belowU u g.d n = true) → RisG (m.foldl (gifStep u n) l) ∧ ∀ g ∈ m.foldl (gifStep u n) l, gfB g = true ∧ g.d ≠ n ∧ belowU u g.d n = true
  | [], _, _, h1, h2 => ⟨h1, h2⟩
  | s :: m, l, hm, h1, h2 => by
    have hs : RisG (gifStep u n l s) ∧ ∀ g ∈ gifStep u n l s, gfB g = true ∧ g.d ≠ n ∧ belowU u g.d n = true := by
      unfold gifStep
      split
      · rename_i hk
        refine ⟨mergeG_ris l s h1, fun r hr => ?_⟩
        rcases mergeG_mem l s r hr with rfl | hr
        · exact ⟨hm _ (List.mem_cons_self ..), hk.2, hk.1⟩
        · exact h2 r hr
      · exact ⟨h1, h2⟩
    exact gifs_R u n m _ (fun r hr => hm r (List.mem_cons_of_mem _ hr)) hs.1 hs.2
theorem filter_ris (q : Gf → Bool) : ∀ (l : List Gf), RisG l → RisG (l.filter q)
  | [], h => h
  | x :: l, h => by
    rw [List.filter_cons]
    split
    · exact ⟨fun y hy => h.1 y (List.mem_filter.1 hy).1, filter_ris q l h.2⟩
    · exact filter_ris q l h.2
theorem prune_R {u : List Int} {n : Int} {rs : List Rp} {gs : List Gf} (h : RisG gs ∧ ∀ g ∈ gs, gfB g = true ∧ g.d ≠ n ∧ belowU u g.d n = true) : RisG (pruneG rs gs) ∧ ∀ g ∈ pruneG rs gs, gfB g = true ∧ g.d ≠ n ∧ belowU u g.d n = true ∧ wantedG g rs = true :=
  ⟨filter_ris _ gs h.1, fun g hg => by
    obtain ⟨h1, h2⟩ := List.mem_filter.1 hg
    obtain ⟨a, b, c⟩ := h.2 g h1
    exact ⟨a, b, c, h2⟩⟩
theorem fr_six {f : Fr} (h : FrR f) : (0 ≤ f.boot ∧ f.boot ≤ 1099511627776) ∧ (0 ≤ f.pos ∧ f.pos ≤ 1099511627776) ∧ (0 ≤ f.ack ∧ f.ack ≤ 1099511627776) ∧ (0 ≤ f.grant ∧ f.grant ≤ 1099511627776) ∧ (0 ≤ f.s ∧ f.s ≤ 1099511627776) ∧ (0 ≤ f.t ∧ f.t ≤ 1099511627776) :=
  ⟨h.six _ (by simp [fr6]), h.six _ (by simp [fr6]), h.six _ (by simp [fr6]), h.six _ (by simp [fr6]), h.six _ (by simp [fr6]), h.six _ (by simp [fr6])⟩
theorem RlR.more {p : Pn} {up : Int} {n : Nat} {x : Rlv} (h : RlR p up n x) : RlR p up (n + 1) x :=
  { h with sp := by have := h.sp; omega, qf := by have := h.qf; omega, kr := fun k hk => by have := h.kr k hk; omega }
theorem downR_r {p : Pn} {up : Int} {n : Nat} {x : Rlv} (h : RlR p up n x) (hn : n ≤ 1000) {f : Fr} (hf : FrR f) (hs : f.s ≤ 1073741824) : RlR p up (n + 1) (downR p x f) := by
  obtain ⟨b1, b2, b3, b4, b5, b6⟩ := fr_six hf
  have he := hf.e
  have hsp := h.sp
  have hql := h.ql
  have hqf := h.qf
  have hqg := h.qg
  have s1 := settleS_R h.st (place := f.s) (t := f.t) b5.2 b6.2
  have s2 := settleS_p x.st f.s f.t
  have s3 : (settleS x.st f.s f.t).es.length ≤ x.st.es.length := by
    obtain ⟨m, hm⟩ := settleS_es x.st f.s f.t
    rw [hm, List.length_drop]; omega
  obtain ⟨d1, d2, d3⟩ := downS_R (most := winP p) f.es f.start s1 hf.es (by omega)
  obtain ⟨a1, a2, a3, a4, a5⟩ := ackQ_b x.q f.ack
  have g := prune_R (rs := x.rs) (gifs_R p.u x.node f.gs x.gs hf.gs h.gs.1 (fun g hg => ⟨(h.gs.2 g hg).1, (h.gs.2 g hg).2.1, (h.gs.2 g hg).2.2.1⟩))
  exact
    { node := h.node
      boot := h.boot
      above := b1
      st := d1
      sp := by show (downS (winP p) (settleS x.st f.s f.t) f.start f.es).p ≤ _; omega
      stl := by have := h.stl; show ((downS (winP p) (settleS x.st f.s f.t) f.start f.es).es.length : Int) ≤ _; omega
      qf := by show 1 ≤ (ackQ x.q f.ack).f ∧ (ackQ x.q f.ack).f + ((ackQ x.q f.ack).os.length : Int) ≤ _; omega
      qg := by show 0 ≤ max (ackQ x.q f.ack).g f.grant ∧ max (ackQ x.q f.ack).g f.grant ≤ _; omega
      ql := by show ((ackQ x.q f.ack).os.length : Int) ≤ _; omega
      qo := fun o ho => h.qo o (a4 o ho)
      kn := h.kn
      kr := h.more.kr
      rs := h.rs
      gs := g }
theorem upR_r {p : Pn} {up : Int} {n : Nat} {x : Rlv} (h : RlR p up n x) {f : Fr} (hf : FrR f) {i : Nat} (hi : i < x.ks.length) : RlR p up (n + 1) (upR p x i (x.ks.getD i ⟨0, 0, 0, 0⟩) f) := by
  have hk : x.ks.getD i ⟨0, 0, 0, 0⟩ = x.ks[i] := by rw [List.getD_eq_getElem?_getD, List.getElem?_eq_getElem hi]; rfl
  rw [hk]
  obtain ⟨k, hkk⟩ : ∃ k, x.ks[i] = k := ⟨_, rfl⟩
  rw [hkk]
  have hkm := h.kr k (by rw [← hkk]; exact List.getElem_mem hi)
  obtain ⟨b1, b2, b3, b4, b5, b6⟩ := fr_six hf
  have he := hf.e
  have hql := h.ql
  have hqf := h.qf
  have hqg := h.qg
  obtain ⟨o1, o2, o3, o4, o5, o6, o7⟩ := upOps_b p.r f.os (x.q, k.r) f.first
  have o2 : (upOps p.r (x.q, k.r) f.first f.os).2 ≤ k.r + f.os.length := o2
  have o1 : k.r ≤ (upOps p.r (x.q, k.r) f.first f.os).2 := o1
  have o3 : (upOps p.r (x.q, k.r) f.first f.os).1.f = x.q.f := o3
  have o4 : (upOps p.r (x.q, k.r) f.first f.os).1.g = x.q.g := o4
  have o5 : ((upOps p.r (x.q, k.r) f.first f.os).1.os.length : Int) = (x.q.os.length : Int) + ((upOps p.r (x.q, k.r) f.first f.os).2 - k.r) := o5
  have o6 : ((upOps p.r (x.q, k.r) f.first f.os).1.os.length : Int) ≤ max (x.q.os.length : Int) p.r := o6
  have r := reps_R p.u f.a f.rs x.rs hf.rs h.rs.1 h.rs.2
  have g := prune_R (rs := f.rs.foldl (repStep p.u f.a) x.rs) (u := p.u) (n := x.node) (gs := x.gs) ⟨h.gs.1, fun g hg => ⟨(h.gs.2 g hg).1, (h.gs.2 g hg).2.1, (h.gs.2 g hg).2.2.1⟩⟩
  exact
    { node := h.node
      boot := h.boot
      above := h.above
      st := h.st
      sp := h.more.sp
      stl := h.stl
      qf := by show 1 ≤ (upOps p.r (x.q, k.r) f.first f.os).1.f ∧ (upOps p.r (x.q, k.r) f.first f.os).1.f + ((upOps p.r (x.q, k.r) f.first f.os).1.os.length : Int) ≤ _; omega
      qg := by show 0 ≤ (upOps p.r (x.q, k.r) f.first f.os).1.g ∧ (upOps p.r (x.q, k.r) f.first f.os).1.g ≤ _; omega
      ql := by show ((upOps p.r (x.q, k.r) f.first f.os).1.os.length : Int) ≤ _; omega
      qo := fun o ho => (o7 o ho).elim (h.qo o) (hf.os o)
      kn := by
        show (x.ks.set i ⟨k.n, (upOps p.r (x.q, k.r) f.first f.os).2, max k.p f.pos, f.boot⟩).map Kin.n = _
        rw [List.map_set]
        show (x.ks.map Kin.n).set i k.n = (kidsN p.u x.node).map fun (i : Nat) => (i : Int)
        rw [← h.kn, ← hkk]
        apply List.ext_getElem?
        intro j
        rw [List.getElem?_set]
        split
        · rename_i hj
          subst hj
          rw [if_pos (by rw [List.length_map]; exact hi), List.getElem?_map, List.getElem?_eq_getElem hi]; rfl
        · rfl
      kr := fun y hy => by
        have hy : y ∈ x.ks.set i ⟨k.n, (upOps p.r (x.q, k.r) f.first f.os).2, max k.p f.pos, f.boot⟩ := hy
        rcases List.mem_or_eq_of_mem_set hy with hy | rfl
        · exact h.more.kr y hy
        · dsimp only
          omega
      rs := r
      gs := g }
theorem takeR_r {p : Pn} {up : Int} {n : Nat} {x : Rlv} (h : RlR p up n x) (hn : n ≤ 1000) {f : Fr} (hf : FrR f) (hs : f.s ≤ 1073741824) : RlR p up (n + 1) (takeR p up x f).1 := by
  unfold takeR
  split
  · exact h.more
  · split
    · split
      · exact h.more
      · exact downR_r h hn hf hs
    · cases hk : kidAt x.ks f.a with
      | none => exact h.more
      | some i =>
        dsimp only
        split
        · exact h.more
        · obtain ⟨hi, _⟩ := kidAt_some hk
          exact upR_r h hf hi
end Go.Proofs.Ytnglpkfkepfkkaa

/- Frames' bytes: there and back; what is cut or of which a byte is another one is none's. No call in it. -/
namespace Go.Proofs.Ytnglpkfkepfkkaa.Crk
open Go.RowKit Crc
end Go.Proofs.Ytnglpkfkepfkkaa.Crk
namespace Go.Proofs.Ytnglpkfkepfkkaa
open Go.RowKit Nam Cod

theorem frL_i64 {f : Fr} (h : FrR f) : ∀ n ∈ frL f, i64 n := fun n hn => by
  have h1 := fun n hn => h.six n hn
  have h2 := h.e
  unfold fr6 at h1
  unfold frL at hn
  simp only [List.mem_cons, List.not_mem_nil, or_false, forall_eq_or_imp, forall_eq] at hn h1
  unfold Go.Proofs.Ytnglpkfkepfkkaa.i64
  rcases hn with rfl | rfl | rfl | rfl | rfl | rfl | rfl | rfl | rfl | rfl <;> omega
theorem bodyF_le {f : Fr} (h : FrR f) : (bodyF f).size ≤ 20000 := by
  have he := h.e
  have c10 : ∀ n : Nat, n ≤ 1000 → (bytesOf (n : Int)).size ≤ 10 := fun n hn => by rw [bytesOf_size]; exact enc_ten _ (fold_lt (n : Int) (by omega) (by omega))
  have h0 := catN_le (frL f) (frL_i64 h)
  rw [show (frL f).length = 10 from rfl] at h0
  have h1 := opK.cat_le 86 f.os (fun x hx => bytes_le (m := x) (h.os x hx))
  have h2 := rpK.cat_le 90 f.rs (fun x hx => by
    have := catN_le (rpL x) (rpB_iff.1 (h.rs x hx)).i64
    rw [show (rpL x).length = 9 from rfl] at this
    exact this)
  have h3 := enK.cat_le 96 f.es (fun x hx => ent_le (h.es x hx))
  have h4 := gfK.cat_le 310 f.gs (fun x hx => by
    have hg := h.gs x hx
    unfold gfB at hg
    rw [decide_eq_true_iff] at hg
    show (gfBytes x).size ≤ 310
    unfold gfBytes textOf
    have k1 : (bytesOf x.d).size ≤ 10 := by rw [bytesOf_size]; exact enc_ten _ (fold_lt _ (by omega) (by omega))
    have k2 : (bytesOf x.i).size ≤ 10 := by rw [bytesOf_size]; exact enc_ten _ (fold_lt _ (by omega) (by omega))
    have k3 : (bytesOf x.c).size ≤ 10 := by rw [bytesOf_size]; exact enc_ten _ (fold_lt _ (by omega) (by omega))
    have k4 : (bytesOf x.t).size ≤ 10 := by rw [bytesOf_size]; exact enc_ten _ (fold_lt _ (by omega) (by omega))
    have k5 := c10 x.s.size (by omega)
    simp only [ByteArray.size_append]
    omega)
  have b1 := c10 f.os.length (by omega)
  have b2 := c10 f.rs.length (by omega)
  have b3 := c10 f.es.length (by omega)
  have b4 := c10 f.gs.length (by omega)
  unfold bodyF Kd.part
  simp only [ByteArray.size_append]
  omega
end Go.Proofs.Ytnglpkfkepfkkaa

/- Reports in memory; what the program's functions shall answer (ReportCalls); the document's Right, Newer, Print, Same. -/
namespace Go.Proofs.Ytnglpkfkepfkkaa
open Go.RowKit Cod

def rpE : El Rp where
  e := 59
  k := 9
  c r := [.int .i64 r.d, .int .i64 r.i, .int .i64 r.b, .int .i64 r.t, .int .i64 r.m, .int .i64 r.p, .int .i64 r.c, .int .i64 r.s, .int .i64 r.k]
  len _ := rfl
  one p u h := by
    simp only [List.mem_cons, List.not_mem_nil, or_false] at h
    rcases h with rfl | rfl | rfl | rfl | rfl | rfl | rfl | rfl | rfl <;> rfl
  pos := by decide
theorem rpRow : rpE.Row Try.prog := ⟨by kernel_rfl, _, Try.underlying59, rfl⟩
theorem rpInn : rpE.Inn Try.prog 24 := El.inn_of (z := .agg #[.int .i64 0, .int .i64 0, .int .i64 0, .int .i64 0, .int .i64 0, .int .i64 0, .int .i64 0, .int .i64 0, .int .i64 0]) (bytes := 72) Try.underlying24 (by kernel_rfl) rfl (by decide)
theorem rpIn9 {w : World} {b : Nat} {r : Rp} (h : rpE.In w b r) : w.cell? ⟨b, 0, none⟩ = some (.int .i64 r.d) ∧ w.cell? ⟨b, 1, none⟩ = some (.int .i64 r.i) ∧ w.cell? ⟨b, 2, none⟩ = some (.int .i64 r.b) ∧ w.cell? ⟨b, 3, none⟩ = some (.int .i64 r.t) ∧ w.cell? ⟨b, 4, none⟩ = some (.int .i64 r.m) ∧ w.cell? ⟨b, 5, none⟩ = some (.int .i64 r.p) ∧ w.cell? ⟨b, 6, none⟩ = some (.int .i64 r.c) ∧ w.cell? ⟨b, 7, none⟩ = some (.int .i64 r.s) ∧ w.cell? ⟨b, 8, none⟩ = some (.int .i64 r.k) :=
  ⟨h.cell 0, h.cell 1, h.cell 2, h.cell 3, h.cell 4, h.cell 5, h.cell 6, h.cell 7, h.cell 8⟩
theorem rpAt9 {w : World} {b o : Nat} {r : Rp} (h : rpE.At w b o r) : w.cell? ⟨b, o, none⟩ = some (.int .i64 r.d) ∧ w.cell? ⟨b, o + 1, none⟩ = some (.int .i64 r.i) ∧ w.cell? ⟨b, o + 2, none⟩ = some (.int .i64 r.b) ∧ w.cell? ⟨b, o + 3, none⟩ = some (.int .i64 r.t) ∧ w.cell? ⟨b, o + 4, none⟩ = some (.int .i64 r.m) ∧ w.cell? ⟨b, o + 5, none⟩ = some (.int .i64 r.p) ∧ w.cell? ⟨b, o + 6, none⟩ = some (.int .i64 r.c) ∧ w.cell? ⟨b, o + 7, none⟩ = some (.int .i64 r.s) ∧ w.cell? ⟨b, o + 8, none⟩ = some (.int .i64 r.k) :=
  ⟨h 0 _ rfl, h 1 _ rfl, h 2 _ rfl, h 3 _ rfl, h 4 _ rfl, h 5 _ rfl, h 6 _ rfl, h 7 _ rfl, h 8 _ rfl⟩
theorem rpIdxH {A : Option Addr} {b off len cap k : Nat} (hA : A = some ⟨b, off, none⟩) (h : k < len) : ∀ w, (Instr.indexAt 24 (.slice A len cap) (.int .i64 k)).run Try.prog w = .ok (.pointer (some ⟨b, off + k * 9, none⟩)) w := fun w => by
  subst hA
  have h2 : (k : Int) < (len : Int) := by omega
  go_simp
def RpW (r : Rp) : Prop := ∀ n ∈ rpL r, i64 n
def rp7 (r : Rp) : List Int := [r.i, r.b, r.t, r.p, r.c, r.s, r.k]
def headB (r : Rp) : Bool := decide (0 ≤ r.d ∧ r.d < 12 ∧ 1 ≤ r.i ∧ (r.m = 1 ∨ r.m = 2))
theorem rpB_eq (r : Rp) : rpB r = (headB r && (rp7 r).all cnt0) := by
  unfold rpB headB rp7
  simp [List.all_cons]
theorem rpB_out {r : Rp} {k : Nat} (h : k < 7) (hn : cnt0 ((rp7 r).getD k 0) = false) : rpB r = false := by
  rw [rpB_eq]
  have h1 : (rp7 r).all cnt0 = false := by
    rw [Bool.eq_false_iff]; intro ha
    rw [List.all_eq_true] at ha
    have := ha ((rp7 r).getD k 0) (by
      rw [List.getD_eq_getElem?_getD, List.getElem?_eq_getElem (by simpa [rp7] using h)]
      exact List.getElem_mem _)
    rw [hn] at this; cases this
  rw [h1, Bool.and_false]
theorem rpB_in {r : Rp} (h : ∀ k, k < 7 → cnt0 ((rp7 r).getD k 0) = true) : rpB r = headB r := by
  rw [rpB_eq]
  have h1 : (rp7 r).all cnt0 = true := by
    rw [List.all_eq_true]
    intro n hn
    obtain ⟨k, hk, rfl⟩ := List.getElem_of_mem hn
    have h2 : k < 7 := by simpa [rp7] using hk
    have := h k h2
    rw [List.getD_eq_getElem?_getD, List.getElem?_eq_getElem hk] at this
    exact this
  rw [h1, Bool.and_true]
theorem idx7 (r : Rp) (w : World) : ∀ k, k < 7 → (Instr.index 109 (.agg #[.int .i64 r.i, .int .i64 r.b, .int .i64 r.t, .int .i64 r.p, .int .i64 r.c, .int .i64 r.s, .int .i64 r.k]) (.int .i64 (k : Nat))).run Try.prog w = .ok (.int .i64 ((rp7 r).getD k 0)) w
  | 0, _ => by kernel_rfl
  | 1, _ => by kernel_rfl
  | 2, _ => by kernel_rfl
  | 3, _ => by kernel_rfl
  | 4, _ => by kernel_rfl
  | 5, _ => by kernel_rfl
  | 6, _ => by kernel_rfl
  | k + 7, h => absurd h (by omega)
end Go.Proofs.Ytnglpkfkepfkkaa

/- The document's Right, Print, Same of reports. -/
namespace Go.Proofs.Ytnglpkfkepfkkaa
open Go.RowKit Cod
set_option maxRecDepth 100000 in
set_option maxHeartbeats 4000000 in
theorem refRpRight_any (r : Rp) (w : World) : Calls Try.prog 29 #[.agg #[.int .i64 r.d, .int .i64 r.i, .int .i64 r.b, .int .i64 r.t, .int .i64 r.m, .int .i64 r.p, .int .i64 r.c, .int .i64 r.s, .int .i64 r.k]] w fun e w' => e = .returned (.bool (rpB r)) ∧ Below w.heap.size w w' := by
  have hP : rpE.In (w.alloc (.cells #[.int .i64 r.d, .int .i64 r.i, .int .i64 r.b, .int .i64 r.t, .int .i64 r.m, .int .i64 r.p, .int .i64 r.c, .int .i64 r.s, .int .i64 r.k] 59)) w.heap.size r := El.In.new (E := rpE) w r _ rfl
  have hB := below_alloc (Below.refl w.heap.size w) (.cells #[.int .i64 r.d, .int .i64 r.i, .int .i64 r.b, .int .i64 r.t, .int .i64 r.m, .int .i64 r.p, .int .i64 r.c, .int .i64 r.s, .int .i64 r.k] 59)
  obtain ⟨p0, p1, p2, p3, p4, p5, p6, p7, p8⟩ := rpIn9 hP
  have HC0 := Lib.hid (fun (j : Nat) (hj : j < 0) => (absurd hj (Nat.not_lt_zero j) : cnt0 ((rp7 r).getD j 0) = true))
  clear hP
  obtain ⟨bv, hbv⟩ : ∃ bv, rpB r = bv := ⟨_, rfl⟩
  rw [hbv]
  have HV := Lib.hid hbv
  clear hbv
  go_enter Try.func29, Try.ntmps29
  go_wp2_with fail
  generalize w.alloc (.cells #[.int .i64 r.d, .int .i64 r.i, .int .i64 r.b, .int .i64 r.t, .int .i64 r.m, .int .i64 r.p, .int .i64 r.c, .int .i64 r.s, .int .i64 r.k] 59) = W at *
  go_loopw [20] (fun i wr => ∃ k : Nat, k ≤ 7 ∧ i = .int .i64 k ∧ Hid (∀ j, j < k → cnt0 ((rp7 r).getD j 0) = true) ∧ wr = W) (fun i _ => 7 - (intOf i).toNat)
  case atStart => exact ⟨0, Nat.zero_le _, rfl, HC0, rfl⟩
  case round =>
    clear HC0
    obtain ⟨k, hk, rfl, HC, rfl⟩ := hrel
    by_cases hkl : k < 7
    · have hx := fun wx => idx7 r wx k hkl
      have HO := Lib.hid (rpB_out (r := r) hkl)
      have HN := Lib.hid (fun (h : cnt0 ((rp7 r).getD k 0) = true) (j : Nat) (hj : j < k + 1) => (by
        by_cases e : j < k
        · exact HC.out j e
        · obtain rfl : j = k := by omega
          exact h : cnt0 ((rp7 r).getD j 0) = true))
      generalize (rp7 r).getD k 0 = n at *
      by_cases h0 : n < 0
      · have hv := HO.out (by unfold cnt0; exact decide_eq_false (by omega))
        obtain rfl : false = bv := hv.symm.trans HV.out
        have f1 : decide (n < 0) = true := decide_eq_true h0
        clear hv
        go_wp2_with fail
        go_ret
        exact ⟨rfl, hB⟩
      · have f1 : decide (n < 0) = false := decide_eq_false h0
        by_cases h1 : 1099511627776 < n
        · have hv := HO.out (by unfold cnt0; exact decide_eq_false (by omega))
          obtain rfl : false = bv := hv.symm.trans HV.out
          have f2 : decide (1099511627776 < n) = true := decide_eq_true h1
          clear hv
          go_wp2_with fail
          go_ret
          exact ⟨rfl, hB⟩
        · have f2 : decide (1099511627776 < n) = false := decide_eq_false h1
          have HN2 := Lib.hid (HN.out (by unfold cnt0; exact decide_eq_true (by omega)))
          go_wp2_with fail
          exact ⟨⟨k + 1, by omega, by go_num, HN2, by trivial⟩, by simp [intOf]; omega⟩
    · obtain rfl : k = 7 := by omega
      have hv := (rpB_in HC.out).symm.trans HV.out
      have hh : headB r = (decide (0 ≤ r.d) && (decide (r.d < 12) && (decide (1 ≤ r.i) && (decide (r.m = 1) || decide (r.m = 2))))) := by
        unfold headB
        by_cases a1 : 0 ≤ r.d <;> by_cases a2 : r.d < 12 <;> by_cases a3 : 1 ≤ r.i <;> by_cases a4 : r.m = 1 <;> by_cases a5 : r.m = 2 <;> simp [a1, a2, a3, a4, a5]
      rw [hh] at hv
      clear hh HC HV
      by_cases a1 : 0 ≤ r.d
      · by_cases a2 : r.d < 12
        · by_cases a3 : 1 ≤ r.i
          · by_cases a4 : r.m = 1
            · have e4 : (r.m == 1) = true := beq_iff_eq.2 a4
              have hv2 : true = bv := by rw [← hv]; simp [a1, a2, a3, a4]
              subst hv2
              go_wp2_with fail
              go_ret
              exact ⟨rfl, hB⟩
            · have e4 : (r.m == 1) = false := beq_eq_false_iff_ne.2 a4
              by_cases a5 : r.m = 2
              · have e5 : (r.m == 2) = true := beq_iff_eq.2 a5
                have hv2 : true = bv := by rw [← hv]; simp [a1, a2, a3, a5]
                subst hv2
                go_wp2_with fail
                go_ret
                exact ⟨rfl, hB⟩
              · have e5 : (r.m == 2) = false := beq_eq_false_iff_ne.2 a5
                have hv2 : false = bv := by rw [← hv]; simp [a1, a2, a3, a4, a5]
                subst hv2
                go_wp2_with fail
                go_ret
                exact ⟨rfl, hB⟩
          · skip
            have hv2 : false = bv := by rw [← hv]; simp [a1, a2, a3]
            subst hv2
            go_wp2_with fail
            go_ret
            exact ⟨rfl, hB⟩
        · skip
          have hv2 : false = bv := by rw [← hv]; simp [a1, a2]
          subst hv2
          go_wp2_with fail
          go_ret
          exact ⟨rfl, hB⟩
      · skip
        have hv2 : false = bv := by rw [← hv]; simp [a1]
        subst hv2
        go_wp2_with fail
        go_ret
        exact ⟨rfl, hB⟩

set_option maxRecDepth 100000 in
set_option maxHeartbeats 2000000 in
/-- Same, of equal lists of reports. -/
theorem refSameRp_any (A B : Option Addr) (cA cB : Nat) (l : List Rp) (w : World) (hA : rpE.Sl w A l) (hB : rpE.Sl w B l) (hl : l.length ≤ 100000) : Calls Try.prog 23 #[.slice A l.length cA, .slice B l.length cB] w fun e w' => e = .returned (.bool true) ∧ Below w.heap.size w w' := by
  go_enter Try.func23, Try.ntmps23
  go_wp2_with fail
  go_loopw [5] (fun y wr => ∃ k : Nat, k ≤ l.length ∧ y = .int .i64 k ∧ Below w.heap.size w wr) (fun y _ => l.length - (intOf y).toNat)
  case atStart => exact ⟨0, Nat.zero_le _, rfl, Below.refl _ _⟩
  case round =>
    obtain ⟨k, hk, rfl, hN⟩ := hrel
    by_cases hkl : k < l.length
    · obtain ⟨b, off, eA, hbw, hc⟩ := hA (by omega)
      obtain ⟨b', off', eB, hbw', hc'⟩ := hB (by omega)
      have hx := rpIdxH (cap := cA) eA hkl
      have hy := rpIdxH (cap := cB) eB hkl
      have hat : rpE.At wr b (off + k * 9) l[k] := (hc k hkl).below hN hbw
      have hat' : rpE.At wr b' (off' + k * 9) l[k] := (hc' k hkl).below hN hbw'
      obtain ⟨s0, s1, s2, s3, s4, s5, s6, s7, s8⟩ := rpAt9 hat
      obtain ⟨t0, t1, t2, t3, t4, t5, t6, t7, t8⟩ := rpAt9 hat'
      generalize l[k] = x at *
      clear hc hc' hat hat' eA eB
      go_wp2_with fail
      go_quiet (fail)
      go_wp2_with fail
      exact ⟨⟨k + 1, by omega, by go_num, below_drew hN nq⟩, by simp [intOf]; omega⟩
    · obtain rfl : k = l.length := by omega
      go_wp2_with fail
      go_ret
      exact ⟨rfl, hN⟩
end Go.Proofs.Ytnglpkfkepfkkaa

/- Entries and counts in memory; what the program's functions shall answer (EntryCalls: proved for the real program in a text of its own); the document's Right and Print. -/
namespace Go.Proofs.Ytnglpkfkepfkkaa
open Go.RowKit Nam Cod

def enE : El En where
  e := 67
  k := 10
  c x := [.int .i64 x.k, .int .i64 x.d, .int .i64 x.i, .int .i64 x.o.C, .int .i64 x.o.D, .int .i64 x.o.I, .int .i64 x.o.M, .int .i64 x.o.K, .int .i64 x.o.U, .string x.o.s]
  len _ := rfl
  one p u h := by
    simp only [List.mem_cons, List.not_mem_nil, or_false] at h
    rcases h with rfl | rfl | rfl | rfl | rfl | rfl | rfl | rfl | rfl | rfl <;> rfl
  pos := by decide
def cnE : El Cn where
  e := 168
  k := 3
  c x := [.int .i64 x.d, .int .i64 x.i, .int .i64 x.n]
  len _ := rfl
  one p u h := by
    simp only [List.mem_cons, List.not_mem_nil, or_false] at h
    rcases h with rfl | rfl | rfl <;> rfl
  pos := by decide
theorem enRow : enE.Row Try.prog := ⟨by kernel_rfl, _, Try.underlying67, rfl⟩
theorem enInn : enE.Inn Try.prog 25 := El.inn_of (z := .agg #[.int .i64 0, .int .i64 0, .int .i64 0, .int .i64 0, .int .i64 0, .int .i64 0, .int .i64 0, .int .i64 0, .int .i64 0, .string ⟨#[]⟩]) (bytes := 88) Try.underlying25 (by kernel_rfl) rfl (by decide)
/-- An entry's numbers fit. -/
structure EnW (e : En) : Prop where
  k : i64 e.k
  d : i64 e.d
  i : i64 e.i
  o : Wide e.o.C e.o.D e.o.I e.o.M e.o.K e.o.U
theorem opRef_mv (m : Mv) (w : World) (hs : m.s.size ≤ 9223372036854775807) :
    Calls Try.prog 27 #[.agg #[.int .i64 m.C, .int .i64 m.D, .int .i64 m.I, .int .i64 m.M, .int .i64 m.K, .int .i64 m.U, .string m.s]] w fun e w' => e = .returned (.bool (okB m)) ∧ Below w.heap.size w w' := opRefRight_any m.C m.D m.I m.M m.K m.U m.s w hs
theorem toList_iff {a b : ByteArray} : a.toList = b.toList ↔ a = b := ⟨fun h => by
  by_cases e : a = b
  · exact e
  · exact absurd h (ne_list e), fun h => by rw [h]⟩
/-- Are these two operations, entries, counts the same? -/
def mvEq (C D I M K U : Int) (s : ByteArray) (C' D' I' M' K' U' : Int) (s' : ByteArray) : Bool := decide (C = C' ∧ D = D' ∧ I = I' ∧ M = M' ∧ K = K' ∧ U = U' ∧ s = s')
set_option maxRecDepth 100000 in
set_option maxHeartbeats 4000000 in
theorem run_eqMv (w : World) (C D I M K U C' D' I' M' K' U' : Int) (s s' : ByteArray) : (Op.equalIn 10000 64 (.agg #[.int .i64 C, .int .i64 D, .int .i64 I, .int .i64 M, .int .i64 K, .int .i64 U, .string s]) (.agg #[.int .i64 C', .int .i64 D', .int .i64 I', .int .i64 M', .int .i64 K', .int .i64 U', .string s'])).run Try.prog w = .ok (mvEq C D I M K U s C' D' I' M' K' U' s') w := by
  by_cases h : C = C' ∧ D = D' ∧ I = I' ∧ M = M' ∧ K = K' ∧ U = U' ∧ s = s'
  · have hm : mvEq C D I M K U s C' D' I' M' K' U' s' = true := decide_eq_true h
    rw [hm]
    obtain ⟨rfl, rfl, rfl, rfl, rfl, rfl, rfl⟩ := h
    clear hm
    go_simp
  · have hm : mvEq C D I M K U s C' D' I' M' K' U' s' = false := decide_eq_false h
    rw [hm]
    clear hm
    go_simp
    exact fun h1 h2 h3 h4 h5 h6 h7 => h ⟨h1, h2, h3, h4, h5, h6, toList_iff.1 h7⟩
set_option maxRecDepth 100000 in
set_option maxHeartbeats 2000000 in
theorem refEntRight_any (e : En) (w : World) (hs : e.o.s.size ≤ 9223372036854775807) : Calls Try.prog 28 #[.agg #[.int .i64 e.k, .int .i64 e.d, .int .i64 e.i, .int .i64 e.o.C, .int .i64 e.o.D, .int .i64 e.o.I, .int .i64 e.o.M, .int .i64 e.o.K, .int .i64 e.o.U, .string e.o.s]] w fun r w' => r = .returned (.bool (entB e)) ∧ Below w.heap.size w w' := by
  obtain ⟨k, d, i, o⟩ := e
  dsimp only at hs ⊢
  have C1 := Lib.hid (fun wx => opRef_mv o wx hs)
  by_cases h1 : k = 1
  · subst h1
    have hB := below_alloc (Below.refl w.heap.size w) (.cells #[.int .i64 (⟨1, d, i, o⟩ : En).k, .int .i64 (⟨1, d, i, o⟩ : En).d, .int .i64 (⟨1, d, i, o⟩ : En).i, .int .i64 (⟨1, d, i, o⟩ : En).o.C, .int .i64 (⟨1, d, i, o⟩ : En).o.D, .int .i64 (⟨1, d, i, o⟩ : En).o.I, .int .i64 (⟨1, d, i, o⟩ : En).o.M, .int .i64 (⟨1, d, i, o⟩ : En).o.K, .int .i64 (⟨1, d, i, o⟩ : En).o.U, .string (⟨1, d, i, o⟩ : En).o.s] 67)
    dsimp only at hB
    by_cases h2 : d = 0 ∧ i = 0
    · obtain ⟨rfl, rfl⟩ := h2
      have hv : entB ⟨1, 0, 0, o⟩ = okB o := by
        unfold entB
        rw [if_pos rfl, decide_eq_true ⟨rfl, rfl⟩, Bool.true_and]
      rw [hv]
      generalize okB o = bo at *
      clear hv
      go_enter Try.func28, Try.ntmps28
      go_wp2_with fail
      refine (C1.out _).mono ?_
      rintro r w1 ⟨rfl, hb1⟩
      replace hB := hB.trans (hb1.mono hB.size)
      go_wp2_with fail
      go_ret
      exact ⟨rfl, hB⟩
    · have hv : entB ⟨1, d, i, o⟩ = false := by
        unfold entB
        rw [if_pos rfl, decide_eq_false h2, Bool.false_and]
      rw [hv]
      clear hv
      by_cases h3 : d = 0
      · subst h3
        have e2 : (i == 0) = false := beq_eq_false_iff_ne.2 (fun h => h2 ⟨rfl, h⟩)
        clear h2
        go_enter Try.func28, Try.ntmps28
        go_wp2_with fail
        go_ret
        exact ⟨rfl, hB⟩
      · have e1 : (d == 0) = false := beq_eq_false_iff_ne.2 h3
        clear h2 h3
        go_enter Try.func28, Try.ntmps28
        go_wp2_with fail
        go_ret
        exact ⟨rfl, hB⟩
  · have hB := below_alloc (Below.refl w.heap.size w) (.cells #[.int .i64 (⟨k, d, i, o⟩ : En).k, .int .i64 (⟨k, d, i, o⟩ : En).d, .int .i64 (⟨k, d, i, o⟩ : En).i, .int .i64 (⟨k, d, i, o⟩ : En).o.C, .int .i64 (⟨k, d, i, o⟩ : En).o.D, .int .i64 (⟨k, d, i, o⟩ : En).o.I, .int .i64 (⟨k, d, i, o⟩ : En).o.M, .int .i64 (⟨k, d, i, o⟩ : En).o.K, .int .i64 (⟨k, d, i, o⟩ : En).o.U, .string (⟨k, d, i, o⟩ : En).o.s] 67)
    dsimp only at hB
    have e1 : (k == 1) = false := beq_eq_false_iff_ne.2 h1
    by_cases h2 : k = 2 ∨ k = 3
    · have hv : entB ⟨k, d, i, o⟩ = (lifeB d i && zeroB o) := by
        unfold entB
        rw [if_neg h1, if_pos h2]
      rw [hv]
      have q := run_eqMv
      have HZ := Lib.hid (show mvEq o.C o.D o.I o.M o.K o.U o.s 0 0 0 0 0 0 ⟨#[]⟩ = zeroB o from rfl)
      clear hv h1 C1
      by_cases h3 : 0 ≤ d ∧ d < 12 ∧ 1 ≤ i ∧ i ≤ 1099511627776
      · have hl : lifeB d i = true := decide_eq_true h3
        rw [hl, Bool.true_and]
        obtain ⟨h4, h5, h6, h7⟩ := h3
        clear hl
        rcases h2 with rfl | rfl
        · go_enter Try.func28, Try.ntmps28
          go_wp2_with fail
          go_ret
          exact ⟨by rw [HZ.out]; rfl, hB⟩
        · go_enter Try.func28, Try.ntmps28
          go_wp2_with fail
          go_ret
          exact ⟨by rw [HZ.out]; rfl, hB⟩
      · have hl : lifeB d i = false := decide_eq_false h3
        rw [hl, Bool.false_and]
        clear hl
        rcases (show d < 0 ∨ (0 ≤ d ∧ 12 ≤ d) ∨ (0 ≤ d ∧ d < 12 ∧ i < 1) ∨ (0 ≤ d ∧ d < 12 ∧ 1 ≤ i ∧ 1099511627776 < i) by omega) with h4 | ⟨h4, h5⟩ | ⟨h4, h5, h6⟩ | ⟨h4, h5, h6, h7⟩
        all_goals
          clear h3
          rcases h2 with rfl | rfl
          all_goals
            go_enter Try.func28, Try.ntmps28
            go_wp2_with fail
            go_ret
            exact ⟨rfl, hB⟩
    · have hv : entB ⟨k, d, i, o⟩ = false := by
        unfold entB
        rw [if_neg h1, if_neg h2]
      rw [hv]
      have e2 : (k == 2) = false := beq_eq_false_iff_ne.2 (fun h => h2 (Or.inl h))
      have e3 : (k == 3) = false := beq_eq_false_iff_ne.2 (fun h => h2 (Or.inr h))
      clear h1 h2 hv
      go_enter Try.func28, Try.ntmps28
      go_wp2_with fail
      go_ret
      exact ⟨rfl, hB⟩

end Go.Proofs.Ytnglpkfkepfkkaa

/- Gifts and frames in memory; what the program's functions shall answer (FrameCalls); the document's Same of lists, RightGift, PrintGift. -/
namespace Go.Proofs.Ytnglpkfkepfkkaa
open Go.RowKit Nam Cod

def gfE : El Gf where
  e := 57
  k := 5
  c g := [.int .i64 g.d, .int .i64 g.i, .int .i64 g.c, .int .i64 g.t, .string g.s]
  len _ := rfl
  one p u h := by
    simp only [List.mem_cons, List.not_mem_nil, or_false] at h
    rcases h with rfl | rfl | rfl | rfl | rfl <;> rfl
  pos := by decide
theorem gfRow : gfE.Row Try.prog := ⟨by kernel_rfl, _, Try.underlying57, rfl⟩
theorem gfInn : gfE.Inn Try.prog 26 := El.inn_of (z := .agg #[.int .i64 0, .int .i64 0, .int .i64 0, .int .i64 0, .string ⟨#[]⟩]) (bytes := 48) Try.underlying26 (by kernel_rfl) rfl (by decide)
theorem gfIn5 {w : World} {b : Nat} {g : Gf} (h : gfE.In w b g) : w.cell? ⟨b, 0, none⟩ = some (.int .i64 g.d) ∧ w.cell? ⟨b, 1, none⟩ = some (.int .i64 g.i) ∧ w.cell? ⟨b, 2, none⟩ = some (.int .i64 g.c) ∧ w.cell? ⟨b, 3, none⟩ = some (.int .i64 g.t) ∧ w.cell? ⟨b, 4, none⟩ = some (.string g.s) := ⟨h.cell 0, h.cell 1, h.cell 2, h.cell 3, h.cell 4⟩
theorem gfAt5 {w : World} {b o : Nat} {g : Gf} (h : gfE.At w b o g) : w.cell? ⟨b, o, none⟩ = some (.int .i64 g.d) ∧ w.cell? ⟨b, o + 1, none⟩ = some (.int .i64 g.i) ∧ w.cell? ⟨b, o + 2, none⟩ = some (.int .i64 g.c) ∧ w.cell? ⟨b, o + 3, none⟩ = some (.int .i64 g.t) ∧ w.cell? ⟨b, o + 4, none⟩ = some (.string g.s) := ⟨h 0 _ rfl, h 1 _ rfl, h 2 _ rfl, h 3 _ rfl, h 4 _ rfl⟩
theorem gfIdxH {A : Option Addr} {b off len cap k : Nat} (hA : A = some ⟨b, off, none⟩) (h : k < len) : ∀ w, (Instr.indexAt 26 (.slice A len cap) (.int .i64 k)).run Try.prog w = .ok (.pointer (some ⟨b, off + k * 5, none⟩)) w := fun w => by
  subst hA
  have h2 : (k : Int) < (len : Int) := by omega
  go_simp
structure Fw where
  oA : Option Addr
  oc : Nat
  rA : Option Addr
  rc : Nat
  eA : Option Addr
  ec : Nat
  gA : Option Addr
  gc : Nat
  x : Fr
def frE : El Fw where
  e := 28
  k := 14
  c y := [.int .i64 y.x.a, .int .i64 y.x.b, .int .i64 y.x.boot, .int .i64 y.x.first, .slice y.oA y.x.os.length y.oc, .int .i64 y.x.pos, .slice y.rA y.x.rs.length y.rc, .int .i64 y.x.start, .slice y.eA y.x.es.length y.ec, .int .i64 y.x.ack, .int .i64 y.x.grant, .int .i64 y.x.s, .int .i64 y.x.t, .slice y.gA y.x.gs.length y.gc]
  len _ := rfl
  one p u h := by
    simp only [List.mem_cons, List.not_mem_nil, or_false] at h
    rcases h with rfl | rfl | rfl | rfl | rfl | rfl | rfl | rfl | rfl | rfl | rfl | rfl | rfl | rfl <;> rfl
  pos := by decide
theorem frRow : frE.Row Try.prog := ⟨by kernel_rfl, _, Try.underlying28, rfl⟩
theorem frIn14 {w : World} {b : Nat} {y : Fw} (h : frE.In w b y) : w.cell? ⟨b, 0, none⟩ = some (.int .i64 y.x.a) ∧ w.cell? ⟨b, 1, none⟩ = some (.int .i64 y.x.b) ∧ w.cell? ⟨b, 2, none⟩ = some (.int .i64 y.x.boot) ∧ w.cell? ⟨b, 3, none⟩ = some (.int .i64 y.x.first) ∧ w.cell? ⟨b, 4, none⟩ = some (.slice y.oA y.x.os.length y.oc) ∧ w.cell? ⟨b, 5, none⟩ = some (.int .i64 y.x.pos) ∧ w.cell? ⟨b, 6, none⟩ = some (.slice y.rA y.x.rs.length y.rc) ∧ w.cell? ⟨b, 7, none⟩ = some (.int .i64 y.x.start) ∧ w.cell? ⟨b, 8, none⟩ = some (.slice y.eA y.x.es.length y.ec) ∧ w.cell? ⟨b, 9, none⟩ = some (.int .i64 y.x.ack) ∧ w.cell? ⟨b, 10, none⟩ = some (.int .i64 y.x.grant) ∧ w.cell? ⟨b, 11, none⟩ = some (.int .i64 y.x.s) ∧ w.cell? ⟨b, 12, none⟩ = some (.int .i64 y.x.t) ∧ w.cell? ⟨b, 13, none⟩ = some (.slice y.gA y.x.gs.length y.gc) :=
  ⟨h.cell 0, h.cell 1, h.cell 2, h.cell 3, h.cell 4, h.cell 5, h.cell 6, h.cell 7, h.cell 8, h.cell 9, h.cell 10, h.cell 11, h.cell 12, h.cell 13⟩
structure Fw.ok (y : Fw) (w : World) : Prop where
  o : SlV opE w y.oA y.oc y.x.os
  r : SlV rpE w y.rA y.rc y.x.rs
  e : SlV enE w y.eA y.ec y.x.es
  g : SlV gfE w y.gA y.gc y.x.gs
theorem Fw.ok.below {y : Fw} {W w : World} (h : y.ok W) (hb : Below W.heap.size W w) : y.ok w := ⟨SlV.below h.o hb, SlV.below h.r hb, SlV.below h.e hb, SlV.below h.g hb⟩
def zeroFw : Fw := ⟨none, 0, none, 0, none, 0, none, 0, zeroFr⟩
def GfW (g : Gf) : Prop := i64 g.d ∧ i64 g.i ∧ i64 g.c ∧ i64 g.t ∧ g.s.size ≤ 1000000
structure FrW (x : Fr) : Prop where
  n : ∀ n ∈ frL x, i64 n
  os : ∀ o ∈ x.os, Wide o.C o.D o.I o.M o.K o.U ∧ o.s.size ≤ 1000000
  rs : ∀ r ∈ x.rs, RpW r
  es : ∀ e ∈ x.es, EnW e ∧ e.o.s.size ≤ 1000000
  gs : ∀ g ∈ x.gs, GfW g
  l : x.os.length ≤ 300 ∧ x.rs.length ≤ 300 ∧ x.es.length ≤ 300 ∧ x.gs.length ≤ 300
  z : (bodyF x).size ≤ 1000000
def gfEq (a b : Gf) : Bool := decide (a.d = b.d ∧ a.i = b.i ∧ a.c = b.c ∧ a.t = b.t ∧ a.s = b.s)
theorem gfEq_iff {a b : Gf} : gfEq a b = true ↔ a = b := by
  unfold gfEq
  rw [decide_eq_true_iff]
  obtain ⟨_, _, _, _, _⟩ := a
  obtain ⟨_, _, _, _, _⟩ := b
  simp
set_option maxRecDepth 100000 in
set_option maxHeartbeats 4000000 in
theorem run_eqGf (a b : Gf) (w : World) : (Op.equalIn 10000 57 (.agg #[.int .i64 a.d, .int .i64 a.i, .int .i64 a.c, .int .i64 a.t, .string a.s]) (.agg #[.int .i64 b.d, .int .i64 b.i, .int .i64 b.c, .int .i64 b.t, .string b.s])).run Try.prog w = .ok (gfEq a b) w := by
  obtain ⟨a1, a2, a3, a4, a5⟩ := a
  obtain ⟨b1, b2, b3, b4, b5⟩ := b
  dsimp only
  by_cases h : a1 = b1 ∧ a2 = b2 ∧ a3 = b3 ∧ a4 = b4 ∧ a5 = b5
  · have hm : gfEq ⟨a1, a2, a3, a4, a5⟩ ⟨b1, b2, b3, b4, b5⟩ = true := decide_eq_true h
    rw [hm]
    obtain ⟨rfl, rfl, rfl, rfl, rfl⟩ := h
    clear hm
    go_simp
  · have hm : gfEq ⟨a1, a2, a3, a4, a5⟩ ⟨b1, b2, b3, b4, b5⟩ = false := decide_eq_false h
    rw [hm]
    clear hm
    go_simp
    exact fun h1 h2 h3 h4 h5 => h ⟨h1, h2, h3, h4, toList_iff.1 h5⟩

set_option maxRecDepth 100000 in
set_option maxHeartbeats 4000000 in
theorem sameGf_iff (A1 A2 : Option Addr) (c1 c2 : Nat) (l m : List Gf) (w : World) (hl : l.length ≤ 50000) (hm : m.length ≤ 50000) (h1 : gfE.Sl w A1 l) (h2 : gfE.Sl w A2 m) :
    Calls Try.prog 24 #[.slice A1 l.length c1, .slice A2 m.length c2] w fun e w' => ∃ b, e = .returned (.bool b) ∧ (b = true ↔ l = m) ∧ Below w.heap.size w w' := by
  by_cases hlen : l.length = m.length
  · rw [← hlen]
    have HL := Lib.hid hlen
    clear hlen
    go_enter Try.func24, Try.ntmps24
    go_wp2
    go_loopw [5] (fun x wr => ∃ k : Nat, k ≤ l.length ∧ x = .int .i64 k ∧ (∀ j (hj : j < k) (ha : j < l.length) (hb : j < m.length), l[j] = m[j]) ∧ Below w.heap.size w wr) (fun x _ => l.length - (intOf x).toNat)
    case atStart => exact ⟨0, Nat.zero_le _, rfl, fun j hj => by omega, Below.refl _ _⟩
    case round =>
      obtain ⟨k, hk, rfl, hall, hnx⟩ := hrel
      by_cases hlt : k < l.length
      · obtain ⟨b1, o1, hA1, hw1, hc1⟩ := h1 (by omega)
        have hlt2 : k < m.length := by have := HL.out; omega
        obtain ⟨b2, o2, hA2, hw2, hc2⟩ := h2 (by omega)
        have hat : gfE.At wr b1 (o1 + k * 5) l[k] := (hc1 k hlt).below hnx hw1
        have hat2 : gfE.At wr b2 (o2 + k * 5) m[k] := (hc2 k hlt2).below hnx hw2
        obtain ⟨p, hp⟩ : ∃ p, l[k] = p := ⟨_, rfl⟩
        obtain ⟨q, hq⟩ : ∃ q, m[k] = q := ⟨_, rfl⟩
        rw [hp] at hat
        rw [hq] at hat2
        have HP := Lib.hid hp
        have HQ := Lib.hid hq
        have HA := Lib.hid hall
        obtain ⟨s0, s1, s2, s3, s4⟩ := gfAt5 hat
        obtain ⟨t0, t1, t2, t3, t4⟩ := gfAt5 hat2
        clear hc1 hc2 hp hq h1 h2 hall hat hat2
        subst hA1 hA2
        have hrun := fun w => run_eqGf p q w
        have hiff := @gfEq_iff p q
        cases heq : gfEq p q with
        | true =>
          have HE := Lib.hid (hiff.1 heq)
          rw [heq] at hrun
          clear hiff heq
          go_wp2
          go_quiet (fail)
          go_wp2
          go_roundw
          case rel =>
            refine ⟨k + 1, by omega, by go_num, fun j hj ha hb => ?_, below_drew hnx _⟩
            by_cases e : j = k
            · subst e; rw [HP.out, HQ.out]; exact HE.out
            · exact HA.out j (by omega) ha hb
          case measure => simp [intOf]; omega
        | false =>
          have HN := Lib.hid (show ¬ p = q from fun e => by rw [hiff.2 e] at heq; cases heq)
          rw [heq] at hrun
          clear hiff heq
          go_wp2
          go_quiet (fail)
          go_wp2
          go_ret
          refine ⟨false, rfl, ⟨fun h => (by cases h), fun h => ?_⟩, below_drew hnx _⟩
          subst h
          exact absurd (HP.out.symm.trans HQ.out) HN.out
      · obtain rfl : k = l.length := by omega
        have HE := Lib.hid (show l = m from List.ext_getElem HL.out fun j h1 h2 => hall j h1 h1 h2)
        clear hall
        go_wp2
        go_ret
        exact ⟨true, rfl, ⟨fun _ => HE.out, fun _ => rfl⟩, hnx⟩
  · have hd : ((l.length : Int) == (m.length : Int)) = false := by rw [beq_eq_false_iff_ne]; omega
    go_enter Try.func24, Try.ntmps24
    go_wp2
    go_ret
    exact ⟨false, rfl, ⟨fun h => (by cases h), fun h => absurd (by rw [h]) hlen⟩, Below.refl _ _⟩
end Go.Proofs.Ytnglpkfkepfkkaa

/- Queues in memory; what the program's functions shall answer (QueueCalls); the document's New, Allow, Same. -/
namespace Go.Proofs.Ytnglpkfkepfkkaa
open Go.RowKit Nam Cod

structure Qw where
  A : Option Addr
  c : Nat
  x : Qu
def quE : El Qw where
  e := 38
  k := 3
  c y := [.int .i64 y.x.f, .int .i64 y.x.g, .slice y.A y.x.os.length y.c]
  len _ := rfl
  one p u h := by
    simp only [List.mem_cons, List.not_mem_nil, or_false] at h
    rcases h with rfl | rfl | rfl <;> rfl
  pos := by decide
theorem quRow : quE.Row Try.prog := ⟨by kernel_rfl, _, Try.underlying38, rfl⟩
theorem quIn3 {w : World} {b : Nat} {y : Qw} (h : quE.In w b y) : w.cell? ⟨b, 0, none⟩ = some (.int .i64 y.x.f) ∧ w.cell? ⟨b, 1, none⟩ = some (.int .i64 y.x.g) ∧ w.cell? ⟨b, 2, none⟩ = some (.slice y.A y.x.os.length y.c) :=
  ⟨h.cell 0, h.cell 1, h.cell 2⟩
def Qw.ok (y : Qw) (w : World) : Prop := SlV opE w y.A y.c y.x.os
theorem Qw.ok.below {y : Qw} {W w : World} (h : y.ok W) (hb : Below W.heap.size W w) : y.ok w := SlV.below h hb
def zeroQw : Qw := ⟨none, 0, nilQu⟩
def newQw : Qw := ⟨none, 0, newQu⟩
theorem qu_off {w : World} {A : Option Addr} {l : List Mv} {n : Nat} {z : Qw} (h : opE.Sl w A l) (hP : quE.In w n z) : 0 < l.length → ∀ a, A = some a → some a.block ≠ some n := fun h0 a e e2 => by
  obtain ⟨b, off, eb, _, hc⟩ := h h0
  rw [e] at eb
  cases eb
  have e2 := Option.some.inj e2
  dsimp only at e2
  subst e2
  have h1 := hc 0 h0 6 _ rfl
  rw [hP.cell, List.getElem?_eq_none (by rw [quE.len]; show 3 ≤ off + 0 * 7 + 6; omega)] at h1
  cases h1
theorem SlV.keepO {w w' : World} {A : Option Addr} {c : Nat} {l : List Mv} {row : Option Nat} (h : SlV opE w A c l) (hg : w.grownBy w' row) (hne : 0 < l.length → ∀ a, A = some a → some a.block ≠ row) : SlV opE w' A c l :=
  ⟨fun h0 => (h.1.keep hg (hne h0)) h0, h.2⟩
theorem two_quB (w : World) (a b : Array Value) (z : Qw) (hb : b = (quE.c z).toArray) : quE.In ((w.alloc (.cells a 38)).alloc (.cells b 38)) (w.heap.size + 1) z := by
  have := El.In.new (E := quE) (w.alloc (.cells a 38)) z b hb
  rw [alloc_size] at this; exact this
/-- A queue whose numbers stay far from where they wrap. -/
structure QuN (x : Qu) : Prop where
  f : -1000000000000000 ≤ x.f ∧ x.f ≤ 1000000000000000
  g : -1000000000000000 ≤ x.g ∧ x.g ≤ 1000000000000000
  l : x.os.length ≤ 50000
/-- What one holds lies in new memory, or where the other one's lies. -/
def Near (B : Nat) (y z : Qw) : Prop := 0 < z.x.os.length → ∀ a', z.A = some a' → B ≤ a'.block ∨ (0 < y.x.os.length ∧ ∃ a, y.A = some a ∧ a.block = a'.block)
theorem Near.mono {B B' : Nat} {y z : Qw} (h : Near B' y z) (hB : B ≤ B') : Near B y z := fun h0 a' e => by
  rcases h h0 a' e with h1 | h1
  · exact Or.inl (by omega)
  · exact Or.inr h1
theorem opIdxH {A : Option Addr} {b off len cap k : Nat} (hA : A = some ⟨b, off, none⟩) (h : k < len) : ∀ w, (Instr.indexAt 23 (.slice A len cap) (.int .i64 k)).run Try.prog w = .ok (.pointer (some ⟨b, off + k * 7, none⟩)) w := fun w => by
  subst hA
  have h2 : (k : Int) < (len : Int) := by omega
  go_simp

set_option maxRecDepth 100000 in
set_option maxHeartbeats 2000000 in
/-- Same, of equal queues. -/
theorem refSameQu_any (y z : Qw) (w : World) (hx : z.x = y.x) (hy : y.ok w) (hz : z.ok w) (hl : y.x.os.length ≤ 50000) : Calls Try.prog 22 #[.agg #[.int .i64 y.x.f, .int .i64 y.x.g, .slice y.A y.x.os.length y.c], .agg #[.int .i64 z.x.f, .int .i64 z.x.g, .slice z.A z.x.os.length z.c]] w fun e w' => e = .returned (.bool true) ∧ Below w.heap.size w w' := by
  obtain ⟨A, c, x⟩ := y
  obtain ⟨A2, c2, x2⟩ := z
  dsimp only at hx hl ⊢
  subst hx
  have hP : quE.In ((w.alloc (.cells #[.int .i64 (⟨A, c, x2⟩ : Qw).x.f, .int .i64 (⟨A, c, x2⟩ : Qw).x.g, .slice (⟨A, c, x2⟩ : Qw).A (⟨A, c, x2⟩ : Qw).x.os.length (⟨A, c, x2⟩ : Qw).c] 38)).alloc (.cells #[.int .i64 (⟨A2, c2, x2⟩ : Qw).x.f, .int .i64 (⟨A2, c2, x2⟩ : Qw).x.g, .slice (⟨A2, c2, x2⟩ : Qw).A (⟨A2, c2, x2⟩ : Qw).x.os.length (⟨A2, c2, x2⟩ : Qw).c] 38)) w.heap.size ⟨A, c, x2⟩ := (El.In.new (E := quE) w ⟨A, c, x2⟩ _ rfl).alloc _
  have hQ := two_quB w #[.int .i64 (⟨A, c, x2⟩ : Qw).x.f, .int .i64 (⟨A, c, x2⟩ : Qw).x.g, .slice (⟨A, c, x2⟩ : Qw).A (⟨A, c, x2⟩ : Qw).x.os.length (⟨A, c, x2⟩ : Qw).c] #[.int .i64 (⟨A2, c2, x2⟩ : Qw).x.f, .int .i64 (⟨A2, c2, x2⟩ : Qw).x.g, .slice (⟨A2, c2, x2⟩ : Qw).A (⟨A2, c2, x2⟩ : Qw).x.os.length (⟨A2, c2, x2⟩ : Qw).c] ⟨A2, c2, x2⟩ rfl
  have hB := below_alloc (below_alloc (Below.refl w.heap.size w) (.cells #[.int .i64 (⟨A, c, x2⟩ : Qw).x.f, .int .i64 (⟨A, c, x2⟩ : Qw).x.g, .slice (⟨A, c, x2⟩ : Qw).A (⟨A, c, x2⟩ : Qw).x.os.length (⟨A, c, x2⟩ : Qw).c] 38)) (.cells #[.int .i64 (⟨A2, c2, x2⟩ : Qw).x.f, .int .i64 (⟨A2, c2, x2⟩ : Qw).x.g, .slice (⟨A2, c2, x2⟩ : Qw).A (⟨A2, c2, x2⟩ : Qw).x.os.length (⟨A2, c2, x2⟩ : Qw).c] 38)
  have HS := Lib.hid (fun (wx : World) (hb : Below w.heap.size w wx) => (sameOp_any A A2 c c2 x2.os x2.os wx hl hl (hy.1.below hb) (hz.1.below hb)).mono (by
    rintro e w' ⟨bv, rfl, hbv, hb2⟩
    obtain rfl : bv = true := hbv.2 rfl
    exact ⟨rfl, hb2⟩ : ∀ (e : Ending) (w' : World), _ → (e = .returned (.bool true) ∧ Below wx.heap.size wx w')))
  obtain ⟨p0, p1, p2⟩ := quIn3 hP
  obtain ⟨q0, q1, q2⟩ := quIn3 hQ
  dsimp only at p0 p1 p2 q0 q1 q2 hB
  clear hy hz hP hQ
  go_enter Try.func22, Try.ntmps22
  go_wp2_with fail
  refine (HS.out _ hB).mono ?_
  rintro r w1 ⟨rfl, hb1⟩
  go_wp2_with fail
  go_ret
  exact ⟨rfl, hB.trans (hb1.mono hB.size)⟩
end Go.Proofs.Ytnglpkfkepfkkaa

/- Streams in memory; what the program's functions shall answer (StreamCalls); the document's Same, Lowest, Settle. -/
namespace Go.Proofs.Ytnglpkfkepfkkaa
open Go.RowKit Nam Cod

structure Sw where
  A : Option Addr
  c : Nat
  x : Sm
def smE : El Sw where
  e := 36
  k := 4
  c y := [.int .i64 y.x.s, .int .i64 y.x.t, .int .i64 y.x.p, .slice y.A y.x.es.length y.c]
  len _ := rfl
  one p u h := by
    simp only [List.mem_cons, List.not_mem_nil, or_false] at h
    rcases h with rfl | rfl | rfl | rfl <;> rfl
  pos := by decide
theorem smRow : smE.Row Try.prog := ⟨by kernel_rfl, _, Try.underlying36, rfl⟩
theorem smIn4 {w : World} {b : Nat} {y : Sw} (h : smE.In w b y) : w.cell? ⟨b, 0, none⟩ = some (.int .i64 y.x.s) ∧ w.cell? ⟨b, 1, none⟩ = some (.int .i64 y.x.t) ∧ w.cell? ⟨b, 2, none⟩ = some (.int .i64 y.x.p) ∧ w.cell? ⟨b, 3, none⟩ = some (.slice y.A y.x.es.length y.c) :=
  ⟨h.cell 0, h.cell 1, h.cell 2, h.cell 3⟩
def Sw.ok (y : Sw) (w : World) : Prop := SlV enE w y.A y.c y.x.es
theorem Sw.ok.below {y : Sw} {W w : World} (h : y.ok W) (hb : Below W.heap.size W w) : y.ok w := SlV.below h hb
def zeroSw : Sw := ⟨none, 0, zeroSm⟩
/-- A stream whose numbers stay far from where they wrap. -/
structure SmN (x : Sm) : Prop where
  s : -1000000000000000 ≤ x.s ∧ x.s ≤ 1000000000000000
  t : -1000000000000000 ≤ x.t ∧ x.t ≤ 1000000000000000
  p : -1000000000000000 ≤ x.p ∧ x.p ≤ 1000000000000000
  l : x.es.length ≤ 50000
theorem SmK.n {k : Nat} {x : Sm} (h : SmK k x) (hk : k ≤ 1000) : SmN x := by
  have h1 := h.s0
  have h2 := h.t0
  have h3 := h.sp
  have h4 := h.pk
  have h5 := h.tk
  have h6 := h.lk
  exact ⟨by omega, by omega, by omega, by omega⟩
theorem enIdxH {A : Option Addr} {b off len cap k : Nat} (hA : A = some ⟨b, off, none⟩) (h : k < len) : ∀ w, (Instr.indexAt 25 (.slice A len cap) (.int .i64 k)).run Try.prog w = .ok (.pointer (some ⟨b, off + k * 10, none⟩)) w := fun w => by
  subst hA
  have h2 : (k : Int) < (len : Int) := by omega
  go_simp
theorem enAtH {w : World} {b o : Nat} {x : En} (h : enE.At w b o x) : w.cell? ⟨b, o, none⟩ = some (.int .i64 x.k) ∧ w.cell? ⟨b, o + 1, none⟩ = some (.int .i64 x.d) ∧ w.cell? ⟨b, o + 2, none⟩ = some (.int .i64 x.i) ∧ w.cell? ⟨b, o + 3, none⟩ = some (.int .i64 x.o.C) ∧ w.cell? ⟨b, o + 4, none⟩ = some (.int .i64 x.o.D) ∧ w.cell? ⟨b, o + 5, none⟩ = some (.int .i64 x.o.I) ∧ w.cell? ⟨b, o + 6, none⟩ = some (.int .i64 x.o.M) ∧ w.cell? ⟨b, o + 7, none⟩ = some (.int .i64 x.o.K) ∧ w.cell? ⟨b, o + 8, none⟩ = some (.int .i64 x.o.U) ∧ w.cell? ⟨b, o + 9, none⟩ = some (.string x.o.s) :=
  ⟨h 0 _ rfl, h 1 _ rfl, h 2 _ rfl, h 3 _ rfl, h 4 _ rfl, h 5 _ rfl, h 6 _ rfl, h 7 _ rfl, h 8 _ rfl, h 9 _ rfl⟩

set_option maxRecDepth 100000 in
set_option maxHeartbeats 2000000 in
/-- Same, of equal lists of entries. -/
theorem refSameEn_any (A B : Option Addr) (cA cB : Nat) (l : List En) (w : World) (hA : enE.Sl w A l) (hB : enE.Sl w B l) (hl : l.length ≤ 100000) : Calls Try.prog 44 #[.slice A l.length cA, .slice B l.length cB] w fun e w' => e = .returned (.bool true) ∧ Below w.heap.size w w' := by
  go_enter Try.func44, Try.ntmps44
  go_wp2_with fail
  go_loopw [5] (fun y wr => ∃ k : Nat, k ≤ l.length ∧ y = .int .i64 k ∧ Below w.heap.size w wr) (fun y _ => l.length - (intOf y).toNat)
  case atStart => exact ⟨0, Nat.zero_le _, rfl, Below.refl _ _⟩
  case round =>
    obtain ⟨k, hk, rfl, hN⟩ := hrel
    by_cases hkl : k < l.length
    · obtain ⟨b, off, eA, hbw, hc⟩ := hA (by omega)
      obtain ⟨b', off', eB, hbw', hc'⟩ := hB (by omega)
      have hx := enIdxH (cap := cA) eA hkl
      have hy := enIdxH (cap := cB) eB hkl
      have hat : enE.At wr b (off + k * 10) l[k] := (hc k hkl).below hN hbw
      have hat' : enE.At wr b' (off' + k * 10) l[k] := (hc' k hkl).below hN hbw'
      obtain ⟨s0, s1, s2, s3, s4, s5, s6, s7, s8, s9⟩ := enAtH hat
      obtain ⟨t0, t1, t2, t3, t4, t5, t6, t7, t8, t9⟩ := enAtH hat'
      generalize l[k] = x at *
      clear hc hc' hat hat' eA eB
      go_wp2_with fail
      go_quiet (fail)
      go_wp2_with fail
      exact ⟨⟨k + 1, by omega, by go_num, below_drew hN nq⟩, by simp [intOf]; omega⟩
    · obtain rfl : k = l.length := by omega
      go_wp2_with fail
      go_ret
      exact ⟨rfl, hN⟩

set_option maxRecDepth 100000 in
set_option maxHeartbeats 2000000 in
/-- Same, of equal streams. -/
theorem refSameSm_any (y z : Sw) (w : World) (hx : z.x = y.x) (hy : y.ok w) (hz : z.ok w) (hl : y.x.es.length ≤ 100000) : Calls Try.prog 21 #[.agg #[.int .i64 y.x.s, .int .i64 y.x.t, .int .i64 y.x.p, .slice y.A y.x.es.length y.c], .agg #[.int .i64 z.x.s, .int .i64 z.x.t, .int .i64 z.x.p, .slice z.A z.x.es.length z.c]] w fun e w' => e = .returned (.bool true) ∧ Below w.heap.size w w' := by
  obtain ⟨A, c, x⟩ := y
  obtain ⟨A2, c2, x2⟩ := z
  dsimp only at hx hl ⊢
  subst hx
  have hP : smE.In ((w.alloc (.cells #[.int .i64 (⟨A, c, x2⟩ : Sw).x.s, .int .i64 (⟨A, c, x2⟩ : Sw).x.t, .int .i64 (⟨A, c, x2⟩ : Sw).x.p, .slice (⟨A, c, x2⟩ : Sw).A (⟨A, c, x2⟩ : Sw).x.es.length (⟨A, c, x2⟩ : Sw).c] 36)).alloc (.cells #[.int .i64 (⟨A2, c2, x2⟩ : Sw).x.s, .int .i64 (⟨A2, c2, x2⟩ : Sw).x.t, .int .i64 (⟨A2, c2, x2⟩ : Sw).x.p, .slice (⟨A2, c2, x2⟩ : Sw).A (⟨A2, c2, x2⟩ : Sw).x.es.length (⟨A2, c2, x2⟩ : Sw).c] 36)) w.heap.size ⟨A, c, x2⟩ := (El.In.new (E := smE) w ⟨A, c, x2⟩ _ rfl).alloc _
  have hQ : smE.In ((w.alloc (.cells #[.int .i64 (⟨A, c, x2⟩ : Sw).x.s, .int .i64 (⟨A, c, x2⟩ : Sw).x.t, .int .i64 (⟨A, c, x2⟩ : Sw).x.p, .slice (⟨A, c, x2⟩ : Sw).A (⟨A, c, x2⟩ : Sw).x.es.length (⟨A, c, x2⟩ : Sw).c] 36)).alloc (.cells #[.int .i64 (⟨A2, c2, x2⟩ : Sw).x.s, .int .i64 (⟨A2, c2, x2⟩ : Sw).x.t, .int .i64 (⟨A2, c2, x2⟩ : Sw).x.p, .slice (⟨A2, c2, x2⟩ : Sw).A (⟨A2, c2, x2⟩ : Sw).x.es.length (⟨A2, c2, x2⟩ : Sw).c] 36)) (w.alloc (.cells #[.int .i64 (⟨A, c, x2⟩ : Sw).x.s, .int .i64 (⟨A, c, x2⟩ : Sw).x.t, .int .i64 (⟨A, c, x2⟩ : Sw).x.p, .slice (⟨A, c, x2⟩ : Sw).A (⟨A, c, x2⟩ : Sw).x.es.length (⟨A, c, x2⟩ : Sw).c] 36)).heap.size ⟨A2, c2, x2⟩ := El.In.new (E := smE) (w.alloc (.cells #[.int .i64 (⟨A, c, x2⟩ : Sw).x.s, .int .i64 (⟨A, c, x2⟩ : Sw).x.t, .int .i64 (⟨A, c, x2⟩ : Sw).x.p, .slice (⟨A, c, x2⟩ : Sw).A (⟨A, c, x2⟩ : Sw).x.es.length (⟨A, c, x2⟩ : Sw).c] 36)) ⟨A2, c2, x2⟩ _ rfl
  rw [alloc_size] at hQ
  have hB := below_alloc (below_alloc (Below.refl w.heap.size w) (.cells #[.int .i64 (⟨A, c, x2⟩ : Sw).x.s, .int .i64 (⟨A, c, x2⟩ : Sw).x.t, .int .i64 (⟨A, c, x2⟩ : Sw).x.p, .slice (⟨A, c, x2⟩ : Sw).A (⟨A, c, x2⟩ : Sw).x.es.length (⟨A, c, x2⟩ : Sw).c] 36)) (.cells #[.int .i64 (⟨A2, c2, x2⟩ : Sw).x.s, .int .i64 (⟨A2, c2, x2⟩ : Sw).x.t, .int .i64 (⟨A2, c2, x2⟩ : Sw).x.p, .slice (⟨A2, c2, x2⟩ : Sw).A (⟨A2, c2, x2⟩ : Sw).x.es.length (⟨A2, c2, x2⟩ : Sw).c] 36)
  have HS := Lib.hid (fun (wx : World) (hb : Below w.heap.size w wx) => refSameEn_any A A2 c c2 x2.es wx (hy.1.below hb) (hz.1.below hb) hl)
  obtain ⟨p0, p1, p2, p3⟩ := smIn4 hP
  obtain ⟨q0, q1, q2, q3⟩ := smIn4 hQ
  dsimp only at p0 p1 p2 p3 q0 q1 q2 q3 hB
  clear hy hz hP hQ
  go_enter Try.func21, Try.ntmps21
  go_wp2_with fail
  refine (HS.out _ hB).mono ?_
  rintro r w1 ⟨rfl, hb1⟩
  go_wp2_with fail
  go_ret
  exact ⟨rfl, hB.trans (hb1.mono hB.size)⟩

end Go.Proofs.Ytnglpkfkepfkkaa

/- What follows of a plan that may be: kinds, kids, one device more. No call in it. -/
namespace Pln

theorem Right.neg {p : Pn} (h : Right p) : p.u.getD 0 0 < 0 := by rw [h.up0]; decide
theorem kind_root {u : List Int} (h : 0 < u.length) : kindL u 0 = 1 := by
  unfold kindL; rw [if_neg (by omega), if_pos rfl]
theorem kind_of {u : List Int} {i : Nat} (h0 : 0 < i) (h : i < u.length) : kindL u i = if (kidsN u i).length = 0 then 3 else 2 := by
  unfold kindL; rw [if_neg (by omega), if_neg (by omega)]
/-- One node more below the root. -/
theorem more_get (u : List Int) (i : Nat) : (u ++ [0]).getD i 0 = u.getD i 0 := by
  rcases Nat.lt_trichotomy i u.length with h | h | h
  · simp [List.getElem?_append_left h]
  · subst h; simp
  · simp [List.getElem?_eq_none (show u.length ≤ i by omega), List.getElem?_eq_none (show (u ++ [0]).length ≤ i by rw [List.length_append, List.length_singleton]; omega)]
theorem more_len (u : List Int) : (u ++ [0]).length = u.length + 1 := by rw [List.length_append, List.length_singleton]
theorem more_par {u : List Int} (hp : Par u) (h : 0 < u.length) : Par (u ++ [0]) := fun i h0 hi => by
  rw [more_get]
  rw [more_len] at hi
  by_cases e : i < u.length
  · exact hp i h0 e
  · have : u.getD i 0 = 0 := by simp [List.getElem?_eq_none (show u.length ≤ i by omega)]
    rw [this]; omega
theorem more_kids {u : List Int} (h : 0 < u.length) (n : Int) : kidsN (u ++ [0]) n = kidsN u n ++ (if n = 0 then [u.length] else []) := by
  unfold kidsN
  rw [more_len, List.range_succ, List.filter_append]
  simp only [more_get]
  congr 1
  have hd : u.getD u.length 0 = 0 := by simp
  by_cases e : n = 0
  · subst e
    rw [if_pos rfl, List.filter_cons, hd]
    simp [h]
  · rw [if_neg e, List.filter_cons, hd]
    have : ¬ (0 : Int) = n := fun h => e h.symm
    simp [this]
theorem more_kids_no {u : List Int} (h : 0 < u.length) {n : Int} (hn : n ≠ 0) : kidsN (u ++ [0]) n = kidsN u n := by rw [more_kids h, if_neg hn, List.append_nil]
theorem more_kids_root {u : List Int} (h : 0 < u.length) : kidsN (u ++ [0]) 0 = kidsN u 0 ++ [u.length] := by rw [more_kids h, if_pos rfl]
theorem more_deep {u : List Int} (hp : Par u) {i : Nat} (h : i < u.length) : deepL (u ++ [0]) i = deepL u i := by
  have hp2 := more_par hp (by omega)
  unfold deepL
  rw [deepF_at hp2 (u.length + 1) _ i (by omega) (by rw [more_len]; omega), deepF_at hp u.length _ i (by omega) (by omega)]
  have : ∀ (f : Nat) (j : Nat), j < u.length → deepF (u ++ [0]) f j = deepF u f j := fun f => by
    induction f with
    | zero => intro j _; rfl
    | succ f ih =>
      intro j hj
      unfold deepF
      have et : ((j : Nat) : Int).toNat = j := by omega
      rw [et, more_get, more_len]
      by_cases h0 : 0 < j
      · obtain ⟨h1, h2⟩ := hp j h0 hj
        rw [if_pos ⟨by omega, by omega, by omega⟩, if_pos ⟨by omega, by omega, by omega⟩]
        obtain ⟨k, hk⟩ : ∃ k : Nat, u.getD j 0 = k := ⟨(u.getD j 0).toNat, by omega⟩
        rw [hk, ih k (by omega)]
      · rw [if_neg (by omega), if_neg (by omega)]
  exact this i i h
theorem more_deep_new {u : List Int} (hp : Par u) (h : 0 < u.length) : deepL (u ++ [0]) u.length = 1 := by
  have hp2 := more_par hp h
  have hd : u.getD u.length 0 = 0 := by simp
  have h1 := deep_kid hp2 (i := 0) (j := u.length) h (by rw [more_len]; omega) (by rw [more_get, hd]; rfl)
  rw [h1]
  have h2 : deepL (u ++ [0]) ((0 : Nat) : Int) = 0 := deep_zero _
  rw [h2]
theorem more_deepest {u : List Int} (hp : Par u) (h : 2 ≤ u.length) : deepest (u ++ [0]) = deepest u := by
  have h1 : 1 ≤ deepest u := by
    have h2 := deep_le (u := u) (i := 1) (by omega)
    have h3 := hp 1 (by omega) (by omega)
    have h4 := deep_kid hp (i := 0) (j := 1) (by omega) (by omega) (by omega)
    omega
  apply Nat.le_antisymm
  · refine deepest_le fun i hi => ?_
    rw [more_len] at hi
    by_cases e : i < u.length
    · rw [more_deep hp e]; exact deep_le e
    · obtain rfl : i = u.length := by omega
      rw [more_deep_new hp (by omega)]; exact h1
  · refine deepest_le fun i hi => ?_
    rw [← more_deep hp hi]; exact deep_le (by rw [more_len]; omega)
theorem more_kind {u : List Int} (h2 : 0 < u.length) {i : Nat} (h : i < u.length) : kindL (u ++ [0]) i = kindL u i := by
  by_cases h0 : i = 0
  · subst h0
    have h3 : kindL u ((0 : Nat) : Int) = 1 := kind_root (by omega)
    have h4 : kindL (u ++ [0]) ((0 : Nat) : Int) = 1 := kind_root (by rw [more_len]; omega)
    rw [h3, h4]
  · rw [kind_of (by omega) h, kind_of (by omega) (by rw [more_len]; omega), more_kids_no h2 (by omega)]
theorem more_kind_new {u : List Int} (hp : Par u) (h : 0 < u.length) : kindL (u ++ [0]) u.length = 3 := by
  rw [kind_of h (by rw [more_len]; omega), more_kids_no h (by omega)]
  rcases e : kidsN u (u.length : Int) with _ | ⟨j, l⟩
  · rfl
  · have hj : j ∈ kidsN u (u.length : Int) := by rw [e]; simp
    obtain ⟨h1, h3, h4⟩ := mem_kids.1 hj
    have := (hp j h1 h3).2
    omega
theorem more_devs {u : List Int} (hp : Par u) (h : 0 < u.length) : devsN (u ++ [0]) = devsN u ++ [u.length] := by
  unfold devsN
  rw [more_len, List.range_succ, List.filter_append]
  congr 1
  · exact List.filter_congr fun i hi => by rw [more_kind h (List.mem_range.1 hi)]
  · rw [List.filter_cons, more_kind_new hp h]; rfl
theorem Right.more {p : Pn} (h : Right p) : Right { p with u := p.u ++ [0] } ↔ p.u.length + 1 ≤ 12 ∧ (kidsN p.u 0).length < 4 ∧ (devsN p.u).length < 8 := by
  have h2 := h.n2
  constructor
  · intro g
    have g1 := g.n12
    have g2 := g.kids 0 (by show 0 < (p.u ++ [0]).length; rw [more_len]; omega)
    have g3 := g.devs
    simp only at g1 g2 g3
    rw [more_len] at g1
    rw [more_devs h.par (by omega), List.length_append, List.length_singleton] at g3
    have e0 : (((0 : Nat) : Int)) = 0 := rfl
    rw [e0, more_kids_root (by omega), List.length_append, List.length_singleton] at g2
    exact ⟨g1, by omega, by omega⟩
  · rintro ⟨g1, g2, g3⟩
    exact {
      n2 := by show 2 ≤ (p.u ++ [0]).length; rw [more_len]; omega
      n12 := by show (p.u ++ [0]).length ≤ 12; rw [more_len]; omega
      up0 := by show (p.u ++ [0]).getD 0 0 = -1; rw [more_get]; exact h.up0
      par := more_par h.par (by omega)
      deep := fun i hi => by
        have hi : i < (p.u ++ [0]).length := hi
        rw [more_len] at hi
        show deepL (p.u ++ [0]) i ≤ 4
        by_cases e : i < p.u.length
        · rw [more_deep h.par e]; exact h.deep i e
        · obtain rfl : i = p.u.length := by omega
          rw [more_deep_new h.par (by omega)]; decide
      kids := fun i hi => by
        have hi : i < (p.u ++ [0]).length := hi
        rw [more_len] at hi
        show (kidsN (p.u ++ [0]) i).length ≤ 4
        by_cases e : i = 0
        · subst e
          have e0 : (((0 : Nat) : Int)) = 0 := rfl
          rw [e0, more_kids_root (by omega), List.length_append, List.length_singleton]; omega
        · rw [more_kids_no (by omega) (by omega)]
          by_cases e2 : i < p.u.length
          · exact h.kids i e2
          · obtain rfl : i = p.u.length := by omega
            have h5 := more_kind_new h.par (show 0 < p.u.length by omega)
            rw [kind_of (by omega) (by rw [more_len]; omega), more_kids_no (by omega) (by omega)] at h5
            by_cases e3 : (kidsN p.u p.u.length).length = 0
            · omega
            · rw [if_neg e3] at h5; exact absurd h5 (by decide)
      devs := by
        show (devsN (p.u ++ [0])).length ≤ 8
        rw [more_devs h.par (by omega), List.length_append, List.length_singleton]; omega
      q := h.q
      r := h.r
      b := h.b
      w := h.w
      c := h.c
      k := h.k
      i := h.i
      l := by
        show 2 * (deepest (p.u ++ [0]) : Int) * (p.w + 2) < p.l ∧ p.l ≤ 1000
        rw [more_deepest h.par h2]; exact h.l }
end Pln

/- Plans as values; what the program's functions shall answer of plans that may be (PlanCalls: proved for the real program in a text of its own); the laws' awake. -/
namespace Go.Proofs.Ytnglpkfkepfkkaa
open Go.RowKit Pln

/-- A plan, and where its slice lies. -/
structure Pnw where
  A : Option Addr
  c : Nat
  p : Pn
def inE : El Int where
  e := 3
  k := 1
  c x := [.int .i64 x]
  len _ := rfl
  one p u h := by
    simp only [List.mem_cons, List.not_mem_nil, or_false] at h
    subst h; rfl
  pos := by decide
def pnE : El Pnw where
  e := 33
  k := 9
  c x := [.slice x.A x.p.u.length x.c, .int .i64 x.p.q, .int .i64 x.p.r, .int .i64 x.p.b, .int .i64 x.p.l, .int .i64 x.p.w, .int .i64 x.p.c, .int .i64 x.p.k, .int .i64 x.p.i]
  len _ := rfl
  one p u h := by
    simp only [List.mem_cons, List.not_mem_nil, or_false] at h
    rcases h with rfl | rfl | rfl | rfl | rfl | rfl | rfl | rfl | rfl <;> rfl
  pos := by decide
theorem pnRow : pnE.Row Try.prog := ⟨by kernel_rfl, _, Try.underlying33, rfl⟩
def Pnw.zero : Pnw := ⟨none, 0, ⟨[], 0, 0, 0, 0, 0, 0, 0, 0⟩⟩
theorem pnIn9 {w : World} {b : Nat} {x : Pnw} (h : pnE.In w b x) : w.cell? ⟨b, 0, none⟩ = some (.slice x.A x.p.u.length x.c) ∧ w.cell? ⟨b, 1, none⟩ = some (.int .i64 x.p.q) ∧ w.cell? ⟨b, 2, none⟩ = some (.int .i64 x.p.r) ∧ w.cell? ⟨b, 3, none⟩ = some (.int .i64 x.p.b) ∧ w.cell? ⟨b, 4, none⟩ = some (.int .i64 x.p.l) ∧ w.cell? ⟨b, 5, none⟩ = some (.int .i64 x.p.w) ∧ w.cell? ⟨b, 6, none⟩ = some (.int .i64 x.p.c) ∧ w.cell? ⟨b, 7, none⟩ = some (.int .i64 x.p.k) ∧ w.cell? ⟨b, 8, none⟩ = some (.int .i64 x.p.i) :=
  ⟨h.cell 0, h.cell 1, h.cell 2, h.cell 3, h.cell 4, h.cell 5, h.cell 6, h.cell 7, h.cell 8⟩
/-- Numbers of nodes as values. -/
def ints (l : List Nat) : List Int := l.map fun (i : Nat) => (i : Int)
theorem ints_len (l : List Nat) : (ints l).length = l.length := by unfold ints; rw [List.length_map]
def P0 : Pn := ⟨[-1, 0, 1, 1, 0], 2, 3, 2, 20, 2, 32, 4, 16⟩
def x0 (n : Nat) : Pnw := ⟨some ⟨n, 0, none⟩, 5, P0⟩
end Go.Proofs.Ytnglpkfkepfkkaa
