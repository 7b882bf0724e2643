/- Texts laid one behind the other: Mm, Va, Vb, Vc, Vd, Ve, Vf, Vg, Pm, Gr, Vh, Ck, Tn, Oc, Of, Og, Frm, Ar, Oo, Oi, Um, Vm. -/
import Derived.Test.YtfpgfclmmdihjaaGreatB02
import Derived.Lib.SliceRun
import Derived.Deep.RegionHeld3
import Derived.BigQuiet
import Derived.Deep.QuietTactic
import Derived.Lib.SmallJoins
import Derived.Test.YtfpgfclmmdihjaaGreatRows
import Derived.WalkKit
import Derived.ProofKit
import Derived.OpenShut
import Derived.ChangeSame
import Derived.Carry
import Derived.Lib.QuietBelow
import Derived.Deep.SlicePairs
import Derived.ChangeSlices
import Derived.ChangeShapes
/- Trees as sorted lists: what put, drop and a move make of them. No program in it. -/
namespace Tre

theorem sorted_pw {l : List Pl} : Sorted l ↔ l.Pairwise (fun p q => p.n < q.n) := by
  rw [List.pairwise_iff_getElem]
  exact ⟨fun h i j hi hj hij => h i j hi hj hij, fun h i j hi hj hij => h i j hi hj hij⟩
theorem get_iff {l : List Pl} (hs : Sorted l) {b : Int} {p : Pl} : get l b = some p ↔ p ∈ l ∧ p.n = b := by
  constructor
  · intro h
    obtain ⟨h1, h2, _⟩ := get_some h
    exact ⟨h1, h2⟩
  · rintro ⟨h, rfl⟩
    obtain ⟨i, hi, rfl⟩ := List.getElem_of_mem h
    exact get_self hs i hi
theorem sorted_one {l : List Pl} (hs : Sorted l) {p q : Pl} (hp : p ∈ l) (hq : q ∈ l) (h : p.n = q.n) : p = q := by
  have h1 := (get_iff hs).2 ⟨hp, h⟩
  have h2 := (get_iff hs).2 ⟨hq, rfl⟩
  rw [h1] at h2
  exact Option.some.inj h2
theorem sorted_ext : ∀ {l m : List Pl}, Sorted l → Sorted m → (∀ q, q ∈ l ↔ q ∈ m) → l = m
  | [], [], _, _, _ => rfl
  | [], q :: m, _, _, h => absurd ((h q).2 (by simp)) (by simp)
  | p :: l, [], _, _, h => absurd ((h p).1 (by simp)) (by simp)
  | p :: l, q :: m, hl, hm, h => by
    have hl' := List.pairwise_cons.1 (sorted_pw.1 hl)
    have hm' := List.pairwise_cons.1 (sorted_pw.1 hm)
    have e : p = q := by
      rcases List.mem_cons.1 ((h p).1 (by simp)) with e | e
      · exact e
      · rcases List.mem_cons.1 ((h q).2 (by simp)) with e2 | e2
        · exact e2.symm
        · have a := hm'.1 p e
          have b := hl'.1 q e2
          omega
    subst e
    congr 1
    refine sorted_ext (sorted_pw.2 hl'.2) (sorted_pw.2 hm'.2) fun r => ⟨fun hr => ?_, fun hr => ?_⟩
    · rcases List.mem_cons.1 ((h r).1 (by simp [hr])) with e | e
      · subst e; have := hl'.1 r hr; omega
      · exact e
    · rcases List.mem_cons.1 ((h r).2 (by simp [hr])) with e | e
      · subst e; have := hm'.1 r hr; omega
      · exact e
theorem sorted_ext_get {l m : List Pl} (hl : Sorted l) (hm : Sorted m) (h : ∀ b, get l b = get m b) : l = m :=
  sorted_ext hl hm fun q => by
    constructor
    · intro hq
      exact ((get_iff hm).1 ((h q.n).symm.trans ((get_iff hl).2 ⟨hq, rfl⟩))).1
    · intro hq
      exact ((get_iff hl).1 ((h q.n).trans ((get_iff hm).2 ⟨hq, rfl⟩))).1

theorem take_before (l : List Pl) (b : Int) : ∀ q ∈ l.take (idx l b), q.n < b := fun q hq => by
  obtain ⟨i, hi, rfl⟩ := List.getElem_of_mem hq
  rw [List.length_take] at hi
  rw [List.getElem_take]
  exact idx_before l b i (by omega) (by omega)
theorem drop_behind {l : List Pl} (hs : Sorted l) (b : Int) : ∀ q ∈ l.drop (behind l b), b < q.n := fun q hq => by
  obtain ⟨i, hi, rfl⟩ := List.getElem_of_mem hq
  rw [List.length_drop] at hi
  rw [List.getElem_drop]
  have hto : behind l b = if (get l b).isSome then idx l b + 1 else idx l b := rfl
  generalize behind l b = tz at *
  rcases hg : get l b with _ | p
  · rw [hg] at hto
    obtain rfl : tz = idx l b := by simpa using hto
    have hl : idx l b < l.length := by omega
    have h1 := idx_at l b hl
    have h2 : ¬ l[idx l b].n = b := fun e => by rw [get_of hl e] at hg; cases hg
    by_cases e : i = 0
    · subst e; simp only [Nat.add_zero]; omega
    · have := hs (idx l b) (idx l b + i) hl (by omega) (by omega)
      omega
  · obtain ⟨_, hn, hl, he⟩ := get_some hg
    rw [hg] at hto
    obtain rfl : tz = idx l b + 1 := by simpa using hto
    have := hs (idx l b) (idx l b + 1 + i) hl (by omega) (by omega)
    rw [he] at this
    omega
theorem mem_sides {l : List Pl} (hs : Sorted l) (b : Int) (q : Pl) : (q ∈ l.take (idx l b) ∨ q ∈ l.drop (behind l b)) ↔ (q ∈ l ∧ q.n ≠ b) := by
  constructor
  · rintro (h | h)
    · have := take_before l b q h
      exact ⟨List.mem_of_mem_take h, by omega⟩
    · have := drop_behind hs b q h
      exact ⟨List.mem_of_mem_drop h, by omega⟩
  · rintro ⟨h, hn⟩
    obtain ⟨i, hi, rfl⟩ := List.getElem_of_mem h
    by_cases h1 : i < idx l b
    · exact Or.inl (List.mem_take_iff_getElem.2 ⟨i, by omega, rfl⟩)
    · right
      have hb : behind l b ≤ i := by
        unfold behind
        rcases hg : get l b with _ | p
        · simp; omega
        · obtain ⟨_, hp, hl, he⟩ := get_some hg
          simp
          by_cases e : i = idx l b
          · subst e; rw [he] at hn; exact absurd hp hn
          · omega
      exact List.mem_drop_iff_getElem.2 ⟨i - behind l b, by omega, by congr 1; omega⟩
theorem sorted_placed {l : List Pl} (hs : Sorted l) (b : Int) (m : List Pl) (hm : ∀ q ∈ m, q.n = b) (h1 : m.length ≤ 1) : Sorted (placedL l b m) := by
  have hp := sorted_pw.1 hs
  refine sorted_pw.2 ?_
  unfold placedL
  have hmp : m.Pairwise (fun p q => p.n < q.n) := by
    match m, h1 with
    | [], _ => exact List.Pairwise.nil
    | [q], _ => exact List.pairwise_singleton _ _
  rw [List.pairwise_append, List.pairwise_append]
  refine ⟨⟨hp.sublist (List.take_sublist _ _), hmp, fun p hp q hq => ?_⟩, hp.sublist (List.drop_sublist _ _), fun p hp q hq => ?_⟩
  · have := take_before l b p hp
    have := hm q hq
    omega
  · have h2 := drop_behind hs b q hq
    rcases List.mem_append.1 hp with h | h
    · have := take_before l b p h; omega
    · have := hm p h; omega
theorem sorted_put {l : List Pl} (hs : Sorted l) (p : Pl) : Sorted (putL l p) := sorted_placed hs p.n [p] (fun q hq => by rw [List.mem_singleton] at hq; rw [hq]) (Nat.le_refl _)
theorem sorted_drop {l : List Pl} (hs : Sorted l) (b : Int) : Sorted (dropL l b) := sorted_placed hs b [] (fun q hq => by cases hq) (Nat.zero_le _)
theorem mem_put {l : List Pl} (hs : Sorted l) (p q : Pl) : q ∈ putL l p ↔ (q = p ∨ (q ∈ l ∧ q.n ≠ p.n)) := by
  unfold putL placedL
  rw [List.mem_append, List.mem_append, List.mem_singleton, ← mem_sides hs p.n q]
  constructor
  · rintro ((h | h) | h)
    · exact Or.inr (Or.inl h)
    · exact Or.inl h
    · exact Or.inr (Or.inr h)
  · rintro (h | h | h)
    · exact Or.inl (Or.inr h)
    · exact Or.inl (Or.inl h)
    · exact Or.inr h
theorem mem_drop {l : List Pl} (hs : Sorted l) (b : Int) (q : Pl) : q ∈ dropL l b ↔ (q ∈ l ∧ q.n ≠ b) := by
  unfold dropL placedL
  rw [List.append_nil, List.mem_append, mem_sides hs b q]
theorem get_put {l : List Pl} (hs : Sorted l) (p : Pl) (b : Int) : get (putL l p) b = if b = p.n then some p else get l b := by
  have hp := sorted_put hs p
  by_cases e : b = p.n
  · rw [if_pos e]
    exact (get_iff hp).2 ⟨(mem_put hs p p).2 (Or.inl rfl), e.symm⟩
  · rw [if_neg e]
    rcases h : get l b with _ | q
    · rcases h2 : get (putL l p) b with _ | r
      · rfl
      · obtain ⟨hm, hn⟩ := (get_iff hp).1 h2
        rcases (mem_put hs p r).1 hm with e2 | ⟨h3, _⟩
        · subst e2; exact absurd hn.symm e
        · rw [(get_iff hs).2 ⟨h3, hn⟩] at h; cases h
    · obtain ⟨hm, hn⟩ := (get_iff hs).1 h
      exact (get_iff hp).2 ⟨(mem_put hs p q).2 (Or.inr ⟨hm, by omega⟩), hn⟩
theorem get_drop {l : List Pl} (hs : Sorted l) (a b : Int) : get (dropL l a) b = if b = a then none else get l b := by
  have hp := sorted_drop hs a
  rcases h2 : get (dropL l a) b with _ | r
  · by_cases e : b = a
    · rw [if_pos e]
    · rw [if_neg e]
      rcases h : get l b with _ | q
      · rfl
      · obtain ⟨hm, hn⟩ := (get_iff hs).1 h
        rw [(get_iff hp).2 ⟨(mem_drop hs a q).2 ⟨hm, by omega⟩, hn⟩] at h2; cases h2
  · obtain ⟨hm, hn⟩ := (get_iff hp).1 h2
    obtain ⟨h3, h4⟩ := (mem_drop hs a r).1 hm
    rw [if_neg (by omega), (get_iff hs).2 ⟨h3, hn⟩]
theorem put_back {l : List Pl} (hs : Sorted l) {p q : Pl} (hq : get l p.n = some q) : putL (putL l p) q = l := by
  obtain ⟨_, hn⟩ := (get_iff hs).1 hq
  refine sorted_ext_get (sorted_put (sorted_put hs p) q) hs fun b => ?_
  rw [get_put (sorted_put hs p), get_put hs]
  by_cases e : b = q.n
  · rw [if_pos e, e, hn, hq]
  · rw [if_neg e, if_neg (by omega)]
theorem drop_put {l : List Pl} (hs : Sorted l) {p : Pl} (hq : get l p.n = none) : dropL (putL l p) p.n = l := by
  refine sorted_ext_get (sorted_drop (sorted_put hs p) _) hs fun b => ?_
  rw [get_drop (sorted_put hs p), get_put hs]
  by_cases e : b = p.n
  · rw [if_pos e, e, hq]
  · rw [if_neg e, if_neg e]

/-- No way leads from a node to itself. -/
def Acyc (l : List Pl) : Prop := ∀ k b, 0 < k → ¬ up l k b = some b
theorem acyc_of {l : List Pl} (hr : NoRing l) : Acyc l := fun k b hk h => by
  have h1 := up_loop h (l.length + 1)
  have h2 := up_bound hr h1
  have : l.length + 1 ≤ k * (l.length + 1) := Nat.le_mul_of_pos_left _ hk
  omega
theorem noRing_of {l : List Pl} (hs : Sorted l) (ha : Acyc l) : NoRing l := fun p hp => by
  rcases h : above l p.n p.u with _ | _
  · rfl
  · unfold above at h
    obtain ⟨k, _, hk⟩ := (abv_iff l p.n _ p.u).1 h
    refine absurd ?_ (ha (k + 1) p.n (Nat.succ_pos k))
    rw [up, (get_iff hs).2 ⟨hp, rfl⟩]
    exact hk
theorem least {P : Nat → Prop} : ∀ j, P j → ∃ j, P j ∧ ∀ i, i < j → ¬ P i := by
  intro j
  induction j using Nat.strongRecOn with
  | ind j ih =>
    intro hj
    by_cases h : ∃ i, i < j ∧ P i
    · obtain ⟨i, hi, hp⟩ := h
      exact ih i hi hp
    · exact ⟨j, hj, fun i hi hp => h ⟨i, hi, hp⟩⟩
/-- A way that doesn't come by K is one of the other tree, too. -/
theorem up_avoid {l m : List Pl} {K : Int} (hg : ∀ b, ¬ b = K → get m b = get l b) : ∀ (j : Nat) (c : Int), (∀ i, i < j → ¬ up m i c = some K) → up m j c = up l j c
  | 0, c, _ => rfl
  | j + 1, c, h => by
    have hc : ¬ c = K := fun e => h 0 (Nat.succ_pos j) (by rw [e]; rfl)
    rw [up, up, hg c hc]
    rcases hq : get l c with _ | q
    · rfl
    · rw [Option.bind_some, Option.bind_some]
      refine up_avoid hg j q.u fun i hi e => h (i + 1) (by omega) ?_
      rw [up, hg c hc, hq, Option.bind_some]; exact e
theorem put_noRing {l : List Pl} (hs : Sorted l) (hr : NoRing l) {p : Pl} (hu : above l p.n p.u = false) : NoRing (putL l p) := by
  have hp := sorted_put hs p
  refine noRing_of hp fun k b hk h => ?_
  have hg : ∀ c, ¬ c = p.n → get (putL l p) c = get l c := fun c hc => by rw [get_put hs, if_neg hc]
  by_cases hv : ∃ i, i < k ∧ up (putL l p) i b = some p.n
  · obtain ⟨i, hi, hb⟩ := hv
    have h1 : up (putL l p) (k - i) p.n = some b := by
      have : up (putL l p) (i + (k - i)) b = some b := by rw [show i + (k - i) = k by omega]; exact h
      rw [up_add, hb, Option.bind_some] at this
      exact this
    have h2 : up (putL l p) ((k - i) + i) p.n = some p.n := by rw [up_add, h1, Option.bind_some]; exact hb
    obtain ⟨m, hm⟩ : ∃ m, (k - i) + i = m + 1 := ⟨k - 1, by omega⟩
    rw [hm, up, get_put hs, if_pos rfl, Option.bind_some] at h2
    obtain ⟨j, hj, hl⟩ := least (P := fun j => up (putL l p) j p.u = some p.n) m h2
    have h3 := up_avoid hg j p.u hl
    rw [hj] at h3
    have h4 := (above_iff hr).2 ⟨j, h3.symm⟩
    rw [hu] at h4; cases h4
  · have h3 := up_avoid hg k b (fun i hi e => hv ⟨i, hi, e⟩)
    rw [h] at h3
    exact acyc_of hr k b hk h3.symm

/-- What undoes a move: what was, whether it had a place, whether it did anything. -/
structure Un where
  was : Pl
  had : Bool
  did : Bool
def noUn : Un := ⟨zero, false, false⟩
/-- A tree behind a move of p's node to p. -/
def doL (l : List Pl) (p : Pl) : List Pl × Un := if above l p.n p.u = true then (l, noUn) else (putL l p, ⟨(get l p.n).getD zero, (get l p.n).isSome, true⟩)
def backL (l : List Pl) (b : Int) (u : Un) : List Pl := if u.did = true then (if u.had = true then putL l u.was else dropL l b) else l
theorem back_do {l : List Pl} (hs : Sorted l) (p : Pl) : backL (doL l p).1 p.n (doL l p).2 = l := by
  unfold doL
  by_cases h : above l p.n p.u = true
  · rw [if_pos h]; rfl
  · rw [if_neg h]
    unfold backL
    rw [if_pos rfl]
    rcases hg : get l p.n with _ | q
    · simp only [Option.isSome_none, Bool.false_eq_true, if_false]
      exact drop_put hs hg
    · simp only [Option.isSome_some, if_true, Option.getD_some]
      exact put_back hs hg
theorem do_sorted {l : List Pl} (hs : Sorted l) (p : Pl) : Sorted (doL l p).1 := by
  unfold doL
  split
  · exact hs
  · exact sorted_put hs p
theorem do_noRing {l : List Pl} (hs : Sorted l) (hr : NoRing l) (p : Pl) : NoRing (doL l p).1 := by
  unfold doL
  by_cases h : above l p.n p.u = true
  · rw [if_pos h]; exact hr
  · rw [if_neg h]; exact put_noRing hs hr (by simpa using h)
theorem do_mem {l : List Pl} (hs : Sorted l) (p : Pl) {P : Pl → Prop} (hl : ∀ q ∈ l, P q) (hp : P p) : ∀ q ∈ (doL l p).1, P q := by
  unfold doL
  split
  · exact hl
  · intro q hq
    rcases (mem_put hs p q).1 hq with rfl | ⟨h, _⟩
    · exact hp
    · exact hl q h

/-- A tree behind moves, one by one, and what undoes each. -/
def foldL (l : List Pl) : List Pl → List Pl × List Un
  | [] => (l, [])
  | p :: ps => ((foldL (doL l p).1 ps).1, (doL l p).2 :: (foldL (doL l p).1 ps).2)
theorem foldL_app (l : List Pl) : ∀ (a b : List Pl), foldL l (a ++ b) = ((foldL (foldL l a).1 b).1, (foldL l a).2 ++ (foldL (foldL l a).1 b).2)
  | [], b => rfl
  | p :: a, b => by
    show foldL l (p :: (a ++ b)) = _
    rw [foldL, foldL_app (doL l p).1 a b]
    rfl
theorem foldL_len (l : List Pl) : ∀ (a : List Pl), (foldL l a).2.length = a.length := by
  intro a
  induction a generalizing l with
  | nil => rfl
  | cons p a ih => show ((doL l p).2 :: _).length = _; rw [List.length_cons, ih, List.length_cons]
theorem foldL_snoc (l a : List Pl) (p : Pl) : foldL l (a ++ [p]) = ((doL (foldL l a).1 p).1, (foldL l a).2 ++ [(doL (foldL l a).1 p).2]) := foldL_app l a [p]
theorem foldL_sorted {l : List Pl} (hs : Sorted l) (a : List Pl) : Sorted (foldL l a).1 := by
  induction a generalizing l with
  | nil => exact hs
  | cons p a ih => exact ih (do_sorted hs p)
theorem foldL_noRing {l : List Pl} (hs : Sorted l) (hr : NoRing l) (a : List Pl) : NoRing (foldL l a).1 := by
  induction a generalizing l with
  | nil => exact hr
  | cons p a ih => exact ih (do_sorted hs p) (do_noRing hs hr p)
theorem foldL_mem {l : List Pl} (hs : Sorted l) {P : Pl → Prop} (a : List Pl) (hl : ∀ q ∈ l, P q) (ha : ∀ q ∈ a, P q) : ∀ q ∈ (foldL l a).1, P q := by
  induction a generalizing l with
  | nil => exact hl
  | cons p a ih => exact ih (do_sorted hs p) (do_mem hs p hl (ha p (by simp))) (fun q hq => ha q (by simp [hq]))
/-- The last move undone. -/
theorem foldL_back {l : List Pl} (hs : Sorted l) (a : List Pl) (p : Pl) : backL (foldL l (a ++ [p])).1 p.n (doL (foldL l a).1 p).2 = (foldL l a).1 := by
  rw [foldL_snoc]; exact back_do (foldL_sorted hs a) p
theorem foldL_take (l a : List Pl) (j : Nat) (h : j < a.length) : foldL l (a.take (j + 1)) = ((doL (foldL l (a.take j)).1 a[j]).1, (foldL l (a.take j)).2 ++ [(doL (foldL l (a.take j)).1 a[j]).2]) := by
  rw [List.take_succ_eq_append_getElem h, foldL_snoc]
/-- What undoes the move at j. -/
theorem foldL_un : ∀ (l a : List Pl) (j : Nat) (h : j < a.length), (foldL l a).2[j]? = some (doL (foldL l (a.take j)).1 a[j]).2
  | l, p :: a, 0, _ => rfl
  | l, p :: a, j + 1, h => foldL_un (doL l p).1 a j (by simpa using h)
theorem foldL_undo {l : List Pl} (hs : Sorted l) (a : List Pl) (j : Nat) (h : j < a.length) : backL (foldL l (a.take (j + 1))).1 a[j].n (doL (foldL l (a.take j)).1 a[j]).2 = (foldL l (a.take j)).1 := by
  rw [foldL_take l a j h]; exact back_do (foldL_sorted hs _) _
theorem foldL_take_un (l a : List Pl) (k : Nat) (h : k ≤ a.length) : (foldL l (a.take k)).2 = (foldL l a).2.take k := by
  have e : a = a.take k ++ a.drop k := (List.take_append_drop k a).symm
  have h1 : (foldL l a).2 = (foldL l (a.take k)).2 ++ (foldL (foldL l (a.take k)).1 (a.drop k)).2 := by
    conv => lhs; rw [e, foldL_app]
  have h2 : (foldL l (a.take k)).2.length = k := by rw [foldL_len, List.length_take]; omega
  rw [h1]
  exact (List.take_left' h2).symm
end Tre

/- Places, operations and undos as elements; Clone of the library; Do and Back of both. -/
namespace Go.Proofs.YtfpgfclmmdihjaaGreat
open Go.RowKit Tre Cod

def plE : El Pl where
  e := 117
  k := 3
  c p := [.int .i64 p.n, .int .i64 p.u, .string p.s]
  len _ := rfl
  one p u h := by
    simp only [List.mem_cons, List.not_mem_nil, or_false] at h
    rcases h with rfl | rfl | rfl <;> rfl
  pos := by decide
def opE : El Mv where
  e := 102
  k := 7
  c m := [.int .i64 m.C, .int .i64 m.D, .int .i64 m.I, .int .i64 m.M, .int .i64 m.K, .int .i64 m.U, .string m.s]
  len _ := rfl
  one p u h := by
    simp only [List.mem_cons, List.not_mem_nil, or_false] at h
    rcases h with rfl | rfl | rfl | rfl | rfl | rfl | rfl <;> rfl
  pos := by decide
def unE : El Un where
  e := 125
  k := 5
  c u := [.int .i64 u.was.n, .int .i64 u.was.u, .string u.was.s, .bool u.had, .bool u.did]
  len _ := rfl
  one p u h := by
    simp only [List.mem_cons, List.not_mem_nil, or_false] at h
    rcases h with rfl | rfl | rfl | rfl | rfl <;> rfl
  pos := by decide
theorem plInn : plE.Inn Tryz.prog 36 := El.inn_of (z := .agg #[.int .i64 0, .int .i64 0, .string ⟨#[]⟩]) (bytes := 32) Tryz.underlying36 (by kernel_rfl) rfl (by decide)
theorem opInn : opE.Inn Tryz.prog 29 := El.inn_of (z := .agg #[.int .i64 0, .int .i64 0, .int .i64 0, .int .i64 0, .int .i64 0, .int .i64 0, .string ⟨#[]⟩]) (bytes := 64) Tryz.underlying29 (by kernel_rfl) rfl (by decide)
theorem unInn : unE.Inn Tryz.prog 37 := El.inn_of (z := .agg #[.int .i64 0, .int .i64 0, .string ⟨#[]⟩, .bool false, .bool false]) (bytes := 40) Tryz.underlying37 (by kernel_rfl) rfl (by decide)
theorem plRow : plE.Row Tryz.prog := ⟨by kernel_rfl, _, Tryz.underlying117, rfl⟩
theorem opRow : opE.Row Tryz.prog := ⟨by kernel_rfl, _, Tryz.underlying102, rfl⟩
theorem unRow : unE.Row Tryz.prog := ⟨by kernel_rfl, _, Tryz.underlying125, rfl⟩

theorem plAt {w : World} {b o : Nat} {p : Pl} : plE.At w b o p ↔ AtPl w b o p := by
  constructor
  · intro h
    exact ⟨h 0 _ rfl, h 1 _ rfl, h 2 _ rfl⟩
  · rintro ⟨h0, h1, h2⟩ j u hu
    match j, hu with
    | 0, hu => cases hu; exact h0
    | 1, hu => cases hu; exact h1
    | 2, hu => cases hu; exact h2
theorem opAt {w : World} {b o : Nat} {m : Mv} (h : opE.At w b o m) : w.cell? ⟨b, o, none⟩ = some (.int .i64 m.C) ∧ w.cell? ⟨b, o + 1, none⟩ = some (.int .i64 m.D) ∧ w.cell? ⟨b, o + 2, none⟩ = some (.int .i64 m.I) ∧ w.cell? ⟨b, o + 3, none⟩ = some (.int .i64 m.M) ∧ w.cell? ⟨b, o + 4, none⟩ = some (.int .i64 m.K) ∧ w.cell? ⟨b, o + 5, none⟩ = some (.int .i64 m.U) ∧ w.cell? ⟨b, o + 6, none⟩ = some (.string m.s) :=
  ⟨h 0 _ rfl, h 1 _ rfl, h 2 _ rfl, h 3 _ rfl, h 4 _ rfl, h 5 _ rfl, h 6 _ rfl⟩
theorem unAt {w : World} {b o : Nat} {x : Un} (h : unE.At w b o x) : w.cell? ⟨b, o, none⟩ = some (.int .i64 x.was.n) ∧ w.cell? ⟨b, o + 1, none⟩ = some (.int .i64 x.was.u) ∧ w.cell? ⟨b, o + 2, none⟩ = some (.string x.was.s) ∧ w.cell? ⟨b, o + 3, none⟩ = some (.bool x.had) ∧ w.cell? ⟨b, o + 4, none⟩ = some (.bool x.did) :=
  ⟨h 0 _ rfl, h 1 _ rfl, h 2 _ rfl, h 3 _ rfl, h 4 _ rfl⟩
theorem plIn3 {w : World} {b : Nat} {p : Pl} (h : plE.In w b p) : w.cell? ⟨b, 0, none⟩ = some (.int .i64 p.n) ∧ w.cell? ⟨b, 1, none⟩ = some (.int .i64 p.u) ∧ w.cell? ⟨b, 2, none⟩ = some (.string p.s) :=
  ⟨h.cell 0, h.cell 1, h.cell 2⟩
theorem opIn7 {w : World} {b : Nat} {m : Mv} (h : opE.In w b m) : w.cell? ⟨b, 0, none⟩ = some (.int .i64 m.C) ∧ w.cell? ⟨b, 1, none⟩ = some (.int .i64 m.D) ∧ w.cell? ⟨b, 2, none⟩ = some (.int .i64 m.I) ∧ w.cell? ⟨b, 3, none⟩ = some (.int .i64 m.M) ∧ w.cell? ⟨b, 4, none⟩ = some (.int .i64 m.K) ∧ w.cell? ⟨b, 5, none⟩ = some (.int .i64 m.U) ∧ w.cell? ⟨b, 6, none⟩ = some (.string m.s) :=
  ⟨h.cell 0, h.cell 1, h.cell 2, h.cell 3, h.cell 4, h.cell 5, h.cell 6⟩
theorem unIn5 {w : World} {b : Nat} {x : Un} (h : unE.In w b x) : w.cell? ⟨b, 0, none⟩ = some (.int .i64 x.was.n) ∧ w.cell? ⟨b, 1, none⟩ = some (.int .i64 x.was.u) ∧ w.cell? ⟨b, 2, none⟩ = some (.string x.was.s) ∧ w.cell? ⟨b, 3, none⟩ = some (.bool x.had) ∧ w.cell? ⟨b, 4, none⟩ = some (.bool x.did) :=
  ⟨h.cell 0, h.cell 1, h.cell 2, h.cell 3, h.cell 4⟩
theorem plSl {w : World} {A : Option Addr} {l : List Pl} : plE.Sl w A l ↔ Tr w A l :=
  ⟨fun h h0 => let ⟨b, off, e, hb, hc⟩ := h h0; ⟨b, off, e, hb, fun i hi => plAt.1 (hc i hi)⟩, fun h h0 => let ⟨b, off, e, hb, hc⟩ := h h0; ⟨b, off, e, hb, fun i hi => plAt.2 (hc i hi)⟩⟩

/-- A slice of the whole: what it says, and that it holds the list. -/
def SlV {α : Type} (E : El α) (w : World) (A : Option Addr) (c : Nat) (l : List α) : Prop := E.Sl w A l ∧ (A = none → c = 0) ∧ l.length ≤ c
theorem SlV.below {α : Type} {E : El α} {W w : World} {A : Option Addr} {c : Nat} {l : List α} (h : SlV E W A c l) (hb : Below W.heap.size W w) : SlV E w A c l := ⟨h.1.below hb, h.2⟩
theorem SlV.nil {α : Type} (E : El α) (w : World) : SlV E w none 0 [] := ⟨El.Sl.nil w none, fun _ => rfl, Nat.le_refl _⟩
theorem frs_nil (B : Nat) : Frs B none := fun a e => by cases e
theorem frs_of {B b : Nat} {A : Option Addr} (h : Frs B A) (hb : b < B) : ∀ a, A = some a → some a.block ≠ some b := fun a e e2 => by
  have := h a e; have := Option.some.inj e2; omega
theorem El.Own.frs {α : Type} {E : El α} {w : World} {B n c : Nat} {A : Option Addr} {l : List α} (h : E.Own w B (.slice A n c) l) : Frs B A := fun a e => (World.ownsRow.lt h a.block (by rw [e]; rfl)).1
/-- A block ahead of it is written: it stays. -/
theorem SlV.keep {α : Type} {E : El α} {w w' : World} {A : Option Addr} {c B b : Nat} {l : List α} (h : SlV E w A c l) (hf : Frs B A) (hg : w.grownBy w' (some b)) (hb : b < B) : SlV E w' A c l :=
  ⟨h.1.keep hg (fun a e e2 => by have := hf a e; have := Option.some.inj e2; omega), h.2⟩
theorem by_row (w : World) (b : Nat) (cs : Array Value) : w.grownBy (w.setRow b cs) (some b) := ⟨rfl, rfl, rfl, by simp, fun k _ hk => setRow_other w b k cs (fun e => hk (by rw [e]))⟩
theorem by_cell (w : World) (b i : Nat) (v : Value) : w.grownBy (w.setCell ⟨b, i, none⟩ v) (some b) := ⟨rfl, rfl, rfl, by simp, fun k _ hk => heap_setCell_other w ⟨b, i, none⟩ k v (fun e => hk (by rw [e]))⟩
theorem by_cell2 {w w' : World} {b : Nat} (h : w.grownBy w' (some b)) (i : Nat) (v : Value) : w.grownBy (w'.setCell ⟨b, i, none⟩ v) (some b) := by
  have hg := by_cell w' b i v
  exact ⟨hg.os.trans h.os, hg.tape.trans h.tape, hg.output.trans h.output, Nat.le_trans h.size hg.size, fun k hk hne => (hg.block k (Nat.lt_of_lt_of_le hk h.size) hne).trans (h.block k hk hne)⟩
/-- An undo written cell by cell. -/
theorem un_put {w : World} {b : Nat} {x : Un} (h : unE.In w b x) (y : Un) :
    unE.In (((((w.setCell ⟨b, 0, none⟩ (.int .i64 y.was.n)).setCell ⟨b, 1, none⟩ (.int .i64 y.was.u)).setCell ⟨b, 2, none⟩ (.string y.was.s)).setCell ⟨b, 3, none⟩ (.bool y.had)).setCell ⟨b, 4, none⟩ (.bool y.did)) b y ∧
    w.grownBy (((((w.setCell ⟨b, 0, none⟩ (.int .i64 y.was.n)).setCell ⟨b, 1, none⟩ (.int .i64 y.was.u)).setCell ⟨b, 2, none⟩ (.string y.was.s)).setCell ⟨b, 3, none⟩ (.bool y.had)).setCell ⟨b, 4, none⟩ (.bool y.did)) (some b) := by
  refine ⟨?_, by_cell2 (by_cell2 (by_cell2 (by_cell2 (by_cell w b 0 _) 1 _) 2 _) 3 _) 4 _⟩
  have h1 := h.put ⟨⟨y.was.n, x.was.u, x.was.s⟩, x.had, x.did⟩ 0 (.int .i64 y.was.n) rfl
  have h2 := h1.put ⟨⟨y.was.n, y.was.u, x.was.s⟩, x.had, x.did⟩ 1 (.int .i64 y.was.u) rfl
  have h3 := h2.put ⟨⟨y.was.n, y.was.u, y.was.s⟩, x.had, x.did⟩ 2 (.string y.was.s) rfl
  have h4 := h3.put ⟨⟨y.was.n, y.was.u, y.was.s⟩, y.had, x.did⟩ 3 (.bool y.had) rfl
  exact h4.put y 4 (.bool y.did) rfl
theorem SlV.own {α : Type} {E : El α} {w : World} {B : Nat} {v : Value} {l : List α} (h : E.Own w B v l) : ∃ A c, v = .slice A l.length c ∧ SlV E w A c l :=
  let ⟨A, c, e, h1, h2, h3⟩ := h.sl
  ⟨A, c, e, h1, h2, h3⟩
def mvPl (m : Mv) : Pl := ⟨m.K, m.U, m.s⟩
def unV (u : Un) : Value := .agg #[.int .i64 u.was.n, .int .i64 u.was.u, .string u.was.s, .bool u.had, .bool u.did]
def mvV (m : Mv) : Value := .agg #[.int .i64 m.C, .int .i64 m.D, .int .i64 m.I, .int .i64 m.M, .int .i64 m.K, .int .i64 m.U, .string m.s]
def plV (p : Pl) : Value := .agg #[.int .i64 p.n, .int .i64 p.u, .string p.s]

theorem below_own {w w1 w2 : World} {row : Option Nat} (h : Below w.heap.size w w1) (hg : w1.grownBy w2 row) (hrow : ∀ n, row = some n → w.heap.size ≤ n) : Below w.heap.size w w2 := h.grown hg h.size hrow

set_option maxRecDepth 100000 in
theorem clonePl_any (A : Option Addr) (c : Nat) (l : List Pl) (w : World) (hl : l.length ≤ 50000) (hT : SlV plE w A c l) :
    Calls Tryz.prog 83 #[.slice A l.length c] w fun e w' => ∃ A' c', e = .returned (.slice A' l.length c') ∧ SlV plE w' A' c' l ∧ Frs w.heap.size A' ∧ Below w.heap.size w w' := by
  obtain ⟨hT, hz, hlc⟩ := hT
  have q : ∀ (w : World) (a : Option Addr) (n c n' c' : Nat), (binOp .eql 36 (.slice a n c) (.slice none n' c')).run Tryz.prog w = .ok (.bool a.isNone) w := fun w a n c n' c' => Lib.run_eql_slice_nil w _ _ a n c n' c' Tryz.underlying36
  cases A with
  | none =>
    obtain rfl := hT.none_nil
    obtain rfl := hz rfl
    go_enter Tryz.func83, Tryz.ntmps83
    go_wp2
    go_ret
    exact ⟨none, 0, rfl, SlV.nil _ _, frs_nil _, Below.refl _ _⟩
  | some a =>
    go_enter Tryz.func83, Tryz.ntmps83
    have hE := El.Own.empty (E := plE) w w.heap.size (Nat.le_refl _)
    have hb0 := below_alloc (Below.refl w.heap.size w) (.cells #[] 117)
    go_wp2_with (at_builtin; refine El.wpList_app plInn rfl _ _ rfl w.heap.size _ [] l rfl hE (some a) _ c rfl rfl (hT.below hb0) (fun e => by cases e) (by simp; omega) (by simp) ?_; intro v' w2 hown hg _)
    obtain ⟨A', c', rfl, hS⟩ := SlV.own hown
    go_wp2
    go_ret
    exact ⟨A', c', rfl, hS, hown.frs, below_own hb0 hg (hE.rows)⟩
end Go.Proofs.YtfpgfclmmdihjaaGreat

/- Do and Back of the program. -/
namespace Go.Proofs.YtfpgfclmmdihjaaGreat
open Go.RowKit Tre Cod

theorem plV_get (l : List Pl) (b : Int) : ∃ p is, (Tre.get l b).getD zero = p ∧ (Tre.get l b).isSome = is := ⟨_, _, rfl, rfl⟩
theorem same_pl (A : Option Addr) (c : Nat) (l : List Pl) (w : World) (hl : l.length ≤ 50000) (hT : SlV plE w A c l) :
    Calls Tryz.prog 65 #[.slice A l.length c] w fun e w' => ∃ A' c', e = .returned (.slice A' l.length c') ∧ SlV plE w' A' c' l ∧ Frs w.heap.size A' ∧ Below w.heap.size w w' := by
  have C := clonePl_any A c l w hl hT
  go_enter Tryz.func65, Tryz.ntmps65
  go_wp2_with (go_at_call 83; (with_reducible refine C.mono ?_); rintro e w1 ⟨A', c', rfl, hS, hf, hb⟩)
  go_ret
  exact ⟨A', c', rfl, hS, hf, hb⟩

theorem put_sl (A : Option Addr) (c : Nat) (l : List Pl) (p : Pl) (w : World) (hl : l.length ≤ 900) (hs : Sorted l) (hT : SlV plE w A c l) :
    Calls Tryz.prog 86 #[.slice A l.length c, .agg #[.int .i64 p.n, .int .i64 p.u, .string p.s]] w fun e w' => ∃ A' c', e = .returned (.slice A' (putL l p).length c') ∧ SlV plE w' A' c' (putL l p) ∧ Frs w.heap.size A' ∧ Below w.heap.size w w' :=
  (put_any A c l p w hl hs (plSl.1 hT.1) hT.2.2 hT.2.1).mono fun _ _ ⟨A', c', he, ht, hz, hlc, hf, hb⟩ => ⟨A', c', he, ⟨plSl.2 ht, hz, hlc⟩, hf, hb⟩
set_option maxRecDepth 100000 in
set_option maxHeartbeats 4000000 in
theorem do_any (A : Option Addr) (c : Nat) (l : List Pl) (m : Mv) (w : World) (hl : l.length ≤ 900) (hs : Sorted l) (hT : SlV plE w A c l) :
    Calls Tryz.prog 66 #[.slice A l.length c, .agg #[.int .i64 m.C, .int .i64 m.D, .int .i64 m.I, .int .i64 m.M, .int .i64 m.K, .int .i64 m.U, .string m.s]] w fun e w' => ∃ A' c', e = .returned (.tuple #[.slice A' (doL l (mvPl m)).1.length c', unV (doL l (mvPl m)).2]) ∧ SlV plE w' A' c' (doL l (mvPl m)).1 ∧ Frs w.heap.size A' ∧ Below w.heap.size w w' := by
  have C1 := fun w (hT : SlV plE w A c l) => above_any A c l m.K m.U w (by omega) hs (plSl.1 hT.1)
  have C2 := fun w (hT : SlV plE w A c l) => same_pl A c l w (by omega) hT
  have C4 := fun w (hT : SlV plE w A c l) => put_sl A c l ⟨m.K, m.U, m.s⟩ w hl hs hT
  have hdo : doL l (mvPl m) = if above l m.K m.U = true then (l, noUn) else (putL l ⟨m.K, m.U, m.s⟩, ⟨(Tre.get l m.K).getD zero, (Tre.get l m.K).isSome, true⟩) := rfl
  obtain ⟨p, is, hp, hi⟩ := plV_get l m.K
  have C3 := fun w (hT : SlV plE w A c l) => get_any A c l m.K w (by omega) hs (plSl.1 hT.1) p is hp hi
  rw [hp, hi] at hdo
  clear hp hi hs
  obtain ⟨ab, hab⟩ : ∃ ab, above l m.K m.U = ab := ⟨_, rfl⟩
  rw [hab] at C1 hdo
  clear hab
  have hdo : (doL l (mvPl m)).1 = (if ab = true then l else putL l ⟨m.K, m.U, m.s⟩) ∧ (doL l (mvPl m)).2 = if ab = true then noUn else ⟨p, is, true⟩ := by rw [hdo]; cases ab <;> exact ⟨rfl, rfl⟩
  obtain ⟨hd1, hd2⟩ := hdo
  rw [hd1, hd2]
  clear hd1 hd2
  generalize putL l ⟨m.K, m.U, m.s⟩ = R at *
  have HC1 := Lib.hid C1
  have HC2 := Lib.hid C2
  have HC3 := Lib.hid C3
  have HC4 := Lib.hid C4
  clear C1 C2 C3 C4
  go_enter Tryz.func66, Tryz.ntmps66
  go_wp2_with fail
  have hO : opE.In ((w.alloc (.cells #[.int .i64 m.C, .int .i64 m.D, .int .i64 m.I, .int .i64 m.M, .int .i64 m.K, .int .i64 m.U, .string m.s] 102)).alloc (.cells #[.int .i64 0, .int .i64 0, .string ⟨#[]⟩, .bool false, .bool false] 125)) w.heap.size m := (El.In.new (E := opE) w m _ rfl).alloc _
  have hU : unE.In ((w.alloc (.cells #[.int .i64 m.C, .int .i64 m.D, .int .i64 m.I, .int .i64 m.M, .int .i64 m.K, .int .i64 m.U, .string m.s] 102)).alloc (.cells #[.int .i64 0, .int .i64 0, .string ⟨#[]⟩, .bool false, .bool false] 125)) (w.heap.size + 1) noUn := by
    have := El.In.new (E := unE) (w.alloc (.cells #[.int .i64 m.C, .int .i64 m.D, .int .i64 m.I, .int .i64 m.M, .int .i64 m.K, .int .i64 m.U, .string m.s] 102)) noUn #[.int .i64 0, .int .i64 0, .string ⟨#[]⟩, .bool false, .bool false] rfl
    rw [alloc_size] at this; exact this
  have hB := below_alloc (below_alloc (Below.refl w.heap.size w) (.cells #[.int .i64 m.C, .int .i64 m.D, .int .i64 m.I, .int .i64 m.M, .int .i64 m.K, .int .i64 m.U, .string m.s] 102)) (.cells #[.int .i64 0, .int .i64 0, .string ⟨#[]⟩, .bool false, .bool false] 125)
  generalize (w.alloc (.cells #[.int .i64 m.C, .int .i64 m.D, .int .i64 m.I, .int .i64 m.M, .int .i64 m.K, .int .i64 m.U, .string m.s] 102)).alloc (.cells #[.int .i64 0, .int .i64 0, .string ⟨#[]⟩, .bool false, .bool false] 125) = W at *
  have hn0 : w.heap.size ≤ w.heap.size := Nat.le_refl _
  obtain ⟨n0, h0⟩ : ∃ n, w.heap.size = n := ⟨_, rfl⟩
  obtain ⟨n1, h1⟩ : ∃ n, w.heap.size + 1 = n := ⟨_, rfl⟩
  have hn1 : w.heap.size ≤ n1 := by omega
  have h01 : n0 ≠ n1 := by omega
  rw [h1] at hU ⊢
  have hTW := hT.below hB
  rw [h0] at hO hn0 hn1 hB ⊢
  refine (HC1.out _ hTW).mono ?_
  rintro e w1 ⟨rfl, hb1⟩
  replace hO := hO.below hb1
  replace hU := hU.below hb1
  replace hTW := hTW.below hb1
  replace hB : Below n0 w w1 := hB.trans (hb1.mono (by have := hB.size; omega))
  clear hb1 hT
  clear hdo
  cases ab
  · simp only [Bool.false_eq_true, if_false]
    obtain ⟨k0, k1, k2, k3, k4, k5, k6⟩ := opAt hO.at
    go_wp2_with fail
    refine (HC3.out _ hTW).mono ?_
    rintro e w2 ⟨rfl, hb1⟩
    replace hO := hO.below hb1
    replace hU := hU.below hb1
    replace hTW := hTW.below hb1
    replace hB : Below n0 w w2 := hB.trans (hb1.mono (by have := hB.size; omega))
    clear hb1 k0 k1 k2 k3 k4 k5 k6
    have hs2 := hB.size
    have hlt1 := hU.lt
    have hlt0 := hO.lt
    have hne0 : n0 ≠ w2.heap.size := by omega
    have hne1 : n1 ≠ w2.heap.size := by omega
    obtain ⟨k0, k1, k2, k3, k4, k5, k6⟩ := opAt hO.at
    go_wp2_with fail
    have hP : plE.In ((w2.alloc (.cells #[.int .i64 p.n, .int .i64 p.u, .string p.s] 117)).alloc (.cells #[.int .i64 m.K, .int .i64 m.U, .string m.s] 117)) w2.heap.size p := (El.In.new (E := plE) w2 p _ rfl).alloc _
    have hQ : plE.In ((w2.alloc (.cells #[.int .i64 p.n, .int .i64 p.u, .string p.s] 117)).alloc (.cells #[.int .i64 m.K, .int .i64 m.U, .string m.s] 117)) (w2.heap.size + 1) ⟨m.K, m.U, m.s⟩ := by
      have := El.In.new (E := plE) (w2.alloc (.cells #[.int .i64 p.n, .int .i64 p.u, .string p.s] 117)) ⟨m.K, m.U, m.s⟩ #[.int .i64 m.K, .int .i64 m.U, .string m.s] rfl
      rw [alloc_size] at this; exact this
    have hb3 := below_alloc (below_alloc (Below.refl w2.heap.size w2) (.cells #[.int .i64 p.n, .int .i64 p.u, .string p.s] 117)) (.cells #[.int .i64 m.K, .int .i64 m.U, .string m.s] 117)
    replace hU := hU.below hb3
    replace hTW := hTW.below hb3
    replace hB := hB.trans (hb3.mono (by omega))
    have hs3 := hb3.size
    clear hb3 k0 k1 k2 k3 k4 k5 k6 hO
    generalize (w2.alloc (.cells #[.int .i64 p.n, .int .i64 p.u, .string p.s] 117)).alloc (.cells #[.int .i64 m.K, .int .i64 m.U, .string m.s] 117) = W2 at *
    generalize w2.heap.size = n2 at *
    obtain ⟨n3, h3⟩ : ∃ n, n2 + 1 = n := ⟨_, rfl⟩
    rw [h3] at hQ ⊢
    have hU0 := hU.lt
    replace hP : plE.In W2.drew n2 p := hP
    replace hQ : plE.In W2.drew n3 ⟨m.K, m.U, m.s⟩ := hQ
    replace hU : unE.In W2.drew n1 noUn := hU
    replace hTW : SlV plE W2.drew A c l := hTW
    replace hB : Below n0 w W2.drew := hB.drew
    replace hU0 : n1 < W2.drew.heap.size := hU0
    replace hs3 : n2 ≤ W2.drew.heap.size := hs3
    have hn12 : some n2 ≠ some n1 := fun e => hne1 (Option.some.inj e).symm
    have hn13 : some n3 ≠ some n1 := fun e => by have := Option.some.inj e; omega
    go_region_held3 (fun w' => (w'.cell? ⟨n2, 0, none⟩ = some (.int .i64 p.n) ∧ w'.cell? ⟨n2, 1, none⟩ = some (.int .i64 p.u) ∧ w'.cell? ⟨n2, 2, none⟩ = some (.string p.s)) ∧ (w'.cell? ⟨n3, 0, none⟩ = some (.int .i64 m.K) ∧ w'.cell? ⟨n3, 1, none⟩ = some (.int .i64 m.U) ∧ w'.cell? ⟨n3, 2, none⟩ = some (.string m.s))) (with_reducible first | exact ⟨plIn3 hP, plIn3 hQ⟩ | exact ⟨plIn3 hP5, plIn3 hQ5⟩ | exact ⟨plIn3 (hP5.keep (un_put hU5 ⟨p, is, true⟩).2 hn12), plIn3 (hQ5.keep (un_put hU5 ⟨p, is, true⟩).2 hn13)⟩) (first | (go_at_call 86; (with_reducible refine (HC4.out _ hTW).mono ?_); rintro e w5 ⟨A', c', rfl, hS, hf, hb5⟩; have hP5 := hP.below hb5; have hQ5 := hQ.below hb5; have hU5 := hU.below hb5; have hB5 := hB.trans (hb5.mono (by omega)); obtain ⟨u0, u1, u2, u3, u4⟩ := unIn5 hU5; have uf := hU5.frozen))
    all_goals
      have hP6 := un_put hU5 ⟨p, is, true⟩
      go_wp2
      refine El.ret3 unRow hP6.1 rfl rfl rfl rfl _ rfl ?_
      subst h0
      exact ⟨A', c', rfl, hS.keep hf hP6.2 hU0, hf.mono (by omega), hB5.grown hP6.2 hB5.size (fun k e => by have := Option.some.inj e; omega)⟩
  · simp only [if_true]
    go_wp2_with fail
    refine (HC2.out _ hTW).mono ?_
    rintro e w2 ⟨A', c', rfl, hS, hf, hb2⟩
    have hlt := hU.lt
    replace hU := hU.below hb2
    replace hB : Below n0 w w2 := hB.trans (hb2.mono (by have := hB.size; omega))
    have hs2 := hb2.size
    go_wp2_with (refine El.store unRow rfl _ _ rfl n1 noUn _ rfl rfl rfl noUn hU ?_)
    refine El.ret3 unRow (hU.set noUn _ rfl) rfl rfl rfl rfl _ rfl ?_
    subst h0
    exact ⟨A', c', rfl, hS.keep hf (by_row _ _ _) hlt, hf.mono (by omega), below_setRow hB hn1 _⟩

end Go.Proofs.YtfpgfclmmdihjaaGreat

/- Fold of the program; the document's Do and Fold. -/
namespace Go.Proofs.YtfpgfclmmdihjaaGreat
open Go.RowKit Tre Cod

theorem putL_len (l : List Pl) (p : Pl) : (putL l p).length ≤ l.length + 1 := by
  unfold putL placedL
  have := behind_le l p.n
  rw [List.length_append, List.length_append, List.length_take, List.length_drop, List.length_singleton]; omega
theorem dropL_len (l : List Pl) (b : Int) : (dropL l b).length ≤ l.length := by
  unfold dropL placedL
  have := behind_le l b
  rw [List.append_nil, List.length_append, List.length_take, List.length_drop]; omega
theorem doL_len (l : List Pl) (p : Pl) : (doL l p).1.length ≤ l.length + 1 := by
  unfold doL
  split
  · exact Nat.le_succ _
  · exact putL_len l p
theorem foldL_len1 (l : List Pl) (a : List Pl) : (foldL l a).1.length ≤ l.length + a.length := by
  induction a generalizing l with
  | nil => exact Nat.le_refl _
  | cons p a ih =>
    have h1 := ih (doL l p).1
    have h2 := doL_len l p
    show (foldL (doL l p).1 a).1.length ≤ _
    rw [List.length_cons]; omega
/-- The moves of operations. -/
def mvs (o : List Mv) : List Pl := o.map mvPl
theorem mvs_len (o : List Mv) : (mvs o).length = o.length := List.length_map ..
theorem mvs_take (o : List Mv) (k : Nat) : (mvs o).take k = mvs (o.take k) := by unfold mvs; rw [List.map_take]
/-- Behind k of the operations. -/
def fold1 (l : List Pl) (o : List Mv) (k : Nat) : List Pl := (foldL l (mvs (o.take k))).1
def fold2 (l : List Pl) (o : List Mv) (k : Nat) : List Un := (foldL l (mvs (o.take k))).2
theorem fold1_all (l : List Pl) (o : List Mv) : fold1 l o o.length = (foldL l (mvs o)).1 := by unfold fold1; rw [List.take_length]
theorem fold2_all (l : List Pl) (o : List Mv) : fold2 l o o.length = (foldL l (mvs o)).2 := by unfold fold2; rw [List.take_length]
theorem fold1_zero (l : List Pl) (o : List Mv) : fold1 l o 0 = l := rfl
theorem fold2_zero (l : List Pl) (o : List Mv) : fold2 l o 0 = [] := rfl
theorem fold_next (l : List Pl) (o : List Mv) (k : Nat) (h : k < o.length) : fold1 l o (k + 1) = (doL (fold1 l o k) (mvPl o[k])).1 ∧ fold2 l o (k + 1) = fold2 l o k ++ [(doL (fold1 l o k) (mvPl o[k])).2] := by
  unfold fold1 fold2
  rw [← mvs_take, ← mvs_take, foldL_take l (mvs o) k (by rw [mvs_len]; exact h)]
  have e : (mvs o)[k]'(by rw [mvs_len]; exact h) = mvPl o[k] := by unfold mvs; rw [List.getElem_map]
  rw [e]
  exact ⟨rfl, rfl⟩
theorem fold1_len (l : List Pl) (o : List Mv) (k : Nat) : (fold1 l o k).length ≤ l.length + k := by
  have h := foldL_len1 l (mvs (o.take k))
  rw [mvs_len, List.length_take] at h
  unfold fold1; omega
theorem fold2_len (l : List Pl) (o : List Mv) (k : Nat) (h : k ≤ o.length) : (fold2 l o k).length = k := by
  unfold fold2
  rw [foldL_len, mvs_len, List.length_take]; omega
theorem fold1_sorted {l : List Pl} (hs : Sorted l) (o : List Mv) (k : Nat) : Sorted (fold1 l o k) := foldL_sorted hs _
/-- The undos so far, and the rest as it was made. -/
theorem un_set (us : List Un) (n k : Nat) (u : Un) (hk : us.length = k) (hn : k < n) : (us ++ List.replicate (n - k) noUn).set k u = (us ++ [u]) ++ List.replicate (n - (k + 1)) noUn := by
  obtain ⟨d, rfl⟩ : ∃ d, n = k + (d + 1) := ⟨n - k - 1, by omega⟩
  rw [show k + (d + 1) - k = d + 1 by omega, show k + (d + 1) - (k + 1) = d by omega, List.replicate_succ, ← hk, List.set_append_right _ _ (Nat.le_refl _), Nat.sub_self, List.set_cons_zero, List.append_assoc]
  rfl
theorem un_zero : ∃ i z, Tryz.prog.info? unE.e = some i ∧ i.zero = some z ∧ z.cells.toList = unE.c noUn := by
  obtain ⟨i, hi, hz, _, _⟩ := info_parts (show (Tryz.prog.info? 125).map (fun i => (i.zero, i.size, i.bytes)) = some (some (.agg #[.int .i64 0, .int .i64 0, .string ⟨#[]⟩, .bool false, .bool false]), 5, 40) by kernel_rfl)
  exact ⟨i, _, hi, hz, rfl⟩

set_option maxRecDepth 100000 in
set_option maxHeartbeats 4000000 in
theorem mvFold_any (A : Option Addr) (c : Nat) (l : List Pl) (O : Option Addr) (oc : Nat) (o : List Mv) (w : World) (hl : l.length + o.length ≤ 900) (hs : Sorted l) (hT : SlV plE w A c l) (hO : opE.Sl w O o) :
    Calls Tryz.prog 40 #[.slice A l.length c, .slice O o.length oc] w fun e w' => ∃ A' c' U' uc, e = .returned (.tuple #[.slice A' (foldL l (mvs o)).1.length c', .slice U' (foldL l (mvs o)).2.length uc]) ∧ SlV plE w' A' c' (foldL l (mvs o)).1 ∧ SlV unE w' U' uc (foldL l (mvs o)).2 ∧ Frs w.heap.size A' ∧ Frs w.heap.size U' ∧ Below w.heap.size w w' := by
  have C1 := same_pl A c l w (by omega) hT
  have hfl := fold2_len l o o.length (Nat.le_refl _)
  rw [← fold1_all, ← fold2_all, hfl]
  clear hfl
  go_enter Tryz.func40, Tryz.ntmps40
  go_wp2_with fail
  refine C1.mono ?_
  rintro e w1 ⟨A1, c1, rfl, hS1, hf1, hb1⟩
  clear C1
  have hsz1 := hb1.size
  go_wp2_with (at_make; refine El.wpList_make unInn noUn un_zero rfl _ _ rfl w.heap.size o.length o.length rfl rfl (by omega) (Nat.le_refl _) hsz1 ?_; intro w2 hU hg2 hg2s)
  obtain ⟨g, hg⟩ : ∃ g, w1.heap.size = g := ⟨_, rfl⟩
  have hwg : w.heap.size ≤ g := by omega
  have hg2l : g < w2.heap.size := by omega
  rw [hg] at hU ⊢
  have hB2 : Below w.heap.size w w2 := hb1.grown hg2 hsz1 (fun k e => by cases e)
  have hS2 : SlV plE w2 A1 c1 l := ⟨hS1.1.keep hg2 (fun a _ e => by cases e), hS1.2⟩
  clear hS1 hg2 hb1 hg2s hsz1 hg
  go_wp2
  go_loopw [0, 16] (fun x y wr => ∃ (k : Nat) (A' : Option Addr) (c' : Nat), k ≤ o.length ∧ y = .int .i64 k ∧ x = .slice A' (fold1 l o k).length c' ∧ SlV plE wr A' c' (fold1 l o k) ∧ Frs w.heap.size A' ∧ unE.Own wr w.heap.size (.slice (some ⟨g, 0, none⟩) o.length o.length) (fold2 l o k ++ List.replicate (o.length - k) noUn) ∧ g < wr.heap.size ∧ Below w.heap.size w wr) (fun _ y _ => o.length - (intOf y).toNat)
  case atStart => exact ⟨0, A1, c1, Nat.zero_le _, rfl, rfl, hS2, hf1, hU, hg2l, hB2⟩
  case round =>
    clear hS2 hf1 hU hg2l hB2 hT
    obtain ⟨k, A', c', hk, rfl, rfl, hS, hf, hU, hgl, hB⟩ := hrel
    by_cases hlt : k < o.length
    · obtain ⟨b, off, rfl, hbw, hc⟩ := hO (by omega)
      have hat := (hc k hlt).below hB hbw
      obtain ⟨e1, e2⟩ := fold_next l o k hlt
      have hl1 := fold1_len l o k
      have hl2 := fold2_len l o k hk
      have hs1 := fold1_sorted hs o k
      obtain ⟨m, hm⟩ : ∃ m, o[k] = m := ⟨_, rfl⟩
      rw [hm] at hat e1 e2
      have CD := fun (wx : World) (hx : Below wr.heap.size wr wx) => do_any A' c' (fold1 l o k) m wx (by omega) hs1 (hS.below hx)
      have huo := un_set (fold2 l o k) o.length k (doL (fold1 l o k) (mvPl m)).2 hl2 hlt
      rw [← e2] at huo
      have hul : (fold2 l o k ++ List.replicate (o.length - k) noUn).length = o.length := by rw [List.length_append, hl2, List.length_replicate]; omega
      generalize hdo2 : (doL (fold1 l o k) (mvPl m)).2 = u at *
      simp only [unV] at CD
      have HE1 := Lib.hid e1
      have HUO := Lib.hid huo
      have HCD := Lib.hid CD
      have HUL := Lib.hid hul
      have HF := Lib.hid hf
      clear e1 e2 huo CD hul hl1 hl2 hs1 hc hm hS hf hdo2
      obtain ⟨t0, t1, t2, t3, t4, t5, t6⟩ := opAt hat
      have hb0 := below_alloc (Below.refl wr.heap.size wr) (.cells #[.int .i64 m.C, .int .i64 m.D, .int .i64 m.I, .int .i64 m.M, .int .i64 m.K, .int .i64 m.U, .string m.s] 102)
      go_wp2_with (first | (refine El.load opRow rfl _ rfl b (off + k * 7) rfl m hat #[.int .i64 m.C, .int .i64 m.D, .int .i64 m.I, .int .i64 m.M, .int .i64 m.K, .int .i64 m.U, .string m.s] rfl ?_) | (go_at_call 66; (with_reducible refine (HCD.out _ hb0).mono ?_); rintro e w3 ⟨A3, c3, rfl, hS3, hf3, hb3⟩; have hU3 := (hU.below hb0).below hb3) | (refine El.wpList_setAt unRow rfl _ _ rfl w.heap.size g o.length k _ u (by rw [HUL.out]; exact hU3) (by rw [HUL.out]; exact hlt) #[.int .i64 u.was.n, .int .i64 u.was.u, .string u.was.s, .bool u.had, .bool u.did] rfl rfl rfl ?_; intro w4 hU4 hg4 hs4))
      have hsz := hb0.size
      have hsz3 := hb3.size
      have hwr := hB.size
      have hB3 := below_then hB (below_then hb0 hb3)
      go_roundw
      case rel =>
        refine ⟨k + 1, A3, c3, hlt, by go_num, by rw [HE1.out], ?_, hf3.mono (by omega), ?_, by omega, hB3.grown hg4 hB3.size (fun j e => by have := Option.some.inj e; omega)⟩
        · rw [HE1.out]; exact hS3.keep hf3 hg4 (by omega)
        · have h := hU4
          rw [HUL.out, HUO.out] at h; exact h
      case measure => simp [intOf]; omega
    · obtain rfl : k = o.length := by omega
      have hl2 := fold2_len l o o.length (Nat.le_refl _)
      have hz : fold2 l o o.length ++ List.replicate (o.length - o.length) noUn = fold2 l o o.length := by rw [Nat.sub_self, List.replicate_zero, List.append_nil]
      rw [hz] at hU
      go_wp2
      go_ret2
      have hUf : Frs w.heap.size (some ⟨g, 0, none⟩) := fun a e => by cases e; exact hwg
      have hUs : SlV unE wr (some ⟨g, 0, none⟩) o.length (fold2 l o o.length) := by
        obtain ⟨A2, c2, e, h1, h2, h3⟩ := hU.sl
        simp only [Value.slice.injEq] at e
        obtain ⟨rfl, _, rfl⟩ := e
        exact ⟨h1, h2, by omega⟩
      exact ⟨A', c', some ⟨g, 0, none⟩, o.length, rfl, hS, hUs, hf, hUf, hB⟩
end Go.Proofs.YtfpgfclmmdihjaaGreat

/- The document's Do and Fold. -/
namespace Go.Proofs.YtfpgfclmmdihjaaGreat
open Go.RowKit Tre Cod

theorem refPut_sl (A : Option Addr) (c : Nat) (l : List Pl) (p : Pl) (w : World) (hl : l.length ≤ 900) (hT : SlV plE w A c l) :
    Calls Tryz.prog 91 #[.slice A l.length c, .agg #[.int .i64 p.n, .int .i64 p.u, .string p.s]] w fun e w' => ∃ A' c', e = .returned (.slice A' (putL l p).length c') ∧ SlV plE w' A' c' (putL l p) ∧ Frs w.heap.size A' ∧ Below w.heap.size w w' :=
  (refPut_any A c l p w hl (plSl.1 hT.1) hT.2.2 hT.2.1).mono fun _ _ ⟨A', c', he, ht, hz, hlc, hf, hb⟩ => ⟨A', c', he, ⟨plSl.2 ht, hz, hlc⟩, hf, hb⟩

set_option maxRecDepth 100000 in
set_option maxHeartbeats 4000000 in
theorem refDo_any (A : Option Addr) (c : Nat) (l : List Pl) (m : Mv) (w : World) (hl : l.length ≤ 900) (hT : SlV plE w A c l) :
    Calls Tryz.prog 70 #[.slice A l.length c, .agg #[.int .i64 m.C, .int .i64 m.D, .int .i64 m.I, .int .i64 m.M, .int .i64 m.K, .int .i64 m.U, .string m.s]] w fun e w' => ∃ A' c', e = .returned (.tuple #[.slice A' (doL l (mvPl m)).1.length c', unV (doL l (mvPl m)).2]) ∧ SlV plE w' A' c' (doL l (mvPl m)).1 ∧ Frs w.heap.size A' ∧ Below w.heap.size w w' := by
  have C1 := fun w (hT : SlV plE w A c l) => refAbove_any A c l m.K m.U w (by omega) (plSl.1 hT.1)
  have C4 := fun w (hT : SlV plE w A c l) => refPut_sl A c l ⟨m.K, m.U, m.s⟩ w hl hT
  have hdo : doL l (mvPl m) = if above l m.K m.U = true then (l, noUn) else (putL l ⟨m.K, m.U, m.s⟩, ⟨(Tre.get l m.K).getD zero, (Tre.get l m.K).isSome, true⟩) := rfl
  have hzr : (Tre.get l m.K).isSome = false → (Tre.get l m.K).getD zero = zero := by
    cases Tre.get l m.K with
    | none => intro _; rfl
    | some q => intro h; cases h
  obtain ⟨p, is, hp, hi⟩ := plV_get l m.K
  have C3 := fun w (hT : SlV plE w A c l) => refGet_any A c l m.K w (by omega) (plSl.1 hT.1) p is hp hi
  rw [hp, hi] at hdo hzr
  clear hp hi
  obtain ⟨ab, hab⟩ : ∃ ab, above l m.K m.U = ab := ⟨_, rfl⟩
  rw [hab] at C1 hdo
  clear hab
  have hdo : (doL l (mvPl m)).1 = (if ab = true then l else putL l ⟨m.K, m.U, m.s⟩) ∧ (doL l (mvPl m)).2 = if ab = true then noUn else ⟨p, is, true⟩ := by rw [hdo]; cases ab <;> exact ⟨rfl, rfl⟩
  obtain ⟨hd1, hd2⟩ := hdo
  rw [hd1, hd2]
  clear hd1 hd2 hdo
  generalize putL l ⟨m.K, m.U, m.s⟩ = R at *
  have HC1 := Lib.hid C1
  have HC3 := Lib.hid C3
  have HC4 := Lib.hid C4
  have HZ := Lib.hid hzr
  clear C1 C3 C4 hzr
  go_enter Tryz.func70, Tryz.ntmps70
  go_wp2_with fail
  have hO : opE.In ((w.alloc (.cells #[.int .i64 m.C, .int .i64 m.D, .int .i64 m.I, .int .i64 m.M, .int .i64 m.K, .int .i64 m.U, .string m.s] 102)).alloc (.cells #[.int .i64 0, .int .i64 0, .string ⟨#[]⟩, .bool false, .bool false] 125)) w.heap.size m := (El.In.new (E := opE) w m _ rfl).alloc _
  have hU : unE.In ((w.alloc (.cells #[.int .i64 m.C, .int .i64 m.D, .int .i64 m.I, .int .i64 m.M, .int .i64 m.K, .int .i64 m.U, .string m.s] 102)).alloc (.cells #[.int .i64 0, .int .i64 0, .string ⟨#[]⟩, .bool false, .bool false] 125)) (w.heap.size + 1) noUn := by
    have := El.In.new (E := unE) (w.alloc (.cells #[.int .i64 m.C, .int .i64 m.D, .int .i64 m.I, .int .i64 m.M, .int .i64 m.K, .int .i64 m.U, .string m.s] 102)) noUn #[.int .i64 0, .int .i64 0, .string ⟨#[]⟩, .bool false, .bool false] rfl
    rw [alloc_size] at this; exact this
  have hB := below_alloc (below_alloc (Below.refl w.heap.size w) (.cells #[.int .i64 m.C, .int .i64 m.D, .int .i64 m.I, .int .i64 m.M, .int .i64 m.K, .int .i64 m.U, .string m.s] 102)) (.cells #[.int .i64 0, .int .i64 0, .string ⟨#[]⟩, .bool false, .bool false] 125)
  generalize (w.alloc (.cells #[.int .i64 m.C, .int .i64 m.D, .int .i64 m.I, .int .i64 m.M, .int .i64 m.K, .int .i64 m.U, .string m.s] 102)).alloc (.cells #[.int .i64 0, .int .i64 0, .string ⟨#[]⟩, .bool false, .bool false] 125) = W at *
  have hn0 : w.heap.size ≤ w.heap.size := Nat.le_refl _
  obtain ⟨n0, h0⟩ : ∃ n, w.heap.size = n := ⟨_, rfl⟩
  obtain ⟨n1, h1⟩ : ∃ n, w.heap.size + 1 = n := ⟨_, rfl⟩
  have hn1 : w.heap.size ≤ n1 := by omega
  have h01 : n0 ≠ n1 := by omega
  rw [h1] at hU ⊢
  have hTW := hT.below hB
  rw [h0] at hO hn0 hn1 hB ⊢
  refine (HC3.out _ hTW).mono ?_
  rintro e w1 ⟨rfl, hb1⟩
  replace hO := hO.below hb1
  replace hU := hU.below hb1
  replace hTW := hTW.below hb1
  replace hB : Below n0 w w1 := hB.trans (hb1.mono (by have := hB.size; omega))
  clear hb1
  have hs2 := hB.size
  have hlt1 := hU.lt
  have hlt0 := hO.lt
  have hne0 : n0 ≠ w1.heap.size := by omega
  have hne1 : n1 ≠ w1.heap.size := by omega
  obtain ⟨k0, k1, k2, k3, k4, k5, k6⟩ := opIn7 hO
  go_wp2_with fail
  have hP : plE.In (w1.alloc (.cells #[.int .i64 p.n, .int .i64 p.u, .string p.s] 117)) w1.heap.size p := El.In.new (E := plE) w1 p _ rfl
  have hb3 := below_alloc (Below.refl w1.heap.size w1) (.cells #[.int .i64 p.n, .int .i64 p.u, .string p.s] 117)
  replace hO := hO.below hb3
  replace hU := hU.below hb3
  replace hTW := hTW.below hb3
  replace hB := hB.trans (hb3.mono (by omega))
  have hs3 := hb3.size
  clear hb3 k0 k1 k2 k3 k4 k5 k6
  generalize w1.alloc (.cells #[.int .i64 p.n, .int .i64 p.u, .string p.s] 117) = W2 at *
  generalize w1.heap.size = n2 at *
  refine (HC1.out _ hTW).mono ?_
  rintro e w2 ⟨rfl, hb1⟩
  replace hO := hO.below hb1
  replace hU := hU.below hb1
  replace hP := hP.below hb1
  replace hTW := hTW.below hb1
  replace hB : Below n0 w w2 := hB.trans (hb1.mono (by have := hB.size; omega))
  replace hs3 : n2 ≤ w2.heap.size := by have := hb1.size; omega
  clear hb1
  cases ab
  · simp only [Bool.false_eq_true, if_false]
    have hn12 : some n2 ≠ some n1 := fun e => by have := Option.some.inj e; omega
    have hn10 : some n0 ≠ some n1 := fun e => h01 (Option.some.inj e)
    cases is
    · have hz := HZ.out rfl
      have HZ0 := Lib.hid (show #[.int .i64 0, .int .i64 0, .string ⟨#[]⟩] = (plE.c p).toArray by rw [hz]; rfl)
      clear hz
      go_wp2_with (refine El.store plRow rfl _ _ rfl n2 p #[.int .i64 0, .int .i64 0, .string ⟨#[]⟩] HZ0.out rfl rfl p hP ?_)
      replace hO := hO.rowN n2 #[.int .i64 0, .int .i64 0, .string ⟨#[]⟩] (by omega)
      replace hU := hU.rowN n2 #[.int .i64 0, .int .i64 0, .string ⟨#[]⟩] (by omega)
      replace hP := hP.set p #[.int .i64 0, .int .i64 0, .string ⟨#[]⟩] HZ0.out
      replace hB : Below n0 w (w2.setRow n2 #[.int .i64 0, .int .i64 0, .string ⟨#[]⟩]) := hB.grown (by_row _ _ _) (by have := hB.size; omega) (fun k e => by have := Option.some.inj e; omega)
      replace hs3 : n2 ≤ (w2.setRow n2 #[.int .i64 0, .int .i64 0, .string ⟨#[]⟩]).heap.size := by simpa using hs3
      generalize w2.setRow n2 #[.int .i64 0, .int .i64 0, .string ⟨#[]⟩] = W3 at *
      clear hTW HZ0
      replace hO : opE.In W3.drew n0 m := hO
      replace hU : unE.In W3.drew n1 noUn := hU
      replace hP : plE.In W3.drew n2 p := hP
      replace hB : Below n0 w W3.drew := hB.drew
      have hTW : SlV plE W3.drew A c l := hT.below (by rw [h0]; exact hB)
      have hU0 : n1 < W3.drew.heap.size := hU.lt
      replace hs3 : n2 ≤ W3.drew.heap.size := hs3
      have o456 := opIn7 hO
      go_region_held3 (fun w' => (w'.cell? ⟨n2, 0, none⟩ = some (.int .i64 p.n) ∧ w'.cell? ⟨n2, 1, none⟩ = some (.int .i64 p.u) ∧ w'.cell? ⟨n2, 2, none⟩ = some (.string p.s)) ∧ (w'.cell? ⟨n0, 0, none⟩ = some (.int .i64 m.C) ∧ w'.cell? ⟨n0, 1, none⟩ = some (.int .i64 m.D) ∧ w'.cell? ⟨n0, 2, none⟩ = some (.int .i64 m.I) ∧ w'.cell? ⟨n0, 3, none⟩ = some (.int .i64 m.M) ∧ w'.cell? ⟨n0, 4, none⟩ = some (.int .i64 m.K) ∧ w'.cell? ⟨n0, 5, none⟩ = some (.int .i64 m.U) ∧ w'.cell? ⟨n0, 6, none⟩ = some (.string m.s))) (with_reducible first | exact ⟨plIn3 hP, opIn7 hO⟩ | exact ⟨plIn3 hP5, opIn7 hO5⟩ | exact ⟨plIn3 (hP5.keep (un_put hU5 ⟨p, false, true⟩).2 hn12), opIn7 (hO5.keep (un_put hU5 ⟨p, false, true⟩).2 hn10)⟩) (first | (go_at_call 91; (with_reducible refine (HC4.out _ hTW).mono ?_); rintro e w5 ⟨A', c', rfl, hS, hf, hb5⟩; have hP5 := hP.below hb5; have hO5 := hO.below hb5; have hU5 := hU.below hb5; have hB5 := hB.trans (hb5.mono (by omega)); obtain ⟨u0, u1, u2, u3, u4⟩ := unIn5 hU5; have uf := hU5.frozen))
      all_goals
        have hP6 := un_put hU5 ⟨p, false, true⟩
        go_wp2
        refine El.ret3 unRow hP6.1 rfl rfl rfl rfl _ rfl ?_
        subst h0
        exact ⟨A', c', rfl, hS.keep hf hP6.2 hU0, hf.mono (by omega), hB5.grown hP6.2 hB5.size (fun k e => by have := Option.some.inj e; omega)⟩
    · go_wp2_with fail
      generalize w2 = W3 at *
      clear hTW
      replace hO : opE.In W3.drew n0 m := hO
      replace hU : unE.In W3.drew n1 noUn := hU
      replace hP : plE.In W3.drew n2 p := hP
      replace hB : Below n0 w W3.drew := hB.drew
      have hTW : SlV plE W3.drew A c l := hT.below (by rw [h0]; exact hB)
      have hU0 : n1 < W3.drew.heap.size := hU.lt
      replace hs3 : n2 ≤ W3.drew.heap.size := hs3
      have o456 := opIn7 hO
      go_region_held3 (fun w' => (w'.cell? ⟨n2, 0, none⟩ = some (.int .i64 p.n) ∧ w'.cell? ⟨n2, 1, none⟩ = some (.int .i64 p.u) ∧ w'.cell? ⟨n2, 2, none⟩ = some (.string p.s)) ∧ (w'.cell? ⟨n0, 0, none⟩ = some (.int .i64 m.C) ∧ w'.cell? ⟨n0, 1, none⟩ = some (.int .i64 m.D) ∧ w'.cell? ⟨n0, 2, none⟩ = some (.int .i64 m.I) ∧ w'.cell? ⟨n0, 3, none⟩ = some (.int .i64 m.M) ∧ w'.cell? ⟨n0, 4, none⟩ = some (.int .i64 m.K) ∧ w'.cell? ⟨n0, 5, none⟩ = some (.int .i64 m.U) ∧ w'.cell? ⟨n0, 6, none⟩ = some (.string m.s))) (with_reducible first | exact ⟨plIn3 hP, opIn7 hO⟩ | exact ⟨plIn3 hP5, opIn7 hO5⟩ | exact ⟨plIn3 (hP5.keep (un_put hU5 ⟨p, true, true⟩).2 hn12), opIn7 (hO5.keep (un_put hU5 ⟨p, true, true⟩).2 hn10)⟩) (first | (go_at_call 91; (with_reducible refine (HC4.out _ hTW).mono ?_); rintro e w5 ⟨A', c', rfl, hS, hf, hb5⟩; have hP5 := hP.below hb5; have hO5 := hO.below hb5; have hU5 := hU.below hb5; have hB5 := hB.trans (hb5.mono (by omega)); obtain ⟨u0, u1, u2, u3, u4⟩ := unIn5 hU5; have uf := hU5.frozen))
      all_goals
        have hP6 := un_put hU5 ⟨p, true, true⟩
        go_wp2
        refine El.ret3 unRow hP6.1 rfl rfl rfl rfl _ rfl ?_
        subst h0
        exact ⟨A', c', rfl, hS.keep hf hP6.2 hU0, hf.mono (by omega), hB5.grown hP6.2 hB5.size (fun k e => by have := Option.some.inj e; omega)⟩
  · simp only [if_true]
    have hE := El.Own.empty (E := plE) w2 w2.heap.size (Nat.le_refl _)
    have hb0 := below_alloc (Below.refl w2.heap.size w2) (.cells #[] 117)
    have hU0 := hU.lt
    have hBs := hB.size
    go_wp2_with (first | (at_builtin; refine El.wpList_app plInn rfl _ _ rfl w2.heap.size _ [] l rfl hE A _ c rfl rfl (hTW.1.below hb0) hTW.2.1 (by simp; omega) (by simp) ?_; intro v' w3 hown hg _; have hU3 := (hU.below hb0).keep hg (fun e => by have := hE.rows _ e.symm; omega)) | (refine El.store unRow rfl _ _ rfl n1 noUn #[.int .i64 0, .int .i64 0, .string ⟨#[]⟩, .bool false, .bool false] rfl rfl rfl noUn hU3 ?_))
    obtain ⟨A', c', rfl, hS⟩ := SlV.own hown
    refine El.ret3 unRow (hU3.set noUn _ rfl) rfl rfl rfl rfl _ rfl ?_
    have hB3 : Below n0 w w3 := (hB.trans (hb0.mono (by omega))).grown hg (by simp; omega) (fun k e => by have := hE.rows _ e; omega)
    subst h0
    exact ⟨A', c', rfl, hS.keep hown.frs (by_row _ _ _) hU0, hown.frs.mono (by omega), below_setRow hB3 hn1 _⟩
end Go.Proofs.YtfpgfclmmdihjaaGreat

/- The document's Fold. -/
namespace Go.Proofs.YtfpgfclmmdihjaaGreat
open Go.RowKit Tre Cod

set_option maxRecDepth 100000 in
set_option maxHeartbeats 4000000 in
theorem mvRefFold_any (A : Option Addr) (c : Nat) (l : List Pl) (O : Option Addr) (oc : Nat) (o : List Mv) (w : World) (hl : l.length + o.length ≤ 900) (hT : SlV plE w A c l) (hO : opE.Sl w O o) :
    Calls Tryz.prog 46 #[.slice A l.length c, .slice O o.length oc] w fun e w' => ∃ A' c' U' uc, e = .returned (.tuple #[.slice A' (foldL l (mvs o)).1.length c', .slice U' (foldL l (mvs o)).2.length uc]) ∧ SlV plE w' A' c' (foldL l (mvs o)).1 ∧ SlV unE w' U' uc (foldL l (mvs o)).2 ∧ Frs w.heap.size A' ∧ Frs w.heap.size U' ∧ Below w.heap.size w w' := by
  rw [← fold1_all, ← fold2_all]
  have hE := El.Own.empty (E := plE) w w.heap.size (Nat.le_refl _)
  have hb0 := below_alloc (Below.refl w.heap.size w) (.cells #[] 117)
  go_enter Tryz.func46, Tryz.ntmps46
  go_wp2_with (at_builtin; refine El.wpList_app plInn rfl _ _ rfl w.heap.size _ [] l rfl hE A _ c rfl rfl (hT.1.below hb0) hT.2.1 (by simp; omega) (by simp) ?_; intro v' w2 hown hg _)
  rw [List.nil_append] at hown
  obtain ⟨A1, c1, rfl, hS1⟩ := SlV.own hown
  have hf1 := hown.frs
  have hB2 := below_own hb0 hg hE.rows
  clear hown hg hE hb0
  go_wp2
  go_loopw [0, 6, 7] (fun x y0 y wr => ∃ (k : Nat) (A' : Option Addr) (c' : Nat) (v : Value), k ≤ o.length ∧ y = .int .i64 k ∧ x = .slice A' (fold1 l o k).length c' ∧ y0 = v ∧ SlV plE wr A' c' (fold1 l o k) ∧ Frs w.heap.size A' ∧ unE.Own wr w.heap.size v (fold2 l o k) ∧ Below w.heap.size w wr) (fun _ _ y _ => o.length - (intOf y).toNat)
  case atStart => exact ⟨0, A1, c1, _, Nat.zero_le _, rfl, rfl, rfl, hS1, hf1, El.Own.nil _ _, hB2⟩
  case round =>
    clear hS1 hf1 hB2 hT
    obtain ⟨k, A', c', v, hk, rfl, rfl, rfl, hS, hf, hU, hB⟩ := hrel
    by_cases hlt : k < o.length
    · obtain ⟨b, off, rfl, hbw, hc⟩ := hO (by omega)
      have hat := (hc k hlt).below hB hbw
      obtain ⟨e1, e2⟩ := fold_next l o k hlt
      have hl1 := fold1_len l o k
      have hl2 := fold2_len l o k hk
      obtain ⟨m, hm⟩ : ∃ m, o[k] = m := ⟨_, rfl⟩
      rw [hm] at hat e1 e2
      have CD := refDo_any A' c' (fold1 l o k) m wr (by omega) hS
      generalize hdo2 : (doL (fold1 l o k) (mvPl m)).2 = u at *
      simp only [unV] at CD
      have HE1 := Lib.hid e1
      have HE2 := Lib.hid e2
      have HCD := Lib.hid CD
      have HL2 := Lib.hid hl2
      clear e1 e2 CD hl1 hl2 hc hm hS hf hdo2
      obtain ⟨t0, t1, t2, t3, t4, t5, t6⟩ := opAt hat
      go_wp2_with (first | (refine El.load opRow rfl _ rfl b (off + k * 7) rfl m hat #[.int .i64 m.C, .int .i64 m.D, .int .i64 m.I, .int .i64 m.M, .int .i64 m.K, .int .i64 m.U, .string m.s] rfl ?_) | (go_at_call 70; (with_reducible refine HCD.out.mono ?_); rintro e w3 ⟨A3, c3, rfl, hS3, hf3, hb3⟩; have hbx := below_alloc (below_alloc (Below.refl w3.heap.size w3) (.cells #[.int .i64 u.was.n, .int .i64 u.was.u, .string u.was.s, .bool u.had, .bool u.did] 125)) (.cells #[.int .i64 u.was.n, .int .i64 u.was.u, .string u.was.s, .bool u.had, .bool u.did] 125); have hUx := (hU.below hb3).below hbx; have hux : unE.Sl ((w3.alloc (.cells #[.int .i64 u.was.n, .int .i64 u.was.u, .string u.was.s, .bool u.had, .bool u.did] 125)).alloc (.cells #[.int .i64 u.was.n, .int .i64 u.was.u, .string u.was.s, .bool u.had, .bool u.did] 125)) (some ⟨w3.heap.size + 1, 0, none⟩) [u] := (by have h := (El.In.new (E := unE) (w3.alloc (.cells #[.int .i64 u.was.n, .int .i64 u.was.u, .string u.was.s, .bool u.had, .bool u.did] 125)) u #[.int .i64 u.was.n, .int .i64 u.was.u, .string u.was.s, .bool u.had, .bool u.did] rfl).sl; rw [alloc_size] at h; exact h); have hsx := hbx.size; have hs3 := hb3.size; have hsr := hB.size) | (at_builtin; refine El.wpList_app unInn rfl _ _ rfl w.heap.size _ (fold2 l o k) [u] rfl hUx (some ⟨w3.heap.size + 1, 0, none⟩) 1 1 rfl rfl hux (fun e => by cases e) (by rw [HL2.out]; simp; omega) (by omega) ?_; intro v4 w4 hU4 hg4 _))
      have hrw := hUx.rows
      have hB3 := (below_then hB hb3).trans (hbx.mono (by omega))
      go_roundw
      case rel =>
        refine ⟨k + 1, A3, c3, v4, hlt, by go_num, by rw [HE1.out], rfl, ?_, hf3.mono (by omega), by rw [HE2.out]; exact hU4, hB3.grown hg4 (by omega) hrw⟩
        · rw [HE1.out]
          exact ⟨(hS3.1.below hbx).keep hg4 (fun a e e2 => by have := hf3 a e; have := (hU.lt _ e2.symm).2; omega), hS3.2⟩
      case measure => simp [intOf]; omega
    · obtain rfl : k = o.length := by omega
      obtain ⟨U', uc, rfl, hUs⟩ := SlV.own hU
      have hUf := hU.frs
      go_wp2
      go_ret2
      exact ⟨A', c', U', uc, rfl, hS, hUs, hf, hUf, hB⟩
end Go.Proofs.YtfpgfclmmdihjaaGreat

/- The same places, operations, undos: the document's answers. -/
namespace Go.Proofs.YtfpgfclmmdihjaaGreat
open Go.RowKit Tre Cod

theorem pl_unlike {p q : Pl} (h : ¬ p = q) : ((p.n == q.n) = false) ∨ (p.n = q.n ∧ (p.u == q.u) = false) ∨ (p.n = q.n ∧ p.u = q.u ∧ (p.s.toList == q.s.toList) = false) := by
  by_cases h0 : p.n = q.n
  rotate_left
  · left; exact beq_eq_false_iff_ne.2 h0
  by_cases h1 : p.u = q.u
  rotate_left
  · right; left; exact ⟨h0, beq_eq_false_iff_ne.2 h1⟩
  by_cases h2 : p.s = q.s
  · exfalso; apply h
    obtain ⟨a, b, c⟩ := p; obtain ⟨a', b', c'⟩ := q; simp only at h0 h1 h2; rw [h0, h1, h2]
  · right; right; exact ⟨h0, h1, ne_beq h2⟩
theorem mv_unlike {p q : Mv} (h : ¬ p = q) : ((p.C == q.C) = false) ∨ (p.C = q.C ∧ (p.D == q.D) = false) ∨ (p.C = q.C ∧ p.D = q.D ∧ (p.I == q.I) = false) ∨ (p.C = q.C ∧ p.D = q.D ∧ p.I = q.I ∧ (p.M == q.M) = false) ∨ (p.C = q.C ∧ p.D = q.D ∧ p.I = q.I ∧ p.M = q.M ∧ (p.K == q.K) = false) ∨ (p.C = q.C ∧ p.D = q.D ∧ p.I = q.I ∧ p.M = q.M ∧ p.K = q.K ∧ (p.U == q.U) = false) ∨ (p.C = q.C ∧ p.D = q.D ∧ p.I = q.I ∧ p.M = q.M ∧ p.K = q.K ∧ p.U = q.U ∧ (p.s.toList == q.s.toList) = false) := by
  by_cases h0 : p.C = q.C
  rotate_left
  · left; exact beq_eq_false_iff_ne.2 h0
  by_cases h1 : p.D = q.D
  rotate_left
  · right; left; exact ⟨h0, beq_eq_false_iff_ne.2 h1⟩
  by_cases h2 : p.I = q.I
  rotate_left
  · right; right; left; exact ⟨h0, h1, beq_eq_false_iff_ne.2 h2⟩
  by_cases h3 : p.M = q.M
  rotate_left
  · right; right; right; left; exact ⟨h0, h1, h2, beq_eq_false_iff_ne.2 h3⟩
  by_cases h4 : p.K = q.K
  rotate_left
  · right; right; right; right; left; exact ⟨h0, h1, h2, h3, beq_eq_false_iff_ne.2 h4⟩
  by_cases h5 : p.U = q.U
  rotate_left
  · right; right; right; right; right; left; exact ⟨h0, h1, h2, h3, h4, beq_eq_false_iff_ne.2 h5⟩
  by_cases h6 : p.s = q.s
  · exfalso; apply h
    obtain ⟨a, b, c, d, e, f, g⟩ := p; obtain ⟨a', b', c', d', e', f', g'⟩ := q; simp only at h0 h1 h2 h3 h4 h5 h6; rw [h0, h1, h2, h3, h4, h5, h6]
  · right; right; right; right; right; right; exact ⟨h0, h1, h2, h3, h4, h5, ne_beq h6⟩
theorem un_unlike {p q : Un} (h : ¬ p = q) : ((p.was.n == q.was.n) = false) ∨ (p.was.n = q.was.n ∧ (p.was.u == q.was.u) = false) ∨ (p.was.n = q.was.n ∧ p.was.u = q.was.u ∧ (p.was.s.toList == q.was.s.toList) = false) ∨ (p.was.n = q.was.n ∧ p.was.u = q.was.u ∧ p.was.s = q.was.s ∧ (p.had == q.had) = false) ∨ (p.was.n = q.was.n ∧ p.was.u = q.was.u ∧ p.was.s = q.was.s ∧ p.had = q.had ∧ (p.did == q.did) = false) := by
  by_cases h0 : p.was.n = q.was.n
  rotate_left
  · left; exact beq_eq_false_iff_ne.2 h0
  by_cases h1 : p.was.u = q.was.u
  rotate_left
  · right; left; exact ⟨h0, beq_eq_false_iff_ne.2 h1⟩
  by_cases h2 : p.was.s = q.was.s
  rotate_left
  · right; right; left; exact ⟨h0, h1, ne_beq h2⟩
  by_cases h3 : p.had = q.had
  rotate_left
  · right; right; right; left; exact ⟨h0, h1, h2, beq_eq_false_iff_ne.2 h3⟩
  by_cases h4 : p.did = q.did
  · exfalso; apply h
    obtain ⟨⟨a, b, c⟩, d, e⟩ := p; obtain ⟨⟨a', b', c'⟩, d', e'⟩ := q; simp only at h0 h1 h2 h3 h4; rw [h0, h1, h2, h3, h4]
  · right; right; right; right; exact ⟨h0, h1, h2, h3, beq_eq_false_iff_ne.2 h4⟩
theorem plAtE {w : World} {b o : Nat} {p : Pl} (h : plE.At w b o p) : w.cell? ⟨b, o, none⟩ = some (.int .i64 p.n) ∧ w.cell? ⟨b, o + 1, none⟩ = some (.int .i64 p.u) ∧ w.cell? ⟨b, o + 2, none⟩ = some (.string p.s) := ⟨h 0 _ rfl, h 1 _ rfl, h 2 _ rfl⟩

set_option maxRecDepth 100000 in
set_option maxHeartbeats 4000000 in
theorem samePl_any (A1 A2 : Option Addr) (c1 c2 : Nat) (l m : List Pl) (w : World) (hl : l.length ≤ 50000) (hm : m.length ≤ 50000) (h1 : plE.Sl w A1 l) (h2 : plE.Sl w A2 m) :
    Calls Tryz.prog 49 #[.slice A1 l.length c1, .slice A2 m.length c2] w fun e w' => ∃ b, e = .returned (.bool b) ∧ (b = true ↔ l = m) ∧ Below w.heap.size w w' := by
  by_cases hlen : l.length = m.length
  · rw [← hlen]
    have HL := Lib.hid hlen
    clear hlen
    go_enter Tryz.func49, Tryz.ntmps49
    go_wp2
    go_loopw [5] (fun x wr => ∃ k : Nat, k ≤ l.length ∧ x = .int .i64 k ∧ (∀ j (hj : j < k) (ha : j < l.length) (hb : j < m.length), l[j] = m[j]) ∧ Below w.heap.size w wr) (fun x _ => l.length - (intOf x).toNat)
    case atStart => exact ⟨0, Nat.zero_le _, rfl, fun j hj => by omega, Below.refl _ _⟩
    case round =>
      obtain ⟨k, hk, rfl, hall, hnx⟩ := hrel
      by_cases hlt : k < l.length
      · obtain ⟨b1, o1, hA1, hw1, hc1⟩ := h1 (by omega)
        have hlt2 : k < m.length := by have := HL.out; omega
        obtain ⟨b2, o2, hA2, hw2, hc2⟩ := h2 (by omega)
        have hat : plE.At wr b1 (o1 + k * 3) l[k] := (hc1 k hlt).below hnx hw1
        have hat2 : plE.At wr b2 (o2 + k * 3) m[k] := (hc2 k hlt2).below hnx hw2
        obtain ⟨p, hp⟩ : ∃ p, l[k] = p := ⟨_, rfl⟩
        obtain ⟨q, hq⟩ : ∃ q, m[k] = q := ⟨_, rfl⟩
        rw [hp] at hat
        rw [hq] at hat2
        have HP := Lib.hid hp
        have HQ := Lib.hid hq
        have HA := Lib.hid hall
        obtain ⟨q0, q1, q2⟩ := plAtE hat
        obtain ⟨r0, r1, r2⟩ := plAtE hat2
        clear hc1 hc2 hp hq h1 h2 hall hat hat2
        subst hA1 hA2
        by_cases hpq : p = q
        · have HE := Lib.hid hpq
          subst hpq
          go_wp2
          go_quiet (fail)
          go_wp2
          go_roundw
          case rel =>
            refine ⟨k + 1, by omega, by go_num, fun j hj ha hb => ?_, below_drew hnx _⟩
            by_cases e : j = k
            · subst e; rw [HP.out, HQ.out]
            · exact HA.out j (by omega) ha hb
          case measure => simp [intOf]; omega
        · have HN := Lib.hid hpq
          rcases pl_unlike hpq with hu | ⟨a0, hu⟩ | ⟨a0, a1, hu⟩
          all_goals
            clear hpq
            go_wp2
            go_quiet (fail)
            go_wp2
            go_ret
            refine ⟨false, rfl, ⟨fun h => (by cases h), fun h => ?_⟩, below_drew hnx _⟩
            subst h
            exact absurd (HP.out.symm.trans HQ.out) HN.out
      · obtain rfl : k = l.length := by omega
        have HA := Lib.hid hall
        clear hall
        go_wp2
        go_ret
        exact ⟨true, rfl, ⟨fun _ => List.ext_getElem HL.out fun j ha hb => HA.out j ha ha hb, fun _ => rfl⟩, hnx⟩
  · have HL := Lib.hid hlen
    have hne : ¬ m.length = l.length := fun e => hlen e.symm
    go_enter Tryz.func49, Tryz.ntmps49
    go_wp2
    go_ret
    exact ⟨false, rfl, ⟨fun h => (by cases h), fun h => absurd (congrArg List.length h) HL.out⟩, Below.refl _ _⟩
end Go.Proofs.YtfpgfclmmdihjaaGreat

/- The same operations and undos: the document's answers. -/
namespace Go.Proofs.YtfpgfclmmdihjaaGreat
open Go.RowKit Tre Cod

set_option maxRecDepth 100000 in
set_option maxHeartbeats 4000000 in
theorem sameUn_any (A1 A2 : Option Addr) (c1 c2 : Nat) (l m : List Un) (w : World) (hl : l.length ≤ 50000) (hm : m.length ≤ 50000) (h1 : unE.Sl w A1 l) (h2 : unE.Sl w A2 m) :
    Calls Tryz.prog 51 #[.slice A1 l.length c1, .slice A2 m.length c2] w fun e w' => ∃ b, e = .returned (.bool b) ∧ (b = true ↔ l = m) ∧ Below w.heap.size w w' := by
  by_cases hlen : l.length = m.length
  · rw [← hlen]
    have HL := Lib.hid hlen
    clear hlen
    go_enter Tryz.func51, Tryz.ntmps51
    go_wp2
    go_loopw [5] (fun x wr => ∃ k : Nat, k ≤ l.length ∧ x = .int .i64 k ∧ (∀ j (hj : j < k) (ha : j < l.length) (hb : j < m.length), l[j] = m[j]) ∧ Below w.heap.size w wr) (fun x _ => l.length - (intOf x).toNat)
    case atStart => exact ⟨0, Nat.zero_le _, rfl, fun j hj => by omega, Below.refl _ _⟩
    case round =>
      obtain ⟨k, hk, rfl, hall, hnx⟩ := hrel
      by_cases hlt : k < l.length
      · obtain ⟨b1, o1, hA1, hw1, hc1⟩ := h1 (by omega)
        have hlt2 : k < m.length := by have := HL.out; omega
        obtain ⟨b2, o2, hA2, hw2, hc2⟩ := h2 (by omega)
        have hat : unE.At wr b1 (o1 + k * 5) l[k] := (hc1 k hlt).below hnx hw1
        have hat2 : unE.At wr b2 (o2 + k * 5) m[k] := (hc2 k hlt2).below hnx hw2
        obtain ⟨p, hp⟩ : ∃ p, l[k] = p := ⟨_, rfl⟩
        obtain ⟨q, hq⟩ : ∃ q, m[k] = q := ⟨_, rfl⟩
        rw [hp] at hat
        rw [hq] at hat2
        have HP := Lib.hid hp
        have HQ := Lib.hid hq
        have HA := Lib.hid hall
        obtain ⟨q0, q1, q2, q3, q4⟩ := unAt hat
        obtain ⟨r0, r1, r2, r3, r4⟩ := unAt hat2
        clear hc1 hc2 hp hq h1 h2 hall hat hat2
        subst hA1 hA2
        by_cases hpq : p = q
        · have HE := Lib.hid hpq
          subst hpq
          go_wp2
          go_quiet (fail)
          go_wp2
          go_roundw
          case rel =>
            refine ⟨k + 1, by omega, by go_num, fun j hj ha hb => ?_, below_drew hnx _⟩
            by_cases e : j = k
            · subst e; rw [HP.out, HQ.out]
            · exact HA.out j (by omega) ha hb
          case measure => simp [intOf]; omega
        · have HN := Lib.hid hpq
          rcases un_unlike hpq with hu | ⟨a0, hu⟩ | ⟨a0, a1, hu⟩ | ⟨a0, a1, a2, hu⟩ | ⟨a0, a1, a2, a3, hu⟩
          all_goals
            clear hpq
            go_wp2
            go_quiet (fail)
            go_wp2
            go_ret
            refine ⟨false, rfl, ⟨fun h => (by cases h), fun h => ?_⟩, below_drew hnx _⟩
            subst h
            exact absurd (HP.out.symm.trans HQ.out) HN.out
      · obtain rfl : k = l.length := by omega
        have HA := Lib.hid hall
        clear hall
        go_wp2
        go_ret
        exact ⟨true, rfl, ⟨fun _ => List.ext_getElem HL.out fun j ha hb => HA.out j ha ha hb, fun _ => rfl⟩, hnx⟩
  · have HL := Lib.hid hlen
    have hne : ¬ m.length = l.length := fun e => hlen e.symm
    go_enter Tryz.func51, Tryz.ntmps51
    go_wp2
    go_ret
    exact ⟨false, rfl, ⟨fun h => (by cases h), fun h => absurd (congrArg List.length h) HL.out⟩, Below.refl _ _⟩

set_option maxRecDepth 100000 in
set_option maxHeartbeats 4000000 in
theorem sameOp_any (A1 A2 : Option Addr) (c1 c2 : Nat) (l m : List Mv) (w : World) (hl : l.length ≤ 50000) (hm : m.length ≤ 50000) (h1 : opE.Sl w A1 l) (h2 : opE.Sl w A2 m) :
    Calls Tryz.prog 50 #[.slice A1 l.length c1, .slice A2 m.length c2] w fun e w' => ∃ b, e = .returned (.bool b) ∧ (b = true ↔ l = m) ∧ Below w.heap.size w w' := by
  by_cases hlen : l.length = m.length
  · rw [← hlen]
    have HL := Lib.hid hlen
    clear hlen
    go_enter Tryz.func50, Tryz.ntmps50
    go_wp2
    go_loopw [5] (fun x wr => ∃ k : Nat, k ≤ l.length ∧ x = .int .i64 k ∧ (∀ j (hj : j < k) (ha : j < l.length) (hb : j < m.length), l[j] = m[j]) ∧ Below w.heap.size w wr) (fun x _ => l.length - (intOf x).toNat)
    case atStart => exact ⟨0, Nat.zero_le _, rfl, fun j hj => by omega, Below.refl _ _⟩
    case round =>
      obtain ⟨k, hk, rfl, hall, hnx⟩ := hrel
      by_cases hlt : k < l.length
      · obtain ⟨b1, o1, hA1, hw1, hc1⟩ := h1 (by omega)
        have hlt2 : k < m.length := by have := HL.out; omega
        obtain ⟨b2, o2, hA2, hw2, hc2⟩ := h2 (by omega)
        have hat : opE.At wr b1 (o1 + k * 7) l[k] := (hc1 k hlt).below hnx hw1
        have hat2 : opE.At wr b2 (o2 + k * 7) m[k] := (hc2 k hlt2).below hnx hw2
        obtain ⟨p, hp⟩ : ∃ p, l[k] = p := ⟨_, rfl⟩
        obtain ⟨q, hq⟩ : ∃ q, m[k] = q := ⟨_, rfl⟩
        rw [hp] at hat
        rw [hq] at hat2
        have HP := Lib.hid hp
        have HQ := Lib.hid hq
        have HA := Lib.hid hall
        obtain ⟨q0, q1, q2, q3, q4, q5, q6⟩ := opAt hat
        obtain ⟨r0, r1, r2, r3, r4, r5, r6⟩ := opAt hat2
        clear hc1 hc2 hp hq h1 h2 hall hat hat2
        subst hA1 hA2
        by_cases hpq : p = q
        · have HE := Lib.hid hpq
          subst hpq
          go_wp2
          go_quiet (fail)
          go_wp2
          go_roundw
          case rel =>
            refine ⟨k + 1, by omega, by go_num, fun j hj ha hb => ?_, below_drew hnx _⟩
            by_cases e : j = k
            · subst e; rw [HP.out, HQ.out]
            · exact HA.out j (by omega) ha hb
          case measure => simp [intOf]; omega
        · have HN := Lib.hid hpq
          rcases mv_unlike hpq with hu | ⟨a0, hu⟩ | ⟨a0, a1, hu⟩ | ⟨a0, a1, a2, hu⟩ | ⟨a0, a1, a2, a3, hu⟩ | ⟨a0, a1, a2, a3, a4, hu⟩ | ⟨a0, a1, a2, a3, a4, a5, hu⟩
          all_goals
            clear hpq
            go_wp2
            go_quiet (fail)
            go_wp2
            go_ret
            refine ⟨false, rfl, ⟨fun h => (by cases h), fun h => ?_⟩, below_drew hnx _⟩
            subst h
            exact absurd (HP.out.symm.trans HQ.out) HN.out
      · obtain rfl : k = l.length := by omega
        have HA := Lib.hid hall
        clear hall
        go_wp2
        go_ret
        exact ⟨true, rfl, ⟨fun _ => List.ext_getElem HL.out fun j ha hb => HA.out j ha ha hb, fun _ => rfl⟩, hnx⟩
  · have HL := Lib.hid hlen
    have hne : ¬ m.length = l.length := fun e => hlen e.symm
    go_enter Tryz.func50, Tryz.ntmps50
    go_wp2
    go_ret
    exact ⟨false, rfl, ⟨fun h => (by cases h), fun h => absurd (congrArg List.length h) HL.out⟩, Below.refl _ _⟩
end Go.Proofs.YtfpgfclmmdihjaaGreat

/- Lists that rise by moments: what is put in, what is cut off, and the tree behind them. No program in it. -/
namespace Pst
open Tre

section
variable {α : Type} (c d : α → Int)
/-- The moment of x is ahead of that of y. -/
def bef (x y : α) : Prop := c x < c y ∨ (c x = c y ∧ d x < d y)
instance (x y : α) : Decidable (bef c d x y) := by unfold bef; infer_instance
def same (x y : α) : Prop := c x = c y ∧ d x = d y
instance (x y : α) : Decidable (same c d x y) := by unfold same; infer_instance
variable {c d}
theorem bef_trans {x y z : α} (h : bef c d x y) (k : bef c d y z) : bef c d x z := by unfold bef at *; omega
theorem bef_irrefl {x y : α} (h : same c d x y) : ¬ bef c d x y := by unfold bef same at *; omega
theorem bef_tri (x y : α) : bef c d x y ∨ same c d x y ∨ bef c d y x := by unfold bef same; omega
theorem bef_anti {x y : α} (h : bef c d x y) : ¬ bef c d y x := by unfold bef at *; omega
theorem bef_same {x y z : α} (h : bef c d x y) (k : same c d y z) : bef c d x z := by unfold bef same at *; omega
theorem not_bef {x y : α} (h : ¬ bef c d x y) (k : ¬ same c d x y) : bef c d y x := by
  rcases bef_tri (c := c) (d := d) x y with h1 | h1 | h1
  · exact absurd h1 h
  · exact absurd h1 k
  · exact h1

variable (c d)
def Ris (l : List α) : Prop := l.Pairwise (bef c d)
/-- How many stand ahead of o's moment. -/
def pos (l : List α) (o : α) : Nat := (l.takeWhile fun x => decide (bef c d x o)).length
def insL (l : List α) (o : α) : List α := (l.take (pos c d l o) ++ [o]) ++ l.drop (pos c d l o)
def has (l : List α) (o : α) : Bool := match l[pos c d l o]? with
  | some x => decide (same c d x o)
  | none => false
def addL (l : List α) (o : α) : List α := if has c d l o = true then l else insL c d l o
variable {c d}
theorem pos_le (l : List α) (o : α) : pos c d l o ≤ l.length := by
  unfold pos
  induction l with
  | nil => exact Nat.le_refl _
  | cons p l ih =>
    by_cases h : bef c d p o
    · rw [List.takeWhile_cons_of_pos (by simpa using h)]; simpa using ih
    · rw [List.takeWhile_cons_of_neg (by simpa using h)]; exact Nat.zero_le _
theorem pos_before : ∀ (l : List α) (o : α) (i : Nat) (h : i < l.length), i < pos c d l o → bef c d l[i] o
  | p :: l, o, i, h, hi => by
    unfold pos at hi
    by_cases hp : bef c d p o
    · rw [List.takeWhile_cons_of_pos (by simpa using hp)] at hi
      cases i with
      | zero => exact hp
      | succ i => exact pos_before l o i (by simpa using h) (by unfold pos; simpa using hi)
    · rw [List.takeWhile_cons_of_neg (by simpa using hp)] at hi; simp at hi
theorem pos_at : ∀ (l : List α) (o : α) (h : pos c d l o < l.length), ¬ bef c d l[pos c d l o] o
  | p :: l, o, h => by
    by_cases hp : bef c d p o
    · have e : pos c d (p :: l) o = pos c d l o + 1 := by unfold pos; rw [List.takeWhile_cons_of_pos (by simpa using hp)]; rfl
      simp only [e, List.getElem_cons_succ]
      exact pos_at l o (by rw [e] at h; simpa using h)
    · have e : pos c d (p :: l) o = 0 := by unfold pos; rw [List.takeWhile_cons_of_neg (by simpa using hp)]; rfl
      simp only [e, List.getElem_cons_zero]; exact hp
theorem pos_eq {l : List α} {o : α} {k : Nat} (hk : k ≤ l.length) (h1 : ∀ i (h : i < l.length), i < k → bef c d l[i] o) (h2 : ∀ (h : k < l.length), ¬ bef c d l[k] o) : k = pos c d l o := by
  rcases Nat.lt_trichotomy k (pos c d l o) with h | h | h
  · have hl : k < l.length := Nat.lt_of_lt_of_le h (pos_le l o)
    exact absurd (pos_before l o k hl h) (h2 hl)
  · exact h
  · have hl : pos c d l o < l.length := Nat.lt_of_lt_of_le h hk
    exact absurd (h1 _ hl h) (pos_at l o hl)
theorem ris_get {l : List α} (h : Ris c d l) {i j : Nat} (hi : i < l.length) (hj : j < l.length) (hij : i < j) : bef c d l[i] l[j] := List.pairwise_iff_getElem.1 h i j hi hj hij
theorem has_iff {l : List α} (hr : Ris c d l) (o : α) : has c d l o = true ↔ ∃ x ∈ l, same c d x o := by
  unfold has
  constructor
  · intro h
    rcases e : l[pos c d l o]? with _ | x
    · rw [e] at h; cases h
    · rw [e] at h
      exact ⟨x, List.mem_of_getElem? e, of_decide_eq_true h⟩
  · rintro ⟨x, hx, hs⟩
    obtain ⟨i, hi, rfl⟩ := List.getElem_of_mem hx
    have e : i = pos c d l o := pos_eq (Nat.le_of_lt hi) (fun j hj hji => bef_same (ris_get hr hj hi hji) hs) (fun _ => bef_irrefl hs)
    rw [← e, List.getElem?_eq_getElem hi]
    exact decide_eq_true hs
theorem mem_ins (l : List α) (o x : α) : x ∈ insL c d l o ↔ (x = o ∨ x ∈ l) := by
  unfold insL
  rw [List.mem_append, List.mem_append, List.mem_singleton]
  constructor
  · rintro ((h | h) | h)
    · exact Or.inr (List.mem_of_mem_take h)
    · exact Or.inl h
    · exact Or.inr (List.mem_of_mem_drop h)
  · rintro (h | h)
    · exact Or.inl (Or.inr h)
    · rw [← List.take_append_drop (pos c d l o) l, List.mem_append] at h
      rcases h with h | h
      · exact Or.inl (Or.inl h)
      · exact Or.inr h
theorem take_bef (l : List α) (o : α) : ∀ x ∈ l.take (pos c d l o), bef c d x o := fun x hx => by
  obtain ⟨i, hi, rfl⟩ := List.getElem_of_mem hx
  rw [List.length_take] at hi
  rw [List.getElem_take]
  exact pos_before l o i (by omega) (by omega)
theorem drop_bef {l : List α} (hr : Ris c d l) {o : α} (hn : has c d l o = false) : ∀ x ∈ l.drop (pos c d l o), bef c d o x := fun x hx => by
  obtain ⟨i, hi, rfl⟩ := List.getElem_of_mem hx
  rw [List.length_drop] at hi
  rw [List.getElem_drop]
  have hl : pos c d l o < l.length := by omega
  have h1 := pos_at l o hl
  have h2 : ¬ same c d l[pos c d l o] o := fun e => by
    have := (has_iff hr o).2 ⟨_, List.getElem_mem hl, e⟩
    rw [hn] at this; cases this
  have h3 := not_bef h1 h2
  by_cases e : i = 0
  · subst e; exact h3
  · exact bef_trans h3 (ris_get hr hl (by omega) (by omega))
theorem ris_ins {l : List α} (hr : Ris c d l) {o : α} (hn : has c d l o = false) : Ris c d (insL c d l o) := by
  unfold Ris insL
  rw [List.pairwise_append, List.pairwise_append]
  refine ⟨⟨hr.sublist (List.take_sublist _ _), List.pairwise_singleton _ _, fun x hx y hy => ?_⟩, hr.sublist (List.drop_sublist _ _), fun x hx y hy => ?_⟩
  · rw [List.mem_singleton] at hy; subst hy; exact take_bef l y x hx
  · have h2 := drop_bef hr hn y hy
    rcases List.mem_append.1 hx with h | h
    · exact bef_trans (take_bef l o x h) h2
    · rw [List.mem_singleton] at h; subst h; exact h2
theorem ris_add {l : List α} (hr : Ris c d l) (o : α) : Ris c d (addL c d l o) := by
  unfold addL
  by_cases h : has c d l o = true
  · rw [if_pos h]; exact hr
  · rw [if_neg h]; exact ris_ins hr (by simpa using h)
theorem ris_ext : ∀ {l m : List α}, Ris c d l → Ris c d m → (∀ x, x ∈ l ↔ x ∈ m) → l = m
  | [], [], _, _, _ => rfl
  | [], q :: m, _, _, h => absurd ((h q).2 (by simp)) (by simp)
  | p :: l, [], _, _, h => absurd ((h p).1 (by simp)) (by simp)
  | p :: l, q :: m, hl, hm, h => by
    have hl' := List.pairwise_cons.1 hl
    have hm' := List.pairwise_cons.1 hm
    have e : p = q := by
      rcases List.mem_cons.1 ((h p).1 (by simp)) with e | e
      · exact e
      · rcases List.mem_cons.1 ((h q).2 (by simp)) with e2 | e2
        · exact e2.symm
        · exact absurd (hl'.1 q e2) (bef_anti (hm'.1 p e))
    subst e
    congr 1
    refine ris_ext hl'.2 hm'.2 fun r => ⟨fun hr => ?_, fun hr => ?_⟩
    · rcases List.mem_cons.1 ((h r).1 (by simp [hr])) with e | e
      · subst e; exact absurd (hl'.1 r hr) (bef_irrefl ⟨rfl, rfl⟩)
      · exact e
    · rcases List.mem_cons.1 ((h r).2 (by simp [hr])) with e | e
      · subst e; exact absurd (hm'.1 r hr) (bef_irrefl ⟨rfl, rfl⟩)
      · exact e

/-- No two have one moment. -/
def Unlike (l : List α) : Prop := l.Pairwise fun x y => ¬ same c d x y
theorem add_all : ∀ (l a : List α), Ris c d a → (∀ x ∈ l, ∀ y ∈ a, ¬ same c d y x) → Unlike (c := c) (d := d) l → Ris c d (l.foldl (addL c d) a) ∧ ∀ x, x ∈ l.foldl (addL c d) a ↔ (x ∈ a ∨ x ∈ l)
  | [], a, hr, _, _ => ⟨hr, fun x => by simp⟩
  | o :: l, a, hr, hx, hu => by
    have hu' := List.pairwise_cons.1 hu
    have hn : has c d a o = false := by
      rcases h : has c d a o with _ | _
      · rfl
      · obtain ⟨y, hy, hs⟩ := (has_iff hr o).1 h
        exact absurd hs (hx o (by simp) y hy)
    have he : addL c d a o = insL c d a o := by unfold addL; rw [hn]; rfl
    rw [List.foldl_cons, he]
    obtain ⟨h1, h2⟩ := add_all l (insL c d a o) (ris_ins hr hn) (fun x hxl y hy => by
      rcases (mem_ins a o y).1 hy with rfl | hy
      · exact hu'.1 x hxl
      · exact hx x (by simp [hxl]) y hy) hu'.2
    refine ⟨h1, fun x => ?_⟩
    rw [h2, mem_ins, List.mem_cons]
    constructor
    · rintro ((h | h) | h)
      · exact Or.inr (Or.inl h)
      · exact Or.inl h
      · exact Or.inr (Or.inr h)
    · rintro (h | h | h)
      · exact Or.inl (Or.inr h)
      · exact Or.inl (Or.inl h)
      · exact Or.inr h
/-- In whatever order they come, the list is one. -/
theorem add_order {l m : List α} (hu : Unlike (c := c) (d := d) l) (hv : Unlike (c := c) (d := d) m) (h : ∀ x, x ∈ l ↔ x ∈ m) : l.foldl (addL c d) [] = m.foldl (addL c d) [] := by
  obtain ⟨h1, h2⟩ := add_all l [] List.Pairwise.nil (fun x _ y hy => by cases hy) hu
  obtain ⟨h3, h4⟩ := add_all m [] List.Pairwise.nil (fun x _ y hy => by cases hy) hv
  exact ris_ext h1 h3 fun x => by rw [h2, h4]; simp [h x]
theorem ins_len (l : List α) (o : α) : (insL c d l o).length = l.length + 1 := by
  have := pos_le (c := c) (d := d) l o
  unfold insL
  rw [List.length_append, List.length_append, List.length_take, List.length_drop, List.length_singleton]; omega

variable (c)
/-- How many have counters up to t. -/
def upto (l : List α) (t : Int) : Nat := (l.takeWhile fun x => decide (c x ≤ t)).length
variable {c}
theorem upto_le (l : List α) (t : Int) : upto c l t ≤ l.length := by
  unfold upto
  induction l with
  | nil => exact Nat.le_refl _
  | cons p l ih =>
    by_cases h : c p ≤ t
    · rw [List.takeWhile_cons_of_pos (by simpa using h)]; simpa using ih
    · rw [List.takeWhile_cons_of_neg (by simpa using h)]; exact Nat.zero_le _
theorem upto_before : ∀ (l : List α) (t : Int) (i : Nat) (h : i < l.length), i < upto c l t → c l[i] ≤ t
  | p :: l, t, i, h, hi => by
    unfold upto at hi
    by_cases hp : c p ≤ t
    · rw [List.takeWhile_cons_of_pos (by simpa using hp)] at hi
      cases i with
      | zero => exact hp
      | succ i => exact upto_before l t i (by simpa using h) (by unfold upto; simpa using hi)
    · rw [List.takeWhile_cons_of_neg (by simpa using hp)] at hi; simp at hi
theorem upto_at : ∀ (l : List α) (t : Int) (h : upto c l t < l.length), t < c l[upto c l t]
  | p :: l, t, h => by
    by_cases hp : c p ≤ t
    · have e : upto c (p :: l) t = upto c l t + 1 := by unfold upto; rw [List.takeWhile_cons_of_pos (by simpa using hp)]; rfl
      simp only [e, List.getElem_cons_succ]
      exact upto_at l t (by rw [e] at h; simpa using h)
    · have e : upto c (p :: l) t = 0 := by unfold upto; rw [List.takeWhile_cons_of_neg (by simpa using hp)]; rfl
      simp only [e, List.getElem_cons_zero]; omega
theorem upto_eq {l : List α} {t : Int} {k : Nat} (hk : k ≤ l.length) (h1 : ∀ i (h : i < l.length), i < k → c l[i] ≤ t) (h2 : ∀ (h : k < l.length), t < c l[k]) : k = upto c l t := by
  rcases Nat.lt_trichotomy k (upto c l t) with h | h | h
  · have hl : k < l.length := Nat.lt_of_lt_of_le h (upto_le l t)
    have := upto_before l t k hl h
    have := h2 hl
    omega
  · exact h
  · have hl : upto c l t < l.length := Nat.lt_of_lt_of_le h hk
    have := h1 _ hl h
    have := upto_at l t hl
    omega
theorem ris_c {l : List α} (hr : Ris c d l) {i j : Nat} (hi : i < l.length) (hj : j < l.length) (hij : i ≤ j) : c l[i] ≤ c l[j] := by
  by_cases e : i = j
  · subst e; exact Int.le_refl _
  · have := ris_get hr hi hj (by omega)
    unfold bef at this; omega
theorem upto_drop {l : List α} (hr : Ris c d l) (t : Int) : ∀ x ∈ l.drop (upto c l t), t < c x := fun x hx => by
  obtain ⟨i, hi, rfl⟩ := List.getElem_of_mem hx
  rw [List.length_drop] at hi
  rw [List.getElem_drop]
  have hl : upto c l t < l.length := by omega
  have h1 := upto_at l t hl
  have h2 := ris_c hr hl (j := upto c l t + i) (by omega) (by omega)
  omega
theorem upto_take (l : List α) (t : Int) : ∀ x ∈ l.take (upto c l t), c x ≤ t := fun x hx => by
  obtain ⟨i, hi, rfl⟩ := List.getElem_of_mem hx
  rw [List.length_take] at hi
  rw [List.getElem_take]
  exact upto_before l t i (by omega) (by omega)
/-- What comes behind t goes in behind what is cut off. -/
theorem pos_cut {l : List α} (hr : Ris c d l) {t : Int} {o : α} (ho : t < c o) : pos c d l o = upto c l t + pos c d (l.drop (upto c l t)) o := by
  have h1 := upto_le (c := c) l t
  have h2 := pos_le (c := c) (d := d) (l.drop (upto c l t)) o
  rw [List.length_drop] at h2
  refine (pos_eq (by omega) (fun i hi hlt => ?_) (fun h => ?_)).symm
  · by_cases h : i < upto c l t
    · have := upto_before l t i hi h
      exact Or.inl (by omega)
    · have h3 := pos_before (c := c) (d := d) (l.drop (upto c l t)) o (i - upto c l t) (by rw [List.length_drop]; omega) (by omega)
      rw [List.getElem_drop] at h3
      have e : upto c l t + (i - upto c l t) = i := by omega
      simp only [e] at h3; exact h3
  · have h3 := pos_at (c := c) (d := d) (l.drop (upto c l t)) o (by rw [List.length_drop]; omega)
    rw [List.getElem_drop] at h3
    exact h3
theorem ins_cut {l : List α} (hr : Ris c d l) {t : Int} {o : α} (ho : t < c o) : insL c d l o = l.take (upto c l t) ++ insL c d (l.drop (upto c l t)) o := by
  unfold insL
  rw [pos_cut hr ho, List.take_add, ← List.drop_drop]
  simp only [List.append_assoc]
theorem has_cut {l : List α} (hr : Ris c d l) {t : Int} {o : α} (ho : t < c o) : has c d l o = has c d (l.drop (upto c l t)) o := by
  unfold has
  rw [pos_cut hr ho, List.getElem?_drop]
theorem upto_ins {l : List α} (hr : Ris c d l) {t : Int} {o : α} (ho : t < c o) : upto c (insL c d l o) t = upto c l t := by
  have h1 := upto_le (c := c) l t
  have hlen := ins_len (c := c) (d := d) l o
  have ht : (l.take (upto c l t)).length = upto c l t := by rw [List.length_take]; omega
  refine (upto_eq (by omega) (fun i hi hlt => ?_) (fun h => ?_)).symm
  · have hi2 : i < l.length := by omega
    have : (insL c d l o)[i] = l[i] := by
      simp only [ins_cut hr ho]
      rw [List.getElem_append_left (by omega), List.getElem_take]
    rw [this]; exact upto_before l t i hi2 hlt
  · have hm : (insL c d l o)[upto c l t] ∈ insL c d (l.drop (upto c l t)) o := by
      simp only [ins_cut hr ho]
      rw [List.getElem_append_right (by omega)]
      exact List.getElem_mem _
    rcases (mem_ins _ _ _).1 hm with e | e
    · rw [e]; exact ho
    · exact upto_drop hr t _ e

variable (mv : α → Pl)
/-- The tree behind operations, and what undoes each. -/
def foldO (b : List Pl) (l : List α) : List Pl × List Un := foldL b (l.map mv)
theorem foldO_app (b : List Pl) (l m : List α) : (foldO mv b (l ++ m)).1 = (foldO mv (foldO mv b l).1 m).1 := by
  unfold foldO; rw [List.map_append, foldL_app]
/-- What is settled changes nothing of the tree. -/
theorem foldO_cut (b : List Pl) (l : List α) (k : Nat) : (foldO mv (foldO mv b (l.take k)).1 (l.drop k)).1 = (foldO mv b l).1 := by
  rw [← foldO_app, List.take_append_drop]
end
end Pst

/- A region that draws its order, whose last operation writes what others of it read: S need not hold behind that one. No function of the program in it. -/
namespace Go.Proofs.YtfpgfclmmdihjaaGreat
open Go.RowKit

section
variable {P : Program} {ops : Array Oper} {Q : Exit → Act → World → Prop} {md : Region.Mode} {S : World → Prop} {n : Nat}

/-- Whatever order is picked from here on; S holds behind every operation till number n comes. -/
def anyG (P : Program) (md : Region.Mode) (ops : Array Oper) (Q : Exit → Act → World → Prop) (S : World → Prop) (n : Nat) : Nat → Array Bool → Act → World → Prop
  | 0, listed, a, w => Region.ready md ops listed = [] ∧ Q .normal a w
  | fuel + 1, listed, a, w =>
    (Region.ready md ops listed = [] → Q .normal a w) ∧
    ∀ i ∈ Region.ready md ops listed, wpOp P ops Q i (fun b v => ((listed.setIfInBounds i true).getD n true = false → S v) ∧ anyG P md ops Q S n fuel (listed.setIfInBounds i true) b v) a w
theorem anyG_any : ∀ (fuel : Nat) (listed : Array Bool) (a : Act) (w : World), anyG P md ops Q S n fuel listed a w → wpAny P md ops Q fuel listed a w
  | 0, _, _, _, h => h
  | fuel + 1, _, _, _, h => ⟨h.1, fun i hi => wpOp_mono (fun b v hb => anyG_any fuel _ b v hb.2) (h.2 i hi)⟩
theorem region_anyG {id : Nat} {a : Act} {w : World} (n : Nat) (hm : P.follows .mixedOrders = true) (h : anyG P .any ops Q S n ops.size (Array.replicate ops.size false) a w.drew) : (Code.region id ops true).wp P Q a w :=
  wp_region_any hm (anyG_any _ _ _ _ h)

/-- Number n waits for number i. -/
def waitsB (md : Region.Mode) (ops : Array Oper) (n i : Nat) : Bool := match ops[n]? with
  | none => false
  | some o => o.after.any fun e => Region.binds md e && e.on == i
theorem waits_spec {listed : Array Bool} {i : Nat} (hl : waitsB md ops n i = true) (hr : n ∈ Region.ready md ops listed) : listed.getD i false = true := by
  obtain ⟨_, o, ho, hall⟩ := mem_ready.1 hr
  unfold waitsB at hl
  rw [ho] at hl
  obtain ⟨e, he, hb⟩ := Array.any_eq_true'.1 hl
  rw [Bool.and_eq_true, beq_iff_eq] at hb
  have := hall e he hb.1
  rw [hb.2] at this; exact this
theorem getD_false {listed : Array Bool} {i : Nat} (h : listed.getD i true = false) : listed.getD i false = false := by
  rcases Nat.lt_or_ge i listed.size with h1 | h1
  · simp [h1] at h ⊢; exact h
  · simp [Array.getElem?_eq_none h1] at h
theorem getD_here (listed : Array Bool) (n : Nat) : (listed.setIfInBounds n true).getD n true = true := by
  rcases Nat.lt_or_ge n listed.size with h1 | h1
  · simp [h1]
  · have h2 : (listed.setIfInBounds n true).size ≤ n := by simpa using h1
    simp [Array.getElem?_eq_none h2]

theorem anyG_first {i : Nat} {oi : Oper} {v : Value} (hi : ops[i]? = some oi) (hin : i ≠ n) (hsel : ∀ (j : Nat) (o : Oper) cs b, ops[j]? = some o → o.op ≠ .select cs b)
    (hQ : ∀ c a w, Q (.panic c) (a.put oi.dst v) w → Q (.panic c) a w) (T : World → Prop) (hT : waitsB md ops n i = true ∨ ∀ w, T w) :
    ∀ (fuel : Nat) (listed : Array Bool) (a : Act) (w : World),
      (∀ j oj, ops[j]? = some oj → j ≠ i → listed.getD j true = false → (∀ e ∈ oj.after, Region.binds md e = true → e.on ≠ i) → oi.apart ops oj = true) →
      i ∈ Region.ready md ops listed → YieldsIf P ops T oi v a → T w → (listed.getD n true = false → S w) → ((∀ w, T w) ∨ (listed.getD n true = false ∧ ∀ w, S w → T w)) →
      anyG P md ops Q S n fuel (listed.setIfInBounds i true) (a.put oi.dst v) w → anyG P md ops Q S n (fuel + 1) listed a w := by
  intro fuel
  induction fuel with
  | zero =>
    intro listed a w _ hr hy hTw hS _ H
    refine ⟨fun h => (by rw [h] at hr; cases hr), fun j hj => ?_⟩
    by_cases hji : j = i
    · subst hji; exact hy.wpOp hi hTw ⟨fun h => hS (by rw [getD_set_ne true hin] at h; exact h), H⟩
    · have h0 := ready_mono hj hji
      rw [H.1] at h0
      cases h0
  | succ fuel ih =>
    intro listed a w hfree hr hy hTw hS hTT H
    refine ⟨fun h => (by rw [h] at hr; cases hr), fun j hj => ?_⟩
    by_cases hji : j = i
    · subst hji; exact hy.wpOp hi hTw ⟨fun h => hS (by rw [getD_set_ne true hin] at h; exact h), H⟩
    · have hunf := getD_false (mem_ready.1 hr).1
      have h1 := H.2 j (ready_mono hj hji)
      obtain ⟨hjun, oj, hoj, hall⟩ := mem_ready.1 hj
      have hnot : ∀ e ∈ oj.after, Region.binds md e = true → e.on ≠ i := fun e he hb heq => by
        have h2 := hall e he hb
        rw [heq, hunf] at h2; cases h2
      have h2 := wpOp_putIf hoj (hfree j oj hoj hji hjun hnot) (fun cs b => hsel i oi cs b hi) (fun cs b => hsel j oj cs b hoj) hQ hy h1
      refine wpOp_mono (fun b u h3 => ?_) h2
      have hSu : (listed.setIfInBounds j true).getD n true = false → S u := fun h => h3.2.1 (by
        rw [Array.setIfInBounds_comm _ _ (Ne.symm hji), getD_set_ne true hin]; exact h)
      have hTu : T u ∧ ((∀ w, T w) ∨ ((listed.setIfInBounds j true).getD n true = false ∧ ∀ w, S w → T w)) := by
        rcases hTT with hTT | ⟨hun, hST⟩
        · exact ⟨hTT u, Or.inl hTT⟩
        · by_cases hjn : j = n
          · rcases hT with hT | hT
            · subst hjn
              have h4 := waits_spec hT hj
              rw [hunf] at h4; cases h4
            · exact ⟨hT u, Or.inl hT⟩
          · have hn2 : (listed.setIfInBounds j true).getD n true = false := by rw [getD_set_ne true hjn]; exact hun
            exact ⟨hST u (hSu hn2), Or.inr ⟨hn2, hST⟩⟩
      refine ⟨hSu, ih (listed.setIfInBounds j true) b u (fun k ok hk hki hku hno => hfree k ok hk hki ?_ hno) (ready_mono hr (Ne.symm hji)) h3.1 hTu.1 hSu hTu.2 ?_⟩
      · by_cases hjk : j = k
        · subst hjk; exact hjun
        · rw [getD_set_ne true hjk] at hku; exact hku
      · rw [Array.setIfInBounds_comm _ _ hji]
        exact h3.2.2
/-- What yields in whatever world meets S, and for what number n waits. -/
theorem anyG_take {i : Nat} {oi : Oper} {v : Value} {fuel : Nat} {listed : Array Bool} {a : Act} {w : World} (hi : ops.toList[i]? = some oi)
    (hl : waitsB md ops n i = true) (hin : (i == n || listed.getD n true) = false) (hs : Region.noSelect ops = true) (hf : Region.free md ops listed i = true) (hr : (Region.ready md ops listed).contains i = true)
    (hQ : ∀ c a w, Q (.panic c) (a.put oi.dst v) w → Q (.panic c) a w) (hy : YieldsIf P ops S oi v a) (hS : S w)
    (h : anyG P md ops Q S n fuel (listed.setIfInBounds i true) (a.put oi.dst v) w) : anyG P md ops Q S n (fuel + 1) listed a w := by
  have hi : ops[i]? = some oi := by rw [← Array.getElem?_toList]; exact hi
  rw [Bool.or_eq_false_iff] at hin
  exact anyG_first hi (by simpa using hin.1) (Region.noSelect_spec hs) hQ S (Or.inl hl) fuel listed a w (Region.free_spec hi hf) (by simpa using hr) hy hS (fun _ => hS) (Or.inr ⟨hin.2, fun _ h => h⟩) h
/-- What yields in every world: behind number n, too. -/
theorem anyG_plain {i : Nat} {oi : Oper} {v : Value} {fuel : Nat} {listed : Array Bool} {a : Act} {w : World} (hi : ops.toList[i]? = some oi)
    (hin : (i == n) = false) (hs : Region.noSelect ops = true) (hf : Region.free md ops listed i = true) (hr : (Region.ready md ops listed).contains i = true)
    (hQ : ∀ c a w, Q (.panic c) (a.put oi.dst v) w → Q (.panic c) a w) (hy : Yields P ops oi v a) (hS : listed.getD n true = false → S w)
    (h : anyG P md ops Q S n fuel (listed.setIfInBounds i true) (a.put oi.dst v) w) : anyG P md ops Q S n (fuel + 1) listed a w := by
  have hi : ops[i]? = some oi := by rw [← Array.getElem?_toList]; exact hi
  exact anyG_first hi (by simpa using hin) (Region.noSelect_spec hs) hQ (fun _ => True) (Or.inr fun _ => trivial) fuel listed a w (Region.free_spec hi hf) (by simpa using hr) hy.yieldsIf trivial hS (Or.inl fun _ => trivial) h
theorem anyG_done {listed : Array Bool} {a : Act} {w : World} (hr : Region.ready md ops listed = []) (h : Q .normal a w) : ∀ fuel, anyG P md ops Q S n fuel listed a w
  | 0 => ⟨hr, h⟩
  | _ + 1 => ⟨fun _ => h, by rw [hr]; simp⟩
/-- One of these comes next. -/
def AllG (P : Program) (md : Region.Mode) (ops : Array Oper) (Q : Exit → Act → World → Prop) (S : World → Prop) (n fuel : Nat) (listed : Array Bool) (a : Act) (w : World) (rs : List Nat) : Prop :=
  ∀ i ∈ rs, wpOp P ops Q i (fun b v => ((listed.setIfInBounds i true).getD n true = false → S v) ∧ anyG P md ops Q S n fuel (listed.setIfInBounds i true) b v) a w
theorem anyG_step {rs : List Nat} {fuel : Nat} {listed : Array Bool} {a : Act} {w : World} (hr : Region.ready md ops listed = rs) (hne : rs ≠ []) (h : AllG P md ops Q S n fuel listed a w rs) : anyG P md ops Q S n (fuel + 1) listed a w :=
  ⟨fun h0 => absurd (hr ▸ h0) hne, hr ▸ h⟩
theorem AllG.nil {fuel : Nat} {listed : Array Bool} {a : Act} {w : World} : AllG P md ops Q S n fuel listed a w [] := fun _ h => by cases h
/-- An operation of the middle: S anew. -/
theorem AllG.cons {fuel : Nat} {listed : Array Bool} {a : Act} {w : World} {i : Nat} {o : Oper} {rs : List Nat} (ho : ops.toList[i]? = some o)
    (h : ∀ K : Act → World → Prop, RowKit.Hid (∀ b v, S v → anyG P md ops Q S n fuel (listed.setIfInBounds i true) b v → K b v) → if Region.wanted o (yielded ops a.tmps) = true then Oper.wp P o a w K Q else K (a.put o.dst undef) w)
    (hs : AllG P md ops Q S n fuel listed a w rs) : AllG P md ops Q S n fuel listed a w (i :: rs) := fun j hj => by
  rcases List.mem_cons.1 hj with rfl | hj
  · exact wpOp_step (by rw [← Array.getElem?_toList]; exact ho) (fun K hK => h K (Lib.hid fun b v hS hW => hK b v ⟨fun _ => hS, hW⟩))
  · exact hs j hj
/-- The last one: nothing is asked behind it. -/
theorem AllG.last {fuel : Nat} {listed : Array Bool} {a : Act} {w : World} {o : Oper} (ho : ops.toList[n]? = some o)
    (h : ∀ K : Act → World → Prop, RowKit.Hid (∀ b v, anyG P md ops Q S n fuel (listed.setIfInBounds n true) b v → K b v) → if Region.wanted o (yielded ops a.tmps) = true then Oper.wp P o a w K Q else K (a.put o.dst undef) w) :
    AllG P md ops Q S n fuel listed a w [n] := fun j hj => by
  rw [List.mem_singleton] at hj
  subst hj
  exact wpOp_step (by rw [← Array.getElem?_toList]; exact ho) (fun K hK => h K (Lib.hid fun b v hW => hK b v ⟨fun e => (by rw [getD_here] at e; cases e), hW⟩))
end
end Go.Proofs.YtfpgfclmmdihjaaGreat

/- A past: what it is, where it lies; what is told of it by the document's answers. -/
namespace Go.Proofs.YtfpgfclmmdihjaaGreat
open Go.RowKit Tre Cod Pst

/-- A past's lists. -/
structure Pv where
  base : List Pl
  t : Int
  ops : List Mv
  us : List Un
  now : List Pl
def Pv.zero : Pv := ⟨[], 0, [], [], []⟩
/-- So, and where its slices lie. -/
structure Pw where
  bA : Option Addr
  bc : Nat
  base : List Pl
  t : Int
  oA : Option Addr
  oc : Nat
  ops : List Mv
  uA : Option Addr
  uc : Nat
  us : List Un
  wA : Option Addr
  wc : Nat
  now : List Pl
def Pw.v (x : Pw) : Pv := ⟨x.base, x.t, x.ops, x.us, x.now⟩
def Pw.zero : Pw := ⟨none, 0, [], 0, none, 0, [], none, 0, [], none, 0, []⟩
def pwE : El Pw where
  e := 39
  k := 5
  c x := [.slice x.bA x.base.length x.bc, .int .i64 x.t, .slice x.oA x.ops.length x.oc, .slice x.uA x.us.length x.uc, .slice x.wA x.now.length x.wc]
  len _ := rfl
  one p u h := by
    simp only [List.mem_cons, List.not_mem_nil, or_false] at h
    rcases h with rfl | rfl | rfl | rfl | rfl <;> rfl
  pos := by decide
theorem pwRow : pwE.Row Tryz.prog := ⟨by kernel_rfl, _, Tryz.underlying39, rfl⟩
theorem pwIn5 {w : World} {b : Nat} {x : Pw} (h : pwE.In w b x) : w.cell? ⟨b, 0, none⟩ = some (.slice x.bA x.base.length x.bc) ∧ w.cell? ⟨b, 1, none⟩ = some (.int .i64 x.t) ∧ w.cell? ⟨b, 2, none⟩ = some (.slice x.oA x.ops.length x.oc) ∧ w.cell? ⟨b, 3, none⟩ = some (.slice x.uA x.us.length x.uc) ∧ w.cell? ⟨b, 4, none⟩ = some (.slice x.wA x.now.length x.wc) :=
  ⟨h.cell 0, h.cell 1, h.cell 2, h.cell 3, h.cell 4⟩
/-- Its slices hold its lists. -/
structure PastOk (w : World) (x : Pw) : Prop where
  b : SlV plE w x.bA x.bc x.base
  o : SlV opE w x.oA x.oc x.ops
  u : SlV unE w x.uA x.uc x.us
  w : SlV plE w x.wA x.wc x.now
theorem PastOk.below {W w : World} {x : Pw} (h : PastOk W x) (hb : Below W.heap.size W w) : PastOk w x := ⟨h.b.below hb, h.o.below hb, h.u.below hb, h.w.below hb⟩
theorem PastOk.zero (w : World) : PastOk w Pw.zero := ⟨SlV.nil _ _, SlV.nil _ _, SlV.nil _ _, SlV.nil _ _⟩

/-- With an operation more. -/
def addV (q : Pv) (m : Mv) : Pv × Bool :=
  if m.C ≤ q.t then (q, false) else if has Mv.C Mv.D q.ops m = true then (q, false) else
    ({ q with ops := insL Mv.C Mv.D q.ops m, us := (foldL q.base (mvs (insL Mv.C Mv.D q.ops m))).2, now := (foldL q.base (mvs (insL Mv.C Mv.D q.ops m))).1 }, true)
/-- Settled up to t. -/
def settleV (q : Pv) (t : Int) : Pv :=
  if t ≤ q.t then q else
    let b := (foldL q.base (mvs (q.ops.take (upto Mv.C q.ops t)))).1
    let o := q.ops.drop (upto Mv.C q.ops t)
    ⟨b, t, o, (foldL b (mvs o)).2, (foldL b (mvs o)).1⟩
def ownV (q : Pv) (d i : Int) : Nat := (q.ops.filter fun m => decide (m.D = d ∧ m.I = i)).length
def ofV (q : Pv) (d : Int) : Nat := (q.ops.filter fun m => decide (m.D = d)).length

theorem bef_iff (a b : Mv) : befB a.C a.D b.C b.D = decide (bef Mv.C Mv.D a b) := by
  unfold befB bef; rfl
theorem has_end {l : List Mv} {m : Mv} (h : pos Mv.C Mv.D l m = l.length) : has Mv.C Mv.D l m = false := by
  unfold has; rw [h, List.getElem?_eq_none (Nat.le_refl _)]
theorem has_at {l : List Mv} {m x : Mv} {k : Nat} (h : k = pos Mv.C Mv.D l m) (hk : k < l.length) (hx : l[k] = x) : has Mv.C Mv.D l m = decide (x.C = m.C ∧ x.D = m.D) := by
  unfold has; rw [← h, List.getElem?_eq_getElem hk, hx]; rfl
end Go.Proofs.YtfpgfclmmdihjaaGreat

/- Numbers, a text and a bool, one behind the other: what stands where. -/
namespace Go.Proofs.YtfpgfclmmdihjaaGreat
open Go.RowKit Cod

theorem drop_of (A R : ByteArray) : (A ++ R).data.toList.drop A.size = R.data.toList := by
  rw [dl_app, ← dl_len A]; exact List.drop_left' rfl

theorem num_there (A Z : ByteArray) (n : Int) (h1 : -9223372036854775808 ≤ n) (h2 : n ≤ 9223372036854775807) : isNum (A ++ (bytesOf n ++ Z)) A.size false = some (n, A.size + (bytesOf n).size) := by
  unfold isNum
  rw [drop_of, dl_app, bytesOf_list, rd_enc n h1 h2, bytesOf_size]
  rfl

theorem count_there (A Z : ByteArray) (n most : Int) (h0 : 0 ≤ n) (h1 : n ≤ most) (h2 : n ≤ 9223372036854775807) : isCount (A ++ (bytesOf n ++ Z)) A.size false most = some (n, A.size + (bytesOf n).size) := by
  unfold isCount
  rw [num_there A Z n (by omega) h2]
  exact if_pos ⟨h0, h1⟩

theorem ext_there (A s Z : ByteArray) : (A ++ (s ++ Z)).extract A.size (A.size + s.size) = s := by
  apply dl_inj
  rw [ByteArray.data_extract, Array.toList_extract, List.extract_eq_take_drop, drop_of, dl_app]
  rw [Nat.add_sub_cancel_left, ← dl_len s]
  exact List.take_left' rfl

theorem text_there (A s Z : ByteArray) (most : Int) (h : (s.size : Int) ≤ most) (hs : s.size ≤ 1000000) : isText (A ++ (textOf s ++ Z)) A.size false most = some (s, A.size + (textOf s).size) := by
  unfold textOf isText
  rw [ByteArray.append_assoc, count_there A _ s.size most (by omega) h (by omega)]
  have e : A ++ (bytesOf s.size ++ (s ++ Z)) = (A ++ bytesOf s.size) ++ (s ++ Z) := by rw [ByteArray.append_assoc]
  have e2 : A.size + (bytesOf s.size).size = (A ++ bytesOf s.size).size := by rw [ByteArray.size_append]
  simp only [Int.toNat_natCast]
  have e3 : (s ++ Z).size = s.size + Z.size := ByteArray.size_append
  rw [if_pos (by rw [e, ByteArray.size_append, e2, e3]; omega), e2, e, ext_there, ByteArray.size_append, ByteArray.size_append, Nat.add_assoc]

theorem bool_there (A Z : ByteArray) (b : Bool) : isBool (A ++ (bitOf b ++ Z)) A.size false = some (b, A.size + (bitOf b).size) := by
  unfold isBool bitOf
  cases b
  · rw [count_there A Z _ 1 (by decide) (by decide) (by decide)]; rfl
  · rw [count_there A Z _ 1 (by decide) (by decide) (by decide)]; rfl

/-- The first k numbers, one behind the other. -/
def catF (f : Nat → Int) : Nat → ByteArray
  | 0 => ⟨#[]⟩
  | k + 1 => catF f k ++ bytesOf (f k)
def posF (f : Nat → Int) (k : Nat) : Nat := (catF f k).size
theorem pos_succ (f : Nat → Int) (k : Nat) : posF f (k + 1) = posF f k + (bytesOf (f k)).size := by
  unfold posF; rw [catF, ByteArray.size_append]

def Fits (f : Nat → Int) (n : Nat) : Prop := ∀ j, j < n → -9223372036854775808 ≤ f j ∧ f j ≤ 9223372036854775807
theorem cat_le (f : Nat → Int) (n : Nat) (h : Fits f n) : ∀ k, k ≤ n → (catF f k).size ≤ 10 * k
  | 0, _ => Nat.le_refl 0
  | k + 1, hk => by
    have h1 := cat_le f n h k (by omega)
    have h2 := h k (by omega)
    have h3 := bytesOf_le (f k) h2.1 h2.2
    rw [catF, ByteArray.size_append]; omega
theorem cat_rest (f : Nat → Int) (k : Nat) : ∀ n, k ≤ n → ∃ R, catF f n = catF f k ++ R
  | 0, h => by
    obtain rfl : k = 0 := by omega
    exact ⟨⟨#[]⟩, dl_inj (by rw [dl_app]; exact (List.append_nil _).symm)⟩
  | n + 1, h => by
    by_cases e : k = n + 1
    · subst e
      exact ⟨⟨#[]⟩, dl_inj (by rw [dl_app]; exact (List.append_nil _).symm)⟩
    · obtain ⟨R, hR⟩ := cat_rest f k n (by omega)
      exact ⟨R ++ bytesOf (f n), by rw [catF, hR, ByteArray.append_assoc]⟩

theorem cat_num (f : Nat → Int) (k n : Nat) (h : k < n) (hf : Fits f n) (Z : ByteArray) : isNum (catF f n ++ Z) (posF f k) false = some (f k, posF f (k + 1)) := by
  obtain ⟨R, hR⟩ := cat_rest f (k + 1) n (by omega)
  have hb := hf k h
  rw [hR, catF, ByteArray.append_assoc, ByteArray.append_assoc, pos_succ]
  exact num_there (catF f k) (R ++ Z) (f k) hb.1 hb.2

/-- All that stands behind each other, and what comes of it. -/
theorem tail_text (A s : ByteArray) (b : Bool) (hs : s.size ≤ 2000) : isText (A ++ textOf s ++ bitOf b) A.size false 2000 = some (s, A.size + (textOf s).size) := by
  rw [ByteArray.append_assoc]; exact text_there A s (bitOf b) 2000 (by omega) (by omega)
theorem tail_bool (A s : ByteArray) (b : Bool) : isBool (A ++ textOf s ++ bitOf b) (A.size + (textOf s).size) false = some (b, (A ++ textOf s ++ bitOf b).size) := by
  have h := bool_there (A ++ textOf s) ⟨#[]⟩ b
  have e : bitOf b ++ ⟨#[]⟩ = bitOf b := dl_inj (by rw [dl_app]; exact List.append_nil _)
  rw [e, ByteArray.size_append] at h
  rw [h, ByteArray.size_append, ByteArray.size_append]

theorem bit_size' (c : Bool) : (bitOf c).size = 1 := by
  unfold bitOf
  rw [bytesOf_size]
  cases c
  · rw [show fold (if false then 1 else 0) = 0 from rfl, enc_small (by decide)]; rfl
  · rw [show fold (if true then 1 else 0) = 2 from rfl, enc_small (by decide)]; rfl

end Go.Proofs.YtfpgfclmmdihjaaGreat

/- Places and trees as bytes; what may be a tree. -/
namespace Go.Proofs.YtfpgfclmmdihjaaGreat
open Go.RowKit Nam Cod Tre

def isPlace (s : ByteArray) (p : Nat) (bad : Bool) : Option (Pl × Nat) :=
  (isNum s p bad).bind fun a => (isNum s a.2 false).bind fun b => (isText s b.2 false 16).bind fun c => some (⟨a.1, b.1, c.1⟩, c.2)
/-- So many places, from p on. -/
def isPlaces (s : ByteArray) : Nat → Nat → Option (List Pl × Nat)
  | 0, p => some ([], p)
  | n + 1, p => (isPlaces s n p).bind fun a => (isPlace s a.2 false).bind fun b => some (a.1 ++ [b.1], b.2)
def okPl (p : Pl) : Bool := decide (2 ≤ p.n ∧ p.n < 64 ∧ 0 ≤ p.u ∧ p.u < 64) && isName (L p.s)
def rising : List Pl → Bool
  | [] => true
  | [_] => true
  | p :: q :: l => decide (p.n < q.n) && rising (q :: l)
def treeB (l : List Pl) : Bool := l.all okPl && (rising l && l.all fun p => !above l p.n p.u)
def isTree (s : ByteArray) (p : Nat) (bad : Bool) : Option (List Pl × Nat) :=
  (isCount s p bad 64).bind fun a => (isPlaces s a.1.toNat a.2).bind fun b => if treeB b.1 = true then some b else none

def plBytes (p : Pl) : ByteArray := bytesOf p.n ++ bytesOf p.u ++ textOf p.s
def catL : List Pl → ByteArray
  | [] => ⟨#[]⟩
  | p :: l => plBytes p ++ catL l
def treeBytes (l : List Pl) : ByteArray := bytesOf l.length ++ catL l
/-- Numbers that a word holds; a text that isn't too long. -/
structure Fit (p : Pl) : Prop where
  n1 : -9223372036854775808 ≤ p.n
  n2 : p.n ≤ 9223372036854775807
  u1 : -9223372036854775808 ≤ p.u
  u2 : p.u ≤ 9223372036854775807
  s : p.s.size ≤ 16

theorem bempty (x : ByteArray) : x ++ (⟨#[]⟩ : ByteArray) = x := by apply L_inj; rw [L_app]; simp [L]
theorem empty_b (x : ByteArray) : (⟨#[]⟩ : ByteArray) ++ x = x := by apply L_inj; rw [L_app]; simp [L]
theorem catL_snoc (l : List Pl) (p : Pl) : catL (l ++ [p]) = catL l ++ plBytes p := by
  induction l with
  | nil => show plBytes p ++ ⟨#[]⟩ = ⟨#[]⟩ ++ plBytes p; rw [bempty, empty_b]
  | cons q l ih => show plBytes q ++ catL (l ++ [p]) = (plBytes q ++ catL l) ++ plBytes p; rw [ih, ByteArray.append_assoc]
theorem catL_app (l m : List Pl) : catL (l ++ m) = catL l ++ catL m := by
  induction l with
  | nil => exact (empty_b _).symm
  | cons q l ih => show plBytes q ++ catL (l ++ m) = (plBytes q ++ catL l) ++ catL m; rw [ih, ByteArray.append_assoc]
theorem okPl_fit {p : Pl} (h : okPl p = true) : Fit p ∧ 2 ≤ p.n ∧ p.n < 64 ∧ 0 ≤ p.u ∧ p.u < 64 ∧ isName (L p.s) = true := by
  unfold okPl at h
  rw [Bool.and_eq_true, decide_eq_true_iff] at h
  have hl := isName_len h.2
  rw [L_len] at hl
  exact ⟨⟨by omega, by omega, by omega, by omega, hl.2⟩, h.1.1, h.1.2.1, h.1.2.2.1, h.1.2.2.2, h.2⟩
theorem plBytes_le {p : Pl} (h : Fit p) : (plBytes p).size ≤ 46 := by
  unfold plBytes textOf
  simp only [ByteArray.size_append]
  have z1 := bytesOf_le p.n h.n1 h.n2
  have z2 := bytesOf_le p.u h.u1 h.u2
  have hs := h.s
  have z3 := bytesOf_le p.s.size (by omega) (by omega)
  omega
theorem catL_le : ∀ (l : List Pl), (∀ p ∈ l, Fit p) → (catL l).size ≤ 46 * l.length
  | [], _ => by show (ByteArray.mk #[]).size ≤ _; exact Nat.zero_le _
  | p :: l, h => by
    have h1 := plBytes_le (h p (by simp))
    have h2 := catL_le l (fun q hq => h q (by simp [hq]))
    show (plBytes p ++ catL l).size ≤ _
    rw [ByteArray.size_append, List.length_cons]; omega

theorem place_there (A Z : ByteArray) (p : Pl) (h : Fit p) : isPlace (A ++ (plBytes p ++ Z)) A.size false = some (p, A.size + (plBytes p).size) := by
  have h1 := num_there A (bytesOf p.u ++ textOf p.s ++ Z) p.n h.n1 h.n2
  have h2 := num_there (A ++ bytesOf p.n) (textOf p.s ++ Z) p.u h.u1 h.u2
  have h3 := text_there (A ++ bytesOf p.n ++ bytesOf p.u) p.s Z 16 (by have := h.s; omega) (by have := h.s; omega)
  have e : A ++ (plBytes p ++ Z) = A ++ (bytesOf p.n ++ (bytesOf p.u ++ textOf p.s ++ Z)) := by unfold plBytes; simp only [ByteArray.append_assoc]
  have e2 : A ++ (plBytes p ++ Z) = A ++ bytesOf p.n ++ (bytesOf p.u ++ (textOf p.s ++ Z)) := by unfold plBytes; simp only [ByteArray.append_assoc]
  have e3 : A ++ (plBytes p ++ Z) = A ++ bytesOf p.n ++ bytesOf p.u ++ (textOf p.s ++ Z) := by unfold plBytes; simp only [ByteArray.append_assoc]
  rw [← e] at h1
  rw [← e2, ByteArray.size_append] at h2
  rw [← e3, ByteArray.size_append, ByteArray.size_append] at h3
  unfold isPlace
  simp only [h1, h2, h3, Option.bind_some]
  unfold plBytes
  simp only [ByteArray.size_append, Nat.add_assoc]
theorem places_there (A Z : ByteArray) (l : List Pl) (h : ∀ p ∈ l, Fit p) : ∀ k, k ≤ l.length → isPlaces (A ++ (catL l ++ Z)) k A.size = some (l.take k, A.size + (catL (l.take k)).size)
  | 0, _ => by unfold isPlaces; simp [catL]; rfl
  | k + 1, hk => by
    have hlt : k < l.length := hk
    have e : catL l ++ Z = catL (l.take k) ++ (plBytes l[k] ++ (catL (l.drop (k + 1)) ++ Z)) := by
      have : l = l.take k ++ (l[k] :: l.drop (k + 1)) := by rw [← List.drop_eq_getElem_cons hlt, List.take_append_drop]
      conv => lhs; rw [this, catL_app]
      show catL (l.take k) ++ (plBytes l[k] ++ catL (l.drop (k + 1))) ++ Z = _
      simp only [ByteArray.append_assoc]
    have hp := place_there (A ++ catL (l.take k)) (catL (l.drop (k + 1)) ++ Z) l[k] (h _ (List.getElem_mem hlt))
    rw [ByteArray.append_assoc, ← e, ByteArray.size_append] at hp
    unfold isPlaces
    rw [places_there A Z l h k (by omega), Option.bind_some]
    simp only [hp, Option.bind_some]
    rw [List.take_succ_eq_append_getElem hlt, catL_snoc, ByteArray.size_append, Nat.add_assoc]
theorem tree_there (A Z : ByteArray) (l : List Pl) (h : treeB l = true) (hl : l.length ≤ 64) : isTree (A ++ (treeBytes l ++ Z)) A.size false = some (l, A.size + (treeBytes l).size) := by
  have hf : ∀ p ∈ l, Fit p := fun p hp => by
    unfold treeB at h
    rw [Bool.and_eq_true, List.all_eq_true] at h
    exact (okPl_fit (h.1 p hp)).1
  have h1 := count_there A (catL l ++ Z) l.length 64 (by omega) (by omega) (by omega)
  have e : A ++ (treeBytes l ++ Z) = A ++ (bytesOf l.length ++ (catL l ++ Z)) := by unfold treeBytes; rw [ByteArray.append_assoc]
  have h2 := places_there (A ++ bytesOf l.length) Z l hf l.length (Nat.le_refl _)
  rw [ByteArray.append_assoc, ← e, ByteArray.size_append, List.take_length] at h2
  rw [← e] at h1
  unfold isTree
  simp only [h1, Option.bind_some, Int.toNat_natCast, h2, h, if_true]
  unfold treeBytes
  rw [ByteArray.size_append, Nat.add_assoc]
theorem rising_cons {p : Pl} : ∀ {l : List Pl}, rising (p :: l) = true → rising l = true ∧ ∀ q ∈ l, p.n < q.n
  | [], _ => ⟨rfl, fun q hq => by cases hq⟩
  | q :: l, h => by
    unfold rising at h
    rw [Bool.and_eq_true, decide_eq_true_iff] at h
    refine ⟨h.2, fun x hx => ?_⟩
    rcases List.mem_cons.1 hx with rfl | hx
    · exact h.1
    · have := (rising_cons h.2).2 x hx; omega
theorem rising_sorted : ∀ {l : List Pl}, rising l = true → Sorted l
  | [], _ => fun i j hi => by simp at hi
  | p :: l, h => fun i j hi hj hij => by
    obtain ⟨h1, h2⟩ := rising_cons h
    cases j with
    | zero => omega
    | succ j =>
      have hj' : j < l.length := by simpa using hj
      cases i with
      | zero => exact h2 _ (List.getElem_mem hj')
      | succ i => exact rising_sorted h1 i j (by simpa using hi) hj' (by omega)
theorem treeB_facts {l : List Pl} (h : treeB l = true) : (∀ p ∈ l, okPl p = true) ∧ Sorted l ∧ NoRing l := by
  unfold treeB at h
  simp only [Bool.and_eq_true, List.all_eq_true, Bool.not_eq_true'] at h
  exact ⟨h.1, rising_sorted h.2.1, h.2.2⟩
/-- Nodes below 64, rising: no more than 62. -/
theorem sorted_len {l : List Pl} (hs : Sorted l) (h : ∀ p ∈ l, 2 ≤ p.n ∧ p.n < 64) : l.length ≤ 62 := by
  have key : ∀ i (hi : i < l.length), (i : Int) + 2 ≤ l[i].n := by
    intro i
    induction i with
    | zero => intro hi; have := (h _ (List.getElem_mem hi)).1; omega
    | succ i ih => intro hi; have h1 := ih (by omega); have h2 := hs i (i + 1) (by omega) hi (by omega); omega
  rcases Nat.lt_or_ge 62 l.length with hlt | hge
  · have h1 := key 62 hlt
    have h2 := (h _ (List.getElem_mem hlt)).2
    omega
  · exact hge
end Go.Proofs.YtfpgfclmmdihjaaGreat

/- What Make gives, of the program and of the document: layer op. -/
namespace Go.Proofs.YtfpgfclmmdihjaaGreat
open Go.RowKit Nam Cod

def mkB (c e I M K U : Int) (s : ByteArray) : Bool := nextB c e && opB (nextC c e) (nextD c e) I M K U s
def mkI (b : Bool) (n : Int) : Int := if b then n else 0
def mkS (b : Bool) (s : ByteArray) : ByteArray := if b then s else ⟨#[]⟩

end Go.Proofs.YtfpgfclmmdihjaaGreat

/- What Parse gives, of the program and of the document: layer op. -/
namespace Go.Proofs.YtfpgfclmmdihjaaGreat
open Go.RowKit Nam Cod

def parseOf (s : ByteArray) : Option Mv := (isOp s 0 false).bind fun x => if x.2 = s.size then some x.1 else none
def Mv.val (o : Mv) : Value := .agg #[.int .i64 o.C, .int .i64 o.D, .int .i64 o.I, .int .i64 o.M, .int .i64 o.K, .int .i64 o.U, .string o.s]

end Go.Proofs.YtfpgfclmmdihjaaGreat

/- An operation's bytes are read as it was; what is read has just these bytes; the document's examples hold. -/
namespace Go.Proofs.YtfpgfclmmdihjaaGreat
open Go.RowKit Nam Cod

theorem opB_wide {C D I M K U : Int} {s : ByteArray} (h : opB C D I M K U s = true) : Wide C D I M K U ∧ 1 ≤ C ∧ s.size ≤ 16 ∧ 1 ≤ s.size := by
  unfold opB atB cntB mvB at h
  simp only [Bool.and_eq_true, decide_eq_true_iff] at h
  have hl := isName_len h.2.2.2.2
  rw [L_len] at hl
  exact ⟨⟨⟨by omega, by omega⟩, ⟨by omega, by omega⟩, ⟨by omega, by omega⟩, ⟨by omega, by omega⟩, ⟨by omega, by omega⟩, ⟨by omega, by omega⟩⟩, by omega, by omega, by omega⟩

theorem num_at (X A Z : ByteArray) (n : Int) (p : Nat) (hX : X = A ++ (bytesOf n ++ Z)) (hp : p = A.size) (h : i64 n) : isNum X p false = some (n, p + (bytesOf n).size) := by
  subst hX hp; exact num_there A Z n h.1 h.2

theorem op_there (A Z : ByteArray) (C D I M K U : Int) (s : ByteArray) (h : opB C D I M K U s = true) :
    isOp (A ++ (printOf C D I M K U s ++ Z)) A.size false = some (⟨C, D, I, M, K, U, s⟩, A.size + (printOf C D I M K U s).size) := by
  obtain ⟨⟨c, d, i, m, k, u⟩, _, hs, _⟩ := opB_wide h
  unfold printOf
  have assoc : ∀ x y z : ByteArray, x ++ y ++ z = x ++ (y ++ z) := fun x y z => ByteArray.append_assoc
  have h1 := num_at (A ++ (bytesOf C ++ bytesOf D ++ bytesOf I ++ bytesOf M ++ bytesOf K ++ bytesOf U ++ textOf s ++ Z)) A (bytesOf D ++ bytesOf I ++ bytesOf M ++ bytesOf K ++ bytesOf U ++ textOf s ++ Z) C A.size (by simp only [assoc]) rfl c
  have h2 := num_at (A ++ (bytesOf C ++ bytesOf D ++ bytesOf I ++ bytesOf M ++ bytesOf K ++ bytesOf U ++ textOf s ++ Z)) (A ++ bytesOf C) (bytesOf I ++ bytesOf M ++ bytesOf K ++ bytesOf U ++ textOf s ++ Z) D (A.size + (bytesOf C).size) (by simp only [assoc]) (by rw [ByteArray.size_append]) d
  have h3 := num_at (A ++ (bytesOf C ++ bytesOf D ++ bytesOf I ++ bytesOf M ++ bytesOf K ++ bytesOf U ++ textOf s ++ Z)) (A ++ bytesOf C ++ bytesOf D) (bytesOf M ++ bytesOf K ++ bytesOf U ++ textOf s ++ Z) I (A.size + (bytesOf C).size + (bytesOf D).size) (by simp only [assoc]) (by simp only [ByteArray.size_append]) i
  have h4 := num_at (A ++ (bytesOf C ++ bytesOf D ++ bytesOf I ++ bytesOf M ++ bytesOf K ++ bytesOf U ++ textOf s ++ Z)) (A ++ bytesOf C ++ bytesOf D ++ bytesOf I) (bytesOf K ++ bytesOf U ++ textOf s ++ Z) M (A.size + (bytesOf C).size + (bytesOf D).size + (bytesOf I).size) (by simp only [assoc]) (by simp only [ByteArray.size_append]) m
  have h5 := num_at (A ++ (bytesOf C ++ bytesOf D ++ bytesOf I ++ bytesOf M ++ bytesOf K ++ bytesOf U ++ textOf s ++ Z)) (A ++ bytesOf C ++ bytesOf D ++ bytesOf I ++ bytesOf M) (bytesOf U ++ textOf s ++ Z) K (A.size + (bytesOf C).size + (bytesOf D).size + (bytesOf I).size + (bytesOf M).size) (by simp only [assoc]) (by simp only [ByteArray.size_append]) k
  have h6 := num_at (A ++ (bytesOf C ++ bytesOf D ++ bytesOf I ++ bytesOf M ++ bytesOf K ++ bytesOf U ++ textOf s ++ Z)) (A ++ bytesOf C ++ bytesOf D ++ bytesOf I ++ bytesOf M ++ bytesOf K) (textOf s ++ Z) U (A.size + (bytesOf C).size + (bytesOf D).size + (bytesOf I).size + (bytesOf M).size + (bytesOf K).size) (by simp only [assoc]) (by simp only [ByteArray.size_append]) u
  have h7 := text_there (A ++ bytesOf C ++ bytesOf D ++ bytesOf I ++ bytesOf M ++ bytesOf K ++ bytesOf U) s Z 16 (by omega) (by omega)
  rw [show A ++ bytesOf C ++ bytesOf D ++ bytesOf I ++ bytesOf M ++ bytesOf K ++ bytesOf U ++ (textOf s ++ Z) = A ++ (bytesOf C ++ bytesOf D ++ bytesOf I ++ bytesOf M ++ bytesOf K ++ bytesOf U ++ textOf s ++ Z) by simp only [assoc],
    show (A ++ bytesOf C ++ bytesOf D ++ bytesOf I ++ bytesOf M ++ bytesOf K ++ bytesOf U).size = A.size + (bytesOf C).size + (bytesOf D).size + (bytesOf I).size + (bytesOf M).size + (bytesOf K).size + (bytesOf U).size by simp only [ByteArray.size_append]] at h7
  unfold isOp
  simp only [h1, h2, h3, h4, h5, h6, h7, Option.bind_some, h, if_true]
  simp only [ByteArray.size_append, Nat.add_assoc]

theorem num_bytes {s : ByteArray} {p : Nat} {bad : Bool} {n : Int} {q : Nat} (h : isNum s p bad = some (n, q)) : (L s).drop p = L (bytesOf n) ++ (L s).drop q := by
  obtain ⟨_, ⟨m, hr, rfl⟩, _⟩ := isNum_some h
  have h1 := (rd_some hr).1
  show s.data.toList.drop p = enc (fold n) ++ s.data.toList.drop (p + m)
  rw [← h1, ← List.drop_drop, List.take_append_drop]
theorem text_bytes {s : ByteArray} {p : Nat} {bad : Bool} {m : Int} {t : ByteArray} {q : Nat} (h : isText s p bad m = some (t, q)) : (L s).drop p = L (textOf t) ++ (L s).drop q := by
  obtain ⟨n, q0, h1, h2, rfl, rfl⟩ := isText_some h
  have hz : (s.extract q0 (q0 + n)).size = n := by rw [ByteArray.size_extract]; omega
  unfold textOf
  rw [num_bytes (isCount_some h1).1, L_app, hz, List.append_assoc]
  congr 1
  have e : L (s.extract q0 (q0 + n)) = ((L s).drop q0).take n := by
    unfold L
    simp [ByteArray.data_extract, List.extract_eq_take_drop]
  rw [e, ← List.drop_drop, List.take_append_drop]
theorem op_bytes {s : ByteArray} {p : Nat} {bad : Bool} {o : Mv} {q : Nat} (h : isOp s p bad = some (o, q)) : opB o.C o.D o.I o.M o.K o.U o.s = true ∧ (L s).drop p = L (printOf o.C o.D o.I o.M o.K o.U o.s) ++ (L s).drop q := by
  unfold isOp at h
  simp only [Option.bind_eq_some_iff] at h
  obtain ⟨⟨a1, p1⟩, h1, ⟨a2, p2⟩, h2, ⟨a3, p3⟩, h3, ⟨a4, p4⟩, h4, ⟨a5, p5⟩, h5, ⟨a6, p6⟩, h6, ⟨a7, p7⟩, h7, h8⟩ := h
  simp only at h1 h2 h3 h4 h5 h6 h7 h8
  by_cases hb : opB a1 a2 a3 a4 a5 a6 a7 = true
  · rw [if_pos hb] at h8
    cases h8
    refine ⟨hb, ?_⟩
    unfold printOf
    simp only [L_app, List.append_assoc]
    rw [num_bytes h1, num_bytes h2, num_bytes h3, num_bytes h4, num_bytes h5, num_bytes h6, text_bytes h7]
  · rw [if_neg hb] at h8; cases h8
theorem parse_bytes {s : ByteArray} {o : Mv} (h : parseOf s = some o) : opB o.C o.D o.I o.M o.K o.U o.s = true ∧ printOf o.C o.D o.I o.M o.K o.U o.s = s := by
  unfold parseOf at h
  simp only [Option.bind_eq_some_iff] at h
  obtain ⟨⟨o', q⟩, h1, h2⟩ := h
  simp only at h2
  by_cases hq : q = s.size
  · rw [if_pos hq] at h2
    cases h2
    obtain ⟨hb, hl⟩ := op_bytes h1
    refine ⟨hb, L_inj ?_⟩
    rw [hq, List.drop_zero, List.drop_eq_nil_of_le (by rw [L_len]; exact Nat.le_refl _), List.append_nil] at hl
    exact hl.symm
  · rw [if_neg hq] at h2; cases h2
theorem op_self {C D I M K U : Int} {s : ByteArray} (h : opB C D I M K U s = true) : isOp (printOf C D I M K U s) 0 false = some (⟨C, D, I, M, K, U, s⟩, (printOf C D I M K U s).size) := by
  have := op_there ⟨#[]⟩ ⟨#[]⟩ C D I M K U s h
  have e : (⟨#[]⟩ : ByteArray) ++ (printOf C D I M K U s ++ ⟨#[]⟩) = printOf C D I M K U s := by apply L_inj; rw [L_app, L_app]; simp [L]
  rw [e, show (ByteArray.mk #[]).size = 0 from rfl, Nat.zero_add] at this
  exact this
theorem parse_self {C D I M K U : Int} {s : ByteArray} (h : opB C D I M K U s = true) : parseOf (printOf C D I M K U s) = some ⟨C, D, I, M, K, U, s⟩ := by
  unfold parseOf; rw [op_self h]; simp
theorem print_inj {C D I M K U C' D' I' M' K' U' : Int} {s s' : ByteArray} (h : opB C D I M K U s = true) (h' : opB C' D' I' M' K' U' s' = true) (e : printOf C D I M K U s = printOf C' D' I' M' K' U' s') :
    C = C' ∧ D = D' ∧ I = I' ∧ M = M' ∧ K = K' ∧ U = U' ∧ s = s' := by
  have a := parse_self h
  rw [e, parse_self h'] at a
  cases a
  exact ⟨rfl, rfl, rfl, rfl, rfl, rfl, rfl⟩

theorem right_ex : opB 3 1 1 2 5 0 ⟨#[97]⟩ = true := by decide +kernel
theorem enc_6 : enc 6 = [6] := by rw [enc_small (by decide)]; rfl
theorem enc_2 : enc 2 = [2] := by rw [enc_small (by decide)]; rfl
theorem enc_4 : enc 4 = [4] := by rw [enc_small (by decide)]; rfl
theorem enc_10 : enc 10 = [10] := by rw [enc_small (by decide)]; rfl
theorem enc_0 : enc 0 = [0] := by rw [enc_small (by decide)]; rfl
theorem print_ex : printOf 3 1 1 2 5 0 ⟨#[97]⟩ = ⟨#[6, 2, 2, 4, 10, 0, 2, 97]⟩ := by
  apply L_inj
  unfold printOf textOf
  simp only [L_app]
  have l3 : L (bytesOf 3) = [6] := enc_6
  have l1 : L (bytesOf 1) = [2] := enc_2
  have l2 : L (bytesOf 2) = [4] := enc_4
  have l5 : L (bytesOf 5) = [10] := enc_10
  have l0 : L (bytesOf 0) = [0] := enc_0
  have lz : L (bytesOf ((ByteArray.mk #[97]).size : Int)) = [2] := enc_2
  rw [l3, l1, l2, l5, l0, lz]; rfl
theorem parse_ex : parseOf ⟨#[6, 2, 2, 4, 10, 0, 2, 97]⟩ = some ⟨3, 1, 1, 2, 5, 0, ⟨#[97]⟩⟩ := by rw [← print_ex]; exact parse_self right_ex
end Go.Proofs.YtfpgfclmmdihjaaGreat

/- The frame of a law that reads its arguments, makes memory of its own, and answers true: its row's end, out of 'Below' alone. -/
namespace Go.Proofs.YtfpgfclmmdihjaaGreat.Frm
open Go.ChangeShapes Go.WideShapes Go.ChangeAt Go.RowKit

section
variable {H : Type} {enc : TypeId × Value → H} {P : Program}

/-- Each type of a list can be read, and is a row of the table. -/
def rowed (P : Program) (ts : List TypeId) : Bool := ts.all fun t => P.readableRec t && decide (t < P.types.size)

theorem trodAll_below (hl : laidOutB P = true) {W W' : World} (hb : Below W.heap.size W W') (sp : Nat → Bool) :
    ∀ {ts : List TypeId} {vs : List Value} {ds : List (DataW H)} {ps : List MemPlace}, rowed P ts = true → DataW.TrodAll enc P W 0 (fun _ => true) true ts vs ds ps → (∀ p ∈ ps, p.block < W.heap.size) → (∀ p ∈ ps, sp p.block = true) →
      DataW.TrodAll enc P W' 0 sp true ts vs ds ps
  | [], [], [], _, _, h, _, _ => h
  | [], [], _ :: _, _, _, h, _, _ => h.elim
  | [], _ :: _, _, _, _, h, _, _ => h.elim
  | _ :: _, [], _, _, _, h, _, _ => h.elim
  | _ :: _, _ :: _, [], _, _, h, _, _ => h.elim
  | t :: ts, v :: vs, d :: ds, ps, hr, h, hlt, hsp => by
    obtain ⟨p, q, h1, h2, rfl⟩ := h
    simp only [rowed, List.all_cons, Bool.and_eq_true, decide_eq_true_iff] at hr
    refine ⟨p, q, ?_, trodAll_below hl hb sp (by simpa [rowed] using hr.2) h2 (fun x hx => hlt x (by simp [hx])) (fun x hx => hsp x (by simp [hx])), rfl⟩
    exact WideElems.Trod_stays hl hr.1.1 hr.1.2 h1 (fun x hx => hb.same (hlt x (by simp [hx]))) (fun x hx => hsp x (by simp [hx]))

/-- THE ROW's END: what was there has not turned, the answer is true, the arguments read as they did. -/
theorem law_post {f : Func} {s : ChangeSpec} {apart fresh handsOn again : Bool} {W W' : World} {args : Array Value} {ds gs : List (DataW H)} {before : List MemPlace} {tb : TypeId}
    (hl : laidOutB P = true) (hrow : rowed P f.params.toList = true) (hres : f.resultTypes = #[tb]) (hbool : P.underlying tb = some .bool) (hvars : s.vars = [])
    (hspec : s.fn H ds = { results := [.lit (.bool true)], args := ds })
    (hW : DataW.Whole enc P f.params.toList s.vars apart W args.toList ds gs before) (hb : Below W.heap.size W W') :
    s.post enc P f apart fresh handsOn again W args (.bool true) W' := by
  have hlt : ∀ p ∈ before, p.block < W.heap.size := fun p hp => hW.lt p hp
  have hold : ∀ p ∈ before, (fun b => decide (b < W.heap.size)) p.block = true := fun p hp => by simpa using hlt p hp
  obtain ⟨p, q, hA, hV, hpq, hfz, hnd⟩ := hW
  have hgs : gs = [] ∧ q = [] := by rw [hvars] at hV; exact trodVars_none hV
  obtain ⟨rfl, rfl⟩ := hgs
  rw [List.append_nil] at hpq
  subst hpq
  have hs2 : (s.fn H (ds ++ [])).results = [.lit (.bool true)] := by rw [List.append_nil, hspec]
  have hs3 : (s.fn H (ds ++ [])).args = ds := by rw [List.append_nil, hspec]
  have hs4 : (s.fn H (ds ++ [])).vars = [] := by rw [List.append_nil, hspec]
  have hargs : ∀ sp : Nat → Bool, (∀ p ∈ before, sp p.block = true) → DataW.TrodAll enc P W' 0 sp true f.params.toList args.toList (s.fn H (ds ++ [])).args before := by
    intro sp hsp
    rw [hs3]
    exact trodAll_below hl hb sp hrow hA hlt hsp
  have hR : ∀ (b : Nat) (sp : Nat → Bool) (hd : Bool), DataW.TrodAll enc P W' b sp hd f.resultTypes.toList ((Value.bool true).resultList f.resultTypes.size) (s.fn H (ds ++ [])).results [] := by
    intro b sp hd
    rw [hs2, hres]
    exact trodAll_mk1 (shut_bool hbool true)
  have hvr : ∀ sp : Nat → Bool, DataW.TrodVars enc P W' sp s.vars (s.fn H (ds ++ [])).vars [] := by
    intro sp; rw [hs4, hvars]; rfl
  have hW0 : DataW.Whole enc P f.params.toList s.vars apart W args.toList ds [] before := ⟨before, [], hA, hV, by simp, hfz, hnd⟩
  refine ⟨ds, [], before, [], before, [], hW0, hR _ _ _, hargs _ hold, hvr _, World.keptBut_mono (fun p hp => ⟨hp, by simpa using hp⟩) (hb.frame (· ∈ before)), fun _ => ?_⟩
  refine ⟨ok_one hres rfl (okWide_bool_mk hbool true), _, _, ([] ++ before) ++ [], ⟨[] ++ before, [], trodAll_append (hargs _ (fun _ _ => rfl)) (hR _ _ _), hvr _, rfl, ?_, ?_⟩, ?_⟩
  · intro b off hp
    have hin : MemPlace.cell b off ∈ before := by simpa using hp
    rw [hb.frozen (hlt _ hin)]
    exact hfz b off hin
  · intro ha
    simpa using hnd ha
  · intro p hp _
    simpa using hp

end
end Go.Proofs.YtfpgfclmmdihjaaGreat.Frm

/- How words and texts among the arguments of the laws are opened. -/
namespace Go.Proofs.YtfpgfclmmdihjaaGreat
open Go.ChangeShapes Go.WideShapes Go.ChangeAt Go.RowKit Go.Deep

theorem own : ownKnob Tryz.prog.godebug = none := by kernel_rfl
theorem cells3 : Tryz.prog.cellsOf 3 = 1 := by kernel_rfl
theorem cells4 : Tryz.prog.cellsOf 4 = 1 := by kernel_rfl
theorem cells5 : Tryz.prog.cellsOf 5 = 1 := by kernel_rfl
theorem cells9 : Tryz.prog.cellsOf 9 = 1 := by kernel_rfl

set_option maxRecDepth 100000 in
theorem open_str {H : Type} {enc : TypeId × Value → H} {W : World} {base : Nat} {sp : Nat → Bool} {v : Value} {d : DataW H} {ps : List MemPlace}
    (hv : Value.okWide Tryz.prog W .any base 9 v) (h : DataW.Trod enc Tryz.prog W 0 sp true 9 v d ps) : ∃ s : ByteArray, v = .string s ∧ s.size ≤ maxLen := by
  obtain ⟨s, rfl, _, _, hs⟩ := ChangeMaps.open_string Tryz.underlying9 hv h
  exact ⟨s, rfl, hs⟩

set_option maxRecDepth 100000 in
theorem open_i64 {H : Type} {enc : TypeId × Value → H} {W : World} {base : Nat} {sp : Nat → Bool} {v : Value} {d : DataW H} {ps : List MemPlace}
    (hv : Value.okWide Tryz.prog W .any base 3 v) (h : DataW.Trod enc Tryz.prog W 0 sp true 3 v d ps) : ∃ n : Int, v = .int .i64 n ∧ i64 n := by
  obtain ⟨a, rfl, _, _, wf⟩ := open_int Tryz.underlying3 hv h
  have hb := bounds_i64 wf
  exact ⟨a, rfl, by omega, by omega⟩

end Go.Proofs.YtfpgfclmmdihjaaGreat

/- How the arguments of the laws are opened. -/
namespace Go.Proofs.YtfpgfclmmdihjaaGreat
open Go.ChangeShapes Go.WideShapes Go.ChangeAt Go.RowKit Go.Deep Nam Cod

theorem cells25 : Tryz.prog.cellsOf 102 = 7 := by kernel_rfl
theorem cells23 : Tryz.prog.cellsOf 100 = 2 := by kernel_rfl

set_option maxRecDepth 100000 in
/-- Seven cells that read as an operation. -/
theorem read_op {H : Type} {enc : TypeId × Value → H} {W : World} {base : Nat} {sp : Nat → Bool} {held : Bool} {fuel : Nat} {cs : List Value} {x : DataW H × List MemPlace}
    (h : DataW.trod enc Tryz.prog W base sp held fuel 102 cs = some x) : ∃ (C D I M K U : Int) (s : ByteArray), cs = [.int .i64 C, .int .i64 D, .int .i64 I, .int .i64 M, .int .i64 K, .int .i64 U, .string s] ∧ Wide C D I M K U ∧ s.size ≤ maxLen := by
  obtain ⟨xs, n, _, _, hl, hlen, hf⟩ := DataW.trod_struct Tryz.underlying102 h
  have hl7 : cs.length = 7 := hl.trans cells25
  have hl6 : xs.length = 6 := hlen
  match cs, hl7, xs, hl6 with
  | [c0, c1, c2, c3, c4, c5, c6], _, [y0, y1, y2, y3, y4, y5], _ =>
    have h0 := hf 0 _ rfl
    have h1 := hf 1 _ rfl
    have h2 := hf 2 _ rfl
    have h3 := hf 3 _ rfl
    have h4 := hf 4 _ rfl
    have h5 := hf 5 _ rfl
    simp [cells23, cells3, cells9] at h0 h1 h2 h3 h4 h5
    obtain ⟨zs, n', _, _, _, hlen2, hg⟩ := DataW.trod_struct Tryz.underlying100 h0
    have hl2 : zs.length = 2 := hlen2
    match zs, hl2 with
    | [z0, z1], _ =>
      have g0 := hg 0 _ rfl
      have g1 := hg 1 _ rfl
      simp [cells3] at g0 g1
      obtain ⟨C, e0, _, w0⟩ := DataW.trod_int Tryz.underlying3 g0
      obtain ⟨D, e1, _, w1⟩ := DataW.trod_int Tryz.underlying3 g1
      obtain ⟨I, e2, _, w2⟩ := DataW.trod_int Tryz.underlying3 h1
      obtain ⟨M, e3, _, w3⟩ := DataW.trod_int Tryz.underlying3 h2
      obtain ⟨K, e4, _, w4⟩ := DataW.trod_int Tryz.underlying3 h3
      obtain ⟨U, e5, _, w5⟩ := DataW.trod_int Tryz.underlying3 h4
      obtain ⟨s, e6, _, w6⟩ := DataW.trod_string Tryz.underlying9 h5
      simp at e0 e1 e2 e3 e4 e5 e6
      subst e0 e1 e2 e3 e4 e5 e6
      have b0 := bounds_i64 w0
      have b1 := bounds_i64 w1
      have b2 := bounds_i64 w2
      have b3 := bounds_i64 w3
      have b4 := bounds_i64 w4
      have b5 := bounds_i64 w5
      exact ⟨C, D, I, M, K, U, s, rfl, ⟨⟨by omega, by omega⟩, ⟨by omega, by omega⟩, ⟨by omega, by omega⟩, ⟨by omega, by omega⟩, ⟨by omega, by omega⟩, ⟨by omega, by omega⟩⟩, w6⟩

set_option maxRecDepth 100000 in
theorem open_op {H : Type} {enc : TypeId × Value → H} {W : World} {base : Nat} {sp : Nat → Bool} {v : Value} {d : DataW H} {ps : List MemPlace}
    (hv : Value.okWide Tryz.prog W .any base 102 v) (h : DataW.Trod enc Tryz.prog W 0 sp true 102 v d ps) : ∃ (C D I M K U : Int) (s : ByteArray), v = .agg #[.int .i64 C, .int .i64 D, .int .i64 I, .int .i64 M, .int .i64 K, .int .i64 U, .string s] ∧ Wide C D I M K U ∧ s.size ≤ maxLen := by
  obtain ⟨cs, rfl, _⟩ := okWide_struct Tryz.underlying102 hv
  obtain ⟨fuel, hf⟩ := h
  obtain ⟨C, D, I, M, K, U, s, e, hw, hs⟩ := read_op hf
  refine ⟨C, D, I, M, K, U, s, ?_, hw, hs⟩
  obtain ⟨l⟩ := cs
  simp [Value.cells] at e
  rw [e]
end Go.Proofs.YtfpgfclmmdihjaaGreat

/- Operations, one behind the other: what stands where. -/
namespace Go.Proofs.YtfpgfclmmdihjaaGreat
open Go.RowKit Nam Cod

instance : Inhabited Mv := ⟨zeroMv⟩
def Mv.ok (m : Mv) : Prop := opB m.C m.D m.I m.M m.K m.U m.s = true
def Mv.bytes (m : Mv) : ByteArray := printOf m.C m.D m.I m.M m.K m.U m.s
def catO (f : Nat → Mv) : Nat → ByteArray
  | 0 => ⟨#[]⟩
  | k + 1 => catO f k ++ (f k).bytes
def posO (f : Nat → Mv) (k : Nat) : Nat := (catO f k).size
def okO (f : Nat → Mv) (n : Nat) : Prop := ∀ j, j < n → (f j).ok
theorem okO_next {f : Nat → Mv} {k : Nat} (h : okO f k) (hk : (f k).ok) : okO f (k + 1) := by
  intro j hj
  by_cases e : j = k
  · subst e; exact hk
  · exact h j (by omega)
theorem bytes_le {m : Mv} (h : m.ok) : m.bytes.size ≤ 86 := by
  obtain ⟨⟨c, d, i, n, k, u⟩, _, hs, _⟩ := opB_wide h
  unfold Mv.bytes printOf textOf
  simp only [ByteArray.size_append]
  have z1 := bytesOf_le m.C c.1 c.2
  have z2 := bytesOf_le m.D d.1 d.2
  have z3 := bytesOf_le m.I i.1 i.2
  have z4 := bytesOf_le m.M n.1 n.2
  have z5 := bytesOf_le m.K k.1 k.2
  have z6 := bytesOf_le m.U u.1 u.2
  have z7 := bytesOf_le m.s.size (by omega) (by omega)
  omega
theorem catO_le (f : Nat → Mv) : ∀ k, okO f k → (catO f k).size ≤ 86 * k
  | 0, _ => by show (ByteArray.mk #[]).size ≤ _; exact Nat.zero_le _
  | k + 1, h => by
    have h1 := catO_le f k (fun j hj => h j (by omega))
    have h2 := bytes_le (h k (by omega))
    unfold catO; rw [ByteArray.size_append]; omega
theorem catO_rest (f : Nat → Mv) (k : Nat) : ∀ n, k ≤ n → ∃ R, catO f n = catO f k ++ R
  | 0, h => ⟨⟨#[]⟩, by obtain rfl : k = 0 := by omega
                       apply L_inj; rw [L_app]; simp [L, catO]⟩
  | n + 1, h => by
    by_cases e : k = n + 1
    · subst e; exact ⟨⟨#[]⟩, by apply L_inj; rw [L_app]; simp [L]⟩
    · obtain ⟨R, hR⟩ := catO_rest f k n (by omega)
      exact ⟨R ++ (f n).bytes, by rw [catO, hR, ByteArray.append_assoc]⟩
theorem catO_op (f : Nat → Mv) (k n : Nat) (h : k < n) (hf : okO f n) (Z : ByteArray) : isOp (catO f n ++ Z) (posO f k) false = some (f k, posO f (k + 1)) := by
  obtain ⟨R, hR⟩ := catO_rest f (k + 1) n h
  have hk := hf k h
  have t := op_there (catO f k) (R ++ Z) (f k).C (f k).D (f k).I (f k).M (f k).K (f k).U (f k).s hk
  have e : catO f n ++ Z = catO f k ++ (printOf (f k).C (f k).D (f k).I (f k).M (f k).K (f k).U (f k).s ++ (R ++ Z)) := by
    rw [hR, catO, ByteArray.append_assoc, ByteArray.append_assoc]; rfl
  rw [e]
  unfold posO
  rw [t]
  show _ = some (f k, (catO f k ++ (f k).bytes).size)
  rw [ByteArray.size_append]; rfl

/-- From the cell o of block b on an operation lies. -/
def AtOp (w : World) (b o : Nat) (m : Mv) : Prop :=
  w.cell? ⟨b, o, none⟩ = some (.int .i64 m.C) ∧ w.cell? ⟨b, o + 1, none⟩ = some (.int .i64 m.D) ∧ w.cell? ⟨b, o + 2, none⟩ = some (.int .i64 m.I) ∧ w.cell? ⟨b, o + 3, none⟩ = some (.int .i64 m.M) ∧ w.cell? ⟨b, o + 4, none⟩ = some (.int .i64 m.K) ∧ w.cell? ⟨b, o + 5, none⟩ = some (.int .i64 m.U) ∧ w.cell? ⟨b, o + 6, none⟩ = some (.string m.s)
theorem AtOp.below {W w : World} {b o : Nat} {m : Mv} (h : AtOp W b o m) (hb : Below W.heap.size W w) (hl : b < W.heap.size) : AtOp w b o m := by
  unfold AtOp at h ⊢
  rw [(bcell hb).1 _ _ hl, (bcell hb).1 _ _ hl, (bcell hb).1 _ _ hl, (bcell hb).1 _ _ hl, (bcell hb).1 _ _ hl, (bcell hb).1 _ _ hl, (bcell hb).1 _ _ hl]; exact h
/-- The slice A holds the operations f 0, f 1 .. -/
def Ops (w : World) (A : Option Addr) (len : Nat) (f : Nat → Mv) : Prop :=
  0 < len → ∃ b off, A = some ⟨b, off, none⟩ ∧ b < w.heap.size ∧ ∀ i, i < len → AtOp w b (off + i * 7) (f i)

theorem opRead_yes {w : World} {b p : Nat} {s : ByteArray} {bad : Bool} {o : Mv} {q : Nat} (hs : s.size ≤ 1000000) (hp : p ≤ s.size) (hr : Rd 60 w b s p bad) (h : isOp s p bad = some (o, q)) :
    Calls Tryz.prog 62 #[.pointer (some ⟨b, 0, none⟩)] w fun e w' => e = .returned (.agg #[.int .i64 o.C, .int .i64 o.D, .int .i64 o.I, .int .i64 o.M, .int .i64 o.K, .int .i64 o.U, .string o.s]) ∧ Rd 60 w' b s q false ∧ w.grownBy w' (some b) := by
  refine (opRead_uni hs hp hr).mono ?_
  rintro e w' ⟨o', q', bad', rfl, hr', hq, hg, st⟩
  rcases st with ⟨h', rfl⟩ | ⟨h', _⟩
  · rw [h] at h'; cases h'
    exact ⟨rfl, hr', hg⟩
  · rw [h] at h'; cases h'
end Go.Proofs.YtfpgfclmmdihjaaGreat

/- A tree as it must be: what makes one, how long it is, what its numbers are. No call in it. -/
namespace Go.Proofs.YtfpgfclmmdihjaaGreat
open Go.RowKit Tre Cod Nam

theorem sorted_rising : ∀ {l : List Pl}, Sorted l → rising l = true
  | [], _ => rfl
  | [_], _ => rfl
  | p :: q :: l, h => by
    unfold rising
    rw [Bool.and_eq_true, decide_eq_true_iff]
    exact ⟨h 0 1 (by simp) (by simp) (by omega), sorted_rising fun i j hi hj hij => h (i + 1) (j + 1) (by simpa using hi) (by simpa using hj) (by omega)⟩
theorem treeB_of {l : List Pl} (h1 : ∀ p ∈ l, okPl p = true) (h2 : Sorted l) (h3 : NoRing l) : treeB l = true := by
  unfold treeB
  simp only [Bool.and_eq_true, List.all_eq_true, Bool.not_eq_true']
  exact ⟨h1, sorted_rising h2, h3⟩
theorem tree_len {l : List Pl} (h : treeB l = true) : l.length ≤ 62 := by
  obtain ⟨h1, h2, _⟩ := treeB_facts h
  exact sorted_len h2 fun p hp => ⟨(okPl_fit (h1 p hp)).2.1, (okPl_fit (h1 p hp)).2.2.1⟩
theorem tree_fit {l : List Pl} (h : treeB l = true) : ∀ p ∈ l, Fit p := fun p hp => (okPl_fit ((treeB_facts h).1 p hp)).1
end Go.Proofs.YtfpgfclmmdihjaaGreat

/- A past as it must be, and what stays so. No call in it. -/
namespace Go.Proofs.YtfpgfclmmdihjaaGreat
open Go.RowKit Tre Cod Pst Nam

theorem ok_pl {m : Mv} (h : m.ok) : okPl (mvPl m) = true := by
  unfold Mv.ok opB mvB at h
  simp only [Bool.and_eq_true, decide_eq_true_iff] at h
  unfold okPl mvPl
  simp only [Bool.and_eq_true, decide_eq_true_iff]
  exact ⟨by omega, h.2.2.2.2⟩
theorem ok_mvs {o : List Mv} (h : ∀ m ∈ o, m.ok) : ∀ q ∈ mvs o, okPl q = true := fun q hq => by
  unfold mvs at hq
  obtain ⟨m, hm, rfl⟩ := List.mem_map.1 hq
  exact ok_pl (h m hm)
theorem fold_tree {l : List Pl} (h : treeB l = true) {o : List Mv} (ho : ∀ m ∈ o, m.ok) : treeB (foldL l (mvs o)).1 = true := by
  obtain ⟨h1, h2, h3⟩ := treeB_facts h
  exact treeB_of (foldL_mem h2 _ h1 (ok_mvs ho)) (foldL_sorted h2 _) (foldL_noRing h2 h3 _)
theorem mvs_app (a b : List Mv) : mvs (a ++ b) = mvs a ++ mvs b := by unfold mvs; rw [List.map_append]
theorem mvs_drop (o : List Mv) (k : Nat) : (mvs o).drop k = mvs (o.drop k) := by unfold mvs; rw [List.map_drop]

structure PInv (q : Pv) : Prop where
  tree : treeB q.base = true
  t0 : 0 ≤ q.t
  t1 : q.t ≤ 1099511627776
  ok : ∀ m ∈ q.ops, m.ok
  gt : ∀ m ∈ q.ops, q.t < m.C
  ris : Ris Mv.C Mv.D q.ops
  un : q.us = (foldL q.base (mvs q.ops)).2
  nw : q.now = (foldL q.base (mvs q.ops)).1
theorem PInv.zero : PInv Pv.zero where
  tree := rfl
  t0 := Int.le_refl _
  t1 := by decide
  ok := fun m h => by cases h
  gt := fun m h => by cases h
  ris := List.Pairwise.nil
  un := rfl
  nw := rfl
theorem PInv.ntree {q : Pv} (h : PInv q) : treeB q.now = true := by rw [h.nw]; exact fold_tree h.tree h.ok
theorem PInv.ulen {q : Pv} (h : PInv q) : q.us.length = q.ops.length := by rw [h.un, foldL_len, mvs_len]
theorem ok_C {m : Mv} (h : m.ok) : 1 ≤ m.C ∧ m.C ≤ 1099511627776 ∧ 0 ≤ m.D ∧ m.D < 12 := by
  unfold Mv.ok opB atB at h
  simp only [Bool.and_eq_true, decide_eq_true_iff] at h
  exact h.1
theorem addV_late' {q : Pv} {m : Mv} (h : m.C ≤ q.t) : addV q m = (q, false) := by unfold addV; rw [if_pos h]
theorem addV_same' {q : Pv} {m : Mv} (h : ¬ m.C ≤ q.t) (hh : has Mv.C Mv.D q.ops m = true) : addV q m = (q, false) := by unfold addV; rw [if_neg h, if_pos hh]
theorem addV_new' {q : Pv} {m : Mv} (h : ¬ m.C ≤ q.t) (hh : has Mv.C Mv.D q.ops m = false) : addV q m = ({ q with ops := insL Mv.C Mv.D q.ops m, us := (foldL q.base (mvs (insL Mv.C Mv.D q.ops m))).2, now := (foldL q.base (mvs (insL Mv.C Mv.D q.ops m))).1 }, true) := by
  unfold addV; rw [if_neg h, hh]; rfl
theorem PInv.add {q : Pv} (h : PInv q) {m : Mv} (hm : m.ok) : PInv (addV q m).1 := by
  by_cases h1 : m.C ≤ q.t
  · rw [addV_late' h1]; exact h
  · rcases h2 : has Mv.C Mv.D q.ops m with _ | _
    · rw [addV_new' h1 h2]
      refine ⟨h.tree, h.t0, h.t1, fun x hx => ?_, fun x hx => ?_, ris_ins h.ris h2, rfl, rfl⟩
      · rcases (mem_ins _ _ _).1 hx with rfl | hx
        · exact hm
        · exact h.ok x hx
      · rcases (mem_ins _ _ _).1 hx with rfl | hx
        · show q.t < _; omega
        · exact h.gt x hx
    · rw [addV_same' h1 h2]; exact h
theorem settleV_late' {q : Pv} {t : Int} (h : t ≤ q.t) : settleV q t = q := by unfold settleV; rw [if_pos h]
/-- What the program makes of it: the undos cut, the tree as it was. -/
theorem PInv.settle_eq {q : Pv} (h : PInv q) {t : Int} (ht : ¬ t ≤ q.t) :
    settleV q t = ⟨(foldL q.base (mvs (q.ops.take (upto Mv.C q.ops t)))).1, t, q.ops.drop (upto Mv.C q.ops t), q.us.drop (upto Mv.C q.ops t), q.now⟩ := by
  unfold settleV
  rw [if_neg ht]
  have e : mvs q.ops = mvs (q.ops.take (upto Mv.C q.ops t)) ++ mvs (q.ops.drop (upto Mv.C q.ops t)) := by rw [← mvs_app, List.take_append_drop]
  have hk := upto_le (c := Mv.C) q.ops t
  rw [h.un, h.nw]
  conv => rhs; rw [e, foldL_app]
  have hl : (foldL q.base (mvs (q.ops.take (upto Mv.C q.ops t)))).2.length = upto Mv.C q.ops t := by rw [foldL_len, mvs_len, List.length_take]; omega
  rw [List.drop_left' hl]
theorem PInv.settle {q : Pv} (h : PInv q) {t : Int} (ht : t ≤ 1099511627776) : PInv (settleV q t) := by
  by_cases h1 : t ≤ q.t
  · rw [settleV_late' h1]; exact h
  · have e : settleV q t = ⟨(foldL q.base (mvs (q.ops.take (upto Mv.C q.ops t)))).1, t, q.ops.drop (upto Mv.C q.ops t), (foldL (foldL q.base (mvs (q.ops.take (upto Mv.C q.ops t)))).1 (mvs (q.ops.drop (upto Mv.C q.ops t)))).2, (foldL (foldL q.base (mvs (q.ops.take (upto Mv.C q.ops t)))).1 (mvs (q.ops.drop (upto Mv.C q.ops t)))).1⟩ := by
      unfold settleV; rw [if_neg h1]
    rw [e]
    exact ⟨fold_tree h.tree fun m hm => h.ok m (List.mem_of_mem_take hm), by have := h.t0; show 0 ≤ t; omega, ht, fun m hm => h.ok m (List.mem_of_mem_drop hm), upto_drop h.ris t, h.ris.sublist (List.drop_sublist _ _), rfl, rfl⟩
theorem addV_len (q : Pv) (m : Mv) : (addV q m).1.ops.length ≤ q.ops.length + 1 := by
  unfold addV
  split
  · exact Nat.le_succ _
  · split
    · exact Nat.le_succ _
    · show (insL Mv.C Mv.D q.ops m).length ≤ _; rw [ins_len]; exact Nat.le_refl _
theorem settleV_len (q : Pv) (t : Int) : (settleV q t).ops.length ≤ q.ops.length := by
  unfold settleV
  split
  · exact Nat.le_refl _
  · show (List.drop _ _).length ≤ _; rw [List.length_drop]; omega
/-- The tree and the undos with m at its place: those ahead stay, the others are made anew upon the tree ahead of it. -/
theorem PInv.add_eq {q : Pv} (h : PInv q) (m : Mv) (k : Nat) (hk : k = pos Mv.C Mv.D q.ops m) :
    q.us.take k = (foldL q.base (mvs (q.ops.take k))).2 ∧
    q.us.drop k = (foldL (foldL q.base (mvs (q.ops.take k))).1 (mvs (q.ops.drop k))).2 ∧
    q.now = (foldL (foldL q.base (mvs (q.ops.take k))).1 (mvs (q.ops.drop k))).1 ∧
    (foldL q.base (mvs (insL Mv.C Mv.D q.ops m))).1 = (foldL (foldL q.base (mvs (q.ops.take k))).1 (mvs ([m] ++ q.ops.drop k))).1 ∧
    (foldL q.base (mvs (insL Mv.C Mv.D q.ops m))).2 = q.us.take k ++ (foldL (foldL q.base (mvs (q.ops.take k))).1 (mvs ([m] ++ q.ops.drop k))).2 ∧
    insL Mv.C Mv.D q.ops m = q.ops.take k ++ ([m] ++ q.ops.drop k) := by
  have hk1 : k ≤ q.ops.length := hk ▸ pos_le q.ops m
  have e : mvs q.ops = mvs (q.ops.take k) ++ mvs (q.ops.drop k) := by rw [← mvs_app, List.take_append_drop]
  have hl : (foldL q.base (mvs (q.ops.take k))).2.length = k := by rw [foldL_len, mvs_len, List.length_take]; omega
  have hins : insL Mv.C Mv.D q.ops m = q.ops.take k ++ ([m] ++ q.ops.drop k) := by unfold insL; rw [← hk, List.append_assoc]
  have hu : q.us.take k = (foldL q.base (mvs (q.ops.take k))).2 := by
    rw [h.un, e, foldL_app]; exact List.take_left' hl
  refine ⟨hu, ?_, ?_, ?_, ?_, hins⟩
  · rw [h.un]; conv => lhs; rw [e, foldL_app]
    exact List.drop_left' hl
  · rw [h.nw]; conv => lhs; rw [e, foldL_app]
  · rw [hins, mvs_app, foldL_app]
  · rw [hins, mvs_app, foldL_app, hu]
end Go.Proofs.YtfpgfclmmdihjaaGreat
