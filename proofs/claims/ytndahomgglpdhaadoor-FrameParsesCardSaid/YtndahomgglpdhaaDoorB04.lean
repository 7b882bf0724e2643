/- Texts laid one behind the other: Mm, Va, Ic, Id, Eb, Vb, Vc, Vd, Ve, Vf, Vg, Fc, Fd, Fe, Ek, Ff, Ie, If, Ig, Fh. -/
import Derived.Test.YtndahomgglpdhaaDoorB03
import Derived.Lib.SliceRun
import Derived.Deep.RegionHeld3
import Derived.Lib.MinMax
import Derived.Lib.QuietBelow
import Derived.BigQuiet
import Derived.Deep.QuietTactic
import Derived.Deep.CutRange
import Derived.Test.YtndahomgglpdhaaDoorTie
import Derived.Test.YtndahomgglpdhaaDoorCards
import Derived.LaidMore
import Derived.Stop.Joined
import Derived.SevenTiedAt
/- Trees as sorted lists: what put, drop and a move make of them. No program in it. -/
namespace Tre

theorem sorted_pw {l : List Pl} : Sorted l ↔ l.Pairwise (fun p q => p.n < q.n) := by
  rw [List.pairwise_iff_getElem]
  exact ⟨fun h i j hi hj hij => h i j hi hj hij, fun h i j hi hj hij => h i j hi hj hij⟩
theorem get_iff {l : List Pl} (hs : Sorted l) {b : Int} {p : Pl} : get l b = some p ↔ p ∈ l ∧ p.n = b := by
  constructor
  · intro h
    obtain ⟨h1, h2, _⟩ := get_some h
    exact ⟨h1, h2⟩
  · rintro ⟨h, rfl⟩
    obtain ⟨i, hi, rfl⟩ := List.getElem_of_mem h
    exact get_self hs i hi
theorem sorted_one {l : List Pl} (hs : Sorted l) {p q : Pl} (hp : p ∈ l) (hq : q ∈ l) (h : p.n = q.n) : p = q := by
  have h1 := (get_iff hs).2 ⟨hp, h⟩
  have h2 := (get_iff hs).2 ⟨hq, rfl⟩
  rw [h1] at h2
  exact Option.some.inj h2
theorem sorted_ext : ∀ {l m : List Pl}, Sorted l → Sorted m → (∀ q, q ∈ l ↔ q ∈ m) → l = m
  | [], [], _, _, _ => rfl
  | [], q :: m, _, _, h => absurd ((h q).2 (by simp)) (by simp)
  | p :: l, [], _, _, h => absurd ((h p).1 (by simp)) (by simp)
  | p :: l, q :: m, hl, hm, h => by
    have hl' := List.pairwise_cons.1 (sorted_pw.1 hl)
    have hm' := List.pairwise_cons.1 (sorted_pw.1 hm)
    have e : p = q := by
      rcases List.mem_cons.1 ((h p).1 (by simp)) with e | e
      · exact e
      · rcases List.mem_cons.1 ((h q).2 (by simp)) with e2 | e2
        · exact e2.symm
        · have a := hm'.1 p e
          have b := hl'.1 q e2
          omega
    subst e
    congr 1
    refine sorted_ext (sorted_pw.2 hl'.2) (sorted_pw.2 hm'.2) fun r => ⟨fun hr => ?_, fun hr => ?_⟩
    · rcases List.mem_cons.1 ((h r).1 (by simp [hr])) with e | e
      · subst e; have := hl'.1 r hr; omega
      · exact e
    · rcases List.mem_cons.1 ((h r).2 (by simp [hr])) with e | e
      · subst e; have := hm'.1 r hr; omega
      · exact e
theorem sorted_ext_get {l m : List Pl} (hl : Sorted l) (hm : Sorted m) (h : ∀ b, get l b = get m b) : l = m :=
  sorted_ext hl hm fun q => by
    constructor
    · intro hq
      exact ((get_iff hm).1 ((h q.n).symm.trans ((get_iff hl).2 ⟨hq, rfl⟩))).1
    · intro hq
      exact ((get_iff hl).1 ((h q.n).trans ((get_iff hm).2 ⟨hq, rfl⟩))).1

theorem take_before (l : List Pl) (b : Int) : ∀ q ∈ l.take (idx l b), q.n < b := fun q hq => by
  obtain ⟨i, hi, rfl⟩ := List.getElem_of_mem hq
  rw [List.length_take] at hi
  rw [List.getElem_take]
  exact idx_before l b i (by omega) (by omega)
theorem drop_behind {l : List Pl} (hs : Sorted l) (b : Int) : ∀ q ∈ l.drop (behind l b), b < q.n := fun q hq => by
  obtain ⟨i, hi, rfl⟩ := List.getElem_of_mem hq
  rw [List.length_drop] at hi
  rw [List.getElem_drop]
  have hto : behind l b = if (get l b).isSome then idx l b + 1 else idx l b := rfl
  generalize behind l b = tz at *
  rcases hg : get l b with _ | p
  · rw [hg] at hto
    obtain rfl : tz = idx l b := by simpa using hto
    have hl : idx l b < l.length := by omega
    have h1 := idx_at l b hl
    have h2 : ¬ l[idx l b].n = b := fun e => by rw [get_of hl e] at hg; cases hg
    by_cases e : i = 0
    · subst e; simp only [Nat.add_zero]; omega
    · have := hs (idx l b) (idx l b + i) hl (by omega) (by omega)
      omega
  · obtain ⟨_, hn, hl, he⟩ := get_some hg
    rw [hg] at hto
    obtain rfl : tz = idx l b + 1 := by simpa using hto
    have := hs (idx l b) (idx l b + 1 + i) hl (by omega) (by omega)
    rw [he] at this
    omega
theorem mem_sides {l : List Pl} (hs : Sorted l) (b : Int) (q : Pl) : (q ∈ l.take (idx l b) ∨ q ∈ l.drop (behind l b)) ↔ (q ∈ l ∧ q.n ≠ b) := by
  constructor
  · rintro (h | h)
    · have := take_before l b q h
      exact ⟨List.mem_of_mem_take h, by omega⟩
    · have := drop_behind hs b q h
      exact ⟨List.mem_of_mem_drop h, by omega⟩
  · rintro ⟨h, hn⟩
    obtain ⟨i, hi, rfl⟩ := List.getElem_of_mem h
    by_cases h1 : i < idx l b
    · exact Or.inl (List.mem_take_iff_getElem.2 ⟨i, by omega, rfl⟩)
    · right
      have hb : behind l b ≤ i := by
        unfold behind
        rcases hg : get l b with _ | p
        · simp; omega
        · obtain ⟨_, hp, hl, he⟩ := get_some hg
          simp
          by_cases e : i = idx l b
          · subst e; rw [he] at hn; exact absurd hp hn
          · omega
      exact List.mem_drop_iff_getElem.2 ⟨i - behind l b, by omega, by congr 1; omega⟩
theorem sorted_placed {l : List Pl} (hs : Sorted l) (b : Int) (m : List Pl) (hm : ∀ q ∈ m, q.n = b) (h1 : m.length ≤ 1) : Sorted (placedL l b m) := by
  have hp := sorted_pw.1 hs
  refine sorted_pw.2 ?_
  unfold placedL
  have hmp : m.Pairwise (fun p q => p.n < q.n) := by
    match m, h1 with
    | [], _ => exact List.Pairwise.nil
    | [q], _ => exact List.pairwise_singleton _ _
  rw [List.pairwise_append, List.pairwise_append]
  refine ⟨⟨hp.sublist (List.take_sublist _ _), hmp, fun p hp q hq => ?_⟩, hp.sublist (List.drop_sublist _ _), fun p hp q hq => ?_⟩
  · have := take_before l b p hp
    have := hm q hq
    omega
  · have h2 := drop_behind hs b q hq
    rcases List.mem_append.1 hp with h | h
    · have := take_before l b p h; omega
    · have := hm p h; omega
theorem sorted_put {l : List Pl} (hs : Sorted l) (p : Pl) : Sorted (putL l p) := sorted_placed hs p.n [p] (fun q hq => by rw [List.mem_singleton] at hq; rw [hq]) (Nat.le_refl _)
theorem sorted_drop {l : List Pl} (hs : Sorted l) (b : Int) : Sorted (dropL l b) := sorted_placed hs b [] (fun q hq => by cases hq) (Nat.zero_le _)
theorem mem_put {l : List Pl} (hs : Sorted l) (p q : Pl) : q ∈ putL l p ↔ (q = p ∨ (q ∈ l ∧ q.n ≠ p.n)) := by
  unfold putL placedL
  rw [List.mem_append, List.mem_append, List.mem_singleton, ← mem_sides hs p.n q]
  constructor
  · rintro ((h | h) | h)
    · exact Or.inr (Or.inl h)
    · exact Or.inl h
    · exact Or.inr (Or.inr h)
  · rintro (h | h | h)
    · exact Or.inl (Or.inr h)
    · exact Or.inl (Or.inl h)
    · exact Or.inr h
theorem mem_drop {l : List Pl} (hs : Sorted l) (b : Int) (q : Pl) : q ∈ dropL l b ↔ (q ∈ l ∧ q.n ≠ b) := by
  unfold dropL placedL
  rw [List.append_nil, List.mem_append, mem_sides hs b q]
theorem get_put {l : List Pl} (hs : Sorted l) (p : Pl) (b : Int) : get (putL l p) b = if b = p.n then some p else get l b := by
  have hp := sorted_put hs p
  by_cases e : b = p.n
  · rw [if_pos e]
    exact (get_iff hp).2 ⟨(mem_put hs p p).2 (Or.inl rfl), e.symm⟩
  · rw [if_neg e]
    rcases h : get l b with _ | q
    · rcases h2 : get (putL l p) b with _ | r
      · rfl
      · obtain ⟨hm, hn⟩ := (get_iff hp).1 h2
        rcases (mem_put hs p r).1 hm with e2 | ⟨h3, _⟩
        · subst e2; exact absurd hn.symm e
        · rw [(get_iff hs).2 ⟨h3, hn⟩] at h; cases h
    · obtain ⟨hm, hn⟩ := (get_iff hs).1 h
      exact (get_iff hp).2 ⟨(mem_put hs p q).2 (Or.inr ⟨hm, by omega⟩), hn⟩
theorem get_drop {l : List Pl} (hs : Sorted l) (a b : Int) : get (dropL l a) b = if b = a then none else get l b := by
  have hp := sorted_drop hs a
  rcases h2 : get (dropL l a) b with _ | r
  · by_cases e : b = a
    · rw [if_pos e]
    · rw [if_neg e]
      rcases h : get l b with _ | q
      · rfl
      · obtain ⟨hm, hn⟩ := (get_iff hs).1 h
        rw [(get_iff hp).2 ⟨(mem_drop hs a q).2 ⟨hm, by omega⟩, hn⟩] at h2; cases h2
  · obtain ⟨hm, hn⟩ := (get_iff hp).1 h2
    obtain ⟨h3, h4⟩ := (mem_drop hs a r).1 hm
    rw [if_neg (by omega), (get_iff hs).2 ⟨h3, hn⟩]
theorem put_back {l : List Pl} (hs : Sorted l) {p q : Pl} (hq : get l p.n = some q) : putL (putL l p) q = l := by
  obtain ⟨_, hn⟩ := (get_iff hs).1 hq
  refine sorted_ext_get (sorted_put (sorted_put hs p) q) hs fun b => ?_
  rw [get_put (sorted_put hs p), get_put hs]
  by_cases e : b = q.n
  · rw [if_pos e, e, hn, hq]
  · rw [if_neg e, if_neg (by omega)]
theorem drop_put {l : List Pl} (hs : Sorted l) {p : Pl} (hq : get l p.n = none) : dropL (putL l p) p.n = l := by
  refine sorted_ext_get (sorted_drop (sorted_put hs p) _) hs fun b => ?_
  rw [get_drop (sorted_put hs p), get_put hs]
  by_cases e : b = p.n
  · rw [if_pos e, e, hq]
  · rw [if_neg e, if_neg e]

/-- No way leads from a node to itself. -/
def Acyc (l : List Pl) : Prop := ∀ k b, 0 < k → ¬ up l k b = some b
theorem acyc_of {l : List Pl} (hr : NoRing l) : Acyc l := fun k b hk h => by
  have h1 := up_loop h (l.length + 1)
  have h2 := up_bound hr h1
  have : l.length + 1 ≤ k * (l.length + 1) := Nat.le_mul_of_pos_left _ hk
  omega
theorem noRing_of {l : List Pl} (hs : Sorted l) (ha : Acyc l) : NoRing l := fun p hp => by
  rcases h : above l p.n p.u with _ | _
  · rfl
  · unfold above at h
    obtain ⟨k, _, hk⟩ := (abv_iff l p.n _ p.u).1 h
    refine absurd ?_ (ha (k + 1) p.n (Nat.succ_pos k))
    rw [up, (get_iff hs).2 ⟨hp, rfl⟩]
    exact hk
theorem least {P : Nat → Prop} : ∀ j, P j → ∃ j, P j ∧ ∀ i, i < j → ¬ P i := by
  intro j
  induction j using Nat.strongRecOn with
  | ind j ih =>
    intro hj
    by_cases h : ∃ i, i < j ∧ P i
    · obtain ⟨i, hi, hp⟩ := h
      exact ih i hi hp
    · exact ⟨j, hj, fun i hi hp => h ⟨i, hi, hp⟩⟩
/-- A way that doesn't come by K is one of the other tree, too. -/
theorem up_avoid {l m : List Pl} {K : Int} (hg : ∀ b, ¬ b = K → get m b = get l b) : ∀ (j : Nat) (c : Int), (∀ i, i < j → ¬ up m i c = some K) → up m j c = up l j c
  | 0, c, _ => rfl
  | j + 1, c, h => by
    have hc : ¬ c = K := fun e => h 0 (Nat.succ_pos j) (by rw [e]; rfl)
    rw [up, up, hg c hc]
    rcases hq : get l c with _ | q
    · rfl
    · rw [Option.bind_some, Option.bind_some]
      refine up_avoid hg j q.u fun i hi e => h (i + 1) (by omega) ?_
      rw [up, hg c hc, hq, Option.bind_some]; exact e
theorem put_noRing {l : List Pl} (hs : Sorted l) (hr : NoRing l) {p : Pl} (hu : above l p.n p.u = false) : NoRing (putL l p) := by
  have hp := sorted_put hs p
  refine noRing_of hp fun k b hk h => ?_
  have hg : ∀ c, ¬ c = p.n → get (putL l p) c = get l c := fun c hc => by rw [get_put hs, if_neg hc]
  by_cases hv : ∃ i, i < k ∧ up (putL l p) i b = some p.n
  · obtain ⟨i, hi, hb⟩ := hv
    have h1 : up (putL l p) (k - i) p.n = some b := by
      have : up (putL l p) (i + (k - i)) b = some b := by rw [show i + (k - i) = k by omega]; exact h
      rw [up_add, hb, Option.bind_some] at this
      exact this
    have h2 : up (putL l p) ((k - i) + i) p.n = some p.n := by rw [up_add, h1, Option.bind_some]; exact hb
    obtain ⟨m, hm⟩ : ∃ m, (k - i) + i = m + 1 := ⟨k - 1, by omega⟩
    rw [hm, up, get_put hs, if_pos rfl, Option.bind_some] at h2
    obtain ⟨j, hj, hl⟩ := least (P := fun j => up (putL l p) j p.u = some p.n) m h2
    have h3 := up_avoid hg j p.u hl
    rw [hj] at h3
    have h4 := (above_iff hr).2 ⟨j, h3.symm⟩
    rw [hu] at h4; cases h4
  · have h3 := up_avoid hg k b (fun i hi e => hv ⟨i, hi, e⟩)
    rw [h] at h3
    exact acyc_of hr k b hk h3.symm

/-- What undoes a move: what was, whether it had a place, whether it did anything. -/
structure Un where
  was : Pl
  had : Bool
  did : Bool
def noUn : Un := ⟨zero, false, false⟩
/-- A tree behind a move of p's node to p. -/
def doL (l : List Pl) (p : Pl) : List Pl × Un := if above l p.n p.u = true then (l, noUn) else (putL l p, ⟨(get l p.n).getD zero, (get l p.n).isSome, true⟩)
def backL (l : List Pl) (b : Int) (u : Un) : List Pl := if u.did = true then (if u.had = true then putL l u.was else dropL l b) else l
theorem back_do {l : List Pl} (hs : Sorted l) (p : Pl) : backL (doL l p).1 p.n (doL l p).2 = l := by
  unfold doL
  by_cases h : above l p.n p.u = true
  · rw [if_pos h]; rfl
  · rw [if_neg h]
    unfold backL
    rw [if_pos rfl]
    rcases hg : get l p.n with _ | q
    · simp only [Option.isSome_none, Bool.false_eq_true, if_false]
      exact drop_put hs hg
    · simp only [Option.isSome_some, if_true, Option.getD_some]
      exact put_back hs hg
theorem do_sorted {l : List Pl} (hs : Sorted l) (p : Pl) : Sorted (doL l p).1 := by
  unfold doL
  split
  · exact hs
  · exact sorted_put hs p
theorem do_noRing {l : List Pl} (hs : Sorted l) (hr : NoRing l) (p : Pl) : NoRing (doL l p).1 := by
  unfold doL
  by_cases h : above l p.n p.u = true
  · rw [if_pos h]; exact hr
  · rw [if_neg h]; exact put_noRing hs hr (by simpa using h)
theorem do_mem {l : List Pl} (hs : Sorted l) (p : Pl) {P : Pl → Prop} (hl : ∀ q ∈ l, P q) (hp : P p) : ∀ q ∈ (doL l p).1, P q := by
  unfold doL
  split
  · exact hl
  · intro q hq
    rcases (mem_put hs p q).1 hq with rfl | ⟨h, _⟩
    · exact hp
    · exact hl q h

/-- A tree behind moves, one by one, and what undoes each. -/
def foldL (l : List Pl) : List Pl → List Pl × List Un
  | [] => (l, [])
  | p :: ps => ((foldL (doL l p).1 ps).1, (doL l p).2 :: (foldL (doL l p).1 ps).2)
theorem foldL_app (l : List Pl) : ∀ (a b : List Pl), foldL l (a ++ b) = ((foldL (foldL l a).1 b).1, (foldL l a).2 ++ (foldL (foldL l a).1 b).2)
  | [], b => rfl
  | p :: a, b => by
    show foldL l (p :: (a ++ b)) = _
    rw [foldL, foldL_app (doL l p).1 a b]
    rfl
theorem foldL_len (l : List Pl) : ∀ (a : List Pl), (foldL l a).2.length = a.length := by
  intro a
  induction a generalizing l with
  | nil => rfl
  | cons p a ih => show ((doL l p).2 :: _).length = _; rw [List.length_cons, ih, List.length_cons]
theorem foldL_snoc (l a : List Pl) (p : Pl) : foldL l (a ++ [p]) = ((doL (foldL l a).1 p).1, (foldL l a).2 ++ [(doL (foldL l a).1 p).2]) := foldL_app l a [p]
theorem foldL_sorted {l : List Pl} (hs : Sorted l) (a : List Pl) : Sorted (foldL l a).1 := by
  induction a generalizing l with
  | nil => exact hs
  | cons p a ih => exact ih (do_sorted hs p)
theorem foldL_noRing {l : List Pl} (hs : Sorted l) (hr : NoRing l) (a : List Pl) : NoRing (foldL l a).1 := by
  induction a generalizing l with
  | nil => exact hr
  | cons p a ih => exact ih (do_sorted hs p) (do_noRing hs hr p)
theorem foldL_mem {l : List Pl} (hs : Sorted l) {P : Pl → Prop} (a : List Pl) (hl : ∀ q ∈ l, P q) (ha : ∀ q ∈ a, P q) : ∀ q ∈ (foldL l a).1, P q := by
  induction a generalizing l with
  | nil => exact hl
  | cons p a ih => exact ih (do_sorted hs p) (do_mem hs p hl (ha p (by simp))) (fun q hq => ha q (by simp [hq]))
/-- The last move undone. -/
theorem foldL_back {l : List Pl} (hs : Sorted l) (a : List Pl) (p : Pl) : backL (foldL l (a ++ [p])).1 p.n (doL (foldL l a).1 p).2 = (foldL l a).1 := by
  rw [foldL_snoc]; exact back_do (foldL_sorted hs a) p
theorem foldL_take (l a : List Pl) (j : Nat) (h : j < a.length) : foldL l (a.take (j + 1)) = ((doL (foldL l (a.take j)).1 a[j]).1, (foldL l (a.take j)).2 ++ [(doL (foldL l (a.take j)).1 a[j]).2]) := by
  rw [List.take_succ_eq_append_getElem h, foldL_snoc]
/-- What undoes the move at j. -/
theorem foldL_un : ∀ (l a : List Pl) (j : Nat) (h : j < a.length), (foldL l a).2[j]? = some (doL (foldL l (a.take j)).1 a[j]).2
  | l, p :: a, 0, _ => rfl
  | l, p :: a, j + 1, h => foldL_un (doL l p).1 a j (by simpa using h)
theorem foldL_undo {l : List Pl} (hs : Sorted l) (a : List Pl) (j : Nat) (h : j < a.length) : backL (foldL l (a.take (j + 1))).1 a[j].n (doL (foldL l (a.take j)).1 a[j]).2 = (foldL l (a.take j)).1 := by
  rw [foldL_take l a j h]; exact back_do (foldL_sorted hs _) _
theorem foldL_take_un (l a : List Pl) (k : Nat) (h : k ≤ a.length) : (foldL l (a.take k)).2 = (foldL l a).2.take k := by
  have e : a = a.take k ++ a.drop k := (List.take_append_drop k a).symm
  have h1 : (foldL l a).2 = (foldL l (a.take k)).2 ++ (foldL (foldL l (a.take k)).1 (a.drop k)).2 := by
    conv => lhs; rw [e, foldL_app]
  have h2 : (foldL l (a.take k)).2.length = k := by rw [foldL_len, List.length_take]; omega
  rw [h1]
  exact (List.take_left' h2).symm
end Tre

/- Places, operations and undos as elements; Clone of the library; Do and Back of both. -/
namespace Go.Proofs.YtndahomgglpdhaaDoor
open Go.RowKit Tre Cod

def opE : El Mv where
  e := 50
  k := 7
  c m := [.int .i64 m.C, .int .i64 m.D, .int .i64 m.I, .int .i64 m.M, .int .i64 m.K, .int .i64 m.U, .string m.s]
  len _ := rfl
  one p u h := by
    simp only [List.mem_cons, List.not_mem_nil, or_false] at h
    rcases h with rfl | rfl | rfl | rfl | rfl | rfl | rfl <;> rfl
  pos := by decide
theorem opInn : opE.Inn Tryd.prog 22 := El.inn_of (z := .agg #[.int .i64 0, .int .i64 0, .int .i64 0, .int .i64 0, .int .i64 0, .int .i64 0, .string ⟨#[]⟩]) (bytes := 64) Tryd.underlying22 (by kernel_rfl) rfl (by decide)
theorem opRow : opE.Row Tryd.prog := ⟨by kernel_rfl, _, Tryd.underlying50, rfl⟩
theorem opAt {w : World} {b o : Nat} {m : Mv} (h : opE.At w b o m) : w.cell? ⟨b, o, none⟩ = some (.int .i64 m.C) ∧ w.cell? ⟨b, o + 1, none⟩ = some (.int .i64 m.D) ∧ w.cell? ⟨b, o + 2, none⟩ = some (.int .i64 m.I) ∧ w.cell? ⟨b, o + 3, none⟩ = some (.int .i64 m.M) ∧ w.cell? ⟨b, o + 4, none⟩ = some (.int .i64 m.K) ∧ w.cell? ⟨b, o + 5, none⟩ = some (.int .i64 m.U) ∧ w.cell? ⟨b, o + 6, none⟩ = some (.string m.s) :=
  ⟨h 0 _ rfl, h 1 _ rfl, h 2 _ rfl, h 3 _ rfl, h 4 _ rfl, h 5 _ rfl, h 6 _ rfl⟩
theorem opIn7 {w : World} {b : Nat} {m : Mv} (h : opE.In w b m) : w.cell? ⟨b, 0, none⟩ = some (.int .i64 m.C) ∧ w.cell? ⟨b, 1, none⟩ = some (.int .i64 m.D) ∧ w.cell? ⟨b, 2, none⟩ = some (.int .i64 m.I) ∧ w.cell? ⟨b, 3, none⟩ = some (.int .i64 m.M) ∧ w.cell? ⟨b, 4, none⟩ = some (.int .i64 m.K) ∧ w.cell? ⟨b, 5, none⟩ = some (.int .i64 m.U) ∧ w.cell? ⟨b, 6, none⟩ = some (.string m.s) :=
  ⟨h.cell 0, h.cell 1, h.cell 2, h.cell 3, h.cell 4, h.cell 5, h.cell 6⟩
/-- A slice of the whole: what it says, and that it holds the list. -/
def SlV {α : Type} (E : El α) (w : World) (A : Option Addr) (c : Nat) (l : List α) : Prop := E.Sl w A l ∧ (A = none → c = 0) ∧ l.length ≤ c
theorem SlV.below {α : Type} {E : El α} {W w : World} {A : Option Addr} {c : Nat} {l : List α} (h : SlV E W A c l) (hb : Below W.heap.size W w) : SlV E w A c l := ⟨h.1.below hb, h.2⟩
theorem SlV.nil {α : Type} (E : El α) (w : World) : SlV E w none 0 [] := ⟨El.Sl.nil w none, fun _ => rfl, Nat.le_refl _⟩
theorem frs_nil (B : Nat) : Frs B none := fun a e => by cases e
theorem frs_of {B b : Nat} {A : Option Addr} (h : Frs B A) (hb : b < B) : ∀ a, A = some a → some a.block ≠ some b := fun a e e2 => by
  have := h a e; have := Option.some.inj e2; omega
theorem El.Own.frs {α : Type} {E : El α} {w : World} {B n c : Nat} {A : Option Addr} {l : List α} (h : E.Own w B (.slice A n c) l) : Frs B A := fun a e => (World.ownsRow.lt h a.block (by rw [e]; rfl)).1
/-- A block ahead of it is written: it stays. -/
theorem SlV.keep {α : Type} {E : El α} {w w' : World} {A : Option Addr} {c B b : Nat} {l : List α} (h : SlV E w A c l) (hf : Frs B A) (hg : w.grownBy w' (some b)) (hb : b < B) : SlV E w' A c l :=
  ⟨h.1.keep hg (fun a e e2 => by have := hf a e; have := Option.some.inj e2; omega), h.2⟩
theorem by_row (w : World) (b : Nat) (cs : Array Value) : w.grownBy (w.setRow b cs) (some b) := ⟨rfl, rfl, rfl, by simp, fun k _ hk => setRow_other w b k cs (fun e => hk (by rw [e]))⟩
theorem by_cell (w : World) (b i : Nat) (v : Value) : w.grownBy (w.setCell ⟨b, i, none⟩ v) (some b) := ⟨rfl, rfl, rfl, by simp, fun k _ hk => heap_setCell_other w ⟨b, i, none⟩ k v (fun e => hk (by rw [e]))⟩
theorem by_cell2 {w w' : World} {b : Nat} (h : w.grownBy w' (some b)) (i : Nat) (v : Value) : w.grownBy (w'.setCell ⟨b, i, none⟩ v) (some b) := by
  have hg := by_cell w' b i v
  exact ⟨hg.os.trans h.os, hg.tape.trans h.tape, hg.output.trans h.output, Nat.le_trans h.size hg.size, fun k hk hne => (hg.block k (Nat.lt_of_lt_of_le hk h.size) hne).trans (h.block k hk hne)⟩
theorem SlV.own {α : Type} {E : El α} {w : World} {B : Nat} {v : Value} {l : List α} (h : E.Own w B v l) : ∃ A c, v = .slice A l.length c ∧ SlV E w A c l :=
  let ⟨A, c, e, h1, h2, h3⟩ := h.sl
  ⟨A, c, e, h1, h2, h3⟩
def mvPl (m : Mv) : Pl := ⟨m.K, m.U, m.s⟩
def unV (u : Un) : Value := .agg #[.int .i64 u.was.n, .int .i64 u.was.u, .string u.was.s, .bool u.had, .bool u.did]
def mvV (m : Mv) : Value := .agg #[.int .i64 m.C, .int .i64 m.D, .int .i64 m.I, .int .i64 m.M, .int .i64 m.K, .int .i64 m.U, .string m.s]
def plV (p : Pl) : Value := .agg #[.int .i64 p.n, .int .i64 p.u, .string p.s]

theorem below_own {w w1 w2 : World} {row : Option Nat} (h : Below w.heap.size w w1) (hg : w1.grownBy w2 row) (hrow : ∀ n, row = some n → w.heap.size ≤ n) : Below w.heap.size w w2 := h.grown hg h.size hrow

end Go.Proofs.YtndahomgglpdhaaDoor

/- Reports in memory; what the program's functions shall answer (ReportCalls); the document's Right, Newer, Print, Same. -/
namespace Go.Proofs.YtndahomgglpdhaaDoor
open Go.RowKit Cod

def rpE : El Rp where
  e := 54
  k := 9
  c r := [.int .i64 r.d, .int .i64 r.i, .int .i64 r.b, .int .i64 r.t, .int .i64 r.m, .int .i64 r.p, .int .i64 r.c, .int .i64 r.s, .int .i64 r.k]
  len _ := rfl
  one p u h := by
    simp only [List.mem_cons, List.not_mem_nil, or_false] at h
    rcases h with rfl | rfl | rfl | rfl | rfl | rfl | rfl | rfl | rfl <;> rfl
  pos := by decide
theorem rpRow : rpE.Row Tryd.prog := ⟨by kernel_rfl, _, Tryd.underlying54, rfl⟩
theorem rpInn : rpE.Inn Tryd.prog 23 := El.inn_of (z := .agg #[.int .i64 0, .int .i64 0, .int .i64 0, .int .i64 0, .int .i64 0, .int .i64 0, .int .i64 0, .int .i64 0, .int .i64 0]) (bytes := 72) Tryd.underlying23 (by kernel_rfl) rfl (by decide)
theorem rpIn9 {w : World} {b : Nat} {r : Rp} (h : rpE.In w b r) : w.cell? ⟨b, 0, none⟩ = some (.int .i64 r.d) ∧ w.cell? ⟨b, 1, none⟩ = some (.int .i64 r.i) ∧ w.cell? ⟨b, 2, none⟩ = some (.int .i64 r.b) ∧ w.cell? ⟨b, 3, none⟩ = some (.int .i64 r.t) ∧ w.cell? ⟨b, 4, none⟩ = some (.int .i64 r.m) ∧ w.cell? ⟨b, 5, none⟩ = some (.int .i64 r.p) ∧ w.cell? ⟨b, 6, none⟩ = some (.int .i64 r.c) ∧ w.cell? ⟨b, 7, none⟩ = some (.int .i64 r.s) ∧ w.cell? ⟨b, 8, none⟩ = some (.int .i64 r.k) :=
  ⟨h.cell 0, h.cell 1, h.cell 2, h.cell 3, h.cell 4, h.cell 5, h.cell 6, h.cell 7, h.cell 8⟩
theorem rpAt9 {w : World} {b o : Nat} {r : Rp} (h : rpE.At w b o r) : w.cell? ⟨b, o, none⟩ = some (.int .i64 r.d) ∧ w.cell? ⟨b, o + 1, none⟩ = some (.int .i64 r.i) ∧ w.cell? ⟨b, o + 2, none⟩ = some (.int .i64 r.b) ∧ w.cell? ⟨b, o + 3, none⟩ = some (.int .i64 r.t) ∧ w.cell? ⟨b, o + 4, none⟩ = some (.int .i64 r.m) ∧ w.cell? ⟨b, o + 5, none⟩ = some (.int .i64 r.p) ∧ w.cell? ⟨b, o + 6, none⟩ = some (.int .i64 r.c) ∧ w.cell? ⟨b, o + 7, none⟩ = some (.int .i64 r.s) ∧ w.cell? ⟨b, o + 8, none⟩ = some (.int .i64 r.k) :=
  ⟨h 0 _ rfl, h 1 _ rfl, h 2 _ rfl, h 3 _ rfl, h 4 _ rfl, h 5 _ rfl, h 6 _ rfl, h 7 _ rfl, h 8 _ rfl⟩
theorem rpIdxH {A : Option Addr} {b off len cap k : Nat} (hA : A = some ⟨b, off, none⟩) (h : k < len) : ∀ w, (Instr.indexAt 23 (.slice A len cap) (.int .i64 k)).run Tryd.prog w = .ok (.pointer (some ⟨b, off + k * 9, none⟩)) w := fun w => by
  subst hA
  have h2 : (k : Int) < (len : Int) := by omega
  go_simp
def RpW (r : Rp) : Prop := ∀ n ∈ rpL r, i64 n
def rpStep (s : ByteArray) (p : Nat) (bad : Bool) (x : Rp) (q : Nat) (bad' : Bool) : Prop := (isRp s p bad = some (x, q) ∧ bad' = false) ∨ (isRp s p bad = none ∧ x = zeroRp ∧ bad' = true)
def rp7 (r : Rp) : List Int := [r.i, r.b, r.t, r.p, r.c, r.s, r.k]
def headB (r : Rp) : Bool := decide (0 ≤ r.d ∧ r.d < 12 ∧ 1 ≤ r.i ∧ (r.m = 1 ∨ r.m = 2))
theorem rpB_eq (r : Rp) : rpB r = (headB r && (rp7 r).all cnt0) := by
  unfold rpB headB rp7
  simp [List.all_cons]
theorem rpB_out {r : Rp} {k : Nat} (h : k < 7) (hn : cnt0 ((rp7 r).getD k 0) = false) : rpB r = false := by
  rw [rpB_eq]
  have h1 : (rp7 r).all cnt0 = false := by
    rw [Bool.eq_false_iff]; intro ha
    rw [List.all_eq_true] at ha
    have := ha ((rp7 r).getD k 0) (by
      rw [List.getD_eq_getElem?_getD, List.getElem?_eq_getElem (by simpa [rp7] using h)]
      exact List.getElem_mem _)
    rw [hn] at this; cases this
  rw [h1, Bool.and_false]
theorem rpB_in {r : Rp} (h : ∀ k, k < 7 → cnt0 ((rp7 r).getD k 0) = true) : rpB r = headB r := by
  rw [rpB_eq]
  have h1 : (rp7 r).all cnt0 = true := by
    rw [List.all_eq_true]
    intro n hn
    obtain ⟨k, hk, rfl⟩ := List.getElem_of_mem hn
    have h2 : k < 7 := by simpa [rp7] using hk
    have := h k h2
    rw [List.getD_eq_getElem?_getD, List.getElem?_eq_getElem hk] at this
    exact this
  rw [h1, Bool.and_true]
theorem idx7 (r : Rp) (w : World) : ∀ k, k < 7 → (Instr.index 107 (.agg #[.int .i64 r.i, .int .i64 r.b, .int .i64 r.t, .int .i64 r.p, .int .i64 r.c, .int .i64 r.s, .int .i64 r.k]) (.int .i64 (k : Nat))).run Tryd.prog w = .ok (.int .i64 ((rp7 r).getD k 0)) w
  | 0, _ => by kernel_rfl
  | 1, _ => by kernel_rfl
  | 2, _ => by kernel_rfl
  | 3, _ => by kernel_rfl
  | 4, _ => by kernel_rfl
  | 5, _ => by kernel_rfl
  | 6, _ => by kernel_rfl
  | k + 7, h => absurd h (by omega)
theorem idx9 (r : Rp) (w : World) : ∀ k, k < 9 → (Instr.index 104 (.agg #[.int .i64 r.d, .int .i64 r.i, .int .i64 r.b, .int .i64 r.t, .int .i64 r.m, .int .i64 r.p, .int .i64 r.c, .int .i64 r.s, .int .i64 r.k]) (.int .i64 (k : Nat))).run Tryd.prog w = .ok (.int .i64 ((rpL r).getD k 0)) w
  | 0, _ => by kernel_rfl
  | 1, _ => by kernel_rfl
  | 2, _ => by kernel_rfl
  | 3, _ => by kernel_rfl
  | 4, _ => by kernel_rfl
  | 5, _ => by kernel_rfl
  | 6, _ => by kernel_rfl
  | 7, _ => by kernel_rfl
  | 8, _ => by kernel_rfl
  | k + 9, h => absurd h (by omega)
end Go.Proofs.YtndahomgglpdhaaDoor

/- The document's Right, Print, Same of reports. -/
namespace Go.Proofs.YtndahomgglpdhaaDoor
open Go.RowKit Cod

def rpEq (a b : Rp) : Bool := decide (a.d = b.d ∧ a.i = b.i ∧ a.b = b.b ∧ a.t = b.t ∧ a.m = b.m ∧ a.p = b.p ∧ a.c = b.c ∧ a.s = b.s ∧ a.k = b.k)
theorem rpEq_iff {a b : Rp} : rpEq a b = true ↔ a = b := by
  unfold rpEq
  rw [decide_eq_true_iff]
  obtain ⟨_, _, _, _, _, _, _, _, _⟩ := a
  obtain ⟨_, _, _, _, _, _, _, _, _⟩ := b
  simp
set_option maxRecDepth 100000 in
set_option maxHeartbeats 4000000 in
theorem run_eqRp (a b : Rp) (w : World) : (Op.equalIn 10000 54 (.agg #[.int .i64 a.d, .int .i64 a.i, .int .i64 a.b, .int .i64 a.t, .int .i64 a.m, .int .i64 a.p, .int .i64 a.c, .int .i64 a.s, .int .i64 a.k]) (.agg #[.int .i64 b.d, .int .i64 b.i, .int .i64 b.b, .int .i64 b.t, .int .i64 b.m, .int .i64 b.p, .int .i64 b.c, .int .i64 b.s, .int .i64 b.k])).run Tryd.prog w = .ok (rpEq a b) w := by
  obtain ⟨a1, a2, a3, a4, a5, a6, a7, a8, a9⟩ := a
  obtain ⟨b1, b2, b3, b4, b5, b6, b7, b8, b9⟩ := b
  dsimp only
  by_cases h : a1 = b1 ∧ a2 = b2 ∧ a3 = b3 ∧ a4 = b4 ∧ a5 = b5 ∧ a6 = b6 ∧ a7 = b7 ∧ a8 = b8 ∧ a9 = b9
  · have hm : rpEq ⟨a1, a2, a3, a4, a5, a6, a7, a8, a9⟩ ⟨b1, b2, b3, b4, b5, b6, b7, b8, b9⟩ = true := decide_eq_true h
    rw [hm]
    obtain ⟨rfl, rfl, rfl, rfl, rfl, rfl, rfl, rfl, rfl⟩ := h
    clear hm
    go_simp
  · have hm : rpEq ⟨a1, a2, a3, a4, a5, a6, a7, a8, a9⟩ ⟨b1, b2, b3, b4, b5, b6, b7, b8, b9⟩ = false := decide_eq_false h
    rw [hm]
    clear hm
    go_simp
    exact fun h1 h2 h3 h4 h5 h6 h7 h8 h9 => h ⟨h1, h2, h3, h4, h5, h6, h7, h8, h9⟩

set_option maxRecDepth 100000 in
set_option maxHeartbeats 4000000 in
theorem refRpRight_any (r : Rp) (w : World) : Calls Tryd.prog 37 #[.agg #[.int .i64 r.d, .int .i64 r.i, .int .i64 r.b, .int .i64 r.t, .int .i64 r.m, .int .i64 r.p, .int .i64 r.c, .int .i64 r.s, .int .i64 r.k]] w fun e w' => e = .returned (.bool (rpB r)) ∧ Below w.heap.size w w' := by
  have hP : rpE.In (w.alloc (.cells #[.int .i64 r.d, .int .i64 r.i, .int .i64 r.b, .int .i64 r.t, .int .i64 r.m, .int .i64 r.p, .int .i64 r.c, .int .i64 r.s, .int .i64 r.k] 54)) w.heap.size r := El.In.new (E := rpE) w r _ rfl
  have hB := below_alloc (Below.refl w.heap.size w) (.cells #[.int .i64 r.d, .int .i64 r.i, .int .i64 r.b, .int .i64 r.t, .int .i64 r.m, .int .i64 r.p, .int .i64 r.c, .int .i64 r.s, .int .i64 r.k] 54)
  obtain ⟨p0, p1, p2, p3, p4, p5, p6, p7, p8⟩ := rpIn9 hP
  have HC0 := Lib.hid (fun (j : Nat) (hj : j < 0) => (absurd hj (Nat.not_lt_zero j) : cnt0 ((rp7 r).getD j 0) = true))
  clear hP
  obtain ⟨bv, hbv⟩ : ∃ bv, rpB r = bv := ⟨_, rfl⟩
  rw [hbv]
  have HV := Lib.hid hbv
  clear hbv
  go_enter Tryd.func37, Tryd.ntmps37
  go_wp2_with fail
  generalize w.alloc (.cells #[.int .i64 r.d, .int .i64 r.i, .int .i64 r.b, .int .i64 r.t, .int .i64 r.m, .int .i64 r.p, .int .i64 r.c, .int .i64 r.s, .int .i64 r.k] 54) = W at *
  go_loopw [20] (fun i wr => ∃ k : Nat, k ≤ 7 ∧ i = .int .i64 k ∧ Hid (∀ j, j < k → cnt0 ((rp7 r).getD j 0) = true) ∧ wr = W) (fun i _ => 7 - (intOf i).toNat)
  case atStart => exact ⟨0, Nat.zero_le _, rfl, HC0, rfl⟩
  case round =>
    clear HC0
    obtain ⟨k, hk, rfl, HC, rfl⟩ := hrel
    by_cases hkl : k < 7
    · have hx := fun wx => idx7 r wx k hkl
      have HO := Lib.hid (rpB_out (r := r) hkl)
      have HN := Lib.hid (fun (h : cnt0 ((rp7 r).getD k 0) = true) (j : Nat) (hj : j < k + 1) => (by
        by_cases e : j < k
        · exact HC.out j e
        · obtain rfl : j = k := by omega
          exact h : cnt0 ((rp7 r).getD j 0) = true))
      generalize (rp7 r).getD k 0 = n at *
      by_cases h0 : n < 0
      · have hv := HO.out (by unfold cnt0; exact decide_eq_false (by omega))
        obtain rfl : false = bv := hv.symm.trans HV.out
        have f1 : decide (n < 0) = true := decide_eq_true h0
        clear hv
        go_wp2_with fail
        go_ret
        exact ⟨rfl, hB⟩
      · have f1 : decide (n < 0) = false := decide_eq_false h0
        by_cases h1 : 1099511627776 < n
        · have hv := HO.out (by unfold cnt0; exact decide_eq_false (by omega))
          obtain rfl : false = bv := hv.symm.trans HV.out
          have f2 : decide (1099511627776 < n) = true := decide_eq_true h1
          clear hv
          go_wp2_with fail
          go_ret
          exact ⟨rfl, hB⟩
        · have f2 : decide (1099511627776 < n) = false := decide_eq_false h1
          have HN2 := Lib.hid (HN.out (by unfold cnt0; exact decide_eq_true (by omega)))
          go_wp2_with fail
          exact ⟨⟨k + 1, by omega, by go_num, HN2, by trivial⟩, by simp [intOf]; omega⟩
    · obtain rfl : k = 7 := by omega
      have hv := (rpB_in HC.out).symm.trans HV.out
      have hh : headB r = (decide (0 ≤ r.d) && (decide (r.d < 12) && (decide (1 ≤ r.i) && (decide (r.m = 1) || decide (r.m = 2))))) := by
        unfold headB
        by_cases a1 : 0 ≤ r.d <;> by_cases a2 : r.d < 12 <;> by_cases a3 : 1 ≤ r.i <;> by_cases a4 : r.m = 1 <;> by_cases a5 : r.m = 2 <;> simp [a1, a2, a3, a4, a5]
      rw [hh] at hv
      clear hh HC HV
      by_cases a1 : 0 ≤ r.d
      · by_cases a2 : r.d < 12
        · by_cases a3 : 1 ≤ r.i
          · by_cases a4 : r.m = 1
            · have e4 : (r.m == 1) = true := beq_iff_eq.2 a4
              have hv2 : true = bv := by rw [← hv]; simp [a1, a2, a3, a4]
              subst hv2
              go_wp2_with fail
              go_ret
              exact ⟨rfl, hB⟩
            · have e4 : (r.m == 1) = false := beq_eq_false_iff_ne.2 a4
              by_cases a5 : r.m = 2
              · have e5 : (r.m == 2) = true := beq_iff_eq.2 a5
                have hv2 : true = bv := by rw [← hv]; simp [a1, a2, a3, a5]
                subst hv2
                go_wp2_with fail
                go_ret
                exact ⟨rfl, hB⟩
              · have e5 : (r.m == 2) = false := beq_eq_false_iff_ne.2 a5
                have hv2 : false = bv := by rw [← hv]; simp [a1, a2, a3, a4, a5]
                subst hv2
                go_wp2_with fail
                go_ret
                exact ⟨rfl, hB⟩
          · skip
            have hv2 : false = bv := by rw [← hv]; simp [a1, a2, a3]
            subst hv2
            go_wp2_with fail
            go_ret
            exact ⟨rfl, hB⟩
        · skip
          have hv2 : false = bv := by rw [← hv]; simp [a1, a2]
          subst hv2
          go_wp2_with fail
          go_ret
          exact ⟨rfl, hB⟩
      · skip
        have hv2 : false = bv := by rw [← hv]; simp [a1]
        subst hv2
        go_wp2_with fail
        go_ret
        exact ⟨rfl, hB⟩

theorem rp9_i64 {r : Rp} (h : RpW r) {k : Nat} (hk : k < 9) : i64 ((rpL r).getD k 0) := by
  rw [List.getD_eq_getElem?_getD, List.getElem?_eq_getElem (by simpa [rpL] using hk)]
  exact h _ (List.getElem_mem _)
theorem rp9_next (r : Rp) {k : Nat} (hk : k < 9) : catN ((rpL r).take (k + 1)) = catN ((rpL r).take k) ++ bytesOf ((rpL r).getD k 0) := by
  have hl : k < (rpL r).length := by simpa [rpL] using hk
  rw [catN_next _ k hl, List.getD_eq_getElem?_getD, List.getElem?_eq_getElem hl]; rfl
set_option maxRecDepth 100000 in
set_option maxHeartbeats 4000000 in
theorem refRpPrint_any (r : Rp) (w : World) (hw : RpW r) : Calls Tryd.prog 49 #[.agg #[.int .i64 r.d, .int .i64 r.i, .int .i64 r.b, .int .i64 r.t, .int .i64 r.m, .int .i64 r.p, .int .i64 r.c, .int .i64 r.s, .int .i64 r.k]] w fun e w' => e = .returned (.string (rpBytes r)) ∧ Below w.heap.size w w' := by
  have hP : rpE.In (w.alloc (.cells #[.int .i64 r.d, .int .i64 r.i, .int .i64 r.b, .int .i64 r.t, .int .i64 r.m, .int .i64 r.p, .int .i64 r.c, .int .i64 r.s, .int .i64 r.k] 54)) w.heap.size r := El.In.new (E := rpE) w r _ rfl
  have hB := below_alloc (Below.refl w.heap.size w) (.cells #[.int .i64 r.d, .int .i64 r.i, .int .i64 r.b, .int .i64 r.t, .int .i64 r.m, .int .i64 r.p, .int .i64 r.c, .int .i64 r.s, .int .i64 r.k] 54)
  obtain ⟨p0, p1, p2, p3, p4, p5, p6, p7, p8⟩ := rpIn9 hP
  have HW := Lib.hid hw
  clear hP hw
  go_enter Tryd.func49, Tryd.ntmps49
  go_wp2_with fail
  clear p0 p1 p2 p3 p4 p5 p6 p7 p8
  generalize w.alloc (.cells #[.int .i64 r.d, .int .i64 r.i, .int .i64 r.b, .int .i64 r.t, .int .i64 r.m, .int .i64 r.p, .int .i64 r.c, .int .i64 r.s, .int .i64 r.k] 54) = W at *
  go_loopw [3, 25] (fun v i wr => ∃ k : Nat, k ≤ 9 ∧ i = .int .i64 k ∧ v = .string (catN ((rpL r).take k)) ∧ Below w.heap.size w wr) (fun _ i _ => 9 - (intOf i).toNat)
  case atStart => exact ⟨0, Nat.zero_le _, rfl, rfl, hB⟩
  case round =>
    clear hB
    obtain ⟨k, hk, rfl, rfl, hB⟩ := hrel
    by_cases hkl : k < 9
    · have hx := fun wx => idx9 r wx k hkl
      have hi := rp9_i64 HW.out hkl
      have HNX := Lib.hid (rp9_next r hkl)
      have hle := catN_le ((rpL r).take k) (fun n hn => HW.out n (List.mem_of_mem_take hn))
      rw [List.length_take] at hle
      generalize (rpL r).getD k 0 = n at *
      have C := Lib.hid (fun wx => refNum_any n wx hi.1 hi.2)
      have hz : (bytesOf n).size ≤ 10 := by rw [bytesOf_size]; exact enc_ten _ (fold_lt n hi.1 hi.2)
      generalize catN ((rpL r).take k) = T at *
      generalize bytesOf n = x at *
      have hT : T.size ≤ 90 := by omega
      clear hi hle
      go_wp2_with fail
      refine (C.out _).mono ?_
      rintro e w2 ⟨rfl, hb2⟩
      replace hB := below_then hB hb2
      go_wp2_with fail
      exact ⟨⟨k + 1, by omega, by go_num, by rw [HNX.out], hB⟩, by simp [intOf]; omega⟩
    · obtain rfl : k = 9 := by omega
      have hv : catN ((rpL r).take 9) = rpBytes r := rfl
      rw [hv]
      clear hv
      go_wp2_with fail
      go_ret
      exact ⟨rfl, hB⟩

set_option maxRecDepth 100000 in
set_option maxHeartbeats 2000000 in
/-- Same, of equal lists of reports. -/
theorem refSameRp_any (A B : Option Addr) (cA cB : Nat) (l : List Rp) (w : World) (hA : rpE.Sl w A l) (hB : rpE.Sl w B l) (hl : l.length ≤ 100000) : Calls Tryd.prog 65 #[.slice A l.length cA, .slice B l.length cB] w fun e w' => e = .returned (.bool true) ∧ Below w.heap.size w w' := by
  go_enter Tryd.func65, Tryd.ntmps65
  go_wp2_with fail
  go_loopw [5] (fun y wr => ∃ k : Nat, k ≤ l.length ∧ y = .int .i64 k ∧ Below w.heap.size w wr) (fun y _ => l.length - (intOf y).toNat)
  case atStart => exact ⟨0, Nat.zero_le _, rfl, Below.refl _ _⟩
  case round =>
    obtain ⟨k, hk, rfl, hN⟩ := hrel
    by_cases hkl : k < l.length
    · obtain ⟨b, off, eA, hbw, hc⟩ := hA (by omega)
      obtain ⟨b', off', eB, hbw', hc'⟩ := hB (by omega)
      have hx := rpIdxH (cap := cA) eA hkl
      have hy := rpIdxH (cap := cB) eB hkl
      have hat : rpE.At wr b (off + k * 9) l[k] := (hc k hkl).below hN hbw
      have hat' : rpE.At wr b' (off' + k * 9) l[k] := (hc' k hkl).below hN hbw'
      obtain ⟨s0, s1, s2, s3, s4, s5, s6, s7, s8⟩ := rpAt9 hat
      obtain ⟨t0, t1, t2, t3, t4, t5, t6, t7, t8⟩ := rpAt9 hat'
      generalize l[k] = x at *
      clear hc hc' hat hat' eA eB
      go_wp2_with fail
      go_quiet (fail)
      go_wp2_with fail
      exact ⟨⟨k + 1, by omega, by go_num, below_drew hN nq⟩, by simp [intOf]; omega⟩
    · obtain rfl : k = l.length := by omega
      go_wp2_with fail
      go_ret
      exact ⟨rfl, hN⟩
end Go.Proofs.YtndahomgglpdhaaDoor

/- Entries and counts in memory; what the program's functions shall answer (EntryCalls: proved for the real program in a text of its own); the document's Right and Print. -/
namespace Go.Proofs.YtndahomgglpdhaaDoor
open Go.RowKit Nam Cod

def enE : El En where
  e := 52
  k := 10
  c x := [.int .i64 x.k, .int .i64 x.d, .int .i64 x.i, .int .i64 x.o.C, .int .i64 x.o.D, .int .i64 x.o.I, .int .i64 x.o.M, .int .i64 x.o.K, .int .i64 x.o.U, .string x.o.s]
  len _ := rfl
  one p u h := by
    simp only [List.mem_cons, List.not_mem_nil, or_false] at h
    rcases h with rfl | rfl | rfl | rfl | rfl | rfl | rfl | rfl | rfl | rfl <;> rfl
  pos := by decide
theorem enRow : enE.Row Tryd.prog := ⟨by kernel_rfl, _, Tryd.underlying52, rfl⟩
theorem enInn : enE.Inn Tryd.prog 24 := El.inn_of (z := .agg #[.int .i64 0, .int .i64 0, .int .i64 0, .int .i64 0, .int .i64 0, .int .i64 0, .int .i64 0, .int .i64 0, .int .i64 0, .string ⟨#[]⟩]) (bytes := 88) Tryd.underlying24 (by kernel_rfl) rfl (by decide)
theorem enIn10 {w : World} {b : Nat} {x : En} (h : enE.In w b x) : w.cell? ⟨b, 0, none⟩ = some (.int .i64 x.k) ∧ w.cell? ⟨b, 1, none⟩ = some (.int .i64 x.d) ∧ w.cell? ⟨b, 2, none⟩ = some (.int .i64 x.i) ∧ w.cell? ⟨b, 3, none⟩ = some (.int .i64 x.o.C) ∧ w.cell? ⟨b, 4, none⟩ = some (.int .i64 x.o.D) ∧ w.cell? ⟨b, 5, none⟩ = some (.int .i64 x.o.I) ∧ w.cell? ⟨b, 6, none⟩ = some (.int .i64 x.o.M) ∧ w.cell? ⟨b, 7, none⟩ = some (.int .i64 x.o.K) ∧ w.cell? ⟨b, 8, none⟩ = some (.int .i64 x.o.U) ∧ w.cell? ⟨b, 9, none⟩ = some (.string x.o.s) :=
  ⟨h.cell 0, h.cell 1, h.cell 2, h.cell 3, h.cell 4, h.cell 5, h.cell 6, h.cell 7, h.cell 8, h.cell 9⟩
/-- An entry's numbers fit. -/
structure EnW (e : En) : Prop where
  k : i64 e.k
  d : i64 e.d
  i : i64 e.i
  o : Wide e.o.C e.o.D e.o.I e.o.M e.o.K e.o.U
def entStep (s : ByteArray) (p : Nat) (bad : Bool) (x : En) (q : Nat) (bad' : Bool) : Prop := (isEnt s p bad = some (x, q) ∧ bad' = false) ∨ (isEnt s p bad = none ∧ x = zeroEn ∧ bad' = true)
theorem opRef_mv (m : Mv) (w : World) (hs : m.s.size ≤ 9223372036854775807) :
    Calls Tryd.prog 35 #[.agg #[.int .i64 m.C, .int .i64 m.D, .int .i64 m.I, .int .i64 m.M, .int .i64 m.K, .int .i64 m.U, .string m.s]] w fun e w' => e = .returned (.bool (okB m)) ∧ Below w.heap.size w w' := opRefRight_any m.C m.D m.I m.M m.K m.U m.s w hs
theorem opRefP_mv (m : Mv) (w : World) (hw : Wide m.C m.D m.I m.M m.K m.U) (hs : m.s.size ≤ 1000000) :
    Calls Tryd.prog 48 #[.agg #[.int .i64 m.C, .int .i64 m.D, .int .i64 m.I, .int .i64 m.M, .int .i64 m.K, .int .i64 m.U, .string m.s]] w fun e w' => e = .returned (.string m.bytes) ∧ Below w.heap.size w w' := opRefPrint_any m.C m.D m.I m.M m.K m.U m.s w hw hs


theorem toList_iff {a b : ByteArray} : a.toList = b.toList ↔ a = b := ⟨fun h => by
  by_cases e : a = b
  · exact e
  · exact absurd h (ne_list e), fun h => by rw [h]⟩
/-- Are these two operations, entries, counts the same? -/
def mvEq (C D I M K U : Int) (s : ByteArray) (C' D' I' M' K' U' : Int) (s' : ByteArray) : Bool := decide (C = C' ∧ D = D' ∧ I = I' ∧ M = M' ∧ K = K' ∧ U = U' ∧ s = s')
def enEq (k d i C D I M K U : Int) (s : ByteArray) (k' d' i' C' D' I' M' K' U' : Int) (s' : ByteArray) : Bool := decide (k = k' ∧ d = d' ∧ i = i' ∧ C = C' ∧ D = D' ∧ I = I' ∧ M = M' ∧ K = K' ∧ U = U' ∧ s = s')
def cnEq (d i n d' i' n' : Int) : Bool := decide (d = d' ∧ i = i' ∧ n = n')
theorem mvEq_iff {x y : Mv} : mvEq x.C x.D x.I x.M x.K x.U x.s y.C y.D y.I y.M y.K y.U y.s = true ↔ x = y := by
  unfold mvEq
  rw [decide_eq_true_iff]
  obtain ⟨C, D, I, M, K, U, s⟩ := x
  obtain ⟨C', D', I', M', K', U', s'⟩ := y
  simp
theorem enEq_iff {x y : En} : enEq x.k x.d x.i x.o.C x.o.D x.o.I x.o.M x.o.K x.o.U x.o.s y.k y.d y.i y.o.C y.o.D y.o.I y.o.M y.o.K y.o.U y.o.s = true ↔ x = y := by
  unfold enEq
  rw [decide_eq_true_iff]
  obtain ⟨k, d, i, C, D, I, M, K, U, s⟩ := x
  obtain ⟨k', d', i', C', D', I', M', K', U', s'⟩ := y
  simp
theorem cnEq_iff {x y : Cn} : cnEq x.d x.i x.n y.d y.i y.n = true ↔ x = y := by
  unfold cnEq
  rw [decide_eq_true_iff]
  obtain ⟨d, i, n⟩ := x
  obtain ⟨d', i', n'⟩ := y
  simp
set_option maxRecDepth 100000 in
set_option maxHeartbeats 4000000 in
theorem run_eqMv (w : World) (C D I M K U C' D' I' M' K' U' : Int) (s s' : ByteArray) : (Op.equalIn 10000 50 (.agg #[.int .i64 C, .int .i64 D, .int .i64 I, .int .i64 M, .int .i64 K, .int .i64 U, .string s]) (.agg #[.int .i64 C', .int .i64 D', .int .i64 I', .int .i64 M', .int .i64 K', .int .i64 U', .string s'])).run Tryd.prog w = .ok (mvEq C D I M K U s C' D' I' M' K' U' s') w := by
  by_cases h : C = C' ∧ D = D' ∧ I = I' ∧ M = M' ∧ K = K' ∧ U = U' ∧ s = s'
  · have hm : mvEq C D I M K U s C' D' I' M' K' U' s' = true := decide_eq_true h
    rw [hm]
    obtain ⟨rfl, rfl, rfl, rfl, rfl, rfl, rfl⟩ := h
    clear hm
    go_simp
  · have hm : mvEq C D I M K U s C' D' I' M' K' U' s' = false := decide_eq_false h
    rw [hm]
    clear hm
    go_simp
    exact fun h1 h2 h3 h4 h5 h6 h7 => h ⟨h1, h2, h3, h4, h5, h6, toList_iff.1 h7⟩
set_option maxRecDepth 100000 in
set_option maxHeartbeats 4000000 in
theorem run_eqEn (w : World) (k d i C D I M K U k' d' i' C' D' I' M' K' U' : Int) (s s' : ByteArray) : (Op.equalIn 10000 52 (.agg #[.int .i64 k, .int .i64 d, .int .i64 i, .int .i64 C, .int .i64 D, .int .i64 I, .int .i64 M, .int .i64 K, .int .i64 U, .string s]) (.agg #[.int .i64 k', .int .i64 d', .int .i64 i', .int .i64 C', .int .i64 D', .int .i64 I', .int .i64 M', .int .i64 K', .int .i64 U', .string s'])).run Tryd.prog w = .ok (enEq k d i C D I M K U s k' d' i' C' D' I' M' K' U' s') w := by
  by_cases h : k = k' ∧ d = d' ∧ i = i' ∧ C = C' ∧ D = D' ∧ I = I' ∧ M = M' ∧ K = K' ∧ U = U' ∧ s = s'
  · have hm : enEq k d i C D I M K U s k' d' i' C' D' I' M' K' U' s' = true := decide_eq_true h
    rw [hm]
    obtain ⟨rfl, rfl, rfl, rfl, rfl, rfl, rfl, rfl, rfl, rfl⟩ := h
    clear hm
    go_simp
  · have hm : enEq k d i C D I M K U s k' d' i' C' D' I' M' K' U' s' = false := decide_eq_false h
    rw [hm]
    clear hm
    go_simp
    exact fun g1 g2 g3 h1 h2 h3 h4 h5 h6 h7 => h ⟨g1, g2, g3, h1, h2, h3, h4, h5, h6, toList_iff.1 h7⟩
set_option maxRecDepth 100000 in
set_option maxHeartbeats 2000000 in
theorem refEntRight_any (e : En) (w : World) (hs : e.o.s.size ≤ 9223372036854775807) : Calls Tryd.prog 36 #[.agg #[.int .i64 e.k, .int .i64 e.d, .int .i64 e.i, .int .i64 e.o.C, .int .i64 e.o.D, .int .i64 e.o.I, .int .i64 e.o.M, .int .i64 e.o.K, .int .i64 e.o.U, .string e.o.s]] w fun r w' => r = .returned (.bool (entB e)) ∧ Below w.heap.size w w' := by
  obtain ⟨k, d, i, o⟩ := e
  dsimp only at hs ⊢
  have C1 := Lib.hid (fun wx => opRef_mv o wx hs)
  by_cases h1 : k = 1
  · subst h1
    have hB := below_alloc (Below.refl w.heap.size w) (.cells #[.int .i64 (⟨1, d, i, o⟩ : En).k, .int .i64 (⟨1, d, i, o⟩ : En).d, .int .i64 (⟨1, d, i, o⟩ : En).i, .int .i64 (⟨1, d, i, o⟩ : En).o.C, .int .i64 (⟨1, d, i, o⟩ : En).o.D, .int .i64 (⟨1, d, i, o⟩ : En).o.I, .int .i64 (⟨1, d, i, o⟩ : En).o.M, .int .i64 (⟨1, d, i, o⟩ : En).o.K, .int .i64 (⟨1, d, i, o⟩ : En).o.U, .string (⟨1, d, i, o⟩ : En).o.s] 52)
    dsimp only at hB
    by_cases h2 : d = 0 ∧ i = 0
    · obtain ⟨rfl, rfl⟩ := h2
      have hv : entB ⟨1, 0, 0, o⟩ = okB o := by
        unfold entB
        rw [if_pos rfl, decide_eq_true ⟨rfl, rfl⟩, Bool.true_and]
      rw [hv]
      generalize okB o = bo at *
      clear hv
      go_enter Tryd.func36, Tryd.ntmps36
      go_wp2_with fail
      refine (C1.out _).mono ?_
      rintro r w1 ⟨rfl, hb1⟩
      replace hB := hB.trans (hb1.mono hB.size)
      go_wp2_with fail
      go_ret
      exact ⟨rfl, hB⟩
    · have hv : entB ⟨1, d, i, o⟩ = false := by
        unfold entB
        rw [if_pos rfl, decide_eq_false h2, Bool.false_and]
      rw [hv]
      clear hv
      by_cases h3 : d = 0
      · subst h3
        have e2 : (i == 0) = false := beq_eq_false_iff_ne.2 (fun h => h2 ⟨rfl, h⟩)
        clear h2
        go_enter Tryd.func36, Tryd.ntmps36
        go_wp2_with fail
        go_ret
        exact ⟨rfl, hB⟩
      · have e1 : (d == 0) = false := beq_eq_false_iff_ne.2 h3
        clear h2 h3
        go_enter Tryd.func36, Tryd.ntmps36
        go_wp2_with fail
        go_ret
        exact ⟨rfl, hB⟩
  · have hB := below_alloc (Below.refl w.heap.size w) (.cells #[.int .i64 (⟨k, d, i, o⟩ : En).k, .int .i64 (⟨k, d, i, o⟩ : En).d, .int .i64 (⟨k, d, i, o⟩ : En).i, .int .i64 (⟨k, d, i, o⟩ : En).o.C, .int .i64 (⟨k, d, i, o⟩ : En).o.D, .int .i64 (⟨k, d, i, o⟩ : En).o.I, .int .i64 (⟨k, d, i, o⟩ : En).o.M, .int .i64 (⟨k, d, i, o⟩ : En).o.K, .int .i64 (⟨k, d, i, o⟩ : En).o.U, .string (⟨k, d, i, o⟩ : En).o.s] 52)
    dsimp only at hB
    have e1 : (k == 1) = false := beq_eq_false_iff_ne.2 h1
    by_cases h2 : k = 2 ∨ k = 3
    · have hv : entB ⟨k, d, i, o⟩ = (lifeB d i && zeroB o) := by
        unfold entB
        rw [if_neg h1, if_pos h2]
      rw [hv]
      have q := run_eqMv
      have HZ := Lib.hid (show mvEq o.C o.D o.I o.M o.K o.U o.s 0 0 0 0 0 0 ⟨#[]⟩ = zeroB o from rfl)
      clear hv h1 C1
      by_cases h3 : 0 ≤ d ∧ d < 12 ∧ 1 ≤ i ∧ i ≤ 1099511627776
      · have hl : lifeB d i = true := decide_eq_true h3
        rw [hl, Bool.true_and]
        obtain ⟨h4, h5, h6, h7⟩ := h3
        clear hl
        rcases h2 with rfl | rfl
        · go_enter Tryd.func36, Tryd.ntmps36
          go_wp2_with fail
          go_ret
          exact ⟨by rw [HZ.out]; rfl, hB⟩
        · go_enter Tryd.func36, Tryd.ntmps36
          go_wp2_with fail
          go_ret
          exact ⟨by rw [HZ.out]; rfl, hB⟩
      · have hl : lifeB d i = false := decide_eq_false h3
        rw [hl, Bool.false_and]
        clear hl
        rcases (show d < 0 ∨ (0 ≤ d ∧ 12 ≤ d) ∨ (0 ≤ d ∧ d < 12 ∧ i < 1) ∨ (0 ≤ d ∧ d < 12 ∧ 1 ≤ i ∧ 1099511627776 < i) by omega) with h4 | ⟨h4, h5⟩ | ⟨h4, h5, h6⟩ | ⟨h4, h5, h6, h7⟩
        all_goals
          clear h3
          rcases h2 with rfl | rfl
          all_goals
            go_enter Tryd.func36, Tryd.ntmps36
            go_wp2_with fail
            go_ret
            exact ⟨rfl, hB⟩
    · have hv : entB ⟨k, d, i, o⟩ = false := by
        unfold entB
        rw [if_neg h1, if_neg h2]
      rw [hv]
      have e2 : (k == 2) = false := beq_eq_false_iff_ne.2 (fun h => h2 (Or.inl h))
      have e3 : (k == 3) = false := beq_eq_false_iff_ne.2 (fun h => h2 (Or.inr h))
      clear h1 h2 hv
      go_enter Tryd.func36, Tryd.ntmps36
      go_wp2_with fail
      go_ret
      exact ⟨rfl, hB⟩

theorem bytesOf_le10 {n : Int} (h : i64 n) : (bytesOf n).size ≤ 10 := by rw [bytesOf_size]; exact enc_ten _ (fold_lt n h.1 h.2)
theorem mvBytes_le {o : Mv} (h : Wide o.C o.D o.I o.M o.K o.U) (hs : o.s.size ≤ 1000000) : o.bytes.size ≤ 1000070 := by
  obtain ⟨h1, h2, h3, h4, h5, h6⟩ := h
  have g1 := bytesOf_le10 (n := o.C) ⟨h1.1, h1.2⟩
  have g2 := bytesOf_le10 (n := o.D) ⟨h2.1, h2.2⟩
  have g3 := bytesOf_le10 (n := o.I) ⟨h3.1, h3.2⟩
  have g4 := bytesOf_le10 (n := o.M) ⟨h4.1, h4.2⟩
  have g5 := bytesOf_le10 (n := o.K) ⟨h5.1, h5.2⟩
  have g6 := bytesOf_le10 (n := o.U) ⟨h6.1, h6.2⟩
  have g7 := text_le o.s hs
  unfold Mv.bytes printOf
  simp only [ByteArray.size_append]
  omega
set_option maxRecDepth 100000 in
set_option maxHeartbeats 2000000 in
theorem refEntPrint_any (e : En) (w : World) (hw : EnW e) (hs : e.o.s.size ≤ 1000000) : Calls Tryd.prog 50 #[.agg #[.int .i64 e.k, .int .i64 e.d, .int .i64 e.i, .int .i64 e.o.C, .int .i64 e.o.D, .int .i64 e.o.I, .int .i64 e.o.M, .int .i64 e.o.K, .int .i64 e.o.U, .string e.o.s]] w fun r w' => r = .returned (.string (entBytes e)) ∧ Below w.heap.size w w' := by
  obtain ⟨k, d, i, o⟩ := e
  obtain ⟨hk, hd, hi, ho⟩ := hw
  dsimp only at hs hk hd hi ho ⊢
  have hE : enE.In (w.alloc (.cells #[.int .i64 (⟨k, d, i, o⟩ : En).k, .int .i64 (⟨k, d, i, o⟩ : En).d, .int .i64 (⟨k, d, i, o⟩ : En).i, .int .i64 (⟨k, d, i, o⟩ : En).o.C, .int .i64 (⟨k, d, i, o⟩ : En).o.D, .int .i64 (⟨k, d, i, o⟩ : En).o.I, .int .i64 (⟨k, d, i, o⟩ : En).o.M, .int .i64 (⟨k, d, i, o⟩ : En).o.K, .int .i64 (⟨k, d, i, o⟩ : En).o.U, .string (⟨k, d, i, o⟩ : En).o.s] 52)) w.heap.size ⟨k, d, i, o⟩ := El.In.new (E := enE) w ⟨k, d, i, o⟩ _ rfl
  have hB := below_alloc (Below.refl w.heap.size w) (.cells #[.int .i64 (⟨k, d, i, o⟩ : En).k, .int .i64 (⟨k, d, i, o⟩ : En).d, .int .i64 (⟨k, d, i, o⟩ : En).i, .int .i64 (⟨k, d, i, o⟩ : En).o.C, .int .i64 (⟨k, d, i, o⟩ : En).o.D, .int .i64 (⟨k, d, i, o⟩ : En).o.I, .int .i64 (⟨k, d, i, o⟩ : En).o.M, .int .i64 (⟨k, d, i, o⟩ : En).o.K, .int .i64 (⟨k, d, i, o⟩ : En).o.U, .string (⟨k, d, i, o⟩ : En).o.s] 52)
  obtain ⟨p0, p1, p2, p3, p4, p5, p6, p7, p8, p9⟩ := enIn10 hE
  dsimp only at hE hB p0 p1 p2 p3 p4 p5 p6 p7 p8 p9
  have CK := Lib.hid (fun wx => refNum_any k wx hk.1 hk.2)
  have zk := bytesOf_le10 hk
  by_cases h1 : k = 1
  · subst h1
    have hv : entBytes ⟨1, d, i, o⟩ = bytesOf 1 ++ o.bytes := rfl
    rw [hv]
    have CO := Lib.hid (fun wx => opRefP_mv o wx ho hs)
    have zo := mvBytes_le ho hs
    generalize bytesOf 1 = B1 at *
    generalize o.bytes = B2 at *
    clear hv hk hd hi ho hE
    go_enter Tryd.func50, Tryd.ntmps50
    go_wp2_with fail
    generalize w.alloc (.cells #[.int .i64 1, .int .i64 d, .int .i64 i, .int .i64 o.C, .int .i64 o.D, .int .i64 o.I, .int .i64 o.M, .int .i64 o.K, .int .i64 o.U, .string o.s] 52) = W at *
    obtain ⟨n1, hn1⟩ : ∃ n, w.heap.size = n := ⟨_, rfl⟩
    rw [hn1] at p0 p1 p2 p3 p4 p5 p6 p7 p8 p9 ⊢
    clear hn1
    have k0 := cell_regrown p0
    have k1 := cell_regrown p1
    have k2 := cell_regrown p2
    have k3 := cell_regrown p3
    have k4 := cell_regrown p4
    have k5 := cell_regrown p5
    have k6 := cell_regrown p6
    have k7 := cell_regrown p7
    have k8 := cell_regrown p8
    have k9 := cell_regrown p9
    clear p0 p1 p2 p3 p4 p5 p6 p7 p8 p9
    have d1 : ∀ d os, Calls Tryd.prog 25 #[.int .i64 1] (Sort.grow (redrawn W d) os) fun e w'' => e = .returned (.string B1) ∧ ∃ p : Regrown, w'' = Sort.grow (redrawn W p.d) p.os := fun d os => Calls.regrown_of (CK.out _)
    have d2 : ∀ d os, Calls Tryd.prog 48 #[.agg #[.int .i64 o.C, .int .i64 o.D, .int .i64 o.I, .int .i64 o.M, .int .i64 o.K, .int .i64 o.U, .string o.s]] (Sort.grow (redrawn W d) os) fun e w'' => e = .returned (.string B2) ∧ ∃ p : Regrown, w'' = Sort.grow (redrawn W p.d) p.os := fun d os => Calls.regrown_of (CO.out _)
    refine wp_region_quiet_below (by kernel_rfl) (by kernel_rfl) ?_
    repeat (go_big_quiet_step ((with_reducible (first | exact d1 _ _ | exact d2 _ _))))
    refine wpQuiet_nil ?_
    intro _ hw'
    obtain ⟨⟨dq, osq⟩, hw''⟩ := hw'
    subst hw''
    go_wp2
    go_ret
    exact ⟨rfl, below_then hB (below_regrown W dq osq)⟩
  · have hv : entBytes ⟨k, d, i, o⟩ = bytesOf k ++ bytesOf d ++ bytesOf i := by unfold entBytes; rw [if_neg h1]
    rw [hv]
    have e1 : (k == 1) = false := beq_eq_false_iff_ne.2 h1
    have CD := Lib.hid (fun wx => refNum_any d wx hd.1 hd.2)
    have CI := Lib.hid (fun wx => refNum_any i wx hi.1 hi.2)
    have zd := bytesOf_le10 hd
    have zi := bytesOf_le10 hi
    generalize bytesOf k = B1 at *
    generalize bytesOf d = B2 at *
    generalize bytesOf i = B3 at *
    clear hv hk hd hi ho hE h1
    go_enter Tryd.func50, Tryd.ntmps50
    go_wp2_with fail
    generalize w.alloc (.cells #[.int .i64 k, .int .i64 d, .int .i64 i, .int .i64 o.C, .int .i64 o.D, .int .i64 o.I, .int .i64 o.M, .int .i64 o.K, .int .i64 o.U, .string o.s] 52) = W at *
    obtain ⟨n1, hn1⟩ : ∃ n, w.heap.size = n := ⟨_, rfl⟩
    rw [hn1] at p0 p1 p2 p3 p4 p5 p6 p7 p8 p9 ⊢
    clear hn1
    have k0 := cell_regrown p0
    have k1 := cell_regrown p1
    have k2 := cell_regrown p2
    have k3 := cell_regrown p3
    have k4 := cell_regrown p4
    have k5 := cell_regrown p5
    have k6 := cell_regrown p6
    have k7 := cell_regrown p7
    have k8 := cell_regrown p8
    have k9 := cell_regrown p9
    clear p0 p1 p2 p3 p4 p5 p6 p7 p8 p9
    have d1 : ∀ c os, Calls Tryd.prog 25 #[.int .i64 k] (Sort.grow (redrawn W c) os) fun e w'' => e = .returned (.string B1) ∧ ∃ p : Regrown, w'' = Sort.grow (redrawn W p.d) p.os := fun c os => Calls.regrown_of (CK.out _)
    have d2 : ∀ c os, Calls Tryd.prog 25 #[.int .i64 d] (Sort.grow (redrawn W c) os) fun e w'' => e = .returned (.string B2) ∧ ∃ p : Regrown, w'' = Sort.grow (redrawn W p.d) p.os := fun c os => Calls.regrown_of (CD.out _)
    have d3 : ∀ c os, Calls Tryd.prog 25 #[.int .i64 i] (Sort.grow (redrawn W c) os) fun e w'' => e = .returned (.string B3) ∧ ∃ p : Regrown, w'' = Sort.grow (redrawn W p.d) p.os := fun c os => Calls.regrown_of (CI.out _)
    refine wp_region_quiet_below (by kernel_rfl) (by kernel_rfl) ?_
    repeat (go_big_quiet_step ((with_reducible (first | exact d1 _ _ | exact d2 _ _ | exact d3 _ _))))
    refine wpQuiet_nil ?_
    intro _ hw'
    obtain ⟨⟨dq, osq⟩, hw''⟩ := hw'
    subst hw''
    go_wp2
    go_ret
    exact ⟨rfl, below_then hB (below_regrown W dq osq)⟩
end Go.Proofs.YtndahomgglpdhaaDoor

/- Do and Back of the program. -/
namespace Go.Proofs.YtndahomgglpdhaaDoor
open Go.RowKit Tre Cod

theorem plV_get (l : List Pl) (b : Int) : ∃ p is, (Tre.get l b).getD zero = p ∧ (Tre.get l b).isSome = is := ⟨_, _, rfl, rfl⟩
end Go.Proofs.YtndahomgglpdhaaDoor

/- Fold of the program; the document's Do and Fold. -/
namespace Go.Proofs.YtndahomgglpdhaaDoor
open Go.RowKit Tre Cod

theorem putL_len (l : List Pl) (p : Pl) : (putL l p).length ≤ l.length + 1 := by
  unfold putL placedL
  have := behind_le l p.n
  rw [List.length_append, List.length_append, List.length_take, List.length_drop, List.length_singleton]; omega
theorem dropL_len (l : List Pl) (b : Int) : (dropL l b).length ≤ l.length := by
  unfold dropL placedL
  have := behind_le l b
  rw [List.append_nil, List.length_append, List.length_take, List.length_drop]; omega
theorem doL_len (l : List Pl) (p : Pl) : (doL l p).1.length ≤ l.length + 1 := by
  unfold doL
  split
  · exact Nat.le_succ _
  · exact putL_len l p
theorem foldL_len1 (l : List Pl) (a : List Pl) : (foldL l a).1.length ≤ l.length + a.length := by
  induction a generalizing l with
  | nil => exact Nat.le_refl _
  | cons p a ih =>
    have h1 := ih (doL l p).1
    have h2 := doL_len l p
    show (foldL (doL l p).1 a).1.length ≤ _
    rw [List.length_cons]; omega
/-- The moves of operations. -/
def mvs (o : List Mv) : List Pl := o.map mvPl
theorem mvs_len (o : List Mv) : (mvs o).length = o.length := List.length_map ..
theorem mvs_take (o : List Mv) (k : Nat) : (mvs o).take k = mvs (o.take k) := by unfold mvs; rw [List.map_take]
/-- Behind k of the operations. -/
def fold1 (l : List Pl) (o : List Mv) (k : Nat) : List Pl := (foldL l (mvs (o.take k))).1
def fold2 (l : List Pl) (o : List Mv) (k : Nat) : List Un := (foldL l (mvs (o.take k))).2
theorem fold1_all (l : List Pl) (o : List Mv) : fold1 l o o.length = (foldL l (mvs o)).1 := by unfold fold1; rw [List.take_length]
theorem fold2_all (l : List Pl) (o : List Mv) : fold2 l o o.length = (foldL l (mvs o)).2 := by unfold fold2; rw [List.take_length]
theorem fold1_zero (l : List Pl) (o : List Mv) : fold1 l o 0 = l := rfl
theorem fold2_zero (l : List Pl) (o : List Mv) : fold2 l o 0 = [] := rfl
theorem fold_next (l : List Pl) (o : List Mv) (k : Nat) (h : k < o.length) : fold1 l o (k + 1) = (doL (fold1 l o k) (mvPl o[k])).1 ∧ fold2 l o (k + 1) = fold2 l o k ++ [(doL (fold1 l o k) (mvPl o[k])).2] := by
  unfold fold1 fold2
  rw [← mvs_take, ← mvs_take, foldL_take l (mvs o) k (by rw [mvs_len]; exact h)]
  have e : (mvs o)[k]'(by rw [mvs_len]; exact h) = mvPl o[k] := by unfold mvs; rw [List.getElem_map]
  rw [e]
  exact ⟨rfl, rfl⟩
theorem fold1_len (l : List Pl) (o : List Mv) (k : Nat) : (fold1 l o k).length ≤ l.length + k := by
  have h := foldL_len1 l (mvs (o.take k))
  rw [mvs_len, List.length_take] at h
  unfold fold1; omega
theorem fold2_len (l : List Pl) (o : List Mv) (k : Nat) (h : k ≤ o.length) : (fold2 l o k).length = k := by
  unfold fold2
  rw [foldL_len, mvs_len, List.length_take]; omega
theorem fold1_sorted {l : List Pl} (hs : Sorted l) (o : List Mv) (k : Nat) : Sorted (fold1 l o k) := foldL_sorted hs _
/-- The undos so far, and the rest as it was made. -/
theorem un_set (us : List Un) (n k : Nat) (u : Un) (hk : us.length = k) (hn : k < n) : (us ++ List.replicate (n - k) noUn).set k u = (us ++ [u]) ++ List.replicate (n - (k + 1)) noUn := by
  obtain ⟨d, rfl⟩ : ∃ d, n = k + (d + 1) := ⟨n - k - 1, by omega⟩
  rw [show k + (d + 1) - k = d + 1 by omega, show k + (d + 1) - (k + 1) = d by omega, List.replicate_succ, ← hk, List.set_append_right _ _ (Nat.le_refl _), Nat.sub_self, List.set_cons_zero, List.append_assoc]
  rfl
end Go.Proofs.YtndahomgglpdhaaDoor

/- The document's Do and Fold. -/
namespace Go.Proofs.YtndahomgglpdhaaDoor
open Go.RowKit Tre Cod

end Go.Proofs.YtndahomgglpdhaaDoor

/- The document's Fold. -/
namespace Go.Proofs.YtndahomgglpdhaaDoor
open Go.RowKit Tre Cod

end Go.Proofs.YtndahomgglpdhaaDoor

/- The same places, operations, undos: the document's answers. -/
namespace Go.Proofs.YtndahomgglpdhaaDoor
open Go.RowKit Tre Cod

theorem pl_unlike {p q : Pl} (h : ¬ p = q) : ((p.n == q.n) = false) ∨ (p.n = q.n ∧ (p.u == q.u) = false) ∨ (p.n = q.n ∧ p.u = q.u ∧ (p.s.toList == q.s.toList) = false) := by
  by_cases h0 : p.n = q.n
  rotate_left
  · left; exact beq_eq_false_iff_ne.2 h0
  by_cases h1 : p.u = q.u
  rotate_left
  · right; left; exact ⟨h0, beq_eq_false_iff_ne.2 h1⟩
  by_cases h2 : p.s = q.s
  · exfalso; apply h
    obtain ⟨a, b, c⟩ := p; obtain ⟨a', b', c'⟩ := q; simp only at h0 h1 h2; rw [h0, h1, h2]
  · right; right; exact ⟨h0, h1, ne_beq h2⟩
theorem mv_unlike {p q : Mv} (h : ¬ p = q) : ((p.C == q.C) = false) ∨ (p.C = q.C ∧ (p.D == q.D) = false) ∨ (p.C = q.C ∧ p.D = q.D ∧ (p.I == q.I) = false) ∨ (p.C = q.C ∧ p.D = q.D ∧ p.I = q.I ∧ (p.M == q.M) = false) ∨ (p.C = q.C ∧ p.D = q.D ∧ p.I = q.I ∧ p.M = q.M ∧ (p.K == q.K) = false) ∨ (p.C = q.C ∧ p.D = q.D ∧ p.I = q.I ∧ p.M = q.M ∧ p.K = q.K ∧ (p.U == q.U) = false) ∨ (p.C = q.C ∧ p.D = q.D ∧ p.I = q.I ∧ p.M = q.M ∧ p.K = q.K ∧ p.U = q.U ∧ (p.s.toList == q.s.toList) = false) := by
  by_cases h0 : p.C = q.C
  rotate_left
  · left; exact beq_eq_false_iff_ne.2 h0
  by_cases h1 : p.D = q.D
  rotate_left
  · right; left; exact ⟨h0, beq_eq_false_iff_ne.2 h1⟩
  by_cases h2 : p.I = q.I
  rotate_left
  · right; right; left; exact ⟨h0, h1, beq_eq_false_iff_ne.2 h2⟩
  by_cases h3 : p.M = q.M
  rotate_left
  · right; right; right; left; exact ⟨h0, h1, h2, beq_eq_false_iff_ne.2 h3⟩
  by_cases h4 : p.K = q.K
  rotate_left
  · right; right; right; right; left; exact ⟨h0, h1, h2, h3, beq_eq_false_iff_ne.2 h4⟩
  by_cases h5 : p.U = q.U
  rotate_left
  · right; right; right; right; right; left; exact ⟨h0, h1, h2, h3, h4, beq_eq_false_iff_ne.2 h5⟩
  by_cases h6 : p.s = q.s
  · exfalso; apply h
    obtain ⟨a, b, c, d, e, f, g⟩ := p; obtain ⟨a', b', c', d', e', f', g'⟩ := q; simp only at h0 h1 h2 h3 h4 h5 h6; rw [h0, h1, h2, h3, h4, h5, h6]
  · right; right; right; right; right; right; exact ⟨h0, h1, h2, h3, h4, h5, ne_beq h6⟩
theorem un_unlike {p q : Un} (h : ¬ p = q) : ((p.was.n == q.was.n) = false) ∨ (p.was.n = q.was.n ∧ (p.was.u == q.was.u) = false) ∨ (p.was.n = q.was.n ∧ p.was.u = q.was.u ∧ (p.was.s.toList == q.was.s.toList) = false) ∨ (p.was.n = q.was.n ∧ p.was.u = q.was.u ∧ p.was.s = q.was.s ∧ (p.had == q.had) = false) ∨ (p.was.n = q.was.n ∧ p.was.u = q.was.u ∧ p.was.s = q.was.s ∧ p.had = q.had ∧ (p.did == q.did) = false) := by
  by_cases h0 : p.was.n = q.was.n
  rotate_left
  · left; exact beq_eq_false_iff_ne.2 h0
  by_cases h1 : p.was.u = q.was.u
  rotate_left
  · right; left; exact ⟨h0, beq_eq_false_iff_ne.2 h1⟩
  by_cases h2 : p.was.s = q.was.s
  rotate_left
  · right; right; left; exact ⟨h0, h1, ne_beq h2⟩
  by_cases h3 : p.had = q.had
  rotate_left
  · right; right; right; left; exact ⟨h0, h1, h2, beq_eq_false_iff_ne.2 h3⟩
  by_cases h4 : p.did = q.did
  · exfalso; apply h
    obtain ⟨⟨a, b, c⟩, d, e⟩ := p; obtain ⟨⟨a', b', c'⟩, d', e'⟩ := q; simp only at h0 h1 h2 h3 h4; rw [h0, h1, h2, h3, h4]
  · right; right; right; right; exact ⟨h0, h1, h2, h3, beq_eq_false_iff_ne.2 h4⟩
end Go.Proofs.YtndahomgglpdhaaDoor

/- The same operations and undos: the document's answers. -/
namespace Go.Proofs.YtndahomgglpdhaaDoor
open Go.RowKit Tre Cod

set_option maxRecDepth 100000 in
set_option maxHeartbeats 4000000 in
theorem sameOp_any (A1 A2 : Option Addr) (c1 c2 : Nat) (l m : List Mv) (w : World) (hl : l.length ≤ 50000) (hm : m.length ≤ 50000) (h1 : opE.Sl w A1 l) (h2 : opE.Sl w A2 m) :
    Calls Tryd.prog 64 #[.slice A1 l.length c1, .slice A2 m.length c2] w fun e w' => ∃ b, e = .returned (.bool b) ∧ (b = true ↔ l = m) ∧ Below w.heap.size w w' := by
  by_cases hlen : l.length = m.length
  · rw [← hlen]
    have HL := Lib.hid hlen
    clear hlen
    go_enter Tryd.func64, Tryd.ntmps64
    go_wp2
    go_loopw [5] (fun x wr => ∃ k : Nat, k ≤ l.length ∧ x = .int .i64 k ∧ (∀ j (hj : j < k) (ha : j < l.length) (hb : j < m.length), l[j] = m[j]) ∧ Below w.heap.size w wr) (fun x _ => l.length - (intOf x).toNat)
    case atStart => exact ⟨0, Nat.zero_le _, rfl, fun j hj => by omega, Below.refl _ _⟩
    case round =>
      obtain ⟨k, hk, rfl, hall, hnx⟩ := hrel
      by_cases hlt : k < l.length
      · obtain ⟨b1, o1, hA1, hw1, hc1⟩ := h1 (by omega)
        have hlt2 : k < m.length := by have := HL.out; omega
        obtain ⟨b2, o2, hA2, hw2, hc2⟩ := h2 (by omega)
        have hat : opE.At wr b1 (o1 + k * 7) l[k] := (hc1 k hlt).below hnx hw1
        have hat2 : opE.At wr b2 (o2 + k * 7) m[k] := (hc2 k hlt2).below hnx hw2
        obtain ⟨p, hp⟩ : ∃ p, l[k] = p := ⟨_, rfl⟩
        obtain ⟨q, hq⟩ : ∃ q, m[k] = q := ⟨_, rfl⟩
        rw [hp] at hat
        rw [hq] at hat2
        have HP := Lib.hid hp
        have HQ := Lib.hid hq
        have HA := Lib.hid hall
        obtain ⟨q0, q1, q2, q3, q4, q5, q6⟩ := opAt hat
        obtain ⟨r0, r1, r2, r3, r4, r5, r6⟩ := opAt hat2
        clear hc1 hc2 hp hq h1 h2 hall hat hat2
        subst hA1 hA2
        by_cases hpq : p = q
        · have HE := Lib.hid hpq
          subst hpq
          go_wp2
          go_quiet (fail)
          go_wp2
          go_roundw
          case rel =>
            refine ⟨k + 1, by omega, by go_num, fun j hj ha hb => ?_, below_drew hnx _⟩
            by_cases e : j = k
            · subst e; rw [HP.out, HQ.out]
            · exact HA.out j (by omega) ha hb
          case measure => simp [intOf]; omega
        · have HN := Lib.hid hpq
          rcases mv_unlike hpq with hu | ⟨a0, hu⟩ | ⟨a0, a1, hu⟩ | ⟨a0, a1, a2, hu⟩ | ⟨a0, a1, a2, a3, hu⟩ | ⟨a0, a1, a2, a3, a4, hu⟩ | ⟨a0, a1, a2, a3, a4, a5, hu⟩
          all_goals
            clear hpq
            go_wp2
            go_quiet (fail)
            go_wp2
            go_ret
            refine ⟨false, rfl, ⟨fun h => (by cases h), fun h => ?_⟩, below_drew hnx _⟩
            subst h
            exact absurd (HP.out.symm.trans HQ.out) HN.out
      · obtain rfl : k = l.length := by omega
        have HA := Lib.hid hall
        clear hall
        go_wp2
        go_ret
        exact ⟨true, rfl, ⟨fun _ => List.ext_getElem HL.out fun j ha hb => HA.out j ha ha hb, fun _ => rfl⟩, hnx⟩
  · have HL := Lib.hid hlen
    have hne : ¬ m.length = l.length := fun e => hlen e.symm
    go_enter Tryd.func64, Tryd.ntmps64
    go_wp2
    go_ret
    exact ⟨false, rfl, ⟨fun h => (by cases h), fun h => absurd (congrArg List.length h) HL.out⟩, Below.refl _ _⟩
end Go.Proofs.YtndahomgglpdhaaDoor

/- Gifts and frames in memory; what the program's functions shall answer (FrameCalls); the document's Same of lists, RightGift, PrintGift. -/
namespace Go.Proofs.YtndahomgglpdhaaDoor
open Go.RowKit Nam Cod

def gfE : El Gf where
  e := 32
  k := 5
  c g := [.int .i64 g.d, .int .i64 g.i, .int .i64 g.c, .int .i64 g.t, .string g.s]
  len _ := rfl
  one p u h := by
    simp only [List.mem_cons, List.not_mem_nil, or_false] at h
    rcases h with rfl | rfl | rfl | rfl | rfl <;> rfl
  pos := by decide
theorem gfRow : gfE.Row Tryd.prog := ⟨by kernel_rfl, _, Tryd.underlying32, rfl⟩
theorem gfInn : gfE.Inn Tryd.prog 25 := El.inn_of (z := .agg #[.int .i64 0, .int .i64 0, .int .i64 0, .int .i64 0, .string ⟨#[]⟩]) (bytes := 48) Tryd.underlying25 (by kernel_rfl) rfl (by decide)
theorem gfIn5 {w : World} {b : Nat} {g : Gf} (h : gfE.In w b g) : w.cell? ⟨b, 0, none⟩ = some (.int .i64 g.d) ∧ w.cell? ⟨b, 1, none⟩ = some (.int .i64 g.i) ∧ w.cell? ⟨b, 2, none⟩ = some (.int .i64 g.c) ∧ w.cell? ⟨b, 3, none⟩ = some (.int .i64 g.t) ∧ w.cell? ⟨b, 4, none⟩ = some (.string g.s) := ⟨h.cell 0, h.cell 1, h.cell 2, h.cell 3, h.cell 4⟩
theorem gfAt5 {w : World} {b o : Nat} {g : Gf} (h : gfE.At w b o g) : w.cell? ⟨b, o, none⟩ = some (.int .i64 g.d) ∧ w.cell? ⟨b, o + 1, none⟩ = some (.int .i64 g.i) ∧ w.cell? ⟨b, o + 2, none⟩ = some (.int .i64 g.c) ∧ w.cell? ⟨b, o + 3, none⟩ = some (.int .i64 g.t) ∧ w.cell? ⟨b, o + 4, none⟩ = some (.string g.s) := ⟨h 0 _ rfl, h 1 _ rfl, h 2 _ rfl, h 3 _ rfl, h 4 _ rfl⟩
theorem gfIdxH {A : Option Addr} {b off len cap k : Nat} (hA : A = some ⟨b, off, none⟩) (h : k < len) : ∀ w, (Instr.indexAt 25 (.slice A len cap) (.int .i64 k)).run Tryd.prog w = .ok (.pointer (some ⟨b, off + k * 5, none⟩)) w := fun w => by
  subst hA
  have h2 : (k : Int) < (len : Int) := by omega
  go_simp
structure Fw where
  oA : Option Addr
  oc : Nat
  rA : Option Addr
  rc : Nat
  eA : Option Addr
  ec : Nat
  gA : Option Addr
  gc : Nat
  x : Fr
def frE : El Fw where
  e := 27
  k := 14
  c y := [.int .i64 y.x.a, .int .i64 y.x.b, .int .i64 y.x.boot, .int .i64 y.x.first, .slice y.oA y.x.os.length y.oc, .int .i64 y.x.pos, .slice y.rA y.x.rs.length y.rc, .int .i64 y.x.start, .slice y.eA y.x.es.length y.ec, .int .i64 y.x.ack, .int .i64 y.x.grant, .int .i64 y.x.s, .int .i64 y.x.t, .slice y.gA y.x.gs.length y.gc]
  len _ := rfl
  one p u h := by
    simp only [List.mem_cons, List.not_mem_nil, or_false] at h
    rcases h with rfl | rfl | rfl | rfl | rfl | rfl | rfl | rfl | rfl | rfl | rfl | rfl | rfl | rfl <;> rfl
  pos := by decide
theorem frRow : frE.Row Tryd.prog := ⟨by kernel_rfl, _, Tryd.underlying27, rfl⟩
theorem frIn14 {w : World} {b : Nat} {y : Fw} (h : frE.In w b y) : w.cell? ⟨b, 0, none⟩ = some (.int .i64 y.x.a) ∧ w.cell? ⟨b, 1, none⟩ = some (.int .i64 y.x.b) ∧ w.cell? ⟨b, 2, none⟩ = some (.int .i64 y.x.boot) ∧ w.cell? ⟨b, 3, none⟩ = some (.int .i64 y.x.first) ∧ w.cell? ⟨b, 4, none⟩ = some (.slice y.oA y.x.os.length y.oc) ∧ w.cell? ⟨b, 5, none⟩ = some (.int .i64 y.x.pos) ∧ w.cell? ⟨b, 6, none⟩ = some (.slice y.rA y.x.rs.length y.rc) ∧ w.cell? ⟨b, 7, none⟩ = some (.int .i64 y.x.start) ∧ w.cell? ⟨b, 8, none⟩ = some (.slice y.eA y.x.es.length y.ec) ∧ w.cell? ⟨b, 9, none⟩ = some (.int .i64 y.x.ack) ∧ w.cell? ⟨b, 10, none⟩ = some (.int .i64 y.x.grant) ∧ w.cell? ⟨b, 11, none⟩ = some (.int .i64 y.x.s) ∧ w.cell? ⟨b, 12, none⟩ = some (.int .i64 y.x.t) ∧ w.cell? ⟨b, 13, none⟩ = some (.slice y.gA y.x.gs.length y.gc) :=
  ⟨h.cell 0, h.cell 1, h.cell 2, h.cell 3, h.cell 4, h.cell 5, h.cell 6, h.cell 7, h.cell 8, h.cell 9, h.cell 10, h.cell 11, h.cell 12, h.cell 13⟩
structure Fw.ok (y : Fw) (w : World) : Prop where
  o : SlV opE w y.oA y.oc y.x.os
  r : SlV rpE w y.rA y.rc y.x.rs
  e : SlV enE w y.eA y.ec y.x.es
  g : SlV gfE w y.gA y.gc y.x.gs
theorem Fw.ok.below {y : Fw} {W w : World} (h : y.ok W) (hb : Below W.heap.size W w) : y.ok w := ⟨SlV.below h.o hb, SlV.below h.r hb, SlV.below h.e hb, SlV.below h.g hb⟩
def zeroFw : Fw := ⟨none, 0, none, 0, none, 0, none, 0, zeroFr⟩
def GfW (g : Gf) : Prop := i64 g.d ∧ i64 g.i ∧ i64 g.c ∧ i64 g.t ∧ g.s.size ≤ 1000000
structure FrW (x : Fr) : Prop where
  n : ∀ n ∈ frL x, i64 n
  os : ∀ o ∈ x.os, Wide o.C o.D o.I o.M o.K o.U ∧ o.s.size ≤ 1000000
  rs : ∀ r ∈ x.rs, RpW r
  es : ∀ e ∈ x.es, EnW e ∧ e.o.s.size ≤ 1000000
  gs : ∀ g ∈ x.gs, GfW g
  l : x.os.length ≤ 300 ∧ x.rs.length ≤ 300 ∧ x.es.length ≤ 300 ∧ x.gs.length ≤ 300
  z : (bodyF x).size ≤ 1000000
def gfStep (s : ByteArray) (p : Nat) (bad : Bool) (x : Gf) (q : Nat) (bad' : Bool) : Prop := (isGf s p bad = some (x, q) ∧ bad' = false) ∨ (isGf s p bad = none ∧ x = zeroGf ∧ bad' = true)
structure FrameCalls : Prop where
  right : ∀ (y : Fw) (w : World), FrW y.x → y.ok w → Calls Tryd.prog 14 #[.agg #[.int .i64 y.x.a, .int .i64 y.x.b, .int .i64 y.x.boot, .int .i64 y.x.first, .slice y.oA y.x.os.length y.oc, .int .i64 y.x.pos, .slice y.rA y.x.rs.length y.rc, .int .i64 y.x.start, .slice y.eA y.x.es.length y.ec, .int .i64 y.x.ack, .int .i64 y.x.grant, .int .i64 y.x.s, .int .i64 y.x.t, .slice y.gA y.x.gs.length y.gc]] w fun e w' => e = .returned (.bool (frB y.x)) ∧ Below w.heap.size w w'
  rightGift : ∀ (g : Gf) (w : World), g.s.size ≤ 1000000 → Calls Tryd.prog 10 #[.agg #[.int .i64 g.d, .int .i64 g.i, .int .i64 g.c, .int .i64 g.t, .string g.s]] w fun e w' => e = .returned (.bool (gfB g)) ∧ Below w.heap.size w w'
  print : ∀ (y : Fw) (w : World), Crk.Laid w → FrW y.x → y.ok w → Calls Tryd.prog 16 #[.agg #[.int .i64 y.x.a, .int .i64 y.x.b, .int .i64 y.x.boot, .int .i64 y.x.first, .slice y.oA y.x.os.length y.oc, .int .i64 y.x.pos, .slice y.rA y.x.rs.length y.rc, .int .i64 y.x.start, .slice y.eA y.x.es.length y.ec, .int .i64 y.x.ack, .int .i64 y.x.grant, .int .i64 y.x.s, .int .i64 y.x.t, .slice y.gA y.x.gs.length y.gc]] w fun e w' => e = .returned (.string (frBytes y.x)) ∧ Below w.heap.size w w'
  parse : ∀ (s : ByteArray) (w : World), Crk.Laid w → s.size ≤ 1000000 → Calls Tryd.prog 18 #[.string s] w fun e w' => ∃ (y : Fw) (bv : Bool), e = .returned (.tuple #[.agg #[.int .i64 y.x.a, .int .i64 y.x.b, .int .i64 y.x.boot, .int .i64 y.x.first, .slice y.oA y.x.os.length y.oc, .int .i64 y.x.pos, .slice y.rA y.x.rs.length y.rc, .int .i64 y.x.start, .slice y.eA y.x.es.length y.ec, .int .i64 y.x.ack, .int .i64 y.x.grant, .int .i64 y.x.s, .int .i64 y.x.t, .slice y.gA y.x.gs.length y.gc], .bool bv]) ∧ y.ok w' ∧ ((parseF s = some y.x ∧ bv = true) ∨ (parseF s = none ∧ y.x = zeroFr ∧ bv = false)) ∧ Below w.heap.size w w'
  printGift : ∀ (g : Gf) (w : World), GfW g → Calls Tryd.prog 12 #[.agg #[.int .i64 g.d, .int .i64 g.i, .int .i64 g.c, .int .i64 g.t, .string g.s]] w fun e w' => e = .returned (.string (gfBytes g)) ∧ Below w.heap.size w w'
  readGift : ∀ (w : World) (b p : Nat) (s : ByteArray) (bad : Bool), s.size ≤ 1000000 → p ≤ s.size → Rd 44 w b s p bad → Calls Tryd.prog 21 #[.pointer (some ⟨b, 0, none⟩)] w fun e w' => ∃ (x : Gf) (q : Nat) (bad' : Bool), e = .returned (.agg #[.int .i64 x.d, .int .i64 x.i, .int .i64 x.c, .int .i64 x.t, .string x.s]) ∧ Rd 44 w' b s q bad' ∧ q ≤ s.size ∧ w.grownBy w' (some b) ∧ gfStep s p bad x q bad'

def gfEq (a b : Gf) : Bool := decide (a.d = b.d ∧ a.i = b.i ∧ a.c = b.c ∧ a.t = b.t ∧ a.s = b.s)
theorem gfEq_iff {a b : Gf} : gfEq a b = true ↔ a = b := by
  unfold gfEq
  rw [decide_eq_true_iff]
  obtain ⟨_, _, _, _, _⟩ := a
  obtain ⟨_, _, _, _, _⟩ := b
  simp
set_option maxRecDepth 100000 in
set_option maxHeartbeats 4000000 in
theorem run_eqGf (a b : Gf) (w : World) : (Op.equalIn 10000 32 (.agg #[.int .i64 a.d, .int .i64 a.i, .int .i64 a.c, .int .i64 a.t, .string a.s]) (.agg #[.int .i64 b.d, .int .i64 b.i, .int .i64 b.c, .int .i64 b.t, .string b.s])).run Tryd.prog w = .ok (gfEq a b) w := by
  obtain ⟨a1, a2, a3, a4, a5⟩ := a
  obtain ⟨b1, b2, b3, b4, b5⟩ := b
  dsimp only
  by_cases h : a1 = b1 ∧ a2 = b2 ∧ a3 = b3 ∧ a4 = b4 ∧ a5 = b5
  · have hm : gfEq ⟨a1, a2, a3, a4, a5⟩ ⟨b1, b2, b3, b4, b5⟩ = true := decide_eq_true h
    rw [hm]
    obtain ⟨rfl, rfl, rfl, rfl, rfl⟩ := h
    clear hm
    go_simp
  · have hm : gfEq ⟨a1, a2, a3, a4, a5⟩ ⟨b1, b2, b3, b4, b5⟩ = false := decide_eq_false h
    rw [hm]
    clear hm
    go_simp
    exact fun h1 h2 h3 h4 h5 => h ⟨h1, h2, h3, h4, toList_iff.1 h5⟩

theorem enAtF {w : World} {b o : Nat} {x : En} (h : enE.At w b o x) : w.cell? ⟨b, o, none⟩ = some (.int .i64 x.k) ∧ w.cell? ⟨b, o + 1, none⟩ = some (.int .i64 x.d) ∧ w.cell? ⟨b, o + 2, none⟩ = some (.int .i64 x.i) ∧ w.cell? ⟨b, o + 3, none⟩ = some (.int .i64 x.o.C) ∧ w.cell? ⟨b, o + 4, none⟩ = some (.int .i64 x.o.D) ∧ w.cell? ⟨b, o + 5, none⟩ = some (.int .i64 x.o.I) ∧ w.cell? ⟨b, o + 6, none⟩ = some (.int .i64 x.o.M) ∧ w.cell? ⟨b, o + 7, none⟩ = some (.int .i64 x.o.K) ∧ w.cell? ⟨b, o + 8, none⟩ = some (.int .i64 x.o.U) ∧ w.cell? ⟨b, o + 9, none⟩ = some (.string x.o.s) := ⟨h 0 _ rfl, h 1 _ rfl, h 2 _ rfl, h 3 _ rfl, h 4 _ rfl, h 5 _ rfl, h 6 _ rfl, h 7 _ rfl, h 8 _ rfl, h 9 _ rfl⟩
def enEq2 (a b : En) : Bool := enEq a.k a.d a.i a.o.C a.o.D a.o.I a.o.M a.o.K a.o.U a.o.s b.k b.d b.i b.o.C b.o.D b.o.I b.o.M b.o.K b.o.U b.o.s
theorem enEq2_iff {a b : En} : enEq2 a b = true ↔ a = b := enEq_iff
theorem run_eqEn2 (a b : En) (w : World) : (Op.equalIn 10000 52 (.agg #[.int .i64 a.k, .int .i64 a.d, .int .i64 a.i, .int .i64 a.o.C, .int .i64 a.o.D, .int .i64 a.o.I, .int .i64 a.o.M, .int .i64 a.o.K, .int .i64 a.o.U, .string a.o.s]) (.agg #[.int .i64 b.k, .int .i64 b.d, .int .i64 b.i, .int .i64 b.o.C, .int .i64 b.o.D, .int .i64 b.o.I, .int .i64 b.o.M, .int .i64 b.o.K, .int .i64 b.o.U, .string b.o.s])).run Tryd.prog w = .ok (enEq2 a b) w := run_eqEn w _ _ _ _ _ _ _ _ _ _ _ _ _ _ _ _ _ _ _ _
set_option maxRecDepth 100000 in
set_option maxHeartbeats 4000000 in
theorem sameGf_iff (A1 A2 : Option Addr) (c1 c2 : Nat) (l m : List Gf) (w : World) (hl : l.length ≤ 50000) (hm : m.length ≤ 50000) (h1 : gfE.Sl w A1 l) (h2 : gfE.Sl w A2 m) :
    Calls Tryd.prog 67 #[.slice A1 l.length c1, .slice A2 m.length c2] w fun e w' => ∃ b, e = .returned (.bool b) ∧ (b = true ↔ l = m) ∧ Below w.heap.size w w' := by
  by_cases hlen : l.length = m.length
  · rw [← hlen]
    have HL := Lib.hid hlen
    clear hlen
    go_enter Tryd.func67, Tryd.ntmps67
    go_wp2
    go_loopw [5] (fun x wr => ∃ k : Nat, k ≤ l.length ∧ x = .int .i64 k ∧ (∀ j (hj : j < k) (ha : j < l.length) (hb : j < m.length), l[j] = m[j]) ∧ Below w.heap.size w wr) (fun x _ => l.length - (intOf x).toNat)
    case atStart => exact ⟨0, Nat.zero_le _, rfl, fun j hj => by omega, Below.refl _ _⟩
    case round =>
      obtain ⟨k, hk, rfl, hall, hnx⟩ := hrel
      by_cases hlt : k < l.length
      · obtain ⟨b1, o1, hA1, hw1, hc1⟩ := h1 (by omega)
        have hlt2 : k < m.length := by have := HL.out; omega
        obtain ⟨b2, o2, hA2, hw2, hc2⟩ := h2 (by omega)
        have hat : gfE.At wr b1 (o1 + k * 5) l[k] := (hc1 k hlt).below hnx hw1
        have hat2 : gfE.At wr b2 (o2 + k * 5) m[k] := (hc2 k hlt2).below hnx hw2
        obtain ⟨p, hp⟩ : ∃ p, l[k] = p := ⟨_, rfl⟩
        obtain ⟨q, hq⟩ : ∃ q, m[k] = q := ⟨_, rfl⟩
        rw [hp] at hat
        rw [hq] at hat2
        have HP := Lib.hid hp
        have HQ := Lib.hid hq
        have HA := Lib.hid hall
        obtain ⟨s0, s1, s2, s3, s4⟩ := gfAt5 hat
        obtain ⟨t0, t1, t2, t3, t4⟩ := gfAt5 hat2
        clear hc1 hc2 hp hq h1 h2 hall hat hat2
        subst hA1 hA2
        have hrun := fun w => run_eqGf p q w
        have hiff := @gfEq_iff p q
        cases heq : gfEq p q with
        | true =>
          have HE := Lib.hid (hiff.1 heq)
          rw [heq] at hrun
          clear hiff heq
          go_wp2
          go_quiet (fail)
          go_wp2
          go_roundw
          case rel =>
            refine ⟨k + 1, by omega, by go_num, fun j hj ha hb => ?_, below_drew hnx _⟩
            by_cases e : j = k
            · subst e; rw [HP.out, HQ.out]; exact HE.out
            · exact HA.out j (by omega) ha hb
          case measure => simp [intOf]; omega
        | false =>
          have HN := Lib.hid (show ¬ p = q from fun e => by rw [hiff.2 e] at heq; cases heq)
          rw [heq] at hrun
          clear hiff heq
          go_wp2
          go_quiet (fail)
          go_wp2
          go_ret
          refine ⟨false, rfl, ⟨fun h => (by cases h), fun h => ?_⟩, below_drew hnx _⟩
          subst h
          exact absurd (HP.out.symm.trans HQ.out) HN.out
      · obtain rfl : k = l.length := by omega
        have HE := Lib.hid (show l = m from List.ext_getElem HL.out fun j h1 h2 => hall j h1 h1 h2)
        clear hall
        go_wp2
        go_ret
        exact ⟨true, rfl, ⟨fun _ => HE.out, fun _ => rfl⟩, hnx⟩
  · have hd : ((l.length : Int) == (m.length : Int)) = false := by rw [beq_eq_false_iff_ne]; omega
    go_enter Tryd.func67, Tryd.ntmps67
    go_wp2
    go_ret
    exact ⟨false, rfl, ⟨fun h => (by cases h), fun h => absurd (by rw [h]) hlen⟩, Below.refl _ _⟩
set_option maxRecDepth 100000 in
set_option maxHeartbeats 4000000 in
theorem sameRp_iff (A1 A2 : Option Addr) (c1 c2 : Nat) (l m : List Rp) (w : World) (hl : l.length ≤ 50000) (hm : m.length ≤ 50000) (h1 : rpE.Sl w A1 l) (h2 : rpE.Sl w A2 m) :
    Calls Tryd.prog 65 #[.slice A1 l.length c1, .slice A2 m.length c2] w fun e w' => ∃ b, e = .returned (.bool b) ∧ (b = true ↔ l = m) ∧ Below w.heap.size w w' := by
  by_cases hlen : l.length = m.length
  · rw [← hlen]
    have HL := Lib.hid hlen
    clear hlen
    go_enter Tryd.func65, Tryd.ntmps65
    go_wp2
    go_loopw [5] (fun x wr => ∃ k : Nat, k ≤ l.length ∧ x = .int .i64 k ∧ (∀ j (hj : j < k) (ha : j < l.length) (hb : j < m.length), l[j] = m[j]) ∧ Below w.heap.size w wr) (fun x _ => l.length - (intOf x).toNat)
    case atStart => exact ⟨0, Nat.zero_le _, rfl, fun j hj => by omega, Below.refl _ _⟩
    case round =>
      obtain ⟨k, hk, rfl, hall, hnx⟩ := hrel
      by_cases hlt : k < l.length
      · obtain ⟨b1, o1, hA1, hw1, hc1⟩ := h1 (by omega)
        have hlt2 : k < m.length := by have := HL.out; omega
        obtain ⟨b2, o2, hA2, hw2, hc2⟩ := h2 (by omega)
        have hat : rpE.At wr b1 (o1 + k * 9) l[k] := (hc1 k hlt).below hnx hw1
        have hat2 : rpE.At wr b2 (o2 + k * 9) m[k] := (hc2 k hlt2).below hnx hw2
        obtain ⟨p, hp⟩ : ∃ p, l[k] = p := ⟨_, rfl⟩
        obtain ⟨q, hq⟩ : ∃ q, m[k] = q := ⟨_, rfl⟩
        rw [hp] at hat
        rw [hq] at hat2
        have HP := Lib.hid hp
        have HQ := Lib.hid hq
        have HA := Lib.hid hall
        obtain ⟨s0, s1, s2, s3, s4, s5, s6, s7, s8⟩ := rpAt9 hat
        obtain ⟨t0, t1, t2, t3, t4, t5, t6, t7, t8⟩ := rpAt9 hat2
        clear hc1 hc2 hp hq h1 h2 hall hat hat2
        subst hA1 hA2
        have hrun := fun w => run_eqRp p q w
        have hiff := @rpEq_iff p q
        cases heq : rpEq p q with
        | true =>
          have HE := Lib.hid (hiff.1 heq)
          rw [heq] at hrun
          clear hiff heq
          go_wp2
          go_quiet (fail)
          go_wp2
          go_roundw
          case rel =>
            refine ⟨k + 1, by omega, by go_num, fun j hj ha hb => ?_, below_drew hnx _⟩
            by_cases e : j = k
            · subst e; rw [HP.out, HQ.out]; exact HE.out
            · exact HA.out j (by omega) ha hb
          case measure => simp [intOf]; omega
        | false =>
          have HN := Lib.hid (show ¬ p = q from fun e => by rw [hiff.2 e] at heq; cases heq)
          rw [heq] at hrun
          clear hiff heq
          go_wp2
          go_quiet (fail)
          go_wp2
          go_ret
          refine ⟨false, rfl, ⟨fun h => (by cases h), fun h => ?_⟩, below_drew hnx _⟩
          subst h
          exact absurd (HP.out.symm.trans HQ.out) HN.out
      · obtain rfl : k = l.length := by omega
        have HE := Lib.hid (show l = m from List.ext_getElem HL.out fun j h1 h2 => hall j h1 h1 h2)
        clear hall
        go_wp2
        go_ret
        exact ⟨true, rfl, ⟨fun _ => HE.out, fun _ => rfl⟩, hnx⟩
  · have hd : ((l.length : Int) == (m.length : Int)) = false := by rw [beq_eq_false_iff_ne]; omega
    go_enter Tryd.func65, Tryd.ntmps65
    go_wp2
    go_ret
    exact ⟨false, rfl, ⟨fun h => (by cases h), fun h => absurd (by rw [h]) hlen⟩, Below.refl _ _⟩
set_option maxRecDepth 100000 in
set_option maxHeartbeats 4000000 in
theorem sameEn_iff (A1 A2 : Option Addr) (c1 c2 : Nat) (l m : List En) (w : World) (hl : l.length ≤ 50000) (hm : m.length ≤ 50000) (h1 : enE.Sl w A1 l) (h2 : enE.Sl w A2 m) :
    Calls Tryd.prog 66 #[.slice A1 l.length c1, .slice A2 m.length c2] w fun e w' => ∃ b, e = .returned (.bool b) ∧ (b = true ↔ l = m) ∧ Below w.heap.size w w' := by
  by_cases hlen : l.length = m.length
  · rw [← hlen]
    have HL := Lib.hid hlen
    clear hlen
    go_enter Tryd.func66, Tryd.ntmps66
    go_wp2
    go_loopw [5] (fun x wr => ∃ k : Nat, k ≤ l.length ∧ x = .int .i64 k ∧ (∀ j (hj : j < k) (ha : j < l.length) (hb : j < m.length), l[j] = m[j]) ∧ Below w.heap.size w wr) (fun x _ => l.length - (intOf x).toNat)
    case atStart => exact ⟨0, Nat.zero_le _, rfl, fun j hj => by omega, Below.refl _ _⟩
    case round =>
      obtain ⟨k, hk, rfl, hall, hnx⟩ := hrel
      by_cases hlt : k < l.length
      · obtain ⟨b1, o1, hA1, hw1, hc1⟩ := h1 (by omega)
        have hlt2 : k < m.length := by have := HL.out; omega
        obtain ⟨b2, o2, hA2, hw2, hc2⟩ := h2 (by omega)
        have hat : enE.At wr b1 (o1 + k * 10) l[k] := (hc1 k hlt).below hnx hw1
        have hat2 : enE.At wr b2 (o2 + k * 10) m[k] := (hc2 k hlt2).below hnx hw2
        obtain ⟨p, hp⟩ : ∃ p, l[k] = p := ⟨_, rfl⟩
        obtain ⟨q, hq⟩ : ∃ q, m[k] = q := ⟨_, rfl⟩
        rw [hp] at hat
        rw [hq] at hat2
        have HP := Lib.hid hp
        have HQ := Lib.hid hq
        have HA := Lib.hid hall
        obtain ⟨s0, s1, s2, s3, s4, s5, s6, s7, s8, s9⟩ := enAtF hat
        obtain ⟨t0, t1, t2, t3, t4, t5, t6, t7, t8, t9⟩ := enAtF hat2
        clear hc1 hc2 hp hq h1 h2 hall hat hat2
        subst hA1 hA2
        have hrun := fun w => run_eqEn2 p q w
        have hiff := @enEq2_iff p q
        cases heq : enEq2 p q with
        | true =>
          have HE := Lib.hid (hiff.1 heq)
          rw [heq] at hrun
          clear hiff heq
          go_wp2
          go_quiet (fail)
          go_wp2
          go_roundw
          case rel =>
            refine ⟨k + 1, by omega, by go_num, fun j hj ha hb => ?_, below_drew hnx _⟩
            by_cases e : j = k
            · subst e; rw [HP.out, HQ.out]; exact HE.out
            · exact HA.out j (by omega) ha hb
          case measure => simp [intOf]; omega
        | false =>
          have HN := Lib.hid (show ¬ p = q from fun e => by rw [hiff.2 e] at heq; cases heq)
          rw [heq] at hrun
          clear hiff heq
          go_wp2
          go_quiet (fail)
          go_wp2
          go_ret
          refine ⟨false, rfl, ⟨fun h => (by cases h), fun h => ?_⟩, below_drew hnx _⟩
          subst h
          exact absurd (HP.out.symm.trans HQ.out) HN.out
      · obtain rfl : k = l.length := by omega
        have HE := Lib.hid (show l = m from List.ext_getElem HL.out fun j h1 h2 => hall j h1 h1 h2)
        clear hall
        go_wp2
        go_ret
        exact ⟨true, rfl, ⟨fun _ => HE.out, fun _ => rfl⟩, hnx⟩
  · have hd : ((l.length : Int) == (m.length : Int)) = false := by rw [beq_eq_false_iff_ne]; omega
    go_enter Tryd.func66, Tryd.ntmps66
    go_wp2
    go_ret
    exact ⟨false, rfl, ⟨fun h => (by cases h), fun h => absurd (by rw [h]) hlen⟩, Below.refl _ _⟩
end Go.Proofs.YtndahomgglpdhaaDoor

/- The document's RightGift, PrintGift; Same of frames. -/
namespace Go.Proofs.YtndahomgglpdhaaDoor
open Go.RowKit Nam Cod

set_option maxRecDepth 100000 in
set_option maxHeartbeats 2000000 in
theorem refRightGift_any (g : Gf) (w : World) (hs : g.s.size ≤ 1000000) : Calls Tryd.prog 11 #[.agg #[.int .i64 g.d, .int .i64 g.i, .int .i64 g.c, .int .i64 g.t, .string g.s]] w fun e w' => e = .returned (.bool (gfB g)) ∧ Below w.heap.size w w' := by
  have hP : gfE.In (w.alloc (.cells #[.int .i64 g.d, .int .i64 g.i, .int .i64 g.c, .int .i64 g.t, .string g.s] 32)) w.heap.size g := El.In.new (E := gfE) w g _ rfl
  have hB := below_alloc (Below.refl w.heap.size w) (.cells #[.int .i64 g.d, .int .i64 g.i, .int .i64 g.c, .int .i64 g.t, .string g.s] 32)
  obtain ⟨p0, p1, p2, p3, p4⟩ := gfIn5 hP
  clear hP
  by_cases a0 : 0 ≤ g.d
  · have f0 : decide (0 ≤ g.d) = true := decide_eq_true a0
    by_cases a1 : g.d < 12
    · have f1 : decide (g.d < 12) = true := decide_eq_true a1
      by_cases a2 : 1 ≤ g.i
      · have f2 : decide (1 ≤ g.i) = true := decide_eq_true a2
        by_cases a3 : g.i ≤ 1099511627776
        · have f3 : decide (g.i ≤ 1099511627776) = true := decide_eq_true a3
          by_cases a4 : 0 ≤ g.c
          · have f4 : decide (0 ≤ g.c) = true := decide_eq_true a4
            by_cases a5 : g.c ≤ 1099511627776
            · have f5 : decide (g.c ≤ 1099511627776) = true := decide_eq_true a5
              by_cases a6 : 0 ≤ g.t
              · have f6 : decide (0 ≤ g.t) = true := decide_eq_true a6
                by_cases a7 : g.t ≤ 1099511627776
                · have f7 : decide (g.t ≤ 1099511627776) = true := decide_eq_true a7
                  by_cases a8 : (g.s.size : Int) ≤ 256
                  · have f8 : decide ((g.s.size : Int) ≤ 256) = true := decide_eq_true a8
                    have f9 : decide (g.s.size ≤ 256) = true := decide_eq_true (by omega)
                    have hv : gfB g = true := by unfold gfB; exact decide_eq_true (by omega)
                    rw [hv]
                    clear hv a0 a1 a2 a3 a4 a5 a6 a7 a8
                    go_enter Tryd.func11, Tryd.ntmps11
                    go_wp2_with fail
                    go_ret
                    exact ⟨rfl, hB⟩
                  · have f8 : decide ((g.s.size : Int) ≤ 256) = false := decide_eq_false a8
                    have f9 : decide (g.s.size ≤ 256) = false := decide_eq_false (by omega)
                    have hv : gfB g = false := by unfold gfB; exact decide_eq_false (by omega)
                    rw [hv]
                    clear hv a0 a1 a2 a3 a4 a5 a6 a7 a8
                    go_enter Tryd.func11, Tryd.ntmps11
                    go_wp2_with fail
                    go_ret
                    exact ⟨rfl, hB⟩
                · have f7 : decide (g.t ≤ 1099511627776) = false := decide_eq_false a7
                  have hv : gfB g = false := by unfold gfB; exact decide_eq_false (by omega)
                  rw [hv]
                  clear hv a0 a1 a2 a3 a4 a5 a6 a7
                  go_enter Tryd.func11, Tryd.ntmps11
                  go_wp2_with fail
                  go_ret
                  exact ⟨rfl, hB⟩
              · have f6 : decide (0 ≤ g.t) = false := decide_eq_false a6
                have hv : gfB g = false := by unfold gfB; exact decide_eq_false (by omega)
                rw [hv]
                clear hv a0 a1 a2 a3 a4 a5 a6
                go_enter Tryd.func11, Tryd.ntmps11
                go_wp2_with fail
                go_ret
                exact ⟨rfl, hB⟩
            · have f5 : decide (g.c ≤ 1099511627776) = false := decide_eq_false a5
              have hv : gfB g = false := by unfold gfB; exact decide_eq_false (by omega)
              rw [hv]
              clear hv a0 a1 a2 a3 a4 a5
              go_enter Tryd.func11, Tryd.ntmps11
              go_wp2_with fail
              go_ret
              exact ⟨rfl, hB⟩
          · have f4 : decide (0 ≤ g.c) = false := decide_eq_false a4
            have hv : gfB g = false := by unfold gfB; exact decide_eq_false (by omega)
            rw [hv]
            clear hv a0 a1 a2 a3 a4
            go_enter Tryd.func11, Tryd.ntmps11
            go_wp2_with fail
            go_ret
            exact ⟨rfl, hB⟩
        · have f3 : decide (g.i ≤ 1099511627776) = false := decide_eq_false a3
          have hv : gfB g = false := by unfold gfB; exact decide_eq_false (by omega)
          rw [hv]
          clear hv a0 a1 a2 a3
          go_enter Tryd.func11, Tryd.ntmps11
          go_wp2_with fail
          go_ret
          exact ⟨rfl, hB⟩
      · have f2 : decide (1 ≤ g.i) = false := decide_eq_false a2
        have hv : gfB g = false := by unfold gfB; exact decide_eq_false (by omega)
        rw [hv]
        clear hv a0 a1 a2
        go_enter Tryd.func11, Tryd.ntmps11
        go_wp2_with fail
        go_ret
        exact ⟨rfl, hB⟩
    · have f1 : decide (g.d < 12) = false := decide_eq_false a1
      have hv : gfB g = false := by unfold gfB; exact decide_eq_false (by omega)
      rw [hv]
      clear hv a0 a1
      go_enter Tryd.func11, Tryd.ntmps11
      go_wp2_with fail
      go_ret
      exact ⟨rfl, hB⟩
  · have f0 : decide (0 ≤ g.d) = false := decide_eq_false a0
    have hv : gfB g = false := by unfold gfB; exact decide_eq_false (by omega)
    rw [hv]
    clear hv a0
    go_enter Tryd.func11, Tryd.ntmps11
    go_wp2_with fail
    go_ret
    exact ⟨rfl, hB⟩

set_option maxRecDepth 100000 in
set_option maxHeartbeats 4000000 in
theorem refPrintGift_any (g : Gf) (w : World) (hw : GfW g) : Calls Tryd.prog 13 #[.agg #[.int .i64 g.d, .int .i64 g.i, .int .i64 g.c, .int .i64 g.t, .string g.s]] w fun e w' => e = .returned (.string (gfBytes g)) ∧ Below w.heap.size w w' := by
  have hP : gfE.In (w.alloc (.cells #[.int .i64 g.d, .int .i64 g.i, .int .i64 g.c, .int .i64 g.t, .string g.s] 32)) w.heap.size g := El.In.new (E := gfE) w g _ rfl
  have hB := below_alloc (Below.refl w.heap.size w) (.cells #[.int .i64 g.d, .int .i64 g.i, .int .i64 g.c, .int .i64 g.t, .string g.s] 32)
  obtain ⟨i1, i2, i3, i4, hs⟩ := hw
  have C1 := Lib.hid (fun wx => refNum_any g.d wx i1.1 i1.2)
  have C2 := Lib.hid (fun wx => refNum_any g.i wx i2.1 i2.2)
  have C3 := Lib.hid (fun wx => refNum_any g.c wx i3.1 i3.2)
  have C4 := Lib.hid (fun wx => refNum_any g.t wx i4.1 i4.2)
  have C5 := Lib.hid (fun wx => refText_any g.s wx hs)
  have z1 := bytesOf_le10 i1
  have z2 := bytesOf_le10 i2
  have z3 := bytesOf_le10 i3
  have z4 := bytesOf_le10 i4
  have z5 : (textOf g.s).size ≤ 1000010 := by
    have := bytesOf_le10 (n := (g.s.size : Int)) (by unfold i64; omega)
    unfold textOf; rw [ByteArray.size_append]; omega
  have HV := Lib.hid (show gfBytes g = bytesOf g.d ++ bytesOf g.i ++ bytesOf g.c ++ bytesOf g.t ++ textOf g.s from rfl)
  generalize bytesOf g.d = x1 at *
  generalize bytesOf g.i = x2 at *
  generalize bytesOf g.c = x3 at *
  generalize bytesOf g.t = x4 at *
  generalize textOf g.s = x5 at *
  rw [HV.out]
  have y1 : ¬ 9223372036854775807 < x1.size + x2.size := by omega
  have y2 : ¬ 9223372036854775807 < x1.size + x2.size + x3.size := by omega
  have y3 : ¬ 9223372036854775807 < x1.size + x2.size + x3.size + x4.size := by omega
  have y4 : ¬ 9223372036854775807 < x1.size + x2.size + x3.size + x4.size + x5.size := by omega
  clear i1 i2 i3 i4 hs z1 z2 z3 z4 z5
  go_enter Tryd.func13, Tryd.ntmps13
  go_wp2_with fail
  generalize w.alloc (.cells #[.int .i64 g.d, .int .i64 g.i, .int .i64 g.c, .int .i64 g.t, .string g.s] 32) = W at *
  obtain ⟨n1, hn1⟩ : ∃ n, w.heap.size = n := ⟨_, rfl⟩
  rw [hn1] at hP ⊢
  clear hn1
  replace hP : gfE.In W.drew n1 g := hP
  replace hB := hB.drew
  go_region_held3 (fun w' => w'.cell? ⟨n1, 0, none⟩ = some (.int .i64 g.d) ∧ w'.cell? ⟨n1, 1, none⟩ = some (.int .i64 g.i) ∧ w'.cell? ⟨n1, 2, none⟩ = some (.int .i64 g.c) ∧ w'.cell? ⟨n1, 3, none⟩ = some (.int .i64 g.t) ∧ w'.cell? ⟨n1, 4, none⟩ = some (.string g.s)) (with_reducible exact gfIn5 hP) (first | (go_at_call 25; (with_reducible first | refine (C1.out _).mono ?_ | refine (C2.out _).mono ?_ | refine (C3.out _).mono ?_ | refine (C4.out _).mono ?_); rintro e w3 ⟨rfl, hb3⟩; have hP := hP.below hb3; have hB := hB.trans (hb3.mono hB.size)) | (go_at_call 26; (with_reducible refine (C5.out _).mono ?_); rintro e w3 ⟨rfl, hb3⟩; have hP := hP.below hb3; have hB := hB.trans (hb3.mono hB.size)))
  all_goals
    go_wp2_with fail
    go_ret
    exact ⟨rfl, hB⟩

set_option maxRecDepth 100000 in
set_option maxHeartbeats 4000000 in
/-- Same, of equal frames. -/
theorem same15_eq (y z : Fw) (w : World) (e0 : (y.x.a == z.x.a) = true) (e1 : (y.x.b == z.x.b) = true) (e2 : (y.x.boot == z.x.boot) = true) (e3 : (y.x.first == z.x.first) = true) (e4 : (y.x.pos == z.x.pos) = true) (e5 : (y.x.start == z.x.start) = true) (e6 : (y.x.ack == z.x.ack) = true) (e7 : (y.x.grant == z.x.grant) = true) (e8 : (y.x.s == z.x.s) = true) (e9 : (y.x.t == z.x.t) = true) (HL : Hid (z.x.os = y.x.os ∧ z.x.rs = y.x.rs ∧ z.x.es = y.x.es ∧ z.x.gs = y.x.gs)) (hy : y.ok w) (hz : z.ok w) (ly : y.x.os.length ≤ 50000 ∧ y.x.rs.length ≤ 50000 ∧ y.x.es.length ≤ 50000 ∧ y.x.gs.length ≤ 50000) : Calls Tryd.prog 20 #[.agg #[.int .i64 y.x.a, .int .i64 y.x.b, .int .i64 y.x.boot, .int .i64 y.x.first, .slice y.oA y.x.os.length y.oc, .int .i64 y.x.pos, .slice y.rA y.x.rs.length y.rc, .int .i64 y.x.start, .slice y.eA y.x.es.length y.ec, .int .i64 y.x.ack, .int .i64 y.x.grant, .int .i64 y.x.s, .int .i64 y.x.t, .slice y.gA y.x.gs.length y.gc], .agg #[.int .i64 z.x.a, .int .i64 z.x.b, .int .i64 z.x.boot, .int .i64 z.x.first, .slice z.oA z.x.os.length z.oc, .int .i64 z.x.pos, .slice z.rA z.x.rs.length z.rc, .int .i64 z.x.start, .slice z.eA z.x.es.length z.ec, .int .i64 z.x.ack, .int .i64 z.x.grant, .int .i64 z.x.s, .int .i64 z.x.t, .slice z.gA z.x.gs.length z.gc]] w fun e w' => e = .returned (.bool true) ∧ Below w.heap.size w w' := by
  have CO := Lib.hid (fun (wx : World) (hb : Below w.heap.size w wx) => (sameOp_any y.oA z.oA y.oc z.oc y.x.os z.x.os wx ly.1 (by rw [HL.out.1]; exact ly.1) (hy.o.1.below hb) (hz.o.1.below hb)).mono (by
    rintro e w' ⟨bv, rfl, hbv, hb2⟩
    have e : bv = true := hbv.2 HL.out.1.symm
    rw [e]
    exact ⟨rfl, hb2⟩ : ∀ (e : Ending) (w' : World), _ → (e = .returned (.bool true) ∧ Below wx.heap.size wx w')))
  have CR := Lib.hid (fun (wx : World) (hb : Below w.heap.size w wx) => (sameRp_iff y.rA z.rA y.rc z.rc y.x.rs z.x.rs wx ly.2.1 (by rw [HL.out.2.1]; exact ly.2.1) (hy.r.1.below hb) (hz.r.1.below hb)).mono (by
    rintro e w' ⟨bv, rfl, hbv, hb2⟩
    have e : bv = true := hbv.2 HL.out.2.1.symm
    rw [e]
    exact ⟨rfl, hb2⟩ : ∀ (e : Ending) (w' : World), _ → (e = .returned (.bool true) ∧ Below wx.heap.size wx w')))
  have CE := Lib.hid (fun (wx : World) (hb : Below w.heap.size w wx) => (sameEn_iff y.eA z.eA y.ec z.ec y.x.es z.x.es wx ly.2.2.1 (by rw [HL.out.2.2.1]; exact ly.2.2.1) (hy.e.1.below hb) (hz.e.1.below hb)).mono (by
    rintro e w' ⟨bv, rfl, hbv, hb2⟩
    have e : bv = true := hbv.2 HL.out.2.2.1.symm
    rw [e]
    exact ⟨rfl, hb2⟩ : ∀ (e : Ending) (w' : World), _ → (e = .returned (.bool true) ∧ Below wx.heap.size wx w')))
  have CG := Lib.hid (fun (wx : World) (hb : Below w.heap.size w wx) => (sameGf_iff y.gA z.gA y.gc z.gc y.x.gs z.x.gs wx ly.2.2.2 (by rw [HL.out.2.2.2]; exact ly.2.2.2) (hy.g.1.below hb) (hz.g.1.below hb)).mono (by
    rintro e w' ⟨bv, rfl, hbv, hb2⟩
    have e : bv = true := hbv.2 HL.out.2.2.2.symm
    rw [e]
    exact ⟨rfl, hb2⟩ : ∀ (e : Ending) (w' : World), _ → (e = .returned (.bool true) ∧ Below wx.heap.size wx w')))
  clear hy hz ly HL
  have hP : frE.In ((w.alloc (.cells #[.int .i64 y.x.a, .int .i64 y.x.b, .int .i64 y.x.boot, .int .i64 y.x.first, .slice y.oA y.x.os.length y.oc, .int .i64 y.x.pos, .slice y.rA y.x.rs.length y.rc, .int .i64 y.x.start, .slice y.eA y.x.es.length y.ec, .int .i64 y.x.ack, .int .i64 y.x.grant, .int .i64 y.x.s, .int .i64 y.x.t, .slice y.gA y.x.gs.length y.gc] 27)).alloc (.cells #[.int .i64 z.x.a, .int .i64 z.x.b, .int .i64 z.x.boot, .int .i64 z.x.first, .slice z.oA z.x.os.length z.oc, .int .i64 z.x.pos, .slice z.rA z.x.rs.length z.rc, .int .i64 z.x.start, .slice z.eA z.x.es.length z.ec, .int .i64 z.x.ack, .int .i64 z.x.grant, .int .i64 z.x.s, .int .i64 z.x.t, .slice z.gA z.x.gs.length z.gc] 27)) w.heap.size y := (El.In.new (E := frE) w y _ rfl).alloc _
  have hQ : frE.In ((w.alloc (.cells #[.int .i64 y.x.a, .int .i64 y.x.b, .int .i64 y.x.boot, .int .i64 y.x.first, .slice y.oA y.x.os.length y.oc, .int .i64 y.x.pos, .slice y.rA y.x.rs.length y.rc, .int .i64 y.x.start, .slice y.eA y.x.es.length y.ec, .int .i64 y.x.ack, .int .i64 y.x.grant, .int .i64 y.x.s, .int .i64 y.x.t, .slice y.gA y.x.gs.length y.gc] 27)).alloc (.cells #[.int .i64 z.x.a, .int .i64 z.x.b, .int .i64 z.x.boot, .int .i64 z.x.first, .slice z.oA z.x.os.length z.oc, .int .i64 z.x.pos, .slice z.rA z.x.rs.length z.rc, .int .i64 z.x.start, .slice z.eA z.x.es.length z.ec, .int .i64 z.x.ack, .int .i64 z.x.grant, .int .i64 z.x.s, .int .i64 z.x.t, .slice z.gA z.x.gs.length z.gc] 27)) (w.alloc (.cells #[.int .i64 y.x.a, .int .i64 y.x.b, .int .i64 y.x.boot, .int .i64 y.x.first, .slice y.oA y.x.os.length y.oc, .int .i64 y.x.pos, .slice y.rA y.x.rs.length y.rc, .int .i64 y.x.start, .slice y.eA y.x.es.length y.ec, .int .i64 y.x.ack, .int .i64 y.x.grant, .int .i64 y.x.s, .int .i64 y.x.t, .slice y.gA y.x.gs.length y.gc] 27)).heap.size z := El.In.new (E := frE) (w.alloc (.cells #[.int .i64 y.x.a, .int .i64 y.x.b, .int .i64 y.x.boot, .int .i64 y.x.first, .slice y.oA y.x.os.length y.oc, .int .i64 y.x.pos, .slice y.rA y.x.rs.length y.rc, .int .i64 y.x.start, .slice y.eA y.x.es.length y.ec, .int .i64 y.x.ack, .int .i64 y.x.grant, .int .i64 y.x.s, .int .i64 y.x.t, .slice y.gA y.x.gs.length y.gc] 27)) z _ rfl
  rw [alloc_size] at hQ
  have hB := below_alloc (below_alloc (Below.refl w.heap.size w) (.cells #[.int .i64 y.x.a, .int .i64 y.x.b, .int .i64 y.x.boot, .int .i64 y.x.first, .slice y.oA y.x.os.length y.oc, .int .i64 y.x.pos, .slice y.rA y.x.rs.length y.rc, .int .i64 y.x.start, .slice y.eA y.x.es.length y.ec, .int .i64 y.x.ack, .int .i64 y.x.grant, .int .i64 y.x.s, .int .i64 y.x.t, .slice y.gA y.x.gs.length y.gc] 27)) (.cells #[.int .i64 z.x.a, .int .i64 z.x.b, .int .i64 z.x.boot, .int .i64 z.x.first, .slice z.oA z.x.os.length z.oc, .int .i64 z.x.pos, .slice z.rA z.x.rs.length z.rc, .int .i64 z.x.start, .slice z.eA z.x.es.length z.ec, .int .i64 z.x.ack, .int .i64 z.x.grant, .int .i64 z.x.s, .int .i64 z.x.t, .slice z.gA z.x.gs.length z.gc] 27)
  go_enter Tryd.func20, Tryd.ntmps20
  go_upto_region 1 with fail
  generalize (w.alloc (.cells #[.int .i64 y.x.a, .int .i64 y.x.b, .int .i64 y.x.boot, .int .i64 y.x.first, .slice y.oA y.x.os.length y.oc, .int .i64 y.x.pos, .slice y.rA y.x.rs.length y.rc, .int .i64 y.x.start, .slice y.eA y.x.es.length y.ec, .int .i64 y.x.ack, .int .i64 y.x.grant, .int .i64 y.x.s, .int .i64 y.x.t, .slice y.gA y.x.gs.length y.gc] 27)).alloc (.cells #[.int .i64 z.x.a, .int .i64 z.x.b, .int .i64 z.x.boot, .int .i64 z.x.first, .slice z.oA z.x.os.length z.oc, .int .i64 z.x.pos, .slice z.rA z.x.rs.length z.rc, .int .i64 z.x.start, .slice z.eA z.x.es.length z.ec, .int .i64 z.x.ack, .int .i64 z.x.grant, .int .i64 z.x.s, .int .i64 z.x.t, .slice z.gA z.x.gs.length z.gc] 27) = W at *
  obtain ⟨n2, hn2⟩ : ∃ n, w.heap.size + 1 = n := ⟨_, rfl⟩
  obtain ⟨n1, hn1⟩ : ∃ n, w.heap.size = n := ⟨_, rfl⟩
  rw [hn2] at hQ ⊢
  rw [hn1] at hP ⊢
  clear hn1 hn2
  obtain ⟨p0, p1, p2, p3, p4, p5, p6, p7, p8, p9, p10, p11, p12, p13⟩ := frIn14 hP
  obtain ⟨q0, q1, q2, q3, q4, q5, q6, q7, q8, q9, q10, q11, q12, q13⟩ := frIn14 hQ
  go_wp2_with fail
  refine (CO.out _ hB).mono ?_
  rintro e v ⟨rfl, hb⟩
  replace hP := hP.below hb
  replace hQ := hQ.below hb
  replace hB := hB.trans (hb.mono hB.size)
  clear hb
  clear p0 p1 p2 p3 p4 p5 p6 p7 p8 p9 p10 p11 p12 p13 q0 q1 q2 q3 q4 q5 q6 q7 q8 q9 q10 q11 q12 q13
  obtain ⟨p0, p1, p2, p3, p4, p5, p6, p7, p8, p9, p10, p11, p12, p13⟩ := frIn14 hP
  obtain ⟨q0, q1, q2, q3, q4, q5, q6, q7, q8, q9, q10, q11, q12, q13⟩ := frIn14 hQ
  go_wp2_with fail
  refine (CR.out _ hB).mono ?_
  rintro e v ⟨rfl, hb⟩
  replace hP := hP.below hb
  replace hQ := hQ.below hb
  replace hB := hB.trans (hb.mono hB.size)
  clear hb
  clear p0 p1 p2 p3 p4 p5 p6 p7 p8 p9 p10 p11 p12 p13 q0 q1 q2 q3 q4 q5 q6 q7 q8 q9 q10 q11 q12 q13
  obtain ⟨p0, p1, p2, p3, p4, p5, p6, p7, p8, p9, p10, p11, p12, p13⟩ := frIn14 hP
  obtain ⟨q0, q1, q2, q3, q4, q5, q6, q7, q8, q9, q10, q11, q12, q13⟩ := frIn14 hQ
  go_wp2_with fail
  refine (CE.out _ hB).mono ?_
  rintro e v ⟨rfl, hb⟩
  replace hP := hP.below hb
  replace hQ := hQ.below hb
  replace hB := hB.trans (hb.mono hB.size)
  clear hb
  clear p0 p1 p2 p3 p4 p5 p6 p7 p8 p9 p10 p11 p12 p13 q0 q1 q2 q3 q4 q5 q6 q7 q8 q9 q10 q11 q12 q13
  obtain ⟨p0, p1, p2, p3, p4, p5, p6, p7, p8, p9, p10, p11, p12, p13⟩ := frIn14 hP
  obtain ⟨q0, q1, q2, q3, q4, q5, q6, q7, q8, q9, q10, q11, q12, q13⟩ := frIn14 hQ
  go_wp2_with fail
  refine (CG.out _ hB).mono ?_
  rintro e v ⟨rfl, hb⟩
  replace hP := hP.below hb
  replace hQ := hQ.below hb
  replace hB := hB.trans (hb.mono hB.size)
  clear hb
  clear p0 p1 p2 p3 p4 p5 p6 p7 p8 p9 p10 p11 p12 p13 q0 q1 q2 q3 q4 q5 q6 q7 q8 q9 q10 q11 q12 q13
  obtain ⟨p0, p1, p2, p3, p4, p5, p6, p7, p8, p9, p10, p11, p12, p13⟩ := frIn14 hP
  obtain ⟨q0, q1, q2, q3, q4, q5, q6, q7, q8, q9, q10, q11, q12, q13⟩ := frIn14 hQ
  go_wp2_with fail
  go_ret
  exact ⟨rfl, hB⟩
theorem refSameFr_eq (y z : Fw) (w : World) (hx : z.x = y.x) (hy : y.ok w) (hz : z.ok w) (ly : y.x.os.length ≤ 50000 ∧ y.x.rs.length ≤ 50000 ∧ y.x.es.length ≤ 50000 ∧ y.x.gs.length ≤ 50000) : Calls Tryd.prog 20 #[.agg #[.int .i64 y.x.a, .int .i64 y.x.b, .int .i64 y.x.boot, .int .i64 y.x.first, .slice y.oA y.x.os.length y.oc, .int .i64 y.x.pos, .slice y.rA y.x.rs.length y.rc, .int .i64 y.x.start, .slice y.eA y.x.es.length y.ec, .int .i64 y.x.ack, .int .i64 y.x.grant, .int .i64 y.x.s, .int .i64 y.x.t, .slice y.gA y.x.gs.length y.gc], .agg #[.int .i64 z.x.a, .int .i64 z.x.b, .int .i64 z.x.boot, .int .i64 z.x.first, .slice z.oA z.x.os.length z.oc, .int .i64 z.x.pos, .slice z.rA z.x.rs.length z.rc, .int .i64 z.x.start, .slice z.eA z.x.es.length z.ec, .int .i64 z.x.ack, .int .i64 z.x.grant, .int .i64 z.x.s, .int .i64 z.x.t, .slice z.gA z.x.gs.length z.gc]] w fun e w' => e = .returned (.bool true) ∧ Below w.heap.size w w' :=
  same15_eq y z w (by simp [hx]) (by simp [hx]) (by simp [hx]) (by simp [hx]) (by simp [hx]) (by simp [hx]) (by simp [hx]) (by simp [hx]) (by simp [hx]) (by simp [hx]) (Lib.hid ⟨by rw [hx], by rw [hx], by rw [hx], by rw [hx]⟩) hy hz ly
end Go.Proofs.YtndahomgglpdhaaDoor

/- Of law 15: awake, given the program's calls. -/
namespace Go.Proofs.YtndahomgglpdhaaDoor
open Go.RowKit Nam Cod

def R15 : Rp := ⟨1, 1, 0, 0, 1, 0, 0, 0, 0⟩
def G15 : Gf := ⟨2, 1, 0, 1, ⟨#[120]⟩⟩
def F15 : Fr := ⟨1, 0, 1, 1, 7, 1, 0, 0, 0, 0, [], [R15], [], [G15]⟩
theorem f15_B : frB F15 = true := by decide +kernel
theorem f15_R : FrR F15 := frB_iff.1 f15_B
theorem FrR.w {f : Fr} (h : FrR f) : FrW f where
  n := frL_i64 h
  os o ho := ⟨(opB_wide (h.os o ho)).1, Nat.le_trans (opB_wide (h.os o ho)).2.2.1 (by decide)⟩
  rs r hr := (rpB_iff.1 (h.rs r hr)).i64
  es e he := by
    have hb := h.es e he
    by_cases h1 : e.k = 1
    · obtain ⟨g1, g2, g3⟩ := entB_one hb h1
      exact ⟨⟨by unfold i64; omega, by unfold i64; omega, by unfold i64; omega, (opB_wide g3).1⟩, Nat.le_trans (opB_wide g3).2.2.1 (by decide)⟩
    · obtain ⟨g1, g2, g3⟩ := entB_two hb h1
      refine ⟨⟨by unfold i64; omega, by unfold i64; omega, by unfold i64; omega, ?_⟩, by rw [g3]; exact Nat.zero_le _⟩
      rw [g3]
      exact ⟨by unfold i64; decide, by unfold i64; decide, by unfold i64; decide, by unfold i64; decide, by unfold i64; decide, by unfold i64; decide⟩
  gs g hg := by
    have hb := h.gs g hg
    unfold gfB at hb
    rw [decide_eq_true_iff] at hb
    exact ⟨by unfold i64; omega, by unfold i64; omega, by unfold i64; omega, by unfold i64; omega, by omega⟩
  l := by have := h.e; omega
  z := Nat.le_trans (bodyF_le h) (by decide)
theorem f15_len : F15.os.length ≤ 50000 ∧ F15.rs.length ≤ 50000 ∧ F15.es.length ≤ 50000 ∧ F15.gs.length ≤ 50000 := by decide
theorem zero_frB : frB zeroFr = false := by decide +kernel
theorem zero_frW : FrW zeroFr where
  n n hn := by
    unfold frL zeroFr at hn
    simp only [List.mem_cons, List.not_mem_nil, or_false] at hn
    unfold i64
    rcases hn with rfl | rfl | rfl | rfl | rfl | rfl | rfl | rfl | rfl | rfl <;> omega
  os o ho := by cases ho
  rs o ho := by cases ho
  es o ho := by cases ho
  gs o ho := by cases ho
  l := by decide
  z := by decide +kernel
theorem Fw.zero_ok (w : World) : zeroFw.ok w := ⟨SlV.nil _ _, SlV.nil _ _, SlV.nil _ _, SlV.nil _ _⟩
theorem laid_belowK {w w1 : World} (h : Crk.Laid w) (k : Below w.heap.size w w1) : Crk.Laid w1 := Crk.laid_below h k
set_option maxRecDepth 100000 in
set_option maxHeartbeats 4000000 in
theorem awake15_any (H : FrameCalls) (w : World) (hL : Crk.Laid w) : Calls Tryd.prog 9 #[] w fun e w' => e = .returned (.bool true) ∧ Below w.heap.size w w' := by
  have hb1 := below_alloc (Below.refl w.heap.size w) (.cells #[.int .i64 1, .int .i64 1, .int .i64 0, .int .i64 0, .int .i64 1, .int .i64 0, .int .i64 0, .int .i64 0, .int .i64 0] 54)
  have hR : rpE.Sl (w.alloc (.cells #[.int .i64 1, .int .i64 1, .int .i64 0, .int .i64 0, .int .i64 1, .int .i64 0, .int .i64 0, .int .i64 0, .int .i64 0] 54)) (some ⟨w.heap.size, 0, none⟩) [R15] := (El.In.new (E := rpE) w R15 #[.int .i64 1, .int .i64 1, .int .i64 0, .int .i64 0, .int .i64 1, .int .i64 0, .int .i64 0, .int .i64 0, .int .i64 0] rfl).sl
  have hb2 := below_alloc (Below.refl (w.alloc (.cells #[.int .i64 1, .int .i64 1, .int .i64 0, .int .i64 0, .int .i64 1, .int .i64 0, .int .i64 0, .int .i64 0, .int .i64 0] 54)).heap.size (w.alloc (.cells #[.int .i64 1, .int .i64 1, .int .i64 0, .int .i64 0, .int .i64 1, .int .i64 0, .int .i64 0, .int .i64 0, .int .i64 0] 54))) (.cells #[.int .i64 2, .int .i64 1, .int .i64 0, .int .i64 1, .string ⟨#[120]⟩] 32)
  have hGs : gfE.Sl ((w.alloc (.cells #[.int .i64 1, .int .i64 1, .int .i64 0, .int .i64 0, .int .i64 1, .int .i64 0, .int .i64 0, .int .i64 0, .int .i64 0] 54)).alloc (.cells #[.int .i64 2, .int .i64 1, .int .i64 0, .int .i64 1, .string ⟨#[120]⟩] 32)) (some ⟨(w.alloc (.cells #[.int .i64 1, .int .i64 1, .int .i64 0, .int .i64 0, .int .i64 1, .int .i64 0, .int .i64 0, .int .i64 0, .int .i64 0] 54)).heap.size, 0, none⟩) [G15] := (El.In.new (E := gfE) (w.alloc (.cells #[.int .i64 1, .int .i64 1, .int .i64 0, .int .i64 0, .int .i64 1, .int .i64 0, .int .i64 0, .int .i64 0, .int .i64 0] 54)) G15 #[.int .i64 2, .int .i64 1, .int .i64 0, .int .i64 1, .string ⟨#[120]⟩] rfl).sl
  have hG : gfE.In ((w.alloc (.cells #[.int .i64 1, .int .i64 1, .int .i64 0, .int .i64 0, .int .i64 1, .int .i64 0, .int .i64 0, .int .i64 0, .int .i64 0] 54)).alloc (.cells #[.int .i64 2, .int .i64 1, .int .i64 0, .int .i64 1, .string ⟨#[120]⟩] 32)) (w.alloc (.cells #[.int .i64 1, .int .i64 1, .int .i64 0, .int .i64 0, .int .i64 1, .int .i64 0, .int .i64 0, .int .i64 0, .int .i64 0] 54)).heap.size G15 := El.In.new (E := gfE) (w.alloc (.cells #[.int .i64 1, .int .i64 1, .int .i64 0, .int .i64 0, .int .i64 1, .int .i64 0, .int .i64 0, .int .i64 0, .int .i64 0] 54)) G15 #[.int .i64 2, .int .i64 1, .int .i64 0, .int .i64 1, .string ⟨#[120]⟩] rfl
  rw [alloc_size] at hGs hG
  have hb3 := below_alloc (Below.refl ((w.alloc (.cells #[.int .i64 1, .int .i64 1, .int .i64 0, .int .i64 0, .int .i64 1, .int .i64 0, .int .i64 0, .int .i64 0, .int .i64 0] 54)).alloc (.cells #[.int .i64 2, .int .i64 1, .int .i64 0, .int .i64 1, .string ⟨#[120]⟩] 32)).heap.size ((w.alloc (.cells #[.int .i64 1, .int .i64 1, .int .i64 0, .int .i64 0, .int .i64 1, .int .i64 0, .int .i64 0, .int .i64 0, .int .i64 0] 54)).alloc (.cells #[.int .i64 2, .int .i64 1, .int .i64 0, .int .i64 1, .string ⟨#[120]⟩] 32))) (.cells #[.int .i64 1, .int .i64 0, .int .i64 1, .int .i64 1, .slice none 0 0, .int .i64 7, .slice (some ⟨w.heap.size, 0, none⟩) 1 1, .int .i64 1, .slice none 0 0, .int .i64 0, .int .i64 0, .int .i64 0, .int .i64 0, .slice (some ⟨w.heap.size + 1, 0, none⟩) 1 1] 27)
  have hP : frE.In (((w.alloc (.cells #[.int .i64 1, .int .i64 1, .int .i64 0, .int .i64 0, .int .i64 1, .int .i64 0, .int .i64 0, .int .i64 0, .int .i64 0] 54)).alloc (.cells #[.int .i64 2, .int .i64 1, .int .i64 0, .int .i64 1, .string ⟨#[120]⟩] 32)).alloc (.cells #[.int .i64 1, .int .i64 0, .int .i64 1, .int .i64 1, .slice none 0 0, .int .i64 7, .slice (some ⟨w.heap.size, 0, none⟩) 1 1, .int .i64 1, .slice none 0 0, .int .i64 0, .int .i64 0, .int .i64 0, .int .i64 0, .slice (some ⟨w.heap.size + 1, 0, none⟩) 1 1] 27)) ((w.alloc (.cells #[.int .i64 1, .int .i64 1, .int .i64 0, .int .i64 0, .int .i64 1, .int .i64 0, .int .i64 0, .int .i64 0, .int .i64 0] 54)).alloc (.cells #[.int .i64 2, .int .i64 1, .int .i64 0, .int .i64 1, .string ⟨#[120]⟩] 32)).heap.size ⟨none, 0, some ⟨w.heap.size, 0, none⟩, 1, none, 0, some ⟨w.heap.size + 1, 0, none⟩, 1, F15⟩ := El.In.new (E := frE) ((w.alloc (.cells #[.int .i64 1, .int .i64 1, .int .i64 0, .int .i64 0, .int .i64 1, .int .i64 0, .int .i64 0, .int .i64 0, .int .i64 0] 54)).alloc (.cells #[.int .i64 2, .int .i64 1, .int .i64 0, .int .i64 1, .string ⟨#[120]⟩] 32)) ⟨none, 0, some ⟨w.heap.size, 0, none⟩, 1, none, 0, some ⟨w.heap.size + 1, 0, none⟩, 1, F15⟩ #[.int .i64 1, .int .i64 0, .int .i64 1, .int .i64 1, .slice none 0 0, .int .i64 7, .slice (some ⟨w.heap.size, 0, none⟩) 1 1, .int .i64 1, .slice none 0 0, .int .i64 0, .int .i64 0, .int .i64 0, .int .i64 0, .slice (some ⟨w.heap.size + 1, 0, none⟩) 1 1] rfl
  rw [alloc_size, alloc_size] at hP
  have hok : Fw.ok ⟨none, 0, some ⟨w.heap.size, 0, none⟩, 1, none, 0, some ⟨w.heap.size + 1, 0, none⟩, 1, F15⟩ (((w.alloc (.cells #[.int .i64 1, .int .i64 1, .int .i64 0, .int .i64 0, .int .i64 1, .int .i64 0, .int .i64 0, .int .i64 0, .int .i64 0] 54)).alloc (.cells #[.int .i64 2, .int .i64 1, .int .i64 0, .int .i64 1, .string ⟨#[120]⟩] 32)).alloc (.cells #[.int .i64 1, .int .i64 0, .int .i64 1, .int .i64 1, .slice none 0 0, .int .i64 7, .slice (some ⟨w.heap.size, 0, none⟩) 1 1, .int .i64 1, .slice none 0 0, .int .i64 0, .int .i64 0, .int .i64 0, .int .i64 0, .slice (some ⟨w.heap.size + 1, 0, none⟩) 1 1] 27)) := ⟨SlV.nil _ _, ⟨(hR.below hb2).below hb3, (fun e => by cases e), Nat.le_refl _⟩, SlV.nil _ _, ⟨hGs.below hb3, (fun e => by cases e), Nat.le_refl _⟩⟩
  replace hG := hG.below hb3
  have hB := below_then (below_then hb1 hb2) hb3
  replace hL := laid_belowK hL hB
  have hgn : w.heap.size + 1 < (((w.alloc (.cells #[.int .i64 1, .int .i64 1, .int .i64 0, .int .i64 0, .int .i64 1, .int .i64 0, .int .i64 0, .int .i64 0, .int .i64 0] 54)).alloc (.cells #[.int .i64 2, .int .i64 1, .int .i64 0, .int .i64 1, .string ⟨#[120]⟩] 32)).alloc (.cells #[.int .i64 1, .int .i64 0, .int .i64 1, .int .i64 1, .slice none 0 0, .int .i64 7, .slice (some ⟨w.heap.size, 0, none⟩) 1 1, .int .i64 1, .slice none 0 0, .int .i64 0, .int .i64 0, .int .i64 0, .int .i64 0, .slice (some ⟨w.heap.size + 1, 0, none⟩) 1 1] 27)).heap.size := by rw [alloc_size, alloc_size, alloc_size]; omega
  have hn3 : w.heap.size + 1 + 1 < (((w.alloc (.cells #[.int .i64 1, .int .i64 1, .int .i64 0, .int .i64 0, .int .i64 1, .int .i64 0, .int .i64 0, .int .i64 0, .int .i64 0] 54)).alloc (.cells #[.int .i64 2, .int .i64 1, .int .i64 0, .int .i64 1, .string ⟨#[120]⟩] 32)).alloc (.cells #[.int .i64 1, .int .i64 0, .int .i64 1, .int .i64 1, .slice none 0 0, .int .i64 7, .slice (some ⟨w.heap.size, 0, none⟩) 1 1, .int .i64 1, .slice none 0 0, .int .i64 0, .int .i64 0, .int .i64 0, .int .i64 0, .slice (some ⟨w.heap.size + 1, 0, none⟩) 1 1] 27)).heap.size := by rw [alloc_size, alloc_size, alloc_size]; omega
  clear hb1 hb2 hb3 hR hGs
  go_enter Tryd.func9, Tryd.ntmps9
  go_upto_region 2 with fail
  generalize ((w.alloc (.cells #[.int .i64 1, .int .i64 1, .int .i64 0, .int .i64 0, .int .i64 1, .int .i64 0, .int .i64 0, .int .i64 0, .int .i64 0] 54)).alloc (.cells #[.int .i64 2, .int .i64 1, .int .i64 0, .int .i64 1, .string ⟨#[120]⟩] 32)).alloc (.cells #[.int .i64 1, .int .i64 0, .int .i64 1, .int .i64 1, .slice none 0 0, .int .i64 7, .slice (some ⟨w.heap.size, 0, none⟩) 1 1, .int .i64 1, .slice none 0 0, .int .i64 0, .int .i64 0, .int .i64 0, .int .i64 0, .slice (some ⟨w.heap.size + 1, 0, none⟩) 1 1] 27) = W1 at *
  obtain ⟨n3, h3⟩ : ∃ n, w.heap.size + 1 + 1 = n := ⟨_, rfl⟩
  obtain ⟨n2, h2⟩ : ∃ n, w.heap.size + 1 = n := ⟨_, rfl⟩
  obtain ⟨n1, h1⟩ : ∃ n, w.heap.size = n := ⟨_, rfl⟩
  have hwn : w.heap.size ≤ n3 := by omega
  have hwn1 : w.heap.size ≤ W1.heap.size := hB.size
  rw [h3] at hP hn3 ⊢
  rw [h2] at hP hok hG hgn ⊢
  rw [h1] at hP hok ⊢
  clear h1 h2 h3
  have HR := Lib.hid H.right
  have HRG := Lib.hid H.rightGift
  have HPR := Lib.hid H.print
  have HPA := Lib.hid H.parse
  have HSELF := Lib.hid (fparse_self f15_R)
  have HCUT := Lib.hid (fun k hk => fparse_cut (bodyF F15) k (by have := bodyF_le f15_R; omega) hk)
  have hbl := bodyF_le f15_R
  have hsz : (frBytes F15).size = 8 + (bodyF F15).size := Crk.seal_size _
  have HCUT2 := Lib.hid (show ∀ k, k < (frBytes F15).size → parseF ((frBytes F15).extract 0 k) = none from fun k hk => HCUT.out k (by omega))
  have hpos : 8 < (frBytes F15).size := by decide +kernel
  have hle : (frBytes F15).size ≤ 30000 := by omega
  have CP := Lib.hid (H.print ⟨none, 0, some ⟨n1, 0, none⟩, 1, none, 0, some ⟨n2, 0, none⟩, 1, F15⟩ W1 hL f15_R.w hok)
  clear H HCUT hbl hsz
  dsimp only at CP
  generalize frBytes F15 = BY at *
  go_wp2_with (first | (refine El.load frRow rfl _ rfl n3 0 rfl ⟨none, 0, some ⟨n1, 0, none⟩, 1, none, 0, some ⟨n2, 0, none⟩, 1, F15⟩ hP.at #[.int .i64 1, .int .i64 0, .int .i64 1, .int .i64 1, .slice none 0 0, .int .i64 7, .slice (some ⟨n1, 0, none⟩) 1 1, .int .i64 1, .slice none 0 0, .int .i64 0, .int .i64 0, .int .i64 0, .int .i64 0, .slice (some ⟨n2, 0, none⟩) 1 1] rfl ?_) | fail)
  refine CP.out.mono ?_
  rintro e w2 ⟨rfl, hb2⟩
  clear CP
  replace hP := hP.below hb2
  replace hok := hok.below hb2
  replace hG := hG.below hb2
  replace hgn := Nat.lt_of_lt_of_le hgn hb2.size
  replace hL := laid_belowK hL hb2
  replace hB := below_then hB hb2
  clear hb2
  go_wp2_with fail
  refine (HPA.out BY w2 hL (by omega)).mono ?_
  rintro e w3 ⟨y2, bv, rfl, hok2, hst, hb3⟩
  have hy2 : y2.x = F15 ∧ bv = true := by
    rcases hst with ⟨h, h2⟩ | ⟨h, _⟩
    · rw [HSELF.out] at h; exact ⟨(Option.some.inj h).symm, h2⟩
    · rw [HSELF.out] at h; cases h
  obtain ⟨hy2, rfl⟩ := hy2
  have HY2 := Lib.hid hy2
  clear hy2
  clear hst HSELF
  replace hP := hP.below hb3
  replace hok := hok.below hb3
  replace hG := hG.below hb3
  replace hgn := Nat.lt_of_lt_of_le hgn hb3.size
  replace hL := laid_belowK hL hb3
  replace hB := below_then hB hb3
  clear hb3
  have hQ : frE.In (w3.alloc (.cells #[.int .i64 y2.x.a, .int .i64 y2.x.b, .int .i64 y2.x.boot, .int .i64 y2.x.first, .slice y2.oA y2.x.os.length y2.oc, .int .i64 y2.x.pos, .slice y2.rA y2.x.rs.length y2.rc, .int .i64 y2.x.start, .slice y2.eA y2.x.es.length y2.ec, .int .i64 y2.x.ack, .int .i64 y2.x.grant, .int .i64 y2.x.s, .int .i64 y2.x.t, .slice y2.gA y2.x.gs.length y2.gc] 27)) w3.heap.size y2 := El.In.new (E := frE) w3 y2 _ rfl
  have hal := below_alloc (Below.refl w3.heap.size w3) (.cells #[.int .i64 y2.x.a, .int .i64 y2.x.b, .int .i64 y2.x.boot, .int .i64 y2.x.first, .slice y2.oA y2.x.os.length y2.oc, .int .i64 y2.x.pos, .slice y2.rA y2.x.rs.length y2.rc, .int .i64 y2.x.start, .slice y2.eA y2.x.es.length y2.ec, .int .i64 y2.x.ack, .int .i64 y2.x.grant, .int .i64 y2.x.s, .int .i64 y2.x.t, .slice y2.gA y2.x.gs.length y2.gc] 27)
  replace hP := hP.below hal
  replace hok := hok.below hal
  replace hG := hG.below hal
  replace hgn := Nat.lt_of_lt_of_le hgn hal.size
  replace hL := laid_belowK hL hal
  replace hB := below_then hB hal
  replace hok2 := hok2.below hal
  clear hal
  obtain ⟨m, hm⟩ : ∃ m, BY.size = m + 1 := ⟨BY.size - 1, by omega⟩
  have f1 : IntKind.i64.wrap ((BY.size : Int) - 1) = (m : Int) := by rw [IntKind.wrap_i64]; omega
  have f2 : max (0 : Int) (m : Int) = (m : Int) := by omega
  have g1 : (m : Int) ≤ (BY.size : Int) := by omega
  have hcut := HCUT2.out m (by omega)
  have hxs : (BY.extract 0 m).size ≤ 1000000 := by rw [ByteArray.size_extract]; omega
  have HXS := Lib.hid hxs
  have HC := Lib.hid hcut
  have h8 : decide ((8 : Int) < (BY.size : Int)) = true := decide_eq_true (by omega)
  have h9 : decide (8 < BY.size) = true := decide_eq_true hpos
  clear hcut hxs hm HCUT2
  go_wp2_with fail
  generalize w3.alloc (.cells #[.int .i64 y2.x.a, .int .i64 y2.x.b, .int .i64 y2.x.boot, .int .i64 y2.x.first, .slice y2.oA y2.x.os.length y2.oc, .int .i64 y2.x.pos, .slice y2.rA y2.x.rs.length y2.rc, .int .i64 y2.x.start, .slice y2.eA y2.x.es.length y2.ec, .int .i64 y2.x.ack, .int .i64 y2.x.grant, .int .i64 y2.x.s, .int .i64 y2.x.t, .slice y2.gA y2.x.gs.length y2.gc] 27) = w4 at *
  obtain ⟨n5, h5⟩ : ∃ n, w3.heap.size = n := ⟨_, rfl⟩
  rw [h5] at hQ ⊢
  clear h5
  refine (HPA.out (BY.extract 0 m) w4 hL HXS.out).mono ?_
  rintro e w5 ⟨y3, bv, rfl, hok3, hst, hb5⟩
  obtain ⟨hy3, rfl⟩ : y3.x = zeroFr ∧ bv = false := by
    rcases hst with ⟨h, _⟩ | ⟨_, h2⟩
    · rw [HC.out] at h; cases h
    · exact h2
  clear hst HC HXS
  replace hP := hP.below hb5
  replace hok := hok.below hb5
  replace hG := hG.below hb5
  replace hgn := Nat.lt_of_lt_of_le hgn hb5.size
  replace hL := laid_belowK hL hb5
  replace hB := below_then hB hb5
  replace hQ := hQ.below hb5
  replace hok2 := hok2.below hb5
  clear hb5 hok3 hy3
  have hal := below_alloc (Below.refl w5.heap.size w5) (.cells #[.int .i64 y3.x.a, .int .i64 y3.x.b, .int .i64 y3.x.boot, .int .i64 y3.x.first, .slice y3.oA y3.x.os.length y3.oc, .int .i64 y3.x.pos, .slice y3.rA y3.x.rs.length y3.rc, .int .i64 y3.x.start, .slice y3.eA y3.x.es.length y3.ec, .int .i64 y3.x.ack, .int .i64 y3.x.grant, .int .i64 y3.x.s, .int .i64 y3.x.t, .slice y3.gA y3.x.gs.length y3.gc] 27)
  replace hP := hP.below hal
  replace hok := hok.below hal
  replace hG := hG.below hal
  replace hgn := Nat.lt_of_lt_of_le hgn hal.size
  replace hL := laid_belowK hL hal
  replace hB := below_then hB hal
  replace hQ := hQ.below hal
  replace hok2 := hok2.below hal
  clear hal
  have CR := Lib.hid (fun (wx : World) (g : Fw.ok (⟨none, 0, some ⟨n1, 0, none⟩, 1, none, 0, some ⟨n2, 0, none⟩, 1, F15⟩ : Fw) wx) => (by
    have h := HR.out (⟨none, 0, some ⟨n1, 0, none⟩, 1, none, 0, some ⟨n2, 0, none⟩, 1, F15⟩ : Fw) wx f15_R.w g
    rw [show frB ((⟨none, 0, some ⟨n1, 0, none⟩, 1, none, 0, some ⟨n2, 0, none⟩, 1, F15⟩ : Fw)).x = true from f15_B] at h
    exact h : Calls Tryd.prog 14 #[.agg #[.int .i64 1, .int .i64 0, .int .i64 1, .int .i64 1, .slice none 0 0, .int .i64 7, .slice (some ⟨n1, 0, none⟩) 1 1, .int .i64 1, .slice none 0 0, .int .i64 0, .int .i64 0, .int .i64 0, .int .i64 0, .slice (some ⟨n2, 0, none⟩) 1 1]] wx fun e w' => e = .returned (.bool true) ∧ Below wx.heap.size wx w'))
  have CZ := Lib.hid (fun (wx : World) => (by
    have h := HR.out zeroFw wx zero_frW (Fw.zero_ok wx)
    rw [show frB zeroFw.x = false from zero_frB] at h
    exact h : Calls Tryd.prog 14 #[.agg #[.int .i64 0, .int .i64 0, .int .i64 0, .int .i64 0, .slice none 0 0, .int .i64 0, .slice none 0 0, .int .i64 0, .slice none 0 0, .int .i64 0, .int .i64 0, .int .i64 0, .int .i64 0, .slice none 0 0]] wx fun e w' => e = .returned (.bool false) ∧ Below wx.heap.size wx w'))
  have CG := Lib.hid (fun (wx : World) => (by
    have h := HRG.out G15 wx (by decide)
    rw [show gfB G15 = true by decide +kernel] at h
    exact h : Calls Tryd.prog 10 #[.agg #[.int .i64 2, .int .i64 1, .int .i64 0, .int .i64 1, .string ⟨#[120]⟩]] wx fun e w' => e = .returned (.bool true) ∧ Below wx.heap.size wx w'))
  have CS := Lib.hid (fun (wx : World) (g : Fw.ok (⟨none, 0, some ⟨n1, 0, none⟩, 1, none, 0, some ⟨n2, 0, none⟩, 1, F15⟩ : Fw) wx) (g2 : y2.ok wx) => (refSameFr_eq (⟨none, 0, some ⟨n1, 0, none⟩, 1, none, 0, some ⟨n2, 0, none⟩, 1, F15⟩ : Fw) y2 wx HY2.out g g2 f15_len : Calls Tryd.prog 20 #[.agg #[.int .i64 1, .int .i64 0, .int .i64 1, .int .i64 1, .slice none 0 0, .int .i64 7, .slice (some ⟨n1, 0, none⟩) 1 1, .int .i64 1, .slice none 0 0, .int .i64 0, .int .i64 0, .int .i64 0, .int .i64 0, .slice (some ⟨n2, 0, none⟩) 1 1], .agg #[.int .i64 y2.x.a, .int .i64 y2.x.b, .int .i64 y2.x.boot, .int .i64 y2.x.first, .slice y2.oA y2.x.os.length y2.oc, .int .i64 y2.x.pos, .slice y2.rA y2.x.rs.length y2.rc, .int .i64 y2.x.start, .slice y2.eA y2.x.es.length y2.ec, .int .i64 y2.x.ack, .int .i64 y2.x.grant, .int .i64 y2.x.s, .int .i64 y2.x.t, .slice y2.gA y2.x.gs.length y2.gc]] wx fun e w' => e = .returned (.bool true) ∧ Below wx.heap.size wx w'))
  clear HR HRG HPR HPA
  go_wp2_with (first | (refine El.load frRow rfl _ rfl n3 0 rfl (⟨none, 0, some ⟨n1, 0, none⟩, 1, none, 0, some ⟨n2, 0, none⟩, 1, F15⟩ : Fw) hP.at #[.int .i64 1, .int .i64 0, .int .i64 1, .int .i64 1, .slice none 0 0, .int .i64 7, .slice (some ⟨n1, 0, none⟩) 1 1, .int .i64 1, .slice none 0 0, .int .i64 0, .int .i64 0, .int .i64 0, .int .i64 0, .slice (some ⟨n2, 0, none⟩) 1 1] rfl ?_) | fail)
  refine (CR.out _ hok).mono ?_
  generalize w5.alloc (.cells #[.int .i64 y3.x.a, .int .i64 y3.x.b, .int .i64 y3.x.boot, .int .i64 y3.x.first, .slice y3.oA y3.x.os.length y3.oc, .int .i64 y3.x.pos, .slice y3.rA y3.x.rs.length y3.rc, .int .i64 y3.x.start, .slice y3.eA y3.x.es.length y3.ec, .int .i64 y3.x.ack, .int .i64 y3.x.grant, .int .i64 y3.x.s, .int .i64 y3.x.t, .slice y3.gA y3.x.gs.length y3.gc] 27) = w6 at *
  rintro e w7 ⟨rfl, hb7⟩
  replace hP := hP.below hb7
  replace hok := hok.below hb7
  replace hG := hG.below hb7
  replace hgn := Nat.lt_of_lt_of_le hgn hb7.size
  replace hL := laid_belowK hL hb7
  replace hB := below_then hB hb7
  replace hQ := hQ.below hb7
  replace hok2 := hok2.below hb7
  clear hb7 CR
  obtain ⟨p0, p1, p2, p3, p4, p5, p6, p7, p8, p9, p10, p11, p12, p13⟩ := frIn14 hP
  obtain ⟨q0, q1, q2, q3, q4, q5, q6, q7, q8, q9, q10, q11, q12, q13⟩ := frIn14 hQ
  go_wp2_with fail
  refine (CS.out _ hok hok2).mono ?_
  rintro e w8 ⟨rfl, hb8⟩
  replace hP := hP.below hb8
  replace hok := hok.below hb8
  replace hG := hG.below hb8
  replace hgn := Nat.lt_of_lt_of_le hgn hb8.size
  replace hL := laid_belowK hL hb8
  replace hB := below_then hB hb8
  replace hQ := hQ.below hb8
  replace hok2 := hok2.below hb8
  clear hb8 CS
  clear p0 p1 p2 p3 p4 p5 p6 p7 p8 p9 p10 p11 p12 p13 q0 q1 q2 q3 q4 q5 q6 q7 q8 q9 q10 q11 q12 q13
  clear hQ hok2
  go_wp2_with fail
  refine (CZ.out _).mono ?_
  rintro e w9 ⟨rfl, hb9⟩
  replace hP := hP.below hb9
  replace hok := hok.below hb9
  replace hG := hG.below hb9
  replace hgn := Nat.lt_of_lt_of_le hgn hb9.size
  replace hL := laid_belowK hL hb9
  replace hB := below_then hB hb9
  clear hb9 CZ
  have p13 := (frIn14 hP).2.2.2.2.2.2.2.2.2.2.2.2.2
  obtain ⟨g0, g1, g2, g3, g4⟩ := gfIn5 hG
  go_wp2_with fail
  refine (CG.out _).mono ?_
  rintro e w10 ⟨rfl, hb10⟩
  go_wp2_with fail
  go_ret
  exact ⟨rfl, below_then hB hb10⟩
end Go.Proofs.YtndahomgglpdhaaDoor

/- Entries and counts among the arguments, opened. -/
namespace Go.Proofs.YtndahomgglpdhaaDoor
open Go.ChangeShapes Go.WideShapes Go.ChangeAt Go.RowKit Go.Deep Nam Cod

theorem cellsEn : Tryd.prog.cellsOf 52 = 10 := by kernel_rfl
set_option maxRecDepth 100000 in
theorem read_en {H : Type} {enc : TypeId × Value → H} {W : World} {base : Nat} {sp : Nat → Bool} {held : Bool} {fuel : Nat} {cs : List Value} {x : DataW H × List MemPlace}
    (h : DataW.trod enc Tryd.prog W base sp held fuel 52 cs = some x) : ∃ e : En, cs = enE.c e ∧ EnW e ∧ e.o.s.size ≤ maxLen := by
  obtain ⟨xs, n, _, _, hl, hlen, hf⟩ := DataW.trod_struct Tryd.underlying52 h
  have hl10 : cs.length = 10 := hl.trans cellsEn
  have hl4 : xs.length = 4 := hlen
  match cs, hl10, xs, hl4 with
  | [c0, c1, c2, c3, c4, c5, c6, c7, c8, c9], _, [y0, y1, y2, y3], _ =>
    have h0 := hf 0 _ rfl
    have h1 := hf 1 _ rfl
    have h2 := hf 2 _ rfl
    have h3 := hf 3 _ rfl
    simp [cells25, cells3] at h0 h1 h2 h3
    obtain ⟨k, e0, _, w0⟩ := DataW.trod_int Tryd.underlying3 h0
    obtain ⟨d, e1, _, w1⟩ := DataW.trod_int Tryd.underlying3 h1
    obtain ⟨i, e2, _, w2⟩ := DataW.trod_int Tryd.underlying3 h2
    obtain ⟨C, D, I, M, K, U, s, e3, w3, ws⟩ := read_op h3
    simp at e0 e1 e2 e3
    obtain ⟨e3, e4, e5, e6, e7, e8, e9⟩ := e3
    subst e0 e1 e2 e3 e4 e5 e6 e7 e8 e9
    have b0 := bounds_i64 w0
    have b1 := bounds_i64 w1
    have b2 := bounds_i64 w2
    have g0 : i64 k := by unfold i64; omega
    have g1 : i64 d := by unfold i64; omega
    have g2 : i64 i := by unfold i64; omega
    exact ⟨⟨k, d, i, ⟨C, D, I, M, K, U, s⟩⟩, rfl, ⟨g0, g1, g2, w3⟩, ws⟩
set_option maxRecDepth 100000 in
theorem open_en {H : Type} {enc : TypeId × Value → H} {W : World} {base : Nat} {sp : Nat → Bool} {v : Value} {d : DataW H} {ps : List MemPlace}
    (hv : Value.okWide Tryd.prog W .any base 52 v) (h : DataW.Trod enc Tryd.prog W 0 sp true 52 v d ps) : ∃ e : En, v = .agg #[.int .i64 e.k, .int .i64 e.d, .int .i64 e.i, .int .i64 e.o.C, .int .i64 e.o.D, .int .i64 e.o.I, .int .i64 e.o.M, .int .i64 e.o.K, .int .i64 e.o.U, .string e.o.s] ∧ EnW e ∧ e.o.s.size ≤ maxLen := by
  obtain ⟨cs, rfl, _⟩ := okWide_struct Tryd.underlying52 hv
  obtain ⟨fuel, hf⟩ := h
  obtain ⟨e, he, hw, hs⟩ := read_en hf
  refine ⟨e, ?_, hw, hs⟩
  obtain ⟨l⟩ := cs
  simp [Value.cells] at he
  rw [he]
  rfl
instance : Inhabited En := ⟨zeroEn⟩
instance : Inhabited Cn := ⟨zeroCn⟩
set_option maxRecDepth 100000 in
theorem open_ens {H : Type} {enc : TypeId × Value → H} {W : World} {base : Nat} {v : Value} {d : DataW H} {ps : List MemPlace}
    (hv : Value.okWide Tryd.prog W .any base 24 v) (h : DataW.Trod enc Tryd.prog W 0 (fun _ => true) true 24 v d ps) :
    ∃ (A : Option Addr) (cap : Nat) (l : List En), v = .slice A l.length cap ∧ enE.Sl W A l ∧ l.length ≤ cap ∧ (A = none → cap = 0) ∧ ∀ e ∈ l, EnW e ∧ e.o.s.size ≤ maxLen :=
  open_list enE (fun e => EnW e ∧ e.o.s.size ≤ maxLen) Tryd.underlying24 cellsEn (fun h => read_en h) hv h
end Go.Proofs.YtndahomgglpdhaaDoor

/- Of law 15: what the listed table gives, and the start that meets the condition; gifts and frames among the arguments. -/
namespace Go.Proofs.YtndahomgglpdhaaDoor
open Go.ChangeShapes Go.WideShapes Go.ChangeAt Go.RowKit Go.Deep Nam Cod

theorem gMix : Tryd.prog.globalNamed "bargeman/crc.mixes" = some 0 := by kernel_rfl
theorem tMix : (Tryd.prog.globals[0]?).map (·.type) = some 124 := by kernel_rfl
theorem cU32 : Tryd.prog.cellsOf 109 = 1 := by kernel_rfl

abbrev laid1 {H : Type} : List (String × DataW H) := [("bargeman/crc.mixes", Rows.laid_bargeman_crc_mixes)]

/-- The datum's parts, one by one. -/
def partsN : List Nat := [0, 498536548, 997073096, 651767980, 1994146192, 1802195444, 1303535960, 1342533948, 3988292384, 4027552580, 3604390888, 3412177804, 2607071920, 2262029012, 2685067896, 3183342108]
theorem datum_parts {H : Type} : (Rows.laid_bargeman_crc_mixes : DataW H) = .agg (partsN.map fun n : Nat => .lit (.int .u32 (n : Int))) := rfl
theorem parts_tab : ∀ k : Nat, k < 16 → partsN[k]? = some (Crc.tab k).toNat := by decide +kernel

theorem door_met (os : Os) (args : Array Value) : laidMetH Tryd.prog laid1 ((World.doorLaid Tryd.prog 14 os).forCall (fun _ _ => 0) ⟨#[], args, []⟩).memory :=
  laidMetH_of_parts3 (fuel := 8) (laidMet_of_run' 8 (by kernel_rfl) (by kernel_rfl)) (by kernel_rfl) (by kernel_rfl)

theorem of_laid {W : World} (h : laidMetH Tryd.prog laid1 W) : Crk.Laid W := by
  rw [MakeChecks.laidMetH_plain _ _ _ (by kernel_rfl)] at h
  obtain ⟨ps, ⟨g, t, cs, f, p, q, hg, ht, hv, hd, _, _⟩, _, _⟩ := h
  obtain rfl := Option.some.inj (gMix.symm.trans hg)
  obtain rfl := Option.some.inj (tMix.symm.trans ht)
  obtain ⟨xs, m, rfl, ex, hlen, hn, hel⟩ := DataW.trod_array Tryd.underlying124 hd
  rw [datum_parts] at ex
  have hx : partsN.map (fun n : Nat => (DataW.lit (.int .u32 (n : Int)) : DataW Unit)) = xs.map (·.1) := by
    have := congrArg Prod.fst ex
    simpa using this
  have hcell : ∀ k : Nat, k < 16 → W.cell? ⟨0, k, none⟩ = some (.int .u32 (Crc.tab k).toNat) := by
    intro k hk
    have h1 := hel k hk
    rw [cU32, Nat.mul_one] at h1
    obtain ⟨x, hxk⟩ : ∃ x, xs[k]? = some x := ⟨_, List.getElem?_eq_getElem (by omega)⟩
    rw [hxk] at h1
    obtain ⟨n, e1, e2, _⟩ := DataW.trod_int Tryd.underlying109 h1
    have h2 := congrArg (·[k]?) hx
    simp only [List.getElem?_map, hxk, parts_tab k hk, Option.map_some] at h2
    rw [e2] at h2
    have h3 : ((Crc.tab k).toNat : Int) = n := by simpa using h2
    have h4 : cs[k]? = some (.int .u32 n) := by
      have h5 := congrArg (·[0]?) e1
      rw [← Array.getElem?_toList]
      simpa using h5
    have h6 := World.var?_cell hg hv k
    rw [h6, h4, h3]
  exact ⟨block_lt_of_cell (hcell 0 (by decide)), hcell⟩


theorem cellsGf : Tryd.prog.cellsOf 32 = 5 := by kernel_rfl
set_option maxRecDepth 100000 in
theorem read_gf {H : Type} {enc : TypeId × Value → H} {W : World} {base : Nat} {sp : Nat → Bool} {held : Bool} {fuel : Nat} {cs : List Value} {x : DataW H × List MemPlace}
    (h : DataW.trod enc Tryd.prog W base sp held fuel 32 cs = some x) : ∃ g : Gf, cs = gfE.c g ∧ (i64 g.d ∧ i64 g.i ∧ i64 g.c ∧ i64 g.t) ∧ g.s.size ≤ maxLen := by
  obtain ⟨xs, n, _, _, hl, hlen, hf⟩ := DataW.trod_struct Tryd.underlying32 h
  have hl9 : cs.length = 5 := hl.trans cellsGf
  have hl4 : xs.length = 5 := hlen
  match cs, hl9, xs, hl4 with
  | [c0, c1, c2, c3, c4], _, [y0, y1, y2, y3, y4], _ =>
    have h0 := hf 0 _ rfl
    have h1 := hf 1 _ rfl
    have h2 := hf 2 _ rfl
    have h3 := hf 3 _ rfl
    have h4 := hf 4 _ rfl
    simp [cells3, cells9] at h0 h1 h2 h3 h4
    obtain ⟨n0, e0, _, w0⟩ := DataW.trod_int Tryd.underlying3 h0
    obtain ⟨n1, e1, _, w1⟩ := DataW.trod_int Tryd.underlying3 h1
    obtain ⟨n2, e2, _, w2⟩ := DataW.trod_int Tryd.underlying3 h2
    obtain ⟨n3, e3, _, w3⟩ := DataW.trod_int Tryd.underlying3 h3
    obtain ⟨s, e4, _, ws⟩ := DataW.trod_string Tryd.underlying9 h4
    simp at e0 e1 e2 e3 e4
    subst e0 e1 e2 e3 e4
    have b0 := bounds_i64 w0
    have b1 := bounds_i64 w1
    have b2 := bounds_i64 w2
    have b3 := bounds_i64 w3
    exact ⟨⟨n0, n1, n2, n3, s⟩, rfl, ⟨by unfold i64; omega, by unfold i64; omega, by unfold i64; omega, by unfold i64; omega⟩, ws⟩
set_option maxRecDepth 100000 in
theorem open_gf {H : Type} {enc : TypeId × Value → H} {W : World} {base : Nat} {sp : Nat → Bool} {v : Value} {d : DataW H} {ps : List MemPlace}
    (hv : Value.okWide Tryd.prog W .any base 32 v) (h : DataW.Trod enc Tryd.prog W 0 sp true 32 v d ps) : ∃ g : Gf, v = .agg #[.int .i64 g.d, .int .i64 g.i, .int .i64 g.c, .int .i64 g.t, .string g.s] ∧ (i64 g.d ∧ i64 g.i ∧ i64 g.c ∧ i64 g.t) ∧ g.s.size ≤ maxLen := by
  obtain ⟨cs, rfl, _⟩ := okWide_struct Tryd.underlying32 hv
  obtain ⟨fuel, hf⟩ := h
  obtain ⟨e, he, hw, hs⟩ := read_gf hf
  refine ⟨e, ?_, hw, hs⟩
  obtain ⟨l⟩ := cs
  simp [Value.cells] at he
  rw [he]
  rfl
end Go.Proofs.YtndahomgglpdhaaDoor

/- The document's Merge of reports. -/
namespace Go.Proofs.YtndahomgglpdhaaDoor
open Go.RowKit Cod

theorem cutR_next {l : List Rp} {d : Int} {k : Nat} (hk : k ≤ cutR l d) (h : k < l.length) (hd : l[k].d < d) : k + 1 ≤ cutR l d := by
  rcases Nat.lt_or_ge k (cutR l d) with h1 | h1
  · exact h1
  · obtain rfl : k = cutR l d := by omega
    exact absurd hd (cutR_at l d h)
theorem cutR_here {l : List Rp} {d : Int} {k : Nat} (hk : k ≤ cutR l d) (h : k = l.length ∨ ∃ h : k < l.length, d ≤ l[k].d) : k = cutR l d := by
  rcases Nat.lt_or_ge k (cutR l d) with h1 | h1
  · rcases h with h | ⟨h, h2⟩
    · have := cutR_le l d; omega
    · have := cutR_lt l d k h h1; omega
  · omega
def RpS (n : Nat) (r : Rp) (w : World) : Prop := w.cell? ⟨n, 0, none⟩ = some (.int .i64 r.d) ∧ w.cell? ⟨n, 1, none⟩ = some (.int .i64 r.i) ∧ w.cell? ⟨n, 2, none⟩ = some (.int .i64 r.b) ∧ w.cell? ⟨n, 3, none⟩ = some (.int .i64 r.t) ∧ w.cell? ⟨n, 4, none⟩ = some (.int .i64 r.m) ∧ w.cell? ⟨n, 5, none⟩ = some (.int .i64 r.p) ∧ w.cell? ⟨n, 6, none⟩ = some (.int .i64 r.c) ∧ w.cell? ⟨n, 7, none⟩ = some (.int .i64 r.s) ∧ w.cell? ⟨n, 8, none⟩ = some (.int .i64 r.k)

end Go.Proofs.YtndahomgglpdhaaDoor

/- Of law 14: awake, given the program's calls. -/
namespace Go.Proofs.YtndahomgglpdhaaDoor
open Go.RowKit Cod

def Ra : Rp := ⟨2, 1, 3, 9, 1, 0, 0, 0, 0⟩
def Rb : Rp := ⟨2, 2, 1, 1, 2, 0, 0, 0, 0⟩
def Rx : Rp := ⟨1, 1, 0, 0, 1, 0, 0, 0, 0⟩
def Ry : Rp := ⟨0, 1, 0, 0, 0, 0, 0, 0, 0⟩
theorem ra_cells {w : World} {n : Nat} (h : rpE.In w n Ra) : (w.cell? ⟨n, 0, none⟩ = some (.int .i64 2) ∧ w.cell? ⟨n, 1, none⟩ = some (.int .i64 1) ∧ w.cell? ⟨n, 2, none⟩ = some (.int .i64 3) ∧ w.cell? ⟨n, 3, none⟩ = some (.int .i64 9) ∧ w.cell? ⟨n, 4, none⟩ = some (.int .i64 1) ∧ w.cell? ⟨n, 5, none⟩ = some (.int .i64 0) ∧ w.cell? ⟨n, 6, none⟩ = some (.int .i64 0) ∧ w.cell? ⟨n, 7, none⟩ = some (.int .i64 0) ∧ w.cell? ⟨n, 8, none⟩ = some (.int .i64 0)) := rpIn9 h
theorem rb_cells {w : World} {n : Nat} (h : rpE.In w n Rb) : (w.cell? ⟨n, 0, none⟩ = some (.int .i64 2) ∧ w.cell? ⟨n, 1, none⟩ = some (.int .i64 2) ∧ w.cell? ⟨n, 2, none⟩ = some (.int .i64 1) ∧ w.cell? ⟨n, 3, none⟩ = some (.int .i64 1) ∧ w.cell? ⟨n, 4, none⟩ = some (.int .i64 2) ∧ w.cell? ⟨n, 5, none⟩ = some (.int .i64 0) ∧ w.cell? ⟨n, 6, none⟩ = some (.int .i64 0) ∧ w.cell? ⟨n, 7, none⟩ = some (.int .i64 0) ∧ w.cell? ⟨n, 8, none⟩ = some (.int .i64 0)) := rpIn9 h
theorem x0_cell {w : World} {b o : Nat} (h : rpE.At w b o Rx) : w.cell? ⟨b, o, none⟩ = some (.int .i64 1) := (rpAt9 h).1
theorem x1_cell {w : World} {b o : Nat} (h : rpE.At w b (o + 9) Rb) : w.cell? ⟨b, o + 9 + 1, none⟩ = some (.int .i64 2) := (rpAt9 h).2.1
theorem ra_R : RpR Ra := rpB_iff.1 rfl
theorem ra_W : RpW Ra := ra_R.i64
theorem m1_eq : mergeR [] Ra = [Ra] := rfl
theorem m2_eq : mergeR [Ra] Rx = [Rx, Ra] := rfl
theorem m3_eq : mergeR [Rx, Ra] Rb = [Rx, Rb] := rfl
end Go.Proofs.YtndahomgglpdhaaDoor

/- Reports among the arguments, opened. -/
namespace Go.Proofs.YtndahomgglpdhaaDoor
open Go.ChangeShapes Go.WideShapes Go.ChangeAt Go.RowKit Go.Deep Cod

theorem cellsRp : Tryd.prog.cellsOf 54 = 9 := by kernel_rfl
set_option maxRecDepth 100000 in
theorem read_rp {H : Type} {enc : TypeId × Value → H} {W : World} {base : Nat} {sp : Nat → Bool} {held : Bool} {fuel : Nat} {cs : List Value} {x : DataW H × List MemPlace}
    (h : DataW.trod enc Tryd.prog W base sp held fuel 54 cs = some x) : ∃ r : Rp, cs = rpE.c r ∧ RpW r := by
  obtain ⟨xs, n, _, _, hl, hlen, hf⟩ := DataW.trod_struct Tryd.underlying54 h
  have hl9 : cs.length = 9 := hl.trans cellsRp
  have hl4 : xs.length = 9 := hlen
  match cs, hl9, xs, hl4 with
  | [c0, c1, c2, c3, c4, c5, c6, c7, c8], _, [y0, y1, y2, y3, y4, y5, y6, y7, y8], _ =>
    have h0 := hf 0 _ rfl
    have h1 := hf 1 _ rfl
    have h2 := hf 2 _ rfl
    have h3 := hf 3 _ rfl
    have h4 := hf 4 _ rfl
    have h5 := hf 5 _ rfl
    have h6 := hf 6 _ rfl
    have h7 := hf 7 _ rfl
    have h8 := hf 8 _ rfl
    simp [cells3] at h0 h1 h2 h3 h4 h5 h6 h7 h8
    obtain ⟨n0, e0, _, w0⟩ := DataW.trod_int Tryd.underlying3 h0
    obtain ⟨n1, e1, _, w1⟩ := DataW.trod_int Tryd.underlying3 h1
    obtain ⟨n2, e2, _, w2⟩ := DataW.trod_int Tryd.underlying3 h2
    obtain ⟨n3, e3, _, w3⟩ := DataW.trod_int Tryd.underlying3 h3
    obtain ⟨n4, e4, _, w4⟩ := DataW.trod_int Tryd.underlying3 h4
    obtain ⟨n5, e5, _, w5⟩ := DataW.trod_int Tryd.underlying3 h5
    obtain ⟨n6, e6, _, w6⟩ := DataW.trod_int Tryd.underlying3 h6
    obtain ⟨n7, e7, _, w7⟩ := DataW.trod_int Tryd.underlying3 h7
    obtain ⟨n8, e8, _, w8⟩ := DataW.trod_int Tryd.underlying3 h8
    simp at e0 e1 e2 e3 e4 e5 e6 e7 e8
    subst e0 e1 e2 e3 e4 e5 e6 e7 e8
    have b0 := bounds_i64 w0
    have b1 := bounds_i64 w1
    have b2 := bounds_i64 w2
    have b3 := bounds_i64 w3
    have b4 := bounds_i64 w4
    have b5 := bounds_i64 w5
    have b6 := bounds_i64 w6
    have b7 := bounds_i64 w7
    have b8 := bounds_i64 w8
    refine ⟨⟨n0, n1, n2, n3, n4, n5, n6, n7, n8⟩, rfl, fun n hn => ?_⟩
    simp only [rpL, List.mem_cons, List.not_mem_nil, or_false] at hn
    unfold i64
    rcases hn with rfl | rfl | rfl | rfl | rfl | rfl | rfl | rfl | rfl <;> omega
set_option maxRecDepth 100000 in
theorem open_rp {H : Type} {enc : TypeId × Value → H} {W : World} {base : Nat} {sp : Nat → Bool} {v : Value} {d : DataW H} {ps : List MemPlace}
    (hv : Value.okWide Tryd.prog W .any base 54 v) (h : DataW.Trod enc Tryd.prog W 0 sp true 54 v d ps) : ∃ r : Rp, v = .agg #[.int .i64 r.d, .int .i64 r.i, .int .i64 r.b, .int .i64 r.t, .int .i64 r.m, .int .i64 r.p, .int .i64 r.c, .int .i64 r.s, .int .i64 r.k] ∧ RpW r := by
  obtain ⟨cs, rfl, _⟩ := okWide_struct Tryd.underlying54 hv
  obtain ⟨fuel, hf⟩ := h
  obtain ⟨e, he, hw⟩ := read_rp hf
  refine ⟨e, ?_, hw⟩
  obtain ⟨l⟩ := cs
  simp [Value.cells] at he
  rw [he]
  rfl
instance : Inhabited Rp := ⟨zeroRp⟩
set_option maxRecDepth 100000 in
theorem open_rps {H : Type} {enc : TypeId × Value → H} {W : World} {base : Nat} {v : Value} {d : DataW H} {ps : List MemPlace}
    (hv : Value.okWide Tryd.prog W .any base 23 v) (h : DataW.Trod enc Tryd.prog W 0 (fun _ => true) true 23 v d ps) :
    ∃ (A : Option Addr) (cap : Nat) (l : List Rp), v = .slice A l.length cap ∧ rpE.Sl W A l ∧ l.length ≤ cap ∧ (A = none → cap = 0) ∧ ∀ r ∈ l, RpW r :=
  open_list rpE RpW Tryd.underlying23 cellsRp (fun h => read_rp h) hv h
end Go.Proofs.YtndahomgglpdhaaDoor

/- A frame among the arguments, opened; its lists have no more than a machine has room for. -/
namespace Go.Proofs.YtndahomgglpdhaaDoor
open Go.ChangeShapes Go.WideShapes Go.ChangeAt Go.RowKit Go.Deep Nam Cod

instance : Inhabited Gf := ⟨zeroGf⟩
theorem cellsFr : Tryd.prog.cellsOf 27 = 14 := by kernel_rfl
theorem cellsOpsF : Tryd.prog.cellsOf 22 = 1 := by kernel_rfl
theorem cellsRpsF : Tryd.prog.cellsOf 23 = 1 := by kernel_rfl
theorem cellsEnsF : Tryd.prog.cellsOf 24 = 1 := by kernel_rfl
theorem cellsGfsF : Tryd.prog.cellsOf 25 = 1 := by kernel_rfl
theorem slice_len {st e : TypeId} (hu : Tryd.prog.underlying st = some (.slice e)) (hb : 0 < Tryd.prog.bytesOf e) {H : Type} {enc : TypeId × Value → H} {W : World} {fuel : Nat} {A : Option Addr} {n c : Nat} {x : DataW H × List MemPlace}
    (h : DataW.trod enc Tryd.prog W 0 (fun _ => true) true fuel st [.slice A n c] = some x) (hw : (x.1.weights Tryd.prog st).all (· ≤ reachBytes) = true) : n ≤ reachBytes := by
  rcases DataW.trod_slice hu h with ⟨e1, _⟩ | ⟨a, len, cap, elems, rest, m, _, e1, e2, _, _, _, hlen, _⟩
  · simp at e1; rw [e1.2.1]; exact Nat.zero_le _
  · simp at e1
    obtain ⟨_, rfl, _⟩ := e1
    rw [e2] at hw
    simp only [DataW.weights, hu, List.all_cons, Bool.and_eq_true, decide_eq_true_iff, List.length_map] at hw
    have h1 := hw.1
    have h2 : elems.length * 1 ≤ (elems.length + rest.length) * Tryd.prog.bytesOf e := Nat.mul_le_mul (by omega) hb
    omega
structure FrN (x : Fr) : Prop where
  n : ∀ n ∈ frL x, i64 n
  os : ∀ o ∈ x.os, Wide o.C o.D o.I o.M o.K o.U ∧ o.s.size ≤ maxLen
  rs : ∀ r ∈ x.rs, RpW r
  es : ∀ e ∈ x.es, EnW e ∧ e.o.s.size ≤ maxLen
  gs : ∀ g ∈ x.gs, (i64 g.d ∧ i64 g.i ∧ i64 g.c ∧ i64 g.t) ∧ g.s.size ≤ maxLen
def FrLen (x : Fr) : Prop := x.os.length ≤ reachBytes ∧ x.rs.length ≤ reachBytes ∧ x.es.length ≤ reachBytes ∧ x.gs.length ≤ reachBytes
set_option maxRecDepth 100000 in
set_option maxHeartbeats 2000000 in
theorem read_fr {H : Type} {enc : TypeId × Value → H} {W : World} {fuel : Nat} {cs : List Value} {x : DataW H × List MemPlace}
    (h : DataW.trod enc Tryd.prog W 0 (fun _ => true) true fuel 27 cs = some x) (hw : (x.1.weights Tryd.prog 27).all (· ≤ reachBytes) = true) : ∃ y : Fw, cs = frE.c y ∧ y.ok W ∧ FrN y.x ∧ FrLen y.x := by
  obtain ⟨xs, n, _, hx, hl, hlen, hf⟩ := DataW.trod_struct Tryd.underlying27 h
  have hl14 : cs.length = 14 := hl.trans cellsFr
  have hl4 : xs.length = 14 := hlen
  match cs, hl14, xs, hl4 with
  | [c0, c1, c2, c3, c4, c5, c6, c7, c8, c9, c10, c11, c12, c13], _, [y0, y1, y2, y3, y4, y5, y6, y7, y8, y9, y10, y11, y12, y13], _ =>
    have h0 := hf 0 _ rfl
    have h1 := hf 1 _ rfl
    have h2 := hf 2 _ rfl
    have h3 := hf 3 _ rfl
    have h4 := hf 4 _ rfl
    have h5 := hf 5 _ rfl
    have h6 := hf 6 _ rfl
    have h7 := hf 7 _ rfl
    have h8 := hf 8 _ rfl
    have h9 := hf 9 _ rfl
    have h10 := hf 10 _ rfl
    have h11 := hf 11 _ rfl
    have h12 := hf 12 _ rfl
    have h13 := hf 13 _ rfl
    simp [cells3, cellsOpsF, cellsRpsF, cellsEnsF, cellsGfsF] at h0 h1 h2 h3 h4 h5 h6 h7 h8 h9 h10 h11 h12 h13
    obtain ⟨n0, e0, _, w0⟩ := DataW.trod_int Tryd.underlying3 h0
    obtain ⟨n1, e1, _, w1⟩ := DataW.trod_int Tryd.underlying3 h1
    obtain ⟨n2, e2, _, w2⟩ := DataW.trod_int Tryd.underlying3 h2
    obtain ⟨n3, e3, _, w3⟩ := DataW.trod_int Tryd.underlying3 h3
    obtain ⟨n5, e5, _, w5⟩ := DataW.trod_int Tryd.underlying3 h5
    obtain ⟨n7, e7, _, w7⟩ := DataW.trod_int Tryd.underlying3 h7
    obtain ⟨n9, e9, _, w9⟩ := DataW.trod_int Tryd.underlying3 h9
    obtain ⟨n10, e10, _, w10⟩ := DataW.trod_int Tryd.underlying3 h10
    obtain ⟨n11, e11, _, w11⟩ := DataW.trod_int Tryd.underlying3 h11
    obtain ⟨n12, e12, _, w12⟩ := DataW.trod_int Tryd.underlying3 h12
    obtain ⟨oA, oc, os, e4, v4, q4⟩ := open_cells opE (fun o => Wide o.C o.D o.I o.M o.K o.U ∧ o.s.size ≤ maxLen) Tryd.underlying22 cells25 (fun h => by
      obtain ⟨C, D, I, M, K, U, t, rfl, hw, ht⟩ := read_op h
      exact ⟨⟨C, D, I, M, K, U, t⟩, rfl, hw, ht⟩) h4
    obtain ⟨rA, rc, rs, e6, v6, q6⟩ := open_cells rpE RpW Tryd.underlying23 cellsRp (fun h => read_rp h) h6
    obtain ⟨eA, ec, es, e8, v8, q8⟩ := open_cells enE (fun e => EnW e ∧ e.o.s.size ≤ maxLen) Tryd.underlying24 cellsEn (fun h => read_en h) h8
    obtain ⟨gA, gc, gs, e13, v13, q13⟩ := open_cells gfE (fun g => (i64 g.d ∧ i64 g.i ∧ i64 g.c ∧ i64 g.t) ∧ g.s.size ≤ maxLen) Tryd.underlying25 cellsGf (fun h => read_gf h) h13
    simp at e0 e1 e2 e3 e4 e5 e6 e7 e8 e9 e10 e11 e12 e13
    subst e0 e1 e2 e3 e4 e5 e6 e7 e8 e9 e10 e11 e12 e13
    rw [hx] at hw
    simp only [DataW.weights, Tryd.underlying27, List.map_cons, List.map_nil, DataW.weightsEach, List.all_append, Bool.and_eq_true] at hw
    have k4 := hw.2.2.2.2.1
    have k6 := hw.2.2.2.2.2.2.1
    have k8 := hw.2.2.2.2.2.2.2.2.1
    have k13 := hw.2.2.2.2.2.2.2.2.2.2.2.2.2.1
    have g4 := slice_len Tryd.underlying22 (by decide +kernel) h4 k4
    have g6 := slice_len Tryd.underlying23 (by decide +kernel) h6 k6
    have g8 := slice_len Tryd.underlying24 (by decide +kernel) h8 k8
    have g13 := slice_len Tryd.underlying25 (by decide +kernel) h13 k13
    have b0 := bounds_i64 w0
    have b1 := bounds_i64 w1
    have b2 := bounds_i64 w2
    have b3 := bounds_i64 w3
    have b5 := bounds_i64 w5
    have b7 := bounds_i64 w7
    have b9 := bounds_i64 w9
    have b10 := bounds_i64 w10
    have b11 := bounds_i64 w11
    have b12 := bounds_i64 w12
    refine ⟨⟨oA, oc, rA, rc, eA, ec, gA, gc, ⟨n0, n1, n2, n3, n5, n7, n9, n10, n11, n12, os, rs, es, gs⟩⟩, rfl, ⟨v4, v6, v8, v13⟩, ⟨fun n hn => ?_, q4, q6, q8, q13⟩, g4, g6, g8, g13⟩
    simp only [frL, List.mem_cons, List.not_mem_nil, or_false] at hn
    unfold i64
    rcases hn with rfl | rfl | rfl | rfl | rfl | rfl | rfl | rfl | rfl | rfl <;> omega
set_option maxRecDepth 100000 in
theorem open_fr {H : Type} {enc : TypeId × Value → H} {W : World} {base : Nat} {v : Value} {d : DataW H} {ps : List MemPlace}
    (hv : Value.okWide Tryd.prog W .any base 27 v) (h : DataW.Trod enc Tryd.prog W 0 (fun _ => true) true 27 v d ps) (hw : (d.weights Tryd.prog 27).all (· ≤ reachBytes) = true) : ∃ y : Fw, v = .agg #[.int .i64 y.x.a, .int .i64 y.x.b, .int .i64 y.x.boot, .int .i64 y.x.first, .slice y.oA y.x.os.length y.oc, .int .i64 y.x.pos, .slice y.rA y.x.rs.length y.rc, .int .i64 y.x.start, .slice y.eA y.x.es.length y.ec, .int .i64 y.x.ack, .int .i64 y.x.grant, .int .i64 y.x.s, .int .i64 y.x.t, .slice y.gA y.x.gs.length y.gc] ∧ y.ok W ∧ FrN y.x ∧ FrLen y.x := by
  obtain ⟨cs, rfl, _⟩ := okWide_struct Tryd.underlying27 hv
  obtain ⟨fuel, hf⟩ := h
  obtain ⟨y, e, ho, hn, hl⟩ := read_fr hf hw
  refine ⟨y, ?_, ho, hn, hl⟩
  obtain ⟨l⟩ := cs
  simp [Value.cells] at e
  rw [e]
  rfl
end Go.Proofs.YtndahomgglpdhaaDoor
