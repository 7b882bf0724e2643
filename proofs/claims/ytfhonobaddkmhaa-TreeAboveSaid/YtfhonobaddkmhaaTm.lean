/- Trees as lists of places: where a node stands, who is above whom. No program in it. -/
import Derived.WalkKit
namespace Tre

structure Pl where
  n : Int
  u : Int
  s : ByteArray
def zero : Pl := ⟨0, 0, ⟨#[]⟩⟩
instance : Inhabited Pl := ⟨zero⟩

/-- How many stand ahead of node b. -/
def idx (l : List Pl) (b : Int) : Nat := (l.takeWhile fun p => decide (p.n < b)).length
def Sorted (l : List Pl) : Prop := ∀ i j (hi : i < l.length) (hj : j < l.length), i < j → l[i].n < l[j].n

theorem idx_nil (b : Int) : idx [] b = 0 := rfl
theorem idx_cons_lt {p : Pl} {l : List Pl} {b : Int} (h : p.n < b) : idx (p :: l) b = idx l b + 1 := by
  unfold idx; rw [List.takeWhile_cons_of_pos (by simpa using h)]; rfl
theorem idx_cons_ge {p : Pl} {l : List Pl} {b : Int} (h : ¬ p.n < b) : idx (p :: l) b = 0 := by
  unfold idx; rw [List.takeWhile_cons_of_neg (by simpa using h)]; rfl
theorem idx_le (l : List Pl) (b : Int) : idx l b ≤ l.length := by
  induction l with
  | nil => exact Nat.le_refl _
  | cons p l ih =>
    by_cases h : p.n < b
    · rw [idx_cons_lt h]; simpa using ih
    · rw [idx_cons_ge h]; exact Nat.zero_le _
theorem idx_before : ∀ (l : List Pl) (b : Int) (i : Nat) (h : i < l.length), i < idx l b → l[i].n < b
  | p :: l, b, i, h, hi => by
    by_cases hp : p.n < b
    · rw [idx_cons_lt hp] at hi
      cases i with
      | zero => exact hp
      | succ i => exact idx_before l b i (by simpa using h) (by omega)
    · rw [idx_cons_ge hp] at hi; omega
theorem idx_at : ∀ (l : List Pl) (b : Int) (h : idx l b < l.length), b ≤ l[idx l b].n
  | p :: l, b, h => by
    by_cases hp : p.n < b
    · have e := idx_cons_lt (l := l) hp
      simp only [e, List.getElem_cons_succ]
      exact idx_at l b (by rw [e] at h; simpa using h)
    · have e := idx_cons_ge (l := l) hp
      simp only [e, List.getElem_cons_zero]; omega
/-- Where all ahead are below b, and all from there on aren't. -/
theorem idx_eq {l : List Pl} {b : Int} {k : Nat} (hk : k ≤ l.length) (h1 : ∀ i (h : i < l.length), i < k → l[i].n < b) (h2 : ∀ (h : k < l.length), b ≤ l[k].n) : k = idx l b := by
  rcases Nat.lt_trichotomy k (idx l b) with h | h | h
  · have hl : k < l.length := Nat.lt_of_lt_of_le h (idx_le l b)
    have := idx_before l b k hl h
    have := h2 hl
    omega
  · exact h
  · have hl : idx l b < l.length := Nat.lt_of_lt_of_le h hk
    have := h1 _ hl h
    have := idx_at l b hl
    omega
theorem idx_self {l : List Pl} (hs : Sorted l) (i : Nat) (h : i < l.length) : idx l l[i].n = i :=
  (idx_eq (Nat.le_of_lt h) (fun j hj hji => hs j i hj h hji) (fun _ => by omega)).symm

/-- A node's place. -/
def get (l : List Pl) (b : Int) : Option Pl := (l[idx l b]?).bind fun p => if p.n = b then some p else none
theorem get_some {l : List Pl} {b : Int} {p : Pl} (h : get l b = some p) : p ∈ l ∧ p.n = b ∧ ∃ h : idx l b < l.length, l[idx l b] = p := by
  unfold get at h
  rw [Option.bind_eq_some_iff] at h
  obtain ⟨q, h1, h2⟩ := h
  by_cases e : q.n = b
  · rw [if_pos e] at h2; cases h2
    obtain ⟨hl, he⟩ := List.getElem?_eq_some_iff.1 h1
    exact ⟨List.mem_of_getElem? h1, e, hl, he⟩
  · rw [if_neg e] at h2; cases h2
theorem get_of {l : List Pl} {b : Int} (h : idx l b < l.length) (e : l[idx l b].n = b) : get l b = some l[idx l b] := by
  unfold get; rw [List.getElem?_eq_getElem h, Option.bind_some, if_pos e]
theorem get_none_end {l : List Pl} {b : Int} (h : ¬ idx l b < l.length) : get l b = none := by
  unfold get; rw [List.getElem?_eq_none (by omega)]; rfl
theorem get_none_other {l : List Pl} {b : Int} (h : idx l b < l.length) (e : ¬ l[idx l b].n = b) : get l b = none := by
  unfold get; rw [List.getElem?_eq_getElem h, Option.bind_some, if_neg e]
theorem get_self {l : List Pl} (hs : Sorted l) (i : Nat) (h : i < l.length) : get l l[i].n = some l[i] := by
  have e := idx_self hs i h
  unfold get; rw [e, List.getElem?_eq_getElem h, Option.bind_some, if_pos rfl]

/-- k steps up. -/
def up (l : List Pl) : Nat → Int → Option Int
  | 0, b => some b
  | k + 1, b => (get l b).bind fun p => up l k p.u
theorem up_add (l : List Pl) : ∀ (m k : Nat) (b : Int), up l (m + k) b = (up l m b).bind (up l k)
  | 0, k, b => by rw [Nat.zero_add]; rfl
  | m + 1, k, b => by
    rw [Nat.succ_add]
    show (get l b).bind (fun p => up l (m + k) p.u) = ((get l b).bind fun p => up l m p.u).bind (up l k)
    rw [Option.bind_assoc]
    congr 1; funext p; exact up_add l m k p.u
/-- At or above, by so many looks. -/
def abv (l : List Pl) : Nat → Int → Int → Bool
  | 0, _, _ => false
  | f + 1, a, b => if a = b then true else match get l b with
    | none => false
    | some p => abv l f a p.u
theorem abv_iff (l : List Pl) (a : Int) : ∀ (f : Nat) (b : Int), abv l f a b = true ↔ ∃ k, k < f ∧ up l k b = some a
  | 0, b => by
    constructor
    · intro h; cases h
    · rintro ⟨k, h, _⟩; omega
  | f + 1, b => by
    unfold abv
    by_cases e : a = b
    · rw [if_pos e]
      exact ⟨fun _ => ⟨0, by omega, by rw [e]; rfl⟩, fun _ => rfl⟩
    · rw [if_neg e]
      rcases hg : get l b with _ | p
      · constructor
        · intro h; cases h
        · rintro ⟨k, hk, hu⟩
          cases k with
          | zero => exact absurd (Option.some.inj hu).symm e
          | succ k => rw [up, hg] at hu; cases hu
      · constructor
        · intro h
          obtain ⟨k, hk, hu⟩ := (abv_iff l a f p.u).1 h
          exact ⟨k + 1, by omega, by rw [up, hg]; exact hu⟩
        · rintro ⟨k, hk, hu⟩
          cases k with
          | zero => exact absurd (Option.some.inj hu).symm e
          | succ k =>
            rw [up, hg] at hu
            exact (abv_iff l a f p.u).2 ⟨k, by omega, hu⟩
def above (l : List Pl) (a b : Int) : Bool := abv l (l.length + 1) a b
/-- No place is at or above its own Up. -/
def NoRing (l : List Pl) : Prop := ∀ p ∈ l, above l p.n p.u = false

theorem pigeon {α : Type} [DecidableEq α] : ∀ (l m : List α), l.Nodup → (∀ x ∈ l, x ∈ m) → l.length ≤ m.length
  | [], _, _, _ => Nat.zero_le _
  | x :: l, m, hn, hs => by
    have hx : x ∈ m := hs x (by simp)
    have hn' := List.nodup_cons.1 hn
    have h := pigeon l (m.erase x) hn'.2 (fun y hy => by
      have hne : y ≠ x := fun e => hn'.1 (e ▸ hy)
      exact (List.mem_erase_of_ne hne).2 (hs y (by simp [hy])))
    rw [List.length_erase_of_mem hx] at h
    have : 0 < m.length := List.length_pos_of_mem hx
    simp only [List.length_cons]; omega

/-- A way up has no more steps than there are places. -/
theorem up_bound {l : List Pl} (hr : NoRing l) {k : Nat} {a b : Int} (h : up l k b = some a) : k ≤ l.length := by
  rcases Nat.lt_or_ge l.length k with hlt | hge
  · exfalso
    -- every step up to k stands
    have stand : ∀ i, i ≤ k → ∃ x, up l i b = some x := fun i hi => by
      have e : k = i + (k - i) := by omega
      rw [e, up_add] at h
      rcases hx : up l i b with _ | x
      · rw [hx] at h; cases h
      · exact ⟨x, rfl⟩
    have place : ∀ i x, i < k → up l i b = some x → ∃ p, get l x = some p ∧ up l (i + 1) b = some p.u := fun i x hi hx => by
      obtain ⟨y, hy⟩ := stand (i + 1) hi
      have hy' := hy
      rw [up_add, hx, Option.bind_some] at hy'
      rcases hg : get l x with _ | p
      · rw [up, hg] at hy'; cases hy'
      · rw [up, hg] at hy'
        exact ⟨p, rfl, by rw [hy]; exact hy'.symm⟩
    let s : Nat → Int := fun i => (up l i b).getD 0
    have hs : ∀ i, i ≤ k → up l i b = some (s i) := fun i hi => by
      obtain ⟨x, hx⟩ := stand i hi
      show up l i b = some ((up l i b).getD 0)
      rw [hx]; rfl
    have unlike : ∀ i j, i < j → j ≤ l.length → s i ≠ s j := fun i j hij hj e => by
      have hi := hs i (by omega)
      have hj' := hs j (by omega)
      obtain ⟨p, hp, hu⟩ := place i _ (by omega) hi
      have hj2 := hj'
      rw [show j = (i + 1) + (j - i - 1) by omega, up_add, hu, Option.bind_some] at hj2
      obtain ⟨hm, hn, _⟩ := get_some hp
      have hf := hr p hm
      have ht : above l p.n p.u = true := (abv_iff l p.n _ p.u).2 ⟨j - i - 1, by omega, by
        rw [hj2, hn, e]
        have : (i + 1) + (j - i - 1) = j := by omega
        rw [this]⟩
      rw [hf] at ht; cases ht
    have nd : ((List.range (l.length + 1)).map s).Nodup := by
      rw [List.nodup_iff_pairwise_ne, List.pairwise_map]
      exact List.Pairwise.imp_of_mem (fun {i j} hi hj hij => unlike i j hij (by have := List.mem_range.1 hj; omega)) List.pairwise_lt_range
    have sub : ∀ x ∈ (List.range (l.length + 1)).map s, x ∈ l.map (·.n) := fun x hx => by
      obtain ⟨i, hi, rfl⟩ := List.mem_map.1 hx
      have hi := List.mem_range.1 hi
      obtain ⟨p, hp, _⟩ := place i _ (by omega) (hs i (by omega))
      obtain ⟨hm, hn, _⟩ := get_some hp
      exact List.mem_map.2 ⟨p, hm, hn⟩
    have := pigeon _ _ nd sub
    simp at this
    omega
  · exact hge
theorem above_iff {l : List Pl} (hr : NoRing l) {a b : Int} : above l a b = true ↔ ∃ k, up l k b = some a := by
  unfold above
  rw [abv_iff]
  exact ⟨fun ⟨k, _, h⟩ => ⟨k, h⟩, fun ⟨k, h⟩ => ⟨k, by have := up_bound hr h; omega, h⟩⟩
theorem above_trans {l : List Pl} (hr : NoRing l) {a b c : Int} (h1 : above l a b = true) (h2 : above l b c = true) : above l a c = true := by
  obtain ⟨k, hk⟩ := (above_iff hr).1 h1
  obtain ⟨m, hm⟩ := (above_iff hr).1 h2
  exact (above_iff hr).2 ⟨m + k, by rw [up_add, hm, Option.bind_some, hk]⟩
theorem up_loop {l : List Pl} {k : Nat} {b : Int} (h : up l k b = some b) : ∀ m, up l (k * m) b = some b
  | 0 => rfl
  | m + 1 => by rw [Nat.mul_succ, up_add, up_loop h m, Option.bind_some, h]
theorem above_anti {l : List Pl} (hr : NoRing l) {a b : Int} (h1 : above l a b = true) (h2 : above l b a = true) : a = b := by
  obtain ⟨k, hk⟩ := (above_iff hr).1 h1
  obtain ⟨m, hm⟩ := (above_iff hr).1 h2
  have h : up l (k + m) b = some b := by rw [up_add, hk, Option.bind_some, hm]
  rcases Nat.eq_zero_or_pos (k + m) with h0 | h0
  · obtain rfl : k = 0 := by omega
    exact (Option.some.inj hk).symm
  · have := up_bound hr (up_loop h (l.length + 1))
    have : l.length + 1 ≤ (k + m) * (l.length + 1) := Nat.le_mul_of_pos_left _ h0
    omega
theorem above_self (l : List Pl) (a : Int) : above l a a = true := by unfold above abv; rw [if_pos rfl]
end Tre
