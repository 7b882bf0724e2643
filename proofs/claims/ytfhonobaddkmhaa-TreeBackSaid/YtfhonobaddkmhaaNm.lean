/- Names, digits and twins as lists of bytes. -/
import Derived.Lib.ItoaNum
namespace Go.Proofs.Ytfhonobaddkmhaa.Nam
open Go.Lib (decDigits decDigits_one)

def okB (b : UInt8) : Bool := decide (33 ≤ b.toNat ∧ b.toNat ≤ 125 ∧ b.toNat ≠ 47)
/-- Is it a name? -/
def isName (l : List UInt8) : Bool := decide (1 ≤ l.length ∧ l.length ≤ 16) && l.all okB

theorem isName_len {l : List UInt8} (h : isName l = true) : 1 ≤ l.length ∧ l.length ≤ 16 := by
  unfold isName at h; simp at h; exact h.1
theorem isName_at {l : List UInt8} (h : isName l = true) (i : Nat) (hi : i < l.length) : 33 ≤ l[i].toNat ∧ l[i].toNat ≤ 125 ∧ l[i].toNat ≠ 47 := by
  unfold isName at h
  rw [Bool.and_eq_true, List.all_eq_true] at h
  exact of_decide_eq_true (h.2 l[i] (List.getElem_mem hi))
theorem isName_short {l : List UInt8} (h : ¬ (1 ≤ l.length ∧ l.length ≤ 16)) : isName l = false := by
  unfold isName; rw [decide_eq_false h]; rfl
theorem isName_bad {l : List UInt8} (i : Nat) (hi : i < l.length) (h : ¬ (33 ≤ l[i].toNat ∧ l[i].toNat ≤ 125 ∧ l[i].toNat ≠ 47)) : isName l = false := by
  cases e : isName l
  · rfl
  · exact absurd (isName_at e i hi) h
theorem isName_of {l : List UInt8} (h1 : 1 ≤ l.length ∧ l.length ≤ 16) (h2 : ∀ b ∈ l, okB b = true) : isName l = true := by
  unfold isName; rw [decide_eq_true h1, List.all_eq_true.2 h2]; rfl

/-- Where the first mark stands, or the length. -/
def endOf : List UInt8 → Nat
  | [] => 0
  | b :: t => if b.toNat = 126 then 0 else endOf t + 1

theorem endOf_le : ∀ l, endOf l ≤ l.length
  | [] => Nat.le_refl _
  | b :: t => by
    rw [endOf]; split
    · exact Nat.zero_le _
    · have := endOf_le t; rw [List.length_cons]; omega
theorem endOf_before : ∀ (l : List UInt8) (i : Nat) (h : i < l.length), i < endOf l → l[i].toNat ≠ 126
  | [], i, h, _ => absurd h (by simp)
  | b :: t, i, h, hi => by
    rw [endOf] at hi
    by_cases hb : b.toNat = 126
    · rw [if_pos hb] at hi; omega
    · rw [if_neg hb] at hi
      cases i with
      | zero => exact hb
      | succ i => exact endOf_before t i (by simpa using h) (by omega)
theorem endOf_at : ∀ (l : List UInt8) (h : endOf l < l.length), l[endOf l].toNat = 126
  | [], h => absurd h (by simp)
  | b :: t, h => by
    by_cases hb : b.toNat = 126
    · have e : endOf (b :: t) = 0 := by rw [endOf, if_pos hb]
      simp [e, hb]
    · have e : endOf (b :: t) = endOf t + 1 := by rw [endOf, if_neg hb]
      have h2 : endOf t < t.length := by rw [e] at h; simpa using h
      have := endOf_at t h2
      simp [e, this]
theorem endOf_app : ∀ (a t : List UInt8), (∀ i (h : i < a.length), a[i].toNat ≠ 126) → endOf (a ++ (126 : UInt8) :: t) = a.length
  | [], t, _ => by
    show endOf ((126 : UInt8) :: t) = 0
    rw [endOf]; rfl
  | b :: a, t, h => by
    have hb : b.toNat ≠ 126 := h 0 (by simp)
    rw [List.cons_append, endOf, if_neg hb, endOf_app a t (fun i hi => h (i + 1) (by simpa using hi))]; rfl
theorem endOf_none : ∀ (a : List UInt8), (∀ i (h : i < a.length), a[i].toNat ≠ 126) → endOf a = a.length
  | [], _ => rfl
  | b :: a, h => by
    have hb : b.toNat ≠ 126 := h 0 (by simp)
    rw [endOf, if_neg hb, endOf_none a (fun i hi => h (i + 1) (by simpa using hi))]; rfl

def isDig (b : UInt8) : Bool := decide (48 ≤ b.toNat ∧ b.toNat ≤ 57)
/-- The number of digits. -/
def val (l : List UInt8) : Nat := l.foldl (fun n b => 10 * n + (b.toNat - 48)) 0

theorem val_snoc (l : List UInt8) (b : UInt8) : val (l ++ [b]) = 10 * val l + (b.toNat - 48) := by unfold val; simp
theorem foldl_ge : ∀ (l : List UInt8) (n : Nat), n ≤ l.foldl (fun n b => 10 * n + (b.toNat - 48)) n
  | [], n => Nat.le_refl _
  | b :: t, n => by
    rw [List.foldl_cons]
    have := foldl_ge t (10 * n + (b.toNat - 48))
    omega
theorem val_app (a b : List UInt8) : val a ≤ val (a ++ b) := by
  unfold val; rw [List.foldl_append]; exact foldl_ge b _
theorem val_take (l : List UInt8) (k : Nat) : val (l.take k) ≤ val l := by
  have h := val_app (l.take k) (l.drop k)
  rwa [List.take_append_drop] at h
theorem take_next (l : List UInt8) (k : Nat) (h : k < l.length) : l.take (k + 1) = l.take k ++ [l[k]] := by
  rw [List.take_succ_eq_append_getElem h]
theorem val_next (l : List UInt8) (k : Nat) (h : k < l.length) : val (l.take (k + 1)) = 10 * val (l.take k) + (l[k].toNat - 48) := by
  rw [take_next l k h, val_snoc]

theorem dec_dig (n : Nat) : ∀ b ∈ decDigits n, isDig b = true := by
  induction n using Nat.strongRecOn with
  | _ n ih =>
    intro b hb
    by_cases h : n < 10
    · rw [decDigits_one h] at hb
      obtain rfl := List.mem_singleton.1 hb
      unfold isDig
      rw [UInt8.toNat_ofNat']
      exact decide_eq_true (by omega)
    · rw [decDigits, dif_neg h] at hb
      rcases List.mem_append.1 hb with h1 | h1
      · exact ih (n / 10) (by omega) b h1
      · obtain rfl := List.mem_singleton.1 h1
        unfold isDig
        rw [UInt8.toNat_ofNat']
        exact decide_eq_true (by omega)
theorem val_dec (n : Nat) : val (decDigits n) = n := by
  induction n using Nat.strongRecOn with
  | _ n ih =>
    by_cases h : n < 10
    · rw [decDigits_one h]
      show 10 * 0 + ((UInt8.ofNat (48 + n)).toNat - 48) = n
      rw [UInt8.toNat_ofNat']; omega
    · rw [decDigits, dif_neg h, val_snoc, ih (n / 10) (by omega), UInt8.toNat_ofNat']; omega
theorem dec_ne (n : Nat) : 1 ≤ (decDigits n).length := by
  by_cases h : n < 10
  · rw [decDigits_one h]; simp
  · rw [decDigits, dif_neg h]; simp
theorem dec_inj {a b : Nat} (h : decDigits a = decDigits b) : a = b := by rw [← val_dec a, h, val_dec]
/-- No number but 0 begins with 0. -/
theorem dec_head (n : Nat) : 0 < n → ∀ b t, decDigits n = b :: t → b.toNat ≠ 48 := by
  induction n using Nat.strongRecOn with
  | _ n ih =>
    intro hn b t e
    by_cases h : n < 10
    · rw [decDigits_one h] at e
      obtain ⟨rfl, _⟩ := List.cons.inj e
      rw [UInt8.toNat_ofNat']; omega
    · rw [decDigits, dif_neg h] at e
      cases e1 : decDigits (n / 10) with
      | nil => have := dec_ne (n / 10); rw [e1] at this; simp at this
      | cons c u =>
        rw [e1, List.cons_append] at e
        obtain ⟨rfl, _⟩ := List.cons.inj e
        exact ih (n / 10) (by omega) (by omega) _ _ e1
theorem val_pos {b : UInt8} {t : List UInt8} (h : 48 < b.toNat) : 0 < val (b :: t) := by
  unfold val
  rw [List.foldl_cons]
  have := foldl_ge t (10 * 0 + (b.toNat - 48))
  omega
theorem dec_ten (v d : Nat) (hv : 0 < v) (hd : d < 10) : decDigits (10 * v + d) = decDigits v ++ [UInt8.ofNat (48 + d)] := by
  rw [decDigits, dif_neg (by omega), show (10 * v + d) / 10 = v by omega, show (10 * v + d) % 10 = d by omega]
theorem rev_rec {P : List UInt8 → Prop} (h0 : P []) (h1 : ∀ l b, P l → P (l ++ [b])) (l : List UInt8) : P l := by
  have key : ∀ m : List UInt8, P m.reverse := by
    intro m
    induction m with
    | nil => exact h0
    | cons b m ih => rw [List.reverse_cons]; exact h1 _ _ ih
  have := key l.reverse
  rwa [List.reverse_reverse] at this
/-- Digits without a 0 ahead are those of their number. -/
theorem dec_val (l : List UInt8) : l ≠ [] → (∀ b ∈ l, isDig b = true) → (∀ b t, l = b :: t → t ≠ [] → b.toNat ≠ 48) → decDigits (val l) = l := by
  refine rev_rec (P := fun l => l ≠ [] → (∀ b ∈ l, isDig b = true) → (∀ b t, l = b :: t → t ≠ [] → b.toNat ≠ 48) → decDigits (val l) = l) (fun h => absurd rfl h) (fun l b ih _ hd h0 => ?_) l
  have hb : 48 ≤ b.toNat ∧ b.toNat ≤ 57 := of_decide_eq_true (hd b (by simp))
  have eb : UInt8.ofNat (48 + (b.toNat - 48)) = b := by rw [show 48 + (b.toNat - 48) = b.toNat by omega, UInt8.ofNat_toNat]
  rw [val_snoc]
  cases l with
  | nil =>
    show decDigits (10 * 0 + (b.toNat - 48)) = [b]
    rw [decDigits_one (by omega), show 10 * 0 + (b.toNat - 48) = b.toNat - 48 by omega, eb]
  | cons c t =>
    have hc : c.toNat ≠ 48 := h0 c (t ++ [b]) rfl (by simp)
    have hc2 : 48 ≤ c.toNat ∧ c.toNat ≤ 57 := of_decide_eq_true (hd c (by simp))
    have hv : 0 < val (c :: t) := val_pos (by omega)
    rw [dec_ten _ _ hv (by omega), eb, ih (by simp) (fun x hx => hd x (by simp at hx ⊢; rcases hx with h | h <;> simp [h])) (fun x u e _ => by obtain ⟨rfl, _⟩ := List.cons.inj e; exact hc)]

/-- The node, below 64, whose digits a text is. -/
def node (l : List UInt8) : Option Nat := if l.all isDig = true ∧ val l < 64 ∧ decDigits (val l) = l then some (val l) else none

theorem node_some {l : List UInt8} {n : Nat} (h : node l = some n) : n < 64 ∧ decDigits n = l := by
  unfold node at h
  split at h
  · rename_i k
    obtain rfl := Option.some.inj h
    exact k.2
  · cases h
theorem node_dec {n : Nat} (h : n < 64) : node (decDigits n) = some n := by
  unfold node
  rw [if_pos ⟨List.all_eq_true.2 (dec_dig n), by rw [val_dec]; exact h, by rw [val_dec]⟩, val_dec]
theorem node_none_of {l : List UInt8} (h : ∀ n, n < 64 → decDigits n = l → False) : node l = none := by
  cases e : node l with
  | none => rfl
  | some n => exact (h n (node_some e).1 (node_some e).2).elim
theorem node_no_dig {l : List UInt8} (i : Nat) (hi : i < l.length) (h : ¬ (48 ≤ l[i].toNat ∧ l[i].toNat ≤ 57)) : node l = none :=
  node_none_of fun n _ e => by subst e; exact h (of_decide_eq_true (dec_dig n _ (List.getElem_mem hi)))
theorem node_no_big {l : List UInt8} (i : Nat) (h : 64 ≤ val (l.take i)) : node l = none :=
  node_none_of fun n hn e => by subst e; have := val_take (decDigits n) i; rw [val_dec] at this; omega
theorem node_no_zero {l : List UInt8} (h1 : 1 < l.length) (h : l[0].toNat = 48) : node l = none :=
  node_none_of fun n hn e => by
    subst e
    by_cases h0 : n < 10
    · rw [decDigits_one h0] at h1; simp at h1
    · cases e1 : decDigits n with
      | nil => rw [e1] at h1; simp at h1
      | cons c t =>
        have := dec_head n (by omega) c t e1
        simp [e1] at h
        exact this h
theorem node_no_nil {l : List UInt8} (h : l.length = 0) : node l = none :=
  node_none_of fun n _ e => by have := dec_ne n; rw [e] at this; omega
theorem node_yes {l : List UInt8} (h1 : 0 < l.length) (h2 : ∀ b ∈ l, isDig b = true) (h3 : val l < 64) (h4 : 1 < l.length → l[0].toNat ≠ 48) : node l = some (val l) := by
  have h0 : ∀ b t, l = b :: t → t ≠ [] → b.toNat ≠ 48 := by
    intro b t e ht
    subst e
    have := h4 (by cases t with | nil => exact absurd rfl ht | cons _ _ => simp)
    simpa using this
  unfold node
  rw [if_pos ⟨List.all_eq_true.2 h2, h3, dec_val l (by intro e; simp [e] at h1) h2 h0⟩]

/-- What a shown name says: a name, and no number; or a name and its number. -/
def says (l : List UInt8) : Option (List UInt8 × Option Nat) :=
  if isName (l.take (endOf l)) = true then
    if endOf l = l.length then some (l, none) else (node (l.drop (endOf l + 1))).map fun n => (l.take (endOf l), some n)
  else none

/-- A twin's shown name. -/
def twin (l : List UInt8) (n : Nat) : List UInt8 := l ++ (126 : UInt8) :: decDigits n

theorem name_no_mark {l : List UInt8} (h : isName l = true) (i : Nat) (hi : i < l.length) : l[i].toNat ≠ 126 := by
  have := isName_at h i hi; omega
theorem says_twin {l : List UInt8} {n : Nat} (h : isName l = true) (hn : n < 64) : says (twin l n) = some (l, some n) := by
  have he : endOf (twin l n) = l.length := endOf_app l (decDigits n) (name_no_mark h)
  have ht : (twin l n).take l.length = l := by unfold twin; simp
  have hd : (twin l n).drop (l.length + 1) = decDigits n := by unfold twin; simp
  have hne : ¬ l.length = (twin l n).length := by unfold twin; simp
  unfold says
  rw [he, ht, if_pos h, if_neg hne, hd, node_dec hn]; rfl
theorem says_name {l : List UInt8} (h : isName l = true) : says l = some (l, none) := by
  have he := endOf_none l (name_no_mark h)
  unfold says
  rw [he, List.take_length, if_pos h, if_pos rfl]
theorem twin_no_name {l : List UInt8} {n : Nat} : isName (twin l n) = false := by
  refine isName_bad l.length (by unfold twin; simp) ?_
  simp [twin]
theorem twin_inj {a b : List UInt8} {m n : Nat} (ha : isName a = true) (hb : isName b = true) (hm : m < 64) (hn : n < 64) (h : twin a m = twin b n) : a = b ∧ m = n := by
  have h1 := says_twin ha hm
  rw [h, says_twin hb hn] at h1
  have h2 := Option.some.inj h1
  exact ⟨(Prod.mk.inj h2).1.symm, (Option.some.inj (Prod.mk.inj h2).2).symm⟩
theorem split_at {l : List UInt8} (h : endOf l < l.length) : l = l.take (endOf l) ++ (126 : UInt8) :: l.drop (endOf l + 1) := by
  have e : l[endOf l] = (126 : UInt8) := UInt8.toNat_inj.1 (endOf_at l h)
  calc l = l.take (endOf l) ++ l.drop (endOf l) := (List.take_append_drop _ _).symm
    _ = _ := by rw [List.drop_eq_getElem_cons h, e]
theorem says_none_name {l : List UInt8} (h : says l = none) : isName l = false := by
  cases e : isName l
  · rfl
  · rw [says_name e] at h; cases h
theorem says_some {l t : List UInt8} {o : Option Nat} (h : says l = some (t, o)) : isName t = true ∧ (o = none ∧ t = l ∨ ∃ n, o = some n ∧ n < 64 ∧ twin t n = l) := by
  unfold says at h
  split at h
  · rename_i h1
    split at h
    · rename_i h2
      obtain ⟨rfl, rfl⟩ := Prod.mk.inj (Option.some.inj h)
      rw [h2, List.take_length] at h1
      exact ⟨h1, Or.inl ⟨rfl, rfl⟩⟩
    · rename_i h2
      obtain ⟨n, h3, h4⟩ := Option.map_eq_some_iff.1 h
      obtain ⟨rfl, rfl⟩ := Prod.mk.inj h4
      obtain ⟨h5, h6⟩ := node_some h3
      refine ⟨h1, Or.inr ⟨n, rfl, h5, ?_⟩⟩
      unfold twin
      rw [h6]
      have := endOf_le l
      exact (split_at (by omega)).symm
  · cases h

end Go.Proofs.Ytfhonobaddkmhaa.Nam
