/- Texts laid one behind the other: Za, Zb, Bs, Ge, Gf, Tm, Ta, Tb, Cm, Ca, Cb, Cc, Cj, Cd, Ce, Cf, Cg, Ch, Ck, Nm, Tn, Frm, Ar, To, Uo. -/
import Derived.WalkKit
import Derived.Test.YtmmfjmhemknpgaaChecked
import Derived.WalkLawsBesides
import Derived.Lib.Hide
import Derived.KernelRfl
import Derived.Handy
import Derived.Lib.Strings
import Derived.Maps.AppendAt
import Derived.Laws.OwnMore
import Derived.Lib.AppendZeros
import Derived.Laws.ResultCell
import Derived.Laws.CopyOwn
import Derived.Laws.CopyRow
import Derived.BigQuiet
import Derived.Deep.QuietTactic
import Derived.Lib.QuietBelow
import Derived.Lib.BufSteps
import Derived.Laws.IdiomStrings
import Derived.WalkMore
import Derived.Deep.Draws
import Derived.Lib.ItoaNum
import Derived.Test.YtmmfjmhemknpgaaRows
import Derived.ProofKit
import Derived.OpenShut
import Derived.ChangeSame
import Derived.Carry
import Derived.Lib.SmallJoins
import Derived.Deep.SlicePairs
import Derived.ChangeSlices
import Derived.ChangeShapes
/- A fleet's shape as a list of parents: kids, depth, kinds, who is below whom; what follows of a plan that may be. No call in it. -/
namespace Pln

/-- Of nodes from 1 on: those whose Up this is, rising. -/
def kidsN (u : List Int) (n : Int) : List Nat := (List.range u.length).filter fun i => decide (0 < i) && decide (u.getD i 0 = n)
def deepF (u : List Int) : Nat → Int → Nat
  | 0, _ => 0
  | f + 1, n => if 0 < n ∧ n < u.length ∧ u.getD n.toNat 0 < n then deepF u f (u.getD n.toNat 0) + 1 else 0
def deepL (u : List Int) (n : Int) : Nat := deepF u u.length n
def deepest (u : List Int) : Nat := (List.range u.length).foldl (fun (m i : Nat) => max m (deepL u (i : Int))) 0
def kindL (u : List Int) (n : Int) : Int := if n < 0 ∨ (u.length : Int) ≤ n then 0 else if n = 0 then 1 else if (kidsN u n).length = 0 then 3 else 2
def devsN (u : List Int) : List Nat := (List.range u.length).filter fun i => decide (kindL u i = 3)
def belowF (u : List Int) : Nat → Int → Int → Bool
  | 0, _, _ => false
  | f + 1, n, top => if 0 ≤ n ∧ n < u.length then if n = top then true else if n ≤ u.getD n.toNat 0 then false else belowF u f (u.getD n.toNat 0) top else false
def belowU (u : List Int) (n top : Int) : Bool := belowF u (u.length + 1) n top

structure Pn where
  u : List Int
  q : Int
  r : Int
  b : Int
  l : Int
  w : Int
  c : Int
  k : Int
  i : Int
/-- Each node's Up but node 0's is one ahead of it. -/
def Par (u : List Int) : Prop := ∀ i : Nat, 0 < i → i < u.length → 0 ≤ u.getD i 0 ∧ u.getD i 0 < i
structure Right (p : Pn) : Prop where
  n2 : 2 ≤ p.u.length
  n12 : p.u.length ≤ 12
  up0 : p.u.getD 0 0 = -1
  par : Par p.u
  deep : ∀ i : Nat, i < p.u.length → deepL p.u i ≤ 4
  kids : ∀ i : Nat, i < p.u.length → (kidsN p.u i).length ≤ 4
  devs : (devsN p.u).length ≤ 8
  q : 1 ≤ p.q ∧ p.q ≤ 8
  r : 1 ≤ p.r ∧ p.r ≤ 16
  b : 1 ≤ p.b ∧ p.b ≤ 8
  w : 1 ≤ p.w ∧ p.w ≤ 8
  c : 16 ≤ p.c ∧ p.c ≤ 256
  k : 1 ≤ p.k ∧ p.k ≤ 16
  i : 3 ≤ p.i ∧ p.i ≤ 64
  l : 2 * (deepest p.u : Int) * (p.w + 2) < p.l ∧ p.l ≤ 1000

theorem mem_kids {u : List Int} {n : Int} {j : Nat} : j ∈ kidsN u n ↔ 0 < j ∧ j < u.length ∧ u.getD j 0 = n := by
  unfold kidsN
  rw [List.mem_filter, List.mem_range, Bool.and_eq_true, decide_eq_true_iff, decide_eq_true_iff]
  exact ⟨fun ⟨a, b, c⟩ => ⟨b, a, c⟩, fun ⟨b, a, c⟩ => ⟨a, b, c⟩⟩
theorem kids_nodup (u : List Int) (n : Int) : (kidsN u n).Nodup := List.nodup_range.filter _
theorem devs_nodup (u : List Int) : (devsN u).Nodup := List.nodup_range.filter _
theorem mem_devs {u : List Int} {j : Nat} : j ∈ devsN u ↔ j < u.length ∧ kindL u j = 3 := by
  unfold devsN
  rw [List.mem_filter, List.mem_range, decide_eq_true_iff]

/-- The depth needs no more looks than the node's number. -/
theorem deepF_at {u : List Int} (hp : Par u) : ∀ (m f : Nat) (i : Nat), i ≤ m → i ≤ f → deepF u f i = deepF u i i
  | m, f, 0, _, _ => by
    cases f with
    | zero => rfl
    | succ f => unfold deepF; rw [if_neg (by omega)]
  | m, f, i + 1, hm, hf => by
    obtain ⟨g, rfl⟩ : ∃ g, f = g + 1 := ⟨f - 1, by omega⟩
    unfold deepF
    have et : ((i + 1 : Nat) : Int).toNat = i + 1 := by omega
    rw [et]
    by_cases h : 0 < ((i + 1 : Nat) : Int) ∧ ((i + 1 : Nat) : Int) < u.length ∧ u.getD (i + 1) 0 < ((i + 1 : Nat) : Int)
    · rw [if_pos h, if_pos h]
      obtain ⟨h1, h2⟩ := hp (i + 1) (by omega) (by omega)
      obtain ⟨j, hj⟩ : ∃ j : Nat, u.getD (i + 1) 0 = j := ⟨(u.getD (i + 1) 0).toNat, by omega⟩
      rw [hj]
      cases m with
      | zero => omega
      | succ m => rw [deepF_at hp m g j (by omega) (by omega), deepF_at hp m i j (by omega) (by omega)]
    · rw [if_neg h, if_neg h]
theorem deep_zero (u : List Int) : deepL u 0 = 0 := by
  unfold deepL
  cases u.length with
  | zero => rfl
  | succ f => unfold deepF; rw [if_neg (by omega)]
theorem deep_kid {u : List Int} (hp : Par u) {i j : Nat} (h0 : 0 < j) (hj : j < u.length) (hu : u.getD j 0 = i) : deepL u j = deepL u i + 1 := by
  obtain ⟨h1, h2⟩ := hp j h0 hj
  unfold deepL
  obtain ⟨f, hf⟩ : ∃ f, u.length = f + 1 := ⟨u.length - 1, by omega⟩
  have e1 := deepF_at hp u.length u.length i (by omega) (by omega)
  have e2 := deepF_at hp u.length f i (by omega) (by omega)
  rw [e1, ← e2, hf]
  conv => lhs; unfold deepF
  have et : ((j : Nat) : Int).toNat = j := by omega
  rw [et, hu, if_pos ⟨by omega, by omega, by omega⟩]
theorem foldl_max_le (g : Nat → Nat) : ∀ (l : List Nat) (m : Nat), m ≤ l.foldl (fun m i => max m (g i)) m ∧ ∀ i ∈ l, g i ≤ l.foldl (fun m i => max m (g i)) m
  | [], m => ⟨Nat.le_refl _, fun i h => by cases h⟩
  | a :: l, m => by
    obtain ⟨h1, h2⟩ := foldl_max_le g l (max m (g a))
    rw [List.foldl_cons]
    refine ⟨by omega, fun i hi => ?_⟩
    rcases List.mem_cons.1 hi with rfl | hi
    · omega
    · exact h2 i hi
theorem foldl_max_bd (g : Nat → Nat) (B : Nat) : ∀ (l : List Nat) (m : Nat), m ≤ B → (∀ i ∈ l, g i ≤ B) → l.foldl (fun m i => max m (g i)) m ≤ B
  | [], m, hm, _ => hm
  | a :: l, m, hm, h => foldl_max_bd g B l _ (by have := h a (by simp); show max m (g a) ≤ B; omega) (fun i hi => h i (by simp [hi]))
theorem deep_le {u : List Int} {i : Nat} (h : i < u.length) : deepL u i ≤ deepest u := (foldl_max_le (fun i : Nat => deepL u (i : Int)) (List.range u.length) 0).2 i (List.mem_range.2 h)
theorem deepest_le {u : List Int} {B : Nat} (h : ∀ i : Nat, i < u.length → deepL u i ≤ B) : deepest u ≤ B := foldl_max_bd (fun i : Nat => deepL u (i : Int)) B _ 0 (Nat.zero_le _) fun i hi => h i (List.mem_range.1 hi)

/-- Who is below whom, by so many looks as the node's number. -/
theorem belowF_at {u : List Int} (hp : Par u) (h0 : u.getD 0 0 < 0) (top : Int) : ∀ (m f : Nat) (i : Nat), i ≤ m → i < f → belowF u f i top = belowF u (i + 1) i top
  | m, f, i, hm, hf => by
    obtain ⟨g, rfl⟩ : ∃ g, f = g + 1 := ⟨f - 1, by omega⟩
    unfold belowF
    have et : ((i : Nat) : Int).toNat = i := by omega
    rw [et]
    by_cases h : 0 ≤ (i : Int) ∧ (i : Int) < u.length
    · rw [if_pos h, if_pos h]
      by_cases ht : (i : Int) = top
      · rw [if_pos ht, if_pos ht]
      · rw [if_neg ht, if_neg ht]
        by_cases hu : (i : Int) ≤ u.getD i 0
        · rw [if_pos hu, if_pos hu]
        · rw [if_neg hu, if_neg hu]
          by_cases hi : i = 0
          · subst hi
            have hneg : ∀ f, belowF u f (u.getD 0 0) top = false := fun f => by
              cases f with
              | zero => rfl
              | succ f => unfold belowF; rw [if_neg (by omega)]
            rw [hneg, hneg]
          · obtain ⟨h1, h2⟩ := hp i (by omega) (by omega)
            obtain ⟨j, hj⟩ : ∃ j : Nat, u.getD i 0 = j := ⟨(u.getD i 0).toNat, by omega⟩
            rw [hj]
            cases m with
            | zero => omega
            | succ m => rw [belowF_at hp h0 top m g j (by omega) (by omega), belowF_at hp h0 top m i j (by omega) (by omega)]
    · rw [if_neg h, if_neg h]
theorem below_self {u : List Int} {i : Nat} (h : i < u.length) : belowU u i i = true := by
  unfold belowU belowF
  rw [if_pos ⟨by omega, by omega⟩, if_pos rfl]
theorem below_up {u : List Int} (hp : Par u) (h0 : u.getD 0 0 < 0) {j : Nat} (hj0 : 0 < j) (hj : j < u.length) {top : Int} (hne : (j : Int) ≠ top) : belowU u j top = belowU u (u.getD j 0) top := by
  obtain ⟨h1, h2⟩ := hp j hj0 hj
  unfold belowU
  obtain ⟨i, hi⟩ : ∃ i : Nat, u.getD j 0 = i := ⟨(u.getD j 0).toNat, by omega⟩
  rw [hi, belowF_at hp h0 top u.length (u.length + 1) i (by omega) (by omega), ← belowF_at hp h0 top u.length u.length i (by omega) (by omega)]
  conv => lhs; unfold belowF
  have et : ((j : Nat) : Int).toNat = j := by omega
  rw [et, hi, if_pos ⟨by omega, by omega⟩, if_neg hne, if_neg (by omega)]
theorem below_root {u : List Int} (hp : Par u) (h0 : u.getD 0 0 < 0) : ∀ (m j : Nat), j ≤ m → j < u.length → belowU u j 0 = true
  | m, 0, _, h => below_self h
  | m, j + 1, hm, h => by
    rw [below_up hp h0 (by omega) h (by omega)]
    obtain ⟨h1, h2⟩ := hp (j + 1) (by omega) h
    obtain ⟨i, hi⟩ : ∃ i : Nat, u.getD (j + 1) 0 = i := ⟨(u.getD (j + 1) 0).toNat, by omega⟩
    rw [hi]
    cases m with
    | zero => omega
    | succ m => exact below_root hp h0 m i (by omega) (by omega)
/-- Nobody is below one behind it. -/
theorem below_no {u : List Int} (hp : Par u) (h0 : u.getD 0 0 < 0) : ∀ (m i : Nat) (top : Nat), i ≤ m → i < u.length → i < top → belowU u i top = false
  | m, 0, top, _, h, ht => by
    unfold belowU belowF
    have e0 : ((0 : Nat) : Int).toNat = 0 := rfl
    rw [if_pos ⟨by omega, by omega⟩, if_neg (by omega), e0]
    rw [if_neg (by omega)]
    obtain ⟨f, hf⟩ : ∃ f, u.length = f + 1 := ⟨u.length - 1, by omega⟩
    rw [hf]
    unfold belowF
    rw [if_neg (by omega)]
  | m, i + 1, top, hm, h, ht => by
    rw [below_up hp h0 (by omega) h (by omega)]
    obtain ⟨h1, h2⟩ := hp (i + 1) (by omega) h
    obtain ⟨j, hj⟩ : ∃ j : Nat, u.getD (i + 1) 0 = j := ⟨(u.getD (i + 1) 0).toNat, by omega⟩
    rw [hj]
    cases m with
    | zero => omega
    | succ m => exact below_no hp h0 m j top (by omega) (by omega) (by omega)
theorem below_kid {u : List Int} (hp : Par u) (h0 : u.getD 0 0 < 0) {i j : Nat} (hj0 : 0 < j) (hj : j < u.length) (hu : u.getD j 0 = i) : belowU u j i = true := by
  obtain ⟨h1, h2⟩ := hp j hj0 hj
  rw [below_up hp h0 hj0 hj (by omega), hu]
  exact below_self (by omega)
end Pln

/- What follows of a plan that may be: kinds, kids, one device more. No call in it. -/
namespace Pln

theorem Right.neg {p : Pn} (h : Right p) : p.u.getD 0 0 < 0 := by rw [h.up0]; decide
theorem root_kid {u : List Int} (hp : Par u) (h : 2 ≤ u.length) : 1 ∈ kidsN u 0 := by
  obtain ⟨h1, h2⟩ := hp 1 (by omega) (by omega)
  exact mem_kids.2 ⟨by omega, by omega, by omega⟩
theorem kind_root {u : List Int} (h : 0 < u.length) : kindL u 0 = 1 := by
  unfold kindL; rw [if_neg (by omega), if_pos rfl]
theorem kind_of {u : List Int} {i : Nat} (h0 : 0 < i) (h : i < u.length) : kindL u i = if (kidsN u i).length = 0 then 3 else 2 := by
  unfold kindL; rw [if_neg (by omega), if_neg (by omega)]
theorem kind_end (u : List Int) : kindL u u.length = 0 := by
  unfold kindL; rw [if_pos (by omega)]
theorem kind_leaf {u : List Int} (hp : Par u) (h2 : 2 ≤ u.length) {i : Nat} (h : i < u.length) : (kidsN u i).length = 0 ↔ kindL u i = 3 := by
  by_cases h0 : i = 0
  · subst h0
    have h1 : 0 < (kidsN u (0 : Nat)).length := List.length_pos_of_mem (root_kid hp h2)
    have h3 : kindL u ((0 : Nat) : Int) = 1 := kind_root (by omega)
    rw [h3]
    constructor
    · intro h; omega
    · intro h; exact absurd h (by decide)
  · rw [kind_of (by omega) h]
    by_cases e : (kidsN u i).length = 0
    · rw [if_pos e]; exact ⟨fun _ => rfl, fun _ => e⟩
    · rw [if_neg e]; exact ⟨fun h => absurd h e, fun h => absurd h (by decide)⟩
theorem kind_in {u : List Int} {i : Nat} (h : i < u.length) : 1 ≤ kindL u i ∧ kindL u i ≤ 3 := by
  by_cases h0 : i = 0
  · subst h0
    have h3 : kindL u ((0 : Nat) : Int) = 1 := kind_root (by omega)
    rw [h3]; decide
  · rw [kind_of (by omega) h]
    by_cases e : (kidsN u i).length = 0
    · rw [if_pos e]; decide
    · rw [if_neg e]; decide
theorem last_dev {u : List Int} (hp : Par u) (h2 : 2 ≤ u.length) : u.length - 1 ∈ devsN u := by
  refine mem_devs.2 ⟨by omega, ?_⟩
  refine (kind_leaf hp h2 (by omega)).1 ?_
  rcases e : kidsN u ((u.length - 1 : Nat) : Int) with _ | ⟨j, l⟩
  · rfl
  · have hj : j ∈ kidsN u ((u.length - 1 : Nat) : Int) := by rw [e]; simp
    obtain ⟨h1, h3, h4⟩ := mem_kids.1 hj
    have := (hp j h1 h3).2
    omega
theorem devs_pos {u : List Int} (hp : Par u) (h2 : 2 ≤ u.length) : 1 ≤ (devsN u).length := List.length_pos_of_mem (last_dev hp h2)

/-- One node more below the root. -/
theorem more_get (u : List Int) (i : Nat) : (u ++ [0]).getD i 0 = u.getD i 0 := by
  rcases Nat.lt_trichotomy i u.length with h | h | h
  · simp [List.getElem?_append_left h]
  · subst h; simp
  · simp [List.getElem?_eq_none (show u.length ≤ i by omega), List.getElem?_eq_none (show (u ++ [0]).length ≤ i by rw [List.length_append, List.length_singleton]; omega)]
theorem more_len (u : List Int) : (u ++ [0]).length = u.length + 1 := by rw [List.length_append, List.length_singleton]
theorem more_par {u : List Int} (hp : Par u) (h : 0 < u.length) : Par (u ++ [0]) := fun i h0 hi => by
  rw [more_get]
  rw [more_len] at hi
  by_cases e : i < u.length
  · exact hp i h0 e
  · have : u.getD i 0 = 0 := by simp [List.getElem?_eq_none (show u.length ≤ i by omega)]
    rw [this]; omega
theorem more_kids {u : List Int} (h : 0 < u.length) (n : Int) : kidsN (u ++ [0]) n = kidsN u n ++ (if n = 0 then [u.length] else []) := by
  unfold kidsN
  rw [more_len, List.range_succ, List.filter_append]
  simp only [more_get]
  congr 1
  have hd : u.getD u.length 0 = 0 := by simp
  by_cases e : n = 0
  · subst e
    rw [if_pos rfl, List.filter_cons, hd]
    simp [h]
  · rw [if_neg e, List.filter_cons, hd]
    have : ¬ (0 : Int) = n := fun h => e h.symm
    simp [this]
theorem more_kids_no {u : List Int} (h : 0 < u.length) {n : Int} (hn : n ≠ 0) : kidsN (u ++ [0]) n = kidsN u n := by rw [more_kids h, if_neg hn, List.append_nil]
theorem more_kids_root {u : List Int} (h : 0 < u.length) : kidsN (u ++ [0]) 0 = kidsN u 0 ++ [u.length] := by rw [more_kids h, if_pos rfl]
theorem more_deep {u : List Int} (hp : Par u) {i : Nat} (h : i < u.length) : deepL (u ++ [0]) i = deepL u i := by
  have hp2 := more_par hp (by omega)
  unfold deepL
  rw [deepF_at hp2 (u.length + 1) _ i (by omega) (by rw [more_len]; omega), deepF_at hp u.length _ i (by omega) (by omega)]
  have : ∀ (f : Nat) (j : Nat), j < u.length → deepF (u ++ [0]) f j = deepF u f j := fun f => by
    induction f with
    | zero => intro j _; rfl
    | succ f ih =>
      intro j hj
      unfold deepF
      have et : ((j : Nat) : Int).toNat = j := by omega
      rw [et, more_get, more_len]
      by_cases h0 : 0 < j
      · obtain ⟨h1, h2⟩ := hp j h0 hj
        rw [if_pos ⟨by omega, by omega, by omega⟩, if_pos ⟨by omega, by omega, by omega⟩]
        obtain ⟨k, hk⟩ : ∃ k : Nat, u.getD j 0 = k := ⟨(u.getD j 0).toNat, by omega⟩
        rw [hk, ih k (by omega)]
      · rw [if_neg (by omega), if_neg (by omega)]
  exact this i i h
theorem more_deep_new {u : List Int} (hp : Par u) (h : 0 < u.length) : deepL (u ++ [0]) u.length = 1 := by
  have hp2 := more_par hp h
  have hd : u.getD u.length 0 = 0 := by simp
  have h1 := deep_kid hp2 (i := 0) (j := u.length) h (by rw [more_len]; omega) (by rw [more_get, hd]; rfl)
  rw [h1]
  have h2 : deepL (u ++ [0]) ((0 : Nat) : Int) = 0 := deep_zero _
  rw [h2]
theorem more_deepest {u : List Int} (hp : Par u) (h : 2 ≤ u.length) : deepest (u ++ [0]) = deepest u := by
  have h1 : 1 ≤ deepest u := by
    have h2 := deep_le (u := u) (i := 1) (by omega)
    have h3 := hp 1 (by omega) (by omega)
    have h4 := deep_kid hp (i := 0) (j := 1) (by omega) (by omega) (by omega)
    omega
  apply Nat.le_antisymm
  · refine deepest_le fun i hi => ?_
    rw [more_len] at hi
    by_cases e : i < u.length
    · rw [more_deep hp e]; exact deep_le e
    · obtain rfl : i = u.length := by omega
      rw [more_deep_new hp (by omega)]; exact h1
  · refine deepest_le fun i hi => ?_
    rw [← more_deep hp hi]; exact deep_le (by rw [more_len]; omega)
theorem more_kind {u : List Int} (h2 : 0 < u.length) {i : Nat} (h : i < u.length) : kindL (u ++ [0]) i = kindL u i := by
  by_cases h0 : i = 0
  · subst h0
    have h3 : kindL u ((0 : Nat) : Int) = 1 := kind_root (by omega)
    have h4 : kindL (u ++ [0]) ((0 : Nat) : Int) = 1 := kind_root (by rw [more_len]; omega)
    rw [h3, h4]
  · rw [kind_of (by omega) h, kind_of (by omega) (by rw [more_len]; omega), more_kids_no h2 (by omega)]
theorem more_kind_new {u : List Int} (hp : Par u) (h : 0 < u.length) : kindL (u ++ [0]) u.length = 3 := by
  rw [kind_of h (by rw [more_len]; omega), more_kids_no h (by omega)]
  rcases e : kidsN u (u.length : Int) with _ | ⟨j, l⟩
  · rfl
  · have hj : j ∈ kidsN u (u.length : Int) := by rw [e]; simp
    obtain ⟨h1, h3, h4⟩ := mem_kids.1 hj
    have := (hp j h1 h3).2
    omega
theorem more_devs {u : List Int} (hp : Par u) (h : 0 < u.length) : devsN (u ++ [0]) = devsN u ++ [u.length] := by
  unfold devsN
  rw [more_len, List.range_succ, List.filter_append]
  congr 1
  · exact List.filter_congr fun i hi => by rw [more_kind h (List.mem_range.1 hi)]
  · rw [List.filter_cons, more_kind_new hp h]; rfl
theorem Right.more {p : Pn} (h : Right p) : Right { p with u := p.u ++ [0] } ↔ p.u.length + 1 ≤ 12 ∧ (kidsN p.u 0).length < 4 ∧ (devsN p.u).length < 8 := by
  have h2 := h.n2
  constructor
  · intro g
    have g1 := g.n12
    have g2 := g.kids 0 (by show 0 < (p.u ++ [0]).length; rw [more_len]; omega)
    have g3 := g.devs
    simp only at g1 g2 g3
    rw [more_len] at g1
    rw [more_devs h.par (by omega), List.length_append, List.length_singleton] at g3
    have e0 : (((0 : Nat) : Int)) = 0 := rfl
    rw [e0, more_kids_root (by omega), List.length_append, List.length_singleton] at g2
    exact ⟨g1, by omega, by omega⟩
  · rintro ⟨g1, g2, g3⟩
    exact {
      n2 := by show 2 ≤ (p.u ++ [0]).length; rw [more_len]; omega
      n12 := by show (p.u ++ [0]).length ≤ 12; rw [more_len]; omega
      up0 := by show (p.u ++ [0]).getD 0 0 = -1; rw [more_get]; exact h.up0
      par := more_par h.par (by omega)
      deep := fun i hi => by
        have hi : i < (p.u ++ [0]).length := hi
        rw [more_len] at hi
        show deepL (p.u ++ [0]) i ≤ 4
        by_cases e : i < p.u.length
        · rw [more_deep h.par e]; exact h.deep i e
        · obtain rfl : i = p.u.length := by omega
          rw [more_deep_new h.par (by omega)]; decide
      kids := fun i hi => by
        have hi : i < (p.u ++ [0]).length := hi
        rw [more_len] at hi
        show (kidsN (p.u ++ [0]) i).length ≤ 4
        by_cases e : i = 0
        · subst e
          have e0 : (((0 : Nat) : Int)) = 0 := rfl
          rw [e0, more_kids_root (by omega), List.length_append, List.length_singleton]; omega
        · rw [more_kids_no (by omega) (by omega)]
          by_cases e2 : i < p.u.length
          · exact h.kids i e2
          · obtain rfl : i = p.u.length := by omega
            have h5 := more_kind_new h.par (show 0 < p.u.length by omega)
            rw [kind_of (by omega) (by rw [more_len]; omega), more_kids_no (by omega) (by omega)] at h5
            by_cases e3 : (kidsN p.u p.u.length).length = 0
            · omega
            · rw [if_neg e3] at h5; exact absurd h5 (by decide)
      devs := by
        show (devsN (p.u ++ [0])).length ≤ 8
        rw [more_devs h.par (by omega), List.length_append, List.length_singleton]; omega
      q := h.q
      r := h.r
      b := h.b
      w := h.w
      c := h.c
      k := h.k
      i := h.i
      l := by
        show 2 * (deepest (p.u ++ [0]) : Int) * (p.w + 2) < p.l ∧ p.l ≤ 1000
        rw [more_deepest h.par h2]; exact h.l }
end Pln

/- Small words that all texts share. -/
namespace Go.Proofs.Ytmmfjmhemknpgaa
open Go.RowKit

theorem ret_int {k : IntKind} {a b : Int} (h : a = b) : Ending.returned (.int k a) = .returned (.int k b) := by rw [h]
theorem ret_bool {a b : Bool} (h : b = a) : Ending.returned (.bool a) = .returned (.bool b) := by rw [h]
theorem ret_of {a b : Value} (h : a = b) : Ending.returned a = Ending.returned b := by rw [h]

/-- What was there reads as it did. -/
theorem bcell {W w1 : World} (hb : Below W.heap.size W w1) : (∀ b o, b < W.heap.size → w1.cell? ⟨b, o, none⟩ = W.cell? ⟨b, o, none⟩) ∧ (∀ b o, b < W.heap.size → w1.frozen? ⟨b, o, none⟩ = W.frozen? ⟨b, o, none⟩) :=
  ⟨fun b o h => hb.cell (p := ⟨b, o, none⟩) h, fun b o h => hb.frozen (p := ⟨b, o, none⟩) h⟩
theorem below_then {w w1 w2 : World} (h : Below w.heap.size w w1) (k : Below w1.heap.size w1 w2) : Below w.heap.size w w2 := h.trans (k.mono h.size)
theorem below_alloc {w w1 : World} (h : Below w.heap.size w w1) (o : Obj) : Below w.heap.size w (w1.alloc o) := h.alloc h.size o
theorem below_drew {W w : World} (h : Below W.heap.size W w) (n : Nat) : Below W.heap.size W (w.drewN n) := ⟨h.os, h.tape, h.output, h.size, h.block⟩

theorem alloc_size (w : World) (o : Obj) : (w.alloc o).heap.size = w.heap.size + 1 := by simp
def i64 (n : Int) : Prop := -9223372036854775808 ≤ n ∧ n ≤ 9223372036854775807

/-- The bytes of a text. -/
def L (s : ByteArray) : List UInt8 := s.data.toList
theorem L_len (s : ByteArray) : (L s).length = s.size := by unfold L; simp
theorem L_at (s : ByteArray) (i : Nat) (h : i < s.size) : (L s)[i]'(by rw [L_len]; exact h) = s[i] := rfl
theorem L_inj {a b : ByteArray} (h : L a = L b) : a = b := by
  unfold L at h; cases a; cases b; simp at h; rw [h]
theorem L_app (a b : ByteArray) : L (a ++ b) = L a ++ L b := by unfold L; simp
theorem ne_list {a b : ByteArray} (h : ¬ a = b) : ¬ a.toList = b.toList := by
  intro e
  rw [Lib.toList_data, Lib.toList_data] at e
  exact h (L_inj e)
theorem ne_beq {a b : ByteArray} (h : ¬ a = b) : (a.toList == b.toList) = false := by simpa using ne_list h

end Go.Proofs.Ytmmfjmhemknpgaa

/- Rows and slices of structs, whatever the struct: what lies where, what is cut out, what append makes. No function of the program in it. -/
namespace Go.Proofs.Ytmmfjmhemknpgaa
open Go.RowKit

/-- A kind of element: its type, how many cells it has, and which. -/
structure El (α : Type) where
  e : TypeId
  k : Nat
  c : α → List Value
  len : ∀ x, (c x).length = k
  one : ∀ x, ∀ u ∈ c x, u.oneCell' = true
  pos : 0 < k
section
variable {α : Type} (E : El α)
/-- From the cell o of block b on x lies. -/
def El.At (w : World) (b o : Nat) (x : α) : Prop := ∀ j u, (E.c x)[j]? = some u → w.cell? ⟨b, o + j, none⟩ = some u
/-- The slice at A holds these. -/
def El.Sl (w : World) (A : Option Addr) (l : List α) : Prop :=
  0 < l.length → ∃ b off, A = some ⟨b, off, none⟩ ∧ b < w.heap.size ∧ ∀ i (h : i < l.length), E.At w b (off + i * E.k) l[i]
/-- So, in a block ahead of B. -/
def El.SlB (B : Nat) (w : World) (A : Option Addr) (l : List α) : Prop :=
  0 < l.length → ∃ b off, A = some ⟨b, off, none⟩ ∧ b < B ∧ ∀ i (h : i < l.length), E.At w b (off + i * E.k) l[i]
/-- Block b is x's own. -/
def El.In (w : World) (b : Nat) (x : α) : Prop := w.heap[b]? = some (.cells (E.c x).toArray E.e (0, 0))
variable {E}
section
variable {W w w' : World} {b o B : Nat} {x : α} {A : Option Addr} {l : List α} {row : Option Nat}
theorem El.At.below (h : E.At W b o x) (hb : Below W.heap.size W w) (hl : b < W.heap.size) : E.At w b o x := fun j u hu => by rw [(bcell hb).1 _ _ hl]; exact h j u hu
theorem El.At.grown (h : E.At w b o x) (hg : w.grownBy w' row) (hne : some b ≠ row) : E.At w' b o x := fun j u hu => hg.cell (h j u hu) hne
theorem El.Sl.below (h : E.Sl W A l) (hb : Below W.heap.size W w) : E.Sl w A l := fun h0 => by
  obtain ⟨b, off, e, hl, hc⟩ := h h0
  exact ⟨b, off, e, Nat.lt_of_lt_of_le hl hb.size, fun i hi => (hc i hi).below hb hl⟩
theorem El.Sl.nil (w : World) (A : Option Addr) : E.Sl w A [] := fun h => by simp at h
theorem El.Sl.none_nil (h : E.Sl w none l) : l = [] := by
  rcases Nat.eq_zero_or_pos l.length with h0 | h0
  · exact List.eq_nil_of_length_eq_zero h0
  · obtain ⟨_, _, e, _⟩ := h h0; cases e
theorem El.Sl.take (h : E.Sl w A l) (n : Nat) : E.Sl w A (l.take n) := fun h0 => by
  have hk : (l.take n).length ≤ l.length := by rw [List.length_take]; omega
  obtain ⟨b, off, e, hb, hc⟩ := h (by omega)
  exact ⟨b, off, e, hb, fun i hi => by rw [List.getElem_take]; exact hc i (by omega)⟩
theorem El.Sl.drop {A3 : Option Addr} {cap to : Nat} (h : E.Sl w A l) (hcap : l.length ≤ cap) (he : (if cap = to then A else Option.map (fun x => x.add (to * E.k)) A) = A3) : E.Sl w A3 (l.drop to) := fun h0 => by
  rw [List.length_drop] at h0
  obtain ⟨b, off, e, hb, hc⟩ := h (by omega)
  rw [if_neg (by omega), e] at he
  refine ⟨b, off + to * E.k, by rw [← he]; simp [Addr.add_lit], hb, fun i hi => ?_⟩
  rw [List.length_drop] at hi
  rw [List.getElem_drop, Nat.add_assoc, ← Nat.add_mul]
  exact hc _ (by omega)
theorem El.drop_none {A3 : Option Addr} {cap to n : Nat} (hn : A = none → cap = 0) (he : (if cap = to then A else Option.map (fun x => x.add n) A) = A3) (h : A3 = none) : cap - to = 0 := by
  by_cases e : cap = to
  · omega
  · rw [if_neg e, h, Option.map_eq_none_iff] at he
    have := hn he; omega
theorem El.SlB.of (h : E.Sl w A l) (hB : w.heap.size ≤ B) : E.SlB B w A l := fun h0 => by
  obtain ⟨b, off, e, hl, hc⟩ := h h0
  exact ⟨b, off, e, by omega, hc⟩
theorem El.SlB.sl (h : E.SlB B w A l) (hB : B ≤ w.heap.size) : E.Sl w A l := fun h0 => by
  obtain ⟨b, off, e, hl, hc⟩ := h h0
  exact ⟨b, off, e, by omega, hc⟩
theorem El.SlB.keep (h : E.SlB B w A l) (hg : w.grownBy w' row) (hrow : ∀ n, row = some n → B ≤ n) : E.SlB B w' A l := fun h0 => by
  obtain ⟨b, off, e, hl, hc⟩ := h h0
  exact ⟨b, off, e, hl, fun i hi => (hc i hi).grown hg (fun e => by have := hrow b e.symm; omega)⟩
theorem El.Sl.keep1 {a : Addr} (h : E.Sl w (some a) l) (hg : w.grownBy w' row) (hne : some a.block ≠ row) : E.Sl w' (some a) l := fun h0 => by
  obtain ⟨b, off, e, hl, hc⟩ := h h0
  cases e
  exact ⟨b, off, rfl, Nat.lt_of_lt_of_le hl hg.size, fun i hi => (hc i hi).grown hg hne⟩
theorem El.Sl.keep (h : E.Sl w A l) (hg : w.grownBy w' row) (hne : ∀ a, A = some a → some a.block ≠ row) : E.Sl w' A l := fun h0 => by
  obtain ⟨b, off, e, hl, hc⟩ := h h0
  exact ⟨b, off, e, Nat.lt_of_lt_of_le hl hg.size, fun i hi => (hc i hi).grown hg (hne _ e)⟩

theorem El.In.lt (h : E.In w b x) : b < w.heap.size := by
  rcases Nat.lt_or_ge b w.heap.size with hlt | hge
  · exact hlt
  · unfold El.In at h; rw [Array.getElem?_eq_none hge] at h; cases h
theorem El.In.cell (h : E.In w b x) (j : Nat) : w.cell? ⟨b, j, none⟩ = (E.c x)[j]? := by
  have := cell_of_row w b j _ E.e (0, 0) h
  rw [this]; simp
theorem El.In.at (h : E.In w b x) : E.At w b 0 x := fun j u hu => by rw [Nat.zero_add, h.cell]; exact hu
theorem El.In.frozen (h : E.In w b x) (i : Nat) : w.frozen? ⟨b, i, none⟩ = false := by
  unfold El.In at h
  simp [World.frozen?, h]
theorem El.In.new (w : World) (x : α) (cs : Array Value) (hc : cs = (E.c x).toArray) : E.In (w.alloc (.cells cs E.e)) w.heap.size x := by subst hc; exact heap_alloc_new w _
theorem El.In.below (h : E.In w b x) (hg : Below w.heap.size w w') : E.In w' b x := (hg.block b h.lt).trans h
theorem El.In.keep (h : E.In w b x) (hg : w.grownBy w' row) (hne : some b ≠ row) : E.In w' b x := (hg.block b h.lt hne).trans h
theorem El.In.alloc (h : E.In w b x) (o : Obj) : E.In (w.alloc o) b x := h.below (below_alloc (Below.refl _ _) o)
theorem El.In.set (h : E.In w b x) (y : α) (cs : Array Value) (hc : cs = (E.c y).toArray) : E.In (w.setRow b cs) b y := by subst hc; exact setRow_heap _ _ _ _ _ _ h
theorem El.In.put (h : E.In w b x) (y : α) (j : Nat) (u : Value) (hy : E.c y = (E.c x).set j u) : E.In (w.setCell ⟨b, j, none⟩ u) b y := by
  unfold El.In at h ⊢
  rw [hy]
  simp [World.setCell, Array.getElem?_modify, h]
theorem El.In.other (h : E.In w b x) (n i : Nat) (v : Value) (hne : b ≠ n) : E.In (w.setCell ⟨n, i, none⟩ v) b x :=
  (Below.heap_setCell w ⟨n, i, none⟩ v b hne).trans h
theorem El.In.rowN (h : E.In w b x) (n : Nat) (cs : Array Value) (hne : b ≠ n) : E.In (w.setRow n cs) b x := (setRow_other w n b cs hne).trans h
theorem El.In.sl (h : E.In w b x) : E.Sl w (some ⟨b, 0, none⟩) [x] := fun _ =>
  ⟨b, 0, rfl, h.lt, fun i hi => by
    obtain rfl : i = 0 := by simpa using hi
    rw [Nat.zero_mul]; exact h.at⟩
end

variable (E)
/-- The cells of a list. -/
def El.cells : List α → List Value
  | [] => []
  | x :: l => E.c x ++ El.cells l
variable {E}
theorem El.cells_len : ∀ l : List α, (E.cells l).length = l.length * E.k
  | [] => by simp [El.cells]
  | x :: l => by rw [El.cells, List.length_append, E.len, El.cells_len l, List.length_cons, Nat.succ_mul, Nat.add_comm]
theorem El.cells_app : ∀ l r : List α, E.cells (l ++ r) = E.cells l ++ E.cells r
  | [], r => rfl
  | x :: l, r => by rw [List.cons_append, El.cells, El.cells, El.cells_app l r, List.append_assoc]
theorem El.cells_one : ∀ l : List α, ∀ u ∈ E.cells l, u.oneCell' = true
  | [], u, h => by cases h
  | x :: l, u, h => by
    rcases List.mem_append.1 h with h | h
    · exact E.one x u h
    · exact El.cells_one l u h
theorem El.cells_at : ∀ (l : List α) (i : Nat) (h : i < l.length) (j : Nat) (u : Value), (E.c l[i])[j]? = some u → (E.cells l)[i * E.k + j]? = some u
  | x :: l, 0, _, j, u, hu => by
    rw [Nat.zero_mul, Nat.zero_add, El.cells, List.getElem?_append_left]
    · exact hu
    · have := (List.getElem?_eq_some_iff.1 hu).1; exact this
  | x :: l, i + 1, h, j, u, hu => by
    have := El.cells_at l i (by simpa using h) j u hu
    rw [El.cells, List.getElem?_append_right (by rw [E.len, Nat.succ_mul]; omega), E.len, Nat.succ_mul]
    rw [show i * E.k + E.k + j - E.k = i * E.k + j by omega]; exact this
theorem El.cells_get : ∀ (l : List α) (n : Nat) (u : Value), (E.cells l)[n]? = some u → ∃ i, ∃ h : i < l.length, ∃ j, n = i * E.k + j ∧ (E.c l[i])[j]? = some u
  | [], n, u, h => by simp [El.cells] at h
  | x :: l, n, u, h => by
    rw [El.cells] at h
    by_cases hn : n < E.k
    · rw [List.getElem?_append_left (by rw [E.len]; exact hn)] at h
      exact ⟨0, by simp, n, by rw [Nat.zero_mul, Nat.zero_add], h⟩
    · rw [List.getElem?_append_right (by rw [E.len]; omega), E.len] at h
      obtain ⟨i, hi, j, e, hu⟩ := El.cells_get l (n - E.k) u h
      exact ⟨i + 1, by simpa using hi, j, by rw [Nat.succ_mul]; omega, hu⟩
theorem El.Sl.cells {w : World} {a : Addr} {l : List α} (h : E.Sl w (some a) l) : ∀ j u, (E.cells l)[j]? = some u → w.cell? (a.add j) = some u := by
  intro n u hu
  obtain ⟨i, hi, j, rfl, hc⟩ := El.cells_get l n u hu
  obtain ⟨b, off, e, _, hat⟩ := h (by omega)
  obtain rfl := Option.some.inj e
  rw [Addr.add_lit, ← Nat.add_assoc]
  exact hat i hi j u hc

variable (E)
/-- The slice v holds these, in a row that the call has made. -/
def El.Own (w : World) (B : Nat) (v : Value) (l : List α) : Prop := w.ownsRow B E.e E.k v l.length (E.cells l)
variable {E}
section
variable {w w' : World} {B : Nat} {v : Value} {l : List α} {row : Option Nat}
theorem El.Own.nil (w : World) (B : Nat) : E.Own w B (.slice none 0 0) [] := World.ownsRow_nil w B E.e E.k
theorem El.Own.kept (h : E.Own w B v l) (hg : w.grownBy w' row) (hne : v.ownBlock = none ∨ v.ownBlock ≠ row) : E.Own w' B v l := World.ownsRow.kept h hg hne
theorem El.Own.below (h : E.Own w B v l) (hb : Below w.heap.size w w') : E.Own w' B v l :=
  World.ownsRow.kept h (row := none) ⟨hb.os, hb.tape, hb.output, hb.size, fun k hk _ => hb.block k hk⟩ (by cases hv : v.ownBlock <;> simp)
theorem El.Own.lt (h : E.Own w B v l) : ∀ n, v.ownBlock = some n → B ≤ n ∧ n < w.heap.size := World.ownsRow.lt h
theorem El.Own.rows (h : E.Own w B v l) : ∀ n, v.ownBlock = some n → B ≤ n := fun n e => (World.ownsRow.lt h n e).1
theorem El.Own.sl (h : E.Own w B v l) : ∃ A cap, v = .slice A l.length cap ∧ E.Sl w A l ∧ (A = none → cap = 0) ∧ l.length ≤ cap := by
  have hc := fun g (hg : v.ownBlock = some g) => World.ownsRow.cells h hg
  have hlt := World.ownsRow.lt h
  unfold El.Own at h
  rcases h.2 with ⟨rfl, h0⟩ | ⟨g, cap, cur, rfl, _, _, hnc, _⟩
  · have : l = [] := List.eq_nil_of_length_eq_zero h0
    subst this
    exact ⟨none, 0, rfl, El.Sl.nil w none, fun _ => rfl, Nat.le_refl _⟩
  · refine ⟨some ⟨g, 0, none⟩, cap, rfl, fun _ => ⟨g, 0, rfl, (hlt g rfl).2, fun i hi j u hu => ?_⟩, (fun e => by cases e), hnc⟩
    have := hc g rfl _ _ (El.cells_at l i hi j u hu)
    rw [Addr.add_lit, ← Nat.add_assoc] at this; exact this
theorem El.Own.empty (w : World) (B : Nat) (hB : B ≤ w.heap.size) : E.Own (w.alloc (.cells #[] E.e)) B (.slice (some ⟨w.heap.size, 0, none⟩) 0 0) [] :=
  World.ownsRow_made w #[] 0 hB (by unfold maxLen; omega) (Nat.zero_mul _).symm
end

/-- What a program says of the kind: its slices' type, and the type's zero. -/
structure El.Inn (E : El α) (P : Program) (st : TypeId) : Prop where
  und : P.underlying st = some (.slice E.e)
  info : ∃ i z, P.info? E.e = some i ∧ i.zero = some z ∧ i.size = E.k ∧ i.bytes ≤ 1000 ∧ z.cells.size = E.k
theorem El.inn_of {P : Program} {st : TypeId} {z : Value} {bytes : Nat} (hu : P.underlying st = some (.slice E.e)) (h : (P.info? E.e).map (fun i => (i.zero, i.size, i.bytes)) = some (some z, E.k, bytes)) (hz : z.cells.size = E.k) (hb : bytes ≤ 1000) : E.Inn P st := by
  obtain ⟨i, hi, hz0, hz1, hz2⟩ := info_parts h
  exact ⟨hu, i, z, hi, hz0, hz1, by rw [hz2]; exact hb, hz⟩
variable {P : Program} {st : TypeId}
theorem El.run_app (I : E.Inn P st) (w : World) (ty : TypeId) (B : Nat) (v : Value) (l r : List α) (hown : E.Own w B v l) (A : Option Addr) (m c : Nat) (hm : r.length = m) (hT : E.Sl w A r) (hc : A = none → c = 0) (hl : l.length + r.length ≤ 100000) (hB : B ≤ w.heap.size) :
    ∃ v' w', (Builtin.append_ #[st, st] ty #[v, .slice A m c]).run P w = .ok v' w' ∧ E.Own w' B v' (l ++ r) ∧ w.grownBy w' v.ownBlock ∧ (v'.ownBlock = v.ownBlock ∨ v'.ownBlock = some w.heap.size) := by
  subst hm
  obtain ⟨hu, i, z, hi, hz, hsz, hby, hzs⟩ := I
  cases A with
  | none =>
    obtain rfl := hT.none_nil
    obtain rfl := hc rfl
    refine ⟨v, w, run_append_owned_none (P := P) (w := w) B st ty E.e i E.k hu hi v l.length (E.cells l) hown, ?_, ⟨rfl, rfl, rfl, Nat.le_refl _, fun _ _ _ => rfl⟩, Or.inl rfl⟩
    rw [List.append_nil]; exact hown
  | some a =>
    have hb : (l.length + r.length) * i.bytes ≤ 100000 * 1000 := Nat.mul_le_mul hl hby
    obtain ⟨v', w', h1, h2, h3, _, h5⟩ := run_append_own_at (P := P) w B st ty E.e i z E.k i.bytes hu hi hz hsz rfl hzs E.pos v l.length (E.cells l) hown a r.length c (E.cells r) (El.cells_len r) hT.cells (El.cells_one r) (by unfold maxLen; omega) (by omega) hB
    refine ⟨v', w', h1, ?_, h3, h5⟩
    unfold El.Own
    rw [List.length_append, El.cells_app]; exact h2
theorem El.wp_app (I : E.Inn P st) {o : Oper} {a : Act} {w : World} {K : Act → World → Prop} {Q : Exit → Act → World → Prop} (s x : Operand)
    (ho : o.op = .call { callee := .builtin .append, args := #[s, x], argTypes := #[st, st] }) (B : Nat) (v : Value) (l r : List α) (hs : a.eval s = v) (hown : E.Own w B v l) (A : Option Addr) (m c : Nat) (hx : a.eval x = .slice A m c)
    (hm : r.length = m) (hT : E.Sl w A r) (hc : A = none → c = 0) (hl : l.length + r.length ≤ 100000) (hB : B ≤ w.heap.size)
    (h : ∀ v' w', E.Own w' B v' (l ++ r) → w.grownBy w' v.ownBlock → (v'.ownBlock = v.ownBlock ∨ v'.ownBlock = some w.heap.size) → K (a.put o.dst v') w') : o.wp P a w K Q := by
  obtain ⟨v', w', hr, h2, h3, h4⟩ := El.run_app I w o.type B v l r hown A m c hm hT hc hl hB
  unfold Oper.wp execOp
  simp only [ho, resolve, invoke, builtin, Sem.run_bind, Sem.run_pure, Result.andThen_ok, List.map_toArray, List.map_cons, List.map_nil, hs, hx, hr]
  exact h v' w' h2 h3 h4
theorem El.wpList_app (I : E.Inn P st) {ops : Array Oper} {rest : List Oper} {o : Oper} {a : Act} {w : World} {Q : Exit → Act → World → Prop} (hgd : o.guard = none) (s x : Operand)
    (ho : o.op = .call { callee := .builtin .append, args := #[s, x], argTypes := #[st, st] }) (B : Nat) (v : Value) (l r : List α) (hs : a.eval s = v) (hown : E.Own w B v l) (A : Option Addr) (m c : Nat) (hx : a.eval x = .slice A m c)
    (hm : r.length = m) (hT : E.Sl w A r) (hc : A = none → c = 0) (hl : l.length + r.length ≤ 100000) (hB : B ≤ w.heap.size)
    (h : ∀ v' w', E.Own w' B v' (l ++ r) → w.grownBy w' v.ownBlock → (v'.ownBlock = v.ownBlock ∨ v'.ownBlock = some w.heap.size) → wpList P ops Q rest (a.put o.dst v') w') : wpList P ops Q (o :: rest) a w :=
  wpList_plain hgd fun _ hK => El.wp_app I s x ho B v l r hs hown A m c hx hm hT hc hl hB fun v' w' h2 h3 h4 => hK _ _ (h v' w' h2 h3 h4)
theorem El.step_app (I : E.Inn P st) {ops : Array Oper} {o : Oper} {a : Act} {w : World} {K : Act → World → Prop} {Q : Exit → Act → World → Prop} {F : Prop} (hgd : o.guard = none) (s x : Operand)
    (ho : o.op = .call { callee := .builtin .append, args := #[s, x], argTypes := #[st, st] }) (B : Nat) (v : Value) (l r : List α) (hs : a.eval s = v) (hown : E.Own w B v l) (A : Option Addr) (m c : Nat) (hx : a.eval x = .slice A m c)
    (hm : r.length = m) (hT : E.Sl w A r) (hc : A = none → c = 0) (hl : l.length + r.length ≤ 100000) (hB : B ≤ w.heap.size)
    (h : ∀ v' w', E.Own w' B v' (l ++ r) → w.grownBy w' v.ownBlock → (v'.ownBlock = v.ownBlock ∨ v'.ownBlock = some w.heap.size) → K (a.put o.dst v') w') :
    if Region.wanted o (yielded ops a.tmps) = true then Oper.wp P o a w K Q else F := by
  rw [if_pos (by simp [Region.wanted, hgd])]
  exact El.wp_app I s x ho B v l r hs hown A m c hx hm hT hc hl hB h

/-- What a program says of the kind as a struct. -/
def isRow : TypeDesc → Bool
  | .struct _ => true
  | .array _ _ => true
  | _ => false
structure El.Row (E : El α) (P : Program) : Prop where
  size : (P.info? E.e).map (·.size) = some E.k
  desc : ∃ d, P.underlying E.e = some d ∧ isRow d = true
theorem El.run_load (R : El.Row E P) {w : World} {b off : Nat} {x : α} (h : E.At w b off x) : (loadVar E.e ⟨b, off, none⟩).run P w = .ok (.agg (E.c x).toArray) w := by
  obtain ⟨d, hu, hd⟩ := R.desc
  have hs0 := R.size
  have hl : (loadCells ⟨b, off, none⟩ (E.c x).length).run P w = .ok (E.c x).toArray w :=
    run_loadCells_list (P := P) w ⟨b, off, none⟩ (E.c x) (fun j v hv => by rw [Addr.add_lit]; exact h j v hv)
  cases hq : P.info? E.e with
  | none => simp [hq] at hs0
  | some i =>
    have hs : i.size = (E.c x).length := by rw [E.len]; simpa [hq] using hs0
    have hagg : (isAgg E.e).run P w = .ok true w := by
      unfold isAgg
      rw [Sem.run_bind, run_underlying hu w]
      cases d <;> simp_all [isRow]
    simp [loadVar, Sem.run_bind, hagg, sizeOf, typeInfo, hq, hs, hl]
theorem El.wp_load (R : El.Row E P) {o : Oper} {a : Act} {w : World} {K : Act → World → Prop} {Q : Exit → Act → World → Prop} (x : Operand) (ho : o.op = .load E.e x)
    (b off : Nat) (hx : a.eval x = .pointer (some ⟨b, off, none⟩)) (p : α) (hg : E.At w b off p) (cs : Array Value) (hc : cs = (E.c p).toArray)
    (h : K (a.put o.dst (.agg cs)) w) : o.wp P a w K Q := by
  subst hc
  unfold Oper.wp execOp
  simp only [ho, hx, Instr.loadAt, Instr.sureAddr, Sem.run_bind, Sem.run_pure, Result.andThen_ok, El.run_load R hg]
  exact h
theorem El.load (R : El.Row E P) {ops : Array Oper} {rest : List Oper} {o : Oper} {a : Act} {w : World} {Q : Exit → Act → World → Prop} (hgd : o.guard = none) (x : Operand) (ho : o.op = .load E.e x)
    (b off : Nat) (hx : a.eval x = .pointer (some ⟨b, off, none⟩)) (p : α) (hg : E.At w b off p) (cs : Array Value) (hc : cs = (E.c p).toArray)
    (h : wpList P ops Q rest (a.put o.dst (.agg cs)) w) : wpList P ops Q (o :: rest) a w :=
  wpList_plain hgd fun _ hK => El.wp_load R x ho b off hx p hg cs hc (hK _ _ h)
theorem El.store (R : El.Row E P) {ops : Array Oper} {rest : List Oper} {o : Oper} {a : Act} {w : World} {Q : Exit → Act → World → Prop} (hgd : o.guard = none) (x y : Operand) (ho : o.op = .store E.e x y)
    (b : Nat) (q : α) (cs : Array Value) (hc : cs = (E.c q).toArray) (hx : a.eval x = .pointer (some ⟨b, 0, none⟩)) (hy : a.eval y = .agg cs)
    (p : α) (hg : E.In w b p)
    (h : wpList P ops Q rest (a.put o.dst undef) (w.setRow b cs)) : wpList P ops Q (o :: rest) a w := by
  subst hc
  exact wpList_store_row hgd E.e x y ho b _ hx hy E.e _ hg (by simpa [E.len] using R.size) (by simp [E.len]) (by simpa using E.one q) h
theorem El.step_store (R : El.Row E P) {ops : Array Oper} {o : Oper} {a : Act} {w : World} {K : Act → World → Prop} {Q : Exit → Act → World → Prop} {F : Prop} (hgd : o.guard = none) (x y : Operand) (ho : o.op = .store E.e x y)
    (b : Nat) (q : α) (cs : Array Value) (hc : cs = (E.c q).toArray) (hx : a.eval x = .pointer (some ⟨b, 0, none⟩)) (hy : a.eval y = .agg cs)
    (p : α) (hg : E.In w b p)
    (h : K (a.put o.dst undef) (w.setRow b cs)) : if Region.wanted o (yielded ops a.tmps) = true then Oper.wp P o a w K Q else F := by
  rw [if_pos (by simp [Region.wanted, hgd])]
  subst hc
  exact wp_store_row E.e x y ho b _ hx hy E.e _ hg (by simpa [E.len] using R.size) (by simp [E.len]) (by simpa using E.one q) h
theorem El.step_load (R : El.Row E P) {ops : Array Oper} {o : Oper} {a : Act} {w : World} {K : Act → World → Prop} {Q : Exit → Act → World → Prop} {F : Prop} (hgd : o.guard = none) (x : Operand) (ho : o.op = .load E.e x)
    (b off : Nat) (hx : a.eval x = .pointer (some ⟨b, off, none⟩)) (p : α) (hg : E.At w b off p) (cs : Array Value) (hc : cs = (E.c p).toArray)
    (h : K (a.put o.dst (.agg cs)) w) : if Region.wanted o (yielded ops a.tmps) = true then Oper.wp P o a w K Q else F := by
  rw [if_pos (by simp [Region.wanted, hgd])]
  exact El.wp_load R x ho b off hx p hg cs hc h
/-- One result, a struct of a block. -/
theorem El.ret1 (R : El.Row E P) {fn : Func} {K : Ending → World → Prop} {a : Act} {w : World} {b : Nat} {t : Tmp} {p : α} (h : E.In w b p) (hr : fn.results = #[.cell t E.e]) (hp : a.tmps.getD t undef = .pointer (some ⟨b, 0, none⟩)) (hd : a.defers = [])
    (cs : Array Value) (hc : cs = (E.c p).toArray) (hR : K (.returned (.agg cs)) w) : bodyPost P fn K .ret a w := by
  subst hc
  have hp' : a.tmps[t]?.getD undef = .pointer (some ⟨b, 0, none⟩) := by simpa using hp
  refine bodyPost_ret (v := .agg (E.c p).toArray) ?_ hd hR
  simp [results, hr, hp', asAddr, El.run_load R h.at]
/-- Two results, a struct of a block and a word. -/
theorem El.ret2 (R : El.Row E P) {fn : Func} {K : Ending → World → Prop} {a : Act} {w : World} {b : Nat} {t u : Tmp} {v : Value} {p : α} (h : E.In w b p) (hr : fn.results = #[.cell t E.e, .tmp u]) (hp : a.tmps.getD t undef = .pointer (some ⟨b, 0, none⟩)) (hv : a.tmps.getD u undef = v) (hd : a.defers = [])
    (cs : Array Value) (hc : cs = (E.c p).toArray) (hR : K (.returned (.tuple #[.agg cs, v])) w) : bodyPost P fn K .ret a w := by
  subst hc
  refine bodyPost_ret (v := .tuple #[.agg (E.c p).toArray, v]) ?_ hd hR
  rw [results_cell_tmp hr, hp, hv]
  simp only [asAddr, Sem.run_pure, Result.andThen, El.run_load R h.at]
/-- Two results, a word and a struct of a block. -/
theorem El.ret3 (R : El.Row E P) {fn : Func} {K : Ending → World → Prop} {a : Act} {w : World} {b : Nat} {t u : Tmp} {v : Value} {p : α} (h : E.In w b p) (hr : fn.results = #[.tmp u, .cell t E.e]) (hp : a.tmps.getD t undef = .pointer (some ⟨b, 0, none⟩)) (hv : a.tmps.getD u undef = v) (hd : a.defers = [])
    (cs : Array Value) (hc : cs = (E.c p).toArray) (hR : K (.returned (.tuple #[v, .agg cs])) w) : bodyPost P fn K .ret a w := by
  subst hc
  refine bodyPost_ret (v := .tuple #[v, .agg (E.c p).toArray]) ?_ hd hR
  have hp' : a.tmps[t]?.getD undef = .pointer (some ⟨b, 0, none⟩) := by simpa using hp
  have hv' : a.tmps[u]?.getD undef = v := by simpa using hv
  simp [results, hr, hp', hv', asAddr, El.run_load R h.at]
end
end Go.Proofs.Ytmmfjmhemknpgaa

/- Rows of structs, whatever the struct: made, written at a place, built of one. No function of the program in it. -/
namespace Go.Proofs.Ytmmfjmhemknpgaa
open Go.RowKit

section
variable {α : Type} {E : El α}
theorem El.cells_take (l : List α) (i : Nat) (h : i ≤ l.length) : E.cells (l.take i) = (E.cells l).take (i * E.k) := by
  have e : E.cells l = E.cells (l.take i) ++ E.cells (l.drop i) := by rw [← El.cells_app, List.take_append_drop]
  have hl : (E.cells (l.take i)).length = i * E.k := by rw [El.cells_len, List.length_take, Nat.min_eq_left h]
  rw [e]; exact (List.take_left' hl).symm
theorem El.cells_drop (l : List α) (i : Nat) (h : i ≤ l.length) : E.cells (l.drop i) = (E.cells l).drop (i * E.k) := by
  have e : E.cells l = E.cells (l.take i) ++ E.cells (l.drop i) := by rw [← El.cells_app, List.take_append_drop]
  have hl : (E.cells (l.take i)).length = i * E.k := by rw [El.cells_len, List.length_take, Nat.min_eq_left h]
  rw [e]; exact (List.drop_left' hl).symm
theorem El.cells_set (l : List α) (i : Nat) (h : i < l.length) (x : α) : E.cells (l.set i x) = (E.cells l).take (i * E.k) ++ E.c x ++ (E.cells l).drop (i * E.k + E.k) := by
  rw [List.set_eq_take_append_cons_drop, if_pos h, El.cells_app, El.cells, El.cells_take l i (by omega), El.cells_drop l (i + 1) h, Nat.succ_mul, List.append_assoc]
theorem El.cells_rep (x : α) : ∀ n, (E.cells (List.replicate n x)).length = n * E.k := fun n => by rw [El.cells_len, List.length_replicate]
theorem El.made (x : α) (z : Array Value) (hz : z.toList = E.c x) (n : Nat) : (madeCells z (n * E.k)).toList = E.cells (List.replicate n x) := by
  have hzs : z.size = E.k := by rw [← Array.length_toList, hz, E.len]
  have hpos := E.pos
  apply List.ext_getElem?
  intro m
  by_cases hm : m < n * E.k
  · have h1 : m / E.k < n := Nat.div_lt_of_lt_mul (by rw [Nat.mul_comm]; exact hm)
    have h2 : m % E.k < E.k := Nat.mod_lt _ hpos
    have hu : (E.c x)[m % E.k]? = some ((E.c x)[m % E.k]'(by rw [E.len]; exact h2)) := List.getElem?_eq_getElem _
    have h3 := El.cells_at (E := E) (List.replicate n x) (m / E.k) (by simpa using h1) (m % E.k) _ (by rw [List.getElem_replicate]; exact hu)
    rw [Nat.mul_comm, Nat.div_add_mod] at h3
    rw [h3]
    simp only [madeCells, Array.getElem?_toList, Array.getElem?_map, Array.getElem?_range, hm, if_true, Option.map_some, hzs]
    congr 1
    simp only [← hz, Array.getElem_toList]
    exact getElem!_pos z _ (by omega)
  · rw [List.getElem?_eq_none (by rw [Array.length_toList, size_madeCells]; omega), List.getElem?_eq_none (by rw [El.cells_rep]; omega)]

variable {P : Program} {st : TypeId}
/-- make([]T, n). -/
theorem El.wp_make (I : E.Inn P st) (x : α) (hx : ∃ i z, P.info? E.e = some i ∧ i.zero = some z ∧ z.cells.toList = E.c x) {o : Oper} {a : Act} {w : World} {K : Act → World → Prop} {Q : Exit → Act → World → Prop} (lx cx : Operand)
    (ho : o.op = .makeSlice st lx cx) (B n c : Nat) (hl : a.eval lx = .int .i64 n) (hc : a.eval cx = .int .i64 c) (hn : c ≤ 100000) (hnc : n ≤ c) (hB : B ≤ w.heap.size)
    (h : ∀ w', E.Own w' B (.slice (some ⟨w.heap.size, 0, none⟩) n c) (List.replicate n x) → w.grownBy w' none → w.heap.size < w'.heap.size → K (a.put o.dst (.slice (some ⟨w.heap.size, 0, none⟩) n c)) w') : o.wp P a w K Q := by
  obtain ⟨hu, i, z, hi, hz, hsz, hby, hzs⟩ := I
  obtain ⟨i', z', hi', hz', hzc⟩ := hx
  rw [hi] at hi'; cases hi'
  rw [hz] at hz'; cases hz'
  have hb : i.bytes * c ≤ 1000 * 100000 := Nat.mul_le_mul hby hn
  have hb' : (i.bytes : Int) * (c : Int) ≤ 281474976710656 := by
    have h : ((i.bytes * c : Nat) : Int) ≤ 281474976710656 := by omega
    rwa [Int.natCast_mul] at h
  have hr := run_make (P := P) w st E.e i z hu hi hz .i64 .i64 n c (by omega) (by omega) hb' (by omega)
  simp only [Int.toNat_natCast] at hr
  unfold Oper.wp execOp
  simp only [ho, hl, hc, Sem.run_bind, Sem.run_pure, Result.andThen_ok, hr]
  refine h _ ⟨by rw [List.length_replicate, El.cells_rep], .inr ⟨w.heap.size, c, _, ?_, hB, heap_alloc_new w _, ?_, by unfold maxLen; omega, ?_, ?_⟩⟩ (World.grownBy_alloc w _ none) (by simp)
  · rw [List.length_replicate]
  · rw [List.length_replicate]; exact hnc
  · rw [size_madeCells, hsz]
  · rw [hsz, El.made x z.cells hzc c, List.length_replicate, ← El.cells_rep (E := E) x n]
    obtain ⟨d, rfl⟩ : ∃ d, c = n + d := ⟨c - n, by omega⟩
    rw [← List.replicate_append_replicate, El.cells_app]
    exact List.take_left
theorem El.wpList_make (I : E.Inn P st) (x : α) (hx : ∃ i z, P.info? E.e = some i ∧ i.zero = some z ∧ z.cells.toList = E.c x) {ops : Array Oper} {rest : List Oper} {o : Oper} {a : Act} {w : World} {Q : Exit → Act → World → Prop} (hgd : o.guard = none) (lx cx : Operand)
    (ho : o.op = .makeSlice st lx cx) (B n c : Nat) (hl : a.eval lx = .int .i64 n) (hc : a.eval cx = .int .i64 c) (hn : c ≤ 100000) (hnc : n ≤ c) (hB : B ≤ w.heap.size)
    (h : ∀ w', E.Own w' B (.slice (some ⟨w.heap.size, 0, none⟩) n c) (List.replicate n x) → w.grownBy w' none → w.heap.size < w'.heap.size → wpList P ops Q rest (a.put o.dst (.slice (some ⟨w.heap.size, 0, none⟩) n c)) w') : wpList P ops Q (o :: rest) a w :=
  wpList_plain hgd fun _ hK => El.wp_make I x hx lx cx ho B n c hl hc hn hnc hB fun w' h1 h2 h3 => hK _ _ (h w' h1 h2 h3)

/-- s[i] = x, in a row of the call's own. -/
theorem El.wp_setAt (R : El.Row E P) {o : Oper} {a : Act} {w : World} {K : Act → World → Prop} {Q : Exit → Act → World → Prop} (x y : Operand) (ho : o.op = .store E.e x y)
    (B g cap i : Nat) (l : List α) (q : α) (hown : E.Own w B (.slice (some ⟨g, 0, none⟩) l.length cap) l) (hi : i < l.length) (cs : Array Value) (hcs : cs = (E.c q).toArray) (hx : a.eval x = .pointer (some ⟨g, i * E.k, none⟩)) (hy : a.eval y = .agg cs)
    (h : ∀ w', E.Own w' B (.slice (some ⟨g, 0, none⟩) l.length cap) (l.set i q) → w.grownBy w' (some g) → w'.heap.size = w.heap.size → K (a.put o.dst undef) w') : o.wp P a w K Q := by
  subst hcs
  unfold El.Own at hown
  rcases hown.2 with ⟨h', _⟩ | ⟨g', cap', cur, h', hb, hg, hnc, hcm, hcsz, htake⟩
  · simp at h'
  · simp only [Value.slice.injEq, Option.some.injEq, Addr.mk.injEq, and_true, true_and] at h'
    obtain ⟨rfl, rfl⟩ := h'
    have hlen := hown.1
    have hik : i * E.k + E.k ≤ l.length * E.k := by rw [← Nat.succ_mul]; exact Nat.mul_le_mul_right _ hi
    have hck : l.length * E.k ≤ cap * E.k := Nat.mul_le_mul_right _ hnc
    have hs := run_storeCells_at (P := P) g (i * E.k) E.e (E.c q) 0 cur w hg (by rw [E.len]; omega) (E.one q)
    have hsz : ((E.c q).toArray).size = E.k := by simp [E.len]
    have hv : (storeVar E.e ⟨g, i * E.k, none⟩ (.agg (E.c q).toArray)).run P w = .ok () (w.setRow g (cur.toList.take (i * E.k) ++ E.c q ++ cur.toList.drop (i * E.k + E.k)).toArray) := by
      have hR := R.size
      cases hq : P.info? E.e with
      | none => simp [hq] at hR
      | some inf =>
        have hinf : inf.size = E.k := by simpa [hq] using hR
        simp only [Nat.add_zero, E.len] at hs
        simp [storeVar, sizeOf, typeInfo, hq, Value.cells, hinf, E.len, hs]
    unfold Oper.wp execOp
    simp only [ho, hx, hy, Instr.storeAt, Instr.sureAddr, Sem.run_bind, Sem.run_pure, Result.andThen_ok, hv]
    refine h _ ⟨by rw [List.length_set, El.cells_len, List.length_set], .inr ⟨g, cap, _, by rw [List.length_set], hb, setRow_heap w g cur _ E.e (0, 0) hg, by rw [List.length_set]; exact hnc, hcm, ?_, ?_⟩⟩ ⟨rfl, rfl, rfl, by simp, fun k _ hk => setRow_other w g k _ (fun e => hk (by simp [e]))⟩ (by simp)
    · simp only [List.size_toArray, List.length_append, List.length_take, List.length_drop, Array.length_toList, E.len]; omega
    · rw [List.length_set, El.cells_set l i hi q, ← htake]
      have hcl : cur.toList.length = cap * E.k := by rw [Array.length_toList, hcsz]
      generalize cur.toList = C at *
      simp only [List.toList_toArray]
      rw [List.take_take, Nat.min_eq_left (by omega), List.drop_take]
      have e1 : (C.take (i * E.k)).length = i * E.k := by rw [List.length_take]; omega
      have e2 : (C.take (i * E.k) ++ E.c q).length = i * E.k + E.k := by rw [List.length_append, e1, E.len]
      rw [List.take_append (l₁ := C.take (i * E.k) ++ E.c q), e2, List.take_of_length_le (by omega : (C.take (i * E.k) ++ E.c q).length ≤ l.length * E.k)]
theorem El.wpList_setAt (R : El.Row E P) {ops : Array Oper} {rest : List Oper} {o : Oper} {a : Act} {w : World} {Q : Exit → Act → World → Prop} (hgd : o.guard = none) (x y : Operand) (ho : o.op = .store E.e x y)
    (B g cap i : Nat) (l : List α) (q : α) (hown : E.Own w B (.slice (some ⟨g, 0, none⟩) l.length cap) l) (hi : i < l.length) (cs : Array Value) (hcs : cs = (E.c q).toArray) (hx : a.eval x = .pointer (some ⟨g, i * E.k, none⟩)) (hy : a.eval y = .agg cs)
    (h : ∀ w', E.Own w' B (.slice (some ⟨g, 0, none⟩) l.length cap) (l.set i q) → w.grownBy w' (some g) → w'.heap.size = w.heap.size → wpList P ops Q rest (a.put o.dst undef) w') : wpList P ops Q (o :: rest) a w :=
  wpList_plain hgd fun _ hK => El.wp_setAt R x y ho B g cap i l q hown hi cs hcs hx hy fun w' h1 h2 h3 => hK _ _ (h w' h1 h2 h3)
end
end Go.Proofs.Ytmmfjmhemknpgaa

/- Trees as lists of places: where a node stands, who is above whom. No program in it. -/
namespace Tre

structure Pl where
  n : Int
  u : Int
  s : ByteArray
def zero : Pl := ⟨0, 0, ⟨#[]⟩⟩
instance : Inhabited Pl := ⟨zero⟩

/-- How many stand ahead of node b. -/
def idx (l : List Pl) (b : Int) : Nat := (l.takeWhile fun p => decide (p.n < b)).length
def Sorted (l : List Pl) : Prop := ∀ i j (hi : i < l.length) (hj : j < l.length), i < j → l[i].n < l[j].n

theorem idx_nil (b : Int) : idx [] b = 0 := rfl
theorem idx_cons_lt {p : Pl} {l : List Pl} {b : Int} (h : p.n < b) : idx (p :: l) b = idx l b + 1 := by
  unfold idx; rw [List.takeWhile_cons_of_pos (by simpa using h)]; rfl
theorem idx_cons_ge {p : Pl} {l : List Pl} {b : Int} (h : ¬ p.n < b) : idx (p :: l) b = 0 := by
  unfold idx; rw [List.takeWhile_cons_of_neg (by simpa using h)]; rfl
theorem idx_le (l : List Pl) (b : Int) : idx l b ≤ l.length := by
  induction l with
  | nil => exact Nat.le_refl _
  | cons p l ih =>
    by_cases h : p.n < b
    · rw [idx_cons_lt h]; simpa using ih
    · rw [idx_cons_ge h]; exact Nat.zero_le _
theorem idx_before : ∀ (l : List Pl) (b : Int) (i : Nat) (h : i < l.length), i < idx l b → l[i].n < b
  | p :: l, b, i, h, hi => by
    by_cases hp : p.n < b
    · rw [idx_cons_lt hp] at hi
      cases i with
      | zero => exact hp
      | succ i => exact idx_before l b i (by simpa using h) (by omega)
    · rw [idx_cons_ge hp] at hi; omega
theorem idx_at : ∀ (l : List Pl) (b : Int) (h : idx l b < l.length), b ≤ l[idx l b].n
  | p :: l, b, h => by
    by_cases hp : p.n < b
    · have e := idx_cons_lt (l := l) hp
      simp only [e, List.getElem_cons_succ]
      exact idx_at l b (by rw [e] at h; simpa using h)
    · have e := idx_cons_ge (l := l) hp
      simp only [e, List.getElem_cons_zero]; omega
/-- Where all ahead are below b, and all from there on aren't. -/
theorem idx_eq {l : List Pl} {b : Int} {k : Nat} (hk : k ≤ l.length) (h1 : ∀ i (h : i < l.length), i < k → l[i].n < b) (h2 : ∀ (h : k < l.length), b ≤ l[k].n) : k = idx l b := by
  rcases Nat.lt_trichotomy k (idx l b) with h | h | h
  · have hl : k < l.length := Nat.lt_of_lt_of_le h (idx_le l b)
    have := idx_before l b k hl h
    have := h2 hl
    omega
  · exact h
  · have hl : idx l b < l.length := Nat.lt_of_lt_of_le h hk
    have := h1 _ hl h
    have := idx_at l b hl
    omega
theorem idx_self {l : List Pl} (hs : Sorted l) (i : Nat) (h : i < l.length) : idx l l[i].n = i :=
  (idx_eq (Nat.le_of_lt h) (fun j hj hji => hs j i hj h hji) (fun _ => by omega)).symm

/-- A node's place. -/
def get (l : List Pl) (b : Int) : Option Pl := (l[idx l b]?).bind fun p => if p.n = b then some p else none
theorem get_some {l : List Pl} {b : Int} {p : Pl} (h : get l b = some p) : p ∈ l ∧ p.n = b ∧ ∃ h : idx l b < l.length, l[idx l b] = p := by
  unfold get at h
  rw [Option.bind_eq_some_iff] at h
  obtain ⟨q, h1, h2⟩ := h
  by_cases e : q.n = b
  · rw [if_pos e] at h2; cases h2
    obtain ⟨hl, he⟩ := List.getElem?_eq_some_iff.1 h1
    exact ⟨List.mem_of_getElem? h1, e, hl, he⟩
  · rw [if_neg e] at h2; cases h2
theorem get_of {l : List Pl} {b : Int} (h : idx l b < l.length) (e : l[idx l b].n = b) : get l b = some l[idx l b] := by
  unfold get; rw [List.getElem?_eq_getElem h, Option.bind_some, if_pos e]
theorem get_none_end {l : List Pl} {b : Int} (h : ¬ idx l b < l.length) : get l b = none := by
  unfold get; rw [List.getElem?_eq_none (by omega)]; rfl
theorem get_none_other {l : List Pl} {b : Int} (h : idx l b < l.length) (e : ¬ l[idx l b].n = b) : get l b = none := by
  unfold get; rw [List.getElem?_eq_getElem h, Option.bind_some, if_neg e]
theorem get_self {l : List Pl} (hs : Sorted l) (i : Nat) (h : i < l.length) : get l l[i].n = some l[i] := by
  have e := idx_self hs i h
  unfold get; rw [e, List.getElem?_eq_getElem h, Option.bind_some, if_pos rfl]

/-- k steps up. -/
def up (l : List Pl) : Nat → Int → Option Int
  | 0, b => some b
  | k + 1, b => (get l b).bind fun p => up l k p.u
theorem up_add (l : List Pl) : ∀ (m k : Nat) (b : Int), up l (m + k) b = (up l m b).bind (up l k)
  | 0, k, b => by rw [Nat.zero_add]; rfl
  | m + 1, k, b => by
    rw [Nat.succ_add]
    show (get l b).bind (fun p => up l (m + k) p.u) = ((get l b).bind fun p => up l m p.u).bind (up l k)
    rw [Option.bind_assoc]
    congr 1; funext p; exact up_add l m k p.u
/-- At or above, by so many looks. -/
def abv (l : List Pl) : Nat → Int → Int → Bool
  | 0, _, _ => false
  | f + 1, a, b => if a = b then true else match get l b with
    | none => false
    | some p => abv l f a p.u
theorem abv_iff (l : List Pl) (a : Int) : ∀ (f : Nat) (b : Int), abv l f a b = true ↔ ∃ k, k < f ∧ up l k b = some a
  | 0, b => by
    constructor
    · intro h; cases h
    · rintro ⟨k, h, _⟩; omega
  | f + 1, b => by
    unfold abv
    by_cases e : a = b
    · rw [if_pos e]
      exact ⟨fun _ => ⟨0, by omega, by rw [e]; rfl⟩, fun _ => rfl⟩
    · rw [if_neg e]
      rcases hg : get l b with _ | p
      · constructor
        · intro h; cases h
        · rintro ⟨k, hk, hu⟩
          cases k with
          | zero => exact absurd (Option.some.inj hu).symm e
          | succ k => rw [up, hg] at hu; cases hu
      · constructor
        · intro h
          obtain ⟨k, hk, hu⟩ := (abv_iff l a f p.u).1 h
          exact ⟨k + 1, by omega, by rw [up, hg]; exact hu⟩
        · rintro ⟨k, hk, hu⟩
          cases k with
          | zero => exact absurd (Option.some.inj hu).symm e
          | succ k =>
            rw [up, hg] at hu
            exact (abv_iff l a f p.u).2 ⟨k, by omega, hu⟩
def above (l : List Pl) (a b : Int) : Bool := abv l (l.length + 1) a b
/-- No place is at or above its own Up. -/
def NoRing (l : List Pl) : Prop := ∀ p ∈ l, above l p.n p.u = false

theorem pigeon {α : Type} [DecidableEq α] : ∀ (l m : List α), l.Nodup → (∀ x ∈ l, x ∈ m) → l.length ≤ m.length
  | [], _, _, _ => Nat.zero_le _
  | x :: l, m, hn, hs => by
    have hx : x ∈ m := hs x (by simp)
    have hn' := List.nodup_cons.1 hn
    have h := pigeon l (m.erase x) hn'.2 (fun y hy => by
      have hne : y ≠ x := fun e => hn'.1 (e ▸ hy)
      exact (List.mem_erase_of_ne hne).2 (hs y (by simp [hy])))
    rw [List.length_erase_of_mem hx] at h
    have : 0 < m.length := List.length_pos_of_mem hx
    simp only [List.length_cons]; omega

/-- A way up has no more steps than there are places. -/
theorem up_bound {l : List Pl} (hr : NoRing l) {k : Nat} {a b : Int} (h : up l k b = some a) : k ≤ l.length := by
  rcases Nat.lt_or_ge l.length k with hlt | hge
  · exfalso
    -- every step up to k stands
    have stand : ∀ i, i ≤ k → ∃ x, up l i b = some x := fun i hi => by
      have e : k = i + (k - i) := by omega
      rw [e, up_add] at h
      rcases hx : up l i b with _ | x
      · rw [hx] at h; cases h
      · exact ⟨x, rfl⟩
    have place : ∀ i x, i < k → up l i b = some x → ∃ p, get l x = some p ∧ up l (i + 1) b = some p.u := fun i x hi hx => by
      obtain ⟨y, hy⟩ := stand (i + 1) hi
      have hy' := hy
      rw [up_add, hx, Option.bind_some] at hy'
      rcases hg : get l x with _ | p
      · rw [up, hg] at hy'; cases hy'
      · rw [up, hg] at hy'
        exact ⟨p, rfl, by rw [hy]; exact hy'.symm⟩
    let s : Nat → Int := fun i => (up l i b).getD 0
    have hs : ∀ i, i ≤ k → up l i b = some (s i) := fun i hi => by
      obtain ⟨x, hx⟩ := stand i hi
      show up l i b = some ((up l i b).getD 0)
      rw [hx]; rfl
    have unlike : ∀ i j, i < j → j ≤ l.length → s i ≠ s j := fun i j hij hj e => by
      have hi := hs i (by omega)
      have hj' := hs j (by omega)
      obtain ⟨p, hp, hu⟩ := place i _ (by omega) hi
      have hj2 := hj'
      rw [show j = (i + 1) + (j - i - 1) by omega, up_add, hu, Option.bind_some] at hj2
      obtain ⟨hm, hn, _⟩ := get_some hp
      have hf := hr p hm
      have ht : above l p.n p.u = true := (abv_iff l p.n _ p.u).2 ⟨j - i - 1, by omega, by
        rw [hj2, hn, e]
        have : (i + 1) + (j - i - 1) = j := by omega
        rw [this]⟩
      rw [hf] at ht; cases ht
    have nd : ((List.range (l.length + 1)).map s).Nodup := by
      rw [List.nodup_iff_pairwise_ne, List.pairwise_map]
      exact List.Pairwise.imp_of_mem (fun {i j} hi hj hij => unlike i j hij (by have := List.mem_range.1 hj; omega)) List.pairwise_lt_range
    have sub : ∀ x ∈ (List.range (l.length + 1)).map s, x ∈ l.map (·.n) := fun x hx => by
      obtain ⟨i, hi, rfl⟩ := List.mem_map.1 hx
      have hi := List.mem_range.1 hi
      obtain ⟨p, hp, _⟩ := place i _ (by omega) (hs i (by omega))
      obtain ⟨hm, hn, _⟩ := get_some hp
      exact List.mem_map.2 ⟨p, hm, hn⟩
    have := pigeon _ _ nd sub
    simp at this
    omega
  · exact hge
theorem above_iff {l : List Pl} (hr : NoRing l) {a b : Int} : above l a b = true ↔ ∃ k, up l k b = some a := by
  unfold above
  rw [abv_iff]
  exact ⟨fun ⟨k, _, h⟩ => ⟨k, h⟩, fun ⟨k, h⟩ => ⟨k, by have := up_bound hr h; omega, h⟩⟩
theorem above_trans {l : List Pl} (hr : NoRing l) {a b c : Int} (h1 : above l a b = true) (h2 : above l b c = true) : above l a c = true := by
  obtain ⟨k, hk⟩ := (above_iff hr).1 h1
  obtain ⟨m, hm⟩ := (above_iff hr).1 h2
  exact (above_iff hr).2 ⟨m + k, by rw [up_add, hm, Option.bind_some, hk]⟩
theorem up_loop {l : List Pl} {k : Nat} {b : Int} (h : up l k b = some b) : ∀ m, up l (k * m) b = some b
  | 0 => rfl
  | m + 1 => by rw [Nat.mul_succ, up_add, up_loop h m, Option.bind_some, h]
theorem above_anti {l : List Pl} (hr : NoRing l) {a b : Int} (h1 : above l a b = true) (h2 : above l b a = true) : a = b := by
  obtain ⟨k, hk⟩ := (above_iff hr).1 h1
  obtain ⟨m, hm⟩ := (above_iff hr).1 h2
  have h : up l (k + m) b = some b := by rw [up_add, hk, Option.bind_some, hm]
  rcases Nat.eq_zero_or_pos (k + m) with h0 | h0
  · obtain rfl : k = 0 := by omega
    exact (Option.some.inj hk).symm
  · have := up_bound hr (up_loop h (l.length + 1))
    have : l.length + 1 ≤ (k + m) * (l.length + 1) := Nat.le_mul_of_pos_left _ h0
    omega
theorem above_self (l : List Pl) (a : Int) : above l a a = true := by unfold above abv; rw [if_pos rfl]

/-- Where what stands behind node b's place begins. -/
def behind (l : List Pl) (b : Int) : Nat := if (get l b).isSome then idx l b + 1 else idx l b
def placedL (l : List Pl) (b : Int) (m : List Pl) : List Pl := (l.take (idx l b) ++ m) ++ l.drop (behind l b)
def putL (l : List Pl) (p : Pl) : List Pl := placedL l p.n [p]
def dropL (l : List Pl) (b : Int) : List Pl := placedL l b []
end Tre

/- A place in a block, a list of places in a slice; Find of the program. -/
namespace Go.Proofs.Ytmmfjmhemknpgaa
open Go.RowKit Tre

/-- From the cell o of block b on a place lies. -/
def AtPl (w : World) (b o : Nat) (p : Pl) : Prop :=
  w.cell? ⟨b, o, none⟩ = some (.int .i64 p.n) ∧ w.cell? ⟨b, o + 1, none⟩ = some (.int .i64 p.u) ∧ w.cell? ⟨b, o + 2, none⟩ = some (.string p.s)
theorem AtPl.below {W w : World} {b o : Nat} {p : Pl} (h : AtPl W b o p) (hb : Below W.heap.size W w) (hl : b < W.heap.size) : AtPl w b o p := by
  unfold AtPl at h ⊢
  rw [(bcell hb).1 _ _ hl, (bcell hb).1 _ _ hl, (bcell hb).1 _ _ hl]; exact h
/-- The slice at A holds these places. -/
def Tr (w : World) (A : Option Addr) (l : List Pl) : Prop :=
  0 < l.length → ∃ b off, A = some ⟨b, off, none⟩ ∧ b < w.heap.size ∧ ∀ i (h : i < l.length), AtPl w b (off + i * 3) l[i]
theorem Tr.below {W w : World} {A : Option Addr} {l : List Pl} (h : Tr W A l) (hb : Below W.heap.size W w) : Tr w A l := fun h0 => by
  obtain ⟨b, off, e, hl, hc⟩ := h h0
  exact ⟨b, off, e, Nat.lt_of_lt_of_le hl hb.size, fun i hi => (hc i hi).below hb hl⟩
theorem Tr.nil (w : World) (A : Option Addr) : Tr w A [] := fun h => by simp at h

def cmp3 (a b : Int) : Int := if a < b then -1 else if b < a then 1 else 0
end Go.Proofs.Ytmmfjmhemknpgaa

/- Find of the document; Get and Above of both. -/
namespace Go.Proofs.Ytmmfjmhemknpgaa
open Go.RowKit Tre

section
variable {w w' : World} {b : Nat} {p : Pl}
theorem below_setRow {W w : World} (h : Below W.heap.size W w) {n : Nat} (hn : W.heap.size ≤ n) (cs : Array Value) : Below W.heap.size W (w.setRow n cs) :=
  ⟨h.os, h.tape, h.output, by simpa [World.setRow] using h.size, fun k hk => (setRow_other w n k cs (by omega)).trans (h.block k hk)⟩
end
theorem find_end {l : List Pl} {b : Int} {i : Nat} {x : Bool} (h : i = idx l b) (k : (Tre.get l b).isSome = x) : Ending.returned (.tuple #[.int .i64 i, .bool x]) = Ending.returned (.tuple #[.int .i64 (idx l b), .bool (Tre.get l b).isSome]) := by rw [k, ← h]

theorem isSome_get {l : List Pl} {b : Int} {p : Pl} (hp : (Tre.get l b).getD zero = p) (hi : (Tre.get l b).isSome = true) : Tre.get l b = some p ∧ ∃ h : idx l b < l.length, l[idx l b] = p := by
  rcases h : Tre.get l b with _ | q
  · rw [h] at hi; cases hi
  · rw [h] at hp
    obtain rfl : q = p := hp
    exact ⟨rfl, (get_some h).2.2⟩
theorem none_get {l : List Pl} {b : Int} {p : Pl} (hp : (Tre.get l b).getD zero = p) (hi : (Tre.get l b).isSome = false) : p = zero := by
  rw [← hp]
  rcases h : Tre.get l b with _ | q
  · rfl
  · rw [h] at hi; cases hi

end Go.Proofs.Ytmmfjmhemknpgaa

/- Numbers as bytes: what is written is read, and what is read was written so. -/
namespace Go.Proofs.Ytmmfjmhemknpgaa.Cod

/-- The bytes of u: seven bits each, the lowest first. -/
def enc (u : Nat) : List UInt8 := if u < 128 then [UInt8.ofNat u] else UInt8.ofNat (u % 128 + 128) :: enc (u / 128)
termination_by u
decreasing_by omega

theorem enc_small {u : Nat} (h : u < 128) : enc u = [UInt8.ofNat u] := by rw [enc, if_pos h]
theorem enc_big {u : Nat} (h : 128 ≤ u) : enc u = UInt8.ofNat (u % 128 + 128) :: enc (u / 128) := by rw [enc, if_neg (by omega)]

theorem enc_pos (u : Nat) : 1 ≤ (enc u).length := by
  by_cases h : u < 128
  · rw [enc_small h]; simp
  · rw [enc_big (by omega)]; simp

theorem enc_len (m : Nat) : ∀ u, u < 128 ^ (m + 1) → (enc u).length ≤ m + 1 := by
  induction m with
  | zero => intro u h; rw [enc_small (by simpa using h)]; simp
  | succ m ih =>
    intro u h
    by_cases hu : u < 128
    · rw [enc_small hu]; simp
    · rw [enc_big (by omega), List.length_cons]
      have := ih (u / 128) (by rw [Nat.pow_succ] at h; omega)
      omega

theorem enc_ten (u : Nat) (h : u < 18446744073709551616) : (enc u).length ≤ 10 := enc_len 9 u (by omega)

theorem enc_mono (a : Nat) : ∀ b, a ≤ b → (enc a).length ≤ (enc b).length := by
  induction a using Nat.strongRecOn with
  | _ a ih =>
    intro b h
    by_cases ha : a < 128
    · rw [enc_small ha]; exact enc_pos b
    · rw [enc_big (by omega), enc_big (u := b) (by omega), List.length_cons, List.length_cons]
      have := ih (a / 128) (by omega) (b / 128) (by omega)
      omega

/-- The number that a list begins with: k bytes of it came already, and are u. -/
def num : List UInt8 → Nat → Nat → Option (Nat × Nat)
  | [], _, _ => none
  | b :: t, k, u =>
    if k = 9 ∧ 1 < b.toNat then none
    else if 128 ≤ b.toNat then num t (k + 1) (u + 2 ^ (7 * k) * (b.toNat % 128))
    else if b.toNat = 0 ∧ 0 < k then none
    else some (u + 2 ^ (7 * k) * b.toNat, k + 1)

theorem two_split (k : Nat) (h : k ≤ 8) : 2 ^ (64 - 7 * k) = 128 * 2 ^ (64 - 7 * (k + 1)) := by
  rw [show 64 - 7 * k = (64 - 7 * (k + 1)) + 7 by omega, Nat.pow_add]
  omega

/-- What is read was written so. -/
theorem num_some : ∀ (l : List UInt8) (k u U K : Nat), k ≤ 9 → num l k u = some (U, K) →
    ∃ V m, U = u + 2 ^ (7 * k) * V ∧ K = k + m ∧ l.take m = enc V ∧ m = (enc V).length ∧ m ≤ l.length ∧ (0 < k → 0 < V) ∧ V < 2 ^ (64 - 7 * k)
  | [], k, u, U, K, _, h => by simp [num] at h
  | b :: t, k, u, U, K, hk, h => by
    have hb := b.toNat_lt
    rw [num] at h
    by_cases h9 : k = 9 ∧ 1 < b.toNat
    · rw [if_pos h9] at h; cases h
    · rw [if_neg h9] at h
      by_cases hm : 128 ≤ b.toNat
      · rw [if_pos hm] at h
        have hk8 : k ≤ 8 := by omega
        obtain ⟨V, m, e1, e2, e3, e4, e5, e6, e7⟩ := num_some t (k + 1) _ U K (by omega) h
        have hV := e6 (by omega)
        have hE : enc (b.toNat % 128 + 128 * V) = b :: enc V := by
          rw [enc_big (by omega), show (b.toNat % 128 + 128 * V) / 128 = V by omega, show (b.toNat % 128 + 128 * V) % 128 + 128 = b.toNat by omega, UInt8.ofNat_toNat]
        refine ⟨b.toNat % 128 + 128 * V, m + 1, ?_, by omega, ?_, ?_, ?_, fun _ => by omega, ?_⟩
        · rw [e1, show 7 * (k + 1) = 7 * k + 7 by omega, Nat.pow_add, Nat.mul_add, Nat.add_assoc, Nat.mul_assoc]
        · rw [List.take_succ_cons, e3, hE]
        · rw [hE, List.length_cons, ← e4]
        · rw [List.length_cons]; omega
        · have h2 := two_split k hk8
          omega
      · rw [if_neg hm] at h
        by_cases h0 : b.toNat = 0 ∧ 0 < k
        · rw [if_pos h0] at h; cases h
        · rw [if_neg h0] at h
          obtain ⟨rfl, rfl⟩ := Prod.mk.inj (Option.some.inj h)
          have hE : enc b.toNat = [b] := by rw [enc_small (by omega), UInt8.ofNat_toNat]
          refine ⟨b.toNat, 1, rfl, rfl, ?_, ?_, by simp, fun hk0 => by omega, ?_⟩
          · rw [hE]; rfl
          · rw [hE]; rfl
          · by_cases e9 : k = 9
            · subst e9; show b.toNat < 2 ^ 1; omega
            · have h2 := two_split k (by omega)
              have : 0 < 2 ^ (64 - 7 * (k + 1)) := Nat.two_pow_pos _
              omega

/-- What is written is read. -/
theorem num_enc (V : Nat) : ∀ (t : List UInt8) (k u : Nat), k ≤ 9 → (0 < k → 0 < V) → V < 2 ^ (64 - 7 * k) → num (enc V ++ t) k u = some (u + 2 ^ (7 * k) * V, k + (enc V).length) := by
  induction V using Nat.strongRecOn with
  | _ V ih =>
    intro t k u hk h0 hV
    by_cases h : V < 128
    · have hv : (UInt8.ofNat V).toNat = V := by rw [UInt8.toNat_ofNat']; omega
      rw [enc_small h, List.singleton_append, num, hv]
      rw [if_neg (by rintro ⟨rfl, h1⟩; have : V < 2 ^ 1 := hV; omega), if_neg (by omega), if_neg (by omega)]
      rfl
    · have hk8 : k ≤ 8 := by
        by_cases e : k = 9
        · subst e; have : V < 2 ^ 1 := hV; omega
        · omega
      have h2 := two_split k hk8
      have hv : (UInt8.ofNat (V % 128 + 128)).toNat = V % 128 + 128 := by rw [UInt8.toNat_ofNat']; omega
      rw [enc_big (by omega), List.cons_append, num, hv]
      rw [if_neg (by omega), if_pos (by omega), ih (V / 128) (by omega) t (k + 1) _ (by omega) (by omega) (by omega)]
      rw [show 7 * (k + 1) = 7 * k + 7 by omega, Nat.pow_add, Nat.mul_assoc, Nat.add_assoc, ← Nat.mul_add, List.length_cons]
      congr 2
      · rw [show (V % 128 + 128) % 128 + 2 ^ 7 * (V / 128) = V by omega]
      · omega

/-- A number's number, and back. -/
def fold (n : Int) : Nat := if n < 0 then (2 * (-1 - n) + 1).toNat else (2 * n).toNat
def unfold (u : Nat) : Int := if u % 2 = 1 then -1 - (u / 2 : Nat) else (u / 2 : Nat)
theorem unfold_fold (n : Int) : unfold (fold n) = n := by
  unfold fold unfold
  by_cases h : n < 0
  · rw [if_pos h, if_pos (by omega)]; omega
  · rw [if_neg h, if_neg (by omega)]; omega
theorem fold_unfold (u : Nat) : fold (unfold u) = u := by
  unfold fold unfold
  by_cases h : u % 2 = 1
  · rw [if_pos h, if_pos (by omega)]; omega
  · rw [if_neg h, if_neg (by omega)]; omega
theorem fold_lt (n : Int) (h1 : -9223372036854775808 ≤ n) (h2 : n ≤ 9223372036854775807) : fold n < 18446744073709551616 := by
  unfold fold; split <;> omega
theorem unfold_bd (u : Nat) (h : u < 18446744073709551616) : -9223372036854775808 ≤ unfold u ∧ unfold u ≤ 9223372036854775807 := by
  unfold unfold; split <;> omega
theorem fold_mono (a b : Int) (h : 0 ≤ a ∧ a ≤ b ∨ a < 0 ∧ b ≤ a) : fold a ≤ fold b := by
  unfold fold; split <;> split <;> omega

/-- The bytes of a number. -/
def bytesOf (n : Int) : ByteArray := ⟨(enc (fold n)).toArray⟩
theorem bytesOf_list (n : Int) : (bytesOf n).data.toList = enc (fold n) := rfl
theorem bytesOf_size (n : Int) : (bytesOf n).size = (enc (fold n)).length := rfl

/-- What is read of a list: the number, and how many bytes it has. -/
def rd (l : List UInt8) : Option (Int × Nat) := (num l 0 0).map fun p => (unfold p.1, p.2)
theorem rd_enc (n : Int) (h1 : -9223372036854775808 ≤ n) (h2 : n ≤ 9223372036854775807) (t : List UInt8) : rd (enc (fold n) ++ t) = some (n, (enc (fold n)).length) := by
  have hf := fold_lt n h1 h2
  unfold rd
  rw [num_enc (fold n) t 0 0 (by omega) (fun h => absurd h (by omega)) (by omega)]
  simp [unfold_fold]
theorem rd_some {l : List UInt8} {n : Int} {m : Nat} (h : rd l = some (n, m)) : l.take m = enc (fold n) ∧ m = (enc (fold n)).length ∧ 1 ≤ m ∧ m ≤ 10 ∧ m ≤ l.length ∧ -9223372036854775808 ≤ n ∧ n ≤ 9223372036854775807 := by
  unfold rd at h
  obtain ⟨⟨U, K⟩, h1, h2⟩ := Option.map_eq_some_iff.1 h
  obtain ⟨rfl, rfl⟩ := Prod.mk.inj h2
  obtain ⟨V, m, e1, e2, e3, e4, e5, _, e7⟩ := num_some l 0 0 U K (by omega) h1
  have hU : U = V := by omega
  have hK : K = m := by omega
  subst hU hK
  have hlt : U < 18446744073709551616 := by omega
  have := enc_ten U hlt
  have := enc_pos U
  have := unfold_bd U hlt
  rw [fold_unfold]
  exact ⟨e3, e4, by omega, by omega, e5, this⟩

end Go.Proofs.Ytmmfjmhemknpgaa.Cod

/- What fold, unfold and Num of code give. -/
namespace Go.Proofs.Ytmmfjmhemknpgaa
open Go.RowKit Cod


end Go.Proofs.Ytmmfjmhemknpgaa

/- What Num of code gives. -/
namespace Go.Proofs.Ytmmfjmhemknpgaa
open Go.RowKit Cod

theorem or_128 : ∀ x : Nat, x < 256 → bits .or .u8 (x : Int) 128 = ((x % 128 + 128 : Nat) : Int) := by decide +kernel
theorem info5 : (Try.prog.info? 5).map (fun i => (i.zero, i.size, i.bytes)) = some (some (.int .u8 0), 1, 1) := by kernel_rfl

/-- Bytes as cells. -/
def cellsB (l : List UInt8) : List Value := l.map fun b => .int .u8 (b.toNat : Int)
theorem cellsB_len (l : List UInt8) : (cellsB l).length = l.length := by unfold cellsB; simp
theorem cellsB_snoc (l : List UInt8) (n : Nat) (h : n < 256) : cellsB l ++ [.int .u8 (n : Int)] = cellsB (l ++ [UInt8.ofNat n]) := by
  have hv : (UInt8.ofNat n).toNat = n := by rw [UInt8.toNat_ofNat']; omega
  unfold cellsB; simp [hv]
theorem cellsB_at (l : List UInt8) (j : Nat) (h : j < l.length) : (cellsB l)[j]? = some (.int .u8 (l[j].toNat : Int)) := by
  unfold cellsB; simp [List.getElem?_eq_getElem h]

theorem own_cells {w : World} {B : Nat} {e : TypeId} {v : Value} {n : Nat} {xs : List Value} (h : w.ownsRowF B e 1 v n xs) (hn : 0 < n) :
    ∃ g cap, v = .slice (some ⟨g, 0, none⟩) n cap ∧ ∀ j u, xs[j]? = some u → w.cell? ⟨g, j, none⟩ = some u := by
  have hc := fun g => h.cells (g := g)
  rcases h.2 with ⟨rfl, hz⟩ | ⟨g, cap, cur, fz, rfl, _⟩
  · omega
  · refine ⟨g, cap, rfl, fun j u hu => ?_⟩
    have := hc g rfl j u hu
    rw [Addr.add_lit, Nat.zero_add] at this; exact this

end Go.Proofs.Ytmmfjmhemknpgaa

/- The document's Num; Text, Bit, Least of both. -/
namespace Go.Proofs.Ytmmfjmhemknpgaa
open Go.RowKit Cod

theorem dl_inj {a b : ByteArray} (h : a.data.toList = b.data.toList) : a = b := by
  cases a; cases b; simp at h; rw [h]
theorem dl_app (a b : ByteArray) : (a ++ b).data.toList = a.data.toList ++ b.data.toList := by simp
theorem dl_len (a : ByteArray) : a.data.toList.length = a.size := by simp

theorem or_one (x : Nat) (hx : x < 9223372036854775808) : bits .or .u64 ((2 * x : Nat) : Int) 1 = ((2 * x + 1 : Nat) : Int) := by
  have h := u64_or_nat (2 * x) 1 (by omega) (by omega)
  rw [show 2 * x = 2 ^ 1 * x by omega, ← Nat.two_pow_add_eq_or_of_lt (by decide) x] at h
  rw [show 2 * x = 2 ^ 1 * x by omega]
  exact h


theorem bytesOf_pos (n : Int) : 1 ≤ (bytesOf n).size := by rw [bytesOf_size]; exact enc_pos _
theorem bytesOf_le (n : Int) (h1 : -9223372036854775808 ≤ n) (h2 : n ≤ 9223372036854775807) : (bytesOf n).size ≤ 10 := by
  rw [bytesOf_size]; exact enc_ten _ (fold_lt n h1 h2)

/-- A text's bytes. -/
def textOf (s : ByteArray) : ByteArray := bytesOf s.size ++ s

/-- A bool's bytes. -/
def bitOf (b : Bool) : ByteArray := bytesOf (if b then 1 else 0)

end Go.Proofs.Ytmmfjmhemknpgaa

/- A scope with several labels; a reader in memory. -/
namespace Go.Proofs.Ytmmfjmhemknpgaa
open Go.RowKit Cod

/-- By a goto to label l: J l; else as Q. -/
def jumps (J : Nat → Act → World → Prop) (Q : Exit → Act → World → Prop) : Exit → Act → World → Prop
  | .goto l, a, w => J l a w
  | e, a, w => Q e a w

section
variable {P : Program} {a : Act} {w : World} {Q : Exit → Act → World → Prop} {J : Nat → Act → World → Prop}
theorem jumps_goto (l : Nat) : jumps J Q (.goto l) a w = J l a w := rfl
theorem jumps_ret : jumps J Q .ret a w = Q .ret a w := rfl

/-- What holds at every jump, for each label; a measure that every pass lowers. -/
theorem wp_scope_labels {c : Code} (J : Nat → Act → World → Prop) (μ : Nat → Act → World → Nat) (first : c.wp P (jumps J Q) a w)
    (pass : ∀ l a w, J l a w → ∃ rest, findLabel c l = some rest ∧ rest.wp P (jumps (fun l' a' w' => J l' a' w' ∧ μ l' a' w' < μ l a w) Q) a w) : (Code.scope c).wp P Q a w := by
  intro b k cs
  have key : ∀ n l a w, μ l a w = n → J l a w → ∃ rest, gotoIn l (.inScope c :: k) = some (.code rest :: .inScope c :: k) ∧ ∃ e a' w', Q e a' w' ∧ Arrives P (lone (b.at a (.code rest :: .inScope c :: k)) cs w) b k cs e a' w' := by
    intro n
    induction n using Nat.strongRecOn with
    | _ n ih =>
      intro l a w hn hJ
      obtain ⟨rest, hf, hp⟩ := pass l a w hJ
      refine ⟨rest, by simp [gotoIn, hf], ?_⟩
      obtain ⟨e, a₁, w₁, hq, harr⟩ := hp b (.inScope c :: k) cs
      cases e with
      | normal => exact ⟨.normal, a₁, w₁, hq, Steps.trans harr (.one step_inScope)⟩
      | exit id => exact ⟨.exit id, a₁, w₁, hq, fun k' hk => harr k' (by simp [exitTo, hk])⟩
      | goto l' =>
        obtain ⟨hJ', hlt⟩ := hq
        obtain ⟨rest', hg, e₂, a₂, w₂, hq₂, harr₂⟩ := ih _ (by omega) l' a₁ w₁ rfl hJ'
        exact ⟨e₂, a₂, w₂, hq₂, .of_steps (harr _ hg) harr₂⟩
      | ret => exact ⟨_, a₁, w₁, hq, harr⟩
      | panic ch => exact ⟨_, a₁, w₁, hq, harr⟩
      | outgrown => exact ⟨_, a₁, w₁, hq, harr⟩
  obtain ⟨e, a₁, w₁, hq, harr⟩ := first b (.inScope c :: k) cs
  cases e with
  | normal => exact ⟨.normal, a₁, w₁, hq, .head step_scope (Steps.trans harr (.one step_inScope))⟩
  | exit id => exact ⟨.exit id, a₁, w₁, hq, fun k' hk => .head step_scope (harr k' (by simp [exitTo, hk]))⟩
  | goto l' =>
    obtain ⟨rest', hg, e₂, a₂, w₂, hq₂, harr₂⟩ := key _ l' a₁ w₁ rfl hq
    exact ⟨e₂, a₂, w₂, hq₂, .of_steps (.head step_scope (harr _ hg)) harr₂⟩
  | ret => exact ⟨_, a₁, w₁, hq, .of_steps (.one step_scope) harr⟩
  | panic ch => exact ⟨_, a₁, w₁, hq, .of_steps (.one step_scope) harr⟩
  | outgrown => exact ⟨_, a₁, w₁, hq, .of_steps (.one step_scope) harr⟩
end

/-- In block b lies a reader of type T: its text, where it stands, whether it went wrong. -/
def Rd (T : TypeId) (w : World) (b : Nat) (s : ByteArray) (at_ : Nat) (bad : Bool) : Prop :=
  w.heap[b]? = some (.cells #[.string s, .int .i64 (at_ : Int), .bool bad] T (0, 0))

section
variable {T : TypeId} {w w' : World} {b : Nat} {s : ByteArray} {p : Nat} {bad : Bool}
theorem Rd.lt (h : Rd T w b s p bad) : b < w.heap.size := by
  rcases Nat.lt_or_ge b w.heap.size with hlt | hge
  · exact hlt
  · unfold Rd at h; rw [Array.getElem?_eq_none hge] at h; cases h
theorem Rd.cells (h : Rd T w b s p bad) : w.cell? ⟨b, 0, none⟩ = some (.string s) ∧ w.cell? ⟨b, 1, none⟩ = some (.int .i64 (p : Int)) ∧ w.cell? ⟨b, 2, none⟩ = some (.bool bad) :=
  ⟨cell_of_row w b 0 _ T (0, 0) h, cell_of_row w b 1 _ T (0, 0) h, cell_of_row w b 2 _ T (0, 0) h⟩
theorem Rd.frozen (h : Rd T w b s p bad) (i : Nat) : w.frozen? ⟨b, i, none⟩ = false := by
  unfold Rd at h
  simp [World.frozen?, h]
theorem Rd.new (w : World) (T : TypeId) (s : ByteArray) (p : Int) (h : p = 0) : Rd T (w.alloc (.cells #[.string s, .int .i64 p, .bool false] T)) w.heap.size s 0 false := by
  subst h; exact heap_alloc_new w _
theorem Rd.drewN (h : Rd T w b s p bad) (n : Nat) : Rd T (w.drewN n) b s p bad := h
theorem Rd.keep {row : Option Nat} (h : Rd T w b s p bad) (hg : w.grownBy w' row) (hne : some b ≠ row) : Rd T w' b s p bad := (hg.block b h.lt hne).trans h
theorem Rd.below (h : Rd T w b s p bad) (hg : Below w.heap.size w w') : Rd T w' b s p bad := (hg.block b h.lt).trans h
theorem Rd.setAt (h : Rd T w b s p bad) (q : Nat) : Rd T (w.setCell ⟨b, 1, none⟩ (.int .i64 (q : Int))) b s q bad := by
  unfold Rd at h ⊢
  simp [World.setCell, Array.getElem?_modify, h]
theorem Rd.setBad (h : Rd T w b s p bad) : Rd T (w.setCell ⟨b, 2, none⟩ (.bool true)) b s p true := by
  unfold Rd at h ⊢
  simp [World.setCell, Array.getElem?_modify, h]
end

theorem by_refl (w : World) (r : Option Nat) : w.grownBy w r := ⟨rfl, rfl, rfl, Nat.le_refl _, fun _ _ _ => rfl⟩
theorem by_trans {a b c : World} {r : Option Nat} (h : a.grownBy b r) (k : b.grownBy c r) : a.grownBy c r :=
  ⟨k.os.trans h.os, k.tape.trans h.tape, k.output.trans h.output, Nat.le_trans h.size k.size, fun i hi hn => (k.block i (Nat.lt_of_lt_of_le hi h.size) hn).trans (h.block i hi hn)⟩
theorem by_drewN {a w : World} {r : Option Nat} (h : a.grownBy w r) (n : Nat) : a.grownBy (w.drewN n) r := ⟨h.os, h.tape, h.output, h.size, h.block⟩
theorem by_set {a w : World} {b : Nat} (h : a.grownBy w (some b)) (i : Nat) (u : Value) : a.grownBy (w.setCell ⟨b, i, none⟩ u) (some b) :=
  ⟨h.os, h.tape, h.output, by simpa [World.setCell] using h.size, fun k hk hne => (Below.heap_setCell w _ u k (fun e => hne (congrArg some e))).trans (h.block k hk hne)⟩
theorem by_below {w w' : World} (h : Below w.heap.size w w') (r : Option Nat) : w.grownBy w' r := ⟨h.os, h.tape, h.output, h.size, fun i hi _ => h.block i hi⟩
theorem below_by {W w w' : World} {b : Nat} (h : Below W.heap.size W w) (k : w.grownBy w' (some b)) (hb : W.heap.size ≤ b) : Below W.heap.size W w' :=
  h.grown k h.size (fun _ e => by cases e; exact hb)

end Go.Proofs.Ytmmfjmhemknpgaa

/- What Num of code's Reader gives. -/
namespace Go.Proofs.Ytmmfjmhemknpgaa
open Go.RowKit Cod

theorem andNot_128 : ∀ x : Nat, x < 256 → bits .andNot .u8 (x : Int) 128 = ((x % 128 : Nat) : Int) := by decide +kernel

/-- u has 7k bits: the next ones are laid above them. -/
theorem or_above (k u x : Nat) (hk : k ≤ 9) (hu : u < 2 ^ (7 * k)) (hx : x < 128) (h9 : k = 9 → x ≤ 1) :
    2 ^ (7 * k) * x < 18446744073709551616 ∧ u + 2 ^ (7 * k) * x < 18446744073709551616 ∧ u + 2 ^ (7 * k) * x < 2 ^ (7 * (k + 1)) ∧ bits .or .u64 (u : Int) ((2 ^ (7 * k) * x : Nat) : Int) = ((u + 2 ^ (7 * k) * x : Nat) : Int) := by
  have hp : 2 ^ (7 * (k + 1)) = 2 ^ (7 * k) * 128 := by rw [show 7 * (k + 1) = 7 * k + 7 by omega, Nat.pow_add]
  have h1 : 2 ^ (7 * k) * x + 2 ^ (7 * k) ≤ 2 ^ (7 * k) * 128 := by
    rw [← Nat.mul_succ]; exact Nat.mul_le_mul_left _ (by omega)
  have h2 : 2 ^ (7 * k) * x + 2 ^ (7 * k) ≤ 18446744073709551616 := by
    by_cases e : k = 9
    · subst e
      have := h9 rfl
      have h3 : 2 ^ (7 * 9) * x ≤ 2 ^ (7 * 9) * 1 := Nat.mul_le_mul_left _ this
      have h4 : (2 : Nat) ^ (7 * 9) = 9223372036854775808 := by decide
      omega
    · have h3 : 2 ^ (7 * k) ≤ 2 ^ 56 := Nat.pow_le_pow_right (by decide) (by omega)
      have h4 : 2 ^ (7 * k) * 128 ≤ 2 ^ 56 * 128 := Nat.mul_le_mul_right _ h3
      have h5 : (2 : Nat) ^ 56 * 128 = 9223372036854775808 := by decide
      omega
  refine ⟨by omega, by omega, by omega, ?_⟩
  rw [u64_or_nat _ _ (by omega) (by omega), Nat.or_comm, ← Nat.two_pow_add_eq_or_of_lt hu x, Nat.add_comm]

/-- At the label of the next byte; where it goes wrong. -/
def AtNext (b : Nat) (u mv p : Value) (a : Act) : Prop := ∃ x5 x7 x8 x9 x10 x11 x12 x13 x14 x15 x16 x17 x18 x19 x20 x21 x22 x23 x24 x25 x26 x27 x28 x29 x30 x31 x32 x33 x34 x35 x36 x37 x38 x39 x40 x41 x42 x43 x44 x45 x46 x47 x48 x49 x50 x51 x52 x53 x54 x55 x56 x57 x58 x59 x60 x61 x62 x63 x64 x65 : Value, a = { tmps := #[.pointer (some ⟨b, 0, none⟩), undef, .int .i64 0, u, mv, x5, p, x7, x8, x9, x10, x11, x12, x13, x14, x15, x16, x17, x18, x19, x20, x21, x22, x23, x24, x25, x26, x27, x28, x29, x30, x31, x32, x33, x34, x35, x36, x37, x38, x39, x40, x41, x42, x43, x44, x45, x46, x47, x48, x49, x50, x51, x52, x53, x54, x55, x56, x57, x58, x59, x60, x61, x62, x63, x64, x65], defers := [] }
def AtWrong (b : Nat) (a : Act) : Prop := ∃ u mv p : Value, AtNext b u mv p a

/-- What Num leaves. -/
def NumPost (T : TypeId) (b : Nat) (s : ByteArray) (p : Nat) (w : World) (e : Ending) (w' : World) : Prop :=
  (∃ n m, rd (s.data.toList.drop p) = some (n, m) ∧ e = .returned (.int .i64 n) ∧ Rd T w' b s (p + m) false ∧ w.grownBy w' (some b)) ∨
  (rd (s.data.toList.drop p) = none ∧ e = .returned (.int .i64 0) ∧ (∃ q, q ≤ s.size ∧ Rd T w' b s q true) ∧ w.grownBy w' (some b))

theorem rd_none {l : List UInt8} (h : num l 0 0 = none) : rd l = none := by unfold rd; rw [h]; rfl
theorem rd_of {l : List UInt8} {u m : Nat} (h : num l 0 0 = some (u, m)) : rd l = some (unfold u, m) := by unfold rd; rw [h]; rfl

theorem drop_at (s : ByteArray) (i : Nat) (h : i < s.size) : s.data.toList.drop i = s[i] :: s.data.toList.drop (i + 1) := by
  rw [List.drop_eq_getElem_cons (by simpa using h)]; rfl
theorem drop_end (s : ByteArray) (i : Nat) (h : ¬ i < s.size) : s.data.toList.drop i = [] := List.drop_eq_nil_of_le (by simp; omega)
theorem num_end (k u : Nat) : num [] k u = none := rfl
theorem num_go {c : UInt8} {t : List UInt8} {k u : Nat} (hk : k = 9 → c.toNat ≤ 1) (h : 128 ≤ c.toNat) : num (c :: t) k u = num t (k + 1) (u + 2 ^ (7 * k) * (c.toNat % 128)) := by
  rw [num, if_neg (by rintro ⟨h1, h2⟩; have := hk h1; omega), if_pos h]
theorem num_last {c : UInt8} {t : List UInt8} {k u : Nat} (hk : k = 9 → c.toNat ≤ 1) (h : c.toNat < 128) (h0 : 0 < k → 0 < c.toNat) : num (c :: t) k u = some (u + 2 ^ (7 * k) * (c.toNat % 128), k + 1) := by
  rw [num, if_neg (by rintro ⟨h1, h2⟩; have := hk h1; omega), if_neg (by omega), if_neg (by rintro ⟨h1, h2⟩; have := h0 h2; omega), Nat.mod_eq_of_lt h]
theorem num_over {c : UInt8} {t : List UInt8} {u : Nat} (h : 1 < c.toNat) : num (c :: t) 9 u = none := by
  rw [num, if_pos ⟨rfl, h⟩]
theorem num_more {c : UInt8} {t : List UInt8} {k u : Nat} (hk : 0 < k) (h : c.toNat = 0) : num (c :: t) k u = none := by
  rw [num, if_neg (by omega), if_neg (by omega), if_pos ⟨h, hk⟩]

def NextJ (b : Nat) (s : ByteArray) (p : Nat) (w : World) (l : Nat) (a : Act) (w' : World) : Prop :=
  w = w' ∧ ((l = 1 ∧ ∃ k u : Nat, AtNext b (.int .u64 u) (.int .u64 ((7 * k : Nat) : Int)) (.int .i64 ((p + k : Nat) : Int)) a ∧ k ≤ 9 ∧ 1 ≤ k ∧ p + k ≤ s.size ∧ u < 2 ^ (7 * k) ∧ num (s.data.toList.drop (p + k)) k u = num (s.data.toList.drop p) 0 0) ∨
    (l = 0 ∧ AtWrong b a ∧ num (s.data.toList.drop p) 0 0 = none))
def nextM (l : Nat) (a : Act) (_ : World) : Nat := if l = 1 then (100 - intOf (a.tmps.getD 4 undef)).toNat + 1 else 0

end Go.Proofs.Ytmmfjmhemknpgaa

/- What Num of the document's Reader gives; of both, behind Bad. -/
namespace Go.Proofs.Ytmmfjmhemknpgaa
open Go.RowKit Cod

theorem and_127 : ∀ x : Nat, x < 256 → bits .and .u8 (x : Int) 127 = ((x % 128 : Nat) : Int) := by decide +kernel
theorem and_one (z : Nat) (h : z < 18446744073709551616) : bits .and .u64 (z : Int) 1 = ((z % 2 : Nat) : Int) := by
  have k := u64_and_nat z 1 h (by decide)
  rw [Nat.and_one_is_mod] at k
  exact k

end Go.Proofs.Ytmmfjmhemknpgaa

/- Num of both Readers, in two words: what comes, or that nothing comes. -/
namespace Go.Proofs.Ytmmfjmhemknpgaa
open Go.RowKit Cod

def BadJ (b : Nat) (w : World) (l : Nat) (a : Act) (w' : World) : Prop := w = w' ∧ l = 0 ∧ AtWrong b a

/-- It went wrong already, or nothing comes: the zero value. -/
def No (T : TypeId) (b : Nat) (s : ByteArray) (w : World) (z : Value) (e : Ending) (w' : World) : Prop :=
  e = .returned z ∧ (∃ q, q ≤ s.size ∧ Rd T w' b s q true) ∧ w.grownBy w' (some b)
/-- What comes, and from where on to read. -/
def Yes (T : TypeId) (b : Nat) (s : ByteArray) (w : World) (v : Value) (q : Nat) (e : Ending) (w' : World) : Prop :=
  e = .returned v ∧ Rd T w' b s q false ∧ w.grownBy w' (some b)

theorem list_len (s : ByteArray) (p : Nat) : (s.data.toList.drop p).length = s.size - p := by simp

section
variable {T : TypeId} {b : Nat} {s : ByteArray} {p : Nat} {w : World} {bad : Bool}
theorem post_yes {e : Ending} {w' : World} {n : Int} {m : Nat} (h : rd (s.data.toList.drop p) = some (n, m)) (k : NumPost T b s p w e w') : Yes T b s w (.int .i64 n) (p + m) e w' := by
  rcases k with ⟨n', m', h1, he, hr, hb⟩ | ⟨h1, _⟩
  · rw [h] at h1
    obtain ⟨rfl, rfl⟩ := Prod.mk.inj (Option.some.inj h1)
    exact ⟨he, hr, hb⟩
  · rw [h] at h1; cases h1
theorem post_no {e : Ending} {w' : World} (h : rd (s.data.toList.drop p) = none) (k : NumPost T b s p w e w') : No T b s w (.int .i64 0) e w' := by
  rcases k with ⟨n', m', h1, _⟩ | ⟨_, he, hr, hb⟩
  · rw [h] at h1; cases h1
  · exact ⟨he, hr, hb⟩

/-- The number that stands at p, and what stands behind it. -/
def isNum (s : ByteArray) (p : Nat) (bad : Bool) : Option (Int × Nat) := if bad then none else (rd (s.data.toList.drop p)).map fun x => (x.1, p + x.2)
theorem isNum_some {n : Int} {q : Nat} (h : isNum s p bad = some (n, q)) : bad = false ∧ (∃ m, rd (s.data.toList.drop p) = some (n, m) ∧ q = p + m) ∧ q ≤ s.size ∧ p < q ∧ -9223372036854775808 ≤ n ∧ n ≤ 9223372036854775807 := by
  unfold isNum at h
  cases bad
  · obtain ⟨⟨n', m⟩, h1, h2⟩ := Option.map_eq_some_iff.1 h
    obtain ⟨rfl, rfl⟩ := Prod.mk.inj h2
    obtain ⟨_, _, k1, _, k2, k3, k4⟩ := rd_some h1
    rw [list_len] at k2
    exact ⟨rfl, ⟨m, h1, rfl⟩, by show p + m ≤ _; omega, by show p < p + m; omega, k3, k4⟩
  · cases h
theorem isNum_none (h : isNum s p bad = none) : bad = true ∨ bad = false ∧ rd (s.data.toList.drop p) = none := by
  unfold isNum at h
  cases bad
  · exact Or.inr ⟨rfl, by simpa using h⟩
  · exact Or.inl rfl

end

end Go.Proofs.Ytmmfjmhemknpgaa

/- Count and Bool of both Readers. -/
namespace Go.Proofs.Ytmmfjmhemknpgaa
open Go.RowKit Cod

/-- The number from 0 to most that stands at p. -/
def isCount (s : ByteArray) (p : Nat) (bad : Bool) (most : Int) : Option (Int × Nat) :=
  match isNum s p bad with
  | some (n, q) => if 0 ≤ n ∧ n ≤ most then some (n, q) else none
  | none => none

section
variable {b : Nat} {s : ByteArray} {p : Nat} {w : World} {bad : Bool}
theorem isCount_some {most n : Int} {q : Nat} (h : isCount s p bad most = some (n, q)) : isNum s p bad = some (n, q) ∧ 0 ≤ n ∧ n ≤ most := by
  unfold isCount at h
  split at h
  · rename_i n' q' h1
    split at h
    · rename_i h2
      obtain ⟨rfl, rfl⟩ := Prod.mk.inj (Option.some.inj h)
      exact ⟨h1, h2⟩
    · cases h
  · cases h
theorem isCount_none {most : Int} (h : isCount s p bad most = none) : isNum s p bad = none ∨ ∃ n q, isNum s p bad = some (n, q) ∧ (n < 0 ∨ most < n) := by
  unfold isCount at h
  split at h
  · rename_i n' q' h1
    split at h
    · cases h
    · exact Or.inr ⟨n', q', h1, by omega⟩
  · exact Or.inl ‹_›

/-- The bool that stands at p. -/
def isBool (s : ByteArray) (p : Nat) (bad : Bool) : Option (Bool × Nat) := (isCount s p bad 1).map fun x => (decide (x.1 = 1), x.2)
theorem isBool_some {v : Bool} {q : Nat} (h : isBool s p bad = some (v, q)) : ∃ n, isCount s p bad 1 = some (n, q) ∧ (n = 1 ∧ v = true ∨ n = 0 ∧ v = false) := by
  unfold isBool at h
  obtain ⟨⟨n, q'⟩, h1, h2⟩ := Option.map_eq_some_iff.1 h
  obtain ⟨rfl, rfl⟩ := Prod.mk.inj h2
  obtain ⟨_, h3, h4⟩ := isCount_some h1
  refine ⟨n, h1, ?_⟩
  by_cases h5 : n = 1
  · exact Or.inl ⟨h5, by simp [h5]⟩
  · exact Or.inr ⟨by omega, by simp [h5]⟩
theorem isBool_none (h : isBool s p bad = none) : isCount s p bad 1 = none := by simpa [isBool] using h

end

end Go.Proofs.Ytmmfjmhemknpgaa

/- Text and Done of both Readers. -/
namespace Go.Proofs.Ytmmfjmhemknpgaa
open Go.RowKit Cod

/-- The text that stands at p. -/
def isText (s : ByteArray) (p : Nat) (bad : Bool) (most : Int) : Option (ByteArray × Nat) :=
  match isCount s p bad most with
  | some (n, q) => if n.toNat + q ≤ s.size then some (s.extract q (q + n.toNat), q + n.toNat) else none
  | none => none

section
variable {b : Nat} {s : ByteArray} {p : Nat} {w : World} {bad : Bool}
theorem isText_some {most : Int} {t : ByteArray} {e : Nat} (h : isText s p bad most = some (t, e)) : ∃ n q : Nat, isCount s p bad most = some ((n : Int), q) ∧ n + q ≤ s.size ∧ t = s.extract q (q + n) ∧ e = q + n := by
  unfold isText at h
  split at h
  · rename_i n' q' h1
    split at h
    · rename_i h2
      obtain ⟨rfl, rfl⟩ := Prod.mk.inj (Option.some.inj h)
      obtain ⟨_, h3, _⟩ := isCount_some h1
      exact ⟨n'.toNat, q', by rw [Int.toNat_of_nonneg h3]; exact h1, h2, rfl, rfl⟩
    · cases h
  · cases h
theorem isText_none {most : Int} (h : isText s p bad most = none) : isCount s p bad most = none ∨ ∃ n q : Nat, isCount s p bad most = some ((n : Int), q) ∧ s.size < n + q := by
  unfold isText at h
  split at h
  · rename_i n' q' h1
    split at h
    · cases h
    · obtain ⟨_, h3, _⟩ := isCount_some h1
      exact Or.inr ⟨n'.toNat, q', by rw [Int.toNat_of_nonneg h3]; exact h1, by omega⟩
  · exact Or.inl ‹_›

/-- Is nothing left, and did nothing go wrong? -/
def isDone (s : ByteArray) (p : Nat) (bad : Bool) : Bool := !bad && decide (p = s.size)

end

end Go.Proofs.Ytmmfjmhemknpgaa

/- Numbers, a text and a bool, one behind the other: what stands where. -/
namespace Go.Proofs.Ytmmfjmhemknpgaa
open Go.RowKit Cod

theorem drop_of (A R : ByteArray) : (A ++ R).data.toList.drop A.size = R.data.toList := by
  rw [dl_app, ← dl_len A]; exact List.drop_left' rfl

theorem num_there (A Z : ByteArray) (n : Int) (h1 : -9223372036854775808 ≤ n) (h2 : n ≤ 9223372036854775807) : isNum (A ++ (bytesOf n ++ Z)) A.size false = some (n, A.size + (bytesOf n).size) := by
  unfold isNum
  rw [drop_of, dl_app, bytesOf_list, rd_enc n h1 h2, bytesOf_size]
  rfl

theorem count_there (A Z : ByteArray) (n most : Int) (h0 : 0 ≤ n) (h1 : n ≤ most) (h2 : n ≤ 9223372036854775807) : isCount (A ++ (bytesOf n ++ Z)) A.size false most = some (n, A.size + (bytesOf n).size) := by
  unfold isCount
  rw [num_there A Z n (by omega) h2]
  exact if_pos ⟨h0, h1⟩

theorem ext_there (A s Z : ByteArray) : (A ++ (s ++ Z)).extract A.size (A.size + s.size) = s := by
  apply dl_inj
  rw [ByteArray.data_extract, Array.toList_extract, List.extract_eq_take_drop, drop_of, dl_app]
  rw [Nat.add_sub_cancel_left, ← dl_len s]
  exact List.take_left' rfl

theorem text_there (A s Z : ByteArray) (most : Int) (h : (s.size : Int) ≤ most) (hs : s.size ≤ 1000000) : isText (A ++ (textOf s ++ Z)) A.size false most = some (s, A.size + (textOf s).size) := by
  unfold textOf isText
  rw [ByteArray.append_assoc, count_there A _ s.size most (by omega) h (by omega)]
  have e : A ++ (bytesOf s.size ++ (s ++ Z)) = (A ++ bytesOf s.size) ++ (s ++ Z) := by rw [ByteArray.append_assoc]
  have e2 : A.size + (bytesOf s.size).size = (A ++ bytesOf s.size).size := by rw [ByteArray.size_append]
  simp only [Int.toNat_natCast]
  have e3 : (s ++ Z).size = s.size + Z.size := ByteArray.size_append
  rw [if_pos (by rw [e, ByteArray.size_append, e2, e3]; omega), e2, e, ext_there, ByteArray.size_append, ByteArray.size_append, Nat.add_assoc]

theorem bool_there (A Z : ByteArray) (b : Bool) : isBool (A ++ (bitOf b ++ Z)) A.size false = some (b, A.size + (bitOf b).size) := by
  unfold isBool bitOf
  cases b
  · rw [count_there A Z _ 1 (by decide) (by decide) (by decide)]; rfl
  · rw [count_there A Z _ 1 (by decide) (by decide) (by decide)]; rfl

/-- The first k numbers, one behind the other. -/
def catF (f : Nat → Int) : Nat → ByteArray
  | 0 => ⟨#[]⟩
  | k + 1 => catF f k ++ bytesOf (f k)
def posF (f : Nat → Int) (k : Nat) : Nat := (catF f k).size
theorem pos_succ (f : Nat → Int) (k : Nat) : posF f (k + 1) = posF f k + (bytesOf (f k)).size := by
  unfold posF; rw [catF, ByteArray.size_append]

def Fits (f : Nat → Int) (n : Nat) : Prop := ∀ j, j < n → -9223372036854775808 ≤ f j ∧ f j ≤ 9223372036854775807
theorem cat_le (f : Nat → Int) (n : Nat) (h : Fits f n) : ∀ k, k ≤ n → (catF f k).size ≤ 10 * k
  | 0, _ => Nat.le_refl 0
  | k + 1, hk => by
    have h1 := cat_le f n h k (by omega)
    have h2 := h k (by omega)
    have h3 := bytesOf_le (f k) h2.1 h2.2
    rw [catF, ByteArray.size_append]; omega
theorem cat_rest (f : Nat → Int) (k : Nat) : ∀ n, k ≤ n → ∃ R, catF f n = catF f k ++ R
  | 0, h => by
    obtain rfl : k = 0 := by omega
    exact ⟨⟨#[]⟩, dl_inj (by rw [dl_app]; exact (List.append_nil _).symm)⟩
  | n + 1, h => by
    by_cases e : k = n + 1
    · subst e
      exact ⟨⟨#[]⟩, dl_inj (by rw [dl_app]; exact (List.append_nil _).symm)⟩
    · obtain ⟨R, hR⟩ := cat_rest f k n (by omega)
      exact ⟨R ++ bytesOf (f n), by rw [catF, hR, ByteArray.append_assoc]⟩

theorem cat_num (f : Nat → Int) (k n : Nat) (h : k < n) (hf : Fits f n) (Z : ByteArray) : isNum (catF f n ++ Z) (posF f k) false = some (f k, posF f (k + 1)) := by
  obtain ⟨R, hR⟩ := cat_rest f (k + 1) n (by omega)
  have hb := hf k h
  rw [hR, catF, ByteArray.append_assoc, ByteArray.append_assoc, pos_succ]
  exact num_there (catF f k) (R ++ Z) (f k) hb.1 hb.2

/-- All that stands behind each other, and what comes of it. -/
theorem tail_text (A s : ByteArray) (b : Bool) (hs : s.size ≤ 2000) : isText (A ++ textOf s ++ bitOf b) A.size false 2000 = some (s, A.size + (textOf s).size) := by
  rw [ByteArray.append_assoc]; exact text_there A s (bitOf b) 2000 (by omega) (by omega)
theorem tail_bool (A s : ByteArray) (b : Bool) : isBool (A ++ textOf s ++ bitOf b) (A.size + (textOf s).size) false = some (b, (A ++ textOf s ++ bitOf b).size) := by
  have h := bool_there (A ++ textOf s) ⟨#[]⟩ b
  have e : bitOf b ++ ⟨#[]⟩ = bitOf b := dl_inj (by rw [dl_app]; exact List.append_nil _)
  rw [e, ByteArray.size_append] at h
  rw [h, ByteArray.size_append, ByteArray.size_append]

theorem bit_size' (c : Bool) : (bitOf c).size = 1 := by
  unfold bitOf
  rw [bytesOf_size]
  cases c
  · rw [show fold (if false then 1 else 0) = 0 from rfl, enc_small (by decide)]; rfl
  · rw [show fold (if true then 1 else 0) = 2 from rfl, enc_small (by decide)]; rfl

end Go.Proofs.Ytmmfjmhemknpgaa

/- Names, digits and twins as lists of bytes. -/
namespace Go.Proofs.Ytmmfjmhemknpgaa.Nam
open Go.Lib (decDigits decDigits_one)

def okB (b : UInt8) : Bool := decide (33 ≤ b.toNat ∧ b.toNat ≤ 125 ∧ b.toNat ≠ 47)
/-- Is it a name? -/
def isName (l : List UInt8) : Bool := decide (1 ≤ l.length ∧ l.length ≤ 16) && l.all okB

theorem isName_len {l : List UInt8} (h : isName l = true) : 1 ≤ l.length ∧ l.length ≤ 16 := by
  unfold isName at h; simp at h; exact h.1
theorem isName_at {l : List UInt8} (h : isName l = true) (i : Nat) (hi : i < l.length) : 33 ≤ l[i].toNat ∧ l[i].toNat ≤ 125 ∧ l[i].toNat ≠ 47 := by
  unfold isName at h
  rw [Bool.and_eq_true, List.all_eq_true] at h
  exact of_decide_eq_true (h.2 l[i] (List.getElem_mem hi))
theorem isName_short {l : List UInt8} (h : ¬ (1 ≤ l.length ∧ l.length ≤ 16)) : isName l = false := by
  unfold isName; rw [decide_eq_false h]; rfl
theorem isName_bad {l : List UInt8} (i : Nat) (hi : i < l.length) (h : ¬ (33 ≤ l[i].toNat ∧ l[i].toNat ≤ 125 ∧ l[i].toNat ≠ 47)) : isName l = false := by
  cases e : isName l
  · rfl
  · exact absurd (isName_at e i hi) h
theorem isName_of {l : List UInt8} (h1 : 1 ≤ l.length ∧ l.length ≤ 16) (h2 : ∀ b ∈ l, okB b = true) : isName l = true := by
  unfold isName; rw [decide_eq_true h1, List.all_eq_true.2 h2]; rfl

/-- Where the first mark stands, or the length. -/
def endOf : List UInt8 → Nat
  | [] => 0
  | b :: t => if b.toNat = 126 then 0 else endOf t + 1

theorem endOf_le : ∀ l, endOf l ≤ l.length
  | [] => Nat.le_refl _
  | b :: t => by
    rw [endOf]; split
    · exact Nat.zero_le _
    · have := endOf_le t; rw [List.length_cons]; omega
theorem endOf_before : ∀ (l : List UInt8) (i : Nat) (h : i < l.length), i < endOf l → l[i].toNat ≠ 126
  | [], i, h, _ => absurd h (by simp)
  | b :: t, i, h, hi => by
    rw [endOf] at hi
    by_cases hb : b.toNat = 126
    · rw [if_pos hb] at hi; omega
    · rw [if_neg hb] at hi
      cases i with
      | zero => exact hb
      | succ i => exact endOf_before t i (by simpa using h) (by omega)
theorem endOf_at : ∀ (l : List UInt8) (h : endOf l < l.length), l[endOf l].toNat = 126
  | [], h => absurd h (by simp)
  | b :: t, h => by
    by_cases hb : b.toNat = 126
    · have e : endOf (b :: t) = 0 := by rw [endOf, if_pos hb]
      simp [e, hb]
    · have e : endOf (b :: t) = endOf t + 1 := by rw [endOf, if_neg hb]
      have h2 : endOf t < t.length := by rw [e] at h; simpa using h
      have := endOf_at t h2
      simp [e, this]
theorem endOf_app : ∀ (a t : List UInt8), (∀ i (h : i < a.length), a[i].toNat ≠ 126) → endOf (a ++ (126 : UInt8) :: t) = a.length
  | [], t, _ => by
    show endOf ((126 : UInt8) :: t) = 0
    rw [endOf]; rfl
  | b :: a, t, h => by
    have hb : b.toNat ≠ 126 := h 0 (by simp)
    rw [List.cons_append, endOf, if_neg hb, endOf_app a t (fun i hi => h (i + 1) (by simpa using hi))]; rfl
theorem endOf_none : ∀ (a : List UInt8), (∀ i (h : i < a.length), a[i].toNat ≠ 126) → endOf a = a.length
  | [], _ => rfl
  | b :: a, h => by
    have hb : b.toNat ≠ 126 := h 0 (by simp)
    rw [endOf, if_neg hb, endOf_none a (fun i hi => h (i + 1) (by simpa using hi))]; rfl

def isDig (b : UInt8) : Bool := decide (48 ≤ b.toNat ∧ b.toNat ≤ 57)
/-- The number of digits. -/
def val (l : List UInt8) : Nat := l.foldl (fun n b => 10 * n + (b.toNat - 48)) 0

theorem val_snoc (l : List UInt8) (b : UInt8) : val (l ++ [b]) = 10 * val l + (b.toNat - 48) := by unfold val; simp
theorem foldl_ge : ∀ (l : List UInt8) (n : Nat), n ≤ l.foldl (fun n b => 10 * n + (b.toNat - 48)) n
  | [], n => Nat.le_refl _
  | b :: t, n => by
    rw [List.foldl_cons]
    have := foldl_ge t (10 * n + (b.toNat - 48))
    omega
theorem val_app (a b : List UInt8) : val a ≤ val (a ++ b) := by
  unfold val; rw [List.foldl_append]; exact foldl_ge b _
theorem val_take (l : List UInt8) (k : Nat) : val (l.take k) ≤ val l := by
  have h := val_app (l.take k) (l.drop k)
  rwa [List.take_append_drop] at h
theorem take_next (l : List UInt8) (k : Nat) (h : k < l.length) : l.take (k + 1) = l.take k ++ [l[k]] := by
  rw [List.take_succ_eq_append_getElem h]
theorem val_next (l : List UInt8) (k : Nat) (h : k < l.length) : val (l.take (k + 1)) = 10 * val (l.take k) + (l[k].toNat - 48) := by
  rw [take_next l k h, val_snoc]

theorem dec_dig (n : Nat) : ∀ b ∈ decDigits n, isDig b = true := by
  induction n using Nat.strongRecOn with
  | _ n ih =>
    intro b hb
    by_cases h : n < 10
    · rw [decDigits_one h] at hb
      obtain rfl := List.mem_singleton.1 hb
      unfold isDig
      rw [UInt8.toNat_ofNat']
      exact decide_eq_true (by omega)
    · rw [decDigits, dif_neg h] at hb
      rcases List.mem_append.1 hb with h1 | h1
      · exact ih (n / 10) (by omega) b h1
      · obtain rfl := List.mem_singleton.1 h1
        unfold isDig
        rw [UInt8.toNat_ofNat']
        exact decide_eq_true (by omega)
theorem val_dec (n : Nat) : val (decDigits n) = n := by
  induction n using Nat.strongRecOn with
  | _ n ih =>
    by_cases h : n < 10
    · rw [decDigits_one h]
      show 10 * 0 + ((UInt8.ofNat (48 + n)).toNat - 48) = n
      rw [UInt8.toNat_ofNat']; omega
    · rw [decDigits, dif_neg h, val_snoc, ih (n / 10) (by omega), UInt8.toNat_ofNat']; omega
theorem dec_ne (n : Nat) : 1 ≤ (decDigits n).length := by
  by_cases h : n < 10
  · rw [decDigits_one h]; simp
  · rw [decDigits, dif_neg h]; simp
theorem dec_inj {a b : Nat} (h : decDigits a = decDigits b) : a = b := by rw [← val_dec a, h, val_dec]
/-- No number but 0 begins with 0. -/
theorem dec_head (n : Nat) : 0 < n → ∀ b t, decDigits n = b :: t → b.toNat ≠ 48 := by
  induction n using Nat.strongRecOn with
  | _ n ih =>
    intro hn b t e
    by_cases h : n < 10
    · rw [decDigits_one h] at e
      obtain ⟨rfl, _⟩ := List.cons.inj e
      rw [UInt8.toNat_ofNat']; omega
    · rw [decDigits, dif_neg h] at e
      cases e1 : decDigits (n / 10) with
      | nil => have := dec_ne (n / 10); rw [e1] at this; simp at this
      | cons c u =>
        rw [e1, List.cons_append] at e
        obtain ⟨rfl, _⟩ := List.cons.inj e
        exact ih (n / 10) (by omega) (by omega) _ _ e1
theorem val_pos {b : UInt8} {t : List UInt8} (h : 48 < b.toNat) : 0 < val (b :: t) := by
  unfold val
  rw [List.foldl_cons]
  have := foldl_ge t (10 * 0 + (b.toNat - 48))
  omega
theorem dec_ten (v d : Nat) (hv : 0 < v) (hd : d < 10) : decDigits (10 * v + d) = decDigits v ++ [UInt8.ofNat (48 + d)] := by
  rw [decDigits, dif_neg (by omega), show (10 * v + d) / 10 = v by omega, show (10 * v + d) % 10 = d by omega]
theorem rev_rec {P : List UInt8 → Prop} (h0 : P []) (h1 : ∀ l b, P l → P (l ++ [b])) (l : List UInt8) : P l := by
  have key : ∀ m : List UInt8, P m.reverse := by
    intro m
    induction m with
    | nil => exact h0
    | cons b m ih => rw [List.reverse_cons]; exact h1 _ _ ih
  have := key l.reverse
  rwa [List.reverse_reverse] at this
/-- Digits without a 0 ahead are those of their number. -/
theorem dec_val (l : List UInt8) : l ≠ [] → (∀ b ∈ l, isDig b = true) → (∀ b t, l = b :: t → t ≠ [] → b.toNat ≠ 48) → decDigits (val l) = l := by
  refine rev_rec (P := fun l => l ≠ [] → (∀ b ∈ l, isDig b = true) → (∀ b t, l = b :: t → t ≠ [] → b.toNat ≠ 48) → decDigits (val l) = l) (fun h => absurd rfl h) (fun l b ih _ hd h0 => ?_) l
  have hb : 48 ≤ b.toNat ∧ b.toNat ≤ 57 := of_decide_eq_true (hd b (by simp))
  have eb : UInt8.ofNat (48 + (b.toNat - 48)) = b := by rw [show 48 + (b.toNat - 48) = b.toNat by omega, UInt8.ofNat_toNat]
  rw [val_snoc]
  cases l with
  | nil =>
    show decDigits (10 * 0 + (b.toNat - 48)) = [b]
    rw [decDigits_one (by omega), show 10 * 0 + (b.toNat - 48) = b.toNat - 48 by omega, eb]
  | cons c t =>
    have hc : c.toNat ≠ 48 := h0 c (t ++ [b]) rfl (by simp)
    have hc2 : 48 ≤ c.toNat ∧ c.toNat ≤ 57 := of_decide_eq_true (hd c (by simp))
    have hv : 0 < val (c :: t) := val_pos (by omega)
    rw [dec_ten _ _ hv (by omega), eb, ih (by simp) (fun x hx => hd x (by simp at hx ⊢; rcases hx with h | h <;> simp [h])) (fun x u e _ => by obtain ⟨rfl, _⟩ := List.cons.inj e; exact hc)]

/-- The node, below 64, whose digits a text is. -/
def node (l : List UInt8) : Option Nat := if l.all isDig = true ∧ val l < 64 ∧ decDigits (val l) = l then some (val l) else none

theorem node_some {l : List UInt8} {n : Nat} (h : node l = some n) : n < 64 ∧ decDigits n = l := by
  unfold node at h
  split at h
  · rename_i k
    obtain rfl := Option.some.inj h
    exact k.2
  · cases h
theorem node_dec {n : Nat} (h : n < 64) : node (decDigits n) = some n := by
  unfold node
  rw [if_pos ⟨List.all_eq_true.2 (dec_dig n), by rw [val_dec]; exact h, by rw [val_dec]⟩, val_dec]
theorem node_none_of {l : List UInt8} (h : ∀ n, n < 64 → decDigits n = l → False) : node l = none := by
  cases e : node l with
  | none => rfl
  | some n => exact (h n (node_some e).1 (node_some e).2).elim
theorem node_no_dig {l : List UInt8} (i : Nat) (hi : i < l.length) (h : ¬ (48 ≤ l[i].toNat ∧ l[i].toNat ≤ 57)) : node l = none :=
  node_none_of fun n _ e => by subst e; exact h (of_decide_eq_true (dec_dig n _ (List.getElem_mem hi)))
theorem node_no_big {l : List UInt8} (i : Nat) (h : 64 ≤ val (l.take i)) : node l = none :=
  node_none_of fun n hn e => by subst e; have := val_take (decDigits n) i; rw [val_dec] at this; omega
theorem node_no_zero {l : List UInt8} (h1 : 1 < l.length) (h : l[0].toNat = 48) : node l = none :=
  node_none_of fun n hn e => by
    subst e
    by_cases h0 : n < 10
    · rw [decDigits_one h0] at h1; simp at h1
    · cases e1 : decDigits n with
      | nil => rw [e1] at h1; simp at h1
      | cons c t =>
        have := dec_head n (by omega) c t e1
        simp [e1] at h
        exact this h
theorem node_no_nil {l : List UInt8} (h : l.length = 0) : node l = none :=
  node_none_of fun n _ e => by have := dec_ne n; rw [e] at this; omega
theorem node_yes {l : List UInt8} (h1 : 0 < l.length) (h2 : ∀ b ∈ l, isDig b = true) (h3 : val l < 64) (h4 : 1 < l.length → l[0].toNat ≠ 48) : node l = some (val l) := by
  have h0 : ∀ b t, l = b :: t → t ≠ [] → b.toNat ≠ 48 := by
    intro b t e ht
    subst e
    have := h4 (by cases t with | nil => exact absurd rfl ht | cons _ _ => simp)
    simpa using this
  unfold node
  rw [if_pos ⟨List.all_eq_true.2 h2, h3, dec_val l (by intro e; simp [e] at h1) h2 h0⟩]

/-- What a shown name says: a name, and no number; or a name and its number. -/
def says (l : List UInt8) : Option (List UInt8 × Option Nat) :=
  if isName (l.take (endOf l)) = true then
    if endOf l = l.length then some (l, none) else (node (l.drop (endOf l + 1))).map fun n => (l.take (endOf l), some n)
  else none

/-- A twin's shown name. -/
def twin (l : List UInt8) (n : Nat) : List UInt8 := l ++ (126 : UInt8) :: decDigits n

theorem name_no_mark {l : List UInt8} (h : isName l = true) (i : Nat) (hi : i < l.length) : l[i].toNat ≠ 126 := by
  have := isName_at h i hi; omega
theorem says_twin {l : List UInt8} {n : Nat} (h : isName l = true) (hn : n < 64) : says (twin l n) = some (l, some n) := by
  have he : endOf (twin l n) = l.length := endOf_app l (decDigits n) (name_no_mark h)
  have ht : (twin l n).take l.length = l := by unfold twin; simp
  have hd : (twin l n).drop (l.length + 1) = decDigits n := by unfold twin; simp
  have hne : ¬ l.length = (twin l n).length := by unfold twin; simp
  unfold says
  rw [he, ht, if_pos h, if_neg hne, hd, node_dec hn]; rfl
theorem says_name {l : List UInt8} (h : isName l = true) : says l = some (l, none) := by
  have he := endOf_none l (name_no_mark h)
  unfold says
  rw [he, List.take_length, if_pos h, if_pos rfl]
theorem twin_no_name {l : List UInt8} {n : Nat} : isName (twin l n) = false := by
  refine isName_bad l.length (by unfold twin; simp) ?_
  simp [twin]
theorem twin_inj {a b : List UInt8} {m n : Nat} (ha : isName a = true) (hb : isName b = true) (hm : m < 64) (hn : n < 64) (h : twin a m = twin b n) : a = b ∧ m = n := by
  have h1 := says_twin ha hm
  rw [h, says_twin hb hn] at h1
  have h2 := Option.some.inj h1
  exact ⟨(Prod.mk.inj h2).1.symm, (Option.some.inj (Prod.mk.inj h2).2).symm⟩
theorem split_at {l : List UInt8} (h : endOf l < l.length) : l = l.take (endOf l) ++ (126 : UInt8) :: l.drop (endOf l + 1) := by
  have e : l[endOf l] = (126 : UInt8) := UInt8.toNat_inj.1 (endOf_at l h)
  calc l = l.take (endOf l) ++ l.drop (endOf l) := (List.take_append_drop _ _).symm
    _ = _ := by rw [List.drop_eq_getElem_cons h, e]
theorem says_none_name {l : List UInt8} (h : says l = none) : isName l = false := by
  cases e : isName l
  · rfl
  · rw [says_name e] at h; cases h
theorem says_some {l t : List UInt8} {o : Option Nat} (h : says l = some (t, o)) : isName t = true ∧ (o = none ∧ t = l ∨ ∃ n, o = some n ∧ n < 64 ∧ twin t n = l) := by
  unfold says at h
  split at h
  · rename_i h1
    split at h
    · rename_i h2
      obtain ⟨rfl, rfl⟩ := Prod.mk.inj (Option.some.inj h)
      rw [h2, List.take_length] at h1
      exact ⟨h1, Or.inl ⟨rfl, rfl⟩⟩
    · rename_i h2
      obtain ⟨n, h3, h4⟩ := Option.map_eq_some_iff.1 h
      obtain ⟨rfl, rfl⟩ := Prod.mk.inj h4
      obtain ⟨h5, h6⟩ := node_some h3
      refine ⟨h1, Or.inr ⟨n, rfl, h5, ?_⟩⟩
      unfold twin
      rw [h6]
      have := endOf_le l
      exact (split_at (by omega)).symm
  · cases h

end Go.Proofs.Ytmmfjmhemknpgaa.Nam

/- Places and trees as bytes; what may be a tree. -/
namespace Go.Proofs.Ytmmfjmhemknpgaa
open Go.RowKit Nam Cod Tre

def isPlace (s : ByteArray) (p : Nat) (bad : Bool) : Option (Pl × Nat) :=
  (isNum s p bad).bind fun a => (isNum s a.2 false).bind fun b => (isText s b.2 false 16).bind fun c => some (⟨a.1, b.1, c.1⟩, c.2)
/-- So many places, from p on. -/
def isPlaces (s : ByteArray) : Nat → Nat → Option (List Pl × Nat)
  | 0, p => some ([], p)
  | n + 1, p => (isPlaces s n p).bind fun a => (isPlace s a.2 false).bind fun b => some (a.1 ++ [b.1], b.2)
def okPl (p : Pl) : Bool := decide (2 ≤ p.n ∧ p.n < 64 ∧ 0 ≤ p.u ∧ p.u < 64) && isName (L p.s)
def rising : List Pl → Bool
  | [] => true
  | [_] => true
  | p :: q :: l => decide (p.n < q.n) && rising (q :: l)
def treeB (l : List Pl) : Bool := l.all okPl && (rising l && l.all fun p => !above l p.n p.u)
def isTree (s : ByteArray) (p : Nat) (bad : Bool) : Option (List Pl × Nat) :=
  (isCount s p bad 64).bind fun a => (isPlaces s a.1.toNat a.2).bind fun b => if treeB b.1 = true then some b else none

def plBytes (p : Pl) : ByteArray := bytesOf p.n ++ bytesOf p.u ++ textOf p.s
def catL : List Pl → ByteArray
  | [] => ⟨#[]⟩
  | p :: l => plBytes p ++ catL l
def treeBytes (l : List Pl) : ByteArray := bytesOf l.length ++ catL l
/-- Numbers that a word holds; a text that isn't too long. -/
structure Fit (p : Pl) : Prop where
  n1 : -9223372036854775808 ≤ p.n
  n2 : p.n ≤ 9223372036854775807
  u1 : -9223372036854775808 ≤ p.u
  u2 : p.u ≤ 9223372036854775807
  s : p.s.size ≤ 16

theorem bempty (x : ByteArray) : x ++ (⟨#[]⟩ : ByteArray) = x := by apply L_inj; rw [L_app]; simp [L]
theorem empty_b (x : ByteArray) : (⟨#[]⟩ : ByteArray) ++ x = x := by apply L_inj; rw [L_app]; simp [L]
theorem catL_snoc (l : List Pl) (p : Pl) : catL (l ++ [p]) = catL l ++ plBytes p := by
  induction l with
  | nil => show plBytes p ++ ⟨#[]⟩ = ⟨#[]⟩ ++ plBytes p; rw [bempty, empty_b]
  | cons q l ih => show plBytes q ++ catL (l ++ [p]) = (plBytes q ++ catL l) ++ plBytes p; rw [ih, ByteArray.append_assoc]
theorem catL_app (l m : List Pl) : catL (l ++ m) = catL l ++ catL m := by
  induction l with
  | nil => exact (empty_b _).symm
  | cons q l ih => show plBytes q ++ catL (l ++ m) = (plBytes q ++ catL l) ++ catL m; rw [ih, ByteArray.append_assoc]
theorem okPl_fit {p : Pl} (h : okPl p = true) : Fit p ∧ 2 ≤ p.n ∧ p.n < 64 ∧ 0 ≤ p.u ∧ p.u < 64 ∧ isName (L p.s) = true := by
  unfold okPl at h
  rw [Bool.and_eq_true, decide_eq_true_iff] at h
  have hl := isName_len h.2
  rw [L_len] at hl
  exact ⟨⟨by omega, by omega, by omega, by omega, hl.2⟩, h.1.1, h.1.2.1, h.1.2.2.1, h.1.2.2.2, h.2⟩
theorem plBytes_le {p : Pl} (h : Fit p) : (plBytes p).size ≤ 46 := by
  unfold plBytes textOf
  simp only [ByteArray.size_append]
  have z1 := bytesOf_le p.n h.n1 h.n2
  have z2 := bytesOf_le p.u h.u1 h.u2
  have hs := h.s
  have z3 := bytesOf_le p.s.size (by omega) (by omega)
  omega
theorem catL_le : ∀ (l : List Pl), (∀ p ∈ l, Fit p) → (catL l).size ≤ 46 * l.length
  | [], _ => by show (ByteArray.mk #[]).size ≤ _; exact Nat.zero_le _
  | p :: l, h => by
    have h1 := plBytes_le (h p (by simp))
    have h2 := catL_le l (fun q hq => h q (by simp [hq]))
    show (plBytes p ++ catL l).size ≤ _
    rw [ByteArray.size_append, List.length_cons]; omega

theorem place_there (A Z : ByteArray) (p : Pl) (h : Fit p) : isPlace (A ++ (plBytes p ++ Z)) A.size false = some (p, A.size + (plBytes p).size) := by
  have h1 := num_there A (bytesOf p.u ++ textOf p.s ++ Z) p.n h.n1 h.n2
  have h2 := num_there (A ++ bytesOf p.n) (textOf p.s ++ Z) p.u h.u1 h.u2
  have h3 := text_there (A ++ bytesOf p.n ++ bytesOf p.u) p.s Z 16 (by have := h.s; omega) (by have := h.s; omega)
  have e : A ++ (plBytes p ++ Z) = A ++ (bytesOf p.n ++ (bytesOf p.u ++ textOf p.s ++ Z)) := by unfold plBytes; simp only [ByteArray.append_assoc]
  have e2 : A ++ (plBytes p ++ Z) = A ++ bytesOf p.n ++ (bytesOf p.u ++ (textOf p.s ++ Z)) := by unfold plBytes; simp only [ByteArray.append_assoc]
  have e3 : A ++ (plBytes p ++ Z) = A ++ bytesOf p.n ++ bytesOf p.u ++ (textOf p.s ++ Z) := by unfold plBytes; simp only [ByteArray.append_assoc]
  rw [← e] at h1
  rw [← e2, ByteArray.size_append] at h2
  rw [← e3, ByteArray.size_append, ByteArray.size_append] at h3
  unfold isPlace
  simp only [h1, h2, h3, Option.bind_some]
  unfold plBytes
  simp only [ByteArray.size_append, Nat.add_assoc]
theorem places_there (A Z : ByteArray) (l : List Pl) (h : ∀ p ∈ l, Fit p) : ∀ k, k ≤ l.length → isPlaces (A ++ (catL l ++ Z)) k A.size = some (l.take k, A.size + (catL (l.take k)).size)
  | 0, _ => by unfold isPlaces; simp [catL]; rfl
  | k + 1, hk => by
    have hlt : k < l.length := hk
    have e : catL l ++ Z = catL (l.take k) ++ (plBytes l[k] ++ (catL (l.drop (k + 1)) ++ Z)) := by
      have : l = l.take k ++ (l[k] :: l.drop (k + 1)) := by rw [← List.drop_eq_getElem_cons hlt, List.take_append_drop]
      conv => lhs; rw [this, catL_app]
      show catL (l.take k) ++ (plBytes l[k] ++ catL (l.drop (k + 1))) ++ Z = _
      simp only [ByteArray.append_assoc]
    have hp := place_there (A ++ catL (l.take k)) (catL (l.drop (k + 1)) ++ Z) l[k] (h _ (List.getElem_mem hlt))
    rw [ByteArray.append_assoc, ← e, ByteArray.size_append] at hp
    unfold isPlaces
    rw [places_there A Z l h k (by omega), Option.bind_some]
    simp only [hp, Option.bind_some]
    rw [List.take_succ_eq_append_getElem hlt, catL_snoc, ByteArray.size_append, Nat.add_assoc]
theorem tree_there (A Z : ByteArray) (l : List Pl) (h : treeB l = true) (hl : l.length ≤ 64) : isTree (A ++ (treeBytes l ++ Z)) A.size false = some (l, A.size + (treeBytes l).size) := by
  have hf : ∀ p ∈ l, Fit p := fun p hp => by
    unfold treeB at h
    rw [Bool.and_eq_true, List.all_eq_true] at h
    exact (okPl_fit (h.1 p hp)).1
  have h1 := count_there A (catL l ++ Z) l.length 64 (by omega) (by omega) (by omega)
  have e : A ++ (treeBytes l ++ Z) = A ++ (bytesOf l.length ++ (catL l ++ Z)) := by unfold treeBytes; rw [ByteArray.append_assoc]
  have h2 := places_there (A ++ bytesOf l.length) Z l hf l.length (Nat.le_refl _)
  rw [ByteArray.append_assoc, ← e, ByteArray.size_append, List.take_length] at h2
  rw [← e] at h1
  unfold isTree
  simp only [h1, Option.bind_some, Int.toNat_natCast, h2, h, if_true]
  unfold treeBytes
  rw [ByteArray.size_append, Nat.add_assoc]
theorem rising_cons {p : Pl} : ∀ {l : List Pl}, rising (p :: l) = true → rising l = true ∧ ∀ q ∈ l, p.n < q.n
  | [], _ => ⟨rfl, fun q hq => by cases hq⟩
  | q :: l, h => by
    unfold rising at h
    rw [Bool.and_eq_true, decide_eq_true_iff] at h
    refine ⟨h.2, fun x hx => ?_⟩
    rcases List.mem_cons.1 hx with rfl | hx
    · exact h.1
    · have := (rising_cons h.2).2 x hx; omega
theorem rising_sorted : ∀ {l : List Pl}, rising l = true → Sorted l
  | [], _ => fun i j hi => by simp at hi
  | p :: l, h => fun i j hi hj hij => by
    obtain ⟨h1, h2⟩ := rising_cons h
    cases j with
    | zero => omega
    | succ j =>
      have hj' : j < l.length := by simpa using hj
      cases i with
      | zero => exact h2 _ (List.getElem_mem hj')
      | succ i => exact rising_sorted h1 i j (by simpa using hi) hj' (by omega)
theorem treeB_facts {l : List Pl} (h : treeB l = true) : (∀ p ∈ l, okPl p = true) ∧ Sorted l ∧ NoRing l := by
  unfold treeB at h
  simp only [Bool.and_eq_true, List.all_eq_true, Bool.not_eq_true'] at h
  exact ⟨h.1, rising_sorted h.2.1, h.2.2⟩
/-- Nodes below 64, rising: no more than 62. -/
theorem sorted_len {l : List Pl} (hs : Sorted l) (h : ∀ p ∈ l, 2 ≤ p.n ∧ p.n < 64) : l.length ≤ 62 := by
  have key : ∀ i (hi : i < l.length), (i : Int) + 2 ≤ l[i].n := by
    intro i
    induction i with
    | zero => intro hi; have := (h _ (List.getElem_mem hi)).1; omega
    | succ i ih => intro hi; have h1 := ih (by omega); have h2 := hs i (i + 1) (by omega) hi (by omega); omega
  rcases Nat.lt_or_ge 62 l.length with hlt | hge
  · have h1 := key 62 hlt
    have h2 := (h _ (List.getElem_mem hlt)).2
    omega
  · exact hge
end Go.Proofs.Ytmmfjmhemknpgaa

/- The frame of a law that reads its arguments, makes memory of its own, and answers true: its row's end, out of 'Below' alone. -/
namespace Go.Proofs.Ytmmfjmhemknpgaa.Frm
open Go.ChangeShapes Go.WideShapes Go.ChangeAt Go.RowKit

section
variable {H : Type} {enc : TypeId × Value → H} {P : Program}

/-- Each type of a list can be read, and is a row of the table. -/
def rowed (P : Program) (ts : List TypeId) : Bool := ts.all fun t => P.readableRec t && decide (t < P.types.size)

theorem trodAll_below (hl : laidOutB P = true) {W W' : World} (hb : Below W.heap.size W W') (sp : Nat → Bool) :
    ∀ {ts : List TypeId} {vs : List Value} {ds : List (DataW H)} {ps : List MemPlace}, rowed P ts = true → DataW.TrodAll enc P W 0 (fun _ => true) true ts vs ds ps → (∀ p ∈ ps, p.block < W.heap.size) → (∀ p ∈ ps, sp p.block = true) →
      DataW.TrodAll enc P W' 0 sp true ts vs ds ps
  | [], [], [], _, _, h, _, _ => h
  | [], [], _ :: _, _, _, h, _, _ => h.elim
  | [], _ :: _, _, _, _, h, _, _ => h.elim
  | _ :: _, [], _, _, _, h, _, _ => h.elim
  | _ :: _, _ :: _, [], _, _, h, _, _ => h.elim
  | t :: ts, v :: vs, d :: ds, ps, hr, h, hlt, hsp => by
    obtain ⟨p, q, h1, h2, rfl⟩ := h
    simp only [rowed, List.all_cons, Bool.and_eq_true, decide_eq_true_iff] at hr
    refine ⟨p, q, ?_, trodAll_below hl hb sp (by simpa [rowed] using hr.2) h2 (fun x hx => hlt x (by simp [hx])) (fun x hx => hsp x (by simp [hx])), rfl⟩
    exact WideElems.Trod_stays hl hr.1.1 hr.1.2 h1 (fun x hx => hb.same (hlt x (by simp [hx]))) (fun x hx => hsp x (by simp [hx]))

/-- THE ROW's END: what was there has not turned, the answer is true, the arguments read as they did. -/
theorem law_post {f : Func} {s : ChangeSpec} {apart fresh handsOn again : Bool} {W W' : World} {args : Array Value} {ds gs : List (DataW H)} {before : List MemPlace} {tb : TypeId}
    (hl : laidOutB P = true) (hrow : rowed P f.params.toList = true) (hres : f.resultTypes = #[tb]) (hbool : P.underlying tb = some .bool) (hvars : s.vars = [])
    (hspec : s.fn H ds = { results := [.lit (.bool true)], args := ds })
    (hW : DataW.Whole enc P f.params.toList s.vars apart W args.toList ds gs before) (hb : Below W.heap.size W W') :
    s.post enc P f apart fresh handsOn again W args (.bool true) W' := by
  have hlt : ∀ p ∈ before, p.block < W.heap.size := fun p hp => hW.lt p hp
  have hold : ∀ p ∈ before, (fun b => decide (b < W.heap.size)) p.block = true := fun p hp => by simpa using hlt p hp
  obtain ⟨p, q, hA, hV, hpq, hfz, hnd⟩ := hW
  have hgs : gs = [] ∧ q = [] := by rw [hvars] at hV; exact trodVars_none hV
  obtain ⟨rfl, rfl⟩ := hgs
  rw [List.append_nil] at hpq
  subst hpq
  have hs2 : (s.fn H (ds ++ [])).results = [.lit (.bool true)] := by rw [List.append_nil, hspec]
  have hs3 : (s.fn H (ds ++ [])).args = ds := by rw [List.append_nil, hspec]
  have hs4 : (s.fn H (ds ++ [])).vars = [] := by rw [List.append_nil, hspec]
  have hargs : ∀ sp : Nat → Bool, (∀ p ∈ before, sp p.block = true) → DataW.TrodAll enc P W' 0 sp true f.params.toList args.toList (s.fn H (ds ++ [])).args before := by
    intro sp hsp
    rw [hs3]
    exact trodAll_below hl hb sp hrow hA hlt hsp
  have hR : ∀ (b : Nat) (sp : Nat → Bool) (hd : Bool), DataW.TrodAll enc P W' b sp hd f.resultTypes.toList ((Value.bool true).resultList f.resultTypes.size) (s.fn H (ds ++ [])).results [] := by
    intro b sp hd
    rw [hs2, hres]
    exact trodAll_mk1 (shut_bool hbool true)
  have hvr : ∀ sp : Nat → Bool, DataW.TrodVars enc P W' sp s.vars (s.fn H (ds ++ [])).vars [] := by
    intro sp; rw [hs4, hvars]; rfl
  have hW0 : DataW.Whole enc P f.params.toList s.vars apart W args.toList ds [] before := ⟨before, [], hA, hV, by simp, hfz, hnd⟩
  refine ⟨ds, [], before, [], before, [], hW0, hR _ _ _, hargs _ hold, hvr _, World.keptBut_mono (fun p hp => ⟨hp, by simpa using hp⟩) (hb.frame (· ∈ before)), fun _ => ?_⟩
  refine ⟨ok_one hres rfl (okWide_bool_mk hbool true), _, _, ([] ++ before) ++ [], ⟨[] ++ before, [], trodAll_append (hargs _ (fun _ _ => rfl)) (hR _ _ _), hvr _, rfl, ?_, ?_⟩, ?_⟩
  · intro b off hp
    have hin : MemPlace.cell b off ∈ before := by simpa using hp
    rw [hb.frozen (hlt _ hin)]
    exact hfz b off hin
  · intro ha
    simpa using hnd ha
  · intro p hp _
    simpa using hp

end
end Go.Proofs.Ytmmfjmhemknpgaa.Frm

/- How words and texts among the arguments of the laws are opened. -/
namespace Go.Proofs.Ytmmfjmhemknpgaa
open Go.ChangeShapes Go.WideShapes Go.ChangeAt Go.RowKit Go.Deep

theorem own : ownKnob Try.prog.godebug = none := by kernel_rfl
theorem cells3 : Try.prog.cellsOf 3 = 1 := by kernel_rfl
theorem cells4 : Try.prog.cellsOf 4 = 1 := by kernel_rfl
theorem cells5 : Try.prog.cellsOf 5 = 1 := by kernel_rfl
theorem cells9 : Try.prog.cellsOf 9 = 1 := by kernel_rfl

set_option maxRecDepth 100000 in
theorem open_str {H : Type} {enc : TypeId × Value → H} {W : World} {base : Nat} {sp : Nat → Bool} {v : Value} {d : DataW H} {ps : List MemPlace}
    (hv : Value.okWide Try.prog W .any base 9 v) (h : DataW.Trod enc Try.prog W 0 sp true 9 v d ps) : ∃ s : ByteArray, v = .string s ∧ s.size ≤ maxLen := by
  obtain ⟨s, rfl, _, _, hs⟩ := ChangeMaps.open_string Try.underlying9 hv h
  exact ⟨s, rfl, hs⟩

set_option maxRecDepth 100000 in
theorem open_i64 {H : Type} {enc : TypeId × Value → H} {W : World} {base : Nat} {sp : Nat → Bool} {v : Value} {d : DataW H} {ps : List MemPlace}
    (hv : Value.okWide Try.prog W .any base 3 v) (h : DataW.Trod enc Try.prog W 0 sp true 3 v d ps) : ∃ n : Int, v = .int .i64 n ∧ i64 n := by
  obtain ⟨a, rfl, _, _, wf⟩ := open_int Try.underlying3 hv h
  have hb := bounds_i64 wf
  exact ⟨a, rfl, by omega, by omega⟩

end Go.Proofs.Ytmmfjmhemknpgaa

/- How the arguments of the laws are opened. -/
namespace Go.Proofs.Ytmmfjmhemknpgaa
open Go.ChangeShapes Go.WideShapes Go.ChangeAt Go.RowKit Go.Deep Nam Cod Tre

/-- Its numbers are words, its text isn't too long for a machine. -/
def WidePl (p : Pl) : Prop := i64 p.n ∧ i64 p.u ∧ p.s.size ≤ maxLen
theorem add_plain (b o n : Nat) : (⟨b, o, none⟩ : Addr).add n = ⟨b, o + n, none⟩ := Addr.add_lit b o n
theorem long_le {l : List Pl} (h : ∀ p ∈ l, WidePl p) : ∀ p ∈ l, p.s.size ≤ 9223372036854775807 := fun p hp => Nat.le_trans (h p hp).2.2 (by unfold maxLen; omega)
end Go.Proofs.Ytmmfjmhemknpgaa

/- Slices among the arguments, opened, whatever their elements; bytes as elements. -/
namespace Go.Proofs.Ytmmfjmhemknpgaa
open Go.ChangeShapes Go.WideShapes Go.ChangeAt Go.RowKit Go.Deep Nam Cod Tre

def byE : El Int where
  e := 5
  k := 1
  c x := [.int .u8 x]
  len _ := rfl
  one p u h := by
    simp only [List.mem_cons, List.not_mem_nil, or_false] at h
    subst h; rfl
  pos := by decide
set_option maxRecDepth 100000 in
theorem open_list {α : Type} (E : El α) (Q : α → Prop) {st : TypeId} (hu : Try.prog.underlying st = some (.slice E.e)) (hk : Try.prog.cellsOf E.e = E.k) [Inhabited α] {H : Type} {enc : TypeId × Value → H} {W : World} {base : Nat} {v : Value} {d : DataW H} {ps : List MemPlace}
    (hrd : ∀ {base : Nat} {sp : Nat → Bool} {held : Bool} {fuel : Nat} {cs : List Value} {x : DataW H × List MemPlace}, DataW.trod enc Try.prog W base sp held fuel E.e cs = some x → ∃ a, cs = E.c a ∧ Q a)
    (hv : Value.okWide Try.prog W .any base st v) (h : DataW.Trod enc Try.prog W 0 (fun _ => true) true st v d ps) :
    ∃ (A : Option Addr) (cap : Nat) (l : List α), v = .slice A l.length cap ∧ E.Sl W A l ∧ l.length ≤ cap ∧ (A = none → cap = 0) ∧ ∀ p ∈ l, Q p := by
  obtain ⟨a0, len, cap, rfl, _⟩ := okWide_slice hu hv
  obtain ⟨fuel, hf⟩ := h
  rcases open_slice hu hf with ⟨hcs, hx⟩ | ⟨a, len', cap', m, n, D, Pls, hcs, _, hle, hm, hmm, hx, hi⟩
  · simp [Value.cells] at hcs
    obtain ⟨rfl, rfl, rfl⟩ := hcs
    exact ⟨none, 0, [], rfl, El.Sl.nil W none, Nat.le_refl _, fun _ => rfl, fun p hp => by cases hp⟩
  · simp [Value.cells] at hcs
    obtain ⟨rfl, rfl, rfl⟩ := hcs
    simp only [if_true] at hmm
    have hv : ∀ i, i < m → ∃ p : α, Q p ∧ W.cells? 0 (a.add (i * E.k)) E.k = some (E.c p) := by
      intro i him
      obtain ⟨cs', h1, h2⟩ := hi i him
      rw [hk] at h1
      obtain ⟨p, rfl, hw⟩ := hrd h2
      exact ⟨p, hw, h1⟩
    obtain ⟨f, hf2⟩ := choose_lt hv
    have hlen : ((List.range len).map f).length = len := by simp
    refine ⟨some a, cap, (List.range len).map f, by rw [hlen], fun h => ?_, by rw [hlen]; exact hle, (fun e => by cases e), fun p hp => ?_⟩
    · rw [hlen] at h
      obtain ⟨bb, off, spot⟩ := a
      have cell : ∀ i, i < len → ∀ j v, (E.c (f i))[j]? = some v → W.cell? (((⟨bb, off, spot⟩ : Addr).add (i * E.k)).add j) = some v := by
        intro i hil j v hv
        obtain ⟨_, _, hcell⟩ := World.cells?_some (hf2 i (by omega)).2
        have hj : j < E.k := by have := (List.getElem?_eq_some_iff.1 hv).1; rw [E.len] at this; exact this
        have := hcell j hj
        rw [this]; exact hv
      have h00 : ∃ v, (E.c (f 0))[0]? = some v := ⟨(E.c (f 0))[0]'(by rw [E.len]; exact E.pos), List.getElem?_eq_getElem _⟩
      obtain ⟨v0, hv0⟩ := h00
      have hspot : spot = none := by
        have := cell 0 h 0 _ hv0
        simpa [Addr.add] using World.cell?_spot this
      subst hspot
      refine ⟨bb, off, rfl, (by have h9 := block_lt_of_cell (cell 0 h 0 _ hv0); rw [add_plain, add_plain] at h9; exact h9), fun i hil => ?_⟩
      have hil' : i < len := by rw [hlen] at hil; exact hil
      have he : ((List.range len).map f)[i] = f i := by simp
      rw [he]
      intro j u hu
      have := cell i hil' j u hu
      rwa [add_plain, add_plain] at this
    · obtain ⟨i, hi2, rfl⟩ := List.mem_map.1 hp
      exact (hf2 i (by have := List.mem_range.1 hi2; omega)).1

set_option maxRecDepth 100000 in
theorem open_u8 {H : Type} {enc : TypeId × Value → H} {W : World} {base : Nat} {sp : Nat → Bool} {v : Value} {d : DataW H} {ps : List MemPlace}
    (hv : Value.okWide Try.prog W .any base 5 v) (h : DataW.Trod enc Try.prog W 0 sp true 5 v d ps) : ∃ t : Int, v = .int .u8 t ∧ 0 ≤ t ∧ t ≤ 255 := by
  obtain ⟨a, rfl, _, _, wf⟩ := open_int Try.underlying5 hv h
  have hb := bounds_u8 wf
  exact ⟨a, rfl, by omega, by omega⟩
/-- A block that is a row of these. -/
theorem El.Sl.row {α : Type} {E : El α} (w : World) (l : List α) (cs : Array Value) (hc : cs = (E.cells l).toArray) : E.Sl (w.alloc (.cells cs E.e)) (some ⟨w.heap.size, 0, none⟩) l := fun _ => by
  subst hc
  refine ⟨w.heap.size, 0, rfl, by rw [alloc_size]; omega, fun i hi j u hu => ?_⟩
  have h := cell_of_row (w.alloc (.cells (E.cells l).toArray E.e)) w.heap.size (i * E.k + j) _ E.e (0, 0) (heap_alloc_new w _)
  rw [show 0 + i * E.k + j = i * E.k + j by omega, h]
  simpa using El.cells_at l i hi j u hu
set_option maxRecDepth 100000 in
/-- A slice among the cells of an argument. -/
theorem open_cells {α : Type} (E : El α) (Q : α → Prop) {st : TypeId} (hu : Try.prog.underlying st = some (.slice E.e)) (hk : Try.prog.cellsOf E.e = E.k) [Inhabited α] {H : Type} {enc : TypeId × Value → H} {W : World} {fuel : Nat} {cs : List Value} {x : DataW H × List MemPlace}
    (hrd : ∀ {base : Nat} {sp : Nat → Bool} {held : Bool} {fuel : Nat} {cs : List Value} {x : DataW H × List MemPlace}, DataW.trod enc Try.prog W base sp held fuel E.e cs = some x → ∃ a, cs = E.c a ∧ Q a)
    (hf : DataW.trod enc Try.prog W 0 (fun _ => true) true fuel st cs = some x) :
    ∃ (A : Option Addr) (cap : Nat) (l : List α), cs = [.slice A l.length cap] ∧ (E.Sl W A l ∧ (A = none → cap = 0) ∧ l.length ≤ cap) ∧ ∀ p ∈ l, Q p := by
  rcases open_slice hu hf with ⟨hcs, hx⟩ | ⟨a, len, cap, m, n, D, Pls, hcs, _, hle, hm, hmm, hx, hi⟩
  · exact ⟨none, 0, [], hcs, ⟨El.Sl.nil W none, fun _ => rfl, Nat.le_refl _⟩, fun p hp => by cases hp⟩
  · simp only [if_true] at hmm
    have hv : ∀ i, i < m → ∃ p : α, Q p ∧ W.cells? 0 (a.add (i * E.k)) E.k = some (E.c p) := by
      intro i him
      obtain ⟨cs', h1, h2⟩ := hi i him
      rw [hk] at h1
      obtain ⟨p, rfl, hw⟩ := hrd h2
      exact ⟨p, hw, h1⟩
    obtain ⟨f, hf2⟩ := choose_lt hv
    have hlen : ((List.range len).map f).length = len := by simp
    refine ⟨some a, cap, (List.range len).map f, by rw [hlen]; exact hcs, ⟨fun h => ?_, (fun e => by cases e), by rw [hlen]; exact hle⟩, fun p hp => ?_⟩
    · rw [hlen] at h
      obtain ⟨bb, off, spot⟩ := a
      have cell : ∀ i, i < len → ∀ j v, (E.c (f i))[j]? = some v → W.cell? (((⟨bb, off, spot⟩ : Addr).add (i * E.k)).add j) = some v := by
        intro i hil j v hv
        obtain ⟨_, _, hcell⟩ := World.cells?_some (hf2 i (by omega)).2
        have hj : j < E.k := by have := (List.getElem?_eq_some_iff.1 hv).1; rw [E.len] at this; exact this
        have := hcell j hj
        rw [this]; exact hv
      have h00 : ∃ v, (E.c (f 0))[0]? = some v := ⟨(E.c (f 0))[0]'(by rw [E.len]; exact E.pos), List.getElem?_eq_getElem _⟩
      obtain ⟨v0, hv0⟩ := h00
      have hspot : spot = none := by
        have := cell 0 h 0 _ hv0
        simpa [Addr.add] using World.cell?_spot this
      subst hspot
      refine ⟨bb, off, rfl, (by have h9 := block_lt_of_cell (cell 0 h 0 _ hv0); rw [add_plain, add_plain] at h9; exact h9), fun i hil => ?_⟩
      have hil' : i < len := by rw [hlen] at hil; exact hil
      have he : ((List.range len).map f)[i] = f i := by simp
      rw [he]
      intro j u hu
      have := cell i hil' j u hu
      rwa [add_plain, add_plain] at this
    · obtain ⟨i, hi2, rfl⟩ := List.mem_map.1 hp
      exact (hf2 i (by have := List.mem_range.1 hi2; omega)).1
end Go.Proofs.Ytmmfjmhemknpgaa
