/- Texts laid one behind the other: Pa, Pi, Fb, Ic, Id, Eb, Fc, Pb, Pe, Tq. -/
import Derived.Test.YtfpgfclmmdihjaaGreatB05
import Derived.Deep.RegionHeld3
import Derived.Lib.MinMax
import Derived.Lib.QuietBelow
import Derived.BigQuiet
import Derived.Deep.QuietTactic
import Derived.Deep.CutRange
/- Gifts merged and wanted, counts read, snapshots, chunks: as values. No call in it. -/
namespace Go.Proofs.YtfpgfclmmdihjaaGreat
open Go.RowKit Nam Cod Tre Pst

def newG (a b : Gf) : Bool := decide (b.i < a.i) || (decide (a.i = b.i) && (decide (a.t = 0) || (decide (b.t ≠ 0) && decide (b.c ≤ a.c))))
/-- Does a report take a gift's place? -/
def outG (g : Gf) (r : Rp) : Bool := decide (r.d = g.d) && (decide (g.i < r.i) || (decide (r.i = g.i) && (decide (r.m = 1) || (decide (g.t ≠ 0) && decide (g.c < r.k)))))
def wantedG (g : Gf) (l : List Rp) : Bool := !(l.any (outG g))
/-- Merged: ahead of the first that isn't of a lesser device, or in its place. -/
def mergeG : List Gf → Gf → List Gf
  | [], r => [r]
  | x :: l, r => if x.d < r.d then x :: mergeG l r else if x.d = r.d then (if newG r x = true then r :: l else x :: l) else r :: x :: l
/-- How many are of lesser devices, at the front. -/
def cutG : List Gf → Int → Nat
  | [], _ => 0
  | x :: l, d => if x.d < d then cutG l d + 1 else 0
theorem cutG_le : ∀ (l : List Gf) (d : Int), cutG l d ≤ l.length
  | [], _ => Nat.le_refl _
  | x :: l, d => by
    unfold cutG
    split
    · rw [List.length_cons]; have := cutG_le l d; omega
    · exact Nat.zero_le _
theorem cutG_lt : ∀ (l : List Gf) (d : Int) (j : Nat) (h : j < l.length), j < cutG l d → l[j].d < d
  | [], _, j, h, _ => absurd h (Nat.not_lt_zero j)
  | x :: l, d, j, h, hc => by
    unfold cutG at hc
    split at hc
    · rename_i hx
      cases j with
      | zero => exact hx
      | succ j => exact cutG_lt l d j (by rw [List.length_cons] at h; omega) (by omega)
    · omega
theorem cutG_at : ∀ (l : List Gf) (d : Int) (h : cutG l d < l.length), ¬ l[cutG l d].d < d
  | [], _, h => absurd h (Nat.not_lt_zero _)
  | x :: l, d, h => by
    by_cases hx : x.d < d
    · have e : cutG (x :: l) d = cutG l d + 1 := if_pos hx
      simp only [e, List.getElem_cons_succ]
      exact cutG_at l d (by rw [e, List.length_cons] at h; omega)
    · have e : cutG (x :: l) d = 0 := if_neg hx
      simp only [e, List.getElem_cons_zero]
      exact hx
theorem mergeG_new : ∀ (l : List Gf) (r : Gf), (∀ h : cutG l r.d < l.length, l[cutG l r.d].d ≠ r.d) → mergeG l r = l.take (cutG l r.d) ++ [r] ++ l.drop (cutG l r.d)
  | [], r, _ => rfl
  | x :: l, r, h => by
    unfold mergeG
    by_cases hx : x.d < r.d
    · have e : cutG (x :: l) r.d = cutG l r.d + 1 := if_pos hx
      rw [if_pos hx, e, mergeG_new l r (fun h2 => by
        have := h (by rw [e, List.length_cons]; omega)
        simp only [e, List.getElem_cons_succ] at this
        exact this)]
      rfl
    · have e : cutG (x :: l) r.d = 0 := if_neg hx
      have hne : x.d ≠ r.d := by
        have := h (by rw [e, List.length_cons]; omega)
        simp only [e, List.getElem_cons_zero] at this
        exact this
      rw [if_neg hx, if_neg hne, e]; rfl
theorem mergeG_old : ∀ (l : List Gf) (r : Gf) (h : cutG l r.d < l.length), l[cutG l r.d].d = r.d → mergeG l r = if newG r l[cutG l r.d] = true then l.set (cutG l r.d) r else l
  | [], _, h, _ => absurd h (Nat.not_lt_zero _)
  | x :: l, r, h, hd => by
    unfold mergeG
    by_cases hx : x.d < r.d
    · have e : cutG (x :: l) r.d = cutG l r.d + 1 := if_pos hx
      simp only [e, List.getElem_cons_succ] at hd ⊢
      rw [if_pos hx, mergeG_old l r (by rw [e, List.length_cons] at h; omega) hd, List.set_cons_succ]
      split <;> rfl
    · have e : cutG (x :: l) r.d = 0 := if_neg hx
      simp only [e, List.getElem_cons_zero] at hd ⊢
      rw [if_neg hx, if_pos hd, List.set_cons_zero]
theorem mergeG_len (l : List Gf) (r : Gf) : (mergeG l r).length ≤ l.length + 1 := by
  induction l with
  | nil => exact Nat.le_refl _
  | cons x l ih =>
    unfold mergeG
    split
    · rw [List.length_cons, List.length_cons]; omega
    · split
      · split
        · rw [List.length_cons, List.length_cons]; omega
        · rw [List.length_cons]; omega
      · rw [List.length_cons, List.length_cons]; omega

/-- Rising devices. -/
def RisG : List Gf → Prop
  | [] => True
  | x :: l => (∀ y ∈ l, x.d < y.d) ∧ RisG l
theorem mergeG_mem : ∀ (l : List Gf) (r y : Gf), y ∈ mergeG l r → y = r ∨ y ∈ l
  | [], r, y, h => by
    have h : y ∈ [r] := h
    rw [List.mem_singleton] at h; exact Or.inl h
  | x :: l, r, y, h => by
    unfold mergeG at h
    split at h
    · rcases List.mem_cons.1 h with h | h
      · exact Or.inr (List.mem_cons.2 (Or.inl h))
      · rcases mergeG_mem l r y h with h | h
        · exact Or.inl h
        · exact Or.inr (List.mem_cons.2 (Or.inr h))
    · split at h
      · split at h
        · rcases List.mem_cons.1 h with h | h
          · exact Or.inl h
          · exact Or.inr (List.mem_cons.2 (Or.inr h))
        · exact Or.inr h
      · rcases List.mem_cons.1 h with h | h
        · exact Or.inl h
        · exact Or.inr h
theorem mergeG_ris : ∀ (l : List Gf) (r : Gf), RisG l → RisG (mergeG l r)
  | [], _, _ => ⟨(fun y h => by cases h), trivial⟩
  | x :: l, r, h => by
    unfold mergeG
    split
    · rename_i hx
      refine ⟨fun y hy => ?_, mergeG_ris l r h.2⟩
      rcases mergeG_mem l r y hy with rfl | hy
      · exact hx
      · exact h.1 y hy
    · rename_i hx
      split
      · rename_i he
        split
        · exact ⟨fun y hy => by rw [← he]; exact h.1 y hy, h.2⟩
        · exact h
      · rename_i he
        refine ⟨fun y hy => ?_, h⟩
        rcases List.mem_cons.1 hy with rfl | hy
        · omega
        · have := h.1 y hy; omega

theorem cutG_next {l : List Gf} {d : Int} {k : Nat} (hk : k ≤ cutG l d) (h : k < l.length) (hd : l[k].d < d) : k + 1 ≤ cutG l d := by
  rcases Nat.lt_or_ge k (cutG l d) with h1 | h1
  · exact h1
  · obtain rfl : k = cutG l d := by omega
    exact absurd hd (cutG_at l d h)
theorem cutG_here {l : List Gf} {d : Int} {k : Nat} (hk : k ≤ cutG l d) (h : k = l.length ∨ ∃ h : k < l.length, d ≤ l[k].d) : k = cutG l d := by
  rcases Nat.lt_or_ge k (cutG l d) with h1 | h1
  · rcases h with h | ⟨h, h2⟩
    · have := cutG_le l d; omega
    · have := cutG_lt l d k h h1; omega
  · omega
def foldG (l : List Gf) : List Gf := l.foldl mergeG []
theorem foldG_snoc (l : List Gf) (r : Gf) : foldG (l ++ [r]) = mergeG (foldG l) r := by
  unfold foldG; rw [List.foldl_append]; rfl
theorem foldG_next (l : List Gf) (k : Nat) (h : k < l.length) : foldG (l.take (k + 1)) = mergeG (foldG (l.take k)) l[k] := by
  rw [List.take_succ_eq_append_getElem h, foldG_snoc]
theorem foldG_len (l : List Gf) : ∀ k, (foldG (l.take k)).length ≤ k
  | 0 => by rw [List.take_zero]; exact Nat.le_refl _
  | k + 1 => by
    by_cases h : k < l.length
    · rw [foldG_next l k h]
      have h1 := mergeG_len (foldG (l.take k)) l[k]
      have h2 := foldG_len l k
      omega
    · rw [List.take_of_length_le (by omega)]
      have h2 := foldG_len l k
      rw [List.take_of_length_le (by omega)] at h2
      omega
theorem foldG_ris (l : List Gf) : ∀ k, RisG (foldG (l.take k))
  | 0 => by rw [List.take_zero]; exact trivial
  | k + 1 => by
    by_cases h : k < l.length
    · rw [foldG_next l k h]; exact mergeG_ris _ _ (foldG_ris l k)
    · rw [List.take_of_length_le (by omega)]
      have h2 := foldG_ris l k
      rw [List.take_of_length_le (by omega)] at h2
      exact h2

/-- A count's bytes; what is read. -/
def in64G (n : Int) : Bool := decide (-9223372036854775808 ≤ n ∧ n ≤ 9223372036854775807)
theorem in64G_iff {n : Int} : in64G n = true ↔ i64 n := by unfold in64G i64; exact decide_eq_true_iff
def cnBytes (c : Cn) : ByteArray := bytesOf c.d ++ bytesOf c.i ++ bytesOf c.n
def cnRaw (c : Cn) : Bool := in64G c.d && (in64G c.i && in64G c.n)
theorem cnRaw_iff {c : Cn} : cnRaw c = true ↔ i64 c.d ∧ i64 c.i ∧ i64 c.n := by
  unfold cnRaw
  simp only [Bool.and_eq_true, in64G_iff]
def isCn (s : ByteArray) (p : Nat) (bad : Bool) : Option (Cn × Nat) :=
  (isNum s p bad).bind fun a => (isNum s a.2 false).bind fun b => (isNum s b.2 false).bind fun c => some (⟨a.1, b.1, c.1⟩, c.2)
theorem cn_there (A Z : ByteArray) (c : Cn) (h : cnRaw c = true) : isCn (A ++ (cnBytes c ++ Z)) A.size false = some (c, A.size + (cnBytes c).size) := by
  obtain ⟨g1, g2, g3⟩ := cnRaw_iff.1 h
  obtain ⟨d, i, n⟩ := c
  dsimp only at g1 g2 g3
  obtain ⟨X, hX⟩ : ∃ X, A ++ (cnBytes ⟨d, i, n⟩ ++ Z) = X := ⟨_, rfl⟩
  have h1 := num_atR X A (bytesOf i ++ (bytesOf n ++ Z)) d A.size (by rw [← hX]; unfold cnBytes; simp only [ByteArray.append_assoc]) rfl g1
  have h2 := num_atR X (A ++ bytesOf d) (bytesOf n ++ Z) i (A.size + (bytesOf d).size) (by rw [← hX]; unfold cnBytes; simp only [ByteArray.append_assoc]) (by rw [ByteArray.size_append]) g2
  have h3 := num_atR X (A ++ bytesOf d ++ bytesOf i) Z n (A.size + (bytesOf d).size + (bytesOf i).size) (by rw [← hX]; unfold cnBytes; simp only [ByteArray.append_assoc]) (by simp only [ByteArray.size_append]) g3
  rw [hX]
  unfold isCn
  rw [h1, Option.bind_some]
  dsimp only
  rw [h2, Option.bind_some]
  dsimp only
  rw [h3, Option.bind_some]
  dsimp only
  unfold cnBytes
  simp only [ByteArray.size_append, Nat.add_assoc]
theorem isCn_some {s : ByteArray} {p : Nat} {bad : Bool} {c : Cn} {q : Nat} (h : isCn s p bad = some (c, q)) : ∃ q1 q2, isNum s p bad = some (c.d, q1) ∧ isNum s q1 false = some (c.i, q2) ∧ isNum s q2 false = some (c.n, q) := by
  unfold isCn at h
  simp only [Option.bind_eq_some_iff] at h
  obtain ⟨a, ha, b, hb, c, hc, h⟩ := h
  injection h with h
  injection h with h1 h2
  subst h1 h2
  exact ⟨_, _, ha, hb, hc⟩
theorem cn_bytes {s : ByteArray} {p : Nat} {bad : Bool} {c : Cn} {q : Nat} (h : isCn s p bad = some (c, q)) : cnRaw c = true ∧ (L s).drop p = L (cnBytes c) ++ (L s).drop q := by
  obtain ⟨q1, q2, h1, h2, h3⟩ := isCn_some h
  refine ⟨cnRaw_iff.2 ⟨(isNum_some h1).2.2.2.2, (isNum_some h2).2.2.2.2, (isNum_some h3).2.2.2.2⟩, ?_⟩
  rw [num_bytesR h1, num_bytesR h2, num_bytesR h3]
  unfold cnBytes
  simp only [L_app, List.append_assoc]
def cnK : Kd Cn where
  ok := cnRaw
  b := cnBytes
  is := isCn
  there := cn_there
  back h := cn_bytes h
/-- May a count be, whatever stands ahead of it? -/
def cnB (c : Cn) : Bool := decide (0 ≤ c.d ∧ c.d < 12 ∧ 1 ≤ c.i ∧ 0 ≤ c.n)
/-- The first k may be. -/
def goodC (l : List Cn) (k : Nat) : Prop := ∀ j (h : j < l.length), j < k → cnB l[j] = true ∧ (0 < j → (l.getD (j - 1) zeroCn).d < l[j].d)
def cnsB (l : List Cn) : Bool := decide (∀ j : Fin l.length, cnB l[j] = true ∧ (0 < j.val → (l.getD (j.val - 1) zeroCn).d < l[j].d))
theorem cnsB_iff {l : List Cn} : cnsB l = true ↔ goodC l l.length := by
  unfold cnsB goodC
  rw [decide_eq_true_iff]
  exact ⟨fun h j hj _ => h ⟨j, hj⟩, fun h j => h j.1 j.2 j.2⟩
theorem goodC_next {l : List Cn} {k : Nat} (h : goodC l k) (hk : k < l.length) (h1 : cnB l[k] = true) (h2 : 0 < k → (l.getD (k - 1) zeroCn).d < l[k].d) : goodC l (k + 1) := fun j hj hjk => by
  by_cases e : j < k
  · exact h j hj e
  · obtain rfl : j = k := by omega
    exact ⟨h1, h2⟩
def isCns (s : ByteArray) (p : Nat) (bad : Bool) : Option (List Cn × Nat) := (cnK.isPart 12 s p bad).bind fun a => if cnsB a.1 = true then some a else none
theorem cns_there (A Z : ByteArray) {l : List Cn} (h : cnsB l = true) (hr : ∀ c ∈ l, cnRaw c = true) (hl : l.length ≤ 12) : isCns (A ++ (cnK.part l ++ Z)) A.size false = some (l, A.size + (cnK.part l).size) := by
  have h1 := cnK.part_there 12 (by decide) l A Z (by omega) hr
  unfold isCns
  rw [h1, Option.bind_some, if_pos h]

/-- A snapshot: a place, a clock, a past, counts. -/
structure Sn where
  pos : Int
  clock : Int
  p : Pv
  l : List Cn
def snBytes (x : Sn) : ByteArray := bytesOf x.pos ++ bytesOf x.clock ++ pastBytes x.p ++ cnK.part x.l
/-- The past that stands there. -/
def pastOf (base : List Pl) (t : Int) (o : List Mv) : Pv := ⟨base, t, o, (foldL base (mvs o)).2, (foldL base (mvs o)).1⟩
/-- Operations by rising moments, with counters above t. -/
def opsB (l : List Mv) (t : Int) : Bool := decide (∀ j : Fin l.length, t < l[j].C ∧ (0 < j.val → befB (l.getD (j.val - 1) zeroMv).C (l.getD (j.val - 1) zeroMv).D l[j].C l[j].D = true))
def isPast (s : ByteArray) (p : Nat) (bad : Bool) : Option (Pv × Nat) :=
  (isTree s p bad).bind fun a => (isCount s a.2 false 1099511627776).bind fun t => (opK.isPart 4096 s t.2 false).bind fun o => if opsB o.1 t.1 = true then some (pastOf a.1 t.1 o.1, o.2) else none
def isSnap (s : ByteArray) : Option Sn :=
  (isNum s 0 false).bind fun a => (isNum s a.2 false).bind fun b => (isPast s b.2 false).bind fun c => (isCns s c.2 false).bind fun d =>
    if d.2 = s.size ∧ (0 ≤ a.1 ∧ a.1 ≤ 1099511627776) ∧ 0 ≤ b.1 ∧ b.1 ≤ 1099511627776 then some ⟨a.1, b.1, c.1, d.1⟩ else none

theorem catM_cat : ∀ l : List Mv, catM l = opK.cat l
  | [] => rfl
  | m :: l => by
    have e : m :: l = [m] ++ l := rfl
    have h0 : catM [m] = m.bytes := by
      have h := catM_snoc [] m
      rw [List.nil_append] at h
      rw [h]
      apply L_inj; rw [L_app]
      show L (ByteArray.mk #[]) ++ _ = _
      simp [L]
    rw [e, catM_app l [m], h0, catM_cat l]
    rfl
theorem opsB_of {q : Pv} (h : PInv q) : opsB q.ops q.t = true := by
  unfold opsB
  rw [decide_eq_true_iff]
  intro j
  refine ⟨h.gt _ (List.getElem_mem _), fun h0 => ?_⟩
  have hr := h.ris
  unfold Ris at hr
  have := List.pairwise_iff_getElem.1 hr (j.1 - 1) j.1 (by omega) j.2 (by omega)
  rw [List.getD_eq_getElem?_getD, List.getElem?_eq_getElem (show j.1 - 1 < q.ops.length by omega), bef_iff]
  exact decide_eq_true this
theorem part_thereP {α : Type} (K : Kd α) (most : Int) (l : List α) (A Z : ByteArray) (hl : (l.length : Int) ≤ most) (hl2 : l.length ≤ 100000) (h : ∀ x ∈ l, K.ok x = true) : K.isPart most (A ++ (K.part l ++ Z)) A.size false = some (l, A.size + (K.part l).size) := by
  have h1 := num_atR (A ++ (K.part l ++ Z)) A (K.cat l ++ Z) l.length A.size (by unfold Kd.part; simp only [ByteArray.append_assoc]) rfl (by unfold i64; omega)
  have h2 : isCount (A ++ (K.part l ++ Z)) A.size false most = some ((l.length : Int), A.size + (bytesOf l.length).size) := by
    unfold isCount; rw [h1]; dsimp only; rw [if_pos (by omega)]
  unfold Kd.isPart
  rw [h2, Option.bind_some]
  have h3 := K.l_there l (A ++ bytesOf l.length) Z h
  rw [ByteArray.append_assoc, ByteArray.size_append] at h3
  rw [show A ++ (K.part l ++ Z) = A ++ (bytesOf l.length ++ (K.cat l ++ Z)) by unfold Kd.part; simp only [ByteArray.append_assoc]]
  dsimp only
  rw [show ((l.length : Int)).toNat = l.length from rfl, h3]
  unfold Kd.part
  rw [ByteArray.size_append, Nat.add_assoc]
theorem past_is (A Z : ByteArray) {q : Pv} (h : PInv q) (hl : q.ops.length ≤ 1000) : isPast (A ++ (pastBytes q ++ Z)) A.size false = some (q, A.size + (pastBytes q).size) := by
  have hbl := tree_len h.tree
  have hb : pastBytes q = treeBytes q.base ++ (bytesOf q.t ++ opK.part q.ops) := by unfold pastBytes headV Kd.part; rw [catM_cat]; simp only [ByteArray.append_assoc]
  have h1 := tree_there A ((bytesOf q.t ++ opK.part q.ops) ++ Z) q.base h.tree (by omega)
  have e1 : A ++ (pastBytes q ++ Z) = A ++ (treeBytes q.base ++ ((bytesOf q.t ++ opK.part q.ops) ++ Z)) := by rw [hb]; simp only [ByteArray.append_assoc]
  have h2 := count_there (A ++ treeBytes q.base) (opK.part q.ops ++ Z) q.t 1099511627776 h.t0 h.t1 (by have := h.t1; omega)
  have e2 : A ++ (pastBytes q ++ Z) = (A ++ treeBytes q.base) ++ (bytesOf q.t ++ (opK.part q.ops ++ Z)) := by rw [hb]; simp only [ByteArray.append_assoc]
  have h3 := part_thereP opK 4096 q.ops (A ++ treeBytes q.base ++ bytesOf q.t) Z (by omega) (by omega) (fun x hx => h.ok x hx)
  have e3 : A ++ (pastBytes q ++ Z) = (A ++ treeBytes q.base ++ bytesOf q.t) ++ (opK.part q.ops ++ Z) := by rw [hb]; simp only [ByteArray.append_assoc]
  rw [← e1] at h1
  rw [← e2] at h2
  rw [← e3] at h3
  unfold isPast
  rw [h1, Option.bind_some]
  dsimp only
  rw [ByteArray.size_append] at h2
  rw [h2, Option.bind_some]
  dsimp only
  simp only [ByteArray.size_append] at h3
  rw [h3, Option.bind_some]
  dsimp only
  rw [if_pos (opsB_of h)]
  have e : pastOf q.base q.t q.ops = q := by
    unfold pastOf
    rw [← h.un, ← h.nw]
  rw [e, hb]
  simp only [ByteArray.size_append, Nat.add_assoc]
theorem snap_at (x : Sn) (Z : ByteArray) (h : PInv x.p) (hl : x.p.ops.length ≤ 1000) (h1 : i64 x.pos) (h2 : i64 x.clock) (hc : cnsB x.l = true) (hr : ∀ c ∈ x.l, cnRaw c = true) (hcl : x.l.length ≤ 12) : isSnap (snBytes x ++ Z) = if (snBytes x).size = (snBytes x ++ Z).size ∧ (0 ≤ x.pos ∧ x.pos ≤ 1099511627776) ∧ 0 ≤ x.clock ∧ x.clock ≤ 1099511627776 then some x else none := by
  obtain ⟨pos, clock, q, l⟩ := x
  dsimp only at h hl h1 h2 hc hr hcl
  obtain ⟨X, hX⟩ : ∃ X, snBytes ⟨pos, clock, q, l⟩ ++ Z = X := ⟨_, rfl⟩
  have n1 := num_atR X ⟨#[]⟩ (bytesOf clock ++ (pastBytes q ++ (cnK.part l ++ Z))) pos 0 (by rw [← hX, empty_b]; unfold snBytes; simp only [ByteArray.append_assoc]) rfl h1
  have n2 := num_atR X (bytesOf pos) (pastBytes q ++ (cnK.part l ++ Z)) clock (bytesOf pos).size (by rw [← hX]; unfold snBytes; simp only [ByteArray.append_assoc]) rfl h2
  have n3 := past_is (bytesOf pos ++ bytesOf clock) (cnK.part l ++ Z) h hl
  have n4 := cns_there (bytesOf pos ++ bytesOf clock ++ pastBytes q) Z hc hr hcl
  have e3 : (bytesOf pos ++ bytesOf clock) ++ (pastBytes q ++ (cnK.part l ++ Z)) = X := by rw [← hX]; unfold snBytes; simp only [ByteArray.append_assoc]
  have e4 : (bytesOf pos ++ bytesOf clock ++ pastBytes q) ++ (cnK.part l ++ Z) = X := by rw [← hX]; unfold snBytes; simp only [ByteArray.append_assoc]
  rw [e3] at n3
  rw [e4] at n4
  have hsz : (snBytes ⟨pos, clock, q, l⟩).size = (bytesOf pos).size + (bytesOf clock).size + (pastBytes q).size + (cnK.part l).size := by unfold snBytes; simp only [ByteArray.size_append]
  simp only [ByteArray.size_append] at n3 n4
  rw [hX]
  unfold isSnap
  rw [Nat.zero_add] at n1
  rw [n1, Option.bind_some]
  dsimp only
  rw [n2, Option.bind_some]
  dsimp only
  rw [n3, Option.bind_some]
  dsimp only
  rw [n4, Option.bind_some]
  dsimp only
  rw [hsz]
/-- The past that stands behind the two numbers. -/
def isSnapP (s : ByteArray) : Option (Pv × Nat) := (isNum s 0 false).bind fun a => (isNum s a.2 false).bind fun b => isPast s b.2 false
theorem snap_past (x : Sn) (Z : ByteArray) (h : PInv x.p) (hl : x.p.ops.length ≤ 1000) (h1 : i64 x.pos) (h2 : i64 x.clock) : ∃ q, isSnapP (snBytes x ++ Z) = some (x.p, q) := by
  obtain ⟨pos, clock, q, l⟩ := x
  dsimp only at h hl h1 h2
  obtain ⟨X, hX⟩ : ∃ X, snBytes ⟨pos, clock, q, l⟩ ++ Z = X := ⟨_, rfl⟩
  have n1 := num_atR X ⟨#[]⟩ (bytesOf clock ++ (pastBytes q ++ (cnK.part l ++ Z))) pos 0 (by rw [← hX, empty_b]; unfold snBytes; simp only [ByteArray.append_assoc]) rfl h1
  have n2 := num_atR X (bytesOf pos) (pastBytes q ++ (cnK.part l ++ Z)) clock (bytesOf pos).size (by rw [← hX]; unfold snBytes; simp only [ByteArray.append_assoc]) rfl h2
  have n3 := past_is (bytesOf pos ++ bytesOf clock) (cnK.part l ++ Z) h hl
  have e3 : (bytesOf pos ++ bytesOf clock) ++ (pastBytes q ++ (cnK.part l ++ Z)) = X := by rw [← hX]; unfold snBytes; simp only [ByteArray.append_assoc]
  rw [e3] at n3
  simp only [ByteArray.size_append] at n3
  rw [hX]
  unfold isSnapP
  rw [Nat.zero_add] at n1
  rw [n1, Option.bind_some]
  dsimp only
  rw [n2, Option.bind_some]
  dsimp only
  exact ⟨_, n3⟩
theorem snap_few (x : Sn) (Z : ByteArray) (h : PInv x.p) (hl : x.p.ops.length ≤ 800) (h1 : i64 x.pos) (h2 : i64 x.clock) : ∀ V q, isSnapP (snBytes x ++ Z) = some (V, q) → V.ops.length ≤ 800 := fun V q hv => by
  obtain ⟨q2, h3⟩ := snap_past x Z h (by omega) h1 h2
  rw [h3] at hv
  injection hv with hv
  injection hv with e1 _
  rw [← e1]; exact hl
theorem snap_is (x : Sn) (h : PInv x.p) (hl : x.p.ops.length ≤ 1000) (h1 : 0 ≤ x.pos ∧ x.pos ≤ 1099511627776) (h2 : 0 ≤ x.clock ∧ x.clock ≤ 1099511627776) (hc : cnsB x.l = true) (hr : ∀ c ∈ x.l, cnRaw c = true) (hcl : x.l.length ≤ 12) : isSnap (snBytes x) = some x := by
  have e := snap_at x ⟨#[]⟩ h hl (by unfold i64; omega) (by unfold i64; omega) hc hr hcl
  have e2 : snBytes x ++ ⟨#[]⟩ = snBytes x := L_inj (by rw [L_app]; simp [L])
  rw [e2, if_pos ⟨rfl, h1, h2⟩] at e
  exact e
theorem snap_more (x : Sn) (Z : ByteArray) (hZ : 0 < Z.size) (h : PInv x.p) (hl : x.p.ops.length ≤ 1000) (h1 : i64 x.pos) (h2 : i64 x.clock) (hc : cnsB x.l = true) (hr : ∀ c ∈ x.l, cnRaw c = true) (hcl : x.l.length ≤ 12) : isSnap (snBytes x ++ Z) = none := by
  rw [snap_at x Z h hl h1 h2 hc hr hcl, if_neg]
  rintro ⟨e, _⟩
  rw [ByteArray.size_append] at e
  omega

/-- How many chunks of a size n bytes have. -/
def chunksV (n : Nat) (z : Int) : Int := if z < 1 then 0 else max 1 (((n : Int) + z - 1) / z)
def cutV (s : ByteArray) (z i : Int) (r : Rp) : Gf × Bool := if 0 ≤ i ∧ i < chunksV s.size z then (⟨r.d, r.i, i, chunksV s.size z, s.extract (i.toNat * z.toNat) (min s.size ((i.toNat + 1) * z.toNat))⟩, true) else (zeroGf, false)
end Go.Proofs.YtfpgfclmmdihjaaGreat

/- The document's Right of a past, whatever the lengths of its base, its undos and its tree. -/
namespace Go.Proofs.YtfpgfclmmdihjaaGreat
open Go.RowKit Tre Cod Pst Nam

theorem good_len {l : List Pl} (h : GoodTo l l.length) : l.length ≤ 62 := by
  have h1 : ∀ k (hk : k < l.length), (k : Int) + 2 ≤ l[k].n := fun k => by
    induction k with
    | zero => intro hk; have := (okPl_fit (h 0 hk hk).1).2.1; omega
    | succ k ih =>
      intro hk
      have h2 := (h (k + 1) hk hk).2 (Nat.succ_pos k)
      have h3 := ih (by omega)
      simp only [Nat.add_sub_cancel] at h2
      omega
  by_cases h0 : l.length = 0
  · omega
  · have h2 := h1 (l.length - 1) (by omega)
    have h3 := (okPl_fit (h (l.length - 1) (by omega) (by omega)).1).2.2.1
    omega
set_option maxRecDepth 100000 in
set_option maxHeartbeats 4000000 in
theorem refRightG_any (A : Option Addr) (cap : Nat) (l : List Pl) (w : World) (hl : l.length ≤ 140737488355328) (hsz : ∀ p ∈ l, p.s.size ≤ 9223372036854775807) (hT : Tr w A l) :
    Calls Tryz.prog 68 #[.slice A l.length cap] w fun e w' => e = .returned (.bool (treeB l)) ∧ Below w.heap.size w w' := by
  have HZ := Lib.hid hsz
  have HT2 := Lib.hid (treeB_two l)
  clear hsz
  go_enter Tryz.func68, Tryz.ntmps68
  go_wp2
  go_loopw [3] (fun x wr => ∃ k : Nat, k ≤ l.length ∧ x = .int .i64 k ∧ GoodTo l k ∧ Below w.heap.size w wr) (fun x _ => l.length - (intOf x).toNat)
  case atStart => exact ⟨0, Nat.zero_le _, rfl, fun k h hk => by omega, Below.refl _ _⟩
  case round =>
    obtain ⟨k, hk, rfl, hgd, hnx⟩ := hrel
    by_cases hlt : k < l.length
    · obtain ⟨bb, off, hAe, hbw, hc⟩ := hT (by omega)
      have hbr := Nat.lt_of_lt_of_le hbw hnx.size
      have hat := (hc k hlt).below hnx hbw
      obtain ⟨p, hp⟩ : ∃ p, l[k] = p := ⟨_, rfl⟩
      have c := fun w => (nmRefRight_any p.s w (HZ.out p (hp ▸ List.getElem_mem hlt))).mono (fun e w' (h : _ ∧ w = w') => (⟨h.1, h.2 ▸ Below.refl _ _⟩ : e = .returned (.bool (isName (L p.s))) ∧ Below w.heap.size w w'))
      have hbad := goodTo_bad hlt
      have hnext := goodTo_next hgd hlt
      rw [hp] at hat hbad hnext
      have hprev : ∀ h0 : 0 < k, AtPl wr bb (off + (k - 1) * 3) (l[k - 1]'(by omega)) := fun h0 => (hc (k - 1) (by omega)).below hnx hbw
      obtain ⟨q0, q1, q2⟩ := hat
      have HG := Lib.hid hgd
      have HB := Lib.hid hbad
      have HN := Lib.hid hnext
      clear hgd hbad hnext hc
      subst hAe
      have hf : okPl p = false → riseB l = false := fun h => HB.out (fun h2 => by rw [h] at h2; exact absurd h2.1 (by simp))
      have HF := Lib.hid hf
      clear hf
      refine okPl_five (n := p.n) (u := p.u) ?_ ?_ ?_ ?_ ?_
      · intro h1
        have HR := Lib.hid (HF.out (okPl_false (by omega)))
        have e0 : decide (p.n < 2) = true := decide_eq_true (by omega)
        clear hprev hp c HF
        go_wp2
        have hO := PlIn.new wr p
        have hB0 := below_alloc hnx (.cells #[.int .i64 p.n, .int .i64 p.u, .string p.s] 117)
        generalize wr.alloc (.cells #[.int .i64 p.n, .int .i64 p.u, .string p.s] 117) = W at *
        obtain ⟨g0, g1, g2⟩ := hO.cells
        have k0 := cell_regrown g0
        have k1 := cell_regrown g1
        have k2 := cell_regrown g2
        clear g0 g1 g2 hO q0 q1 q2
        refine wp_region_quiet_below (by kernel_rfl) (by as_aux_lemma => kernel_rfl) ?_
        repeat (go_big_quiet_step ((with_reducible (exact d1 _ _))))
        refine wpQuiet_nil ?_
        intro _ hw'
        obtain ⟨⟨dq, osq⟩, hw''⟩ := hw'
        subst hw''
        go_wp2
        go_ret
        exact ⟨by rw [HT2.out, HR.out]; rfl, below_then hB0 (below_regrown W dq osq)⟩
      · intro h1 h2
        have HR := Lib.hid (HF.out (okPl_false (by omega)))
        have e0 : decide (p.n < 2) = false := decide_eq_false (by omega)
        have e1 : decide (64 ≤ p.n) = true := decide_eq_true (by omega)
        clear hprev hp c HF
        go_wp2
        have hO := PlIn.new wr p
        have hB0 := below_alloc hnx (.cells #[.int .i64 p.n, .int .i64 p.u, .string p.s] 117)
        generalize wr.alloc (.cells #[.int .i64 p.n, .int .i64 p.u, .string p.s] 117) = W at *
        obtain ⟨g0, g1, g2⟩ := hO.cells
        have k0 := cell_regrown g0
        have k1 := cell_regrown g1
        have k2 := cell_regrown g2
        clear g0 g1 g2 hO q0 q1 q2
        refine wp_region_quiet_below (by kernel_rfl) (by as_aux_lemma => kernel_rfl) ?_
        repeat (go_big_quiet_step ((with_reducible (exact d1 _ _))))
        refine wpQuiet_nil ?_
        intro _ hw'
        obtain ⟨⟨dq, osq⟩, hw''⟩ := hw'
        subst hw''
        go_wp2
        go_ret
        exact ⟨by rw [HT2.out, HR.out]; rfl, below_then hB0 (below_regrown W dq osq)⟩
      · intro h1 h2 h3
        have HR := Lib.hid (HF.out (okPl_false (by omega)))
        have e0 : decide (p.n < 2) = false := decide_eq_false (by omega)
        have e1 : decide (64 ≤ p.n) = false := decide_eq_false (by omega)
        have e2 : decide (p.u < 0) = true := decide_eq_true (by omega)
        clear hprev hp c HF
        go_wp2
        have hO := PlIn.new wr p
        have hB0 := below_alloc hnx (.cells #[.int .i64 p.n, .int .i64 p.u, .string p.s] 117)
        generalize wr.alloc (.cells #[.int .i64 p.n, .int .i64 p.u, .string p.s] 117) = W at *
        obtain ⟨g0, g1, g2⟩ := hO.cells
        have k0 := cell_regrown g0
        have k1 := cell_regrown g1
        have k2 := cell_regrown g2
        clear g0 g1 g2 hO q0 q1 q2
        refine wp_region_quiet_below (by kernel_rfl) (by as_aux_lemma => kernel_rfl) ?_
        repeat (go_big_quiet_step ((with_reducible (exact d1 _ _))))
        refine wpQuiet_nil ?_
        intro _ hw'
        obtain ⟨⟨dq, osq⟩, hw''⟩ := hw'
        subst hw''
        go_wp2
        go_ret
        exact ⟨by rw [HT2.out, HR.out]; rfl, below_then hB0 (below_regrown W dq osq)⟩
      · intro h1 h2 h3 h4
        have HR := Lib.hid (HF.out (okPl_false (by omega)))
        have e0 : decide (p.n < 2) = false := decide_eq_false (by omega)
        have e1 : decide (64 ≤ p.n) = false := decide_eq_false (by omega)
        have e2 : decide (p.u < 0) = false := decide_eq_false (by omega)
        have e3 : decide (64 ≤ p.u) = true := decide_eq_true (by omega)
        clear hprev hp c HF
        go_wp2
        have hO := PlIn.new wr p
        have hB0 := below_alloc hnx (.cells #[.int .i64 p.n, .int .i64 p.u, .string p.s] 117)
        generalize wr.alloc (.cells #[.int .i64 p.n, .int .i64 p.u, .string p.s] 117) = W at *
        obtain ⟨g0, g1, g2⟩ := hO.cells
        have k0 := cell_regrown g0
        have k1 := cell_regrown g1
        have k2 := cell_regrown g2
        clear g0 g1 g2 hO q0 q1 q2
        refine wp_region_quiet_below (by kernel_rfl) (by as_aux_lemma => kernel_rfl) ?_
        repeat (go_big_quiet_step ((with_reducible (exact d1 _ _))))
        refine wpQuiet_nil ?_
        intro _ hw'
        obtain ⟨⟨dq, osq⟩, hw''⟩ := hw'
        subst hw''
        go_wp2
        go_ret
        exact ⟨by rw [HT2.out, HR.out]; rfl, below_then hB0 (below_regrown W dq osq)⟩
      · intro h1 h2 h3 h4
        have e0 : decide (p.n < 2) = false := decide_eq_false (by omega)
        have e1 : decide (64 ≤ p.n) = false := decide_eq_false (by omega)
        have e2 : decide (p.u < 0) = false := decide_eq_false (by omega)
        have e3 : decide (64 ≤ p.u) = false := decide_eq_false (by omega)
        have hon := okPl_name (p := p) ⟨h1, h2, h3, h4⟩
        rw [← hon] at c
        clear hon
        cases hok : okPl p
        · rw [hok] at c
          have C := Lib.hid c
          have HR := Lib.hid (HF.out hok)
          clear c hok hprev hp HF
          go_wp2
          have hO := PlIn.new wr p
          have hB0 := below_alloc hnx (.cells #[.int .i64 p.n, .int .i64 p.u, .string p.s] 117)
          generalize wr.alloc (.cells #[.int .i64 p.n, .int .i64 p.u, .string p.s] 117) = W at *
          obtain ⟨g0, g1, g2⟩ := hO.cells
          have k0 := cell_regrown g0
          have k1 := cell_regrown g1
          have k2 := cell_regrown g2
          have d1 : ∀ d os, Calls Tryz.prog 87 #[.string p.s] (Sort.grow (redrawn W d) os) fun e w'' => e = .returned (.bool false) ∧ ∃ p : Regrown, w'' = Sort.grow (redrawn W p.d) p.os := fun d os => Calls.regrown_of (C.out _)
          clear g0 g1 g2 hO q0 q1 q2
          refine wp_region_quiet_below (by kernel_rfl) (by as_aux_lemma => kernel_rfl) ?_
          repeat (go_big_quiet_step ((with_reducible (exact d1 _ _))))
          refine wpQuiet_nil ?_
          intro _ hw'
          obtain ⟨⟨dq, osq⟩, hw''⟩ := hw'
          subst hw''
          go_wp2
          go_ret
          exact ⟨by rw [HT2.out, HR.out]; rfl, below_then hB0 (below_regrown W dq osq)⟩
        · rw [hok] at c
          have C := Lib.hid c
          have hok := Lib.hid hok
          clear c
          by_cases h0 : 0 < k
          · obtain ⟨t0, t1, t2⟩ := hprev h0
            obtain ⟨q, hq⟩ : ∃ q, l[k - 1]'(by omega) = q := ⟨_, rfl⟩
            rw [hq] at t0 t1 t2
            have hix : ((k : Int) - 1).toNat = k - 1 := by omega
            by_cases hc2 : q.n < p.n
            · have HQ : ∀ h0 : 0 < k, (l[k - 1]'(by omega)).n < p.n := fun _ => by rw [hq]; exact hc2
              have HQ := Lib.hid HQ
              clear hq hp hprev
              go_wp2
              have hO := PlIn.new wr p
              have hB0 := below_alloc hnx (.cells #[.int .i64 p.n, .int .i64 p.u, .string p.s] 117)
              have hw0 := below_alloc (Below.refl _ wr) (.cells #[.int .i64 p.n, .int .i64 p.u, .string p.s] 117)
              rw [← (bcell hw0).1 _ _ hbr] at t0
              clear hw0
              generalize wr.alloc (.cells #[.int .i64 p.n, .int .i64 p.u, .string p.s] 117) = W at *
              obtain ⟨g0, g1, g2⟩ := hO.cells
              have k0 := cell_regrown g0
              have k1 := cell_regrown g1
              have k2 := cell_regrown g2
              have kt0 := cell_regrown t0
              clear t0 t1 t2
              have d1 : ∀ d os, Calls Tryz.prog 87 #[.string p.s] (Sort.grow (redrawn W d) os) fun e w'' => e = .returned (.bool true) ∧ ∃ p : Regrown, w'' = Sort.grow (redrawn W p.d) p.os := fun d os => Calls.regrown_of (C.out _)
              clear g0 g1 g2 hO q0 q1 q2
              refine wp_region_quiet_below (by kernel_rfl) (by as_aux_lemma => kernel_rfl) ?_
              repeat (go_big_quiet_step ((with_reducible (exact d1 _ _))))
              refine wpQuiet_nil ?_
              intro _ hw'
              obtain ⟨⟨dq, osq⟩, hw''⟩ := hw'
              subst hw''
              go_wp2
              go_roundw
              case rel => exact ⟨k + 1, by omega, by go_num, HN.out hok.out fun h0 => HQ.out h0, below_then hB0 (below_regrown W dq osq)⟩
              case measure => simp [intOf]; omega
            · have HR := Lib.hid (HB.out (fun h => by have := h.2 h0; rw [hq] at this; exact hc2 this))
              clear hq hp hprev
              go_wp2
              have hO := PlIn.new wr p
              have hB0 := below_alloc hnx (.cells #[.int .i64 p.n, .int .i64 p.u, .string p.s] 117)
              have hw0 := below_alloc (Below.refl _ wr) (.cells #[.int .i64 p.n, .int .i64 p.u, .string p.s] 117)
              rw [← (bcell hw0).1 _ _ hbr] at t0
              clear hw0
              generalize wr.alloc (.cells #[.int .i64 p.n, .int .i64 p.u, .string p.s] 117) = W at *
              obtain ⟨g0, g1, g2⟩ := hO.cells
              have k0 := cell_regrown g0
              have k1 := cell_regrown g1
              have k2 := cell_regrown g2
              have kt0 := cell_regrown t0
              clear t0 t1 t2
              have d1 : ∀ d os, Calls Tryz.prog 87 #[.string p.s] (Sort.grow (redrawn W d) os) fun e w'' => e = .returned (.bool true) ∧ ∃ p : Regrown, w'' = Sort.grow (redrawn W p.d) p.os := fun d os => Calls.regrown_of (C.out _)
              clear g0 g1 g2 hO q0 q1 q2
              refine wp_region_quiet_below (by kernel_rfl) (by as_aux_lemma => kernel_rfl) ?_
              repeat (go_big_quiet_step ((with_reducible (exact d1 _ _))))
              refine wpQuiet_nil ?_
              intro _ hw'
              obtain ⟨⟨dq, osq⟩, hw''⟩ := hw'
              subst hw''
              go_wp2
              go_ret
              exact ⟨by rw [HT2.out, HR.out]; rfl, below_then hB0 (below_regrown W dq osq)⟩
          · have hd : decide ((0 : Int) < (k : Int)) = false := decide_eq_false (by omega)
            have HK := Lib.hid h0
            clear hprev hp
            go_wp2
            have hO := PlIn.new wr p
            have hB0 := below_alloc hnx (.cells #[.int .i64 p.n, .int .i64 p.u, .string p.s] 117)
            generalize wr.alloc (.cells #[.int .i64 p.n, .int .i64 p.u, .string p.s] 117) = W at *
            obtain ⟨g0, g1, g2⟩ := hO.cells
            have k0 := cell_regrown g0
            have k1 := cell_regrown g1
            have k2 := cell_regrown g2
            have d1 : ∀ d os, Calls Tryz.prog 87 #[.string p.s] (Sort.grow (redrawn W d) os) fun e w'' => e = .returned (.bool true) ∧ ∃ p : Regrown, w'' = Sort.grow (redrawn W p.d) p.os := fun d os => Calls.regrown_of (C.out _)
            clear g0 g1 g2 hO q0 q1 q2
            refine wp_region_quiet_below (by kernel_rfl) (by as_aux_lemma => kernel_rfl) ?_
            repeat (go_big_quiet_step ((with_reducible (exact d1 _ _))))
            refine wpQuiet_nil ?_
            intro _ hw'
            obtain ⟨⟨dq, osq⟩, hw''⟩ := hw'
            subst hw''
            go_wp2
            go_roundw
            case rel => exact ⟨k + 1, by omega, by go_num, HN.out hok.out fun h0 => absurd h0 HK.out, below_then hB0 (below_regrown W dq osq)⟩
            case measure => simp [intOf]; omega
    · obtain rfl : k = l.length := by omega
      replace hl : l.length ≤ 1000 := by have := good_len hgd; omega
      have hr := goodTo_all hgd
      have HR := Lib.hid hr
      have hB1 := hnx
      have C := fun w a b (hT : Tr w A l) => refAbove_any A cap l a b w hl hT
      have C := Lib.hid C
      clear hgd hr
      go_wp2
      go_loopw [5] (fun x wr => ∃ k : Nat, k ≤ l.length ∧ x = .int .i64 k ∧ FreeTo l k ∧ Below w.heap.size w wr) (fun x _ => l.length - (intOf x).toNat)
      case atStart => exact ⟨0, Nat.zero_le _, rfl, fun k h hk => by omega, hB1⟩
      case round =>
        obtain ⟨j, hj, rfl, hgd, hnx⟩ := hrel
        by_cases hlt : j < l.length
        · obtain ⟨bb, off, hAe, hbw, hc⟩ := hT (by omega)
          have hbr := Nat.lt_of_lt_of_le hbw hnx.size
          have hat := (hc j hlt).below hnx hbw
          have hTr := hT.below hnx
          have hbad := free_bad hlt
          have hnext := free_next hgd hlt
          obtain ⟨p, hp⟩ : ∃ p, l[j] = p := ⟨_, rfl⟩
          rw [hp] at hat hbad hnext
          obtain ⟨q0, q1, q2⟩ := hat
          have C := fun w hT => C.out w p.n p.u hT
          have HB := Lib.hid hbad
          have HN := Lib.hid hnext
          clear hgd hbad hnext hc hp
          subst hAe
          have k0 := cell_regrown q0
          have k1 := cell_regrown q1
          clear q0 q1 q2
          cases hab : above l p.n p.u
          · rw [hab] at C
            have HN := Lib.hid (HN.out hab)
            have d1 : ∀ d os, Calls Tryz.prog 88 #[.slice (some ⟨bb, off, none⟩) l.length cap, .int .i64 p.n, .int .i64 p.u] (Sort.grow (redrawn wr d) os) fun e w'' => e = .returned (.bool false) ∧ ∃ p : Regrown, w'' = Sort.grow (redrawn wr p.d) p.os := fun d os => Calls.regrown_of (C _ (hTr.below (below_regrown wr d os)))
            clear hab C
            go_wp2
            refine wp_region_quiet_below (by kernel_rfl) (by as_aux_lemma => kernel_rfl) ?_
            repeat (go_big_quiet_step ((with_reducible (exact d1 _ _))))
            refine wpQuiet_nil ?_
            intro _ hw'
            obtain ⟨⟨dq, osq⟩, hw''⟩ := hw'
            subst hw''
            go_wp2
            go_roundw
            case rel => exact ⟨j + 1, by omega, by go_num, HN.out, below_then hnx (below_regrown wr dq osq)⟩
            case measure => simp [intOf]; omega
          · rw [hab] at C
            have HF := Lib.hid (HB.out hab)
            have d1 : ∀ d os, Calls Tryz.prog 88 #[.slice (some ⟨bb, off, none⟩) l.length cap, .int .i64 p.n, .int .i64 p.u] (Sort.grow (redrawn wr d) os) fun e w'' => e = .returned (.bool true) ∧ ∃ p : Regrown, w'' = Sort.grow (redrawn wr p.d) p.os := fun d os => Calls.regrown_of (C _ (hTr.below (below_regrown wr d os)))
            clear hab C
            go_wp2
            refine wp_region_quiet_below (by kernel_rfl) (by as_aux_lemma => kernel_rfl) ?_
            repeat (go_big_quiet_step ((with_reducible (exact d1 _ _))))
            refine wpQuiet_nil ?_
            intro _ hw'
            obtain ⟨⟨dq, osq⟩, hw''⟩ := hw'
            subst hw''
            go_wp2
            go_ret
            exact ⟨by rw [HT2.out, HR.out, HF.out]; rfl, below_then hnx (below_regrown wr dq osq)⟩
        · obtain rfl : j = l.length := by omega
          have HF := Lib.hid (free_all hgd)
          clear hgd
          go_wp2
          go_ret
          exact ⟨by rw [HT2.out, HR.out, HF.out]; rfl, hnx⟩
set_option maxRecDepth 100000 in
theorem samePlG_any (A1 A2 : Option Addr) (c1 c2 : Nat) (l m : List Pl) (w : World) (hm : m.length ≤ 50000) (h1 : plE.Sl w A1 l) (h2 : plE.Sl w A2 m) :
    Calls Tryz.prog 49 #[.slice A1 l.length c1, .slice A2 m.length c2] w fun e w' => ∃ b, e = .returned (.bool b) ∧ (b = true ↔ l = m) ∧ Below w.heap.size w w' := by
  by_cases hlen : l.length = m.length
  · exact samePl_any A1 A2 c1 c2 l m w (by omega) hm h1 h2
  · have HL := Lib.hid hlen
    have hne : ¬ m.length = l.length := fun e => hlen e.symm
    have e1 : ((l.length : Int) == (m.length : Int)) = false := beq_eq_false_iff_ne.2 (by omega)
    have e2 : ((l.length : Int) != (m.length : Int)) = true := by rw [bne, e1]; rfl
    go_enter Tryz.func49, Tryz.ntmps49
    go_wp2
    go_ret
    exact ⟨false, rfl, ⟨fun h => (by cases h), fun h => absurd (congrArg List.length h) HL.out⟩, Below.refl _ _⟩
set_option maxRecDepth 100000 in
theorem sameUnG_any (A1 A2 : Option Addr) (c1 c2 : Nat) (l m : List Un) (w : World) (hm : m.length ≤ 50000) (h1 : unE.Sl w A1 l) (h2 : unE.Sl w A2 m) :
    Calls Tryz.prog 51 #[.slice A1 l.length c1, .slice A2 m.length c2] w fun e w' => ∃ b, e = .returned (.bool b) ∧ (b = true ↔ l = m) ∧ Below w.heap.size w w' := by
  by_cases hlen : l.length = m.length
  · exact sameUn_any A1 A2 c1 c2 l m w (by omega) hm h1 h2
  · have HL := Lib.hid hlen
    have hne : ¬ m.length = l.length := fun e => hlen e.symm
    have e1 : ((l.length : Int) == (m.length : Int)) = false := beq_eq_false_iff_ne.2 (by omega)
    have e2 : ((l.length : Int) != (m.length : Int)) = true := by rw [bne, e1]; rfl
    go_enter Tryz.func51, Tryz.ntmps51
    go_wp2
    go_ret
    exact ⟨false, rfl, ⟨fun h => (by cases h), fun h => absurd (congrArg List.length h) HL.out⟩, Below.refl _ _⟩
set_option maxRecDepth 100000 in
set_option maxHeartbeats 8000000 in
theorem refPastRightG_any (x : Pw) (w : World) (hx : PastOk w x) (hl1 : x.base.length ≤ 140737488355328) (hl2 : x.ops.length ≤ 800) (hl3 : x.us.length ≤ 140737488355328) (hl4 : x.now.length ≤ 140737488355328) (hsb : ∀ p ∈ x.base, p.s.size ≤ 9223372036854775807) (hso : ∀ m ∈ x.ops, m.s.size ≤ 9223372036854775807) (bv : Bool) (hbv : bv = true ↔ PastR x.v) :
    Calls Tryz.prog 47 #[.agg #[.slice x.bA x.base.length x.bc, .int .i64 x.t, .slice x.oA x.ops.length x.oc, .slice x.uA x.us.length x.uc, .slice x.wA x.now.length x.wc]] w fun e w' => e = .returned (.bool bv) ∧ Below w.heap.size w w' := by
  obtain ⟨bA, bc, base, t, oA, oc, ops, uA, uc, us, wA, wc, now⟩ := x
  simp only at hl1 hl2 hl3 hl4 hsb hso
  have HV := Lib.hid hbv
  clear hbv
  have hP : pwE.In (w.alloc (.cells #[.slice bA base.length bc, .int .i64 t, .slice oA ops.length oc, .slice uA us.length uc, .slice wA now.length wc] 39)) w.heap.size (⟨bA, bc, base, t, oA, oc, ops, uA, uc, us, wA, wc, now⟩ : Pw) := El.In.new (E := pwE) w (⟨bA, bc, base, t, oA, oc, ops, uA, uc, us, wA, wc, now⟩ : Pw) _ rfl
  have hB := below_alloc (Below.refl w.heap.size w) (.cells #[.slice bA base.length bc, .int .i64 t, .slice oA ops.length oc, .slice uA us.length uc, .slice wA now.length wc] 39)
  have hx1 := hx.below hB
  clear hx
  by_cases h1 : 0 ≤ t ∧ t ≤ 1099511627776
  · obtain ⟨h1, h2⟩ := h1
    have CT := refRightG_any bA bc base (w.alloc (.cells #[.slice bA base.length bc, .int .i64 t, .slice oA ops.length oc, .slice uA us.length uc, .slice wA now.length wc] 39)) (by omega) hsb (plSl.1 hx1.b.1)
    go_enter Tryz.func47, Tryz.ntmps47
    go_wp2_with fail
    generalize w.alloc (.cells #[.slice bA base.length bc, .int .i64 t, .slice oA ops.length oc, .slice uA us.length uc, .slice wA now.length wc] 39) = W at *
    obtain ⟨n0, h0⟩ : ∃ n, w.heap.size = n := ⟨_, rfl⟩
    rw [h0] at hP ⊢
    clear h0
    cases ht : treeB base
    · have HNO := Lib.hid (show ¬ PastR (⟨bA, bc, base, t, oA, oc, ops, uA, uc, us, wA, wc, now⟩ : Pw).v from fun h => by have := h.1; simp only [Pw.v] at this; rw [ht] at this; cases this)
      rw [ht] at CT
      refine CT.mono ?_
      rintro e W1 ⟨rfl, hb1⟩
      replace hB := hB.trans (hb1.mono (by have := hB.size; omega))
      go_wp2_with fail
      go_ret
      exact ⟨by rw [false_of_not HV.out HNO.out]; rfl, hB⟩
    · replace hl1 : base.length ≤ 62 := tree_len ht
      rw [ht] at CT
      refine CT.mono ?_
      rintro e W1 ⟨rfl, hb1⟩
      replace hB := hB.trans (hb1.mono (by have := hB.size; omega))
      replace hP := hP.below hb1
      replace hx1 := hx1.below hb1
      clear CT hb1
      go_wp2_with fail
      go_loopw [3] (fun yi wr => ∃ k : Nat, k ≤ ops.length ∧ yi = .int .i64 k ∧ OpsTo ops t k ∧ pwE.In wr n0 (⟨bA, bc, base, t, oA, oc, ops, uA, uc, us, wA, wc, now⟩ : Pw) ∧ PastOk wr (⟨bA, bc, base, t, oA, oc, ops, uA, uc, us, wA, wc, now⟩ : Pw) ∧ Below w.heap.size w wr) (fun yi _ => ops.length - (intOf yi).toNat)
      case atStart => exact ⟨0, Nat.zero_le _, rfl, OpsTo.zero ops t, hP, hx1, hB⟩
      case round =>
        clear hP hx1 hB
        obtain ⟨k, hk, rfl, hto, hP, hx1, hB⟩ := hrel
        have p1 := (pwIn5 hP).2.1
        have p2 := (pwIn5 hP).2.2.1
        simp only at p1 p2
        by_cases hkl : k < ops.length
        · obtain ⟨b, off, hoA, hbw, hc⟩ := hx1.o.1 (show 0 < ops.length by omega)
          simp only at hoA hc
          have hat : opE.At wr b (off + k * 7) ops[k] := hc k hkl
          have hprev : ∀ (h0 : 0 < k), opE.At wr b (off + (k - 1) * 7) (ops[k - 1]'(by omega)) := fun h0 => hc (k - 1) (show k - 1 < ops.length by omega)
          have hms : ops[k].s.size ≤ 9223372036854775807 := hso _ (List.getElem_mem _)
          have HNK := Lib.hid (fun (h : OpsR ops t) => h.at k hkl)
          have HT := Lib.hid hto
          obtain ⟨mk, hmk⟩ : ∃ mk, ops[k] = mk := ⟨_, rfl⟩
          rw [hmk] at hat hms HNK
          subst hoA
          obtain ⟨o0, o1, o2, o3, o4, o5, o6⟩ := opAt hat
          have k0 := cell_regrown o0
          have k1 := cell_regrown o1
          have k2 := cell_regrown o2
          have k3 := cell_regrown o3
          have k4 := cell_regrown o4
          have k5 := cell_regrown o5
          have k6 := cell_regrown o6
          have k9 := cell_regrown p1
          have k10 := cell_regrown p2
          obtain ⟨r, hr⟩ : ∃ r, opB mk.C mk.D mk.I mk.M mk.K mk.U mk.s = r := ⟨_, rfl⟩
          have CR := fun w => opRefRight_any mk.C mk.D mk.I mk.M mk.K mk.U mk.s w hms
          rw [hr] at CR
          have HCR := Lib.hid CR
          have HR := Lib.hid hr
          have d1 : ∀ d os, Calls Tryz.prog 69 #[.agg #[.int .i64 mk.C, .int .i64 mk.D, .int .i64 mk.I, .int .i64 mk.M, .int .i64 mk.K, .int .i64 mk.U, .string mk.s]] (Sort.grow (redrawn wr d) os) fun e w'' => e = .returned (.bool r) ∧ ∃ p : Regrown, w'' = Sort.grow (redrawn wr p.d) p.os := fun d os => Calls.regrown_of (HCR.out _)
          have d2 : ∀ d os, Calls Tryz.prog 69 #[.agg #[.int .i64 mk.C, .int .i64 mk.D, .int .i64 mk.I, .int .i64 mk.M, .int .i64 mk.K, .int .i64 mk.U, .string mk.s]] (Sort.grow (redrawn wr d) os) fun e w'' => e = .returned (.bool r) ∧ ∃ p : Regrown, w'' = Sort.grow (redrawn wr p.d) p.os := d1
          have HMK := Lib.hid hmk
          have HPV := Lib.hid hprev
          clear o0 o1 o2 o3 o4 o5 o6 CR hr hat hprev hc hmk hto HCR
          cases r
          · have HNO := Lib.hid (show ¬ PastR (Pw.v (⟨bA, bc, base, t, some ⟨b, off, none⟩, oc, ops, uA, uc, us, wA, wc, now⟩ : Pw)) from fun h => by have := (HNK.out h.2.2.2.1).1; unfold Mv.ok at this; rw [HR.out] at this; cases this)
            go_wp2_with fail
            refine wp_region_quiet_below (by kernel_rfl) (by kernel_rfl) ?_
            repeat (go_big_quiet_step ((with_reducible (first | exact d1 _ _ | exact d2 _ _))))
            refine wpQuiet_nil ?_
            intro _ hw'
            obtain ⟨⟨dq, osq⟩, hw''⟩ := hw'
            subst hw''
            have hq := below_regrown wr dq osq
            replace hP := hP.below hq
            replace hx1 := hx1.below hq
            replace hB := hB.trans (hq.mono hB.size)
            generalize Sort.grow (redrawn wr dq) osq = W1 at *
            go_wp2_with fail
            go_ret
            exact ⟨by rw [false_of_not HV.out HNO.out]; rfl, hB⟩
          · have HOK := Lib.hid (show mk.ok from HR.out)
            by_cases htc : t < mk.C
            · have HTC := Lib.hid htc
              have hdc : decide (mk.C ≤ t) = false := decide_eq_false (by omega)
              by_cases h0 : k = 0
              · subst h0
                simp only [Nat.zero_mul, Nat.add_zero] at k0 k1 k2 k3 k4 k5 k6
                go_wp2_with fail
                refine wp_region_quiet_below (by kernel_rfl) (by kernel_rfl) ?_
                repeat (go_big_quiet_step ((with_reducible (first | exact d1 _ _ | exact d2 _ _))))
                refine wpQuiet_nil ?_
                intro _ hw'
                obtain ⟨⟨dq, osq⟩, hw''⟩ := hw'
                subst hw''
                have hq := below_regrown wr dq osq
                replace hP := hP.below hq
                replace hx1 := hx1.below hq
                replace hB := hB.trans (hq.mono hB.size)
                generalize Sort.grow (redrawn wr dq) osq = W1 at *
                go_wp2_with fail
                exact ⟨⟨0 + 1, by omega, by go_num, HT.out.next hkl (by rw [HMK.out]; exact HOK.out) (by rw [HMK.out]; exact HTC.out) (by intro h0; omega), hP, hx1, hB⟩, by simp [intOf]; omega⟩
              · obtain ⟨j, rfl⟩ : ∃ j, k = j + 1 := ⟨k - 1, by omega⟩
                have hpv := HPV.out (by omega)
                simp only [Nat.add_sub_cancel] at hpv
                obtain ⟨pv, hpve⟩ : ∃ pv, ops[j]'(by omega) = pv := ⟨_, rfl⟩
                rw [hpve] at hpv
                obtain ⟨t0, t1, t2, t3, t4, t5, t6⟩ := opAt hpv
                have k7 := cell_regrown t0
                have k8 := cell_regrown t1
                have C2 := fun w => refBefore_any pv.C pv.D mk.C mk.D w
                obtain ⟨bb, hbb⟩ : ∃ bb, befB pv.C pv.D mk.C mk.D = bb := ⟨_, rfl⟩
                rw [hbb] at C2
                rw [bef_iff] at hbb
                have HC2 := Lib.hid C2
                have HBB := Lib.hid hbb
                have HPE := Lib.hid hpve
                have hjl : j < ops.length := by omega
                clear t0 t1 t2 t3 t4 t5 t6 C2 hbb hpve hpv d2
                have d2 : ∀ d os, Calls Tryz.prog 71 #[.agg #[.int .i64 pv.C, .int .i64 pv.D], .agg #[.int .i64 mk.C, .int .i64 mk.D]] (Sort.grow (redrawn wr d) os) fun e w'' => e = .returned (.bool bb) ∧ ∃ p : Regrown, w'' = Sort.grow (redrawn wr p.d) p.os := fun d os => Calls.regrown_of (HC2.out _)
                have hd0 : decide ((0 : Int) < ((j + 1 : Nat) : Int)) = true := decide_eq_true (by omega)
                have hd1 : decide ((0 : Int) < (j : Int) + 1) = true := decide_eq_true (by omega)
                cases bb
                · have HNO := Lib.hid (show ¬ PastR (Pw.v (⟨bA, bc, base, t, some ⟨b, off, none⟩, oc, ops, uA, uc, us, wA, wc, now⟩ : Pw)) from fun h => of_decide_eq_false HBB.out (by have h9 : bef Mv.C Mv.D (ops[j]'(by omega)) mk := (HNK.out h.2.2.2.1).2.2 (Nat.succ_pos j); rw [HPE.out] at h9; exact h9))
                  go_wp2_with fail
                  refine wp_region_quiet_below (by kernel_rfl) (by kernel_rfl) ?_
                  repeat (go_big_quiet_step ((with_reducible (first | exact d1 _ _ | exact d2 _ _))))
                  refine wpQuiet_nil ?_
                  intro _ hw'
                  obtain ⟨⟨dq, osq⟩, hw''⟩ := hw'
                  subst hw''
                  have hq := below_regrown wr dq osq
                  replace hP := hP.below hq
                  replace hx1 := hx1.below hq
                  replace hB := hB.trans (hq.mono hB.size)
                  generalize Sort.grow (redrawn wr dq) osq = W1 at *
                  go_wp2_with fail
                  go_ret
                  exact ⟨by rw [false_of_not HV.out HNO.out]; rfl, hB⟩
                · have HBF := Lib.hid (show ∀ (h0 : 0 < j + 1), bef Mv.C Mv.D (ops[j + 1 - 1]'(by omega)) mk from fun _ => by show bef Mv.C Mv.D (ops[j]'(by omega)) mk; rw [HPE.out]; exact of_decide_eq_true HBB.out)
                  go_wp2_with fail
                  refine wp_region_quiet_below (by kernel_rfl) (by kernel_rfl) ?_
                  repeat (go_big_quiet_step ((with_reducible (first | exact d1 _ _ | exact d2 _ _))))
                  refine wpQuiet_nil ?_
                  intro _ hw'
                  obtain ⟨⟨dq, osq⟩, hw''⟩ := hw'
                  subst hw''
                  have hq := below_regrown wr dq osq
                  replace hP := hP.below hq
                  replace hx1 := hx1.below hq
                  replace hB := hB.trans (hq.mono hB.size)
                  generalize Sort.grow (redrawn wr dq) osq = W1 at *
                  go_wp2_with fail
                  exact ⟨⟨j + 1 + 1, by omega, by go_num, HT.out.next hkl (by rw [HMK.out]; exact HOK.out) (by rw [HMK.out]; exact HTC.out) (by intro h0; rw [HMK.out]; exact HBF.out h0), hP, hx1, hB⟩, by simp [intOf]; omega⟩
            · have hdc : decide (mk.C ≤ t) = true := decide_eq_true (by omega)
              have HNO := Lib.hid (show ¬ PastR (Pw.v (⟨bA, bc, base, t, some ⟨b, off, none⟩, oc, ops, uA, uc, us, wA, wc, now⟩ : Pw)) from fun h => htc (HNK.out h.2.2.2.1).2.1)
              go_wp2_with fail
              refine wp_region_quiet_below (by kernel_rfl) (by kernel_rfl) ?_
              repeat (go_big_quiet_step ((with_reducible (first | exact d1 _ _ | exact d2 _ _))))
              refine wpQuiet_nil ?_
              intro _ hw'
              obtain ⟨⟨dq, osq⟩, hw''⟩ := hw'
              subst hw''
              have hq := below_regrown wr dq osq
              replace hP := hP.below hq
              replace hx1 := hx1.below hq
              replace hB := hB.trans (hq.mono hB.size)
              generalize Sort.grow (redrawn wr dq) osq = W1 at *
              go_wp2_with fail
              go_ret
              exact ⟨by rw [false_of_not HV.out HNO.out]; rfl, hB⟩
        · obtain rfl : k = ops.length := by omega
          have hfl1 := foldL_len1 base (mvs ops)
          have hfl2 := foldL_len base (mvs ops)
          rw [mvs_len] at hfl1 hfl2
          have CF := mvRefFold_any bA bc base oA oc ops wr (by omega) hx1.b hx1.o.1
          have HBV := Lib.hid (show PastR (⟨bA, bc, base, t, oA, oc, ops, uA, uc, us, wA, wc, now⟩ : Pw).v ↔ (now = (foldL base (mvs ops)).1 ∧ us = (foldL base (mvs ops)).2) from ⟨fun h => h.2.2.2.2, fun h => ⟨ht, h1, h2, hto, h.1, h.2⟩⟩)
          generalize (foldL base (mvs ops)).1 = now2 at *
          generalize (foldL base (mvs ops)).2 = us2 at *
          have HFL := Lib.hid hfl2
          clear hfl2
          have HCF := Lib.hid CF
          have HT := Lib.hid hto
          have p0 := (pwIn5 hP).1
          simp only at p0
          clear CF hto
          go_wp2_with fail
          clear p0 p1 p2
          refine HCF.out.mono ?_
          rintro e W3 ⟨A3, c3, U3, uc3, rfl, hS3, hU3, hf3, hfu3, hb3⟩
          replace hP := hP.below hb3
          replace hx1 := hx1.below hb3
          replace hB := hB.trans (hb3.mono hB.size)
          clear hb3 hf3 hfu3 HCF
          have p4 := (pwIn5 hP).2.2.2.2
          simp only at p4
          go_wp2_with fail
          clear p4
          refine (samePlG_any wA A3 wc c3 now now2 W3 (by omega) hx1.w.1 hS3.1).mono ?_
          rintro e W4 ⟨b1, rfl, hb1, hb4⟩
          replace hP := hP.below hb4
          replace hx1 := hx1.below hb4
          replace hU3 := hU3.below hb4
          replace hB := hB.trans (hb4.mono hB.size)
          clear hb4
          have HB1 := Lib.hid hb1
          clear hb1
          have p3 := (pwIn5 hP).2.2.2.1
          simp only at p3
          cases b1
          · go_wp2_with fail
            go_ret
            refine ⟨?_, hB⟩
            have hbf := false_of_not HV.out (fun h => Bool.noConfusion (HB1.out.2 (HBV.out.1 h).1))
            clear HV HBV HB1
            subst hbf
            rfl
          · go_wp2_with fail
            have HSU := Lib.hid (sameUnG_any uA U3 uc uc3 us us2 W4 (by have := HFL.out; omega) hx1.u.1 hU3.1)
            (with_reducible refine HSU.out.mono ?_)
            rintro e W5 ⟨b2, rfl, hb2, hb5⟩
            have hbe : bv = b2 := by
              rw [Bool.eq_iff_iff, HV.out, HBV.out, hb2]
              exact ⟨fun h => h.2, fun h => ⟨HB1.out.1 (by trivial), h⟩⟩
            clear hb2 HV HBV HB1
            subst hbe
            go_wp2_with fail
            go_ret
            refine ⟨?_, hB.trans (hb5.mono hB.size)⟩
            rfl
  · have HNO := Lib.hid (show ¬ PastR (⟨bA, bc, base, t, oA, oc, ops, uA, uc, us, wA, wc, now⟩ : Pw).v from fun h => h1 ⟨h.2.1, h.2.2.1⟩)
    rcases (show t < 0 ∨ (¬ t < 0 ∧ 1099511627776 < t) by omega) with h2 | ⟨h2, h3⟩
    all_goals
      clear h1
      go_enter Tryz.func47, Tryz.ntmps47
      go_wp2_with fail
      go_ret
      refine ⟨?_, hB⟩
      have hbf := false_of_not HV.out HNO.out
      clear HV HNO
      subst hbf
      rfl
end Go.Proofs.YtfpgfclmmdihjaaGreat

/- Frames' bytes: there and back; what is cut or of which a byte is another one is none's. No call in it. -/
namespace Go.Proofs.YtfpgfclmmdihjaaGreat.Crk
open Go.RowKit Crc

theorem isSeal_of {t : ByteArray} (h : opC t = t.size) : isSeal t = true ∧ 8 + num t = t.size := by
  unfold opC at h
  by_cases g : isSeal t = true
  · rw [if_pos g] at h; exact ⟨g, by omega⟩
  · rw [if_neg g] at h; omega
theorem seal_of {t : ByteArray} (h : opC t = t.size) : sealOf (opT t) = t := by
  obtain ⟨g, h1⟩ := isSeal_of h
  rw [(opened_was t g).1, h1, ByteArray.extract_zero_size]
theorem fourL_inj {a b : Nat} (ha : a < 4294967296) (hb : b < 4294967296) (h : fourL a = fourL b) : a = b := by
  have h1 := numL_four a [] ha
  have h2 := numL_four b [] hb
  rw [h] at h1
  omega
/-- One byte is another one: it isn't open any more. -/
theorem turned_none (s t : ByteArray) (k : Nat) (m : UInt8) (hs : s.size < 4294967296) (hk : k < 8 + s.size) (hm : m ≠ 0) (h : L t = (L (sealOf s)).set k ((L (sealOf s)).getD k 0 ^^^ m)) : opC t ≠ t.size := by
  intro ho
  have hw := seal_of ho
  obtain ⟨u, hu⟩ : ∃ u, opT t = u := ⟨_, rfl⟩
  rw [hu] at hw
  have hsz : t.size = 8 + s.size := by
    have h2 := congrArg List.length h
    rw [List.length_set, L_len, L_len, seal_size] at h2
    exact h2
  have hus : u.size = s.size := by
    have h2 := seal_size u
    rw [hw] at h2
    omega
  rw [← hw, L_seal, L_seal, hus] at h
  have hx : ∀ (l : List UInt8) (j : Nat), (l.set j (l.getD j 0 ^^^ m)) = l → j < l.length → False := fun l j e hj => by
    have h1 : (l.set j (l.getD j 0 ^^^ m))[j]? = l[j]? := by rw [e]
    rw [List.getElem?_set_self hj, List.getD_eq_getElem?_getD, List.getElem?_eq_getElem hj] at h1
    simp only [Option.getD_some, Option.some.injEq] at h1
    apply hm
    have h2 : l[j] ^^^ (l[j] ^^^ m) = l[j] ^^^ l[j] := by rw [h1]
    rw [← UInt8.xor_assoc, UInt8.xor_self, UInt8.zero_xor] at h2
    exact h2
  have hgd : ∀ (A B : List UInt8) (j : Nat), A.length ≤ j → (A ++ B).set j ((A ++ B).getD j 0 ^^^ m) = A ++ B.set (j - A.length) (B.getD (j - A.length) 0 ^^^ m) := fun A B j hj => by
    rw [List.set_append_right j _ hj, List.getD_eq_getElem?_getD, List.getElem?_append_right hj, ← List.getD_eq_getElem?_getD]
  have hgl : ∀ (A B : List UInt8) (j : Nat), j < A.length → (A ++ B).set j ((A ++ B).getD j 0 ^^^ m) = A.set j (A.getD j 0 ^^^ m) ++ B := fun A B j hj => by
    rw [List.set_append_left j _ hj, List.getD_eq_getElem?_getD, List.getElem?_append_left hj, ← List.getD_eq_getElem?_getD]
  by_cases c1 : k < 4
  · rw [hgl _ _ k (by rw [fourL_len]; exact c1)] at h
    have h2 := (List.append_inj h (by rw [List.length_set])).1
    exact hx _ k h2.symm (by rw [fourL_len]; exact c1)
  · rw [hgd _ _ k (by rw [fourL_len]; omega)] at h
    have h2 := List.append_cancel_left h
    rw [fourL_len] at h2
    by_cases c2 : k < 8
    · rw [hgl _ _ (k - 4) (by rw [fourL_len]; omega)] at h2
      obtain ⟨h3, h4⟩ := List.append_inj h2 (by rw [List.length_set]; rfl)
      have h5 : sumB u = sumB s := sumB_L h4
      rw [h5] at h3
      exact hx _ (k - 4) h3.symm (by rw [fourL_len]; omega)
    · rw [hgd _ _ (k - 4) (by rw [fourL_len]; omega), fourL_len] at h2
      obtain ⟨h3, h4⟩ := List.append_inj h2 (by rw [fourL_len, fourL_len])
      have h5 : sumB u = sumB s := fourL_inj (sumB_lt u) (sumB_lt s) h3
      have hj : k - 4 - 4 < (L s).length := by rw [L_len]; omega
      obtain ⟨j, hjk⟩ : ∃ j, k - 4 - 4 = j := ⟨_, rfl⟩
      rw [hjk] at h4 hj
      have h6 : L s = (L s).take j ++ ([(L s)[j]] ++ (L s).drop (j + 1)) := by
        rw [List.singleton_append, List.getElem_cons_drop, List.take_append_drop]
      have h7 : L u = (L s).take j ++ (List.zipWith (· ^^^ ·) [(L s)[j]] [m] ++ (L s).drop (j + 1)) := by
        rw [h4, List.getD_eq_getElem?_getD, List.getElem?_eq_getElem hj, List.set_eq_take_append_cons_drop, if_pos hj]
        rfl
      have h8 : sumOf (L u) = sumOf (L s) := by
        have h9 : (sumOf (L u)).toNat = (sumOf (L s)).toNat := h5
        exact BitVec.eq_of_toNat_eq h9
      rw [h7] at h8
      have h10 : sumOf (L s) = sumOf ((L s).take j ++ ([(L s)[j]] ++ (L s).drop (j + 1))) := by rw [← h6]
      rw [h10] at h8
      exact hm (sum_turned _ [(L s)[j]] [m] _ rfl (by simp) h8 m (by simp))
end Go.Proofs.YtfpgfclmmdihjaaGreat.Crk
namespace Go.Proofs.YtfpgfclmmdihjaaGreat
open Go.RowKit Nam Cod

theorem frL_i64 {f : Fr} (h : FrR f) : ∀ n ∈ frL f, i64 n := fun n hn => by
  have h1 := fun n hn => h.six n hn
  have h2 := h.e
  unfold fr6 at h1
  unfold frL at hn
  simp only [List.mem_cons, List.not_mem_nil, or_false, forall_eq_or_imp, forall_eq] at hn h1
  unfold Go.Proofs.YtfpgfclmmdihjaaGreat.i64
  rcases hn with rfl | rfl | rfl | rfl | rfl | rfl | rfl | rfl | rfl | rfl <;> omega
theorem body_self {f : Fr} (h : FrR f) : isBody (bodyF f) = some f := by
  obtain ⟨Z, hZ⟩ : ∃ Z : ByteArray, Z = ⟨#[]⟩ := ⟨_, rfl⟩
  have hZ0 : ∀ x : ByteArray, x ++ Z = x := fun x => by rw [hZ]; exact L_inj (by rw [L_app]; simp [L])
  have he := h.e
  obtain ⟨X, hX⟩ : ∃ X, bodyF f = X := ⟨_, rfl⟩
  have hXs : catN (frL f) ++ (opK.part f.os ++ (rpK.part f.rs ++ (enK.part f.es ++ gfK.part f.gs))) = X := hX
  have h1 := nums_there (frL f) Z (opK.part f.os ++ (rpK.part f.rs ++ (enK.part f.es ++ gfK.part f.gs))) (frL_i64 h)
  have hZl : ∀ x : ByteArray, Z ++ x = x := fun x => by rw [hZ]; exact L_inj (by rw [L_app]; simp [L])
  have hZs : Z.size = 0 := by rw [hZ]; rfl
  rw [hZl, hXs, hZs, Nat.zero_add] at h1
  have h2 := opK.part_there 64 (by decide) f.os (catN (frL f)) (rpK.part f.rs ++ (enK.part f.es ++ gfK.part f.gs)) (by omega) h.os
  rw [hXs] at h2
  have h3 := rpK.part_there 8 (by decide) f.rs (catN (frL f) ++ opK.part f.os) (enK.part f.es ++ gfK.part f.gs) (by omega) h.rs
  rw [ByteArray.append_assoc, hXs, ByteArray.size_append] at h3
  have h4 := enK.part_there 64 (by decide) f.es (catN (frL f) ++ opK.part f.os ++ rpK.part f.rs) (gfK.part f.gs) (by omega) h.es
  rw [ByteArray.append_assoc, ByteArray.append_assoc, hXs, ByteArray.size_append, ByteArray.size_append] at h4
  have h5 := gfK.part_there 8 (by decide) f.gs (catN (frL f) ++ opK.part f.os ++ rpK.part f.rs ++ enK.part f.es) Z (by omega) h.gs
  rw [hZ0, ByteArray.append_assoc, ByteArray.append_assoc, ByteArray.append_assoc, hXs, ByteArray.size_append, ByteArray.size_append, ByteArray.size_append] at h5
  have hsz : X.size = (catN (frL f)).size + (opK.part f.os).size + (rpK.part f.rs).size + (enK.part f.es).size + (gfK.part f.gs).size := by
    rw [← hXs]; simp only [ByteArray.size_append]; omega
  rw [hX]
  unfold isBody
  rw [show (10 : Nat) = (frL f).length from rfl, h1, Option.bind_some]
  dsimp only
  rw [h2, Option.bind_some]
  dsimp only
  rw [h3, Option.bind_some]
  dsimp only
  rw [h4, Option.bind_some]
  dsimp only
  rw [h5, Option.bind_some]
  dsimp only
  rw [ofFr_self, if_pos ⟨hsz.symm, frB_iff.2 h⟩]
theorem isBody_some {t : ByteArray} {f : Fr} (h : isBody t = some f) : ∃ l q0 q1 q2 q3, isNums t 10 0 = some (l, q0) ∧ opK.isPart 64 t q0 false = some (f.os, q1) ∧ rpK.isPart 8 t q1 false = some (f.rs, q2) ∧ enK.isPart 64 t q2 false = some (f.es, q3) ∧ gfK.isPart 8 t q3 false = some (f.gs, t.size) ∧ f = ofFr l f.os f.rs f.es f.gs ∧ frB f = true := by
  unfold isBody at h
  cases ha : isNums t 10 0 with
  | none => rw [ha] at h; cases h
  | some a =>
    obtain ⟨a, qa⟩ := a
    rw [ha, Option.bind_some] at h
    dsimp only at h
    cases hb : opK.isPart 64 t qa false with
    | none => rw [hb] at h; cases h
    | some b =>
      obtain ⟨b, qb⟩ := b
      rw [hb, Option.bind_some] at h
      dsimp only at h
      cases hc : rpK.isPart 8 t qb false with
      | none => rw [hc] at h; cases h
      | some c =>
        obtain ⟨c, qc⟩ := c
        rw [hc, Option.bind_some] at h
        dsimp only at h
        cases hd : enK.isPart 64 t qc false with
        | none => rw [hd] at h; cases h
        | some d =>
          obtain ⟨d, qd⟩ := d
          rw [hd, Option.bind_some] at h
          dsimp only at h
          cases he : gfK.isPart 8 t qd false with
          | none => rw [he] at h; cases h
          | some e =>
            obtain ⟨e, qe⟩ := e
            rw [he, Option.bind_some] at h
            dsimp only at h
            by_cases hg : qe = t.size ∧ frB (ofFr a b c d e) = true
            · rw [if_pos hg] at h
              have h := Option.some.inj h
              subst h
              obtain ⟨rfl, hg⟩ := hg
              exact ⟨a, qa, qb, qc, qd, rfl, hb, hc, hd, he, rfl, hg⟩
            · rw [if_neg hg] at h; cases h
theorem body_bytes {t : ByteArray} {f : Fr} (h : isBody t = some f) : FrR f ∧ bodyF f = t := by
  obtain ⟨l, q0, q1, q2, q3, h0, h1, h2, h3, h4, h5, h6⟩ := isBody_some h
  refine ⟨frB_iff.1 h6, ?_⟩
  obtain ⟨g1, g2⟩ := nums_bytes _ _ _ _ _ h0
  obtain ⟨_, _, g3⟩ := opK.part_bytes h1
  obtain ⟨_, _, g4⟩ := rpK.part_bytes h2
  obtain ⟨_, _, g5⟩ := enK.part_bytes h3
  obtain ⟨_, _, g6⟩ := gfK.part_bytes h4
  have hl : frL f = l := by rw [h5]; exact frL_of g1 _ _ _ _
  apply L_inj
  rw [g3, g4, g5, g6, List.drop_zero] at g2
  have hn : (L t).drop t.size = [] := List.drop_eq_nil_of_le (by simp [L])
  rw [hn, List.append_nil] at g2
  unfold bodyF
  rw [hl, L_app, L_app, L_app, L_app, g2]
theorem bodyF_le {f : Fr} (h : FrR f) : (bodyF f).size ≤ 20000 := by
  have he := h.e
  have c10 : ∀ n : Nat, n ≤ 1000 → (bytesOf (n : Int)).size ≤ 10 := fun n hn => by rw [bytesOf_size]; exact enc_ten _ (fold_lt (n : Int) (by omega) (by omega))
  have h0 := catN_le (frL f) (frL_i64 h)
  rw [show (frL f).length = 10 from rfl] at h0
  have h1 := opK.cat_le 86 f.os (fun x hx => bytes_le (m := x) (h.os x hx))
  have h2 := rpK.cat_le 90 f.rs (fun x hx => by
    have := catN_le (rpL x) (rpB_iff.1 (h.rs x hx)).i64
    rw [show (rpL x).length = 9 from rfl] at this
    exact this)
  have h3 := enK.cat_le 96 f.es (fun x hx => ent_le (h.es x hx))
  have h4 := gfK.cat_le 310 f.gs (fun x hx => by
    have hg := h.gs x hx
    unfold gfB at hg
    rw [decide_eq_true_iff] at hg
    show (gfBytes x).size ≤ 310
    unfold gfBytes textOf
    have k1 : (bytesOf x.d).size ≤ 10 := by rw [bytesOf_size]; exact enc_ten _ (fold_lt _ (by omega) (by omega))
    have k2 : (bytesOf x.i).size ≤ 10 := by rw [bytesOf_size]; exact enc_ten _ (fold_lt _ (by omega) (by omega))
    have k3 : (bytesOf x.c).size ≤ 10 := by rw [bytesOf_size]; exact enc_ten _ (fold_lt _ (by omega) (by omega))
    have k4 : (bytesOf x.t).size ≤ 10 := by rw [bytesOf_size]; exact enc_ten _ (fold_lt _ (by omega) (by omega))
    have k5 := c10 x.s.size (by omega)
    simp only [ByteArray.size_append]
    omega)
  have b1 := c10 f.os.length (by omega)
  have b2 := c10 f.rs.length (by omega)
  have b3 := c10 f.es.length (by omega)
  have b4 := c10 f.gs.length (by omega)
  unfold bodyF Kd.part
  simp only [ByteArray.size_append]
  omega
theorem fparse_self {f : Fr} (h : FrR f) : parseF (frBytes f) = some f := by
  have hb := bodyF_le h
  obtain ⟨h1, h2⟩ := Crk.seal_opens' (bodyF f) (by omega)
  have h3 := Crk.seal_size (bodyF f)
  unfold parseF frBytes
  rw [h1, h2, h3, if_pos ⟨by omega, by omega⟩]
  exact body_self h
theorem fparse_bytes {s : ByteArray} {f : Fr} (h : parseF s = some f) : FrR f ∧ frBytes f = s := by
  unfold parseF at h
  by_cases c : Crk.opC s = s.size ∧ s.size ≤ 65536
  · rw [if_pos c] at h
    obtain ⟨h1, h2⟩ := body_bytes h
    exact ⟨h1, by unfold frBytes; rw [h2]; exact Crk.seal_of c.1⟩
  · rw [if_neg c] at h; cases h
theorem fprint_inj {a b : Fr} (ha : FrR a) (hb : FrR b) (h : frBytes a = frBytes b) : a = b := by
  have h1 := fparse_self ha
  rw [h, fparse_self hb] at h1
  exact (Option.some.inj h1).symm
/-- Bytes that are cut. -/
theorem fparse_cut (t : ByteArray) (k : Nat) (hs : t.size < 4294967296) (hk : k < 8 + t.size) : parseF ((Crk.sealOf t).extract 0 k) = none := by
  unfold parseF
  rw [Crk.cut_shut t k hs hk, if_neg (by omega)]
/-- A byte is another one. -/
theorem fparse_turned (s t : ByteArray) (k : Nat) (m : UInt8) (hs : s.size < 4294967296) (hk : k < 8 + s.size) (hm : m ≠ 0) (h : t.data.toList = (Crk.sealOf s).data.toList.set k ((Crk.sealOf s).data.toList.getD k 0 ^^^ m)) : parseF t = none := by
  unfold parseF
  rw [if_neg fun c => Crk.turned_none s t k m hs hk hm h c.1]
end Go.Proofs.YtfpgfclmmdihjaaGreat

/- Reports in memory; what the program's functions shall answer (ReportCalls); the document's Right, Newer, Print, Same. -/
namespace Go.Proofs.YtfpgfclmmdihjaaGreat
open Go.RowKit Cod

def rpE : El Rp where
  e := 24
  k := 9
  c r := [.int .i64 r.d, .int .i64 r.i, .int .i64 r.b, .int .i64 r.t, .int .i64 r.m, .int .i64 r.p, .int .i64 r.c, .int .i64 r.s, .int .i64 r.k]
  len _ := rfl
  one p u h := by
    simp only [List.mem_cons, List.not_mem_nil, or_false] at h
    rcases h with rfl | rfl | rfl | rfl | rfl | rfl | rfl | rfl | rfl <;> rfl
  pos := by decide
theorem rpRow : rpE.Row Tryz.prog := ⟨by kernel_rfl, _, Tryz.underlying24, rfl⟩
theorem rpInn : rpE.Inn Tryz.prog 33 := El.inn_of (z := .agg #[.int .i64 0, .int .i64 0, .int .i64 0, .int .i64 0, .int .i64 0, .int .i64 0, .int .i64 0, .int .i64 0, .int .i64 0]) (bytes := 72) Tryz.underlying33 (by kernel_rfl) rfl (by decide)
theorem rpIn9 {w : World} {b : Nat} {r : Rp} (h : rpE.In w b r) : w.cell? ⟨b, 0, none⟩ = some (.int .i64 r.d) ∧ w.cell? ⟨b, 1, none⟩ = some (.int .i64 r.i) ∧ w.cell? ⟨b, 2, none⟩ = some (.int .i64 r.b) ∧ w.cell? ⟨b, 3, none⟩ = some (.int .i64 r.t) ∧ w.cell? ⟨b, 4, none⟩ = some (.int .i64 r.m) ∧ w.cell? ⟨b, 5, none⟩ = some (.int .i64 r.p) ∧ w.cell? ⟨b, 6, none⟩ = some (.int .i64 r.c) ∧ w.cell? ⟨b, 7, none⟩ = some (.int .i64 r.s) ∧ w.cell? ⟨b, 8, none⟩ = some (.int .i64 r.k) :=
  ⟨h.cell 0, h.cell 1, h.cell 2, h.cell 3, h.cell 4, h.cell 5, h.cell 6, h.cell 7, h.cell 8⟩
theorem rpAt9 {w : World} {b o : Nat} {r : Rp} (h : rpE.At w b o r) : w.cell? ⟨b, o, none⟩ = some (.int .i64 r.d) ∧ w.cell? ⟨b, o + 1, none⟩ = some (.int .i64 r.i) ∧ w.cell? ⟨b, o + 2, none⟩ = some (.int .i64 r.b) ∧ w.cell? ⟨b, o + 3, none⟩ = some (.int .i64 r.t) ∧ w.cell? ⟨b, o + 4, none⟩ = some (.int .i64 r.m) ∧ w.cell? ⟨b, o + 5, none⟩ = some (.int .i64 r.p) ∧ w.cell? ⟨b, o + 6, none⟩ = some (.int .i64 r.c) ∧ w.cell? ⟨b, o + 7, none⟩ = some (.int .i64 r.s) ∧ w.cell? ⟨b, o + 8, none⟩ = some (.int .i64 r.k) :=
  ⟨h 0 _ rfl, h 1 _ rfl, h 2 _ rfl, h 3 _ rfl, h 4 _ rfl, h 5 _ rfl, h 6 _ rfl, h 7 _ rfl, h 8 _ rfl⟩
theorem rpIdxH {A : Option Addr} {b off len cap k : Nat} (hA : A = some ⟨b, off, none⟩) (h : k < len) : ∀ w, (Instr.indexAt 33 (.slice A len cap) (.int .i64 k)).run Tryz.prog w = .ok (.pointer (some ⟨b, off + k * 9, none⟩)) w := fun w => by
  subst hA
  have h2 : (k : Int) < (len : Int) := by omega
  go_simp
def RpW (r : Rp) : Prop := ∀ n ∈ rpL r, i64 n
def rpStep (s : ByteArray) (p : Nat) (bad : Bool) (x : Rp) (q : Nat) (bad' : Bool) : Prop := (isRp s p bad = some (x, q) ∧ bad' = false) ∨ (isRp s p bad = none ∧ x = zeroRp ∧ bad' = true)
def rp7 (r : Rp) : List Int := [r.i, r.b, r.t, r.p, r.c, r.s, r.k]
def headB (r : Rp) : Bool := decide (0 ≤ r.d ∧ r.d < 12 ∧ 1 ≤ r.i ∧ (r.m = 1 ∨ r.m = 2))
theorem rpB_eq (r : Rp) : rpB r = (headB r && (rp7 r).all cnt0) := by
  unfold rpB headB rp7
  simp [List.all_cons]
theorem rpB_out {r : Rp} {k : Nat} (h : k < 7) (hn : cnt0 ((rp7 r).getD k 0) = false) : rpB r = false := by
  rw [rpB_eq]
  have h1 : (rp7 r).all cnt0 = false := by
    rw [Bool.eq_false_iff]; intro ha
    rw [List.all_eq_true] at ha
    have := ha ((rp7 r).getD k 0) (by
      rw [List.getD_eq_getElem?_getD, List.getElem?_eq_getElem (by simpa [rp7] using h)]
      exact List.getElem_mem _)
    rw [hn] at this; cases this
  rw [h1, Bool.and_false]
theorem rpB_in {r : Rp} (h : ∀ k, k < 7 → cnt0 ((rp7 r).getD k 0) = true) : rpB r = headB r := by
  rw [rpB_eq]
  have h1 : (rp7 r).all cnt0 = true := by
    rw [List.all_eq_true]
    intro n hn
    obtain ⟨k, hk, rfl⟩ := List.getElem_of_mem hn
    have h2 : k < 7 := by simpa [rp7] using hk
    have := h k h2
    rw [List.getD_eq_getElem?_getD, List.getElem?_eq_getElem hk] at this
    exact this
  rw [h1, Bool.and_true]
end Go.Proofs.YtfpgfclmmdihjaaGreat

/- The document's Right, Print, Same of reports. -/
namespace Go.Proofs.YtfpgfclmmdihjaaGreat
open Go.RowKit Cod

def rpEq (a b : Rp) : Bool := decide (a.d = b.d ∧ a.i = b.i ∧ a.b = b.b ∧ a.t = b.t ∧ a.m = b.m ∧ a.p = b.p ∧ a.c = b.c ∧ a.s = b.s ∧ a.k = b.k)
theorem rpEq_iff {a b : Rp} : rpEq a b = true ↔ a = b := by
  unfold rpEq
  rw [decide_eq_true_iff]
  obtain ⟨_, _, _, _, _, _, _, _, _⟩ := a
  obtain ⟨_, _, _, _, _, _, _, _, _⟩ := b
  simp
set_option maxRecDepth 100000 in
set_option maxHeartbeats 4000000 in
theorem run_eqRp (a b : Rp) (w : World) : (Op.equalIn 10000 24 (.agg #[.int .i64 a.d, .int .i64 a.i, .int .i64 a.b, .int .i64 a.t, .int .i64 a.m, .int .i64 a.p, .int .i64 a.c, .int .i64 a.s, .int .i64 a.k]) (.agg #[.int .i64 b.d, .int .i64 b.i, .int .i64 b.b, .int .i64 b.t, .int .i64 b.m, .int .i64 b.p, .int .i64 b.c, .int .i64 b.s, .int .i64 b.k])).run Tryz.prog w = .ok (rpEq a b) w := by
  obtain ⟨a1, a2, a3, a4, a5, a6, a7, a8, a9⟩ := a
  obtain ⟨b1, b2, b3, b4, b5, b6, b7, b8, b9⟩ := b
  dsimp only
  by_cases h : a1 = b1 ∧ a2 = b2 ∧ a3 = b3 ∧ a4 = b4 ∧ a5 = b5 ∧ a6 = b6 ∧ a7 = b7 ∧ a8 = b8 ∧ a9 = b9
  · have hm : rpEq ⟨a1, a2, a3, a4, a5, a6, a7, a8, a9⟩ ⟨b1, b2, b3, b4, b5, b6, b7, b8, b9⟩ = true := decide_eq_true h
    rw [hm]
    obtain ⟨rfl, rfl, rfl, rfl, rfl, rfl, rfl, rfl, rfl⟩ := h
    clear hm
    go_simp
  · have hm : rpEq ⟨a1, a2, a3, a4, a5, a6, a7, a8, a9⟩ ⟨b1, b2, b3, b4, b5, b6, b7, b8, b9⟩ = false := decide_eq_false h
    rw [hm]
    clear hm
    go_simp
    exact fun h1 h2 h3 h4 h5 h6 h7 h8 h9 => h ⟨h1, h2, h3, h4, h5, h6, h7, h8, h9⟩

theorem rp9_i64 {r : Rp} (h : RpW r) {k : Nat} (hk : k < 9) : i64 ((rpL r).getD k 0) := by
  rw [List.getD_eq_getElem?_getD, List.getElem?_eq_getElem (by simpa [rpL] using hk)]
  exact h _ (List.getElem_mem _)
theorem rp9_next (r : Rp) {k : Nat} (hk : k < 9) : catN ((rpL r).take (k + 1)) = catN ((rpL r).take k) ++ bytesOf ((rpL r).getD k 0) := by
  have hl : k < (rpL r).length := by simpa [rpL] using hk
  rw [catN_next _ k hl, List.getD_eq_getElem?_getD, List.getElem?_eq_getElem hl]; rfl
end Go.Proofs.YtfpgfclmmdihjaaGreat

/- Entries and counts in memory; what the program's functions shall answer (EntryCalls: proved for the real program in a text of its own); the document's Right and Print. -/
namespace Go.Proofs.YtfpgfclmmdihjaaGreat
open Go.RowKit Nam Cod

def enE : El En where
  e := 168
  k := 10
  c x := [.int .i64 x.k, .int .i64 x.d, .int .i64 x.i, .int .i64 x.o.C, .int .i64 x.o.D, .int .i64 x.o.I, .int .i64 x.o.M, .int .i64 x.o.K, .int .i64 x.o.U, .string x.o.s]
  len _ := rfl
  one p u h := by
    simp only [List.mem_cons, List.not_mem_nil, or_false] at h
    rcases h with rfl | rfl | rfl | rfl | rfl | rfl | rfl | rfl | rfl | rfl <;> rfl
  pos := by decide
def cnE : El Cn where
  e := 55
  k := 3
  c x := [.int .i64 x.d, .int .i64 x.i, .int .i64 x.n]
  len _ := rfl
  one p u h := by
    simp only [List.mem_cons, List.not_mem_nil, or_false] at h
    rcases h with rfl | rfl | rfl <;> rfl
  pos := by decide
theorem enRow : enE.Row Tryz.prog := ⟨by kernel_rfl, _, Tryz.underlying168, rfl⟩
theorem cnRow : cnE.Row Tryz.prog := ⟨by kernel_rfl, _, Tryz.underlying55, rfl⟩
theorem enInn : enE.Inn Tryz.prog 26 := El.inn_of (z := .agg #[.int .i64 0, .int .i64 0, .int .i64 0, .int .i64 0, .int .i64 0, .int .i64 0, .int .i64 0, .int .i64 0, .int .i64 0, .string ⟨#[]⟩]) (bytes := 88) Tryz.underlying26 (by kernel_rfl) rfl (by decide)
theorem cnInn : cnE.Inn Tryz.prog 40 := El.inn_of (z := .agg #[.int .i64 0, .int .i64 0, .int .i64 0]) (bytes := 24) Tryz.underlying40 (by kernel_rfl) rfl (by decide)
theorem enIn10 {w : World} {b : Nat} {x : En} (h : enE.In w b x) : w.cell? ⟨b, 0, none⟩ = some (.int .i64 x.k) ∧ w.cell? ⟨b, 1, none⟩ = some (.int .i64 x.d) ∧ w.cell? ⟨b, 2, none⟩ = some (.int .i64 x.i) ∧ w.cell? ⟨b, 3, none⟩ = some (.int .i64 x.o.C) ∧ w.cell? ⟨b, 4, none⟩ = some (.int .i64 x.o.D) ∧ w.cell? ⟨b, 5, none⟩ = some (.int .i64 x.o.I) ∧ w.cell? ⟨b, 6, none⟩ = some (.int .i64 x.o.M) ∧ w.cell? ⟨b, 7, none⟩ = some (.int .i64 x.o.K) ∧ w.cell? ⟨b, 8, none⟩ = some (.int .i64 x.o.U) ∧ w.cell? ⟨b, 9, none⟩ = some (.string x.o.s) :=
  ⟨h.cell 0, h.cell 1, h.cell 2, h.cell 3, h.cell 4, h.cell 5, h.cell 6, h.cell 7, h.cell 8, h.cell 9⟩
theorem cnAt3 {w : World} {b o : Nat} {x : Cn} (h : cnE.At w b o x) : w.cell? ⟨b, o, none⟩ = some (.int .i64 x.d) ∧ w.cell? ⟨b, o + 1, none⟩ = some (.int .i64 x.i) ∧ w.cell? ⟨b, o + 2, none⟩ = some (.int .i64 x.n) :=
  ⟨h 0 _ rfl, h 1 _ rfl, h 2 _ rfl⟩
theorem cnIn3 {w : World} {b : Nat} {x : Cn} (h : cnE.In w b x) : w.cell? ⟨b, 0, none⟩ = some (.int .i64 x.d) ∧ w.cell? ⟨b, 1, none⟩ = some (.int .i64 x.i) ∧ w.cell? ⟨b, 2, none⟩ = some (.int .i64 x.n) :=
  ⟨h.cell 0, h.cell 1, h.cell 2⟩
/-- An entry's numbers fit. -/
structure EnW (e : En) : Prop where
  k : i64 e.k
  d : i64 e.d
  i : i64 e.i
  o : Wide e.o.C e.o.D e.o.I e.o.M e.o.K e.o.U
def entStep (s : ByteArray) (p : Nat) (bad : Bool) (x : En) (q : Nat) (bad' : Bool) : Prop := (isEnt s p bad = some (x, q) ∧ bad' = false) ∨ (isEnt s p bad = none ∧ x = zeroEn ∧ bad' = true)
theorem opRef_mv (m : Mv) (w : World) (hs : m.s.size ≤ 9223372036854775807) :
    Calls Tryz.prog 69 #[.agg #[.int .i64 m.C, .int .i64 m.D, .int .i64 m.I, .int .i64 m.M, .int .i64 m.K, .int .i64 m.U, .string m.s]] w fun e w' => e = .returned (.bool (okB m)) ∧ Below w.heap.size w w' := opRefRight_any m.C m.D m.I m.M m.K m.U m.s w hs
theorem toList_iff {a b : ByteArray} : a.toList = b.toList ↔ a = b := ⟨fun h => by
  by_cases e : a = b
  · exact e
  · exact absurd h (ne_list e), fun h => by rw [h]⟩
/-- Are these two operations, entries, counts the same? -/
def mvEq (C D I M K U : Int) (s : ByteArray) (C' D' I' M' K' U' : Int) (s' : ByteArray) : Bool := decide (C = C' ∧ D = D' ∧ I = I' ∧ M = M' ∧ K = K' ∧ U = U' ∧ s = s')
def enEq (k d i C D I M K U : Int) (s : ByteArray) (k' d' i' C' D' I' M' K' U' : Int) (s' : ByteArray) : Bool := decide (k = k' ∧ d = d' ∧ i = i' ∧ C = C' ∧ D = D' ∧ I = I' ∧ M = M' ∧ K = K' ∧ U = U' ∧ s = s')
def cnEq (d i n d' i' n' : Int) : Bool := decide (d = d' ∧ i = i' ∧ n = n')
theorem mvEq_iff {x y : Mv} : mvEq x.C x.D x.I x.M x.K x.U x.s y.C y.D y.I y.M y.K y.U y.s = true ↔ x = y := by
  unfold mvEq
  rw [decide_eq_true_iff]
  obtain ⟨C, D, I, M, K, U, s⟩ := x
  obtain ⟨C', D', I', M', K', U', s'⟩ := y
  simp
theorem enEq_iff {x y : En} : enEq x.k x.d x.i x.o.C x.o.D x.o.I x.o.M x.o.K x.o.U x.o.s y.k y.d y.i y.o.C y.o.D y.o.I y.o.M y.o.K y.o.U y.o.s = true ↔ x = y := by
  unfold enEq
  rw [decide_eq_true_iff]
  obtain ⟨k, d, i, C, D, I, M, K, U, s⟩ := x
  obtain ⟨k', d', i', C', D', I', M', K', U', s'⟩ := y
  simp
theorem cnEq_iff {x y : Cn} : cnEq x.d x.i x.n y.d y.i y.n = true ↔ x = y := by
  unfold cnEq
  rw [decide_eq_true_iff]
  obtain ⟨d, i, n⟩ := x
  obtain ⟨d', i', n'⟩ := y
  simp
set_option maxRecDepth 100000 in
set_option maxHeartbeats 4000000 in
theorem run_eqMv (w : World) (C D I M K U C' D' I' M' K' U' : Int) (s s' : ByteArray) : (Op.equalIn 10000 102 (.agg #[.int .i64 C, .int .i64 D, .int .i64 I, .int .i64 M, .int .i64 K, .int .i64 U, .string s]) (.agg #[.int .i64 C', .int .i64 D', .int .i64 I', .int .i64 M', .int .i64 K', .int .i64 U', .string s'])).run Tryz.prog w = .ok (mvEq C D I M K U s C' D' I' M' K' U' s') w := by
  by_cases h : C = C' ∧ D = D' ∧ I = I' ∧ M = M' ∧ K = K' ∧ U = U' ∧ s = s'
  · have hm : mvEq C D I M K U s C' D' I' M' K' U' s' = true := decide_eq_true h
    rw [hm]
    obtain ⟨rfl, rfl, rfl, rfl, rfl, rfl, rfl⟩ := h
    clear hm
    go_simp
  · have hm : mvEq C D I M K U s C' D' I' M' K' U' s' = false := decide_eq_false h
    rw [hm]
    clear hm
    go_simp
    exact fun h1 h2 h3 h4 h5 h6 h7 => h ⟨h1, h2, h3, h4, h5, h6, toList_iff.1 h7⟩
set_option maxRecDepth 100000 in
set_option maxHeartbeats 4000000 in
theorem run_eqEn (w : World) (k d i C D I M K U k' d' i' C' D' I' M' K' U' : Int) (s s' : ByteArray) : (Op.equalIn 10000 168 (.agg #[.int .i64 k, .int .i64 d, .int .i64 i, .int .i64 C, .int .i64 D, .int .i64 I, .int .i64 M, .int .i64 K, .int .i64 U, .string s]) (.agg #[.int .i64 k', .int .i64 d', .int .i64 i', .int .i64 C', .int .i64 D', .int .i64 I', .int .i64 M', .int .i64 K', .int .i64 U', .string s'])).run Tryz.prog w = .ok (enEq k d i C D I M K U s k' d' i' C' D' I' M' K' U' s') w := by
  by_cases h : k = k' ∧ d = d' ∧ i = i' ∧ C = C' ∧ D = D' ∧ I = I' ∧ M = M' ∧ K = K' ∧ U = U' ∧ s = s'
  · have hm : enEq k d i C D I M K U s k' d' i' C' D' I' M' K' U' s' = true := decide_eq_true h
    rw [hm]
    obtain ⟨rfl, rfl, rfl, rfl, rfl, rfl, rfl, rfl, rfl, rfl⟩ := h
    clear hm
    go_simp
  · have hm : enEq k d i C D I M K U s k' d' i' C' D' I' M' K' U' s' = false := decide_eq_false h
    rw [hm]
    clear hm
    go_simp
    exact fun g1 g2 g3 h1 h2 h3 h4 h5 h6 h7 => h ⟨g1, g2, g3, h1, h2, h3, h4, h5, h6, toList_iff.1 h7⟩
theorem run_eqCn (w : World) (d i n d' i' n' : Int) : (Op.equalIn 10000 55 (.agg #[.int .i64 d, .int .i64 i, .int .i64 n]) (.agg #[.int .i64 d', .int .i64 i', .int .i64 n'])).run Tryz.prog w = .ok (cnEq d i n d' i' n') w := by
  by_cases h : d = d' ∧ i = i' ∧ n = n'
  · have hm : cnEq d i n d' i' n' = true := decide_eq_true h
    rw [hm]
    obtain ⟨rfl, rfl, rfl⟩ := h
    clear hm
    go_simp
  · have hm : cnEq d i n d' i' n' = false := decide_eq_false h
    rw [hm]
    clear hm
    go_simp
    exact fun h1 h2 h3 => h ⟨h1, h2, h3⟩

theorem bytesOf_le10 {n : Int} (h : i64 n) : (bytesOf n).size ≤ 10 := by rw [bytesOf_size]; exact enc_ten _ (fold_lt n h.1 h.2)
theorem mvBytes_le {o : Mv} (h : Wide o.C o.D o.I o.M o.K o.U) (hs : o.s.size ≤ 1000000) : o.bytes.size ≤ 1000070 := by
  obtain ⟨h1, h2, h3, h4, h5, h6⟩ := h
  have g1 := bytesOf_le10 (n := o.C) ⟨h1.1, h1.2⟩
  have g2 := bytesOf_le10 (n := o.D) ⟨h2.1, h2.2⟩
  have g3 := bytesOf_le10 (n := o.I) ⟨h3.1, h3.2⟩
  have g4 := bytesOf_le10 (n := o.M) ⟨h4.1, h4.2⟩
  have g5 := bytesOf_le10 (n := o.K) ⟨h5.1, h5.2⟩
  have g6 := bytesOf_le10 (n := o.U) ⟨h6.1, h6.2⟩
  have g7 := text_le o.s hs
  unfold Mv.bytes printOf
  simp only [ByteArray.size_append]
  omega
end Go.Proofs.YtfpgfclmmdihjaaGreat

/- Gifts and frames in memory; what the program's functions shall answer (FrameCalls); the document's Same of lists, RightGift, PrintGift. -/
namespace Go.Proofs.YtfpgfclmmdihjaaGreat
open Go.RowKit Nam Cod

def gfE : El Gf where
  e := 47
  k := 5
  c g := [.int .i64 g.d, .int .i64 g.i, .int .i64 g.c, .int .i64 g.t, .string g.s]
  len _ := rfl
  one p u h := by
    simp only [List.mem_cons, List.not_mem_nil, or_false] at h
    rcases h with rfl | rfl | rfl | rfl | rfl <;> rfl
  pos := by decide
theorem gfRow : gfE.Row Tryz.prog := ⟨by kernel_rfl, _, Tryz.underlying47, rfl⟩
theorem gfInn : gfE.Inn Tryz.prog 34 := El.inn_of (z := .agg #[.int .i64 0, .int .i64 0, .int .i64 0, .int .i64 0, .string ⟨#[]⟩]) (bytes := 48) Tryz.underlying34 (by kernel_rfl) rfl (by decide)
theorem gfIn5 {w : World} {b : Nat} {g : Gf} (h : gfE.In w b g) : w.cell? ⟨b, 0, none⟩ = some (.int .i64 g.d) ∧ w.cell? ⟨b, 1, none⟩ = some (.int .i64 g.i) ∧ w.cell? ⟨b, 2, none⟩ = some (.int .i64 g.c) ∧ w.cell? ⟨b, 3, none⟩ = some (.int .i64 g.t) ∧ w.cell? ⟨b, 4, none⟩ = some (.string g.s) := ⟨h.cell 0, h.cell 1, h.cell 2, h.cell 3, h.cell 4⟩
theorem gfAt5 {w : World} {b o : Nat} {g : Gf} (h : gfE.At w b o g) : w.cell? ⟨b, o, none⟩ = some (.int .i64 g.d) ∧ w.cell? ⟨b, o + 1, none⟩ = some (.int .i64 g.i) ∧ w.cell? ⟨b, o + 2, none⟩ = some (.int .i64 g.c) ∧ w.cell? ⟨b, o + 3, none⟩ = some (.int .i64 g.t) ∧ w.cell? ⟨b, o + 4, none⟩ = some (.string g.s) := ⟨h 0 _ rfl, h 1 _ rfl, h 2 _ rfl, h 3 _ rfl, h 4 _ rfl⟩
theorem gfIdxH {A : Option Addr} {b off len cap k : Nat} (hA : A = some ⟨b, off, none⟩) (h : k < len) : ∀ w, (Instr.indexAt 34 (.slice A len cap) (.int .i64 k)).run Tryz.prog w = .ok (.pointer (some ⟨b, off + k * 5, none⟩)) w := fun w => by
  subst hA
  have h2 : (k : Int) < (len : Int) := by omega
  go_simp
structure Fw where
  oA : Option Addr
  oc : Nat
  rA : Option Addr
  rc : Nat
  eA : Option Addr
  ec : Nat
  gA : Option Addr
  gc : Nat
  x : Fr
structure Fw.ok (y : Fw) (w : World) : Prop where
  o : SlV opE w y.oA y.oc y.x.os
  r : SlV rpE w y.rA y.rc y.x.rs
  e : SlV enE w y.eA y.ec y.x.es
  g : SlV gfE w y.gA y.gc y.x.gs
theorem Fw.ok.below {y : Fw} {W w : World} (h : y.ok W) (hb : Below W.heap.size W w) : y.ok w := ⟨SlV.below h.o hb, SlV.below h.r hb, SlV.below h.e hb, SlV.below h.g hb⟩
def zeroFw : Fw := ⟨none, 0, none, 0, none, 0, none, 0, zeroFr⟩
def GfW (g : Gf) : Prop := i64 g.d ∧ i64 g.i ∧ i64 g.c ∧ i64 g.t ∧ g.s.size ≤ 1000000
structure FrW (x : Fr) : Prop where
  n : ∀ n ∈ frL x, i64 n
  os : ∀ o ∈ x.os, Wide o.C o.D o.I o.M o.K o.U ∧ o.s.size ≤ 1000000
  rs : ∀ r ∈ x.rs, RpW r
  es : ∀ e ∈ x.es, EnW e ∧ e.o.s.size ≤ 1000000
  gs : ∀ g ∈ x.gs, GfW g
  l : x.os.length ≤ 300 ∧ x.rs.length ≤ 300 ∧ x.es.length ≤ 300 ∧ x.gs.length ≤ 300
  z : (bodyF x).size ≤ 1000000
def gfStep (s : ByteArray) (p : Nat) (bad : Bool) (x : Gf) (q : Nat) (bad' : Bool) : Prop := (isGf s p bad = some (x, q) ∧ bad' = false) ∨ (isGf s p bad = none ∧ x = zeroGf ∧ bad' = true)
def gfEq (a b : Gf) : Bool := decide (a.d = b.d ∧ a.i = b.i ∧ a.c = b.c ∧ a.t = b.t ∧ a.s = b.s)
theorem gfEq_iff {a b : Gf} : gfEq a b = true ↔ a = b := by
  unfold gfEq
  rw [decide_eq_true_iff]
  obtain ⟨_, _, _, _, _⟩ := a
  obtain ⟨_, _, _, _, _⟩ := b
  simp
set_option maxRecDepth 100000 in
set_option maxHeartbeats 4000000 in
theorem run_eqGf (a b : Gf) (w : World) : (Op.equalIn 10000 47 (.agg #[.int .i64 a.d, .int .i64 a.i, .int .i64 a.c, .int .i64 a.t, .string a.s]) (.agg #[.int .i64 b.d, .int .i64 b.i, .int .i64 b.c, .int .i64 b.t, .string b.s])).run Tryz.prog w = .ok (gfEq a b) w := by
  obtain ⟨a1, a2, a3, a4, a5⟩ := a
  obtain ⟨b1, b2, b3, b4, b5⟩ := b
  dsimp only
  by_cases h : a1 = b1 ∧ a2 = b2 ∧ a3 = b3 ∧ a4 = b4 ∧ a5 = b5
  · have hm : gfEq ⟨a1, a2, a3, a4, a5⟩ ⟨b1, b2, b3, b4, b5⟩ = true := decide_eq_true h
    rw [hm]
    obtain ⟨rfl, rfl, rfl, rfl, rfl⟩ := h
    clear hm
    go_simp
  · have hm : gfEq ⟨a1, a2, a3, a4, a5⟩ ⟨b1, b2, b3, b4, b5⟩ = false := decide_eq_false h
    rw [hm]
    clear hm
    go_simp
    exact fun h1 h2 h3 h4 h5 => h ⟨h1, h2, h3, h4, toList_iff.1 h5⟩

theorem enAtF {w : World} {b o : Nat} {x : En} (h : enE.At w b o x) : w.cell? ⟨b, o, none⟩ = some (.int .i64 x.k) ∧ w.cell? ⟨b, o + 1, none⟩ = some (.int .i64 x.d) ∧ w.cell? ⟨b, o + 2, none⟩ = some (.int .i64 x.i) ∧ w.cell? ⟨b, o + 3, none⟩ = some (.int .i64 x.o.C) ∧ w.cell? ⟨b, o + 4, none⟩ = some (.int .i64 x.o.D) ∧ w.cell? ⟨b, o + 5, none⟩ = some (.int .i64 x.o.I) ∧ w.cell? ⟨b, o + 6, none⟩ = some (.int .i64 x.o.M) ∧ w.cell? ⟨b, o + 7, none⟩ = some (.int .i64 x.o.K) ∧ w.cell? ⟨b, o + 8, none⟩ = some (.int .i64 x.o.U) ∧ w.cell? ⟨b, o + 9, none⟩ = some (.string x.o.s) := ⟨h 0 _ rfl, h 1 _ rfl, h 2 _ rfl, h 3 _ rfl, h 4 _ rfl, h 5 _ rfl, h 6 _ rfl, h 7 _ rfl, h 8 _ rfl, h 9 _ rfl⟩
def enEq2 (a b : En) : Bool := enEq a.k a.d a.i a.o.C a.o.D a.o.I a.o.M a.o.K a.o.U a.o.s b.k b.d b.i b.o.C b.o.D b.o.I b.o.M b.o.K b.o.U b.o.s
theorem enEq2_iff {a b : En} : enEq2 a b = true ↔ a = b := enEq_iff
theorem run_eqEn2 (a b : En) (w : World) : (Op.equalIn 10000 168 (.agg #[.int .i64 a.k, .int .i64 a.d, .int .i64 a.i, .int .i64 a.o.C, .int .i64 a.o.D, .int .i64 a.o.I, .int .i64 a.o.M, .int .i64 a.o.K, .int .i64 a.o.U, .string a.o.s]) (.agg #[.int .i64 b.k, .int .i64 b.d, .int .i64 b.i, .int .i64 b.o.C, .int .i64 b.o.D, .int .i64 b.o.I, .int .i64 b.o.M, .int .i64 b.o.K, .int .i64 b.o.U, .string b.o.s])).run Tryz.prog w = .ok (enEq2 a b) w := run_eqEn w _ _ _ _ _ _ _ _ _ _ _ _ _ _ _ _ _ _ _ _
end Go.Proofs.YtfpgfclmmdihjaaGreat

/- Gifts and states in memory; what the program's functions shall answer (GiftCalls); the document's Newer, Wanted. -/
namespace Go.Proofs.YtfpgfclmmdihjaaGreat
open Go.RowKit Nam Cod Tre Pst

/-- A state as Thaw makes it: all but its stream's place, its clock, its past and its counts is zero. -/
structure Sw where
  pos : Int
  clock : Int
  y : Pw
  cA : Option Addr
  cc : Nat
  l : List Cn
def Sw.v (x : Sw) : Sn := ⟨x.pos, x.clock, x.y.v, x.l⟩
def Sw.zero : Sw := ⟨0, 0, Pw.zero, none, 0, []⟩
def stE : El Sw where
  e := 43
  k := 26
  c x := [.int .i64 0, .int .i64 0, .int .i64 0, .int .i64 x.pos, .int .i64 x.y.t, .int .i64 x.pos, .slice none 0 0, .int .i64 0, .int .i64 0, .slice none 0 0, .slice none 0 0, .slice none 0 0, .slice none 0 0, .slice none 0 0, .slice x.y.bA x.y.base.length x.y.bc, .int .i64 x.y.t, .slice x.y.oA x.y.ops.length x.y.oc, .slice x.y.uA x.y.us.length x.y.uc, .slice x.y.wA x.y.now.length x.y.wc, .slice x.cA x.l.length x.cc, .int .i64 0, .int .i64 0, .int .i64 x.clock, .int .i64 0, .slice none 0 0, .int .i64 0]
  len _ := rfl
  one p u h := by
    simp only [List.mem_cons, List.not_mem_nil, or_false] at h
    rcases h with rfl | rfl | rfl | rfl | rfl | rfl | rfl | rfl | rfl | rfl | rfl | rfl | rfl | rfl | rfl | rfl | rfl | rfl | rfl | rfl | rfl | rfl | rfl | rfl | rfl | rfl <;> rfl
  pos := by decide
theorem stRow : stE.Row Tryz.prog := ⟨by kernel_rfl, _, Tryz.underlying43, rfl⟩
structure Sw.ok (x : Sw) (w : World) : Prop where
  p : PastOk w x.y
  c : SlV cnE w x.cA x.cc x.l
theorem Sw.ok.below {x : Sw} {W w : World} (h : x.ok W) (hb : Below W.heap.size W w) : x.ok w := ⟨h.p.below hb, SlV.below h.c hb⟩
theorem Sw.ok.zero (w : World) : Sw.zero.ok w := ⟨PastOk.zero w, SlV.nil _ _⟩
def CnW (c : Cn) : Prop := i64 c.d ∧ i64 c.i ∧ i64 c.n
def cnsStep (s : ByteArray) (p : Nat) (bad : Bool) (l : List Cn) (q : Nat) (bad' : Bool) : Prop := (isCns s p bad = some (l, q) ∧ bad' = false) ∨ (isCns s p bad = none ∧ l = [] ∧ bad' = true)
structure GiftCalls : Prop where
  freeze : ∀ (pos clock : Int) (y : Pw) (A : Option Addr) (c : Nat) (l : List Cn) (w : World), i64 pos → i64 clock → PInv y.v → y.ops.length ≤ 60 → PastOk w y → l.length ≤ 1000 → (∀ c ∈ l, CnW c) → SlV cnE w A c l → Calls Tryz.prog 12 #[.int .i64 pos, .int .i64 clock, .agg #[.slice y.bA y.base.length y.bc, .int .i64 y.t, .slice y.oA y.ops.length y.oc, .slice y.uA y.us.length y.uc, .slice y.wA y.now.length y.wc], .slice A l.length c] w fun e w' => e = .returned (.string (snBytes ⟨pos, clock, y.v, l⟩)) ∧ Below w.heap.size w w'
  counts : ∀ (w : World) (b p : Nat) (s : ByteArray) (bad : Bool), s.size ≤ 1000000 → p ≤ s.size → Rd 60 w b s p bad → Calls Tryz.prog 17 #[.pointer (some ⟨b, 0, none⟩)] w fun e w' => ∃ (A : Option Addr) (c : Nat) (l : List Cn) (q : Nat) (bad' : Bool), e = .returned (.slice A l.length c) ∧ SlV cnE w' A c l ∧ Rd 60 w' b s q bad' ∧ q ≤ s.size ∧ w.grownBy w' (some b) ∧ cnsStep s p bad l q bad'
  thaw : ∀ (s : ByteArray) (w : World), s.size ≤ 1000000 → (∀ V q, isSnapP s = some (V, q) → V.ops.length ≤ 800) → Calls Tryz.prog 5 #[.string s] w fun e w' => ∃ (x : Sw) (b : Bool), e = .returned (.tuple #[.agg #[.int .i64 0, .int .i64 0, .int .i64 0, .int .i64 x.pos, .int .i64 x.y.t, .int .i64 x.pos, .slice none 0 0, .int .i64 0, .int .i64 0, .slice none 0 0, .slice none 0 0, .slice none 0 0, .slice none 0 0, .slice none 0 0, .slice x.y.bA x.y.base.length x.y.bc, .int .i64 x.y.t, .slice x.y.oA x.y.ops.length x.y.oc, .slice x.y.uA x.y.us.length x.y.uc, .slice x.y.wA x.y.now.length x.y.wc, .slice x.cA x.l.length x.cc, .int .i64 0, .int .i64 0, .int .i64 x.clock, .int .i64 0, .slice none 0 0, .int .i64 0], .bool b]) ∧ x.ok w' ∧ Below w.heap.size w w' ∧ ((isSnap s = some x.v ∧ b = true) ∨ (isSnap s = none ∧ x = Sw.zero ∧ b = false))
  chunks : ∀ (s : ByteArray) (z : Int) (w : World), s.size ≤ 1000000 → i64 z → z ≤ 1099511627776 → Calls Tryz.prog 10 #[.string s, .int .i64 z] w fun e w' => e = .returned (.int .i64 (chunksV s.size z)) ∧ Below w.heap.size w w'
  cut : ∀ (s : ByteArray) (z i : Int) (r : Rp) (w : World), s.size ≤ 1000000 → i64 z → z ≤ 1099511627776 → i64 i → Calls Tryz.prog 7 #[.string s, .int .i64 z, .int .i64 i, .agg #[.int .i64 r.d, .int .i64 r.i, .int .i64 r.b, .int .i64 r.t, .int .i64 r.m, .int .i64 r.p, .int .i64 r.c, .int .i64 r.s, .int .i64 r.k]] w fun e w' => ∃ (g : Gf) (b : Bool), cutV s z i r = (g, b) ∧ e = .returned (.tuple #[.agg #[.int .i64 g.d, .int .i64 g.i, .int .i64 g.c, .int .i64 g.t, .string g.s], .bool b]) ∧ Below w.heap.size w w'
  newer : ∀ (a b : Gf) (w : World), Calls Tryz.prog 32 #[.agg #[.int .i64 a.d, .int .i64 a.i, .int .i64 a.c, .int .i64 a.t, .string a.s], .agg #[.int .i64 b.d, .int .i64 b.i, .int .i64 b.c, .int .i64 b.t, .string b.s]] w fun e w' => e = .returned (.bool (newG a b)) ∧ Below w.heap.size w w'
  merge : ∀ (A : Option Addr) (c : Nat) (l : List Gf) (g : Gf) (w : World), l.length ≤ 1000 → SlV gfE w A c l → Calls Tryz.prog 13 #[.slice A l.length c, .agg #[.int .i64 g.d, .int .i64 g.i, .int .i64 g.c, .int .i64 g.t, .string g.s]] w fun e w' => ∃ (A' : Option Addr) (c' : Nat), e = .returned (.slice A' (mergeG l g).length c') ∧ SlV gfE w' A' c' (mergeG l g) ∧ Below w.heap.size w w'
  wanted : ∀ (g : Gf) (A : Option Addr) (c : Nat) (l : List Rp) (w : World), l.length ≤ 1000 → SlV rpE w A c l → Calls Tryz.prog 14 #[.agg #[.int .i64 g.d, .int .i64 g.i, .int .i64 g.c, .int .i64 g.t, .string g.s], .slice A l.length c] w fun e w' => e = .returned (.bool (wantedG g l)) ∧ Below w.heap.size w w'

/-- The parts of outG, each as the walk tells it. -/
theorem any_take {α : Type} (f : α → Bool) (l : List α) (k : Nat) (h : k < l.length) : (l.take (k + 1)).any f = ((l.take k).any f || f l[k]) := by
  rw [List.take_succ_eq_append_getElem h, List.any_append]; simp
end Go.Proofs.YtfpgfclmmdihjaaGreat

/- The document's ReadCounts. -/
namespace Go.Proofs.YtfpgfclmmdihjaaGreat
open Go.RowKit Nam Cod

theorem Kd.isL_take {α : Type} (K : Kd α) (s : ByteArray) (p j : Nat) : ∀ (d : Nat) (L : List α) (q : Nat), K.isL s (j + d) p = some (L, q) → ∃ qj, K.isL s j p = some (L.take j, qj)
  | 0, L, q, h => ⟨q, by have := (K.l_bytes _ _ _ _ _ h).1; rw [List.take_of_length_le (by omega)]; exact h⟩
  | d + 1, L, q, h => by
    rw [← Nat.add_assoc, K.isL_next] at h
    cases ha : K.isL s (j + d) p with
    | none => rw [ha] at h; cases h
    | some a =>
      obtain ⟨l, ql⟩ := a
      rw [ha, Option.bind_some] at h
      dsimp only at h
      cases he : K.is s ql false with
      | none => rw [he] at h; cases h
      | some e =>
        rw [he, Option.bind_some] at h
        injection h with h
        injection h with h1 h2
        obtain ⟨qj, hj⟩ := Kd.isL_take K s p j d l ql ha
        refine ⟨qj, ?_⟩
        rw [hj, ← h1, List.take_append_of_le_length (by have := (K.l_bytes _ _ _ _ _ ha).1; omega)]
/-- Behind some of n counts: they may be, or nothing is read in the end. -/
def cAt (s : ByteArray) (p : Nat) (bad : Bool) (n : Nat) (l : List Cn) (q : Nat) (bd : Bool) : Prop := (bd = false ∧ ∃ qc, isCount s p bad 12 = some ((n : Int), qc) ∧ cnK.isL s l.length qc = some (l, q) ∧ goodC l l.length) ∨ (bd = true ∧ isCns s p bad = none)
section
variable {s : ByteArray} {p : Nat} {bad : Bool} {n : Nat} {l : List Cn} {q : Nat}
theorem isCns_no (h : cnK.isPart 12 s p bad = none) : isCns s p bad = none := by unfold isCns; rw [h]; rfl
theorem cAt.start {bd : Bool} (h : cStepF 12 s p bad n q bd) : cAt s p bad n [] q bd := by
  rcases h with ⟨h, rfl⟩ | ⟨h, _, rfl⟩
  · exact Or.inl ⟨rfl, q, h, rfl, fun j hj => absurd hj (Nat.not_lt_zero _)⟩
  · refine Or.inr ⟨rfl, isCns_no ?_⟩
    unfold Kd.isPart; rw [h]; rfl
theorem goodC_app {l : List Cn} {x : Cn} (h : goodC l l.length) (h1 : cnB x = true) (h2 : 0 < l.length → (l.getD (l.length - 1) zeroCn).d < x.d) : goodC (l ++ [x]) (l ++ [x]).length := fun j hj _ => by
  by_cases e : j < l.length
  · have h3 := h j e e
    rw [List.getElem_append_left e]
    refine ⟨h3.1, fun h0 => ?_⟩
    have h4 := h3.2 h0
    rw [List.getD_eq_getElem?_getD, List.getElem?_eq_getElem (show j - 1 < l.length by omega)] at h4
    rw [List.getD_eq_getElem?_getD, List.getElem?_append_left (by omega), List.getElem?_eq_getElem (show j - 1 < l.length by omega)]
    exact h4
  · rw [List.length_append, List.length_singleton] at hj
    obtain rfl : j = l.length := by omega
    rw [List.getElem_append_right (Nat.le_refl _)]
    simp only [Nat.sub_self, List.getElem_cons_zero]
    refine ⟨h1, fun h0 => ?_⟩
    have h4 := h2 h0
    rw [List.getD_eq_getElem?_getD, List.getElem?_eq_getElem (show l.length - 1 < l.length by omega)] at h4
    rw [List.getD_eq_getElem?_getD, List.getElem?_append_left (by omega), List.getElem?_eq_getElem (show l.length - 1 < l.length by omega)]
    exact h4
theorem cAt.next {x : Cn} {q' : Nat} (h : cAt s p bad n l q false) (hx : isCn s q false = some (x, q')) (h1 : cnB x = true) (h2 : 0 < l.length → (l.getD (l.length - 1) zeroCn).d < x.d) : cAt s p bad n (l ++ [x]) q' false := by
  rcases h with ⟨_, qc, g1, g2, g3⟩ | ⟨h, _⟩
  · refine Or.inl ⟨rfl, qc, g1, ?_, goodC_app g3 h1 h2⟩
    rw [List.length_append, List.length_singleton, cnK.isL_next, g2, Option.bind_some]
    show (isCn s q false).bind _ = _
    rw [hx]; rfl
  · cases h
theorem cAt.lost (h : cAt s p bad n l q false) (hj : l.length < n) (hx : isCn s q false = none) : isCns s p bad = none := by
  rcases h with ⟨_, qc, g1, g2, g3⟩ | ⟨h, _⟩
  · refine isCns_no ?_
    have h4 : cnK.isL s (l.length + 1) qc = none := by rw [cnK.isL_next, g2, Option.bind_some]; show (isCn s q false).bind _ = _; rw [hx]; rfl
    have h5 := cnK.isL_none s qc (l.length + 1) h4 (n - (l.length + 1))
    rw [show l.length + 1 + (n - (l.length + 1)) = n by omega] at h5
    unfold Kd.isPart
    rw [g1, Option.bind_some]
    exact h5
  · cases h
theorem cAt.outside {x : Cn} {q' : Nat} (h : cAt s p bad n l q false) (hj : l.length < n) (hx : isCn s q false = some (x, q')) (hn : ¬ (cnB x = true ∧ (0 < l.length → (l.getD (l.length - 1) zeroCn).d < x.d))) : isCns s p bad = none := by
  rcases h with ⟨_, qc, g1, g2, g3⟩ | ⟨h, _⟩
  · unfold isCns
    cases hp : cnK.isPart 12 s p bad with
    | none => rfl
    | some a =>
      obtain ⟨L, qL⟩ := a
      rw [Option.bind_some, if_neg]
      intro hc
      have hc := cnsB_iff.1 hc
      dsimp only at hc
      unfold Kd.isPart at hp
      rw [g1, Option.bind_some] at hp
      dsimp only at hp
      have hLn := (cnK.l_bytes _ _ _ _ _ hp).1
      simp only [Int.toNat_natCast] at hp hLn
      obtain ⟨qj, h6⟩ := cnK.isL_take s qc (l.length + 1) (n - (l.length + 1)) L qL (by rw [show l.length + 1 + (n - (l.length + 1)) = n by omega]; exact hp)
      have h7 : cnK.isL s (l.length + 1) qc = some (l ++ [x], q') := by rw [cnK.isL_next, g2, Option.bind_some]; show (isCn s q false).bind _ = _; rw [hx]; rfl
      rw [h7] at h6
      injection h6 with h6
      injection h6 with h8 _
      have hk : l.length < L.length := by omega
      have e1 : L[l.length] = x := by
        have : (L.take (l.length + 1))[l.length]? = some x := by rw [← h8]; simp
        rw [List.getElem?_take_of_lt (by omega), List.getElem?_eq_getElem hk] at this
        exact Option.some.inj this
      have h9 := hc l.length hk hk
      rw [e1] at h9
      refine hn ⟨h9.1, fun h0 => ?_⟩
      have h10 := h9.2 h0
      have e2 : L.getD (l.length - 1) zeroCn = l.getD (l.length - 1) zeroCn := by
        have : (L.take (l.length + 1))[l.length - 1]? = l[l.length - 1]? := by rw [← h8, List.getElem?_append_left (by omega)]
        rw [List.getElem?_take_of_lt (by omega)] at this
        rw [List.getD_eq_getElem?_getD, List.getD_eq_getElem?_getD, this]
      rw [e2] at h10
      exact h10
  · cases h
theorem cAt.good (h : cAt s p bad n l q false) (hj : ¬ l.length < n) (hl : l.length ≤ n) : isCns s p bad = some (l, q) := by
  rcases h with ⟨_, qc, g1, g2, g3⟩ | ⟨h, _⟩
  · obtain rfl : l.length = n := by omega
    unfold isCns Kd.isPart
    rw [g1, Option.bind_some]
    dsimp only
    rw [Int.toNat_natCast, g2, Option.bind_some, if_pos (cnsB_iff.2 g3)]
  · cases h
theorem cAt.ill (h : cAt s p bad n l q true) : isCns s p bad = none := by
  rcases h with ⟨h, _⟩ | ⟨_, h⟩
  · cases h
  · exact h
end
theorem numStayP {s : ByteArray} {p : Nat} {v : Int} {q : Nat} {b : Bool} (h : numStep s p true v q b) : b = true := by
  rcases h with ⟨h, _⟩ | ⟨_, _, h⟩
  · rw [isNum_bad] at h; cases h
  · exact h
theorem cn_step {s : ByteArray} {p : Nat} {bad : Bool} {a b c : Int} {q1 q2 q3 : Nat} {b1 b2 b3 : Bool} (h1 : numStep s p bad a q1 b1) (h2 : numStep s q1 b1 b q2 b2) (h3 : numStep s q2 b2 c q3 b3) : (isCn s p bad = some (⟨a, b, c⟩, q3) ∧ b3 = false) ∨ (isCn s p bad = none ∧ b3 = true) := by
  have t2 : b1 = true → b2 = true := fun e => by subst e; exact numStayP h2
  have t3 : b2 = true → b3 = true := fun e => by subst e; exact numStayP h3
  rcases h1 with ⟨h1, rfl⟩ | ⟨h1, _, e1⟩
  · rcases h2 with ⟨h2, rfl⟩ | ⟨h2, _, e2⟩
    · rcases h3 with ⟨h3, rfl⟩ | ⟨h3, _, e3⟩
      · exact Or.inl ⟨by simp only [isCn, h1, h2, h3, Option.bind_some], rfl⟩
      · exact Or.inr ⟨by simp only [isCn, h1, h2, h3, Option.bind_some, Option.bind_none], e3⟩
    · exact Or.inr ⟨by simp only [isCn, h1, h2, Option.bind_some, Option.bind_none], t3 e2⟩
  · exact Or.inr ⟨by simp only [isCn, h1, Option.bind_none], t3 (t2 e1)⟩
theorem refCntP_m {w : World} {b p : Nat} {s : ByteArray} {bad : Bool} (most : Nat) (hs : s.size ≤ 1000000) (hp : p ≤ s.size) (hr : Rd 65 w b s p bad) :
    Calls Tryz.prog 44 #[.pointer (some ⟨b, 0, none⟩), .int .i64 most] w fun e w' => ∃ v q bad', e = .returned (.int .i64 (v : Nat)) ∧ v ≤ most ∧ Rd 65 w' b s q bad' ∧ q ≤ s.size ∧ w.grownBy w' (some b) ∧ cStepF most s p bad v q bad' := by
  rcases h : isCount s p bad most with _ | ⟨v, q⟩
  · exact (refCount_no hs hp hr h).mono fun e w' ⟨he, ⟨q, hq, hr'⟩, hg⟩ => ⟨0, q, true, he, by omega, hr', hq, hg, Or.inr ⟨h, rfl, rfl⟩⟩
  · obtain ⟨h1, h2, h3⟩ := isCount_some h
    obtain ⟨n, rfl⟩ : ∃ n : Nat, v = n := ⟨v.toNat, by omega⟩
    exact (refCount_yes hs hp hr h).mono fun e w' ⟨he, hr', hg⟩ => ⟨n, q, false, he, by omega, hr', (isNum_some h1).2.2.1, hg, Or.inl ⟨h, rfl⟩⟩
theorem by_ownP {a w w' : World} {b : Nat} {row : Option Nat} (h : a.grownBy w (some b)) (g : w.grownBy w' row) (hrow : ∀ k, row = some k → a.heap.size ≤ k) : a.grownBy w' (some b) :=
  ⟨g.os.trans h.os, g.tape.trans h.tape, g.output.trans h.output, Nat.le_trans h.size g.size, fun k hk hne =>
    (g.block k (Nat.lt_of_lt_of_le hk h.size) (fun e => by have := hrow k e.symm; omega)).trans (h.block k hk hne)⟩

theorem cAt.good_step {s : ByteArray} {p : Nat} {bad : Bool} {n : Nat} {l : List Cn} {q q3 : Nat} {x : Cn} {b3 : Bool} (h : cAt s p bad n l q false) (hj : l.length < n) (hst : (isCn s q false = some (x, q3) ∧ b3 = false) ∨ (isCn s q false = none ∧ b3 = true)) (h1 : cnB x = true) (h2 : 0 < l.length → (l.getD (l.length - 1) zeroCn).d < x.d) : cAt s p bad n (l ++ [x]) q3 b3 := by
  rcases hst with ⟨hx, rfl⟩ | ⟨hx, rfl⟩
  · exact h.next hx h1 h2
  · exact Or.inr ⟨rfl, h.lost hj hx⟩
theorem cAt.bad_step {s : ByteArray} {p : Nat} {bad : Bool} {n : Nat} {l : List Cn} {q q3 : Nat} {x : Cn} {b3 : Bool} (h : cAt s p bad n l q false) (hj : l.length < n) (hst : (isCn s q false = some (x, q3) ∧ b3 = false) ∨ (isCn s q false = none ∧ b3 = true)) (hn : ¬ (cnB x = true ∧ (0 < l.length → (l.getD (l.length - 1) zeroCn).d < x.d))) : cAt s p bad n (l ++ [x]) q3 true := by
  rcases hst with ⟨hx, _⟩ | ⟨hx, _⟩
  · exact Or.inr ⟨rfl, h.outside hj hx hn⟩
  · exact Or.inr ⟨rfl, h.lost hj hx⟩
def lenP : Value → Nat
  | .slice _ n _ => n
  | _ => 0
theorem own_lenP {α : Type} {E : El α} {w : World} {B : Nat} {v : Value} {l : List α} (h : E.Own w B v l) : lenP v = l.length := by
  obtain ⟨A, c, rfl, _⟩ := SlV.own h
  rfl
theorem cnIdxP {A : Option Addr} {b off len cap k : Nat} (hA : A = some ⟨b, off, none⟩) (h : k < len) : ∀ w, (Instr.indexAt 40 (.slice A len cap) (.int .i64 k)).run Tryz.prog w = .ok (.pointer (some ⟨b, off + k * 3, none⟩)) w := fun w => by
  subst hA
  have h2 : (k : Int) < (len : Int) := by omega
  go_simp

set_option maxRecDepth 100000 in
set_option maxHeartbeats 8000000 in
theorem refCounts_uni (w : World) (b p : Nat) (s : ByteArray) (bad : Bool) (hs : s.size ≤ 1000000) (hp : p ≤ s.size) (hr : Rd 65 w b s p bad) :
    Calls Tryz.prog 48 #[.pointer (some ⟨b, 0, none⟩)] w fun e w' => ∃ (A : Option Addr) (c : Nat) (l : List Cn) (q : Nat) (bd : Bool), e = .returned (.slice A l.length c) ∧ SlV cnE w' A c l ∧ Rd 65 w' b s q bd ∧ q ≤ s.size ∧ w.grownBy w' (some b) ∧ ((bd = false ∧ isCns s p bad = some (l, q)) ∨ (bd = true ∧ isCns s p bad = none)) := by
  have hbw := hr.lt
  have hG := by_below (Below.refl w.heap.size w) (some b)
  go_enter Tryz.func48, Tryz.ntmps48
  go_wp2_with fail
  refine (refCntP_m 12 hs hp hr).mono ?_
  rintro e w1 ⟨n, q0, b0, rfl, hnm, hR, hq0, hg, st⟩
  have HS := Lib.hid (cAt.start st)
  replace hG := by_trans hG hg
  have HNM := Lib.hid hnm
  clear hr hg st hnm
  go_wp2_with fail
  go_loopw [3, 5] (fun x y wr => ∃ (v : Value) (l : List Cn) (q : Nat) (bd : Bool), x = v ∧ y = .int .i64 (l.length : Nat) ∧ cnE.Own wr w.heap.size v l ∧ Hid (l.length ≤ n) ∧ Rd 65 wr b s q bd ∧ q ≤ s.size ∧ w.grownBy wr (some b) ∧ Hid (cAt s p bad n l q bd)) (fun x _ _ => n - lenP x)
  case atStart => exact ⟨_, [], q0, b0, rfl, rfl, El.Own.nil w1 w.heap.size, Lib.hid (Nat.zero_le _), hR, hq0, hG, HS⟩
  case round =>
    clear hR hG HS hq0
    obtain ⟨v, l, q, bd, rfl, rfl, hO, hl, hR, hq, hG, HS⟩ := hrel
    obtain ⟨A, c, rfl, hS⟩ := SlV.own hO
    obtain ⟨r0, r1, r2⟩ := hR.cells
    cases bd
    · by_cases hlt : l.length < n
      · have HLE := Lib.hid (show l.length + 1 ≤ 12 by have := HNM.out; omega)
        have f5 : decide ((l.length : Int) < (n : Int)) = true := decide_eq_true (by omega)
        have f6 : decide (l.length < n) = true := decide_eq_true hlt
        have HLT := Lib.hid hlt
        clear hS hlt
        go_wp2_with fail
        clear r0 r1 r2 f5 f6
        refine (refNum_uni hs hq hR).mono ?_
        rintro e w1 ⟨v1, q1, b1, rfl, hR, hq1, hg, st1⟩
        replace hO := hO.kept hg (Or.inr (fun e => by have := (hO.lt b e).1; omega))
        replace hG := by_trans hG hg
        clear hg
        go_wp2_with fail
        refine (refNum_uni hs hq1 hR).mono ?_
        rintro e w2 ⟨v2, q2, b2, rfl, hR, hq2, hg, st2⟩
        replace hO := hO.kept hg (Or.inr (fun e => by have := (hO.lt b e).1; omega))
        replace hG := by_trans hG hg
        clear hg
        go_wp2_with fail
        refine (refNum_uni hs hq2 hR).mono ?_
        rintro e w3 ⟨v3, q3, b3, rfl, hR, hq3, hg, st3⟩
        replace hO := hO.kept hg (Or.inr (fun e => by have := (hO.lt b e).1; omega))
        replace hG := by_trans hG hg
        have HST := Lib.hid (cn_step st1 st2 st3)
        clear hg st1 st2 st3
        have hX : cnE.In (w3.alloc (.cells #[.int .i64 v1, .int .i64 v2, .int .i64 v3] 55)) w3.heap.size ⟨v1, v2, v3⟩ := El.In.new (E := cnE) w3 ⟨v1, v2, v3⟩ _ rfl
        have hal := below_alloc (Below.refl w3.heap.size w3) (.cells #[.int .i64 v1, .int .i64 v2, .int .i64 v3] 55)
        have hnx : w3.heap.size ≠ b := by have := hG.size; omega
        replace hO := hO.below hal
        replace hR := hR.below hal
        replace hG := by_trans hG (by_below hal _)
        clear hal
        go_upto_region 7 with fail
        generalize w3.alloc (.cells #[.int .i64 v1, .int .i64 v2, .int .i64 v3] 55) = V at *
        generalize w3.heap.size = nx at *
        obtain ⟨x0, x1, x2⟩ := cnIn3 hX
        dsimp only at x0 x1 x2
        by_cases a0 : v1 < 0
        · have g0 : decide (v1 < 0) = true := decide_eq_true a0
          have HNR := Lib.hid (HS.out.bad_step HLT.out HST.out (fun h => by have h1 := of_decide_eq_true (show decide (0 ≤ v1 ∧ v1 < 12 ∧ 1 ≤ v2 ∧ 0 ≤ v3) = true from h.1); omega))
          clear HS HST
          go_quiet (fail)
          have hqb := below_drew (Below.refl V.heap.size V) nq
          replace hR := hR.drewN nq
          replace hO := hO.below hqb
          replace hX := hX.below hqb
          replace hG := by_trans hG (by_below hqb _)
          clear hqb x0 x1 x2
          generalize V.drewN nq = V1 at *
          have g := by_set (by_below (Below.refl V1.heap.size V1) (some b)) 2 (.bool true)
          obtain ⟨r0, r1, r2⟩ := hR.cells
          have rf := hR.frozen
          have hRb := hR.setBad
          replace hO := hO.kept g (Or.inr (fun e => by have := (hO.lt b e).1; omega))
          replace hX := hX.keep g (fun e => hnx (Option.some.inj e))
          replace hG := by_trans hG g
          clear hR g
          go_upto_region 9 with fail
          have hR := hRb
          clear hRb r0 r1 r2 rf
          generalize V1.setCell ⟨b, 2, none⟩ (.bool true) = V2 at *
          have hb4 := below_alloc (Below.refl V2.heap.size V2) (.cells #[.int .i64 v1, .int .i64 v2, .int .i64 v3] 55)
          have hE : cnE.Sl (V2.alloc (.cells #[.int .i64 v1, .int .i64 v2, .int .i64 v3] 55)) (some ⟨V2.heap.size, 0, none⟩) [⟨v1, v2, v3⟩] := (El.In.new (E := cnE) V2 ⟨v1, v2, v3⟩ _ rfl).sl
          replace hO := hO.below hb4
          replace hR := hR.below hb4
          replace hG := by_trans hG (by_below hb4 _)
          have hBs := hG.size
          clear hb4
          go_wp2_with (first | (refine El.load cnRow rfl _ rfl nx 0 rfl ⟨v1, v2, v3⟩ hX.at #[.int .i64 v1, .int .i64 v2, .int .i64 v3] rfl ?_) | (at_builtin; refine El.wpList_app cnInn rfl _ _ rfl w.heap.size _ l [⟨v1, v2, v3⟩] rfl hO (some ⟨V2.heap.size, 0, none⟩) 1 1 rfl rfl hE (fun e => by cases e) (by have := HLE.out; rw [List.length_singleton]; omega) hBs ?_; intro v' w5 hO5 hg5 _) | fail)
          replace hR := hR.keep hg5 (fun e => by have := (hO.lt b e.symm).1; omega)
          replace hG := by_ownP hG hg5 (fun k e => (hO.lt k e).1)
          clear hO hE hX hg5
          go_wp2_with fail
          exact ⟨⟨v', l ++ [⟨v1, v2, v3⟩], q3, true, rfl, by have h7 := HLE.out; rw [List.length_append, List.length_singleton]; exact congrArg (Value.int .i64) (by rw [show wrap64 ((l.length : Int) + 1) = (l.length : Int) + 1 from by unfold wrap64; omega]; rfl), hO5, Lib.hid (by rw [List.length_append, List.length_singleton]; have := HLT.out; omega), hR, hq3, hG, HNR⟩, by have h9 := own_lenP hO5; rw [List.length_append, List.length_singleton] at h9; have h8 := HLT.out; show n - lenP v' < n - l.length; omega⟩
        · have g0 : decide (v1 < 0) = false := decide_eq_false a0
          by_cases a1 : 12 ≤ v1
          · have g1 : decide (12 ≤ v1) = true := decide_eq_true a1
            have HNR := Lib.hid (HS.out.bad_step HLT.out HST.out (fun h => by have h1 := of_decide_eq_true (show decide (0 ≤ v1 ∧ v1 < 12 ∧ 1 ≤ v2 ∧ 0 ≤ v3) = true from h.1); omega))
            clear HS HST
            go_quiet (fail)
            have hqb := below_drew (Below.refl V.heap.size V) nq
            replace hR := hR.drewN nq
            replace hO := hO.below hqb
            replace hX := hX.below hqb
            replace hG := by_trans hG (by_below hqb _)
            clear hqb x0 x1 x2
            generalize V.drewN nq = V1 at *
            have g := by_set (by_below (Below.refl V1.heap.size V1) (some b)) 2 (.bool true)
            obtain ⟨r0, r1, r2⟩ := hR.cells
            have rf := hR.frozen
            have hRb := hR.setBad
            replace hO := hO.kept g (Or.inr (fun e => by have := (hO.lt b e).1; omega))
            replace hX := hX.keep g (fun e => hnx (Option.some.inj e))
            replace hG := by_trans hG g
            clear hR g
            go_upto_region 9 with fail
            have hR := hRb
            clear hRb r0 r1 r2 rf
            generalize V1.setCell ⟨b, 2, none⟩ (.bool true) = V2 at *
            have hb4 := below_alloc (Below.refl V2.heap.size V2) (.cells #[.int .i64 v1, .int .i64 v2, .int .i64 v3] 55)
            have hE : cnE.Sl (V2.alloc (.cells #[.int .i64 v1, .int .i64 v2, .int .i64 v3] 55)) (some ⟨V2.heap.size, 0, none⟩) [⟨v1, v2, v3⟩] := (El.In.new (E := cnE) V2 ⟨v1, v2, v3⟩ _ rfl).sl
            replace hO := hO.below hb4
            replace hR := hR.below hb4
            replace hG := by_trans hG (by_below hb4 _)
            have hBs := hG.size
            clear hb4
            go_wp2_with (first | (refine El.load cnRow rfl _ rfl nx 0 rfl ⟨v1, v2, v3⟩ hX.at #[.int .i64 v1, .int .i64 v2, .int .i64 v3] rfl ?_) | (at_builtin; refine El.wpList_app cnInn rfl _ _ rfl w.heap.size _ l [⟨v1, v2, v3⟩] rfl hO (some ⟨V2.heap.size, 0, none⟩) 1 1 rfl rfl hE (fun e => by cases e) (by have := HLE.out; rw [List.length_singleton]; omega) hBs ?_; intro v' w5 hO5 hg5 _) | fail)
            replace hR := hR.keep hg5 (fun e => by have := (hO.lt b e.symm).1; omega)
            replace hG := by_ownP hG hg5 (fun k e => (hO.lt k e).1)
            clear hO hE hX hg5
            go_wp2_with fail
            exact ⟨⟨v', l ++ [⟨v1, v2, v3⟩], q3, true, rfl, by have h7 := HLE.out; rw [List.length_append, List.length_singleton]; exact congrArg (Value.int .i64) (by rw [show wrap64 ((l.length : Int) + 1) = (l.length : Int) + 1 from by unfold wrap64; omega]; rfl), hO5, Lib.hid (by rw [List.length_append, List.length_singleton]; have := HLT.out; omega), hR, hq3, hG, HNR⟩, by have h9 := own_lenP hO5; rw [List.length_append, List.length_singleton] at h9; have h8 := HLT.out; show n - lenP v' < n - l.length; omega⟩
          · have g1 : decide (12 ≤ v1) = false := decide_eq_false a1
            by_cases a2 : v2 < 1
            · have g2 : decide (v2 < 1) = true := decide_eq_true a2
              have HNR := Lib.hid (HS.out.bad_step HLT.out HST.out (fun h => by have h1 := of_decide_eq_true (show decide (0 ≤ v1 ∧ v1 < 12 ∧ 1 ≤ v2 ∧ 0 ≤ v3) = true from h.1); omega))
              clear HS HST
              go_quiet (fail)
              have hqb := below_drew (Below.refl V.heap.size V) nq
              replace hR := hR.drewN nq
              replace hO := hO.below hqb
              replace hX := hX.below hqb
              replace hG := by_trans hG (by_below hqb _)
              clear hqb x0 x1 x2
              generalize V.drewN nq = V1 at *
              have g := by_set (by_below (Below.refl V1.heap.size V1) (some b)) 2 (.bool true)
              obtain ⟨r0, r1, r2⟩ := hR.cells
              have rf := hR.frozen
              have hRb := hR.setBad
              replace hO := hO.kept g (Or.inr (fun e => by have := (hO.lt b e).1; omega))
              replace hX := hX.keep g (fun e => hnx (Option.some.inj e))
              replace hG := by_trans hG g
              clear hR g
              go_upto_region 9 with fail
              have hR := hRb
              clear hRb r0 r1 r2 rf
              generalize V1.setCell ⟨b, 2, none⟩ (.bool true) = V2 at *
              have hb4 := below_alloc (Below.refl V2.heap.size V2) (.cells #[.int .i64 v1, .int .i64 v2, .int .i64 v3] 55)
              have hE : cnE.Sl (V2.alloc (.cells #[.int .i64 v1, .int .i64 v2, .int .i64 v3] 55)) (some ⟨V2.heap.size, 0, none⟩) [⟨v1, v2, v3⟩] := (El.In.new (E := cnE) V2 ⟨v1, v2, v3⟩ _ rfl).sl
              replace hO := hO.below hb4
              replace hR := hR.below hb4
              replace hG := by_trans hG (by_below hb4 _)
              have hBs := hG.size
              clear hb4
              go_wp2_with (first | (refine El.load cnRow rfl _ rfl nx 0 rfl ⟨v1, v2, v3⟩ hX.at #[.int .i64 v1, .int .i64 v2, .int .i64 v3] rfl ?_) | (at_builtin; refine El.wpList_app cnInn rfl _ _ rfl w.heap.size _ l [⟨v1, v2, v3⟩] rfl hO (some ⟨V2.heap.size, 0, none⟩) 1 1 rfl rfl hE (fun e => by cases e) (by have := HLE.out; rw [List.length_singleton]; omega) hBs ?_; intro v' w5 hO5 hg5 _) | fail)
              replace hR := hR.keep hg5 (fun e => by have := (hO.lt b e.symm).1; omega)
              replace hG := by_ownP hG hg5 (fun k e => (hO.lt k e).1)
              clear hO hE hX hg5
              go_wp2_with fail
              exact ⟨⟨v', l ++ [⟨v1, v2, v3⟩], q3, true, rfl, by have h7 := HLE.out; rw [List.length_append, List.length_singleton]; exact congrArg (Value.int .i64) (by rw [show wrap64 ((l.length : Int) + 1) = (l.length : Int) + 1 from by unfold wrap64; omega]; rfl), hO5, Lib.hid (by rw [List.length_append, List.length_singleton]; have := HLT.out; omega), hR, hq3, hG, HNR⟩, by have h9 := own_lenP hO5; rw [List.length_append, List.length_singleton] at h9; have h8 := HLT.out; show n - lenP v' < n - l.length; omega⟩
            · have g2 : decide (v2 < 1) = false := decide_eq_false a2
              by_cases a3 : v3 < 0
              · have g3 : decide (v3 < 0) = true := decide_eq_true a3
                have HNR := Lib.hid (HS.out.bad_step HLT.out HST.out (fun h => by have h1 := of_decide_eq_true (show decide (0 ≤ v1 ∧ v1 < 12 ∧ 1 ≤ v2 ∧ 0 ≤ v3) = true from h.1); omega))
                clear HS HST
                go_quiet (fail)
                have hqb := below_drew (Below.refl V.heap.size V) nq
                replace hR := hR.drewN nq
                replace hO := hO.below hqb
                replace hX := hX.below hqb
                replace hG := by_trans hG (by_below hqb _)
                clear hqb x0 x1 x2
                generalize V.drewN nq = V1 at *
                have g := by_set (by_below (Below.refl V1.heap.size V1) (some b)) 2 (.bool true)
                obtain ⟨r0, r1, r2⟩ := hR.cells
                have rf := hR.frozen
                have hRb := hR.setBad
                replace hO := hO.kept g (Or.inr (fun e => by have := (hO.lt b e).1; omega))
                replace hX := hX.keep g (fun e => hnx (Option.some.inj e))
                replace hG := by_trans hG g
                clear hR g
                go_upto_region 9 with fail
                have hR := hRb
                clear hRb r0 r1 r2 rf
                generalize V1.setCell ⟨b, 2, none⟩ (.bool true) = V2 at *
                have hb4 := below_alloc (Below.refl V2.heap.size V2) (.cells #[.int .i64 v1, .int .i64 v2, .int .i64 v3] 55)
                have hE : cnE.Sl (V2.alloc (.cells #[.int .i64 v1, .int .i64 v2, .int .i64 v3] 55)) (some ⟨V2.heap.size, 0, none⟩) [⟨v1, v2, v3⟩] := (El.In.new (E := cnE) V2 ⟨v1, v2, v3⟩ _ rfl).sl
                replace hO := hO.below hb4
                replace hR := hR.below hb4
                replace hG := by_trans hG (by_below hb4 _)
                have hBs := hG.size
                clear hb4
                go_wp2_with (first | (refine El.load cnRow rfl _ rfl nx 0 rfl ⟨v1, v2, v3⟩ hX.at #[.int .i64 v1, .int .i64 v2, .int .i64 v3] rfl ?_) | (at_builtin; refine El.wpList_app cnInn rfl _ _ rfl w.heap.size _ l [⟨v1, v2, v3⟩] rfl hO (some ⟨V2.heap.size, 0, none⟩) 1 1 rfl rfl hE (fun e => by cases e) (by have := HLE.out; rw [List.length_singleton]; omega) hBs ?_; intro v' w5 hO5 hg5 _) | fail)
                replace hR := hR.keep hg5 (fun e => by have := (hO.lt b e.symm).1; omega)
                replace hG := by_ownP hG hg5 (fun k e => (hO.lt k e).1)
                clear hO hE hX hg5
                go_wp2_with fail
                exact ⟨⟨v', l ++ [⟨v1, v2, v3⟩], q3, true, rfl, by have h7 := HLE.out; rw [List.length_append, List.length_singleton]; exact congrArg (Value.int .i64) (by rw [show wrap64 ((l.length : Int) + 1) = (l.length : Int) + 1 from by unfold wrap64; omega]; rfl), hO5, Lib.hid (by rw [List.length_append, List.length_singleton]; have := HLT.out; omega), hR, hq3, hG, HNR⟩, by have h9 := own_lenP hO5; rw [List.length_append, List.length_singleton] at h9; have h8 := HLT.out; show n - lenP v' < n - l.length; omega⟩
              · have g3 : decide (v3 < 0) = false := decide_eq_false a3
                have hcb : cnB ⟨v1, v2, v3⟩ = true := by exact decide_eq_true (show 0 ≤ v1 ∧ v1 < 12 ∧ 1 ≤ v2 ∧ 0 ≤ v3 by omega)
                by_cases hk0 : l.length = 0
                · have e1 : decide ((0 : Int) < (l.length : Int)) = false := decide_eq_false (by omega)
                  have e2 : decide (0 < l.length) = false := decide_eq_false (by omega)
                  have HNR := Lib.hid (HS.out.good_step HLT.out HST.out hcb (fun h0 => by omega))
                  clear HS HST hcb hk0 a0 a1 a2 a3
                  go_quiet (fail)
                  have hqb := below_drew (Below.refl V.heap.size V) nq
                  replace hR := hR.drewN nq
                  replace hO := hO.below hqb
                  replace hX := hX.below hqb
                  replace hG := by_trans hG (by_below hqb _)
                  clear hqb x0 x1 x2
                  generalize V.drewN nq = V1 at *
                  have hb4 := below_alloc (Below.refl V1.heap.size V1) (.cells #[.int .i64 v1, .int .i64 v2, .int .i64 v3] 55)
                  have hE : cnE.Sl (V1.alloc (.cells #[.int .i64 v1, .int .i64 v2, .int .i64 v3] 55)) (some ⟨V1.heap.size, 0, none⟩) [⟨v1, v2, v3⟩] := (El.In.new (E := cnE) V1 ⟨v1, v2, v3⟩ _ rfl).sl
                  replace hO := hO.below hb4
                  replace hR := hR.below hb4
                  replace hG := by_trans hG (by_below hb4 _)
                  have hBs := hG.size
                  clear hb4
                  go_wp2_with (first | (refine El.load cnRow rfl _ rfl nx 0 rfl ⟨v1, v2, v3⟩ hX.at #[.int .i64 v1, .int .i64 v2, .int .i64 v3] rfl ?_) | (at_builtin; refine El.wpList_app cnInn rfl _ _ rfl w.heap.size _ l [⟨v1, v2, v3⟩] rfl hO (some ⟨V1.heap.size, 0, none⟩) 1 1 rfl rfl hE (fun e => by cases e) (by have := HLE.out; rw [List.length_singleton]; omega) hBs ?_; intro v' w5 hO5 hg5 _) | fail)
                  replace hR := hR.keep hg5 (fun e => by have := (hO.lt b e.symm).1; omega)
                  replace hG := by_ownP hG hg5 (fun k e => (hO.lt k e).1)
                  clear hO hE hX hg5
                  go_wp2_with fail
                  exact ⟨⟨v', l ++ [⟨v1, v2, v3⟩], q3, b3, rfl, by have h7 := HLE.out; rw [List.length_append, List.length_singleton]; exact congrArg (Value.int .i64) (by rw [show wrap64 ((l.length : Int) + 1) = (l.length : Int) + 1 from by unfold wrap64; omega]; rfl), hO5, Lib.hid (by rw [List.length_append, List.length_singleton]; have := HLT.out; omega), hR, hq3, hG, HNR⟩, by have h9 := own_lenP hO5; rw [List.length_append, List.length_singleton] at h9; have h8 := HLT.out; show n - lenP v' < n - l.length; omega⟩
                · have e1 : decide ((0 : Int) < (l.length : Int)) = true := decide_eq_true (by omega)
                  have e2 : decide (0 < l.length) = true := decide_eq_true (by omega)
                  have e3 : IntKind.i64.wrap ((l.length : Int) - 1) = ((l.length - 1 : Nat) : Int) := by rw [IntKind.wrap_i64]; have := HLE.out; omega
                  obtain ⟨A9, c9, e9, hS⟩ := SlV.own hO
                  injection e9 with e9a _ e9b
                  subst e9a e9b
                  obtain ⟨b9, o9, eA, hb9, hc9⟩ := hS.1 (by omega)
                  have hxp := cnIdxP (cap := c) (k := l.length - 1) (len := l.length) eA (by omega)
                  have hat : cnE.At V b9 (o9 + (l.length - 1) * 3) (l[l.length - 1]'(by omega)) := hc9 (l.length - 1) (by omega)
                  have t0 := (cnAt3 hat).1
                  have hgd : l.getD (l.length - 1) zeroCn = l[l.length - 1]'(by omega) := by rw [List.getD_eq_getElem?_getD, List.getElem?_eq_getElem (by omega)]; rfl
                  clear hat hc9 hb9 hS eA
                  generalize l[l.length - 1]'(by omega) = y at *
                  by_cases hp2 : v1 ≤ y.d
                  · have e4 : decide (v1 ≤ y.d) = true := decide_eq_true hp2
                    have HNR := Lib.hid (HS.out.bad_step HLT.out HST.out (fun h => by have h1 := h.2 (by omega); rw [hgd] at h1; dsimp only at h1; omega))
                    clear HS HST hcb hk0 a0 a1 a2 a3 hgd hp2
                    go_quiet (fail)
                    have hqb := below_drew (Below.refl V.heap.size V) nq
                    replace hR := hR.drewN nq
                    replace hO := hO.below hqb
                    replace hX := hX.below hqb
                    replace hG := by_trans hG (by_below hqb _)
                    clear hqb x0 x1 x2
                    generalize V.drewN nq = V1 at *
                    have g := by_set (by_below (Below.refl V1.heap.size V1) (some b)) 2 (.bool true)
                    obtain ⟨r0, r1, r2⟩ := hR.cells
                    have rf := hR.frozen
                    have hRb := hR.setBad
                    replace hO := hO.kept g (Or.inr (fun e => by have := (hO.lt b e).1; omega))
                    replace hX := hX.keep g (fun e => hnx (Option.some.inj e))
                    replace hG := by_trans hG g
                    clear hR g
                    go_upto_region 9 with fail
                    have hR := hRb
                    clear hRb r0 r1 r2 rf
                    generalize V1.setCell ⟨b, 2, none⟩ (.bool true) = V2 at *
                    have hb4 := below_alloc (Below.refl V2.heap.size V2) (.cells #[.int .i64 v1, .int .i64 v2, .int .i64 v3] 55)
                    have hE : cnE.Sl (V2.alloc (.cells #[.int .i64 v1, .int .i64 v2, .int .i64 v3] 55)) (some ⟨V2.heap.size, 0, none⟩) [⟨v1, v2, v3⟩] := (El.In.new (E := cnE) V2 ⟨v1, v2, v3⟩ _ rfl).sl
                    replace hO := hO.below hb4
                    replace hR := hR.below hb4
                    replace hG := by_trans hG (by_below hb4 _)
                    have hBs := hG.size
                    clear hb4
                    go_wp2_with (first | (refine El.load cnRow rfl _ rfl nx 0 rfl ⟨v1, v2, v3⟩ hX.at #[.int .i64 v1, .int .i64 v2, .int .i64 v3] rfl ?_) | (at_builtin; refine El.wpList_app cnInn rfl _ _ rfl w.heap.size _ l [⟨v1, v2, v3⟩] rfl hO (some ⟨V2.heap.size, 0, none⟩) 1 1 rfl rfl hE (fun e => by cases e) (by have := HLE.out; rw [List.length_singleton]; omega) hBs ?_; intro v' w5 hO5 hg5 _) | fail)
                    replace hR := hR.keep hg5 (fun e => by have := (hO.lt b e.symm).1; omega)
                    replace hG := by_ownP hG hg5 (fun k e => (hO.lt k e).1)
                    clear hO hE hX hg5
                    go_wp2_with fail
                    exact ⟨⟨v', l ++ [⟨v1, v2, v3⟩], q3, true, rfl, by have h7 := HLE.out; rw [List.length_append, List.length_singleton]; exact congrArg (Value.int .i64) (by rw [show wrap64 ((l.length : Int) + 1) = (l.length : Int) + 1 from by unfold wrap64; omega]; rfl), hO5, Lib.hid (by rw [List.length_append, List.length_singleton]; have := HLT.out; omega), hR, hq3, hG, HNR⟩, by have h9 := own_lenP hO5; rw [List.length_append, List.length_singleton] at h9; have h8 := HLT.out; show n - lenP v' < n - l.length; omega⟩
                  · have e4 : decide (v1 ≤ y.d) = false := decide_eq_false hp2
                    have HNR := Lib.hid (HS.out.good_step HLT.out HST.out hcb (fun h0 => by rw [hgd]; dsimp only; omega))
                    clear HS HST hcb hk0 a0 a1 a2 a3 hgd hp2
                    go_quiet (fail)
                    have hqb := below_drew (Below.refl V.heap.size V) nq
                    replace hR := hR.drewN nq
                    replace hO := hO.below hqb
                    replace hX := hX.below hqb
                    replace hG := by_trans hG (by_below hqb _)
                    clear hqb x0 x1 x2
                    generalize V.drewN nq = V1 at *
                    clear t0
                    have hb4 := below_alloc (Below.refl V1.heap.size V1) (.cells #[.int .i64 v1, .int .i64 v2, .int .i64 v3] 55)
                    have hE : cnE.Sl (V1.alloc (.cells #[.int .i64 v1, .int .i64 v2, .int .i64 v3] 55)) (some ⟨V1.heap.size, 0, none⟩) [⟨v1, v2, v3⟩] := (El.In.new (E := cnE) V1 ⟨v1, v2, v3⟩ _ rfl).sl
                    replace hO := hO.below hb4
                    replace hR := hR.below hb4
                    replace hG := by_trans hG (by_below hb4 _)
                    have hBs := hG.size
                    clear hb4
                    go_wp2_with (first | (refine El.load cnRow rfl _ rfl nx 0 rfl ⟨v1, v2, v3⟩ hX.at #[.int .i64 v1, .int .i64 v2, .int .i64 v3] rfl ?_) | (at_builtin; refine El.wpList_app cnInn rfl _ _ rfl w.heap.size _ l [⟨v1, v2, v3⟩] rfl hO (some ⟨V1.heap.size, 0, none⟩) 1 1 rfl rfl hE (fun e => by cases e) (by have := HLE.out; rw [List.length_singleton]; omega) hBs ?_; intro v' w5 hO5 hg5 _) | fail)
                    replace hR := hR.keep hg5 (fun e => by have := (hO.lt b e.symm).1; omega)
                    replace hG := by_ownP hG hg5 (fun k e => (hO.lt k e).1)
                    clear hO hE hX hg5
                    go_wp2_with fail
                    exact ⟨⟨v', l ++ [⟨v1, v2, v3⟩], q3, b3, rfl, by have h7 := HLE.out; rw [List.length_append, List.length_singleton]; exact congrArg (Value.int .i64) (by rw [show wrap64 ((l.length : Int) + 1) = (l.length : Int) + 1 from by unfold wrap64; omega]; rfl), hO5, Lib.hid (by rw [List.length_append, List.length_singleton]; have := HLT.out; omega), hR, hq3, hG, HNR⟩, by have h9 := own_lenP hO5; rw [List.length_append, List.length_singleton] at h9; have h8 := HLT.out; show n - lenP v' < n - l.length; omega⟩
      · have HG := Lib.hid (HS.out.good hlt hl.out)
        have f5 : decide ((l.length : Int) < (n : Int)) = false := decide_eq_false (by omega)
        have f6 : decide (l.length < n) = false := decide_eq_false hlt
        clear hlt
        go_wp2_with fail
        go_ret
        exact ⟨A, c, l, q, false, rfl, hS, hR, hq, hG, Or.inl ⟨rfl, HG.out⟩⟩
    · have HG := Lib.hid HS.out.ill
      by_cases hlt : l.length < n
      · have f5 : decide ((l.length : Int) < (n : Int)) = true := decide_eq_true (by omega)
        have f6 : decide (l.length < n) = true := decide_eq_true hlt
        clear hlt
        go_wp2_with fail
        go_ret
        exact ⟨A, c, l, q, true, rfl, hS, hR, hq, hG, Or.inr ⟨rfl, HG.out⟩⟩
      · have f5 : decide ((l.length : Int) < (n : Int)) = false := decide_eq_false (by omega)
        have f6 : decide (l.length < n) = false := decide_eq_false hlt
        clear hlt
        go_wp2_with fail
        go_ret
        exact ⟨A, c, l, q, true, rfl, hS, hR, hq, hG, Or.inr ⟨rfl, HG.out⟩⟩
set_option maxRecDepth 100000 in
set_option maxHeartbeats 2000000 in
theorem refReadCounts_uni (w : World) (b p : Nat) (s : ByteArray) (bad : Bool) (hs : s.size ≤ 1000000) (hp : p ≤ s.size) (hr : Rd 65 w b s p bad) :
    Calls Tryz.prog 21 #[.pointer (some ⟨b, 0, none⟩)] w fun e w' => ∃ (A : Option Addr) (c : Nat) (l : List Cn) (q : Nat) (bd : Bool), e = .returned (.slice A l.length c) ∧ SlV cnE w' A c l ∧ Rd 65 w' b s q bd ∧ q ≤ s.size ∧ w.grownBy w' (some b) ∧ cnsStep s p bad l q bd := by
  go_enter Tryz.func21, Tryz.ntmps21
  go_wp2_with fail
  refine (refCounts_uni w b p s bad hs hp hr).mono ?_
  rintro e w1 ⟨A, c, l, q, bd, rfl, hS, hR, hq, hG, hst⟩
  obtain ⟨r0, r1, r2⟩ := hR.cells
  rcases hst with ⟨rfl, hst⟩ | ⟨rfl, hst⟩
  · have HG := Lib.hid hst
    clear hst
    go_wp2_with fail
    go_ret
    exact ⟨A, c, l, q, false, rfl, hS, hR, hq, hG, Or.inl ⟨HG.out, rfl⟩⟩
  · have HG := Lib.hid hst
    clear hst
    go_wp2_with fail
    go_ret
    exact ⟨none, 0, [], q, true, rfl, SlV.nil _ _, hR, hq, hG, Or.inr ⟨HG.out, rfl, rfl⟩⟩
end Go.Proofs.YtfpgfclmmdihjaaGreat

/- How the document reads a tree. -/
namespace Go.Proofs.YtfpgfclmmdihjaaGreat
open Go.RowKit Tre Nam Cod

theorem own_ne {w : World} {B : Nat} {v : Value} {l : List Pl} (h : Own w B v l) : v.ownBlock = none ∨ v.ownBlock ≠ some w.heap.size := Or.inr (fun e => by have := (World.ownsRow.lt h _ e).2; omega)

set_option maxRecDepth 100000 in
set_option maxHeartbeats 8000000 in
theorem refRead_uni {w : World} {b p : Nat} {s : ByteArray} {bad : Bool} (hs : s.size ≤ 1000000) (hp : p ≤ s.size) (hr : Rd 65 w b s p bad) :
    Calls Tryz.prog 43 #[.pointer (some ⟨b, 0, none⟩)] w fun e w' => ∃ A cap l q bad', e = .returned (.slice A l.length cap) ∧ Tr w' A l ∧ l.length ≤ 64 ∧ Rd 65 w' b s q bad' ∧ q ≤ s.size ∧ w.grownBy w' (some b) ∧ treeStep s p bad l q bad' := by
  have hbw := hr.lt
  go_enter Tryz.func43, Tryz.ntmps43
  go_wp2_with fail
  refine (refCnt_uni hs hp hr).mono ?_
  rintro e w1 ⟨n, q0, b0, rfl, hn, hR, hq0, hG, hst⟩
  have hO : Own w1 w.heap.size (.slice none 0 0) [] := Own.nil w1 w.heap.size
  have hw := wayStep.start hst
  clear hst hr
  go_wp2_with fail
  go_loopw [3, 5] (fun x y wr => ∃ (k : Nat) (l : List Pl) (q : Nat) (b1 : Bool), k ≤ n ∧ l.length = k ∧ y = .int .i64 k ∧ Own wr w.heap.size x l ∧ Rd 65 wr b s q b1 ∧ q ≤ s.size ∧ w.grownBy wr (some b) ∧ (∀ p ∈ l, p.s.size ≤ 1000000) ∧ wayStep s p bad n k l q b1) (fun _ y _ => n - (intOf y).toNat)
  case atStart => exact ⟨0, [], q0, b0, Nat.zero_le _, rfl, rfl, hO, hR, hq0, hG, (fun p hp => by cases hp), hw⟩
  case round =>
    clear hO hR hG hw hq0
    obtain ⟨k, l, q, b1, hkn, hlk, rfl, hO, hR, hq, hG, hz, hw⟩ := hrel
    by_cases hlt : k < n
    · cases b1
      · have HZ := Lib.hid hz
        have HW := Lib.hid hw
        obtain ⟨r0, r1, r2⟩ := hR.cells
        have hl3 : l.length ≤ 64 := by omega
        have HLK := Lib.hid hlk
        clear hz hw r0 r1 hlk
        go_wp2_with fail
        have hB := below_alloc (Below.refl _ wr) (.cells #[.int .i64 0, .int .i64 0, .string ⟨#[]⟩] 117)
        have hO0 := hO
        have hO := hO.below hB
        have hP : PlIn (wr.alloc (.cells #[.int .i64 0, .int .i64 0, .string ⟨#[]⟩] 117)) wr.heap.size zero := PlIn.new wr zero
        have hR := hR.below hB
        have hG0 := hG.size
        have hG := by_trans hG (by_below hB (some b))
        obtain ⟨n3, h3⟩ : ∃ n, wr.heap.size = n := ⟨_, rfl⟩
        have hn3 : w.heap.size ≤ n3 := by omega
        have e3 : b ≠ n3 := by omega
        have i3 : some n3 ≠ some b := fun e => e3 (Option.some.inj e).symm
        have hne := own_ne hO0
        rw [h3] at hP hne ⊢
        clear hO0 hB h3 r2
        generalize wr.alloc (.cells #[.int .i64 0, .int .i64 0, .string ⟨#[]⟩] 117) = W0 at *
        refine (refNum_uni hs hq hR).mono ?_
        clear hR hq
        rintro e w3 ⟨v1, q1, b1, rfl, hR, q1s, hg, st1⟩
        replace hO := hO.kept hg (Or.inr (fun e => by have := (World.ownsRow.lt hO b e).1; omega))
        replace hP := hP.keep hg i3
        replace hG := by_trans hG hg
        clear hg
        obtain ⟨k0, k1, k2⟩ := hP.cells
        have kf := hP.frozen
        clear k1 k2
        go_wp2_with fail
        clear k0 kf
        replace hP := hP.putN v1
        replace hO := hO.kept (by_set (by_refl w3 (some n3)) 0 (.int .i64 v1)) hne
        replace hR := hR.other n3 0 (.int .i64 v1) e3
        replace hG := by_setNew hG n3 0 (.int .i64 v1) hn3
        generalize w3.setCell ⟨n3, 0, none⟩ (.int .i64 v1) = W1 at *
        refine (refNum_uni hs q1s hR).mono ?_
        clear hR
        rintro e w4 ⟨v2, q2, b2, rfl, hR, q2s, hg, st2⟩
        replace hO := hO.kept hg (Or.inr (fun e => by have := (World.ownsRow.lt hO b e).1; omega))
        replace hP := hP.keep hg i3
        replace hG := by_trans hG hg
        clear hg
        obtain ⟨k0, k1, k2⟩ := hP.cells
        have kf := hP.frozen
        clear k0 k2
        go_wp2_with fail
        clear k1 kf
        replace hP := hP.putU v2
        replace hO := hO.kept (by_set (by_refl w4 (some n3)) 1 (.int .i64 v2)) hne
        replace hR := hR.other n3 1 (.int .i64 v2) e3
        replace hG := by_setNew hG n3 1 (.int .i64 v2) hn3
        generalize w4.setCell ⟨n3, 1, none⟩ (.int .i64 v2) = W2 at *
        refine (refText_uni hs q2s hR).mono ?_
        clear hR
        rintro e w5 ⟨v3, q3, b3, rfl, hR, q3s, hv, hg, st3⟩
        replace hO := hO.kept hg (Or.inr (fun e => by have := (World.ownsRow.lt hO b e).1; omega))
        replace hP := hP.keep hg i3
        replace hG := by_trans hG hg
        clear hg
        obtain ⟨k0, k1, k2⟩ := hP.cells
        have kf := hP.frozen
        clear k0 k1
        have hst := plStep_of st1 st2 st3
        have hP7 := hP.putS v3
        have hO7 := hO.kept (by_set (by_refl w5 (some n3)) 2 (.string v3)) hne
        have hR7 := hR.other n3 2 (.string v3) e3
        have hG7 := by_setNew hG n3 2 (.string v3) hn3
        have hw := HW.out.next hlt hst
        have hz : ∀ p ∈ l ++ [⟨v1, v2, v3⟩], p.s.size ≤ 1000000 := fun p hp => by
          rcases List.mem_append.1 hp with h | h
          · exact HZ.out p h
          · rw [List.mem_singleton] at h; subst h; exact hv
        clear HW HZ st1 st2 st3 hst hP hO hR hG hv
        have HW := Lib.hid hw
        have HZ := Lib.hid hz
        clear hw hz
        have hb4 := below_alloc (Below.refl _ (w5.setCell ⟨n3, 2, none⟩ (.string v3))) (.cells #[.int .i64 v1, .int .i64 v2, .string v3] 117)
        have hE := AtPl.one (PlIn.new (w5.setCell ⟨n3, 2, none⟩ (.string v3)) ⟨v1, v2, v3⟩)
        have hO := hO7.below hb4
        have hR := hR7.below hb4
        have hG := by_trans hG7 (by_below hb4 _)
        have hB := hG.size
        have hws : (w5.setCell ⟨n3, 2, none⟩ (.string v3)).heap.size = w5.heap.size := by simp [World.setCell]
        clear hO7 hR7 hG7 hb4
        go_wp2_with (first | (refine load_pl rfl _ rfl _ rfl ⟨v1, v2, v3⟩ hP7 ?_) | (at_builtin; refine wpList_app rfl _ _ rfl w.heap.size _ l [⟨v1, v2, v3⟩] rfl hO (some ⟨(w5.setCell ⟨n3, 2, none⟩ (.string v3)).heap.size, 0, none⟩) 1 1 (by rw [hws]; rfl) rfl hE (fun e => by cases e) (by have : [(⟨v1, v2, v3⟩ : Pl)].length = 1 := rfl; omega) hB ?_; intro v' w6 hO6 hg6 _))
        have hR := hR.keep hg6 (fun e => by have := (World.ownsRow.lt hO b e.symm).1; omega)
        have hG := by_own hG hg6 (fun k e => (World.ownsRow.lt hO k e).1)
        go_wp2
        go_roundw
        case rel => exact ⟨k + 1, l ++ [⟨v1, v2, v3⟩], q3, b3, by omega, by have := HLK.out; rw [List.length_append, this]; rfl, by go_num, hO6, hR, q3s, hG, HZ.out, HW.out⟩
        case measure => simp [intOf]; omega
      · obtain ⟨A, cap, rfl, hTr, _, _⟩ := hO.tr
        obtain ⟨r0, r1, r2⟩ := hR.cells
        clear r0 r1 hlk
        have rf := hR.frozen
        have HOP := Lib.hid (hw.ill hkn)
        clear hw hz hO hTr
        go_wp2_with fail
        go_ret
        exact ⟨none, 0, [], q, true, rfl, Tr.nil _ _, Nat.zero_le _, hR.setBad, hq, by_set hG 2 (.bool true), Or.inr ⟨HOP.out, rfl, rfl⟩⟩
    · obtain rfl : k = n := by omega
      obtain ⟨A, cap, rfl, hTr, _, _⟩ := hO.tr
      have hl64 : l.length ≤ 64 := by omega
      clear hlk
      obtain ⟨r0, r1, r2⟩ := hR.cells
      clear r0 r1
      have rf := hR.frozen
      cases b1
      · have hop := hw.good
        have C := fun w (hT : Tr w A l) => refRight_any A cap l w (by omega) (fun p hp => Nat.le_trans (hz p hp) (by omega)) hT
        obtain ⟨tb, htb⟩ : ∃ x, treeB l = x := ⟨_, rfl⟩
        rw [htb] at C hop
        have HC := Lib.hid C
        have HOP := Lib.hid hop
        clear C hop hw hz hO htb
        cases tb
        · go_wp2_with fail
          refine (HC.out _ hTr).mono ?_
          rintro e w8 ⟨rfl, hb8⟩
          have hR := hR.below hb8
          have hG := by_trans hG (by_below hb8 _)
          clear hTr hb8 HC r2 rf
          obtain ⟨r0, r1, r2⟩ := hR.cells
          clear r0 r1
          have rf := hR.frozen
          go_wp2_with fail
          go_ret
          exact ⟨none, 0, [], q, true, rfl, Tr.nil _ _, Nat.zero_le _, hR.setBad, hq, by_set hG 2 (.bool true), Or.inr ⟨by rw [HOP.out]; simp, rfl, rfl⟩⟩
        · go_wp2_with fail
          refine (HC.out _ hTr).mono ?_
          rintro e w8 ⟨rfl, hb8⟩
          have hR := hR.below hb8
          have hG := by_trans hG (by_below hb8 _)
          have hTr := hTr.below hb8
          clear hb8 HC r2 rf
          go_wp2_with fail
          go_ret
          exact ⟨A, cap, l, q, false, rfl, hTr, by omega, hR, hq, hG, Or.inl ⟨by rw [HOP.out]; simp, rfl⟩⟩
      · have HOP := Lib.hid (hw.ill hkn)
        clear hw hz hO hTr
        go_wp2_with fail
        go_ret
        exact ⟨none, 0, [], q, true, rfl, Tr.nil _ _, Nat.zero_le _, hR.setBad, hq, by_set hG 2 (.bool true), Or.inr ⟨HOP.out, rfl, rfl⟩⟩
end Go.Proofs.YtfpgfclmmdihjaaGreat
