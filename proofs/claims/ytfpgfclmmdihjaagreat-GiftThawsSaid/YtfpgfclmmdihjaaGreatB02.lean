/- Texts laid one behind the other: Sd, Nm, Na, Oa, Cm, Ca, Cb, Cc, Cj, Ob, Od, Cd, Ce, Cf, Cg, Ch, Ui, Oe. -/
import Derived.Test.YtfpgfclmmdihjaaGreatB01
import Derived.Lib.ItoaNum
import Derived.WalkKit
import Derived.Lib.Hide
import Derived.KernelRfl
import Derived.Handy
import Derived.Lib.BufSteps
import Derived.Laws.IdiomStrings
import Derived.WalkMore
import Derived.Deep.Draws
import Derived.BigQuiet
import Derived.Deep.QuietTactic
import Derived.Lib.QuietBelow
import Derived.Laws.ResultCell
import Derived.Laws.CopyOwn
/- What Before gives, and the document's answers. -/
namespace Go.Proofs.YtfpgfclmmdihjaaGreat
open Go.RowKit

def befB (A B C D : Int) : Bool := decide (A < C ∨ A = C ∧ B < D)
theorem befB_of {A B C D : Int} {b : Bool} (h : b = true ↔ (A < C ∨ A = C ∧ B < D)) : Value.bool b = .bool (befB A B C D) := by
  unfold befB; congr 1; rw [Bool.eq_iff_iff, h, decide_eq_true_iff]

theorem refBefore_any (A B C D : Int) (w : World) : Calls Tryz.prog 71 #[.agg #[.int .i64 A, .int .i64 B], .agg #[.int .i64 C, .int .i64 D]] w fun e w' => e = .returned (.bool (befB A B C D)) ∧ Below w.heap.size w w' := by
  go_enter Tryz.func71, Tryz.ntmps71
  go_wp2
  all_goals go_ret
  all_goals exact ⟨ret_of (befB_of (by simp; omega)), by go_grown⟩

/-- The walk of Before where one of the two may not be. -/
theorem before_plain1 (A B C D : Int) (w : World) (h : rightB A B = false) : Calls Tryz.prog 64 #[.agg #[.int .i64 A, .int .i64 B], .agg #[.int .i64 C, .int .i64 D]] w fun e w' => e = .returned (.bool (befB A B C D)) ∧ Below w.heap.size w w' := by
  have H := Lib.hid h
  clear h
  by_cases h2 : rightB C D = true
  · have H2 := Lib.hid h2
    clear h2
    go_enter Tryz.func64, Tryz.ntmps64
    go_wp2_with (first | (go_at_call 82; (with_reducible refine (to_no A B _ H.out).mono ?_); rintro e w1 ⟨rfl, hb⟩; obtain ⟨hc, hf⟩ := bcell hb; have hz : w.heap.size + 1 < w1.heap.size := (by have := hb.size; simp at this; omega); have hz0 : w.heap.size < w1.heap.size := (by omega))
                                        | (go_at_call 82; (with_reducible refine (to_yes C D _ H2.out).mono ?_); rintro e w2 ⟨rfl, hb2⟩; obtain ⟨hc2, hf2⟩ := bcell hb2; unfold numOf))
    all_goals go_ret
    all_goals exact ⟨ret_of (befB_of (by simp; omega)), below_then (below_then (by go_grown) hb) hb2⟩
  · have H2 := Lib.hid (show rightB C D = false by simpa using h2)
    clear h2
    go_enter Tryz.func64, Tryz.ntmps64
    go_wp2_with (first | (go_at_call 82; (with_reducible refine (to_no A B _ H.out).mono ?_); rintro e w1 ⟨rfl, hb⟩; obtain ⟨hc, hf⟩ := bcell hb; have hz : w.heap.size + 1 < w1.heap.size := (by have := hb.size; simp at this; omega); have hz0 : w.heap.size < w1.heap.size := (by omega))
                                        | (go_at_call 82; (with_reducible refine (to_no C D _ H2.out).mono ?_); rintro e w2 ⟨rfl, hb2⟩; obtain ⟨hc2, hf2⟩ := bcell hb2))
    all_goals go_ret
    all_goals exact ⟨ret_of (befB_of (by simp; omega)), below_then (below_then (by go_grown) hb) hb2⟩

theorem before_plain2 (A B C D : Int) (w : World) (h : rightB A B = true) (h2 : rightB C D = false) : Calls Tryz.prog 64 #[.agg #[.int .i64 A, .int .i64 B], .agg #[.int .i64 C, .int .i64 D]] w fun e w' => e = .returned (.bool (befB A B C D)) ∧ Below w.heap.size w w' := by
  have H := Lib.hid h
  have H2 := Lib.hid h2
  clear h h2
  go_enter Tryz.func64, Tryz.ntmps64
  go_wp2_with (first | (go_at_call 82; (with_reducible refine (to_yes A B _ H.out).mono ?_); rintro e w1 ⟨rfl, hb⟩; obtain ⟨hc, hf⟩ := bcell hb; have hz : w.heap.size + 1 < w1.heap.size := (by have := hb.size; simp at this; omega); have hz0 : w.heap.size < w1.heap.size := (by omega); unfold numOf)
                                        | (go_at_call 82; (with_reducible refine (to_no C D _ H2.out).mono ?_); rintro e w2 ⟨rfl, hb2⟩; obtain ⟨hc2, hf2⟩ := bcell hb2))
  all_goals go_ret
  all_goals exact ⟨ret_of (befB_of (by simp; omega)), below_then (below_then (by go_grown) hb) hb2⟩

theorem before_gap (A B C D : Int) (w : World) (re im : Nat) (o1 o2 : Ordering) (h : rightB A B = true) (h2 : rightB C D = true)
    (hs : cSumBits .sub .f64 (floatOfInt .f64 C) (floatOfInt .f64 D) (floatOfInt .f64 A) (floatOfInt .f64 B) = some (re, im))
    (p1 : FloatKind.f64.format.order re 0 = some o1) (p2 : FloatKind.f64.format.order im 0 = some o2) :
    Calls Tryz.prog 64 #[.agg #[.int .i64 A, .int .i64 B], .agg #[.int .i64 C, .int .i64 D]] w fun e w' => e = .returned (.bool (o1 == .gt || (o1 == .eq && o2 == .gt))) ∧ Below w.heap.size w w' := by
  have hop := fun t w => run_complex_sum (P := Tryz.prog) w .sub (Or.inr rfl) t .f64 _ _ _ _ re im hs
  have H := Lib.hid h
  have H2 := Lib.hid h2
  clear h h2 hs
  cases o1 <;> cases o2
  all_goals
    go_enter Tryz.func64, Tryz.ntmps64
    go_wp2_with (first | (go_at_call 82; (with_reducible refine (to_yes A B _ H.out).mono ?_); rintro e w1 ⟨rfl, hb⟩; obtain ⟨hc, hf⟩ := bcell hb; have hz : w.heap.size + 1 < w1.heap.size := (by have := hb.size; simp at this; omega); have hz0 : w.heap.size < w1.heap.size := (by omega); unfold numOf)
                                        | (go_at_call 82; (with_reducible refine (to_yes C D _ H2.out).mono ?_); rintro e w2 ⟨rfl, hb2⟩; obtain ⟨hc2, hf2⟩ := bcell hb2; unfold numOf))
    go_ret
    exact ⟨rfl, below_then (below_then (by go_grown) hb) hb2⟩

theorem before_any (A B C D : Int) (w : World) : Calls Tryz.prog 64 #[.agg #[.int .i64 A, .int .i64 B], .agg #[.int .i64 C, .int .i64 D]] w fun e w' => e = .returned (.bool (befB A B C D)) ∧ Below w.heap.size w w' := by
  by_cases h : rightB A B = true
  · by_cases h2 : rightB C D = true
    · have r1 := rightB_iff.1 h
      have r2 := rightB_iff.1 h2
      obtain ⟨a, a1, a2⟩ := Flo.sub_int (Flo.isInt_ofInt C (by omega)) (Flo.isInt_ofInt A (by omega)) (by omega)
      obtain ⟨b, b1, b2⟩ := Flo.sub_int (Flo.isInt_ofInt D (by omega)) (Flo.isInt_ofInt B (by omega)) (by omega)
      refine (before_gap A B C D w a b _ _ h h2 (by simp only [cSumBits, a1, b1, Option.bind_some]) (Flo.order_int a2 isInt_c0) (Flo.order_int b2 isInt_c0)).mono ?_
      rintro e w' ⟨rfl, hb⟩
      refine ⟨ret_of (befB_of ?_), hb⟩
      rw [Bool.or_eq_true, Bool.and_eq_true, beq_iff_eq, beq_iff_eq, beq_iff_eq, Int.compare_eq_gt, Int.compare_eq_eq, Int.compare_eq_gt]
      omega
    · exact before_plain2 A B C D w h (by simpa using h2)
  · exact before_plain1 A B C D w (by simpa using h)

end Go.Proofs.YtfpgfclmmdihjaaGreat

/- Names, digits and twins as lists of bytes. -/
namespace Go.Proofs.YtfpgfclmmdihjaaGreat.Nam
open Go.Lib (decDigits decDigits_one)

def okB (b : UInt8) : Bool := decide (33 ≤ b.toNat ∧ b.toNat ≤ 125 ∧ b.toNat ≠ 47)
/-- Is it a name? -/
def isName (l : List UInt8) : Bool := decide (1 ≤ l.length ∧ l.length ≤ 16) && l.all okB

theorem isName_len {l : List UInt8} (h : isName l = true) : 1 ≤ l.length ∧ l.length ≤ 16 := by
  unfold isName at h; simp at h; exact h.1
theorem isName_at {l : List UInt8} (h : isName l = true) (i : Nat) (hi : i < l.length) : 33 ≤ l[i].toNat ∧ l[i].toNat ≤ 125 ∧ l[i].toNat ≠ 47 := by
  unfold isName at h
  rw [Bool.and_eq_true, List.all_eq_true] at h
  exact of_decide_eq_true (h.2 l[i] (List.getElem_mem hi))
theorem isName_short {l : List UInt8} (h : ¬ (1 ≤ l.length ∧ l.length ≤ 16)) : isName l = false := by
  unfold isName; rw [decide_eq_false h]; rfl
theorem isName_bad {l : List UInt8} (i : Nat) (hi : i < l.length) (h : ¬ (33 ≤ l[i].toNat ∧ l[i].toNat ≤ 125 ∧ l[i].toNat ≠ 47)) : isName l = false := by
  cases e : isName l
  · rfl
  · exact absurd (isName_at e i hi) h
theorem isName_of {l : List UInt8} (h1 : 1 ≤ l.length ∧ l.length ≤ 16) (h2 : ∀ b ∈ l, okB b = true) : isName l = true := by
  unfold isName; rw [decide_eq_true h1, List.all_eq_true.2 h2]; rfl

/-- Where the first mark stands, or the length. -/
def endOf : List UInt8 → Nat
  | [] => 0
  | b :: t => if b.toNat = 126 then 0 else endOf t + 1

theorem endOf_le : ∀ l, endOf l ≤ l.length
  | [] => Nat.le_refl _
  | b :: t => by
    rw [endOf]; split
    · exact Nat.zero_le _
    · have := endOf_le t; rw [List.length_cons]; omega
theorem endOf_before : ∀ (l : List UInt8) (i : Nat) (h : i < l.length), i < endOf l → l[i].toNat ≠ 126
  | [], i, h, _ => absurd h (by simp)
  | b :: t, i, h, hi => by
    rw [endOf] at hi
    by_cases hb : b.toNat = 126
    · rw [if_pos hb] at hi; omega
    · rw [if_neg hb] at hi
      cases i with
      | zero => exact hb
      | succ i => exact endOf_before t i (by simpa using h) (by omega)
theorem endOf_at : ∀ (l : List UInt8) (h : endOf l < l.length), l[endOf l].toNat = 126
  | [], h => absurd h (by simp)
  | b :: t, h => by
    by_cases hb : b.toNat = 126
    · have e : endOf (b :: t) = 0 := by rw [endOf, if_pos hb]
      simp [e, hb]
    · have e : endOf (b :: t) = endOf t + 1 := by rw [endOf, if_neg hb]
      have h2 : endOf t < t.length := by rw [e] at h; simpa using h
      have := endOf_at t h2
      simp [e, this]
theorem endOf_app : ∀ (a t : List UInt8), (∀ i (h : i < a.length), a[i].toNat ≠ 126) → endOf (a ++ (126 : UInt8) :: t) = a.length
  | [], t, _ => by
    show endOf ((126 : UInt8) :: t) = 0
    rw [endOf]; rfl
  | b :: a, t, h => by
    have hb : b.toNat ≠ 126 := h 0 (by simp)
    rw [List.cons_append, endOf, if_neg hb, endOf_app a t (fun i hi => h (i + 1) (by simpa using hi))]; rfl
theorem endOf_none : ∀ (a : List UInt8), (∀ i (h : i < a.length), a[i].toNat ≠ 126) → endOf a = a.length
  | [], _ => rfl
  | b :: a, h => by
    have hb : b.toNat ≠ 126 := h 0 (by simp)
    rw [endOf, if_neg hb, endOf_none a (fun i hi => h (i + 1) (by simpa using hi))]; rfl

def isDig (b : UInt8) : Bool := decide (48 ≤ b.toNat ∧ b.toNat ≤ 57)
/-- The number of digits. -/
def val (l : List UInt8) : Nat := l.foldl (fun n b => 10 * n + (b.toNat - 48)) 0

theorem val_snoc (l : List UInt8) (b : UInt8) : val (l ++ [b]) = 10 * val l + (b.toNat - 48) := by unfold val; simp
theorem foldl_ge : ∀ (l : List UInt8) (n : Nat), n ≤ l.foldl (fun n b => 10 * n + (b.toNat - 48)) n
  | [], n => Nat.le_refl _
  | b :: t, n => by
    rw [List.foldl_cons]
    have := foldl_ge t (10 * n + (b.toNat - 48))
    omega
theorem val_app (a b : List UInt8) : val a ≤ val (a ++ b) := by
  unfold val; rw [List.foldl_append]; exact foldl_ge b _
theorem val_take (l : List UInt8) (k : Nat) : val (l.take k) ≤ val l := by
  have h := val_app (l.take k) (l.drop k)
  rwa [List.take_append_drop] at h
theorem take_next (l : List UInt8) (k : Nat) (h : k < l.length) : l.take (k + 1) = l.take k ++ [l[k]] := by
  rw [List.take_succ_eq_append_getElem h]
theorem val_next (l : List UInt8) (k : Nat) (h : k < l.length) : val (l.take (k + 1)) = 10 * val (l.take k) + (l[k].toNat - 48) := by
  rw [take_next l k h, val_snoc]

theorem dec_dig (n : Nat) : ∀ b ∈ decDigits n, isDig b = true := by
  induction n using Nat.strongRecOn with
  | _ n ih =>
    intro b hb
    by_cases h : n < 10
    · rw [decDigits_one h] at hb
      obtain rfl := List.mem_singleton.1 hb
      unfold isDig
      rw [UInt8.toNat_ofNat']
      exact decide_eq_true (by omega)
    · rw [decDigits, dif_neg h] at hb
      rcases List.mem_append.1 hb with h1 | h1
      · exact ih (n / 10) (by omega) b h1
      · obtain rfl := List.mem_singleton.1 h1
        unfold isDig
        rw [UInt8.toNat_ofNat']
        exact decide_eq_true (by omega)
theorem val_dec (n : Nat) : val (decDigits n) = n := by
  induction n using Nat.strongRecOn with
  | _ n ih =>
    by_cases h : n < 10
    · rw [decDigits_one h]
      show 10 * 0 + ((UInt8.ofNat (48 + n)).toNat - 48) = n
      rw [UInt8.toNat_ofNat']; omega
    · rw [decDigits, dif_neg h, val_snoc, ih (n / 10) (by omega), UInt8.toNat_ofNat']; omega
theorem dec_ne (n : Nat) : 1 ≤ (decDigits n).length := by
  by_cases h : n < 10
  · rw [decDigits_one h]; simp
  · rw [decDigits, dif_neg h]; simp
theorem dec_inj {a b : Nat} (h : decDigits a = decDigits b) : a = b := by rw [← val_dec a, h, val_dec]
/-- No number but 0 begins with 0. -/
theorem dec_head (n : Nat) : 0 < n → ∀ b t, decDigits n = b :: t → b.toNat ≠ 48 := by
  induction n using Nat.strongRecOn with
  | _ n ih =>
    intro hn b t e
    by_cases h : n < 10
    · rw [decDigits_one h] at e
      obtain ⟨rfl, _⟩ := List.cons.inj e
      rw [UInt8.toNat_ofNat']; omega
    · rw [decDigits, dif_neg h] at e
      cases e1 : decDigits (n / 10) with
      | nil => have := dec_ne (n / 10); rw [e1] at this; simp at this
      | cons c u =>
        rw [e1, List.cons_append] at e
        obtain ⟨rfl, _⟩ := List.cons.inj e
        exact ih (n / 10) (by omega) (by omega) _ _ e1
theorem val_pos {b : UInt8} {t : List UInt8} (h : 48 < b.toNat) : 0 < val (b :: t) := by
  unfold val
  rw [List.foldl_cons]
  have := foldl_ge t (10 * 0 + (b.toNat - 48))
  omega
theorem dec_ten (v d : Nat) (hv : 0 < v) (hd : d < 10) : decDigits (10 * v + d) = decDigits v ++ [UInt8.ofNat (48 + d)] := by
  rw [decDigits, dif_neg (by omega), show (10 * v + d) / 10 = v by omega, show (10 * v + d) % 10 = d by omega]
theorem rev_rec {P : List UInt8 → Prop} (h0 : P []) (h1 : ∀ l b, P l → P (l ++ [b])) (l : List UInt8) : P l := by
  have key : ∀ m : List UInt8, P m.reverse := by
    intro m
    induction m with
    | nil => exact h0
    | cons b m ih => rw [List.reverse_cons]; exact h1 _ _ ih
  have := key l.reverse
  rwa [List.reverse_reverse] at this
/-- Digits without a 0 ahead are those of their number. -/
theorem dec_val (l : List UInt8) : l ≠ [] → (∀ b ∈ l, isDig b = true) → (∀ b t, l = b :: t → t ≠ [] → b.toNat ≠ 48) → decDigits (val l) = l := by
  refine rev_rec (P := fun l => l ≠ [] → (∀ b ∈ l, isDig b = true) → (∀ b t, l = b :: t → t ≠ [] → b.toNat ≠ 48) → decDigits (val l) = l) (fun h => absurd rfl h) (fun l b ih _ hd h0 => ?_) l
  have hb : 48 ≤ b.toNat ∧ b.toNat ≤ 57 := of_decide_eq_true (hd b (by simp))
  have eb : UInt8.ofNat (48 + (b.toNat - 48)) = b := by rw [show 48 + (b.toNat - 48) = b.toNat by omega, UInt8.ofNat_toNat]
  rw [val_snoc]
  cases l with
  | nil =>
    show decDigits (10 * 0 + (b.toNat - 48)) = [b]
    rw [decDigits_one (by omega), show 10 * 0 + (b.toNat - 48) = b.toNat - 48 by omega, eb]
  | cons c t =>
    have hc : c.toNat ≠ 48 := h0 c (t ++ [b]) rfl (by simp)
    have hc2 : 48 ≤ c.toNat ∧ c.toNat ≤ 57 := of_decide_eq_true (hd c (by simp))
    have hv : 0 < val (c :: t) := val_pos (by omega)
    rw [dec_ten _ _ hv (by omega), eb, ih (by simp) (fun x hx => hd x (by simp at hx ⊢; rcases hx with h | h <;> simp [h])) (fun x u e _ => by obtain ⟨rfl, _⟩ := List.cons.inj e; exact hc)]

/-- The node, below 64, whose digits a text is. -/
def node (l : List UInt8) : Option Nat := if l.all isDig = true ∧ val l < 64 ∧ decDigits (val l) = l then some (val l) else none

theorem node_some {l : List UInt8} {n : Nat} (h : node l = some n) : n < 64 ∧ decDigits n = l := by
  unfold node at h
  split at h
  · rename_i k
    obtain rfl := Option.some.inj h
    exact k.2
  · cases h
theorem node_dec {n : Nat} (h : n < 64) : node (decDigits n) = some n := by
  unfold node
  rw [if_pos ⟨List.all_eq_true.2 (dec_dig n), by rw [val_dec]; exact h, by rw [val_dec]⟩, val_dec]
theorem node_none_of {l : List UInt8} (h : ∀ n, n < 64 → decDigits n = l → False) : node l = none := by
  cases e : node l with
  | none => rfl
  | some n => exact (h n (node_some e).1 (node_some e).2).elim
theorem node_no_dig {l : List UInt8} (i : Nat) (hi : i < l.length) (h : ¬ (48 ≤ l[i].toNat ∧ l[i].toNat ≤ 57)) : node l = none :=
  node_none_of fun n _ e => by subst e; exact h (of_decide_eq_true (dec_dig n _ (List.getElem_mem hi)))
theorem node_no_big {l : List UInt8} (i : Nat) (h : 64 ≤ val (l.take i)) : node l = none :=
  node_none_of fun n hn e => by subst e; have := val_take (decDigits n) i; rw [val_dec] at this; omega
theorem node_no_zero {l : List UInt8} (h1 : 1 < l.length) (h : l[0].toNat = 48) : node l = none :=
  node_none_of fun n hn e => by
    subst e
    by_cases h0 : n < 10
    · rw [decDigits_one h0] at h1; simp at h1
    · cases e1 : decDigits n with
      | nil => rw [e1] at h1; simp at h1
      | cons c t =>
        have := dec_head n (by omega) c t e1
        simp [e1] at h
        exact this h
theorem node_no_nil {l : List UInt8} (h : l.length = 0) : node l = none :=
  node_none_of fun n _ e => by have := dec_ne n; rw [e] at this; omega
theorem node_yes {l : List UInt8} (h1 : 0 < l.length) (h2 : ∀ b ∈ l, isDig b = true) (h3 : val l < 64) (h4 : 1 < l.length → l[0].toNat ≠ 48) : node l = some (val l) := by
  have h0 : ∀ b t, l = b :: t → t ≠ [] → b.toNat ≠ 48 := by
    intro b t e ht
    subst e
    have := h4 (by cases t with | nil => exact absurd rfl ht | cons _ _ => simp)
    simpa using this
  unfold node
  rw [if_pos ⟨List.all_eq_true.2 h2, h3, dec_val l (by intro e; simp [e] at h1) h2 h0⟩]

/-- What a shown name says: a name, and no number; or a name and its number. -/
def says (l : List UInt8) : Option (List UInt8 × Option Nat) :=
  if isName (l.take (endOf l)) = true then
    if endOf l = l.length then some (l, none) else (node (l.drop (endOf l + 1))).map fun n => (l.take (endOf l), some n)
  else none

/-- A twin's shown name. -/
def twin (l : List UInt8) (n : Nat) : List UInt8 := l ++ (126 : UInt8) :: decDigits n

theorem name_no_mark {l : List UInt8} (h : isName l = true) (i : Nat) (hi : i < l.length) : l[i].toNat ≠ 126 := by
  have := isName_at h i hi; omega
theorem says_twin {l : List UInt8} {n : Nat} (h : isName l = true) (hn : n < 64) : says (twin l n) = some (l, some n) := by
  have he : endOf (twin l n) = l.length := endOf_app l (decDigits n) (name_no_mark h)
  have ht : (twin l n).take l.length = l := by unfold twin; simp
  have hd : (twin l n).drop (l.length + 1) = decDigits n := by unfold twin; simp
  have hne : ¬ l.length = (twin l n).length := by unfold twin; simp
  unfold says
  rw [he, ht, if_pos h, if_neg hne, hd, node_dec hn]; rfl
theorem says_name {l : List UInt8} (h : isName l = true) : says l = some (l, none) := by
  have he := endOf_none l (name_no_mark h)
  unfold says
  rw [he, List.take_length, if_pos h, if_pos rfl]
theorem twin_no_name {l : List UInt8} {n : Nat} : isName (twin l n) = false := by
  refine isName_bad l.length (by unfold twin; simp) ?_
  simp [twin]
theorem twin_inj {a b : List UInt8} {m n : Nat} (ha : isName a = true) (hb : isName b = true) (hm : m < 64) (hn : n < 64) (h : twin a m = twin b n) : a = b ∧ m = n := by
  have h1 := says_twin ha hm
  rw [h, says_twin hb hn] at h1
  have h2 := Option.some.inj h1
  exact ⟨(Prod.mk.inj h2).1.symm, (Option.some.inj (Prod.mk.inj h2).2).symm⟩
theorem split_at {l : List UInt8} (h : endOf l < l.length) : l = l.take (endOf l) ++ (126 : UInt8) :: l.drop (endOf l + 1) := by
  have e : l[endOf l] = (126 : UInt8) := UInt8.toNat_inj.1 (endOf_at l h)
  calc l = l.take (endOf l) ++ l.drop (endOf l) := (List.take_append_drop _ _).symm
    _ = _ := by rw [List.drop_eq_getElem_cons h, e]
theorem says_none_name {l : List UInt8} (h : says l = none) : isName l = false := by
  cases e : isName l
  · rfl
  · rw [says_name e] at h; cases h
theorem says_some {l t : List UInt8} {o : Option Nat} (h : says l = some (t, o)) : isName t = true ∧ (o = none ∧ t = l ∨ ∃ n, o = some n ∧ n < 64 ∧ twin t n = l) := by
  unfold says at h
  split at h
  · rename_i h1
    split at h
    · rename_i h2
      obtain ⟨rfl, rfl⟩ := Prod.mk.inj (Option.some.inj h)
      rw [h2, List.take_length] at h1
      exact ⟨h1, Or.inl ⟨rfl, rfl⟩⟩
    · rename_i h2
      obtain ⟨n, h3, h4⟩ := Option.map_eq_some_iff.1 h
      obtain ⟨rfl, rfl⟩ := Prod.mk.inj h4
      obtain ⟨h5, h6⟩ := node_some h3
      refine ⟨h1, Or.inr ⟨n, rfl, h5, ?_⟩⟩
      unfold twin
      rw [h6]
      have := endOf_le l
      exact (split_at (by omega)).symm
  · cases h

end Go.Proofs.YtfpgfclmmdihjaaGreat.Nam

/- What Right gives, of the program and of the document. -/
namespace Go.Proofs.YtfpgfclmmdihjaaGreat
open Go.RowKit Nam




theorem name_bad {s : ByteArray} (i : Nat) (hi : i < s.size) (h : ¬ (33 ≤ s[i].toNat ∧ s[i].toNat ≤ 125 ∧ s[i].toNat ≠ 47)) : isName (L s) = false :=
  isName_bad i (by rw [L_len]; exact hi) h
theorem name_short {s : ByteArray} (h : ¬ (1 ≤ s.size ∧ s.size ≤ 16)) : isName (L s) = false := isName_short (by rw [L_len]; exact h)
theorem name_of {s : ByteArray} (h1 : 1 ≤ s.size ∧ s.size ≤ 16) (h2 : ∀ i (h : i < s.size), 33 ≤ s[i].toNat ∧ s[i].toNat ≤ 125 ∧ s[i].toNat ≠ 47) : isName (L s) = true := by
  refine isName_of (by rw [L_len]; exact h1) fun b hb => ?_
  obtain ⟨i, hi, rfl⟩ := List.getElem_of_mem hb
  rw [L_len] at hi
  exact decide_eq_true (h2 i hi)

def good (s : ByteArray) (k : Nat) : Prop := ∀ i (h : i < s.size), i < k → 33 ≤ s[i].toNat ∧ s[i].toNat ≤ 125 ∧ s[i].toNat ≠ 47
theorem good_next {s : ByteArray} {k : Nat} (h : good s k) (hk : k < s.size) (hb : 33 ≤ s[k].toNat ∧ s[k].toNat ≤ 125 ∧ s[k].toNat ≠ 47) : good s (k + 1) := by
  intro i hi hik
  by_cases e : i = k
  · subst e; exact hb
  · exact h i hi (by omega)

set_option maxHeartbeats 1000000 in
theorem nmRight_any (s : ByteArray) (w : World) (hs : s.size ≤ 9223372036854775807) : Calls Tryz.prog 81 #[.string s] w fun e w' => e = .returned (.bool (isName (L s))) ∧ w = w' := by
  by_cases h0 : s.size = 0
  · have HN := Lib.hid (name_short (s := s) (by omega))
    go_enter Tryz.func81, Tryz.ntmps81
    go_wp2
    go_ret
    exact ⟨ret_bool HN.out, rfl⟩
  · have he : ((s.size : Int) == 0) = false := by simp [h0]
    by_cases h16 : 16 < s.size
    · have HN := Lib.hid (name_short (s := s) (by omega))
      go_enter Tryz.func81, Tryz.ntmps81
      go_wp2
      go_ret
      exact ⟨ret_bool HN.out, rfl⟩
    · have hd : decide (16 < (s.size : Int)) = false := decide_eq_false (by omega)
      go_enter Tryz.func81, Tryz.ntmps81
      go_wp2
      go_loop [14] (fun i => ∃ k : Nat, k ≤ s.size ∧ i = .int .i64 k ∧ Hid (good s k)) (fun i => s.size - (intOf i).toNat)
      case atStart => exact ⟨0, Nat.zero_le _, rfl, fun i _ h => absurd h (by omega)⟩
      case round =>
        obtain ⟨k, hk, rfl, hg⟩ := hrel
        by_cases hlt : k < s.size
        · by_cases hb : 33 ≤ s[k].toNat ∧ s[k].toNat ≤ 125 ∧ s[k].toNat ≠ 47
          · have HG := Lib.hid (good_next hg.out hlt hb)
            obtain ⟨hb1, hb2, hb3⟩ := hb
            have hb4 : ((s[k].toNat : Int) == 47) = false := by simp; omega
            go_wp2
            go_round
            case rel => exact ⟨k + 1, by omega, by go_num, HG.out⟩
            case measure => simp [intOf]; omega
          · have HN := Lib.hid (name_bad k hlt hb)
            by_cases hb1 : s[k].toNat < 33
            · clear hb
              go_wp2
              go_ret
              exact ⟨ret_bool HN.out, rfl⟩
            · by_cases hb2 : 125 < s[k].toNat
              · clear hb
                go_wp2
                go_ret
                exact ⟨ret_bool HN.out, rfl⟩
              · have hb3 : ((s[k].toNat : Int) == 47) = true := by simp; omega
                clear hb
                go_wp2
                go_ret
                exact ⟨ret_bool HN.out, rfl⟩
        · obtain rfl : k = s.size := by omega
          have HN := Lib.hid (name_of (s := s) (by omega) (fun i h => hg.out i h h))
          go_wp2
          go_ret
          exact ⟨ret_bool HN.out, rfl⟩

set_option maxHeartbeats 1000000 in
theorem nmRefRight_any (s : ByteArray) (w : World) (hs : s.size ≤ 9223372036854775807) : Calls Tryz.prog 87 #[.string s] w fun e w' => e = .returned (.bool (isName (L s))) ∧ w = w' := by
  go_enter Tryz.func87, Tryz.ntmps87
  go_wp2
  go_loop [3] (fun i => ∃ k : Nat, k ≤ s.size ∧ i = .int .i64 k ∧ Hid (good s k)) (fun i => s.size - (intOf i).toNat)
  case atStart => exact ⟨0, Nat.zero_le _, rfl, fun i _ h => absurd h (by omega)⟩
  case round =>
    obtain ⟨k, hk, rfl, hg⟩ := hrel
    by_cases hlt : k < s.size
    · by_cases hb : 33 ≤ s[k].toNat ∧ s[k].toNat ≤ 125 ∧ s[k].toNat ≠ 47
      · have HG := Lib.hid (good_next hg.out hlt hb)
        obtain ⟨hb1, hb2, hb3⟩ := hb
        have hb4 : ((s[k].toNat : Int) == 47) = false := by simp; omega
        go_wp2
        go_round
        case rel => exact ⟨k + 1, by omega, by go_num, HG.out⟩
        case measure => simp [intOf]; omega
      · have HN := Lib.hid (name_bad k hlt hb)
        by_cases hb1 : s[k].toNat < 33
        · clear hb
          go_wp2
          go_ret
          exact ⟨ret_bool HN.out, rfl⟩
        · by_cases hb2 : 125 < s[k].toNat
          · clear hb
            go_wp2
            go_ret
            exact ⟨ret_bool HN.out, rfl⟩
          · have hb3 : ((s[k].toNat : Int) == 47) = true := by simp; omega
            clear hb
            go_wp2
            go_ret
            exact ⟨ret_bool HN.out, rfl⟩
    · obtain rfl : k = s.size := by omega
      by_cases h0 : s.size = 0
      · have HN := Lib.hid (name_short (s := s) (by omega))
        go_wp2
        go_ret
        exact ⟨ret_bool HN.out, rfl⟩
      · by_cases h16 : 16 < s.size
        · have HN := Lib.hid (name_short (s := s) (by omega))
          go_wp2
          go_ret
          exact ⟨ret_bool (HN.out.trans (decide_eq_false (by omega)).symm), rfl⟩
        · have HN := Lib.hid (name_of (s := s) (by omega) (fun i h => hg.out i h h))
          go_wp2
          go_ret
          exact ⟨ret_bool (HN.out.trans (decide_eq_true (by omega)).symm), rfl⟩

end Go.Proofs.YtfpgfclmmdihjaaGreat

/- What Right gives, of the program and of the document: layer op. -/
namespace Go.Proofs.YtfpgfclmmdihjaaGreat
open Go.RowKit Nam

def atB (C D : Int) : Bool := decide (1 ≤ C ∧ C ≤ 1099511627776 ∧ 0 ≤ D ∧ D < 12)
def cntB (n : Int) : Bool := decide (1 ≤ n ∧ n ≤ 1099511627776)
def mvB (K U : Int) : Bool := decide (2 ≤ K ∧ K < 64 ∧ 0 ≤ U ∧ U < 64 ∧ K ≠ U)
def opB (C D I M K U : Int) (s : ByteArray) : Bool := atB C D && (cntB I && (cntB M && (mvB K U && isName (L s))))
theorem bool_of {p : Prop} [Decidable p] {b : Bool} (h : b = true ↔ p) : Value.bool b = .bool (decide p) := by
  congr 1; rw [Bool.eq_iff_iff, h, decide_eq_true_iff]
theorem atB_right {C D : Int} (h : rightB C D = true) : atB C D = decide (1 ≤ C) := by
  have := rightB_iff.1 h
  unfold atB; rw [Bool.eq_iff_iff, decide_eq_true_iff, decide_eq_true_iff]; omega
theorem atB_wrong {C D : Int} (h : rightB C D = false) : atB C D = false := by
  unfold rightB at h; unfold atB; rw [decide_eq_false_iff_not] at h ⊢; omega

theorem rightAt_any (C D : Int) (w : World) : Calls Tryz.prog 78 #[.agg #[.int .i64 C, .int .i64 D]] w fun e w' => e = .returned (.bool (atB C D)) ∧ Below w.heap.size w w' := by
  have c := fun w => stRight_any C D w
  cases h : rightB C D
  · have HA := Lib.hid (atB_wrong h)
    rw [h] at c
    have H := Lib.hid c
    clear c h
    go_enter Tryz.func78, Tryz.ntmps78
    go_wp2_with (go_at_call 94; (with_reducible refine (H.out _).mono ?_); rintro e w1 ⟨rfl, hb⟩; obtain ⟨hc, hf⟩ := bcell hb)
    go_ret
    exact ⟨ret_bool HA.out, below_then (below_alloc (Below.refl _ _) _) hb⟩
  · have HA := Lib.hid (atB_right h)
    rw [h] at c
    have H := Lib.hid c
    clear c h
    go_enter Tryz.func78, Tryz.ntmps78
    go_wp2_with (go_at_call 94; (with_reducible refine (H.out _).mono ?_); rintro e w1 ⟨rfl, hb⟩; obtain ⟨hc, hf⟩ := bcell hb)
    go_ret
    exact ⟨ret_bool HA.out, below_then (below_alloc (Below.refl _ _) _) hb⟩

theorem rightCount_any (n : Int) (w : World) : Calls Tryz.prog 79 #[.int .i64 n] w fun e w' => e = .returned (.bool (cntB n)) ∧ w = w' := by
  go_enter Tryz.func79, Tryz.ntmps79
  go_wp2
  all_goals go_ret
  all_goals exact ⟨ret_of (bool_of (by simp; omega)), rfl⟩

theorem rightMove_any (K U : Int) (w : World) : Calls Tryz.prog 80 #[.int .i64 K, .int .i64 U] w fun e w' => e = .returned (.bool (mvB K U)) ∧ w = w' := by
  go_enter Tryz.func80, Tryz.ntmps80
  go_wp2
  all_goals go_ret
  all_goals exact ⟨ret_of (bool_of (by simp; omega)), rfl⟩

set_option maxHeartbeats 2000000 in
theorem opRight_any (C D I M K U : Int) (s : ByteArray) (w : World) (hs : s.size ≤ 9223372036854775807) :
    Calls Tryz.prog 63 #[.agg #[.int .i64 C, .int .i64 D, .int .i64 I, .int .i64 M, .int .i64 K, .int .i64 U, .string s]] w fun e w' => e = .returned (.bool (opB C D I M K U s)) ∧ Below w.heap.size w w' := by
  have c1 := fun w => rightAt_any C D w
  have c2 := fun w => rightCount_any I w
  have c3 := fun w => rightCount_any M w
  have c4 := fun w => rightMove_any K U w
  have H5 := Lib.hid (fun w => nmRight_any s w hs)
  unfold opB
  generalize atB C D = a at *
  generalize cntB I = b at *
  generalize cntB M = c at *
  generalize mvB K U = d at *
  have H1 := Lib.hid c1
  have H2 := Lib.hid c2
  have H3 := Lib.hid c3
  have H4 := Lib.hid c4
  clear c1 c2 c3 c4
  generalize isName (L s) = x at *
  rcases a with _ | _
  rotate_left
  rcases b with _ | _
  rotate_left
  rcases c with _ | _
  rotate_left
  rcases d with _ | _
  all_goals
    go_enter Tryz.func63, Tryz.ntmps63
    go_wp2_with (first | (go_at_call 78; (with_reducible refine (H1.out _).mono ?_); rintro e w1 ⟨rfl, hb⟩; obtain ⟨hc, hf⟩ := bcell hb) | (go_at_call 79; (with_reducible refine (H2.out _).mono ?_); rintro e w2 ⟨rfl, rfl⟩) | (go_at_call 79; (with_reducible refine (H3.out _).mono ?_); rintro e w2 ⟨rfl, rfl⟩) | (go_at_call 80; (with_reducible refine (H4.out _).mono ?_); rintro e w2 ⟨rfl, rfl⟩) | (go_at_call 81; (with_reducible refine (H5.out _).mono ?_); rintro e w2 ⟨rfl, rfl⟩))
    go_ret
    exact ⟨by simp, below_then (below_alloc (Below.refl _ _) _) hb⟩

theorem opB_wrong {C D I M K U : Int} {s : ByteArray} (h : rightB C D = false) : opB C D I M K U s = false := by
  unfold opB; rw [atB_wrong h]; rfl
theorem opB_out {C D I M K U : Int} {s : ByteArray} (h : ¬ (1 ≤ C ∧ 1 ≤ I ∧ I ≤ 1099511627776 ∧ 1 ≤ M ∧ M ≤ 1099511627776 ∧ 2 ≤ K ∧ K < 64 ∧ 0 ≤ U ∧ U < 64 ∧ K ≠ U)) : opB C D I M K U s = false := by
  unfold opB atB cntB mvB
  rw [Bool.eq_false_iff]; intro e
  simp only [Bool.and_eq_true, decide_eq_true_iff] at e
  omega
theorem opB_in {C D I M K U : Int} {s : ByteArray} (h0 : rightB C D = true) (h : 1 ≤ C ∧ 1 ≤ I ∧ I ≤ 1099511627776 ∧ 1 ≤ M ∧ M ≤ 1099511627776 ∧ 2 ≤ K ∧ K < 64 ∧ 0 ≤ U ∧ U < 64 ∧ K ≠ U) : opB C D I M K U s = isName (L s) := by
  have h0 := rightB_iff.1 h0
  unfold opB atB cntB mvB
  rw [decide_eq_true (by omega), decide_eq_true (by omega), decide_eq_true (by omega), decide_eq_true (by omega)]; simp

set_option maxHeartbeats 4000000 in
theorem opRefRight_any (C D I M K U : Int) (s : ByteArray) (w : World) (hs : s.size ≤ 9223372036854775807) :
    Calls Tryz.prog 69 #[.agg #[.int .i64 C, .int .i64 D, .int .i64 I, .int .i64 M, .int .i64 K, .int .i64 U, .string s]] w fun e w' => e = .returned (.bool (opB C D I M K U s)) ∧ Below w.heap.size w w' := by
  have c1 := fun w => stRefRight_any C D w
  have H5 := Lib.hid (fun w => nmRefRight_any s w hs)
  cases h0 : rightB C D
  · have HB := Lib.hid (opB_wrong (I := I) (M := M) (K := K) (U := U) (s := s) h0)
    rw [h0] at c1
    have H1 := Lib.hid c1
    clear c1 h0
    go_enter Tryz.func69, Tryz.ntmps69
    go_wp2_with (first | (go_at_call 89; (with_reducible refine (H1.out _).mono ?_); rintro e w1 ⟨rfl, hb⟩; obtain ⟨hc, hf⟩ := bcell hb))
    go_ret
    exact ⟨ret_bool HB.out, below_then (below_alloc (Below.refl _ _) _) hb⟩
  · have HB := Lib.hid (fun h => opB_in (I := I) (M := M) (K := K) (U := U) (s := s) h0 h)
    rw [h0] at c1
    have H1 := Lib.hid c1
    clear c1 h0
    by_cases hin : 1 ≤ C ∧ 1 ≤ I ∧ I ≤ 1099511627776 ∧ 1 ≤ M ∧ M ≤ 1099511627776 ∧ 2 ≤ K ∧ K < 64 ∧ 0 ≤ U ∧ U < 64 ∧ K ≠ U
    · have HB := Lib.hid (HB.out hin)
      generalize isName (L s) = x at *
      obtain ⟨h1, h2, h3, h4, h5, h6, h7, h8, h9, h10⟩ := hin
      have h10' : ¬ U = K := fun e => h10 e.symm
      go_enter Tryz.func69, Tryz.ntmps69
      go_wp2_with (first | (go_at_call 89; (with_reducible refine (H1.out _).mono ?_); rintro e w1 ⟨rfl, hb⟩; obtain ⟨hc, hf⟩ := bcell hb) | (go_at_call 87; (with_reducible refine (H5.out _).mono ?_); rintro e w2 ⟨rfl, rfl⟩))
      go_ret
      exact ⟨ret_bool (by rw [show (U != K) = true by simpa using h10', Bool.true_and]; exact HB.out), below_then (below_alloc (Below.refl _ _) _) hb⟩
    · have HO := Lib.hid (opB_out (s := s) (D := D) hin)
      have HI := Lib.hid hin
      clear hin
      go_enter Tryz.func69, Tryz.ntmps69
      go_wp2_with (first | (go_at_call 89; (with_reducible refine (H1.out _).mono ?_); rintro e w1 ⟨rfl, hb⟩; obtain ⟨hc, hf⟩ := bcell hb) | (go_at_call 87; (with_reducible refine (H5.out _).mono ?_); rintro e w2 ⟨rfl, rfl⟩))
      all_goals go_ret
      all_goals first | exact ⟨ret_bool HO.out, below_then (below_alloc (Below.refl _ _) _) hb⟩ | (have hi := HI.out; have e : (U != K) = false := (by simp; omega); exact ⟨ret_bool (by rw [e]; exact HO.out), below_then (below_alloc (Below.refl _ _) _) hb⟩)
end Go.Proofs.YtfpgfclmmdihjaaGreat

/- Numbers as bytes: what is written is read, and what is read was written so. -/
namespace Go.Proofs.YtfpgfclmmdihjaaGreat.Cod

/-- The bytes of u: seven bits each, the lowest first. -/
def enc (u : Nat) : List UInt8 := if u < 128 then [UInt8.ofNat u] else UInt8.ofNat (u % 128 + 128) :: enc (u / 128)
termination_by u
decreasing_by omega

theorem enc_small {u : Nat} (h : u < 128) : enc u = [UInt8.ofNat u] := by rw [enc, if_pos h]
theorem enc_big {u : Nat} (h : 128 ≤ u) : enc u = UInt8.ofNat (u % 128 + 128) :: enc (u / 128) := by rw [enc, if_neg (by omega)]

theorem enc_pos (u : Nat) : 1 ≤ (enc u).length := by
  by_cases h : u < 128
  · rw [enc_small h]; simp
  · rw [enc_big (by omega)]; simp

theorem enc_len (m : Nat) : ∀ u, u < 128 ^ (m + 1) → (enc u).length ≤ m + 1 := by
  induction m with
  | zero => intro u h; rw [enc_small (by simpa using h)]; simp
  | succ m ih =>
    intro u h
    by_cases hu : u < 128
    · rw [enc_small hu]; simp
    · rw [enc_big (by omega), List.length_cons]
      have := ih (u / 128) (by rw [Nat.pow_succ] at h; omega)
      omega

theorem enc_ten (u : Nat) (h : u < 18446744073709551616) : (enc u).length ≤ 10 := enc_len 9 u (by omega)

theorem enc_mono (a : Nat) : ∀ b, a ≤ b → (enc a).length ≤ (enc b).length := by
  induction a using Nat.strongRecOn with
  | _ a ih =>
    intro b h
    by_cases ha : a < 128
    · rw [enc_small ha]; exact enc_pos b
    · rw [enc_big (by omega), enc_big (u := b) (by omega), List.length_cons, List.length_cons]
      have := ih (a / 128) (by omega) (b / 128) (by omega)
      omega

/-- The number that a list begins with: k bytes of it came already, and are u. -/
def num : List UInt8 → Nat → Nat → Option (Nat × Nat)
  | [], _, _ => none
  | b :: t, k, u =>
    if k = 9 ∧ 1 < b.toNat then none
    else if 128 ≤ b.toNat then num t (k + 1) (u + 2 ^ (7 * k) * (b.toNat % 128))
    else if b.toNat = 0 ∧ 0 < k then none
    else some (u + 2 ^ (7 * k) * b.toNat, k + 1)

theorem two_split (k : Nat) (h : k ≤ 8) : 2 ^ (64 - 7 * k) = 128 * 2 ^ (64 - 7 * (k + 1)) := by
  rw [show 64 - 7 * k = (64 - 7 * (k + 1)) + 7 by omega, Nat.pow_add]
  omega

/-- What is read was written so. -/
theorem num_some : ∀ (l : List UInt8) (k u U K : Nat), k ≤ 9 → num l k u = some (U, K) →
    ∃ V m, U = u + 2 ^ (7 * k) * V ∧ K = k + m ∧ l.take m = enc V ∧ m = (enc V).length ∧ m ≤ l.length ∧ (0 < k → 0 < V) ∧ V < 2 ^ (64 - 7 * k)
  | [], k, u, U, K, _, h => by simp [num] at h
  | b :: t, k, u, U, K, hk, h => by
    have hb := b.toNat_lt
    rw [num] at h
    by_cases h9 : k = 9 ∧ 1 < b.toNat
    · rw [if_pos h9] at h; cases h
    · rw [if_neg h9] at h
      by_cases hm : 128 ≤ b.toNat
      · rw [if_pos hm] at h
        have hk8 : k ≤ 8 := by omega
        obtain ⟨V, m, e1, e2, e3, e4, e5, e6, e7⟩ := num_some t (k + 1) _ U K (by omega) h
        have hV := e6 (by omega)
        have hE : enc (b.toNat % 128 + 128 * V) = b :: enc V := by
          rw [enc_big (by omega), show (b.toNat % 128 + 128 * V) / 128 = V by omega, show (b.toNat % 128 + 128 * V) % 128 + 128 = b.toNat by omega, UInt8.ofNat_toNat]
        refine ⟨b.toNat % 128 + 128 * V, m + 1, ?_, by omega, ?_, ?_, ?_, fun _ => by omega, ?_⟩
        · rw [e1, show 7 * (k + 1) = 7 * k + 7 by omega, Nat.pow_add, Nat.mul_add, Nat.add_assoc, Nat.mul_assoc]
        · rw [List.take_succ_cons, e3, hE]
        · rw [hE, List.length_cons, ← e4]
        · rw [List.length_cons]; omega
        · have h2 := two_split k hk8
          omega
      · rw [if_neg hm] at h
        by_cases h0 : b.toNat = 0 ∧ 0 < k
        · rw [if_pos h0] at h; cases h
        · rw [if_neg h0] at h
          obtain ⟨rfl, rfl⟩ := Prod.mk.inj (Option.some.inj h)
          have hE : enc b.toNat = [b] := by rw [enc_small (by omega), UInt8.ofNat_toNat]
          refine ⟨b.toNat, 1, rfl, rfl, ?_, ?_, by simp, fun hk0 => by omega, ?_⟩
          · rw [hE]; rfl
          · rw [hE]; rfl
          · by_cases e9 : k = 9
            · subst e9; show b.toNat < 2 ^ 1; omega
            · have h2 := two_split k (by omega)
              have : 0 < 2 ^ (64 - 7 * (k + 1)) := Nat.two_pow_pos _
              omega

/-- What is written is read. -/
theorem num_enc (V : Nat) : ∀ (t : List UInt8) (k u : Nat), k ≤ 9 → (0 < k → 0 < V) → V < 2 ^ (64 - 7 * k) → num (enc V ++ t) k u = some (u + 2 ^ (7 * k) * V, k + (enc V).length) := by
  induction V using Nat.strongRecOn with
  | _ V ih =>
    intro t k u hk h0 hV
    by_cases h : V < 128
    · have hv : (UInt8.ofNat V).toNat = V := by rw [UInt8.toNat_ofNat']; omega
      rw [enc_small h, List.singleton_append, num, hv]
      rw [if_neg (by rintro ⟨rfl, h1⟩; have : V < 2 ^ 1 := hV; omega), if_neg (by omega), if_neg (by omega)]
      rfl
    · have hk8 : k ≤ 8 := by
        by_cases e : k = 9
        · subst e; have : V < 2 ^ 1 := hV; omega
        · omega
      have h2 := two_split k hk8
      have hv : (UInt8.ofNat (V % 128 + 128)).toNat = V % 128 + 128 := by rw [UInt8.toNat_ofNat']; omega
      rw [enc_big (by omega), List.cons_append, num, hv]
      rw [if_neg (by omega), if_pos (by omega), ih (V / 128) (by omega) t (k + 1) _ (by omega) (by omega) (by omega)]
      rw [show 7 * (k + 1) = 7 * k + 7 by omega, Nat.pow_add, Nat.mul_assoc, Nat.add_assoc, ← Nat.mul_add, List.length_cons]
      congr 2
      · rw [show (V % 128 + 128) % 128 + 2 ^ 7 * (V / 128) = V by omega]
      · omega

/-- A number's number, and back. -/
def fold (n : Int) : Nat := if n < 0 then (2 * (-1 - n) + 1).toNat else (2 * n).toNat
def unfold (u : Nat) : Int := if u % 2 = 1 then -1 - (u / 2 : Nat) else (u / 2 : Nat)
theorem unfold_fold (n : Int) : unfold (fold n) = n := by
  unfold fold unfold
  by_cases h : n < 0
  · rw [if_pos h, if_pos (by omega)]; omega
  · rw [if_neg h, if_neg (by omega)]; omega
theorem fold_unfold (u : Nat) : fold (unfold u) = u := by
  unfold fold unfold
  by_cases h : u % 2 = 1
  · rw [if_pos h, if_pos (by omega)]; omega
  · rw [if_neg h, if_neg (by omega)]; omega
theorem fold_lt (n : Int) (h1 : -9223372036854775808 ≤ n) (h2 : n ≤ 9223372036854775807) : fold n < 18446744073709551616 := by
  unfold fold; split <;> omega
theorem unfold_bd (u : Nat) (h : u < 18446744073709551616) : -9223372036854775808 ≤ unfold u ∧ unfold u ≤ 9223372036854775807 := by
  unfold unfold; split <;> omega
theorem fold_mono (a b : Int) (h : 0 ≤ a ∧ a ≤ b ∨ a < 0 ∧ b ≤ a) : fold a ≤ fold b := by
  unfold fold; split <;> split <;> omega

/-- The bytes of a number. -/
def bytesOf (n : Int) : ByteArray := ⟨(enc (fold n)).toArray⟩
theorem bytesOf_list (n : Int) : (bytesOf n).data.toList = enc (fold n) := rfl
theorem bytesOf_size (n : Int) : (bytesOf n).size = (enc (fold n)).length := rfl

/-- What is read of a list: the number, and how many bytes it has. -/
def rd (l : List UInt8) : Option (Int × Nat) := (num l 0 0).map fun p => (unfold p.1, p.2)
theorem rd_enc (n : Int) (h1 : -9223372036854775808 ≤ n) (h2 : n ≤ 9223372036854775807) (t : List UInt8) : rd (enc (fold n) ++ t) = some (n, (enc (fold n)).length) := by
  have hf := fold_lt n h1 h2
  unfold rd
  rw [num_enc (fold n) t 0 0 (by omega) (fun h => absurd h (by omega)) (by omega)]
  simp [unfold_fold]
theorem rd_some {l : List UInt8} {n : Int} {m : Nat} (h : rd l = some (n, m)) : l.take m = enc (fold n) ∧ m = (enc (fold n)).length ∧ 1 ≤ m ∧ m ≤ 10 ∧ m ≤ l.length ∧ -9223372036854775808 ≤ n ∧ n ≤ 9223372036854775807 := by
  unfold rd at h
  obtain ⟨⟨U, K⟩, h1, h2⟩ := Option.map_eq_some_iff.1 h
  obtain ⟨rfl, rfl⟩ := Prod.mk.inj h2
  obtain ⟨V, m, e1, e2, e3, e4, e5, _, e7⟩ := num_some l 0 0 U K (by omega) h1
  have hU : U = V := by omega
  have hK : K = m := by omega
  subst hU hK
  have hlt : U < 18446744073709551616 := by omega
  have := enc_ten U hlt
  have := enc_pos U
  have := unfold_bd U hlt
  rw [fold_unfold]
  exact ⟨e3, e4, by omega, by omega, e5, this⟩

end Go.Proofs.YtfpgfclmmdihjaaGreat.Cod

/- What fold, unfold and Num of code give. -/
namespace Go.Proofs.YtfpgfclmmdihjaaGreat
open Go.RowKit Cod


theorem fold_any (n : Int) (w : World) (h1 : -9223372036854775808 ≤ n) (h2 : n ≤ 9223372036854775807) :
    Calls Tryz.prog 53 #[.int .i64 n] w fun e w' => e = .returned (.int .u64 (fold n)) ∧ w = w' := by
  by_cases h : n < 0
  · have HF := Lib.hid (show (2 * (-1 - n) + 1 : Int) = (fold n : Nat) by unfold fold; rw [if_pos h]; omega)
    go_enter Tryz.func53, Tryz.ntmps53
    go_wp2
    go_ret
    exact ⟨ret_int HF.out, rfl⟩
  · have HF := Lib.hid (show (2 * n : Int) = (fold n : Nat) by unfold fold; rw [if_neg h]; omega)
    go_enter Tryz.func53, Tryz.ntmps53
    go_wp2
    go_ret
    exact ⟨ret_int HF.out, rfl⟩

theorem unfold_any (u : Nat) (w : World) (h : u < 18446744073709551616) :
    Calls Tryz.prog 59 #[.int .u64 u] w fun e w' => e = .returned (.int .i64 (unfold u)) ∧ w = w' := by
  have HF := Lib.hid (show unfold u = if u % 2 = 1 then -1 - ((u / 2 : Nat) : Int) else ((u / 2 : Nat) : Int) from rfl)
  by_cases h1 : u % 2 = 1
  · go_enter Tryz.func59, Tryz.ntmps59
    go_wp2
    go_ret
    exact ⟨ret_int (by rw [HF.out, if_pos h1]; omega), rfl⟩
  · go_enter Tryz.func59, Tryz.ntmps59
    go_wp2
    go_ret
    exact ⟨ret_int (by rw [HF.out, if_neg h1]; omega), rfl⟩
end Go.Proofs.YtfpgfclmmdihjaaGreat

/- What Num of code gives. -/
namespace Go.Proofs.YtfpgfclmmdihjaaGreat
open Go.RowKit Cod

theorem or_128 : ∀ x : Nat, x < 256 → bits .or .u8 (x : Int) 128 = ((x % 128 + 128 : Nat) : Int) := by decide +kernel
theorem info5 : (Tryz.prog.info? 5).map (fun i => (i.zero, i.size, i.bytes)) = some (some (.int .u8 0), 1, 1) := by kernel_rfl

/-- Bytes as cells. -/
def cellsB (l : List UInt8) : List Value := l.map fun b => .int .u8 (b.toNat : Int)
theorem cellsB_len (l : List UInt8) : (cellsB l).length = l.length := by unfold cellsB; simp
theorem cellsB_snoc (l : List UInt8) (n : Nat) (h : n < 256) : cellsB l ++ [.int .u8 (n : Int)] = cellsB (l ++ [UInt8.ofNat n]) := by
  have hv : (UInt8.ofNat n).toNat = n := by rw [UInt8.toNat_ofNat']; omega
  unfold cellsB; simp [hv]
theorem cellsB_at (l : List UInt8) (j : Nat) (h : j < l.length) : (cellsB l)[j]? = some (.int .u8 (l[j].toNat : Int)) := by
  unfold cellsB; simp [List.getElem?_eq_getElem h]

theorem own_cells {w : World} {B : Nat} {e : TypeId} {v : Value} {n : Nat} {xs : List Value} (h : w.ownsRowF B e 1 v n xs) (hn : 0 < n) :
    ∃ g cap, v = .slice (some ⟨g, 0, none⟩) n cap ∧ ∀ j u, xs[j]? = some u → w.cell? ⟨g, j, none⟩ = some u := by
  have hc := fun g => h.cells (g := g)
  rcases h.2 with ⟨rfl, hz⟩ | ⟨g, cap, cur, fz, rfl, _⟩
  · omega
  · refine ⟨g, cap, rfl, fun j u hu => ?_⟩
    have := hc g rfl j u hu
    rw [Addr.add_lit, Nat.zero_add] at this; exact this

theorem conv_own {w w0 : World} {B : Nat} {v : Value} {xs : List UInt8} (h : Lib.OwnBuf B 5 v xs.length (cellsB xs) w0 w) (hn : 0 < xs.length) :
    (convert 71 9 v).run Tryz.prog w = .ok (.string ⟨xs.toArray⟩) w := by
  obtain ⟨g, cap, rfl, hc⟩ := own_cells h.1 hn
  refine run_convert_bytes_back (P := Tryz.prog) w 71 9 5 ⟨g, 0, none⟩ cap xs Tryz.underlying71 Tryz.underlying5 Tryz.underlying9 ?_
  intro j hj
  rw [Addr.add_lit, Nat.zero_add]
  exact hc j _ (cellsB_at xs j hj)

set_option maxRecDepth 100000 in
set_option maxHeartbeats 2000000 in
theorem num_any (n : Int) (w : World) (h1 : -9223372036854775808 ≤ n) (h2 : n ≤ 9223372036854775807) :
    Calls Tryz.prog 25 #[.int .i64 n] w fun e w' => e = .returned (.string (bytesOf n)) ∧ Below w.heap.size w w' := by
  have hU := fold_lt n h1 h2
  have cF := fun w => fold_any n w h1 h2
  have hlen := enc_ten (fold n) hU
  have HB := Lib.hid (show bytesOf n = ⟨(enc (fold n)).toArray⟩ from rfl)
  generalize bytesOf n = S at HB ⊢
  generalize fold n = U at hU cF hlen HB
  have CF := Lib.hid cF
  clear cF
  obtain ⟨i0, hi, hz0, hz1, hz2⟩ := info_parts info5
  have HI := Lib.hid hi
  have HZ0 := Lib.hid hz0
  have HZ1 := Lib.hid hz1
  have HZ2 := Lib.hid hz2
  clear hi hz0 hz1 hz2
  go_enter Tryz.func25, Tryz.ntmps25
  go_wp2_with (go_at_call 53; (with_reducible refine (CF.out _).mono ?_); rintro e w1 ⟨rfl, rfl⟩)
  go_loopw [3, 4] (fun v r wr => ∃ (l : List UInt8) (u : Nat), r = .int .u64 u ∧ u < 18446744073709551616 ∧ Lib.OwnBuf w.heap.size 5 v l.length (cellsB l) w wr ∧ Hid (l ++ enc u = enc U)) (fun _ r _ => (intOf r).toNat)
  case atStart => exact ⟨[], U, rfl, hU, ⟨World.ownsRowF_nil _ _ _ _, Below.refl _ _, Nat.le_refl _⟩, rfl⟩
  case round =>
    obtain ⟨l, u, rfl, hu, hown, hl⟩ := hrel
    have hll : l.length + (enc u).length ≤ 10 := by
      have h := congrArg List.length hl
      rw [List.length_append] at h; omega
    have hep := enc_pos u
    by_cases hb : 128 ≤ u
    · obtain ⟨c, hc⟩ : ∃ c : Nat, (u : Int) % 256 = (c : Int) := ⟨u % 256, by omega⟩
      obtain ⟨d, hd⟩ : ∃ d : Nat, d = c % 128 + 128 := ⟨_, rfl⟩
      have hor := or_128 c (by omega)
      rw [← hd] at hor
      have hd2 : d < 256 := by omega
      have HN := Lib.hid (show (l ++ [UInt8.ofNat d]) ++ enc (u / 128) = enc U by
        rw [List.append_assoc, List.singleton_append, show d = u % 128 + 128 by omega, ← enc_big hb]; exact hl)
      have HL := Lib.hid (show (l ++ [UInt8.ofNat d]).length = l.length + 1 by simp)
      have HC := Lib.hid (cellsB_snoc l d hd2)
      clear hd hl
      go_wp2_with (at_builtin; refine Lib.wpList_append_byte rfl (.tmp 11) (.tmp 15) 71 rfl w.heap.size 5 i0 Tryz.underlying71 HI.out HZ0.out HZ1.out HZ2.out _ l.length (cellsB l) rfl w _ _ hown rfl (by omega) ?_; intro v' w1 hown1)
      rw [HC.out, ← HL.out] at hown1
      go_roundw
      case rel => exact ⟨l ++ [UInt8.ofNat d], u / 128, by go_num, by omega, hown1, HN.out⟩
      case measure => simp [intOf]; omega
    · have HE := Lib.hid (show l ++ [UInt8.ofNat u] = enc U by rw [← enc_small (by omega)]; exact hl)
      have HC := Lib.hid (cellsB_snoc l u (by omega))
      clear hl
      go_wp2_with (at_builtin; refine Lib.wpList_append_byte rfl (.tmp 17) (.tmp 20) 71 rfl w.heap.size 5 i0 Tryz.underlying71 HI.out HZ0.out HZ1.out HZ2.out _ l.length (cellsB l) rfl w _ _ hown rfl (by omega) ?_; intro v' w1 hown1)
      have hcv : (convert 71 9 v').run Tryz.prog w1 = .ok (.string S) w1 := by
        rw [HC.out, show l.length + 1 = (l ++ [UInt8.ofNat u]).length by simp] at hown1
        have h := conv_own hown1 (by simp)
        rw [HE.out, ← HB.out] at h
        exact h
      have HO := Lib.hid hown1.2.1
      clear hown1 hown
      rw [hcv]
      go_wp2
      go_ret
      exact ⟨rfl, HO.out⟩
end Go.Proofs.YtfpgfclmmdihjaaGreat

/- The document's Num; Text, Bit, Least of both. -/
namespace Go.Proofs.YtfpgfclmmdihjaaGreat
open Go.RowKit Cod

theorem dl_inj {a b : ByteArray} (h : a.data.toList = b.data.toList) : a = b := by
  cases a; cases b; simp at h; rw [h]
theorem dl_app (a b : ByteArray) : (a ++ b).data.toList = a.data.toList ++ b.data.toList := by simp
theorem dl_len (a : ByteArray) : a.data.toList.length = a.size := by simp

theorem conv1 (d : Nat) (hd : d < 256) (w : World) :
    (convert 71 9 (.slice (some ⟨w.heap.size, 0, none⟩) 1 1)).run Tryz.prog (w.alloc (.cells #[.int .u8 (d : Int)] 5)) = .ok (.string ⟨#[UInt8.ofNat d]⟩) (w.alloc (.cells #[.int .u8 (d : Int)] 5)) := by
  refine run_convert_bytes_back (P := Tryz.prog) _ 71 9 5 ⟨w.heap.size, 0, none⟩ 1 [UInt8.ofNat d] Tryz.underlying71 Tryz.underlying5 Tryz.underlying9 ?_
  intro j hj
  have hv : (UInt8.ofNat d).toNat = d := by rw [UInt8.toNat_ofNat']; omega
  match j, hj with
  | 0, _ => simp [Addr.add, hv]

theorem or_one (x : Nat) (hx : x < 9223372036854775808) : bits .or .u64 ((2 * x : Nat) : Int) 1 = ((2 * x + 1 : Nat) : Int) := by
  have h := u64_or_nat (2 * x) 1 (by omega) (by omega)
  rw [show 2 * x = 2 ^ 1 * x by omega, ← Nat.two_pow_add_eq_or_of_lt (by decide) x] at h
  rw [show 2 * x = 2 ^ 1 * x by omega]
  exact h


theorem bytesOf_pos (n : Int) : 1 ≤ (bytesOf n).size := by rw [bytesOf_size]; exact enc_pos _
theorem bytesOf_le (n : Int) (h1 : -9223372036854775808 ≤ n) (h2 : n ≤ 9223372036854775807) : (bytesOf n).size ≤ 10 := by
  rw [bytesOf_size]; exact enc_ten _ (fold_lt n h1 h2)

/-- A text's bytes. -/
def textOf (s : ByteArray) : ByteArray := bytesOf s.size ++ s

theorem text_any (s : ByteArray) (w : World) (hs : s.size ≤ 1000000) :
    Calls Tryz.prog 73 #[.string s] w fun e w' => e = .returned (.string (textOf s)) ∧ Below w.heap.size w w' := by
  have hb := bytesOf_le s.size (by omega) (by omega)
  have cN := fun w => num_any s.size w (by omega) (by omega)
  unfold textOf
  generalize bytesOf s.size = N at hb cN ⊢
  have CN := Lib.hid cN
  clear cN
  go_enter Tryz.func73, Tryz.ntmps73
  go_wp2_with (go_at_call 25; (with_reducible refine (CN.out _).mono ?_); rintro e w1 ⟨rfl, hb1⟩)
  go_ret
  exact ⟨rfl, hb1⟩

/-- A bool's bytes. -/
def bitOf (b : Bool) : ByteArray := bytesOf (if b then 1 else 0)

end Go.Proofs.YtfpgfclmmdihjaaGreat

/- A scope with several labels; a reader in memory. -/
namespace Go.Proofs.YtfpgfclmmdihjaaGreat
open Go.RowKit Cod

/-- By a goto to label l: J l; else as Q. -/
def jumps (J : Nat → Act → World → Prop) (Q : Exit → Act → World → Prop) : Exit → Act → World → Prop
  | .goto l, a, w => J l a w
  | e, a, w => Q e a w

section
variable {P : Program} {a : Act} {w : World} {Q : Exit → Act → World → Prop} {J : Nat → Act → World → Prop}
theorem jumps_goto (l : Nat) : jumps J Q (.goto l) a w = J l a w := rfl
theorem jumps_ret : jumps J Q .ret a w = Q .ret a w := rfl

/-- What holds at every jump, for each label; a measure that every pass lowers. -/
theorem wp_scope_labels {c : Code} (J : Nat → Act → World → Prop) (μ : Nat → Act → World → Nat) (first : c.wp P (jumps J Q) a w)
    (pass : ∀ l a w, J l a w → ∃ rest, findLabel c l = some rest ∧ rest.wp P (jumps (fun l' a' w' => J l' a' w' ∧ μ l' a' w' < μ l a w) Q) a w) : (Code.scope c).wp P Q a w := by
  intro b k cs
  have key : ∀ n l a w, μ l a w = n → J l a w → ∃ rest, gotoIn l (.inScope c :: k) = some (.code rest :: .inScope c :: k) ∧ ∃ e a' w', Q e a' w' ∧ Arrives P (lone (b.at a (.code rest :: .inScope c :: k)) cs w) b k cs e a' w' := by
    intro n
    induction n using Nat.strongRecOn with
    | _ n ih =>
      intro l a w hn hJ
      obtain ⟨rest, hf, hp⟩ := pass l a w hJ
      refine ⟨rest, by simp [gotoIn, hf], ?_⟩
      obtain ⟨e, a₁, w₁, hq, harr⟩ := hp b (.inScope c :: k) cs
      cases e with
      | normal => exact ⟨.normal, a₁, w₁, hq, Steps.trans harr (.one step_inScope)⟩
      | exit id => exact ⟨.exit id, a₁, w₁, hq, fun k' hk => harr k' (by simp [exitTo, hk])⟩
      | goto l' =>
        obtain ⟨hJ', hlt⟩ := hq
        obtain ⟨rest', hg, e₂, a₂, w₂, hq₂, harr₂⟩ := ih _ (by omega) l' a₁ w₁ rfl hJ'
        exact ⟨e₂, a₂, w₂, hq₂, .of_steps (harr _ hg) harr₂⟩
      | ret => exact ⟨_, a₁, w₁, hq, harr⟩
      | panic ch => exact ⟨_, a₁, w₁, hq, harr⟩
      | outgrown => exact ⟨_, a₁, w₁, hq, harr⟩
  obtain ⟨e, a₁, w₁, hq, harr⟩ := first b (.inScope c :: k) cs
  cases e with
  | normal => exact ⟨.normal, a₁, w₁, hq, .head step_scope (Steps.trans harr (.one step_inScope))⟩
  | exit id => exact ⟨.exit id, a₁, w₁, hq, fun k' hk => .head step_scope (harr k' (by simp [exitTo, hk]))⟩
  | goto l' =>
    obtain ⟨rest', hg, e₂, a₂, w₂, hq₂, harr₂⟩ := key _ l' a₁ w₁ rfl hq
    exact ⟨e₂, a₂, w₂, hq₂, .of_steps (.head step_scope (harr _ hg)) harr₂⟩
  | ret => exact ⟨_, a₁, w₁, hq, .of_steps (.one step_scope) harr⟩
  | panic ch => exact ⟨_, a₁, w₁, hq, .of_steps (.one step_scope) harr⟩
  | outgrown => exact ⟨_, a₁, w₁, hq, .of_steps (.one step_scope) harr⟩
end

/-- In block b lies a reader of type T: its text, where it stands, whether it went wrong. -/
def Rd (T : TypeId) (w : World) (b : Nat) (s : ByteArray) (at_ : Nat) (bad : Bool) : Prop :=
  w.heap[b]? = some (.cells #[.string s, .int .i64 (at_ : Int), .bool bad] T (0, 0))

section
variable {T : TypeId} {w w' : World} {b : Nat} {s : ByteArray} {p : Nat} {bad : Bool}
theorem Rd.lt (h : Rd T w b s p bad) : b < w.heap.size := by
  rcases Nat.lt_or_ge b w.heap.size with hlt | hge
  · exact hlt
  · unfold Rd at h; rw [Array.getElem?_eq_none hge] at h; cases h
theorem Rd.cells (h : Rd T w b s p bad) : w.cell? ⟨b, 0, none⟩ = some (.string s) ∧ w.cell? ⟨b, 1, none⟩ = some (.int .i64 (p : Int)) ∧ w.cell? ⟨b, 2, none⟩ = some (.bool bad) :=
  ⟨cell_of_row w b 0 _ T (0, 0) h, cell_of_row w b 1 _ T (0, 0) h, cell_of_row w b 2 _ T (0, 0) h⟩
theorem Rd.frozen (h : Rd T w b s p bad) (i : Nat) : w.frozen? ⟨b, i, none⟩ = false := by
  unfold Rd at h
  simp [World.frozen?, h]
theorem Rd.new (w : World) (T : TypeId) (s : ByteArray) (p : Int) (h : p = 0) : Rd T (w.alloc (.cells #[.string s, .int .i64 p, .bool false] T)) w.heap.size s 0 false := by
  subst h; exact heap_alloc_new w _
theorem Rd.drewN (h : Rd T w b s p bad) (n : Nat) : Rd T (w.drewN n) b s p bad := h
theorem Rd.keep {row : Option Nat} (h : Rd T w b s p bad) (hg : w.grownBy w' row) (hne : some b ≠ row) : Rd T w' b s p bad := (hg.block b h.lt hne).trans h
theorem Rd.below (h : Rd T w b s p bad) (hg : Below w.heap.size w w') : Rd T w' b s p bad := (hg.block b h.lt).trans h
theorem Rd.setAt (h : Rd T w b s p bad) (q : Nat) : Rd T (w.setCell ⟨b, 1, none⟩ (.int .i64 (q : Int))) b s q bad := by
  unfold Rd at h ⊢
  simp [World.setCell, Array.getElem?_modify, h]
theorem Rd.setBad (h : Rd T w b s p bad) : Rd T (w.setCell ⟨b, 2, none⟩ (.bool true)) b s p true := by
  unfold Rd at h ⊢
  simp [World.setCell, Array.getElem?_modify, h]
end

theorem by_refl (w : World) (r : Option Nat) : w.grownBy w r := ⟨rfl, rfl, rfl, Nat.le_refl _, fun _ _ _ => rfl⟩
theorem by_trans {a b c : World} {r : Option Nat} (h : a.grownBy b r) (k : b.grownBy c r) : a.grownBy c r :=
  ⟨k.os.trans h.os, k.tape.trans h.tape, k.output.trans h.output, Nat.le_trans h.size k.size, fun i hi hn => (k.block i (Nat.lt_of_lt_of_le hi h.size) hn).trans (h.block i hi hn)⟩
theorem by_drewN {a w : World} {r : Option Nat} (h : a.grownBy w r) (n : Nat) : a.grownBy (w.drewN n) r := ⟨h.os, h.tape, h.output, h.size, h.block⟩
theorem by_set {a w : World} {b : Nat} (h : a.grownBy w (some b)) (i : Nat) (u : Value) : a.grownBy (w.setCell ⟨b, i, none⟩ u) (some b) :=
  ⟨h.os, h.tape, h.output, by simpa [World.setCell] using h.size, fun k hk hne => (Below.heap_setCell w _ u k (fun e => hne (congrArg some e))).trans (h.block k hk hne)⟩
theorem by_below {w w' : World} (h : Below w.heap.size w w') (r : Option Nat) : w.grownBy w' r := ⟨h.os, h.tape, h.output, h.size, fun i hi _ => h.block i hi⟩
theorem below_by {W w w' : World} {b : Nat} (h : Below W.heap.size W w) (k : w.grownBy w' (some b)) (hb : W.heap.size ≤ b) : Below W.heap.size W w' :=
  h.grown k h.size (fun _ e => by cases e; exact hb)

end Go.Proofs.YtfpgfclmmdihjaaGreat

/- What Print gives, of the program and of the document: layer op. -/
namespace Go.Proofs.YtfpgfclmmdihjaaGreat
open Go.RowKit Cod

structure Wide (C D I M K U : Int) : Prop where
  c : i64 C
  d : i64 D
  i : i64 I
  m : i64 M
  k : i64 K
  u : i64 U
def printOf (C D I M K U : Int) (s : ByteArray) : ByteArray := bytesOf C ++ bytesOf D ++ bytesOf I ++ bytesOf M ++ bytesOf K ++ bytesOf U ++ textOf s

/-- In block b lies an operation. -/
def OpIn (w : World) (b : Nat) (C D I M K U : Int) (s : ByteArray) : Prop :=
  w.heap[b]? = some (.cells #[.int .i64 C, .int .i64 D, .int .i64 I, .int .i64 M, .int .i64 K, .int .i64 U, .string s] 102 (0, 0))
section
variable {w w' : World} {b : Nat} {C D I M K U : Int} {s : ByteArray}
theorem OpIn.lt (h : OpIn w b C D I M K U s) : b < w.heap.size := by
  rcases Nat.lt_or_ge b w.heap.size with hlt | hge
  · exact hlt
  · unfold OpIn at h; rw [Array.getElem?_eq_none hge] at h; cases h
theorem OpIn.cells (h : OpIn w b C D I M K U s) : w.cell? ⟨b, 0, none⟩ = some (.int .i64 C) ∧ w.cell? ⟨b, 1, none⟩ = some (.int .i64 D) ∧ w.cell? ⟨b, 2, none⟩ = some (.int .i64 I) ∧ w.cell? ⟨b, 3, none⟩ = some (.int .i64 M) ∧ w.cell? ⟨b, 4, none⟩ = some (.int .i64 K) ∧ w.cell? ⟨b, 5, none⟩ = some (.int .i64 U) ∧ w.cell? ⟨b, 6, none⟩ = some (.string s) :=
  ⟨cell_of_row w b 0 _ 102 (0, 0) h, cell_of_row w b 1 _ 102 (0, 0) h, cell_of_row w b 2 _ 102 (0, 0) h, cell_of_row w b 3 _ 102 (0, 0) h, cell_of_row w b 4 _ 102 (0, 0) h, cell_of_row w b 5 _ 102 (0, 0) h, cell_of_row w b 6 _ 102 (0, 0) h⟩
theorem OpIn.frozen (h : OpIn w b C D I M K U s) (i : Nat) : w.frozen? ⟨b, i, none⟩ = false := by
  unfold OpIn at h
  simp [World.frozen?, h]
theorem OpIn.new (w : World) (C D I M K U : Int) (s : ByteArray) : OpIn (w.alloc (.cells #[.int .i64 C, .int .i64 D, .int .i64 I, .int .i64 M, .int .i64 K, .int .i64 U, .string s] 102)) w.heap.size C D I M K U s := heap_alloc_new w _
theorem OpIn.below (h : OpIn w b C D I M K U s) (hg : Below w.heap.size w w') : OpIn w' b C D I M K U s := (hg.block b h.lt).trans h
theorem OpIn.keep {row : Option Nat} (h : OpIn w b C D I M K U s) (hg : w.grownBy w' row) (hne : some b ≠ row) : OpIn w' b C D I M K U s := (hg.block b h.lt hne).trans h
end

theorem text_le (s : ByteArray) (hs : s.size ≤ 1000000) : (textOf s).size ≤ 1000010 := by
  unfold textOf; rw [ByteArray.size_append]
  have := bytesOf_le s.size (by omega) (by omega)
  omega

set_option maxHeartbeats 4000000 in
theorem opPrint_any (C D I M K U : Int) (s : ByteArray) (w : World) (hw : Wide C D I M K U) (hs : s.size ≤ 1000000) :
    Calls Tryz.prog 55 #[.agg #[.int .i64 C, .int .i64 D, .int .i64 I, .int .i64 M, .int .i64 K, .int .i64 U, .string s]] w fun e w' => e = .returned (.string (printOf C D I M K U s)) ∧ Below w.heap.size w w' := by
  obtain ⟨hc, hd, hi, hm, hk, hu⟩ := hw
  have c1 := fun w => num_any C w hc.1 hc.2
  have c2 := fun w => num_any D w hd.1 hd.2
  have c3 := fun w => num_any I w hi.1 hi.2
  have c4 := fun w => num_any M w hm.1 hm.2
  have c5 := fun w => num_any K w hk.1 hk.2
  have c6 := fun w => num_any U w hu.1 hu.2
  have c7 := fun w => text_any s w hs
  have z1 := bytesOf_le C hc.1 hc.2
  have z2 := bytesOf_le D hd.1 hd.2
  have z3 := bytesOf_le I hi.1 hi.2
  have z4 := bytesOf_le M hm.1 hm.2
  have z5 := bytesOf_le K hk.1 hk.2
  have z6 := bytesOf_le U hu.1 hu.2
  have z7 := text_le s hs
  unfold printOf
  clear hc hd hi hm hk hu
  generalize bytesOf C = x1 at *
  generalize bytesOf D = x2 at *
  generalize bytesOf I = x3 at *
  generalize bytesOf M = x4 at *
  generalize bytesOf K = x5 at *
  generalize bytesOf U = x6 at *
  generalize textOf s = x7 at *
  have C1 := Lib.hid c1
  have C2 := Lib.hid c2
  have C3 := Lib.hid c3
  have C4 := Lib.hid c4
  have C5 := Lib.hid c5
  have C6 := Lib.hid c6
  have C7 := Lib.hid c7
  clear c1 c2 c3 c4 c5 c6 c7
  go_enter Tryz.func55, Tryz.ntmps55
  go_wp2
  have hO := OpIn.new w C D I M K U s
  have hB0 := below_alloc (Below.refl w.heap.size w) (.cells #[.int .i64 C, .int .i64 D, .int .i64 I, .int .i64 M, .int .i64 K, .int .i64 U, .string s] 102)
  generalize w.alloc (.cells #[.int .i64 C, .int .i64 D, .int .i64 I, .int .i64 M, .int .i64 K, .int .i64 U, .string s] 102) = W at *
  obtain ⟨g0, g1, g2, g3, g4, g5, g6⟩ := hO.cells
  have k0 := cell_regrown g0
  have k1 := cell_regrown g1
  have k2 := cell_regrown g2
  have k3 := cell_regrown g3
  have k4 := cell_regrown g4
  have k5 := cell_regrown g5
  have k6 := cell_regrown g6
  clear g0 g1 g2 g3 g4 g5 g6 hO
  have d1 : ∀ d os, Calls Tryz.prog 25 #[.int .i64 C] (Sort.grow (redrawn W d) os) fun e w'' => e = .returned (.string x1) ∧ ∃ p : Regrown, w'' = Sort.grow (redrawn W p.d) p.os := fun d os => Calls.regrown_of (C1.out _)
  have d2 : ∀ d os, Calls Tryz.prog 25 #[.int .i64 D] (Sort.grow (redrawn W d) os) fun e w'' => e = .returned (.string x2) ∧ ∃ p : Regrown, w'' = Sort.grow (redrawn W p.d) p.os := fun d os => Calls.regrown_of (C2.out _)
  have d3 : ∀ d os, Calls Tryz.prog 25 #[.int .i64 I] (Sort.grow (redrawn W d) os) fun e w'' => e = .returned (.string x3) ∧ ∃ p : Regrown, w'' = Sort.grow (redrawn W p.d) p.os := fun d os => Calls.regrown_of (C3.out _)
  have d4 : ∀ d os, Calls Tryz.prog 25 #[.int .i64 M] (Sort.grow (redrawn W d) os) fun e w'' => e = .returned (.string x4) ∧ ∃ p : Regrown, w'' = Sort.grow (redrawn W p.d) p.os := fun d os => Calls.regrown_of (C4.out _)
  have d5 : ∀ d os, Calls Tryz.prog 25 #[.int .i64 K] (Sort.grow (redrawn W d) os) fun e w'' => e = .returned (.string x5) ∧ ∃ p : Regrown, w'' = Sort.grow (redrawn W p.d) p.os := fun d os => Calls.regrown_of (C5.out _)
  have d6 : ∀ d os, Calls Tryz.prog 25 #[.int .i64 U] (Sort.grow (redrawn W d) os) fun e w'' => e = .returned (.string x6) ∧ ∃ p : Regrown, w'' = Sort.grow (redrawn W p.d) p.os := fun d os => Calls.regrown_of (C6.out _)
  have d7 : ∀ d os, Calls Tryz.prog 73 #[.string s] (Sort.grow (redrawn W d) os) fun e w'' => e = .returned (.string x7) ∧ ∃ p : Regrown, w'' = Sort.grow (redrawn W p.d) p.os := fun d os => Calls.regrown_of (C7.out _)
  refine wp_region_quiet_below (by kernel_rfl) (by kernel_rfl) ?_
  repeat (go_big_quiet_step ((with_reducible (first | exact d1 _ _ | exact d2 _ _ | exact d3 _ _ | exact d4 _ _ | exact d5 _ _ | exact d6 _ _ | exact d7 _ _))))
  refine wpQuiet_nil ?_
  intro _ hw'
  obtain ⟨⟨dq, osq⟩, hw''⟩ := hw'
  subst hw''
  go_wp2
  go_ret
  exact ⟨rfl, below_then hB0 (below_regrown W dq osq)⟩

end Go.Proofs.YtfpgfclmmdihjaaGreat

/- An operation in a block: stored, loaded, handed back whole. -/
namespace Go.Proofs.YtfpgfclmmdihjaaGreat
open Go.RowKit Cod

def opCells (C D I M K U : Int) (s : ByteArray) : Array Value := #[.int .i64 C, .int .i64 D, .int .i64 I, .int .i64 M, .int .i64 K, .int .i64 U, .string s]
theorem op_size : (Tryz.prog.info? 102).map (·.size) = some 7 := by kernel_rfl

theorem OpIn.set {w : World} {b : Nat} {C D I M K U : Int} {s : ByteArray} (h : OpIn w b C D I M K U s) (C' D' I' M' K' U' : Int) (s' : ByteArray) : OpIn (w.setRow b #[.int .i64 C', .int .i64 D', .int .i64 I', .int .i64 M', .int .i64 K', .int .i64 U', .string s']) b C' D' I' M' K' U' s' := setRow_heap _ _ _ _ _ _ h

theorem OpIn.alloc {w : World} {b : Nat} {C D I M K U : Int} {s : ByteArray} (h : OpIn w b C D I M K U s) (o : Obj) : OpIn (w.alloc o) b C D I M K U s := h.below (below_alloc (Below.refl _ _) o)

theorem store_op {ops : Array Oper} {rest : List Oper} {o : Oper} {a : Act} {w : World} {Q : Exit → Act → World → Prop} (hgd : o.guard = none) (x y : Operand) (ho : o.op = .store 102 x y)
    (b : Nat) (C' D' I' M' K' U' : Int) (s' : ByteArray) (hx : a.eval x = .pointer (some ⟨b, 0, none⟩)) (hy : a.eval y = .agg #[.int .i64 C', .int .i64 D', .int .i64 I', .int .i64 M', .int .i64 K', .int .i64 U', .string s'])
    (C D I M K U : Int) (s : ByteArray) (hg : OpIn w b C D I M K U s)
    (h : wpList Tryz.prog ops Q rest (a.put o.dst undef) (w.setRow b #[.int .i64 C', .int .i64 D', .int .i64 I', .int .i64 M', .int .i64 K', .int .i64 U', .string s'])) : wpList Tryz.prog ops Q (o :: rest) a w :=
  wpList_store_row hgd 102 x y ho b _ hx hy 102 _ hg op_size rfl (by simp [Value.oneCell']) h

theorem load_op {ops : Array Oper} {rest : List Oper} {o : Oper} {a : Act} {w : World} {Q : Exit → Act → World → Prop} (hgd : o.guard = none) (x : Operand) (ho : o.op = .load 102 x)
    (b : Nat) (hx : a.eval x = .pointer (some ⟨b, 0, none⟩)) (C D I M K U : Int) (s : ByteArray) (hg : OpIn w b C D I M K U s)
    (h : wpList Tryz.prog ops Q rest (a.put o.dst (.agg #[.int .i64 C, .int .i64 D, .int .i64 I, .int .i64 M, .int .i64 K, .int .i64 U, .string s])) w) : wpList Tryz.prog ops Q (o :: rest) a w :=
  wpList_load_row hgd 102 x ho b hx 102 _ (0, 0) _ hg Tryz.underlying102 rfl op_size h

theorem load_op_if {ops : Array Oper} {rest : List Oper} {o : Oper} {a : Act} {w : World} {Q : Exit → Act → World → Prop} (hw : Region.wanted o (yielded ops a.tmps) = true) (x : Operand) (ho : o.op = .load 102 x)
    (b : Nat) (hx : a.eval x = .pointer (some ⟨b, 0, none⟩)) (C D I M K U : Int) (s : ByteArray) (hg : OpIn w b C D I M K U s)
    (h : wpList Tryz.prog ops Q rest (a.put o.dst (.agg #[.int .i64 C, .int .i64 D, .int .i64 I, .int .i64 M, .int .i64 K, .int .i64 U, .string s])) w) : wpList Tryz.prog ops Q (o :: rest) a w :=
  BigFrame.wpList_want hw fun _ hK => wp_load_row 102 x ho b hx 102 _ (0, 0) _ hg Tryz.underlying102 rfl op_size (hK _ _ h)

theorem loadVar_op {w : World} {b : Nat} {C D I M K U : Int} {s : ByteArray} (h : OpIn w b C D I M K U s) : (loadVar 102 ⟨b, 0, none⟩).run Tryz.prog w = .ok (.agg #[.int .i64 C, .int .i64 D, .int .i64 I, .int .i64 M, .int .i64 K, .int .i64 U, .string s]) w :=
  run_loadVar_row w b 102 102 _ (0, 0) _ h Tryz.underlying102 rfl op_size

/-- One result, an operation. -/
theorem ret_op1 {fn : Func} {R : Ending → World → Prop} {a : Act} {w : World} {b : Nat} {p : Tmp} {C D I M K U : Int} {s : ByteArray} (h : OpIn w b C D I M K U s) (hr : fn.results = #[.cell p 102]) (hp : a.tmps.getD p undef = .pointer (some ⟨b, 0, none⟩)) (hd : a.defers = [])
    (hR : R (.returned (.agg #[.int .i64 C, .int .i64 D, .int .i64 I, .int .i64 M, .int .i64 K, .int .i64 U, .string s])) w) : bodyPost Tryz.prog fn R .ret a w := by
  exact bodyPost_ret (results_cell_row hr a.tmps w b 102 _ (0, 0) _ hp h Tryz.underlying102 rfl op_size) hd hR

/-- Two results, an operation and a word. -/
theorem ret_op2 {fn : Func} {R : Ending → World → Prop} {a : Act} {w : World} {b : Nat} {p u : Tmp} {v : Value} {C D I M K U : Int} {s : ByteArray} (h : OpIn w b C D I M K U s) (hr : fn.results = #[.cell p 102, .tmp u]) (hp : a.tmps.getD p undef = .pointer (some ⟨b, 0, none⟩)) (hv : a.tmps.getD u undef = v) (hd : a.defers = [])
    (hR : R (.returned (.tuple #[.agg #[.int .i64 C, .int .i64 D, .int .i64 I, .int .i64 M, .int .i64 K, .int .i64 U, .string s], v])) w) : bodyPost Tryz.prog fn R .ret a w := by
  refine bodyPost_ret (v := .tuple #[.agg #[.int .i64 C, .int .i64 D, .int .i64 I, .int .i64 M, .int .i64 K, .int .i64 U, .string s], v]) ?_ hd hR
  rw [results_cell_tmp hr, hp, hv]
  simp only [asAddr, Sem.run_pure, Result.andThen, loadVar_op h]
end Go.Proofs.YtfpgfclmmdihjaaGreat

/- What Num of code's Reader gives. -/
namespace Go.Proofs.YtfpgfclmmdihjaaGreat
open Go.RowKit Cod

theorem andNot_128 : ∀ x : Nat, x < 256 → bits .andNot .u8 (x : Int) 128 = ((x % 128 : Nat) : Int) := by decide +kernel

/-- u has 7k bits: the next ones are laid above them. -/
theorem or_above (k u x : Nat) (hk : k ≤ 9) (hu : u < 2 ^ (7 * k)) (hx : x < 128) (h9 : k = 9 → x ≤ 1) :
    2 ^ (7 * k) * x < 18446744073709551616 ∧ u + 2 ^ (7 * k) * x < 18446744073709551616 ∧ u + 2 ^ (7 * k) * x < 2 ^ (7 * (k + 1)) ∧ bits .or .u64 (u : Int) ((2 ^ (7 * k) * x : Nat) : Int) = ((u + 2 ^ (7 * k) * x : Nat) : Int) := by
  have hp : 2 ^ (7 * (k + 1)) = 2 ^ (7 * k) * 128 := by rw [show 7 * (k + 1) = 7 * k + 7 by omega, Nat.pow_add]
  have h1 : 2 ^ (7 * k) * x + 2 ^ (7 * k) ≤ 2 ^ (7 * k) * 128 := by
    rw [← Nat.mul_succ]; exact Nat.mul_le_mul_left _ (by omega)
  have h2 : 2 ^ (7 * k) * x + 2 ^ (7 * k) ≤ 18446744073709551616 := by
    by_cases e : k = 9
    · subst e
      have := h9 rfl
      have h3 : 2 ^ (7 * 9) * x ≤ 2 ^ (7 * 9) * 1 := Nat.mul_le_mul_left _ this
      have h4 : (2 : Nat) ^ (7 * 9) = 9223372036854775808 := by decide
      omega
    · have h3 : 2 ^ (7 * k) ≤ 2 ^ 56 := Nat.pow_le_pow_right (by decide) (by omega)
      have h4 : 2 ^ (7 * k) * 128 ≤ 2 ^ 56 * 128 := Nat.mul_le_mul_right _ h3
      have h5 : (2 : Nat) ^ 56 * 128 = 9223372036854775808 := by decide
      omega
  refine ⟨by omega, by omega, by omega, ?_⟩
  rw [u64_or_nat _ _ (by omega) (by omega), Nat.or_comm, ← Nat.two_pow_add_eq_or_of_lt hu x, Nat.add_comm]

/-- At the label of the next byte; where it goes wrong. -/
def AtNext (b : Nat) (u mv p : Value) (a : Act) : Prop := ∃ x5 x7 x8 x9 x10 x11 x12 x13 x14 x15 x16 x17 x18 x19 x20 x21 x22 x23 x24 x25 x26 x27 x28 x29 x30 x31 x32 x33 x34 x35 x36 x37 x38 x39 x40 x41 x42 x43 x44 x45 x46 x47 x48 x49 x50 x51 x52 x53 x54 x55 x56 x57 x58 x59 x60 x61 x62 x63 x64 x65 : Value, a = { tmps := #[.pointer (some ⟨b, 0, none⟩), undef, .int .i64 0, u, mv, x5, p, x7, x8, x9, x10, x11, x12, x13, x14, x15, x16, x17, x18, x19, x20, x21, x22, x23, x24, x25, x26, x27, x28, x29, x30, x31, x32, x33, x34, x35, x36, x37, x38, x39, x40, x41, x42, x43, x44, x45, x46, x47, x48, x49, x50, x51, x52, x53, x54, x55, x56, x57, x58, x59, x60, x61, x62, x63, x64, x65], defers := [] }
def AtWrong (b : Nat) (a : Act) : Prop := ∃ u mv p : Value, AtNext b u mv p a

/-- What Num leaves. -/
def NumPost (T : TypeId) (b : Nat) (s : ByteArray) (p : Nat) (w : World) (e : Ending) (w' : World) : Prop :=
  (∃ n m, rd (s.data.toList.drop p) = some (n, m) ∧ e = .returned (.int .i64 n) ∧ Rd T w' b s (p + m) false ∧ w.grownBy w' (some b)) ∨
  (rd (s.data.toList.drop p) = none ∧ e = .returned (.int .i64 0) ∧ (∃ q, q ≤ s.size ∧ Rd T w' b s q true) ∧ w.grownBy w' (some b))

theorem rd_none {l : List UInt8} (h : num l 0 0 = none) : rd l = none := by unfold rd; rw [h]; rfl
theorem rd_of {l : List UInt8} {u m : Nat} (h : num l 0 0 = some (u, m)) : rd l = some (unfold u, m) := by unfold rd; rw [h]; rfl

theorem drop_at (s : ByteArray) (i : Nat) (h : i < s.size) : s.data.toList.drop i = s[i] :: s.data.toList.drop (i + 1) := by
  rw [List.drop_eq_getElem_cons (by simpa using h)]; rfl
theorem drop_end (s : ByteArray) (i : Nat) (h : ¬ i < s.size) : s.data.toList.drop i = [] := List.drop_eq_nil_of_le (by simp; omega)
theorem num_end (k u : Nat) : num [] k u = none := rfl
theorem num_go {c : UInt8} {t : List UInt8} {k u : Nat} (hk : k = 9 → c.toNat ≤ 1) (h : 128 ≤ c.toNat) : num (c :: t) k u = num t (k + 1) (u + 2 ^ (7 * k) * (c.toNat % 128)) := by
  rw [num, if_neg (by rintro ⟨h1, h2⟩; have := hk h1; omega), if_pos h]
theorem num_last {c : UInt8} {t : List UInt8} {k u : Nat} (hk : k = 9 → c.toNat ≤ 1) (h : c.toNat < 128) (h0 : 0 < k → 0 < c.toNat) : num (c :: t) k u = some (u + 2 ^ (7 * k) * (c.toNat % 128), k + 1) := by
  rw [num, if_neg (by rintro ⟨h1, h2⟩; have := hk h1; omega), if_neg (by omega), if_neg (by rintro ⟨h1, h2⟩; have := h0 h2; omega), Nat.mod_eq_of_lt h]
theorem num_over {c : UInt8} {t : List UInt8} {u : Nat} (h : 1 < c.toNat) : num (c :: t) 9 u = none := by
  rw [num, if_pos ⟨rfl, h⟩]
theorem num_more {c : UInt8} {t : List UInt8} {k u : Nat} (hk : 0 < k) (h : c.toNat = 0) : num (c :: t) k u = none := by
  rw [num, if_neg (by omega), if_neg (by omega), if_pos ⟨h, hk⟩]

def NextJ (b : Nat) (s : ByteArray) (p : Nat) (w : World) (l : Nat) (a : Act) (w' : World) : Prop :=
  w = w' ∧ ((l = 1 ∧ ∃ k u : Nat, AtNext b (.int .u64 u) (.int .u64 ((7 * k : Nat) : Int)) (.int .i64 ((p + k : Nat) : Int)) a ∧ k ≤ 9 ∧ 1 ≤ k ∧ p + k ≤ s.size ∧ u < 2 ^ (7 * k) ∧ num (s.data.toList.drop (p + k)) k u = num (s.data.toList.drop p) 0 0) ∨
    (l = 0 ∧ AtWrong b a ∧ num (s.data.toList.drop p) 0 0 = none))
def nextM (l : Nat) (a : Act) (_ : World) : Nat := if l = 1 then (100 - intOf (a.tmps.getD 4 undef)).toNat + 1 else 0

set_option maxRecDepth 100000 in
set_option maxHeartbeats 4000000 in
theorem rnum_any (b : Nat) (s : ByteArray) (p : Nat) (w : World) (hs : s.size ≤ 1000000) (hp : p ≤ s.size) (hr : Rd 60 w b s p false) :
    Calls Tryz.prog 36 #[.pointer (some ⟨b, 0, none⟩)] w (NumPost 60 b s p w) := by
  obtain ⟨hc0, hc1, hc2⟩ := hr.cells
  have hf1 := hr.frozen 1
  have hf2 := hr.frozen 2
  have HR := Lib.hid hr
  clear hr
  go_enter Tryz.func36, Tryz.ntmps36
  go_wp2
  refine wp_scope_labels (NextJ b s p w) nextM ?_ ?_
  · by_cases hlt : p < s.size
    · have hx := s[p].toNat_lt
      obtain ⟨x, hxe⟩ : ∃ x : Nat, x = s[p].toNat % 128 := ⟨_, rfl⟩
      have ha := andNot_128 s[p].toNat hx
      rw [← hxe] at ha
      have hx2 : x < 128 := by omega
      have ho : bits .or .u64 0 (x : Int) = (x : Int) := by
        have h := (or_above 0 0 x (by omega) (by decide) hx2 (by omega)).2.2.2
        simpa using h
      by_cases hm : 128 ≤ s[p].toNat
      · have HN := Lib.hid (show num (s.data.toList.drop (p + 1)) 1 x = num (s.data.toList.drop p) 0 0 by
          rw [drop_at s p hlt, num_go (fun h => absurd h (by decide)) hm, hxe]; simp)
        clear hxe
        go_wp2
        go_step3
        go_wp2
        go_step3
        show NextJ b s p w 1 _ _
        exact ⟨rfl, Or.inl ⟨rfl, 1, x, ⟨_, _, _, _, _, _, _, _, _, _, _, _, _, _, _, _, _, _, _, _, _, _, _, _, _, _, _, _, _, _, _, _, _, _, _, _, _, _, _, _, _, _, _, _, _, _, _, _, _, _, _, _, _, _, _, _, _, _, _, _, rfl⟩, by omega, by omega, by omega, by omega, HN.out⟩⟩
      · have HN := Lib.hid (show rd (s.data.toList.drop p) = some (unfold x, 1) from rd_of (by
          rw [drop_at s p hlt, num_last (fun h => absurd h (by decide)) (by omega) (fun h => absurd h (by decide)), hxe]; simp))
        clear hxe
        have HU := Lib.hid (fun w => unfold_any x w (by omega))
        go_wp2
        go_step3
        go_wp2_with (go_at_call 59; (with_reducible refine (HU.out _).mono ?_); rintro e w1 ⟨rfl, rfl⟩)
        all_goals
          rw [jumps_ret]
          go_ret
          exact Or.inl ⟨_, _, HN.out, rfl, HR.out.setAt _, by_set (by_refl _ _) _ _⟩
    · have HN := Lib.hid (show num (s.data.toList.drop p) 0 0 = none by rw [drop_end s p hlt]; rfl)
      go_wp2
      go_step3
      go_wp2
      go_step3
      show NextJ b s p w 0 _ _
      exact ⟨rfl, Or.inr ⟨rfl, ⟨_, _, _, ⟨_, _, _, _, _, _, _, _, _, _, _, _, _, _, _, _, _, _, _, _, _, _, _, _, _, _, _, _, _, _, _, _, _, _, _, _, _, _, _, _, _, _, _, _, _, _, _, _, _, _, _, _, _, _, _, _, _, _, _, _, rfl⟩⟩, HN.out⟩⟩
  · rintro l a w' ⟨rfl, ⟨rfl, k, u, hA, hk9, hk1, hpk, hu, hnum⟩ | ⟨rfl, hA, hnum⟩⟩
    · refine ⟨_, rfl, ?_⟩
      obtain ⟨q, hq⟩ : ∃ q, p + k = q := ⟨_, rfl⟩
      rw [hq] at hA hpk hnum
      have HQ := Lib.hid hq
      have HN := Lib.hid hnum
      clear hnum hq
      by_cases hlt : q < s.size
      · have hx := s[q].toNat_lt
        have HD := Lib.hid (drop_at s q hlt)
        obtain ⟨x, hxe⟩ : ∃ x : Nat, x = s[q].toNat % 128 := ⟨_, rfl⟩
        have ha := andNot_128 s[q].toNat hx
        rw [← hxe] at ha
        have hx2 : x < 128 := by omega
        have HX := Lib.hid hxe
        clear hxe
        by_cases h9 : k = 9
        · subst h9
          have e63 : ((7 * 9 : Nat) : Int) = 63 := rfl
          rw [e63] at hA
          obtain ⟨x5, x7, x8, x9, x10, x11, x12, x13, x14, x15, x16, x17, x18, x19, x20, x21, x22, x23, x24, x25, x26, x27, x28, x29, x30, x31, x32, x33, x34, x35, x36, x37, x38, x39, x40, x41, x42, x43, x44, x45, x46, x47, x48, x49, x50, x51, x52, x53, x54, x55, x56, x57, x58, x59, x60, x61, x62, x63, x64, x65, rfl⟩ := hA
          by_cases hb1 : 1 < s[q].toNat
          · have HW := Lib.hid (show num (s.data.toList.drop p) 0 0 = none by rw [← HN.out, HD.out, num_over hb1])
            go_wp2
            go_step3
            show NextJ b s p w 0 _ _ ∧ _
            exact ⟨⟨rfl, Or.inr ⟨rfl, ⟨_, _, _, ⟨_, _, _, _, _, _, _, _, _, _, _, _, _, _, _, _, _, _, _, _, _, _, _, _, _, _, _, _, _, _, _, _, _, _, _, _, _, _, _, _, _, _, _, _, _, _, _, _, _, _, _, _, _, _, _, _, _, _, _, _, rfl⟩⟩, HW.out⟩⟩, by simp [nextM]⟩
          · by_cases hb0 : s[q].toNat = 0
            · have HW := Lib.hid (show num (s.data.toList.drop p) 0 0 = none by rw [← HN.out, HD.out, num_more (by omega) hb0])
              go_wp2
              go_step3
              show NextJ b s p w 0 _ _ ∧ _
              exact ⟨⟨rfl, Or.inr ⟨rfl, ⟨_, _, _, ⟨_, _, _, _, _, _, _, _, _, _, _, _, _, _, _, _, _, _, _, _, _, _, _, _, _, _, _, _, _, _, _, _, _, _, _, _, _, _, _, _, _, _, _, _, _, _, _, _, _, _, _, _, _, _, _, _, _, _, _, _, rfl⟩⟩, HW.out⟩⟩, by simp [nextM]⟩
            · obtain ⟨y1, y2, y3, y4⟩ := or_above 9 u x (by omega) hu hx2 (fun _ => by have := HX.out; omega)
              obtain ⟨y, hy⟩ : ∃ y, 2 ^ (7 * 9) * x = y := ⟨_, rfl⟩
              obtain ⟨z, hz⟩ : ∃ z, u + y = z := ⟨_, rfl⟩
              rw [hy] at y1 y2 y3 y4
              rw [hz] at y2 y3 y4
              have hsh : IntKind.u64.wrap ((x : Int) * 9223372036854775808) = (y : Int) := by
                rw [show (x : Int) * 9223372036854775808 = (y : Int) by omega, IntWalk.u64_in _ (by omega)]
              have HW := Lib.hid (show rd (s.data.toList.drop p) = some (unfold z, 9 + 1) from rd_of (by
                rw [← HN.out, HD.out, num_last (fun _ => by omega) (by omega) (fun _ => by omega), ← HX.out, hy, hz]))
              have HU := Lib.hid (fun w => unfold_any z w y2)
              have HS := Lib.hid (show p + 10 = q + 1 by have := HQ.out; omega)
              clear hy hz y3 hu
              go_wp2_with (go_at_call 59; (with_reducible refine (HU.out _).mono ?_); rintro e w1 ⟨rfl, rfl⟩)
              rw [jumps_ret]
              go_ret
              exact Or.inl ⟨_, _, HW.out, rfl, by rw [show p + (9 + 1) = q + 1 from HS.out]; exact HR.out.setAt (q + 1), by_set (by_refl _ _) _ _⟩
        · obtain ⟨y1, y2, y3, y4⟩ := or_above k u x (by omega) hu hx2 (by omega)
          obtain ⟨y, hy⟩ : ∃ y, 2 ^ (7 * k) * x = y := ⟨_, rfl⟩
          obtain ⟨z, hz⟩ : ∃ z, u + y = z := ⟨_, rfl⟩
          rw [hy] at y1 y2 y3 y4
          rw [hz] at y2 y3 y4
          obtain ⟨m, hm⟩ : ∃ m, 7 * k = m := ⟨_, rfl⟩
          rw [hm] at hA
          have hm1 : 7 ≤ m := by omega
          have hm2 : m ≤ 56 := by omega
          have hsh : IntKind.u64.wrap ((x : Int) * 2 ^ m) = (y : Int) := by
            rw [← hm, show (x : Int) * 2 ^ (7 * k) = (y : Int) by rw [← hy, Int.natCast_mul, Int.natCast_pow, Int.mul_comm]; rfl, IntWalk.u64_in _ (by omega)]
          have hm63 : ¬ m = 63 := by omega
          have HM := Lib.hid hm
          have HY := Lib.hid hy
          have HZ := Lib.hid hz
          have HZ3 := Lib.hid y3
          clear hm hy hz y3 hu
          obtain ⟨x5, x7, x8, x9, x10, x11, x12, x13, x14, x15, x16, x17, x18, x19, x20, x21, x22, x23, x24, x25, x26, x27, x28, x29, x30, x31, x32, x33, x34, x35, x36, x37, x38, x39, x40, x41, x42, x43, x44, x45, x46, x47, x48, x49, x50, x51, x52, x53, x54, x55, x56, x57, x58, x59, x60, x61, x62, x63, x64, x65, rfl⟩ := hA
          by_cases hm : 128 ≤ s[q].toNat
          · have HW := Lib.hid (show num (s.data.toList.drop (q + 1)) (k + 1) z = num (s.data.toList.drop p) 0 0 by
              rw [← HN.out, HD.out, num_go (fun h => absurd h h9) hm, ← HX.out, HY.out, HZ.out])
            go_wp2
            go_step3
            show NextJ b s p w 1 _ _ ∧ _
            refine ⟨⟨rfl, Or.inl ⟨rfl, k + 1, z, ?_, by omega, by omega, by have := HQ.out; omega, HZ3.out, ?_⟩⟩, ?_⟩
            · have e1 : ((7 * (k + 1) : Nat) : Int) = (m : Int) + 7 := by have := HM.out; omega
              have e2 : ((p + (k + 1) : Nat) : Int) = (q : Int) + 1 := by have := HQ.out; omega
              rw [e1, e2]
              exact ⟨_, _, _, _, _, _, _, _, _, _, _, _, _, _, _, _, _, _, _, _, _, _, _, _, _, _, _, _, _, _, _, _, _, _, _, _, _, _, _, _, _, _, _, _, _, _, _, _, _, _, _, _, _, _, _, _, _, _, _, _, rfl⟩
            · rw [show p + (k + 1) = q + 1 by have := HQ.out; omega]; exact HW.out
            · simp [nextM, intOf]; omega
          · by_cases hb0 : s[q].toNat = 0
            · have HW := Lib.hid (show num (s.data.toList.drop p) 0 0 = none by rw [← HN.out, HD.out, num_more (by omega) hb0])
              go_wp2
              go_step3
              show NextJ b s p w 0 _ _ ∧ _
              exact ⟨⟨rfl, Or.inr ⟨rfl, ⟨_, _, _, ⟨_, _, _, _, _, _, _, _, _, _, _, _, _, _, _, _, _, _, _, _, _, _, _, _, _, _, _, _, _, _, _, _, _, _, _, _, _, _, _, _, _, _, _, _, _, _, _, _, _, _, _, _, _, _, _, _, _, _, _, _, rfl⟩⟩, HW.out⟩⟩, by simp [nextM]⟩
            · have HW := Lib.hid (show rd (s.data.toList.drop p) = some (unfold z, k + 1) from rd_of (by
                rw [← HN.out, HD.out, num_last (fun h => absurd h h9) (by omega) (fun _ => by omega), ← HX.out, HY.out, HZ.out]))
              have HU := Lib.hid (fun w => unfold_any z w y2)
              have HS := Lib.hid (show p + (k + 1) = q + 1 by have := HQ.out; omega)
              go_wp2_with (go_at_call 59; (with_reducible refine (HU.out _).mono ?_); rintro e w1 ⟨rfl, rfl⟩)
              rw [jumps_ret]
              go_ret
              exact Or.inl ⟨_, _, HW.out, rfl, by rw [HS.out]; exact HR.out.setAt (q + 1), by_set (by_refl _ _) _ _⟩
      · have HW := Lib.hid (show num (s.data.toList.drop p) 0 0 = none by rw [← HN.out, drop_end s q hlt]; rfl)
        obtain ⟨x5, x7, x8, x9, x10, x11, x12, x13, x14, x15, x16, x17, x18, x19, x20, x21, x22, x23, x24, x25, x26, x27, x28, x29, x30, x31, x32, x33, x34, x35, x36, x37, x38, x39, x40, x41, x42, x43, x44, x45, x46, x47, x48, x49, x50, x51, x52, x53, x54, x55, x56, x57, x58, x59, x60, x61, x62, x63, x64, x65, rfl⟩ := hA
        go_wp2
        go_step3
        show NextJ b s p w 0 _ _ ∧ _
        exact ⟨⟨rfl, Or.inr ⟨rfl, ⟨_, _, _, ⟨_, _, _, _, _, _, _, _, _, _, _, _, _, _, _, _, _, _, _, _, _, _, _, _, _, _, _, _, _, _, _, _, _, _, _, _, _, _, _, _, _, _, _, _, _, _, _, _, _, _, _, _, _, _, _, _, _, _, _, _, rfl⟩⟩, HW.out⟩⟩, by simp [nextM]⟩
    · refine ⟨_, rfl, ?_⟩
      obtain ⟨u, mv, q, x5, x7, x8, x9, x10, x11, x12, x13, x14, x15, x16, x17, x18, x19, x20, x21, x22, x23, x24, x25, x26, x27, x28, x29, x30, x31, x32, x33, x34, x35, x36, x37, x38, x39, x40, x41, x42, x43, x44, x45, x46, x47, x48, x49, x50, x51, x52, x53, x54, x55, x56, x57, x58, x59, x60, x61, x62, x63, x64, x65, rfl⟩ := hA
      have HN := Lib.hid (rd_none hnum)
      clear hnum
      go_wp2
      rw [jumps_ret]
      go_ret
      exact Or.inr ⟨HN.out, rfl, ⟨p, hp, HR.out.setBad⟩, by_set (by_refl _ _) _ _⟩
end Go.Proofs.YtfpgfclmmdihjaaGreat

/- What Num of the document's Reader gives; of both, behind Bad. -/
namespace Go.Proofs.YtfpgfclmmdihjaaGreat
open Go.RowKit Cod

theorem and_127 : ∀ x : Nat, x < 256 → bits .and .u8 (x : Int) 127 = ((x % 128 : Nat) : Int) := by decide +kernel
theorem and_one (z : Nat) (h : z < 18446744073709551616) : bits .and .u64 (z : Int) 1 = ((z % 2 : Nat) : Int) := by
  have k := u64_and_nat z 1 h (by decide)
  rw [Nat.and_one_is_mod] at k
  exact k

set_option maxRecDepth 100000 in
set_option maxHeartbeats 4000000 in
theorem refRnum_any (b : Nat) (s : ByteArray) (p : Nat) (w : World) (hs : s.size ≤ 1000000) (hp : p ≤ s.size) (hr : Rd 65 w b s p false) :
    Calls Tryz.prog 19 #[.pointer (some ⟨b, 0, none⟩)] w (NumPost 65 b s p w) := by
  have HR := Lib.hid hr
  clear hr
  go_enter Tryz.func19, Tryz.ntmps19
  go_wp2
  go_loopw [3, 4] (fun uu i wr => ∃ k u q : Nat, uu = .int .u64 u ∧ i = .int .i64 k ∧ k ≤ 9 ∧ q ≤ s.size ∧ Hid (p + k = q) ∧ Hid (u < 2 ^ (7 * k)) ∧ Hid (num (s.data.toList.drop q) k u = num (s.data.toList.drop p) 0 0) ∧ Rd 65 wr b s q false ∧ w.grownBy wr (some b)) (fun _ i _ => 20 - (intOf i).toNat)
  case atStart => exact ⟨0, 0, p, rfl, rfl, by omega, hp, rfl, Nat.one_pos, rfl, HR.out, by_refl _ _⟩
  case round =>
    obtain ⟨k, u, q, rfl, rfl, hk, hq, HQ, HU, HN, hrr, hby⟩ := hrel
    obtain ⟨hc0, hc1, hc2⟩ := hrr.cells
    have hf1 := hrr.frozen 1
    have hf2 := hrr.frozen 2
    have HRR := Lib.hid hrr
    have HBY := Lib.hid hby
    clear hrr hby
    by_cases hlt : q < s.size
    · have hx := s[q].toNat_lt
      have HD := Lib.hid (drop_at s q hlt)
      obtain ⟨x, hxe⟩ : ∃ x : Nat, x = s[q].toNat % 128 := ⟨_, rfl⟩
      have ha := and_127 s[q].toNat hx
      rw [← hxe] at ha
      have hx2 : x < 128 := by omega
      have HX := Lib.hid hxe
      clear hxe
      have hge : decide (s.size ≤ q) = false := decide_eq_false (by omega)
      have hk10 : ¬ k = 10 := by omega
      by_cases h9 : k = 9
      · subst h9
        by_cases hb1 : 1 < s[q].toNat
        · have HW := Lib.hid (show rd (s.data.toList.drop p) = none from rd_none (by rw [← HN.out, HD.out, num_over hb1]))
          go_wp2
          go_quiet (fail)
          go_wp2
          go_quiet (fail)
          go_wp2
          go_ret
          exact Or.inr ⟨HW.out, rfl, ⟨q + 1, by omega, ((HRR.out.drewN _).setAt (q + 1)).setBad⟩, by_set (by_set (by_drewN HBY.out _) _ _) _ _⟩
        · by_cases hb0 : s[q].toNat = 0
          · have HW := Lib.hid (show rd (s.data.toList.drop p) = none from rd_none (by rw [← HN.out, HD.out, num_more (by omega) hb0]))
            go_wp2
            go_quiet (fail)
            go_wp2
            go_quiet (fail)
            go_wp2
            go_ret
            exact Or.inr ⟨HW.out, rfl, ⟨q + 1, by omega, ((HRR.out.drewN _).setAt (q + 1)).setBad⟩, by_set (by_set (by_drewN HBY.out _) _ _) _ _⟩
          · obtain ⟨y1, y2, y3, y4⟩ := or_above 9 u x (by omega) HU.out hx2 (fun _ => by have := HX.out; omega)
            obtain ⟨y, hy⟩ : ∃ y, 2 ^ (7 * 9) * x = y := ⟨_, rfl⟩
            obtain ⟨z, hz⟩ : ∃ z, u + y = z := ⟨_, rfl⟩
            rw [hy] at y1 y2 y3 y4
            rw [hz] at y2 y3 y4
            have hsh : IntKind.u64.wrap ((x : Int) * 9223372036854775808) = (y : Int) := by
              rw [show (x : Int) * 9223372036854775808 = (y : Int) by omega, IntWalk.u64_in _ (by omega)]
            have HW := Lib.hid (show rd (s.data.toList.drop p) = some (unfold z, 9 + 1) from rd_of (by
              rw [← HN.out, HD.out, num_last (fun _ => by omega) (by omega) (fun _ => by omega), ← HX.out, hy, hz]))
            have HS := Lib.hid (show p + 10 = q + 1 by have := HQ.out; omega)
            have HZ := Lib.hid (show unfold z = if z % 2 = 1 then -1 - ((z / 2 : Nat) : Int) else ((z / 2 : Nat) : Int) from rfl)
            have hand := and_one z y2
            clear hy hz y3
            by_cases hz2 : z % 2 = 1
            · go_wp2
              go_quiet (fail)
              go_wp2
              go_quiet (fail)
              go_wp2
              go_ret
              exact Or.inl ⟨_, _, HW.out, ret_int (by rw [HZ.out, if_pos hz2]; omega), by rw [show p + (9 + 1) = q + 1 from HS.out]; exact (HRR.out.drewN _).setAt (q + 1), by_set (by_drewN HBY.out _) _ _⟩
            · go_wp2
              go_quiet (fail)
              go_wp2
              go_quiet (fail)
              go_wp2
              go_ret
              exact Or.inl ⟨_, _, HW.out, ret_int (by rw [HZ.out, if_neg hz2]; omega), by rw [show p + (9 + 1) = q + 1 from HS.out]; exact (HRR.out.drewN _).setAt (q + 1), by_set (by_drewN HBY.out _) _ _⟩
      · obtain ⟨y1, y2, y3, y4⟩ := or_above k u x (by omega) HU.out hx2 (by omega)
        obtain ⟨y, hy⟩ : ∃ y, 2 ^ (7 * k) * x = y := ⟨_, rfl⟩
        obtain ⟨z, hz⟩ : ∃ z, u + y = z := ⟨_, rfl⟩
        rw [hy] at y1 y2 y3 y4
        rw [hz] at y2 y3 y4
        obtain ⟨m, hm⟩ : ∃ m, 7 * k = m := ⟨_, rfl⟩
        have hm1 : m ≤ 56 := by omega
        have hsh : IntKind.u64.wrap ((x : Int) * 2 ^ m) = (y : Int) := by
          rw [← hm, show (x : Int) * 2 ^ (7 * k) = (y : Int) by rw [← hy, Int.natCast_mul, Int.natCast_pow, Int.mul_comm]; rfl, IntWalk.u64_in _ (by omega)]
        have hmi : 7 * (k : Int) = (m : Int) := by omega
        have HZ3 := Lib.hid y3
        have HY := Lib.hid hy
        have HZZ := Lib.hid hz
        have HM := Lib.hid hm
        clear hm hy hz y3
        by_cases hm : 128 ≤ s[q].toNat
        · have HW := Lib.hid (show num (s.data.toList.drop (q + 1)) (k + 1) z = num (s.data.toList.drop p) 0 0 by
            rw [← HN.out, HD.out, num_go (fun h => absurd h h9) hm, ← HX.out, HY.out, HZZ.out])
          have HS := Lib.hid (show p + (k + 1) = q + 1 by have := HQ.out; omega)
          go_wp2
          go_quiet (fail)
          go_wp2
          go_quiet (fail)
          go_wp2
          go_roundw
          case rel => exact ⟨k + 1, z, q + 1, rfl, by go_num, by omega, by omega, HS, HZ3, HW, (HRR.out.drewN _).setAt (q + 1), by_set (by_drewN HBY.out _) _ _⟩
          case measure => simp [intOf]; omega
        · by_cases hb0 : s[q].toNat = 0
          · by_cases hk0 : k = 0
            · have HS := Lib.hid (show p + (k + 1) = q + 1 by have := HQ.out; omega)
              have HW := Lib.hid (show rd (s.data.toList.drop p) = some (unfold z, k + 1) from rd_of (by
                rw [← HN.out, HD.out, num_last (fun h => absurd h h9) (by omega) (fun _ => by omega), ← HX.out, HY.out, HZZ.out]))
              have HZ := Lib.hid (show unfold z = if z % 2 = 1 then -1 - ((z / 2 : Nat) : Int) else ((z / 2 : Nat) : Int) from rfl)
              have hand := and_one z y2
              have ha0 : bits .and .u8 0 127 = (x : Int) := by have h := ha; rw [hb0] at h; exact h
              have hor0 : bits .or .u64 (u : Int) (x : Int) = (z : Int) := by
                have e : x = y := by have := HY.out; rw [hk0, Nat.mul_zero, Nat.pow_zero, Nat.one_mul] at this; exact this
                rw [e]; exact y4
              by_cases hz2 : z % 2 = 1
              · go_wp2
                go_quiet (fail)
                go_wp2
                go_quiet (fail)
                go_wp2
                go_ret
                exact Or.inl ⟨_, _, HW.out, ret_int (by rw [HZ.out, if_pos hz2]; omega), by rw [HS.out]; exact (HRR.out.drewN _).setAt (q + 1), by_set (by_drewN HBY.out _) _ _⟩
              · go_wp2
                go_quiet (fail)
                go_wp2
                go_quiet (fail)
                go_wp2
                go_ret
                exact Or.inl ⟨_, _, HW.out, ret_int (by rw [HZ.out, if_neg hz2]; omega), by rw [HS.out]; exact (HRR.out.drewN _).setAt (q + 1), by_set (by_drewN HBY.out _) _ _⟩
            · have HW := Lib.hid (show rd (s.data.toList.drop p) = none from rd_none (by rw [← HN.out, HD.out, num_more (by omega) hb0]))
              go_wp2
              go_quiet (fail)
              go_wp2
              go_quiet (fail)
              go_wp2
              go_ret
              exact Or.inr ⟨HW.out, rfl, ⟨q + 1, by omega, ((HRR.out.drewN _).setAt (q + 1)).setBad⟩, by_set (by_set (by_drewN HBY.out _) _ _) _ _⟩
          · have HS := Lib.hid (show p + (k + 1) = q + 1 by have := HQ.out; omega)
            have HW := Lib.hid (show rd (s.data.toList.drop p) = some (unfold z, k + 1) from rd_of (by
              rw [← HN.out, HD.out, num_last (fun h => absurd h h9) (by omega) (fun _ => by omega), ← HX.out, HY.out, HZZ.out]))
            have HZ := Lib.hid (show unfold z = if z % 2 = 1 then -1 - ((z / 2 : Nat) : Int) else ((z / 2 : Nat) : Int) from rfl)
            have hand := and_one z y2
            by_cases hz2 : z % 2 = 1
            · go_wp2
              go_quiet (fail)
              go_wp2
              go_quiet (fail)
              go_wp2
              go_ret
              exact Or.inl ⟨_, _, HW.out, ret_int (by rw [HZ.out, if_pos hz2]; omega), by rw [HS.out]; exact (HRR.out.drewN _).setAt (q + 1), by_set (by_drewN HBY.out _) _ _⟩
            · go_wp2
              go_quiet (fail)
              go_wp2
              go_quiet (fail)
              go_wp2
              go_ret
              exact Or.inl ⟨_, _, HW.out, ret_int (by rw [HZ.out, if_neg hz2]; omega), by rw [HS.out]; exact (HRR.out.drewN _).setAt (q + 1), by_set (by_drewN HBY.out _) _ _⟩
    · have HW := Lib.hid (show rd (s.data.toList.drop p) = none from rd_none (by rw [← HN.out, drop_end s q hlt]; rfl))
      have hge : decide (s.size ≤ q) = true := decide_eq_true (by omega)
      go_wp2
      go_quiet (fail)
      go_wp2
      go_ret
      exact Or.inr ⟨HW.out, rfl, ⟨q, hq, (HRR.out.drewN _).setBad⟩, by_set (by_drewN HBY.out _) _ _⟩
end Go.Proofs.YtfpgfclmmdihjaaGreat

/- Num of both Readers, in two words: what comes, or that nothing comes. -/
namespace Go.Proofs.YtfpgfclmmdihjaaGreat
open Go.RowKit Cod

def BadJ (b : Nat) (w : World) (l : Nat) (a : Act) (w' : World) : Prop := w = w' ∧ l = 0 ∧ AtWrong b a

/-- It went wrong already, or nothing comes: the zero value. -/
def No (T : TypeId) (b : Nat) (s : ByteArray) (w : World) (z : Value) (e : Ending) (w' : World) : Prop :=
  e = .returned z ∧ (∃ q, q ≤ s.size ∧ Rd T w' b s q true) ∧ w.grownBy w' (some b)
/-- What comes, and from where on to read. -/
def Yes (T : TypeId) (b : Nat) (s : ByteArray) (w : World) (v : Value) (q : Nat) (e : Ending) (w' : World) : Prop :=
  e = .returned v ∧ Rd T w' b s q false ∧ w.grownBy w' (some b)

set_option maxRecDepth 100000 in
set_option maxHeartbeats 4000000 in
theorem rnum_bad (b : Nat) (s : ByteArray) (p : Nat) (w : World) (hp : p ≤ s.size) (hr : Rd 60 w b s p true) :
    Calls Tryz.prog 36 #[.pointer (some ⟨b, 0, none⟩)] w (No 60 b s w (.int .i64 0)) := by
  obtain ⟨hc0, hc1, hc2⟩ := hr.cells
  have hf2 := hr.frozen 2
  have HR := Lib.hid hr
  clear hr
  go_enter Tryz.func36, Tryz.ntmps36
  go_wp2
  refine wp_scope_labels (BadJ b w) (fun _ _ _ => 0) ?_ ?_
  · go_wp2
    go_step3
    show BadJ b w 0 _ _
    exact ⟨rfl, rfl, ⟨_, _, _, ⟨_, _, _, _, _, _, _, _, _, _, _, _, _, _, _, _, _, _, _, _, _, _, _, _, _, _, _, _, _, _, _, _, _, _, _, _, _, _, _, _, _, _, _, _, _, _, _, _, _, _, _, _, _, _, _, _, _, _, _, _, rfl⟩⟩⟩
  · rintro l a w' ⟨rfl, rfl, hA⟩
    refine ⟨_, rfl, ?_⟩
    obtain ⟨u, mv, q, x5, x7, x8, x9, x10, x11, x12, x13, x14, x15, x16, x17, x18, x19, x20, x21, x22, x23, x24, x25, x26, x27, x28, x29, x30, x31, x32, x33, x34, x35, x36, x37, x38, x39, x40, x41, x42, x43, x44, x45, x46, x47, x48, x49, x50, x51, x52, x53, x54, x55, x56, x57, x58, x59, x60, x61, x62, x63, x64, x65, rfl⟩ := hA
    go_wp2
    rw [jumps_ret]
    go_ret
    exact ⟨rfl, ⟨p, hp, HR.out.setBad⟩, by_set (by_refl _ _) _ _⟩

set_option maxRecDepth 100000 in
set_option maxHeartbeats 4000000 in
theorem refRnum_bad (b : Nat) (s : ByteArray) (p : Nat) (w : World) (hp : p ≤ s.size) (hr : Rd 65 w b s p true) :
    Calls Tryz.prog 19 #[.pointer (some ⟨b, 0, none⟩)] w (No 65 b s w (.int .i64 0)) := by
  obtain ⟨hc0, hc1, hc2⟩ := hr.cells
  have hf2 := hr.frozen 2
  have HR := Lib.hid hr
  clear hr
  go_enter Tryz.func19, Tryz.ntmps19
  go_wp2
  go_loopw [3, 4] (fun u i wr => u = .int .u64 0 ∧ i = .int .i64 0 ∧ w = wr) (fun _ _ _ => 0)
  case atStart => exact ⟨rfl, rfl, rfl⟩
  case round =>
    obtain ⟨rfl, rfl, rfl⟩ := hrel
    go_wp2
    go_ret
    exact ⟨rfl, ⟨p, hp, HR.out.setBad⟩, by_set (by_refl _ _) _ _⟩

theorem list_len (s : ByteArray) (p : Nat) : (s.data.toList.drop p).length = s.size - p := by simp

section
variable {T : TypeId} {b : Nat} {s : ByteArray} {p : Nat} {w : World} {bad : Bool}
theorem post_yes {e : Ending} {w' : World} {n : Int} {m : Nat} (h : rd (s.data.toList.drop p) = some (n, m)) (k : NumPost T b s p w e w') : Yes T b s w (.int .i64 n) (p + m) e w' := by
  rcases k with ⟨n', m', h1, he, hr, hb⟩ | ⟨h1, _⟩
  · rw [h] at h1
    obtain ⟨rfl, rfl⟩ := Prod.mk.inj (Option.some.inj h1)
    exact ⟨he, hr, hb⟩
  · rw [h] at h1; cases h1
theorem post_no {e : Ending} {w' : World} (h : rd (s.data.toList.drop p) = none) (k : NumPost T b s p w e w') : No T b s w (.int .i64 0) e w' := by
  rcases k with ⟨n', m', h1, _⟩ | ⟨_, he, hr, hb⟩
  · rw [h] at h1; cases h1
  · exact ⟨he, hr, hb⟩

/-- The number that stands at p, and what stands behind it. -/
def isNum (s : ByteArray) (p : Nat) (bad : Bool) : Option (Int × Nat) := if bad then none else (rd (s.data.toList.drop p)).map fun x => (x.1, p + x.2)
theorem isNum_some {n : Int} {q : Nat} (h : isNum s p bad = some (n, q)) : bad = false ∧ (∃ m, rd (s.data.toList.drop p) = some (n, m) ∧ q = p + m) ∧ q ≤ s.size ∧ p < q ∧ -9223372036854775808 ≤ n ∧ n ≤ 9223372036854775807 := by
  unfold isNum at h
  cases bad
  · obtain ⟨⟨n', m⟩, h1, h2⟩ := Option.map_eq_some_iff.1 h
    obtain ⟨rfl, rfl⟩ := Prod.mk.inj h2
    obtain ⟨_, _, k1, _, k2, k3, k4⟩ := rd_some h1
    rw [list_len] at k2
    exact ⟨rfl, ⟨m, h1, rfl⟩, by show p + m ≤ _; omega, by show p < p + m; omega, k3, k4⟩
  · cases h
theorem isNum_none (h : isNum s p bad = none) : bad = true ∨ bad = false ∧ rd (s.data.toList.drop p) = none := by
  unfold isNum at h
  cases bad
  · exact Or.inr ⟨rfl, by simpa using h⟩
  · exact Or.inl rfl

theorem rnum_yes {n : Int} {q : Nat} (hs : s.size ≤ 1000000) (hp : p ≤ s.size) (hr : Rd 60 w b s p bad) (h : isNum s p bad = some (n, q)) :
    Calls Tryz.prog 36 #[.pointer (some ⟨b, 0, none⟩)] w (Yes 60 b s w (.int .i64 n) q) := by
  obtain ⟨rfl, ⟨m, h1, rfl⟩, _⟩ := isNum_some h
  exact (rnum_any b s p w hs hp hr).mono fun _ _ k => post_yes h1 k
theorem rnum_no (hs : s.size ≤ 1000000) (hp : p ≤ s.size) (hr : Rd 60 w b s p bad) (h : isNum s p bad = none) :
    Calls Tryz.prog 36 #[.pointer (some ⟨b, 0, none⟩)] w (No 60 b s w (.int .i64 0)) := by
  rcases isNum_none h with rfl | ⟨rfl, h1⟩
  · exact rnum_bad b s p w hp hr
  · exact (rnum_any b s p w hs hp hr).mono fun _ _ k => post_no h1 k
theorem refRnum_yes {n : Int} {q : Nat} (hs : s.size ≤ 1000000) (hp : p ≤ s.size) (hr : Rd 65 w b s p bad) (h : isNum s p bad = some (n, q)) :
    Calls Tryz.prog 19 #[.pointer (some ⟨b, 0, none⟩)] w (Yes 65 b s w (.int .i64 n) q) := by
  obtain ⟨rfl, ⟨m, h1, rfl⟩, _⟩ := isNum_some h
  exact (refRnum_any b s p w hs hp hr).mono fun _ _ k => post_yes h1 k
theorem refRnum_no (hs : s.size ≤ 1000000) (hp : p ≤ s.size) (hr : Rd 65 w b s p bad) (h : isNum s p bad = none) :
    Calls Tryz.prog 19 #[.pointer (some ⟨b, 0, none⟩)] w (No 65 b s w (.int .i64 0)) := by
  rcases isNum_none h with rfl | ⟨rfl, h1⟩
  · exact refRnum_bad b s p w hp hr
  · exact (refRnum_any b s p w hs hp hr).mono fun _ _ k => post_no h1 k
end

end Go.Proofs.YtfpgfclmmdihjaaGreat

/- Count and Bool of both Readers. -/
namespace Go.Proofs.YtfpgfclmmdihjaaGreat
open Go.RowKit Cod

/-- The number from 0 to most that stands at p. -/
def isCount (s : ByteArray) (p : Nat) (bad : Bool) (most : Int) : Option (Int × Nat) :=
  match isNum s p bad with
  | some (n, q) => if 0 ≤ n ∧ n ≤ most then some (n, q) else none
  | none => none

section
variable {b : Nat} {s : ByteArray} {p : Nat} {w : World} {bad : Bool}
theorem isCount_some {most n : Int} {q : Nat} (h : isCount s p bad most = some (n, q)) : isNum s p bad = some (n, q) ∧ 0 ≤ n ∧ n ≤ most := by
  unfold isCount at h
  split at h
  · rename_i n' q' h1
    split at h
    · rename_i h2
      obtain ⟨rfl, rfl⟩ := Prod.mk.inj (Option.some.inj h)
      exact ⟨h1, h2⟩
    · cases h
  · cases h
theorem isCount_none {most : Int} (h : isCount s p bad most = none) : isNum s p bad = none ∨ ∃ n q, isNum s p bad = some (n, q) ∧ (n < 0 ∨ most < n) := by
  unfold isCount at h
  split at h
  · rename_i n' q' h1
    split at h
    · cases h
    · exact Or.inr ⟨n', q', h1, by omega⟩
  · exact Or.inl ‹_›

theorem count_yes {most n : Int} {q : Nat} (hs : s.size ≤ 1000000) (hp : p ≤ s.size) (hr : Rd 60 w b s p bad) (h : isCount s p bad most = some (n, q)) :
    Calls Tryz.prog 15 #[.pointer (some ⟨b, 0, none⟩), .int .i64 most] w (Yes 60 b s w (.int .i64 n) q) := by
  obtain ⟨h1, h2, h3⟩ := isCount_some h
  have CN := Lib.hid (rnum_yes hs hp hr h1)
  clear h h1 hr
  go_enter Tryz.func15, Tryz.ntmps15
  go_wp2_with (go_at_call 36; (with_reducible refine CN.out.mono ?_); rintro e w1 ⟨rfl, hr1, hb1⟩)
  go_ret
  exact ⟨rfl, hr1, hb1⟩

theorem count_no {most : Int} (hs : s.size ≤ 1000000) (hp : p ≤ s.size) (hr : Rd 60 w b s p bad) (h : isCount s p bad most = none) :
    Calls Tryz.prog 15 #[.pointer (some ⟨b, 0, none⟩), .int .i64 most] w (No 60 b s w (.int .i64 0)) := by
  rcases isCount_none h with h1 | ⟨n, q, h1, h2⟩
  · have CN := Lib.hid (rnum_no hs hp hr h1)
    clear h h1 hr
    by_cases hm : most < 0
    · go_enter Tryz.func15, Tryz.ntmps15
      go_wp2_with (go_at_call 36; (with_reducible refine CN.out.mono ?_); rintro e w1 ⟨rfl, ⟨q, hq, hr1⟩, hb1⟩; obtain ⟨hc0, hc1, hc2⟩ := hr1.cells; have hf2 := hr1.frozen 2; have HR := Lib.hid hr1; clear hr1)
      go_ret
      exact ⟨rfl, ⟨q, hq, HR.out.setBad⟩, by_set hb1 _ _⟩
    · go_enter Tryz.func15, Tryz.ntmps15
      go_wp2_with (go_at_call 36; (with_reducible refine CN.out.mono ?_); rintro e w1 ⟨rfl, ⟨q, hq, hr1⟩, hb1⟩)
      go_ret
      exact ⟨rfl, ⟨q, hq, hr1⟩, hb1⟩
  · have CN := Lib.hid (rnum_yes hs hp hr h1)
    have hq := (isNum_some h1).2.2.1
    clear h h1 hr
    rcases h2 with h2 | h2
    · go_enter Tryz.func15, Tryz.ntmps15
      go_wp2_with (go_at_call 36; (with_reducible refine CN.out.mono ?_); rintro e w1 ⟨rfl, hr1, hb1⟩; obtain ⟨hc0, hc1, hc2⟩ := hr1.cells; have hf2 := hr1.frozen 2; have HR := Lib.hid hr1; clear hr1)
      go_ret
      exact ⟨rfl, ⟨q, hq, HR.out.setBad⟩, by_set hb1 _ _⟩
    · by_cases h0 : n < 0
      · go_enter Tryz.func15, Tryz.ntmps15
        go_wp2_with (go_at_call 36; (with_reducible refine CN.out.mono ?_); rintro e w1 ⟨rfl, hr1, hb1⟩; obtain ⟨hc0, hc1, hc2⟩ := hr1.cells; have hf2 := hr1.frozen 2; have HR := Lib.hid hr1; clear hr1)
        go_ret
        exact ⟨rfl, ⟨q, hq, HR.out.setBad⟩, by_set hb1 _ _⟩
      · go_enter Tryz.func15, Tryz.ntmps15
        go_wp2_with (go_at_call 36; (with_reducible refine CN.out.mono ?_); rintro e w1 ⟨rfl, hr1, hb1⟩; obtain ⟨hc0, hc1, hc2⟩ := hr1.cells; have hf2 := hr1.frozen 2; have HR := Lib.hid hr1; clear hr1)
        go_ret
        exact ⟨rfl, ⟨q, hq, HR.out.setBad⟩, by_set hb1 _ _⟩

theorem refCount_yes {most n : Int} {q : Nat} (hs : s.size ≤ 1000000) (hp : p ≤ s.size) (hr : Rd 65 w b s p bad) (h : isCount s p bad most = some (n, q)) :
    Calls Tryz.prog 44 #[.pointer (some ⟨b, 0, none⟩), .int .i64 most] w (Yes 65 b s w (.int .i64 n) q) := by
  obtain ⟨h1, h2, h3⟩ := isCount_some h
  have CN := Lib.hid (refRnum_yes hs hp hr h1)
  clear h h1 hr
  go_enter Tryz.func44, Tryz.ntmps44
  go_wp2_with (go_at_call 19; (with_reducible refine CN.out.mono ?_); rintro e w1 ⟨rfl, hr1, hb1⟩; obtain ⟨hc0, hc1, hc2⟩ := hr1.cells)
  go_ret
  exact ⟨rfl, hr1, hb1⟩

theorem refCount_no {most : Int} (hs : s.size ≤ 1000000) (hp : p ≤ s.size) (hr : Rd 65 w b s p bad) (h : isCount s p bad most = none) :
    Calls Tryz.prog 44 #[.pointer (some ⟨b, 0, none⟩), .int .i64 most] w (No 65 b s w (.int .i64 0)) := by
  rcases isCount_none h with h1 | ⟨n, q, h1, h2⟩
  · have CN := Lib.hid (refRnum_no hs hp hr h1)
    clear h h1 hr
    go_enter Tryz.func44, Tryz.ntmps44
    go_wp2_with (go_at_call 19; (with_reducible refine CN.out.mono ?_); rintro e w1 ⟨rfl, ⟨q, hq, hr1⟩, hb1⟩; obtain ⟨hc0, hc1, hc2⟩ := hr1.cells; have hf2 := hr1.frozen 2; have HR := Lib.hid hr1; clear hr1)
    go_ret
    exact ⟨rfl, ⟨q, hq, HR.out.setBad⟩, by_set hb1 _ _⟩
  · have CN := Lib.hid (refRnum_yes hs hp hr h1)
    have hq := (isNum_some h1).2.2.1
    clear h h1 hr
    by_cases h0 : n < 0
    · go_enter Tryz.func44, Tryz.ntmps44
      go_wp2_with (go_at_call 19; (with_reducible refine CN.out.mono ?_); rintro e w1 ⟨rfl, hr1, hb1⟩; obtain ⟨hc0, hc1, hc2⟩ := hr1.cells; have hf2 := hr1.frozen 2; have HR := Lib.hid hr1; clear hr1)
      go_ret
      exact ⟨rfl, ⟨q, hq, HR.out.setBad⟩, by_set hb1 _ _⟩
    · have h3 : most < n := by omega
      go_enter Tryz.func44, Tryz.ntmps44
      go_wp2_with (go_at_call 19; (with_reducible refine CN.out.mono ?_); rintro e w1 ⟨rfl, hr1, hb1⟩; obtain ⟨hc0, hc1, hc2⟩ := hr1.cells; have hf2 := hr1.frozen 2; have HR := Lib.hid hr1; clear hr1)
      go_ret
      exact ⟨rfl, ⟨q, hq, HR.out.setBad⟩, by_set hb1 _ _⟩

/-- The bool that stands at p. -/
def isBool (s : ByteArray) (p : Nat) (bad : Bool) : Option (Bool × Nat) := (isCount s p bad 1).map fun x => (decide (x.1 = 1), x.2)
theorem isBool_some {v : Bool} {q : Nat} (h : isBool s p bad = some (v, q)) : ∃ n, isCount s p bad 1 = some (n, q) ∧ (n = 1 ∧ v = true ∨ n = 0 ∧ v = false) := by
  unfold isBool at h
  obtain ⟨⟨n, q'⟩, h1, h2⟩ := Option.map_eq_some_iff.1 h
  obtain ⟨rfl, rfl⟩ := Prod.mk.inj h2
  obtain ⟨_, h3, h4⟩ := isCount_some h1
  refine ⟨n, h1, ?_⟩
  by_cases h5 : n = 1
  · exact Or.inl ⟨h5, by simp [h5]⟩
  · exact Or.inr ⟨by omega, by simp [h5]⟩
theorem isBool_none (h : isBool s p bad = none) : isCount s p bad 1 = none := by simpa [isBool] using h

end

end Go.Proofs.YtfpgfclmmdihjaaGreat

/- Text and Done of both Readers. -/
namespace Go.Proofs.YtfpgfclmmdihjaaGreat
open Go.RowKit Cod

/-- The text that stands at p. -/
def isText (s : ByteArray) (p : Nat) (bad : Bool) (most : Int) : Option (ByteArray × Nat) :=
  match isCount s p bad most with
  | some (n, q) => if n.toNat + q ≤ s.size then some (s.extract q (q + n.toNat), q + n.toNat) else none
  | none => none

section
variable {b : Nat} {s : ByteArray} {p : Nat} {w : World} {bad : Bool}
theorem isText_some {most : Int} {t : ByteArray} {e : Nat} (h : isText s p bad most = some (t, e)) : ∃ n q : Nat, isCount s p bad most = some ((n : Int), q) ∧ n + q ≤ s.size ∧ t = s.extract q (q + n) ∧ e = q + n := by
  unfold isText at h
  split at h
  · rename_i n' q' h1
    split at h
    · rename_i h2
      obtain ⟨rfl, rfl⟩ := Prod.mk.inj (Option.some.inj h)
      obtain ⟨_, h3, _⟩ := isCount_some h1
      exact ⟨n'.toNat, q', by rw [Int.toNat_of_nonneg h3]; exact h1, h2, rfl, rfl⟩
    · cases h
  · cases h
theorem isText_none {most : Int} (h : isText s p bad most = none) : isCount s p bad most = none ∨ ∃ n q : Nat, isCount s p bad most = some ((n : Int), q) ∧ s.size < n + q := by
  unfold isText at h
  split at h
  · rename_i n' q' h1
    split at h
    · cases h
    · obtain ⟨_, h3, _⟩ := isCount_some h1
      exact Or.inr ⟨n'.toNat, q', by rw [Int.toNat_of_nonneg h3]; exact h1, by omega⟩
  · exact Or.inl ‹_›

set_option maxHeartbeats 2000000 in
theorem rtext_yes {most : Int} {t : ByteArray} {e : Nat} (hs : s.size ≤ 1000000) (hp : p ≤ s.size) (hr : Rd 60 w b s p bad) (h : isText s p bad most = some (t, e)) :
    Calls Tryz.prog 75 #[.pointer (some ⟨b, 0, none⟩), .int .i64 most] w (Yes 60 b s w (.string t) e) := by
  obtain ⟨n, q, h1, h2, rfl, rfl⟩ := isText_some h
  have CN := Lib.hid (count_yes hs hp hr h1)
  clear h h1 hr
  have hd : decide ((s.size : Int) - (q : Int) < (n : Int)) = false := decide_eq_false (by omega)
  have hn : (n : Int) ≤ (s.size : Int) - (q : Int) := by omega
  have hn2 : (q : Int) + (n : Int) ≤ (s.size : Int) := by omega
  have hn3 : (q : Int) ≤ (q : Int) + (n : Int) := by omega
  go_enter Tryz.func75, Tryz.ntmps75
  go_wp2_with (go_at_call 15; (with_reducible refine CN.out.mono ?_); rintro e w1 ⟨rfl, hr1, hb1⟩; obtain ⟨hc0, hc1, hc2⟩ := hr1.cells; have hf1 := hr1.frozen 1; have HR := Lib.hid hr1; clear hr1)
  go_quiet (fail)
  go_wp2
  go_quiet (fail)
  go_wp2
  go_ret
  exact ⟨rfl, (HR.out.drewN _).setAt (q + n), by_drewN (by_set (by_drewN hb1 _) _ _) _⟩

set_option maxHeartbeats 2000000 in
theorem rtext_no {most : Int} (hs : s.size ≤ 1000000) (hp : p ≤ s.size) (hr : Rd 60 w b s p bad) (h : isText s p bad most = none) :
    Calls Tryz.prog 75 #[.pointer (some ⟨b, 0, none⟩), .int .i64 most] w (No 60 b s w (.string ⟨#[]⟩)) := by
  rcases isText_none h with h1 | ⟨n, q, h1, h2⟩
  · have CN := Lib.hid (count_no hs hp hr h1)
    clear h h1 hr
    go_enter Tryz.func75, Tryz.ntmps75
    go_wp2_with (go_at_call 15; (with_reducible refine CN.out.mono ?_); rintro e w1 ⟨rfl, ⟨q, hq, hr1⟩, hb1⟩; obtain ⟨hc0, hc1, hc2⟩ := hr1.cells; have hf2 := hr1.frozen 2; have HR := Lib.hid hr1; clear hr1)
    go_quiet (fail)
    go_wp2
    go_ret
    exact ⟨rfl, ⟨q, hq, (HR.out.drewN _).setBad⟩, by_set (by_drewN hb1 _) _ _⟩
  · have CN := Lib.hid (count_yes hs hp hr h1)
    have hq := (isNum_some (isCount_some h1).1).2.2.1
    clear h h1 hr
    have hd : decide ((s.size : Int) - (q : Int) < (n : Int)) = true := decide_eq_true (by omega)
    go_enter Tryz.func75, Tryz.ntmps75
    go_wp2_with (go_at_call 15; (with_reducible refine CN.out.mono ?_); rintro e w1 ⟨rfl, hr1, hb1⟩; obtain ⟨hc0, hc1, hc2⟩ := hr1.cells; have hf2 := hr1.frozen 2; have HR := Lib.hid hr1; clear hr1)
    go_quiet (fail)
    go_wp2
    go_ret
    exact ⟨rfl, ⟨q, hq, (HR.out.drewN _).setBad⟩, by_set (by_drewN hb1 _) _ _⟩

set_option maxHeartbeats 2000000 in
theorem refRtext_yes {most : Int} {t : ByteArray} {e : Nat} (hs : s.size ≤ 1000000) (hp : p ≤ s.size) (hr : Rd 65 w b s p bad) (h : isText s p bad most = some (t, e)) :
    Calls Tryz.prog 67 #[.pointer (some ⟨b, 0, none⟩), .int .i64 most] w (Yes 65 b s w (.string t) e) := by
  obtain ⟨n, q, h1, h2, rfl, rfl⟩ := isText_some h
  obtain ⟨h3, h4, h5⟩ := isCount_some h1
  have CN := Lib.hid (refRnum_yes hs hp hr h3)
  clear h h1 hr h3
  have hm : ¬ most < (n : Int) := by omega
  have hm2 : decide (most < (n : Int)) = false := decide_eq_false hm
  have hnn : decide ((n : Int) < 0) = false := decide_eq_false (by omega)
  have hwr : IntKind.i64.wrap ((s.size : Int) - (q : Int)) = (s.size : Int) - (q : Int) := IntWalk.i64_in _ (by omega)
  have hd : decide ((s.size : Int) - (q : Int) < (n : Int)) = false := decide_eq_false (by omega)
  have hn : (n : Int) ≤ (s.size : Int) - (q : Int) := by omega
  have hn2 : (q : Int) + (n : Int) ≤ (s.size : Int) := by omega
  have hn3 : (q : Int) ≤ (q : Int) + (n : Int) := by omega
  go_enter Tryz.func67, Tryz.ntmps67
  go_wp2_with (go_at_call 19; (with_reducible refine CN.out.mono ?_); rintro e w1 ⟨rfl, hr1, hb1⟩; obtain ⟨hc0, hc1, hc2⟩ := hr1.cells; have hf1 := hr1.frozen 1; have HR := Lib.hid hr1; clear hr1)
  go_quiet (fail)
  go_wp2
  go_quiet (fail)
  go_wp2
  go_ret
  exact ⟨rfl, (HR.out.drewN _).setAt (q + n), by_drewN (by_set (by_drewN hb1 _) _ _) _⟩

set_option maxHeartbeats 2000000 in
theorem refRtext_no {most : Int} (hs : s.size ≤ 1000000) (hp : p ≤ s.size) (hr : Rd 65 w b s p bad) (h : isText s p bad most = none) :
    Calls Tryz.prog 67 #[.pointer (some ⟨b, 0, none⟩), .int .i64 most] w (No 65 b s w (.string ⟨#[]⟩)) := by
  rcases isText_none h with h1 | ⟨n, q, h1, h2⟩
  · rcases isCount_none h1 with h1 | ⟨n, q, h1, h2⟩
    · have CN := Lib.hid (refRnum_no hs hp hr h1)
      clear h h1 hr
      go_enter Tryz.func67, Tryz.ntmps67
      go_wp2_with (go_at_call 19; (with_reducible refine CN.out.mono ?_); rintro e w1 ⟨rfl, ⟨q, hq, hr1⟩, hb1⟩; obtain ⟨hc0, hc1, hc2⟩ := hr1.cells; have hf2 := hr1.frozen 2; have HR := Lib.hid hr1; clear hr1)
      go_quiet (fail)
      go_wp2
      go_ret
      exact ⟨rfl, ⟨q, hq, (HR.out.drewN _).setBad⟩, by_set (by_drewN hb1 _) _ _⟩
    · have CN := Lib.hid (refRnum_yes hs hp hr h1)
      have hq := (isNum_some h1).2.2.1
      clear h h1 hr
      by_cases h0 : n < 0
      · have hd0 : decide (n < 0) = true := decide_eq_true h0
        go_enter Tryz.func67, Tryz.ntmps67
        go_wp2_with (go_at_call 19; (with_reducible refine CN.out.mono ?_); rintro e w1 ⟨rfl, hr1, hb1⟩; obtain ⟨hc0, hc1, hc2⟩ := hr1.cells; have hf2 := hr1.frozen 2; have HR := Lib.hid hr1; clear hr1)
        go_quiet (fail)
        go_wp2
        go_ret
        exact ⟨rfl, ⟨q, hq, (HR.out.drewN _).setBad⟩, by_set (by_drewN hb1 _) _ _⟩
      · have hd0 : decide (n < 0) = false := decide_eq_false h0
        have hd1 : decide (most < n) = true := decide_eq_true (by omega)
        go_enter Tryz.func67, Tryz.ntmps67
        go_wp2_with (go_at_call 19; (with_reducible refine CN.out.mono ?_); rintro e w1 ⟨rfl, hr1, hb1⟩; obtain ⟨hc0, hc1, hc2⟩ := hr1.cells; have hf2 := hr1.frozen 2; have HR := Lib.hid hr1; clear hr1)
        go_quiet (fail)
        go_wp2
        go_ret
        exact ⟨rfl, ⟨q, hq, (HR.out.drewN _).setBad⟩, by_set (by_drewN hb1 _) _ _⟩
  · obtain ⟨h3, h4, h5⟩ := isCount_some h1
    have CN := Lib.hid (refRnum_yes hs hp hr h3)
    have hq := (isNum_some h3).2.2.1
    clear h h1 hr h3
    have hm2 : decide (most < (n : Int)) = false := decide_eq_false (by omega)
    have hnn : decide ((n : Int) < 0) = false := decide_eq_false (by omega)
    have hwr : IntKind.i64.wrap ((s.size : Int) - (q : Int)) = (s.size : Int) - (q : Int) := IntWalk.i64_in _ (by omega)
    have hd : decide ((s.size : Int) - (q : Int) < (n : Int)) = true := decide_eq_true (by omega)
    go_enter Tryz.func67, Tryz.ntmps67
    go_wp2_with (go_at_call 19; (with_reducible refine CN.out.mono ?_); rintro e w1 ⟨rfl, hr1, hb1⟩; obtain ⟨hc0, hc1, hc2⟩ := hr1.cells; have hf2 := hr1.frozen 2; have HR := Lib.hid hr1; clear hr1)
    go_quiet (fail)
    go_wp2
    go_ret
    exact ⟨rfl, ⟨q, hq, (HR.out.drewN _).setBad⟩, by_set (by_drewN hb1 _) _ _⟩

/-- Is nothing left, and did nothing go wrong? -/
def isDone (s : ByteArray) (p : Nat) (bad : Bool) : Bool := !bad && decide (p = s.size)

theorem done_any (hp : p ≤ s.size) (hr : Rd 60 w b s p bad) :
    Calls Tryz.prog 18 #[.pointer (some ⟨b, 0, none⟩)] w fun e w' => e = .returned (.bool (isDone s p bad)) ∧ ∃ n, w' = w.drewN n := by
  obtain ⟨hc0, hc1, hc2⟩ := hr.cells
  clear hr
  cases bad
  · by_cases h : p = s.size
    · have HD := Lib.hid (show isDone s p false = true by simp [isDone, h])
      have hd : decide (s.size ≤ p) = true := decide_eq_true (by omega)
      clear h
      go_enter Tryz.func18, Tryz.ntmps18
      go_wp2
      go_quiet (fail)
      go_wp2
      go_ret
      exact ⟨by rw [HD.out]; rfl, _, rfl⟩
    · have HD := Lib.hid (show isDone s p false = false by simp [isDone, h])
      have hd : decide (s.size ≤ p) = false := decide_eq_false (by omega)
      clear h
      go_enter Tryz.func18, Tryz.ntmps18
      go_wp2
      go_quiet (fail)
      go_wp2
      go_ret
      exact ⟨by rw [HD.out]; rfl, _, rfl⟩
  · have HD := Lib.hid (show isDone s p true = false by simp [isDone])
    go_enter Tryz.func18, Tryz.ntmps18
    go_wp2
    go_quiet (fail)
    go_wp2
    go_ret
    exact ⟨by rw [HD.out]; rfl, _, rfl⟩

theorem refDone_any (hr : Rd 65 w b s p bad) :
    Calls Tryz.prog 22 #[.pointer (some ⟨b, 0, none⟩)] w fun e w' => e = .returned (.bool (isDone s p bad)) ∧ ∃ n, w' = w.drewN n := by
  obtain ⟨hc0, hc1, hc2⟩ := hr.cells
  clear hr
  cases bad
  · by_cases h : p = s.size
    · have HD := Lib.hid (show isDone s p false = true by simp [isDone, h])
      have hd : ((p : Int) == (s.size : Int)) = true := by simp [h]
      clear h
      go_enter Tryz.func22, Tryz.ntmps22
      go_wp2
      go_quiet (fail)
      go_wp2
      go_ret
      exact ⟨by rw [HD.out]; rfl, _, rfl⟩
    · have HD := Lib.hid (show isDone s p false = false by simp [isDone, h])
      have hd : ((p : Int) == (s.size : Int)) = false := by simp; omega
      clear h
      go_enter Tryz.func22, Tryz.ntmps22
      go_wp2
      go_quiet (fail)
      go_wp2
      go_ret
      exact ⟨by rw [HD.out]; rfl, _, rfl⟩
  · have HD := Lib.hid (show isDone s p true = false by simp [isDone])
    go_enter Tryz.func22, Tryz.ntmps22
    go_wp2
    go_quiet (fail)
    go_wp2
    go_ret
    exact ⟨by rw [HD.out]; rfl, _, rfl⟩
end

end Go.Proofs.YtfpgfclmmdihjaaGreat

/- A number, a text read, whatever the reader's state; small steps on worlds. -/
namespace Go.Proofs.YtfpgfclmmdihjaaGreat
open Go.RowKit Cod

def numStep (s : ByteArray) (p : Nat) (bad : Bool) (v : Int) (q : Nat) (bad' : Bool) : Prop := (isNum s p bad = some (v, q) ∧ bad' = false) ∨ (isNum s p bad = none ∧ v = 0 ∧ bad' = true)
def textStep (s : ByteArray) (p : Nat) (bad : Bool) (v : ByteArray) (q : Nat) (bad' : Bool) : Prop := (isText s p bad 16 = some (v, q) ∧ bad' = false) ∨ (isText s p bad 16 = none ∧ v = ⟨#[]⟩ ∧ bad' = true)
theorem isNum_bad (s : ByteArray) (p : Nat) : isNum s p true = none := rfl
theorem isText_bad (s : ByteArray) (p : Nat) (m : Int) : isText s p true m = none := by
  rcases h : isText s p true m with _ | ⟨t, e⟩
  · rfl
  · obtain ⟨n, q, h1, _⟩ := isText_some h
    have := (isCount_some h1).1
    rw [isNum_bad] at this; cases this
theorem numStep.good {s : ByteArray} {p : Nat} {bad : Bool} {v : Int} {q : Nat} (h : numStep s p bad v q false) : bad = false ∧ isNum s p false = some (v, q) := by
  rcases h with ⟨h, _⟩ | ⟨_, _, h⟩
  · cases bad
    · exact ⟨rfl, h⟩
    · rw [isNum_bad] at h; cases h
  · cases h
theorem numStep.ill {s : ByteArray} {p : Nat} {bad : Bool} {v : Int} {q : Nat} (h : numStep s p bad v q true) : isNum s p bad = none := by
  rcases h with ⟨_, h⟩ | ⟨h, _⟩
  · cases h
  · exact h
theorem numStep.back {s : ByteArray} {p : Nat} {bad : Bool} {v : Int} {q : Nat} (h : numStep s p bad v q false) : isNum s p bad = some (v, q) := by
  rcases h with ⟨h, _⟩ | ⟨_, _, h⟩
  · exact h
  · cases h
theorem textStep.good {s : ByteArray} {p : Nat} {bad : Bool} {v : ByteArray} {q : Nat} (h : textStep s p bad v q false) : bad = false ∧ isText s p false 16 = some (v, q) := by
  rcases h with ⟨h, _⟩ | ⟨_, _, h⟩
  · cases bad
    · exact ⟨rfl, h⟩
    · rw [isText_bad] at h; cases h
  · cases h
theorem textStep.ill {s : ByteArray} {p : Nat} {bad : Bool} {v : ByteArray} {q : Nat} (h : textStep s p bad v q true) : isText s p bad 16 = none := by
  rcases h with ⟨_, h⟩ | ⟨h, _⟩
  · cases h
  · exact h

theorem num_uni {w : World} {b p : Nat} {s : ByteArray} {bad : Bool} (hs : s.size ≤ 1000000) (hp : p ≤ s.size) (hr : Rd 60 w b s p bad) :
    Calls Tryz.prog 36 #[.pointer (some ⟨b, 0, none⟩)] w fun e w' => ∃ v q bad', e = .returned (.int .i64 v) ∧ Rd 60 w' b s q bad' ∧ q ≤ s.size ∧ w.grownBy w' (some b) ∧ numStep s p bad v q bad' := by
  rcases h : isNum s p bad with _ | ⟨v, q⟩
  · exact (rnum_no hs hp hr h).mono fun e w' ⟨he, ⟨q, hq, hr'⟩, hg⟩ => ⟨0, q, true, he, hr', hq, hg, Or.inr ⟨h, rfl, rfl⟩⟩
  · exact (rnum_yes hs hp hr h).mono fun e w' ⟨he, hr', hg⟩ => ⟨v, q, false, he, hr', (isNum_some h).2.2.1, hg, Or.inl ⟨h, rfl⟩⟩
theorem text_uni {w : World} {b p : Nat} {s : ByteArray} {bad : Bool} (hs : s.size ≤ 1000000) (hp : p ≤ s.size) (hr : Rd 60 w b s p bad) :
    Calls Tryz.prog 75 #[.pointer (some ⟨b, 0, none⟩), .int .i64 16] w fun e w' => ∃ v q bad', e = .returned (.string v) ∧ Rd 60 w' b s q bad' ∧ q ≤ s.size ∧ v.size ≤ 1000000 ∧ w.grownBy w' (some b) ∧ textStep s p bad v q bad' := by
  rcases h : isText s p bad 16 with _ | ⟨v, q⟩
  · exact (rtext_no hs hp hr h).mono fun e w' ⟨he, ⟨q, hq, hr'⟩, hg⟩ => ⟨⟨#[]⟩, q, true, he, hr', hq, by decide, hg, Or.inr ⟨h, rfl, rfl⟩⟩
  · obtain ⟨n, q0, h1, h2, rfl, rfl⟩ := isText_some h
    exact (rtext_yes hs hp hr h).mono fun e w' ⟨he, hr', hg⟩ => ⟨_, _, false, he, hr', by omega, by rw [ByteArray.size_extract]; omega, hg, Or.inl ⟨h, rfl⟩⟩

theorem refNum_uni {w : World} {b p : Nat} {s : ByteArray} {bad : Bool} (hs : s.size ≤ 1000000) (hp : p ≤ s.size) (hr : Rd 65 w b s p bad) :
    Calls Tryz.prog 19 #[.pointer (some ⟨b, 0, none⟩)] w fun e w' => ∃ v q bad', e = .returned (.int .i64 v) ∧ Rd 65 w' b s q bad' ∧ q ≤ s.size ∧ w.grownBy w' (some b) ∧ numStep s p bad v q bad' := by
  rcases h : isNum s p bad with _ | ⟨v, q⟩
  · exact (refRnum_no hs hp hr h).mono fun e w' ⟨he, ⟨q, hq, hr'⟩, hg⟩ => ⟨0, q, true, he, hr', hq, hg, Or.inr ⟨h, rfl, rfl⟩⟩
  · exact (refRnum_yes hs hp hr h).mono fun e w' ⟨he, hr', hg⟩ => ⟨v, q, false, he, hr', (isNum_some h).2.2.1, hg, Or.inl ⟨h, rfl⟩⟩
theorem refText_uni {w : World} {b p : Nat} {s : ByteArray} {bad : Bool} (hs : s.size ≤ 1000000) (hp : p ≤ s.size) (hr : Rd 65 w b s p bad) :
    Calls Tryz.prog 67 #[.pointer (some ⟨b, 0, none⟩), .int .i64 16] w fun e w' => ∃ v q bad', e = .returned (.string v) ∧ Rd 65 w' b s q bad' ∧ q ≤ s.size ∧ v.size ≤ 1000000 ∧ w.grownBy w' (some b) ∧ textStep s p bad v q bad' := by
  rcases h : isText s p bad 16 with _ | ⟨v, q⟩
  · exact (refRtext_no hs hp hr h).mono fun e w' ⟨he, ⟨q, hq, hr'⟩, hg⟩ => ⟨⟨#[]⟩, q, true, he, hr', hq, by decide, hg, Or.inr ⟨h, rfl, rfl⟩⟩
  · obtain ⟨n, q0, h1, h2, rfl, rfl⟩ := isText_some h
    exact (refRtext_yes hs hp hr h).mono fun e w' ⟨he, hr', hg⟩ => ⟨_, _, false, he, hr', by omega, by rw [ByteArray.size_extract]; omega, hg, Or.inl ⟨h, rfl⟩⟩


section
variable {w a : World} {b : Nat} {s : ByteArray}
theorem Rd.other {T : TypeId} {q : Nat} {bad : Bool} (h : Rd T w b s q bad) (n i : Nat) (v : Value) (hne : b ≠ n) : Rd T (w.setCell ⟨n, i, none⟩ v) b s q bad :=
  (Below.heap_setCell w ⟨n, i, none⟩ v b hne).trans h
theorem by_setNew (h : a.grownBy w (some b)) (n i : Nat) (v : Value) (hn : a.heap.size ≤ n) : a.grownBy (w.setCell ⟨n, i, none⟩ v) (some b) :=
  ⟨h.os, h.tape, h.output, by simpa [World.setCell] using h.size, fun k hk hne => (Below.heap_setCell w ⟨n, i, none⟩ v k (by intro e; have e : k = n := e; omega)).trans (h.block k hk hne)⟩
theorem by_setRow (h : a.grownBy w (some b)) (n : Nat) (cs : Array Value) (hn : a.heap.size ≤ n) : a.grownBy (w.setRow n cs) (some b) :=
  ⟨h.os, h.tape, h.output, by simpa [World.setRow] using h.size, fun k hk hne => (setRow_other w n k cs (by omega)).trans (h.block k hk hne)⟩
theorem Rd.row {T : TypeId} {q : Nat} {bad : Bool} (h : Rd T w b s q bad) (n : Nat) (cs : Array Value) (hne : b ≠ n) : Rd T (w.setRow n cs) b s q bad := (setRow_other w n b cs hne).trans h
end
end Go.Proofs.YtfpgfclmmdihjaaGreat

/- What Read gives, of the program and of the document: layer op. -/
namespace Go.Proofs.YtfpgfclmmdihjaaGreat
open Go.RowKit Nam Cod

structure Mv where
  C : Int
  D : Int
  I : Int
  M : Int
  K : Int
  U : Int
  s : ByteArray
def zeroMv : Mv := ⟨0, 0, 0, 0, 0, 0, ⟨#[]⟩⟩
def isOp (s : ByteArray) (p : Nat) (bad : Bool) : Option (Mv × Nat) :=
  (isNum s p bad).bind fun a => (isNum s a.2 false).bind fun b => (isNum s b.2 false).bind fun c => (isNum s c.2 false).bind fun d => (isNum s d.2 false).bind fun e => (isNum s e.2 false).bind fun f => (isText s f.2 false 16).bind fun g =>
    if opB a.1 b.1 c.1 d.1 e.1 f.1 g.1 = true then some (⟨a.1, b.1, c.1, d.1, e.1, f.1, g.1⟩, g.2) else none
def opStep (s : ByteArray) (p : Nat) (bad : Bool) (o : Mv) (q : Nat) (bad' : Bool) : Prop := (isOp s p bad = some (o, q) ∧ bad' = false) ∨ (isOp s p bad = none ∧ o = zeroMv ∧ bad' = true)

/-- The seven steps, one behind the other. -/
structure Steps7 (s : ByteArray) (p : Nat) (bad : Bool) (C D I M K U : Int) (t : ByteArray) (q7 : Nat) (b7 : Bool) : Prop where
  all : ∃ q1 q2 q3 q4 q5 q6 b1 b2 b3 b4 b5 b6, numStep s p bad C q1 b1 ∧ numStep s q1 b1 D q2 b2 ∧ numStep s q2 b2 I q3 b3 ∧ numStep s q3 b3 M q4 b4 ∧ numStep s q4 b4 K q5 b5 ∧ numStep s q5 b5 U q6 b6 ∧ textStep s q6 b6 t q7 b7
theorem Steps7.good {s : ByteArray} {p : Nat} {bad : Bool} {C D I M K U : Int} {t : ByteArray} {q7 : Nat} (h : Steps7 s p bad C D I M K U t q7 false) : isOp s p bad = if opB C D I M K U t = true then some (⟨C, D, I, M, K, U, t⟩, q7) else none := by
  obtain ⟨q1, q2, q3, q4, q5, q6, b1, b2, b3, b4, b5, b6, h1, h2, h3, h4, h5, h6, h7⟩ := h.all
  obtain ⟨e7, g7⟩ := h7.good
  subst e7
  obtain ⟨e6, g6⟩ := h6.good
  subst e6
  obtain ⟨e5, g5⟩ := h5.good
  subst e5
  obtain ⟨e4, g4⟩ := h4.good
  subst e4
  obtain ⟨e3, g3⟩ := h3.good
  subst e3
  obtain ⟨e2, g2⟩ := h2.good
  subst e2
  have g1 := h1.back
  unfold isOp
  simp only [g1, g2, g3, g4, g5, g6, g7, Option.bind_some]
theorem Steps7.ill {s : ByteArray} {p : Nat} {bad : Bool} {C D I M K U : Int} {t : ByteArray} {q7 : Nat} (h : Steps7 s p bad C D I M K U t q7 true) : isOp s p bad = none := by
  obtain ⟨q1, q2, q3, q4, q5, q6, b1, b2, b3, b4, b5, b6, h1, h2, h3, h4, h5, h6, h7⟩ := h.all
  unfold isOp
  cases b1
  · have h1 := h1.back
    cases b2
    · have h2 := h2.back
      cases b3
      · have h3 := h3.back
        cases b4
        · have h4 := h4.back
          cases b5
          · have h5 := h5.back
            cases b6
            · have h6 := h6.back
              have h7 := h7.ill
              simp only [h1, h2, h3, h4, h5, h6, h7, Option.bind_some, Option.bind_none]
            · have h6 := h6.ill
              simp only [h1, h2, h3, h4, h5, h6, Option.bind_some, Option.bind_none]
          · have h5 := h5.ill
            simp only [h1, h2, h3, h4, h5, Option.bind_some, Option.bind_none]
        · have h4 := h4.ill
          simp only [h1, h2, h3, h4, Option.bind_some, Option.bind_none]
      · have h3 := h3.ill
        simp only [h1, h2, h3, Option.bind_some, Option.bind_none]
    · have h2 := h2.ill
      simp only [h1, h2, Option.bind_some, Option.bind_none]
  · have h1 := h1.ill
    simp only [h1, Option.bind_none]

section
variable {w a : World} {b : Nat} {C D I M K U : Int} {s : ByteArray}
theorem OpIn.putC (h : OpIn w b C D I M K U s) (x : Int) : OpIn (w.setCell ⟨b, 0, none⟩ (.int .i64 x)) b x D I M K U s := by
  unfold OpIn at h ⊢
  simp [World.setCell, Array.getElem?_modify, h]
theorem OpIn.putD (h : OpIn w b C D I M K U s) (x : Int) : OpIn (w.setCell ⟨b, 1, none⟩ (.int .i64 x)) b C x I M K U s := by
  unfold OpIn at h ⊢
  simp [World.setCell, Array.getElem?_modify, h]
theorem OpIn.putI (h : OpIn w b C D I M K U s) (x : Int) : OpIn (w.setCell ⟨b, 2, none⟩ (.int .i64 x)) b C D x M K U s := by
  unfold OpIn at h ⊢
  simp [World.setCell, Array.getElem?_modify, h]
theorem OpIn.putM (h : OpIn w b C D I M K U s) (x : Int) : OpIn (w.setCell ⟨b, 3, none⟩ (.int .i64 x)) b C D I x K U s := by
  unfold OpIn at h ⊢
  simp [World.setCell, Array.getElem?_modify, h]
theorem OpIn.putK (h : OpIn w b C D I M K U s) (x : Int) : OpIn (w.setCell ⟨b, 4, none⟩ (.int .i64 x)) b C D I M x U s := by
  unfold OpIn at h ⊢
  simp [World.setCell, Array.getElem?_modify, h]
theorem OpIn.putU (h : OpIn w b C D I M K U s) (x : Int) : OpIn (w.setCell ⟨b, 5, none⟩ (.int .i64 x)) b C D I M K x s := by
  unfold OpIn at h ⊢
  simp [World.setCell, Array.getElem?_modify, h]
theorem OpIn.putS (h : OpIn w b C D I M K U s) (x : ByteArray) : OpIn (w.setCell ⟨b, 6, none⟩ (.string x)) b C D I M K U x := by
  unfold OpIn at h ⊢
  simp [World.setCell, Array.getElem?_modify, h]
theorem OpIn.other (h : OpIn w b C D I M K U s) (n i : Nat) (v : Value) (hne : b ≠ n) : OpIn (w.setCell ⟨n, i, none⟩ v) b C D I M K U s :=
  (Below.heap_setCell w ⟨n, i, none⟩ v b hne).trans h
end

set_option maxRecDepth 100000 in
set_option maxHeartbeats 8000000 in
theorem opRead_uni {w : World} {b p : Nat} {s : ByteArray} {bad : Bool} (hs : s.size ≤ 1000000) (hp : p ≤ s.size) (hr : Rd 60 w b s p bad) :
    Calls Tryz.prog 62 #[.pointer (some ⟨b, 0, none⟩)] w fun e w' => ∃ (o : Mv) (q : Nat) (bad' : Bool), e = .returned (.agg #[.int .i64 o.C, .int .i64 o.D, .int .i64 o.I, .int .i64 o.M, .int .i64 o.K, .int .i64 o.U, .string o.s]) ∧ Rd 60 w' b s q bad' ∧ q ≤ s.size ∧ w.grownBy w' (some b) ∧ opStep s p bad o q bad' := by
  have hbw := hr.lt
  go_enter Tryz.func62, Tryz.ntmps62
  go_wp2_with fail
  have hO := OpIn.new (w.alloc (.cells #[.int .i64 0, .int .i64 0, .int .i64 0, .int .i64 0, .int .i64 0, .int .i64 0, .string ⟨#[]⟩] 102)) 0 0 0 0 0 0 ⟨#[]⟩
  rw [show (w.alloc (.cells #[.int .i64 0, .int .i64 0, .int .i64 0, .int .i64 0, .int .i64 0, .int .i64 0, .string ⟨#[]⟩] 102)).heap.size = w.heap.size + 1 from alloc_size _ _] at hO
  have hZ := (OpIn.new w 0 0 0 0 0 0 ⟨#[]⟩).alloc (.cells #[.int .i64 0, .int .i64 0, .int .i64 0, .int .i64 0, .int .i64 0, .int .i64 0, .string ⟨#[]⟩] 102)
  have hB := below_alloc (below_alloc (Below.refl w.heap.size w) (.cells #[.int .i64 0, .int .i64 0, .int .i64 0, .int .i64 0, .int .i64 0, .int .i64 0, .string ⟨#[]⟩] 102)) (.cells #[.int .i64 0, .int .i64 0, .int .i64 0, .int .i64 0, .int .i64 0, .int .i64 0, .string ⟨#[]⟩] 102)
  have hR := hr.below hB
  have hG := by_below hB (some b)
  generalize (w.alloc (.cells #[.int .i64 0, .int .i64 0, .int .i64 0, .int .i64 0, .int .i64 0, .int .i64 0, .string ⟨#[]⟩] 102)).alloc (.cells #[.int .i64 0, .int .i64 0, .int .i64 0, .int .i64 0, .int .i64 0, .int .i64 0, .string ⟨#[]⟩] 102) = W0 at *
  obtain ⟨n2, h2⟩ : ∃ n, w.heap.size = n := ⟨_, rfl⟩
  obtain ⟨n3, h3⟩ : ∃ n, w.heap.size + 1 = n := ⟨_, rfl⟩
  have hn2 : w.heap.size ≤ n2 := by omega
  have hn3 : w.heap.size ≤ n3 := by omega
  have e2 : b ≠ n2 := by omega
  have e3 : b ≠ n3 := by omega
  have e4 : n2 ≠ n3 := by omega
  have i2 : some n2 ≠ some b := fun e => e2 (Option.some.inj e).symm
  have i3 : some n3 ≠ some b := fun e => e3 (Option.some.inj e).symm
  rw [h3] at hO ⊢
  rw [h2] at hZ ⊢
  clear h2 h3 hB hr
  refine (num_uni hs hp hR).mono ?_
  clear hR
  rintro e w1 ⟨v1, q1, b1, rfl, hR, q1s, hg, st1⟩
  replace hO := hO.keep hg i3
  replace hZ := hZ.keep hg i2
  replace hG := by_trans hG hg
  clear hg
  have kc := hO.cells
  obtain ⟨k0, k1, k2, k3, k4, k5, k6⟩ := kc
  have kf := hO.frozen
  clear k1 k2 k3 k4 k5 k6
  go_wp2_with fail
  clear k0 kf
  replace hO := hO.putC v1
  replace hZ := hZ.other n3 0 (.int .i64 v1) e4
  replace hR := hR.other n3 0 (.int .i64 v1) e3
  replace hG := by_setNew hG n3 0 (.int .i64 v1) hn3
  generalize w1.setCell ⟨n3, 0, none⟩ (.int .i64 v1) = W1 at *
  refine (num_uni hs q1s hR).mono ?_
  clear hR
  rintro e w2 ⟨v2, q2, b2, rfl, hR, q2s, hg, st2⟩
  replace hO := hO.keep hg i3
  replace hZ := hZ.keep hg i2
  replace hG := by_trans hG hg
  clear hg
  have kc := hO.cells
  obtain ⟨k0, k1, k2, k3, k4, k5, k6⟩ := kc
  have kf := hO.frozen
  clear k0 k2 k3 k4 k5 k6
  go_wp2_with fail
  clear k1 kf
  replace hO := hO.putD v2
  replace hZ := hZ.other n3 1 (.int .i64 v2) e4
  replace hR := hR.other n3 1 (.int .i64 v2) e3
  replace hG := by_setNew hG n3 1 (.int .i64 v2) hn3
  generalize w2.setCell ⟨n3, 1, none⟩ (.int .i64 v2) = W2 at *
  refine (num_uni hs q2s hR).mono ?_
  clear hR
  rintro e w3 ⟨v3, q3, b3, rfl, hR, q3s, hg, st3⟩
  replace hO := hO.keep hg i3
  replace hZ := hZ.keep hg i2
  replace hG := by_trans hG hg
  clear hg
  have kc := hO.cells
  obtain ⟨k0, k1, k2, k3, k4, k5, k6⟩ := kc
  have kf := hO.frozen
  clear k0 k1 k3 k4 k5 k6
  go_wp2_with fail
  clear k2 kf
  replace hO := hO.putI v3
  replace hZ := hZ.other n3 2 (.int .i64 v3) e4
  replace hR := hR.other n3 2 (.int .i64 v3) e3
  replace hG := by_setNew hG n3 2 (.int .i64 v3) hn3
  generalize w3.setCell ⟨n3, 2, none⟩ (.int .i64 v3) = W3 at *
  refine (num_uni hs q3s hR).mono ?_
  clear hR
  rintro e w4 ⟨v4, q4, b4, rfl, hR, q4s, hg, st4⟩
  replace hO := hO.keep hg i3
  replace hZ := hZ.keep hg i2
  replace hG := by_trans hG hg
  clear hg
  have kc := hO.cells
  obtain ⟨k0, k1, k2, k3, k4, k5, k6⟩ := kc
  have kf := hO.frozen
  clear k0 k1 k2 k4 k5 k6
  go_wp2_with fail
  clear k3 kf
  replace hO := hO.putM v4
  replace hZ := hZ.other n3 3 (.int .i64 v4) e4
  replace hR := hR.other n3 3 (.int .i64 v4) e3
  replace hG := by_setNew hG n3 3 (.int .i64 v4) hn3
  generalize w4.setCell ⟨n3, 3, none⟩ (.int .i64 v4) = W4 at *
  refine (num_uni hs q4s hR).mono ?_
  clear hR
  rintro e w5 ⟨v5, q5, b5, rfl, hR, q5s, hg, st5⟩
  replace hO := hO.keep hg i3
  replace hZ := hZ.keep hg i2
  replace hG := by_trans hG hg
  clear hg
  have kc := hO.cells
  obtain ⟨k0, k1, k2, k3, k4, k5, k6⟩ := kc
  have kf := hO.frozen
  clear k0 k1 k2 k3 k5 k6
  go_wp2_with fail
  clear k4 kf
  replace hO := hO.putK v5
  replace hZ := hZ.other n3 4 (.int .i64 v5) e4
  replace hR := hR.other n3 4 (.int .i64 v5) e3
  replace hG := by_setNew hG n3 4 (.int .i64 v5) hn3
  generalize w5.setCell ⟨n3, 4, none⟩ (.int .i64 v5) = W5 at *
  refine (num_uni hs q5s hR).mono ?_
  clear hR
  rintro e w6 ⟨v6, q6, b6, rfl, hR, q6s, hg, st6⟩
  replace hO := hO.keep hg i3
  replace hZ := hZ.keep hg i2
  replace hG := by_trans hG hg
  clear hg
  have kc := hO.cells
  obtain ⟨k0, k1, k2, k3, k4, k5, k6⟩ := kc
  have kf := hO.frozen
  clear k0 k1 k2 k3 k4 k6
  go_wp2_with fail
  clear k5 kf
  replace hO := hO.putU v6
  replace hZ := hZ.other n3 5 (.int .i64 v6) e4
  replace hR := hR.other n3 5 (.int .i64 v6) e3
  replace hG := by_setNew hG n3 5 (.int .i64 v6) hn3
  generalize w6.setCell ⟨n3, 5, none⟩ (.int .i64 v6) = W6 at *
  refine (text_uni hs q6s hR).mono ?_
  clear hR
  rintro e w7 ⟨v7, q7, b7, rfl, hR, q7s, hv, hg, st7⟩
  replace hO := hO.keep hg i3
  replace hZ := hZ.keep hg i2
  replace hG := by_trans hG hg
  clear hg
  have kc := hO.cells
  obtain ⟨k0, k1, k2, k3, k4, k5, k6⟩ := kc
  have kf := hO.frozen
  clear k0 k1 k2 k3 k4 k5
  have hst := Lib.hid (Steps7.mk (s := s) (p := p) (bad := bad) ⟨q1, q2, q3, q4, q5, q6, b1, b2, b3, b4, b5, b6, st1, st2, st3, st4, st5, st6, st7⟩)
  clear st1 st2 st3 st4 st5 st6 st7
  have hO7 := hO.putS v7
  have hZ7 := hZ.other n3 6 (.string v7) e4
  have hR7 := hR.other n3 6 (.string v7) e3
  have hG7 := by_setNew hG n3 6 (.string v7) hn3
  obtain ⟨r0, r1, r2⟩ := hR.cells
  clear r0 r1
  have rf := hR.frozen
  cases b7
  · have hop := hst.out.good
    obtain ⟨bo, hbo⟩ : ∃ x, opB v1 v2 v3 v4 v5 v6 v7 = x := ⟨_, rfl⟩
    have c := fun w => opRight_any v1 v2 v3 v4 v5 v6 v7 w (by omega)
    rw [hbo] at c hop
    have C1 := Lib.hid c
    have HOP := Lib.hid hop
    clear hst c hop hO hZ hR hG
    go_wp2_with (refine load_op_if rfl _ rfl _ rfl _ _ _ _ _ _ _ hO7 ?_)
    generalize w7.setCell ⟨n3, 6, none⟩ (.string v7) = W7 at *
    refine (C1.out _).mono ?_
    clear C1
    rintro e w8 ⟨rfl, hb8⟩
    have hO := hO7.below hb8
    have hZ := hZ7.below hb8
    have hR := hR7.below hb8
    have hG := by_trans hG7 (by_below hb8 _)
    clear hO7 hZ7 hR7 hG7 hb8 r2 rf k6 kf
    obtain ⟨r0, r1, r2⟩ := hR.cells
    clear r0 r1
    have rf := hR.frozen
    cases bo
    · go_wp2_with (refine store_op rfl _ _ rfl _ _ _ _ _ _ _ _ rfl rfl _ _ _ _ _ _ _ (hZ.other b 2 (.bool true) e2.symm) ?_)
      refine ret_op1 ((hZ.other b 2 (.bool true) e2.symm).set _ _ _ _ _ _ _) rfl rfl rfl ?_
      exact ⟨zeroMv, q7, true, rfl, (hR.setBad).row n2 _ e2, q7s, by_setRow (by_set hG 2 (.bool true)) n2 _ hn2, Or.inr ⟨by rw [HOP.out, if_neg (by decide)], rfl, rfl⟩⟩
    · go_wp2_with (first | (refine store_op rfl _ _ rfl _ _ _ _ _ _ _ _ rfl rfl _ _ _ _ _ _ _ hZ ?_) | (refine load_op rfl _ rfl _ rfl _ _ _ _ _ _ _ hO ?_))
      refine ret_op1 (hZ.set _ _ _ _ _ _ _) rfl rfl rfl ?_
      exact ⟨⟨v1, v2, v3, v4, v5, v6, v7⟩, q7, false, rfl, hR.row n2 _ e2, q7s, by_setRow hG n2 _ hn2, Or.inl ⟨by rw [HOP.out]; simp, rfl⟩⟩
  · have hop := Lib.hid hst.out.ill
    clear hst hO hZ hR hG
    go_wp2_with (refine store_op rfl _ _ rfl _ _ _ _ _ _ _ _ rfl rfl _ _ _ _ _ _ _ ((hZ7.other b 2 (.bool true) e2.symm)) ?_)
    refine ret_op1 ((hZ7.other b 2 (.bool true) e2.symm).set _ _ _ _ _ _ _) rfl rfl rfl ?_
    exact ⟨zeroMv, q7, true, rfl, (hR7.setBad).row n2 _ e2, q7s, by_setRow (by_set hG7 2 (.bool true)) n2 _ hn2, Or.inr ⟨hop.out, rfl, rfl⟩⟩

set_option maxRecDepth 100000 in
set_option maxHeartbeats 8000000 in
theorem opRefRead_uni {w : World} {b p : Nat} {s : ByteArray} {bad : Bool} (hs : s.size ≤ 1000000) (hp : p ≤ s.size) (hr : Rd 65 w b s p bad) :
    Calls Tryz.prog 45 #[.pointer (some ⟨b, 0, none⟩)] w fun e w' => ∃ (o : Mv) (q : Nat) (bad' : Bool), e = .returned (.agg #[.int .i64 o.C, .int .i64 o.D, .int .i64 o.I, .int .i64 o.M, .int .i64 o.K, .int .i64 o.U, .string o.s]) ∧ Rd 65 w' b s q bad' ∧ q ≤ s.size ∧ w.grownBy w' (some b) ∧ opStep s p bad o q bad' := by
  have hbw := hr.lt
  go_enter Tryz.func45, Tryz.ntmps45
  go_wp2_with fail
  have hO := OpIn.new (w.alloc (.cells #[.int .i64 0, .int .i64 0, .int .i64 0, .int .i64 0, .int .i64 0, .int .i64 0, .string ⟨#[]⟩] 102)) 0 0 0 0 0 0 ⟨#[]⟩
  rw [show (w.alloc (.cells #[.int .i64 0, .int .i64 0, .int .i64 0, .int .i64 0, .int .i64 0, .int .i64 0, .string ⟨#[]⟩] 102)).heap.size = w.heap.size + 1 from alloc_size _ _] at hO
  have hZ := (OpIn.new w 0 0 0 0 0 0 ⟨#[]⟩).alloc (.cells #[.int .i64 0, .int .i64 0, .int .i64 0, .int .i64 0, .int .i64 0, .int .i64 0, .string ⟨#[]⟩] 102)
  have hB := below_alloc (below_alloc (Below.refl w.heap.size w) (.cells #[.int .i64 0, .int .i64 0, .int .i64 0, .int .i64 0, .int .i64 0, .int .i64 0, .string ⟨#[]⟩] 102)) (.cells #[.int .i64 0, .int .i64 0, .int .i64 0, .int .i64 0, .int .i64 0, .int .i64 0, .string ⟨#[]⟩] 102)
  have hR := hr.below hB
  have hG := by_below hB (some b)
  generalize (w.alloc (.cells #[.int .i64 0, .int .i64 0, .int .i64 0, .int .i64 0, .int .i64 0, .int .i64 0, .string ⟨#[]⟩] 102)).alloc (.cells #[.int .i64 0, .int .i64 0, .int .i64 0, .int .i64 0, .int .i64 0, .int .i64 0, .string ⟨#[]⟩] 102) = W0 at *
  obtain ⟨n2, h2⟩ : ∃ n, w.heap.size = n := ⟨_, rfl⟩
  obtain ⟨n3, h3⟩ : ∃ n, w.heap.size + 1 = n := ⟨_, rfl⟩
  have hn2 : w.heap.size ≤ n2 := by omega
  have hn3 : w.heap.size ≤ n3 := by omega
  have e2 : b ≠ n2 := by omega
  have e3 : b ≠ n3 := by omega
  have e4 : n2 ≠ n3 := by omega
  have i2 : some n2 ≠ some b := fun e => e2 (Option.some.inj e).symm
  have i3 : some n3 ≠ some b := fun e => e3 (Option.some.inj e).symm
  rw [h3] at hO ⊢
  rw [h2] at hZ ⊢
  clear h2 h3 hB hr
  refine (refNum_uni hs hp hR).mono ?_
  clear hR
  rintro e w1 ⟨v1, q1, b1, rfl, hR, q1s, hg, st1⟩
  replace hO := hO.keep hg i3
  replace hZ := hZ.keep hg i2
  replace hG := by_trans hG hg
  clear hg
  have kc := hO.cells
  obtain ⟨k0, k1, k2, k3, k4, k5, k6⟩ := kc
  have kf := hO.frozen
  clear k1 k2 k3 k4 k5 k6
  go_wp2_with fail
  clear k0 kf
  replace hO := hO.putC v1
  replace hZ := hZ.other n3 0 (.int .i64 v1) e4
  replace hR := hR.other n3 0 (.int .i64 v1) e3
  replace hG := by_setNew hG n3 0 (.int .i64 v1) hn3
  generalize w1.setCell ⟨n3, 0, none⟩ (.int .i64 v1) = W1 at *
  refine (refNum_uni hs q1s hR).mono ?_
  clear hR
  rintro e w2 ⟨v2, q2, b2, rfl, hR, q2s, hg, st2⟩
  replace hO := hO.keep hg i3
  replace hZ := hZ.keep hg i2
  replace hG := by_trans hG hg
  clear hg
  have kc := hO.cells
  obtain ⟨k0, k1, k2, k3, k4, k5, k6⟩ := kc
  have kf := hO.frozen
  clear k0 k2 k3 k4 k5 k6
  go_wp2_with fail
  clear k1 kf
  replace hO := hO.putD v2
  replace hZ := hZ.other n3 1 (.int .i64 v2) e4
  replace hR := hR.other n3 1 (.int .i64 v2) e3
  replace hG := by_setNew hG n3 1 (.int .i64 v2) hn3
  generalize w2.setCell ⟨n3, 1, none⟩ (.int .i64 v2) = W2 at *
  refine (refNum_uni hs q2s hR).mono ?_
  clear hR
  rintro e w3 ⟨v3, q3, b3, rfl, hR, q3s, hg, st3⟩
  replace hO := hO.keep hg i3
  replace hZ := hZ.keep hg i2
  replace hG := by_trans hG hg
  clear hg
  have kc := hO.cells
  obtain ⟨k0, k1, k2, k3, k4, k5, k6⟩ := kc
  have kf := hO.frozen
  clear k0 k1 k3 k4 k5 k6
  go_wp2_with fail
  clear k2 kf
  replace hO := hO.putI v3
  replace hZ := hZ.other n3 2 (.int .i64 v3) e4
  replace hR := hR.other n3 2 (.int .i64 v3) e3
  replace hG := by_setNew hG n3 2 (.int .i64 v3) hn3
  generalize w3.setCell ⟨n3, 2, none⟩ (.int .i64 v3) = W3 at *
  refine (refNum_uni hs q3s hR).mono ?_
  clear hR
  rintro e w4 ⟨v4, q4, b4, rfl, hR, q4s, hg, st4⟩
  replace hO := hO.keep hg i3
  replace hZ := hZ.keep hg i2
  replace hG := by_trans hG hg
  clear hg
  have kc := hO.cells
  obtain ⟨k0, k1, k2, k3, k4, k5, k6⟩ := kc
  have kf := hO.frozen
  clear k0 k1 k2 k4 k5 k6
  go_wp2_with fail
  clear k3 kf
  replace hO := hO.putM v4
  replace hZ := hZ.other n3 3 (.int .i64 v4) e4
  replace hR := hR.other n3 3 (.int .i64 v4) e3
  replace hG := by_setNew hG n3 3 (.int .i64 v4) hn3
  generalize w4.setCell ⟨n3, 3, none⟩ (.int .i64 v4) = W4 at *
  refine (refNum_uni hs q4s hR).mono ?_
  clear hR
  rintro e w5 ⟨v5, q5, b5, rfl, hR, q5s, hg, st5⟩
  replace hO := hO.keep hg i3
  replace hZ := hZ.keep hg i2
  replace hG := by_trans hG hg
  clear hg
  have kc := hO.cells
  obtain ⟨k0, k1, k2, k3, k4, k5, k6⟩ := kc
  have kf := hO.frozen
  clear k0 k1 k2 k3 k5 k6
  go_wp2_with fail
  clear k4 kf
  replace hO := hO.putK v5
  replace hZ := hZ.other n3 4 (.int .i64 v5) e4
  replace hR := hR.other n3 4 (.int .i64 v5) e3
  replace hG := by_setNew hG n3 4 (.int .i64 v5) hn3
  generalize w5.setCell ⟨n3, 4, none⟩ (.int .i64 v5) = W5 at *
  refine (refNum_uni hs q5s hR).mono ?_
  clear hR
  rintro e w6 ⟨v6, q6, b6, rfl, hR, q6s, hg, st6⟩
  replace hO := hO.keep hg i3
  replace hZ := hZ.keep hg i2
  replace hG := by_trans hG hg
  clear hg
  have kc := hO.cells
  obtain ⟨k0, k1, k2, k3, k4, k5, k6⟩ := kc
  have kf := hO.frozen
  clear k0 k1 k2 k3 k4 k6
  go_wp2_with fail
  clear k5 kf
  replace hO := hO.putU v6
  replace hZ := hZ.other n3 5 (.int .i64 v6) e4
  replace hR := hR.other n3 5 (.int .i64 v6) e3
  replace hG := by_setNew hG n3 5 (.int .i64 v6) hn3
  generalize w6.setCell ⟨n3, 5, none⟩ (.int .i64 v6) = W6 at *
  refine (refText_uni hs q6s hR).mono ?_
  clear hR
  rintro e w7 ⟨v7, q7, b7, rfl, hR, q7s, hv, hg, st7⟩
  replace hO := hO.keep hg i3
  replace hZ := hZ.keep hg i2
  replace hG := by_trans hG hg
  clear hg
  have kc := hO.cells
  obtain ⟨k0, k1, k2, k3, k4, k5, k6⟩ := kc
  have kf := hO.frozen
  clear k0 k1 k2 k3 k4 k5
  have hst := Lib.hid (Steps7.mk (s := s) (p := p) (bad := bad) ⟨q1, q2, q3, q4, q5, q6, b1, b2, b3, b4, b5, b6, st1, st2, st3, st4, st5, st6, st7⟩)
  clear st1 st2 st3 st4 st5 st6 st7
  have hO7 := hO.putS v7
  have hZ7 := hZ.other n3 6 (.string v7) e4
  have hR7 := hR.other n3 6 (.string v7) e3
  have hG7 := by_setNew hG n3 6 (.string v7) hn3
  obtain ⟨r0, r1, r2⟩ := hR.cells
  clear r0 r1
  have rf := hR.frozen
  cases b7
  · have hop := hst.out.good
    obtain ⟨bo, hbo⟩ : ∃ x, opB v1 v2 v3 v4 v5 v6 v7 = x := ⟨_, rfl⟩
    have c := fun w => opRefRight_any v1 v2 v3 v4 v5 v6 v7 w (by omega)
    rw [hbo] at c hop
    have C1 := Lib.hid c
    have HOP := Lib.hid hop
    clear hst c hop hO hZ hR hG
    go_wp2_with (refine load_op_if rfl _ rfl _ rfl _ _ _ _ _ _ _ hO7 ?_)
    generalize w7.setCell ⟨n3, 6, none⟩ (.string v7) = W7 at *
    refine (C1.out _).mono ?_
    clear C1
    rintro e w8 ⟨rfl, hb8⟩
    have hO := hO7.below hb8
    have hZ := hZ7.below hb8
    have hR := hR7.below hb8
    have hG := by_trans hG7 (by_below hb8 _)
    clear hO7 hZ7 hR7 hG7 hb8 r2 rf k6 kf
    obtain ⟨r0, r1, r2⟩ := hR.cells
    clear r0 r1
    have rf := hR.frozen
    cases bo
    · go_wp2_with (refine store_op rfl _ _ rfl _ _ _ _ _ _ _ _ rfl rfl _ _ _ _ _ _ _ (hZ.other b 2 (.bool true) e2.symm) ?_)
      refine ret_op1 ((hZ.other b 2 (.bool true) e2.symm).set _ _ _ _ _ _ _) rfl rfl rfl ?_
      exact ⟨zeroMv, q7, true, rfl, (hR.setBad).row n2 _ e2, q7s, by_setRow (by_set hG 2 (.bool true)) n2 _ hn2, Or.inr ⟨by rw [HOP.out, if_neg (by decide)], rfl, rfl⟩⟩
    · go_wp2_with (first | (refine store_op rfl _ _ rfl _ _ _ _ _ _ _ _ rfl rfl _ _ _ _ _ _ _ hZ ?_) | (refine load_op rfl _ rfl _ rfl _ _ _ _ _ _ _ hO ?_))
      refine ret_op1 (hZ.set _ _ _ _ _ _ _) rfl rfl rfl ?_
      exact ⟨⟨v1, v2, v3, v4, v5, v6, v7⟩, q7, false, rfl, hR.row n2 _ e2, q7s, by_setRow hG n2 _ hn2, Or.inl ⟨by rw [HOP.out]; simp, rfl⟩⟩
  · have hop := Lib.hid hst.out.ill
    clear hst hO hZ hR hG
    go_wp2_with (refine store_op rfl _ _ rfl _ _ _ _ _ _ _ _ rfl rfl _ _ _ _ _ _ _ ((hZ7.other b 2 (.bool true) e2.symm)) ?_)
    refine ret_op1 ((hZ7.other b 2 (.bool true) e2.symm).set _ _ _ _ _ _ _) rfl rfl rfl ?_
    exact ⟨zeroMv, q7, true, rfl, (hR7.setBad).row n2 _ e2, q7s, by_setRow (by_set hG7 2 (.bool true)) n2 _ hn2, Or.inr ⟨hop.out, rfl, rfl⟩⟩

end Go.Proofs.YtfpgfclmmdihjaaGreat
