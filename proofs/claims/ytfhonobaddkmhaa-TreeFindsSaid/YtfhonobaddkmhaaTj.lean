/- Put and Drop of the program. -/
import Derived.Test.YtfhonobaddkmhaaTi
import Derived.StillTailTactics
import Derived.Lib.Builder
namespace Go.Proofs.Ytfhonobaddkmhaa
open Go.RowKit Tre

/-- Where what stands behind node b's place begins. -/
def behind (l : List Pl) (b : Int) : Nat := if (Tre.get l b).isSome then idx l b + 1 else idx l b
def placedL (l : List Pl) (b : Int) (m : List Pl) : List Pl := (l.take (idx l b) ++ m) ++ l.drop (behind l b)
theorem behind_le (l : List Pl) (b : Int) : idx l b ≤ behind l b ∧ behind l b ≤ l.length := by
  unfold behind
  have h := idx_le l b
  split
  · rename_i hi
    rcases hg : Tre.get l b with _ | p
    · rw [hg] at hi; cases hi
    · obtain ⟨_, _, h1, _⟩ := get_some hg; omega
  · omega

def partsF (l : List Pl) (ix to : Nat) (m : List Pl) : Nat → List Pl
  | 0 => l.take ix
  | 1 => m
  | _ => l.drop to
theorem parts_cat (l : List Pl) (ix to : Nat) (m : List Pl) : catP (partsF l ix to m) 3 = (l.take ix ++ m) ++ l.drop to := by
  show ((([] ++ l.take ix) ++ m) ++ l.drop to) = _
  rw [List.nil_append]

theorem Tr.take {w : World} {A : Option Addr} {l : List Pl} (h : Tr w A l) (k : Nat) : Tr w A (l.take k) := fun h0 => by
  have hk : (l.take k).length ≤ l.length := by rw [List.length_take]; omega
  obtain ⟨b, off, e, hb, hc⟩ := h (by omega)
  exact ⟨b, off, e, hb, fun i hi => by rw [List.getElem_take]; exact hc i (by omega)⟩
theorem Tr.drop {w : World} {A A3 : Option Addr} {l : List Pl} {cap to : Nat} (h : Tr w A l) (hcap : l.length ≤ cap) (he : (if cap = to then A else Option.map (fun x => x.add (to * 3)) A) = A3) : Tr w A3 (l.drop to) := fun h0 => by
  rw [List.length_drop] at h0
  obtain ⟨b, off, e, hb, hc⟩ := h (by omega)
  rw [if_neg (by omega), e] at he
  refine ⟨b, off + to * 3, by rw [← he]; simp [add_lit], hb, fun i hi => ?_⟩
  rw [List.length_drop] at hi
  rw [List.getElem_drop, show off + to * 3 + i * 3 = off + (to + i) * 3 by omega]
  exact hc _ (by omega)
theorem drop_none {A A3 : Option Addr} {cap to : Nat} (hn : A = none → cap = 0) (he : (if cap = to then A else Option.map (fun x => x.add (to * 3)) A) = A3) (h : A3 = none) : cap - to = 0 := by
  by_cases e : cap = to
  · omega
  · rw [if_neg e, h, Option.map_eq_none_iff] at he
    have := hn he; omega

theorem concat3 (w : World) (A1 A2 A3 : Option Addr) (n1 c1 n2 c2 n3 c3 : Nat) (l1 l2 l3 : List Pl) (h1 : l1.length = n1) (h2 : l2.length = n2) (h3 : l3.length = n3) (t1 : Tr w A1 l1) (t2 : Tr w A2 l2) (t3 : Tr w A3 l3)
    (z1 : A1 = none → c1 = 0) (z2 : A2 = none → c2 = 0) (z3 : A3 = none → c3 = 0) (hl : n1 + n2 + n3 ≤ 1000) :
    Calls Try.prog 46 #[.slice (some ⟨w.heap.size, 0, none⟩) 3 3] (w.alloc (.cells #[.slice A1 n1 c1, .slice A2 n2 c2, .slice A3 n3 c3] 22)) fun e w' =>
      ∃ A' cap', e = .returned (.slice A' ((l1 ++ l2) ++ l3).length cap') ∧ Tr w' A' ((l1 ++ l2) ++ l3) ∧ (A' = none → cap' = 0) ∧ ((l1 ++ l2) ++ l3).length ≤ cap' ∧ Below w.heap.size w w' := by
  subst h1 h2 h3
  have hb := below_alloc (Below.refl _ w) (.cells #[.slice A1 l1.length c1, .slice A2 l2.length c2, .slice A3 l3.length c3] 22)
  have hcell := fun j => Lib.cell_of_heap (heap_alloc_new w (.cells #[.slice A1 l1.length c1, .slice A2 l2.length c2, .slice A3 l3.length c3] 22)) j
  have he : catP (fun | 0 => l1 | 1 => l2 | _ => l3) 3 = (l1 ++ l2) ++ l3 := by
    show ((([] ++ l1) ++ l2) ++ l3) = _
    rw [List.nil_append]
  have C := concat_any w.heap.size (fun | 0 => l1 | 1 => l2 | _ => l3) (fun | 0 => A1 | 1 => A2 | _ => A3) (fun | 0 => c1 | 1 => c2 | _ => c3) _
    (fun j hj => (hcell j).trans (by match j, hj with | 0, _ => rfl | 1, _ => rfl | 2, _ => rfl))
    (fun j hj => match j, hj with | 0, _ => t1.below hb | 1, _ => t2.below hb | 2, _ => t3.below hb)
    (fun j hj => match j, hj with | 0, _ => z1 | 1, _ => z2 | 2, _ => z3)
    (by rw [he, List.length_append, List.length_append]; omega) (by simp)
  rw [he] at C
  refine C.mono ?_
  rintro e w' ⟨A', cap', he, ht, hz, hlc, hbb⟩
  exact ⟨A', cap', he, ht, hz, hlc, below_then hb hbb⟩

set_option maxRecDepth 100000 in
theorem placed_any (A : Option Addr) (cap : Nat) (l : List Pl) (b : Int) (A2 : Option Addr) (mn cap2 : Nat) (m : List Pl) (w : World) (hmn : m.length = mn) (hl : l.length ≤ 900) (hs : Sorted l) (hT : Tr w A l) (hcap : l.length ≤ cap) (hn : A = none → cap = 0)
    (hm : mn ≤ 1) (hT2 : Tr w A2 m) (hn2 : A2 = none → cap2 = 0) :
    Calls Try.prog 33 #[.slice A l.length cap, .int .i64 b, .slice A2 mn cap2] w fun e w' => ∃ A' cap', e = .returned (.slice A' (placedL l b m).length cap') ∧ Tr w' A' (placedL l b m) ∧ (A' = none → cap' = 0) ∧ (placedL l b m).length ≤ cap' ∧ Below w.heap.size w w' := by
  have hbl := behind_le l b
  have C := find_any A cap l b w (by omega) hs hT
  have hbe : behind l b = if (Tre.get l b).isSome then idx l b + 1 else idx l b := rfl
  unfold placedL
  generalize behind l b = to at *
  generalize (Tre.get l b).isSome = is at *
  generalize idx l b = ix at *
  obtain ⟨A3, hA3⟩ : ∃ A3, (if cap = to then A else Option.map (fun x => x.add (to * 3)) A) = A3 := ⟨_, rfl⟩
  have h0 : (0 : Int) ≤ (ix : Int) := by omega
  have h1 : (ix : Int) ≤ (cap : Int) := by omega
  have h2 : (0 : Int) ≤ (to : Int) := by omega
  have h3 : (to : Int) ≤ (l.length : Int) := by omega
  have hT3 := hT.drop hcap hA3
  have hz3 := drop_none hn hA3
  have htk := hT.take ix
  have e1 : (l.take ix).length = ix := by rw [List.length_take]; omega
  have e3 : (l.drop to).length = l.length - to := List.length_drop
  have CC := fun (w1 : World) (hb : Below w.heap.size w w1) => concat3 w1 A A2 A3 ix cap mn cap2 (l.length - to) (cap - to) _ _ _ e1 hmn e3 (htk.below hb) (hT2.below hb) (hT3.below hb) hn hn2 hz3 (by omega)
  have HC := Lib.hid CC
  generalize ((l.take ix ++ m) ++ l.drop to) = R at *
  clear CC hT3 hz3 htk e1 e3 hT hT2 hn hn2 hs
  cases is
  · obtain rfl : to = ix := by simpa using hbe
    clear hbe
    go_enter Try.func33, Try.ntmps33
    go_wp2_with (go_at_call 11; (with_reducible refine C.mono ?_); rintro e w1 ⟨rfl, hb1⟩)
    go_still_tail 7, (by kernel_rfl)
    have hb2 : Below w.heap.size w w1.drew := hb1.drew
    change wpList _ _ _ _ _ w1.drew
    generalize w1.drew = w2 at *
    go_wp2_with (go_at_call 46; (with_reducible refine (HC.out w2 hb2).mono ?_); rintro e w3 ⟨A', cap', rfl, ht, hz, hlc, hb3⟩)
    go_ret
    exact ⟨A', cap', rfl, ht, hz, hlc, below_then hb2 hb3⟩
  · have hto : (ix : Int) + 1 = (to : Int) := by have : to = ix + 1 := by simpa using hbe
                                                 omega
    clear hbe
    go_enter Try.func33, Try.ntmps33
    go_wp2_with (go_at_call 11; (with_reducible refine C.mono ?_); rintro e w1 ⟨rfl, hb1⟩)
    go_still_tail 7, (by kernel_rfl)
    have hb2 : Below w.heap.size w w1.drew := hb1.drew
    change wpList _ _ _ _ _ w1.drew
    generalize w1.drew = w2 at *
    go_wp2_with (go_at_call 46; (with_reducible refine (HC.out w2 hb2).mono ?_); rintro e w3 ⟨A', cap', rfl, ht, hz, hlc, hb3⟩)
    go_ret
    exact ⟨A', cap', rfl, ht, hz, hlc, below_then hb2 hb3⟩

def putL (l : List Pl) (p : Pl) : List Pl := placedL l p.n [p]
def dropL (l : List Pl) (b : Int) : List Pl := placedL l b []
theorem AtPl.one {w : World} {b : Nat} {p : Pl} (h : PlIn w b p) : Tr w (some ⟨b, 0, none⟩) [p] := fun _ =>
  ⟨b, 0, rfl, h.lt, fun i hi => by
    obtain rfl : i = 0 := by simpa using hi
    exact h.cells⟩
theorem put_any (A : Option Addr) (cap : Nat) (l : List Pl) (p : Pl) (w : World) (hl : l.length ≤ 900) (hs : Sorted l) (hT : Tr w A l) (hcap : l.length ≤ cap) (hn : A = none → cap = 0) :
    Calls Try.prog 16 #[.slice A l.length cap, .agg #[.int .i64 p.n, .int .i64 p.u, .string p.s]] w fun e w' => ∃ A' cap', e = .returned (.slice A' (putL l p).length cap') ∧ Tr w' A' (putL l p) ∧ (A' = none → cap' = 0) ∧ (putL l p).length ≤ cap' ∧ Below w.heap.size w w' := by
  have C := fun (w1 : World) (A2 : Option Addr) (hb : Below w.heap.size w w1) (h2 : Tr w1 A2 [p]) (hn2 : A2 = none → 1 = 0) => placed_any A cap l p.n A2 1 1 [p] w1 rfl hl hs (hT.below hb) hcap hn (Nat.le_refl _) h2 hn2
  have HC := Lib.hid C
  clear C hs hT hcap hn
  unfold putL
  generalize placedL l p.n [p] = R at *
  go_enter Try.func16, Try.ntmps16
  go_wp2_with fail
  have hb1 := below_alloc (Below.refl _ w) (.cells #[.int .i64 p.n, .int .i64 p.u, .string p.s] 24)
  have hb2 := below_alloc hb1 (.cells #[.int .i64 p.n, .int .i64 p.u, .string p.s] 24)
  have h1 := AtPl.one (PlIn.new (w.alloc (.cells #[.int .i64 p.n, .int .i64 p.u, .string p.s] 24)) p)
  rw [alloc_size] at h1
  refine (HC.out _ _ hb2 h1 (fun e => by cases e)).mono ?_
  rintro e w3 ⟨A', cap', rfl, ht, hz, hlc, hb3⟩
  go_wp2
  go_ret
  exact ⟨A', cap', rfl, ht, hz, hlc, below_then hb2 hb3⟩

theorem drop_any (A : Option Addr) (cap : Nat) (l : List Pl) (b : Int) (w : World) (hl : l.length ≤ 900) (hs : Sorted l) (hT : Tr w A l) (hcap : l.length ≤ cap) (hn : A = none → cap = 0) :
    Calls Try.prog 18 #[.slice A l.length cap, .int .i64 b] w fun e w' => ∃ A' cap', e = .returned (.slice A' (dropL l b).length cap') ∧ Tr w' A' (dropL l b) ∧ (A' = none → cap' = 0) ∧ (dropL l b).length ≤ cap' ∧ Below w.heap.size w w' := by
  have C := placed_any A cap l b none 0 0 [] w rfl hl hs hT hcap hn (Nat.zero_le _) (Tr.nil w none) (fun _ => rfl)
  unfold dropL
  generalize placedL l b [] = R at *
  go_enter Try.func18, Try.ntmps18
  go_wp2_with (go_at_call 33; (with_reducible refine C.mono ?_); rintro e w3 ⟨A', cap', rfl, ht, hz, hlc, hb3⟩)
  go_ret
  exact ⟨A', cap', rfl, ht, hz, hlc, hb3⟩
end Go.Proofs.Ytfhonobaddkmhaa
