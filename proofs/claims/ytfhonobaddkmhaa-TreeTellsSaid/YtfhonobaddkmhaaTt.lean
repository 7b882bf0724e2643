/- Put and Drop of the document. -/
import Derived.Test.YtfhonobaddkmhaaTj
import Derived.Deep.RegionHeld3
namespace Go.Proofs.Ytfhonobaddkmhaa
open Go.RowKit Tre

theorem step_app {ops : Array Oper} {o : Oper} {a : Act} {w : World} {K : Act → World → Prop} {Q : Exit → Act → World → Prop} {E : Prop} (hgd : o.guard = none) (s x : Operand)
    (ho : o.op = .call { callee := .builtin .append, args := #[s, x], argTypes := #[22, 22] }) (B : Nat) (v : Value) (l r : List Pl) (hs : a.eval s = v) (hown : Own w B v l) (A : Option Addr) (m c : Nat) (hx : a.eval x = .slice A m c)
    (hm : r.length = m) (hT : Tr w A r) (hc : A = none → c = 0) (hl : l.length + r.length ≤ 1000) (hB : B ≤ w.heap.size)
    (h : ∀ v' w', Own w' B v' (l ++ r) → w.grownBy w' v.ownBlock → (v'.ownBlock = v.ownBlock ∨ v'.ownBlock = some w.heap.size) → K (a.put o.dst v') w') :
    if Region.wanted o (yielded ops a.tmps) = true then Oper.wp Try.prog o a w K Q else E := by
  rw [if_pos (by simp [Region.wanted, hgd])]
  exact wp_app s x ho B v l r hs hown A m c hx hm hT hc hl hB h

/-- The slice at A holds these places, in a block ahead of B. -/
def TrB (B : Nat) (w : World) (A : Option Addr) (l : List Pl) : Prop :=
  0 < l.length → ∃ b off, A = some ⟨b, off, none⟩ ∧ b < B ∧ ∀ i (h : i < l.length), AtPl w b (off + i * 3) l[i]
theorem TrB.of {B : Nat} {w : World} {A : Option Addr} {l : List Pl} (h : Tr w A l) (hB : w.heap.size ≤ B) : TrB B w A l := fun h0 => by
  obtain ⟨b, off, e, hl, hc⟩ := h h0
  exact ⟨b, off, e, by omega, hc⟩
theorem TrB.tr {B : Nat} {w : World} {A : Option Addr} {l : List Pl} (h : TrB B w A l) (hB : B ≤ w.heap.size) : Tr w A l := fun h0 => by
  obtain ⟨b, off, e, hl, hc⟩ := h h0
  exact ⟨b, off, e, by omega, hc⟩
theorem AtPl.grown {w w' : World} {b o : Nat} {p : Pl} {row : Option Nat} (h : AtPl w b o p) (hg : w.grownBy w' row) (hne : some b ≠ row) : AtPl w' b o p :=
  ⟨hg.cell h.1 hne, hg.cell h.2.1 hne, hg.cell h.2.2 hne⟩
theorem TrB.keep {B : Nat} {w w' : World} {A : Option Addr} {l : List Pl} {row : Option Nat} (h : TrB B w A l) (hg : w.grownBy w' row) (hrow : ∀ k, row = some k → B ≤ k) : TrB B w' A l := fun h0 => by
  obtain ⟨b, off, e, hl, hc⟩ := h h0
  exact ⟨b, off, e, hl, fun i hi => (hc i hi).grown hg (fun e => by have := hrow b e.symm; omega)⟩
theorem TrB.alloc {B : Nat} {w : World} {A : Option Addr} {l : List Pl} (h : TrB B w A l) (hB : B ≤ w.heap.size) (o : Obj) : TrB B (w.alloc o) A l :=
  h.keep (World.grownBy_alloc w o none) (fun k e => by cases e)
theorem own_empty (w : World) (B : Nat) (hB : B ≤ w.heap.size) : Own (w.alloc (.cells #[] 24)) B (.slice (some ⟨w.heap.size, 0, none⟩) 0 0) [] :=
  World.ownsRow_made w #[] 0 hB (by unfold maxLen; omega) rfl

theorem Tr.keep1 {w w' : World} {a : Addr} {l : List Pl} {row : Option Nat} (h : Tr w (some a) l) (hg : w.grownBy w' row) (hne : some a.block ≠ row) : Tr w' (some a) l := fun h0 => by
  obtain ⟨b, off, e, hl, hc⟩ := h h0
  cases e
  exact ⟨b, off, rfl, Nat.lt_of_lt_of_le hl hg.size, fun i hi => (hc i hi).grown hg hne⟩

set_option maxRecDepth 100000 in
set_option maxHeartbeats 4000000 in
theorem refPut_any (A : Option Addr) (cap : Nat) (l : List Pl) (p : Pl) (w : World) (hl : l.length ≤ 900) (hT : Tr w A l) (hcap : l.length ≤ cap) (hn : A = none → cap = 0) :
    Calls Try.prog 17 #[.slice A l.length cap, .agg #[.int .i64 p.n, .int .i64 p.u, .string p.s]] w fun e w' => ∃ A' cap', e = .returned (.slice A' (putL l p).length cap') ∧ Tr w' A' (putL l p) ∧ (A' = none → cap' = 0) ∧ (putL l p).length ≤ cap' ∧ Below w.heap.size w w' := by
  have hbl := behind_le l p.n
  have C := fun w hT => refFind_any A cap l p.n w (by omega) hT
  have hbe : behind l p.n = if (Tre.get l p.n).isSome then idx l p.n + 1 else idx l p.n := rfl
  unfold putL placedL
  generalize behind l p.n = to at *
  generalize (Tre.get l p.n).isSome = is at *
  generalize idx l p.n = ix at *
  obtain ⟨A3, hA3⟩ : ∃ A3, (if cap = to then A else Option.map (fun x => x.add (to * 3)) A) = A3 := ⟨_, rfl⟩
  have hT3 := hT.drop hcap hA3
  have hz3 := drop_none hn hA3
  have htk := hT.take ix
  have e1 : (l.take ix).length = ix := by rw [List.length_take]; omega
  have e3 : (l.drop to).length = l.length - to := List.length_drop
  have h0 : (0 : Int) ≤ (ix : Int) := by omega
  have h1 : (ix : Int) ≤ (cap : Int) := by omega
  have h2 : (0 : Int) ≤ (to : Int) := by omega
  have h3 : (to : Int) ≤ (l.length : Int) := by omega
  have h4 : (ix : Int) ≤ (l.length : Int) := by omega
  have hE : ([] ++ l.take ix ++ [p]) ++ l.drop to = (l.take ix ++ [p]) ++ l.drop to := rfl
  have HE1 := Lib.hid e1
  have HE3 := Lib.hid e3
  generalize l.take ix = L1 at *
  generalize l.drop to = L3 at *
  cases is
  · obtain rfl : to = ix := by simpa using hbe
    clear hbe e1 e3
    go_enter Try.func17, Try.ntmps17
    go_wp2_with fail
    have hb1 := below_alloc (Below.refl _ w) (.cells #[.int .i64 p.n, .int .i64 p.u, .string p.s] 24)
    have hO := PlIn.new w p
    have hpl : w.heap.size < (w.alloc (.cells #[.int .i64 p.n, .int .i64 p.u, .string p.s] 24)).heap.size := by simp
    refine (C _ (hT.below hb1)).mono ?_
    rintro e w1 ⟨rfl, hb2⟩
    have hN := below_then hb1 hb2
    have hO := hO.below hb2
    have hpl := Nat.lt_of_lt_of_le hpl hb2.size
    have hTw := hN
    clear hb2 C
    go_wp2_with fail
    have hOV : PlIn w1.drew w.heap.size p := hO
    have hNV : Below w.heap.size w w1.drew := hN.drew
    obtain ⟨B, hBe⟩ : ∃ B, w1.heap.size = B := ⟨_, rfl⟩
    have hB0 : B ≤ w1.drew.heap.size := Nat.le_of_eq hBe.symm
    have hpB : w.heap.size < B := by omega
    have tkV : TrB B w1.drew A L1 := TrB.of (htk.below hNV) (Nat.le_of_eq hBe)
    have t3V : TrB B w1.drew A3 L3 := TrB.of (hT3.below hNV) (Nat.le_of_eq hBe)
    have hwB : w.heap.size ≤ B := Nat.le_of_lt hpB
    have hB_p : B ≤ (w1.drew.alloc (.cells #[.int .i64 p.n, .int .i64 p.u, .string p.s] 24)).heap.size := by rw [alloc_size]; omega
    have o_p : PlIn (w1.drew.alloc (.cells #[.int .i64 p.n, .int .i64 p.u, .string p.s] 24)) w.heap.size p := hOV.alloc _
    have n_p : Below w.heap.size w (w1.drew.alloc (.cells #[.int .i64 p.n, .int .i64 p.u, .string p.s] 24)) := below_alloc hNV _
    have k_p : TrB B (w1.drew.alloc (.cells #[.int .i64 p.n, .int .i64 p.u, .string p.s] 24)) A L1 := tkV.alloc hB0 _
    have t_p : TrB B (w1.drew.alloc (.cells #[.int .i64 p.n, .int .i64 p.u, .string p.s] 24)) A3 L3 := t3V.alloc hB0 _
    have hB_i : B ≤ (w1.drew.alloc (.cells #[] 24)).heap.size := by rw [alloc_size]; omega
    have o_i : PlIn (w1.drew.alloc (.cells #[] 24)) w.heap.size p := hOV.alloc _
    have n_i : Below w.heap.size w (w1.drew.alloc (.cells #[] 24)) := below_alloc hNV _
    have k_i : TrB B (w1.drew.alloc (.cells #[] 24)) A L1 := tkV.alloc hB0 _
    have t_i : TrB B (w1.drew.alloc (.cells #[] 24)) A3 L3 := t3V.alloc hB0 _
    have hB_ii : B ≤ ((w1.drew.alloc (.cells #[] 24)).alloc (.cells #[.int .i64 p.n, .int .i64 p.u, .string p.s] 24)).heap.size := by rw [alloc_size]; omega
    have o_ii : PlIn ((w1.drew.alloc (.cells #[] 24)).alloc (.cells #[.int .i64 p.n, .int .i64 p.u, .string p.s] 24)) w.heap.size p := o_i.alloc _
    have n_ii : Below w.heap.size w ((w1.drew.alloc (.cells #[] 24)).alloc (.cells #[.int .i64 p.n, .int .i64 p.u, .string p.s] 24)) := below_alloc n_i _
    have k_ii : TrB B ((w1.drew.alloc (.cells #[] 24)).alloc (.cells #[.int .i64 p.n, .int .i64 p.u, .string p.s] 24)) A L1 := k_i.alloc hB_i _
    have t_ii : TrB B ((w1.drew.alloc (.cells #[] 24)).alloc (.cells #[.int .i64 p.n, .int .i64 p.u, .string p.s] 24)) A3 L3 := t_i.alloc hB_i _
    have hB_iii : B ≤ ((w1.drew.alloc (.cells #[.int .i64 p.n, .int .i64 p.u, .string p.s] 24)).alloc (.cells #[] 24)).heap.size := by rw [alloc_size]; omega
    have o_iii : PlIn ((w1.drew.alloc (.cells #[.int .i64 p.n, .int .i64 p.u, .string p.s] 24)).alloc (.cells #[] 24)) w.heap.size p := o_p.alloc _
    have n_iii : Below w.heap.size w ((w1.drew.alloc (.cells #[.int .i64 p.n, .int .i64 p.u, .string p.s] 24)).alloc (.cells #[] 24)) := below_alloc n_p _
    have k_iii : TrB B ((w1.drew.alloc (.cells #[.int .i64 p.n, .int .i64 p.u, .string p.s] 24)).alloc (.cells #[] 24)) A L1 := k_p.alloc hB_p _
    have t_iii : TrB B ((w1.drew.alloc (.cells #[.int .i64 p.n, .int .i64 p.u, .string p.s] 24)).alloc (.cells #[] 24)) A3 L3 := t_p.alloc hB_p _
    have own_i : Own (w1.drew.alloc (.cells #[] 24)) B (.slice (some ⟨B, 0, none⟩) 0 0) [] := by rw [← hBe]; exact own_empty w1.drew _ (Nat.le_refl _)
    have own_ii : Own ((w1.drew.alloc (.cells #[] 24)).alloc (.cells #[.int .i64 p.n, .int .i64 p.u, .string p.s] 24)) B (.slice (some ⟨B, 0, none⟩) 0 0) [] := own_i.below (below_alloc (Below.refl _ _) _)
    have e_ii : Tr ((w1.drew.alloc (.cells #[] 24)).alloc (.cells #[.int .i64 p.n, .int .i64 p.u, .string p.s] 24)) (some ⟨B + 1, 0, none⟩) [p] := by
      have := AtPl.one (PlIn.new (w1.drew.alloc (.cells #[] 24)) p)
      rw [alloc_size, show w1.drew.heap.size = B from hBe] at this
      exact this
    have own_iii : Own ((w1.drew.alloc (.cells #[.int .i64 p.n, .int .i64 p.u, .string p.s] 24)).alloc (.cells #[] 24)) B (.slice (some ⟨B + 1, 0, none⟩) 0 0) [] := by
      have := own_empty (w1.drew.alloc (.cells #[.int .i64 p.n, .int .i64 p.u, .string p.s] 24)) B hB_p
      rw [alloc_size, show w1.drew.heap.size = B from hBe] at this
      exact this
    have e_iii : Tr ((w1.drew.alloc (.cells #[.int .i64 p.n, .int .i64 p.u, .string p.s] 24)).alloc (.cells #[] 24)) (some ⟨B, 0, none⟩) [p] := by
      have := (AtPl.one (PlIn.new w1.drew p)).below (below_alloc (Below.refl _ _) (.cells #[] 24))
      rw [show w1.drew.heap.size = B from hBe] at this
      exact this
    have hL13 : L1.length + L3.length ≤ 900 := by have := HE1.out; have := HE3.out; omega
    have hO := hOV
    clear hT hTw htk hT3 hOV hNV tkV t3V k_p t_p n_p hcap
    go_region_held3 (fun w' => w'.cell? ⟨w.heap.size, 0, none⟩ = some (.int .i64 p.n) ∧ w'.cell? ⟨w.heap.size, 1, none⟩ = some (.int .i64 p.u) ∧ w'.cell? ⟨w.heap.size, 2, none⟩ = some (.string p.s)) (first | exact hO.cells | exact o_i.cells | exact o_p.cells | exact o_ii.cells | exact o_iii.cells | exact (hO.alloc _).cells) (first | (refine step_app rfl (.tmp 23) (.tmp 26) rfl B _ [] L1 rfl own_i A _ cap rfl HE1.out (k_i.tr hB_i) hn (by simp; omega) hB_i ?_; intro v1 w2 hOw hg2 hat2; have hr2 := (fun k e => (World.ownsRow.lt own_i k e).1 : ∀ k, Value.ownBlock (.slice (some ⟨B, 0, none⟩) 0 0) = some k → B ≤ k); have hO := o_i.keep hg2 (fun e => by have := hr2 _ e.symm; omega); have hN := n_i.grown hg2 (by have := n_i.size; omega) (fun k e => by have := hr2 k e; omega); have t3 := t_i.keep hg2 hr2; have hBw := Nat.le_trans hB_i hg2.size) | (refine step_app rfl (.tmp 23) (.tmp 26) rfl B _ [] L1 rfl own_ii A _ cap rfl HE1.out (k_ii.tr hB_ii) hn (by simp; omega) hB_ii ?_; intro v1 w2 hOw hg2 hat2; have hr2 := (fun k e => (World.ownsRow.lt own_ii k e).1 : ∀ k, Value.ownBlock (.slice (some ⟨B, 0, none⟩) 0 0) = some k → B ≤ k); have hO := o_ii.keep hg2 (fun e => by have := hr2 _ e.symm; omega); have hN := n_ii.grown hg2 (by have := n_ii.size; omega) (fun k e => by have := hr2 k e; omega); have t3 := t_ii.keep hg2 hr2; have hBw := Nat.le_trans hB_ii hg2.size; have hEE : Tr w2 (some ⟨B + 1, 0, none⟩) [p] := e_ii.keep1 hg2 (fun e => by have e : some (B + 1) = some B := e; have := Option.some.inj e; omega)) | (refine step_app rfl (.tmp 23) (.tmp 26) rfl B _ [] L1 rfl own_iii A _ cap rfl HE1.out (k_iii.tr hB_iii) hn (by simp; omega) hB_iii ?_; intro v1 w2 hOw hg2 hat2; have hr2 := (fun k e => (World.ownsRow.lt own_iii k e).1 : ∀ k, Value.ownBlock (.slice (some ⟨B + 1, 0, none⟩) 0 0) = some k → B ≤ k); have hO := o_iii.keep hg2 (fun e => by have := hr2 _ e.symm; omega); have hN := n_iii.grown hg2 (by have := n_iii.size; omega) (fun k e => by have := hr2 k e; omega); have t3 := t_iii.keep hg2 hr2; have hBw := Nat.le_trans hB_iii hg2.size; have hEE : Tr w2 (some ⟨B, 0, none⟩) [p] := e_iii.keep1 hg2 (fun e => by have e : some B = some (B + 1) := e; have := Option.some.inj e; omega)) | (refine step_app rfl (.tmp 27) (.tmp 29) rfl B _ _ [p] rfl hOw _ 1 1 rfl rfl hEE (fun e => by cases e) (by simp; omega) hBw ?_; intro v2 w3 hOw2 hg3 hat3; have hr3 := fun k e => (World.ownsRow.lt hOw k e).1; have hO := hO.keep hg3 (fun e => by have := hr3 _ e.symm; omega); have hN := hN.grown hg3 (by have := hN.size; omega) (fun k e => by have := hr3 k e; omega); have t3 := t3.keep hg3 hr3; have hBw := Nat.le_trans hBw hg3.size) | (refine step_app rfl (.tmp 27) (.tmp 29) rfl B _ _ [p] rfl (hOw.below (below_alloc (Below.refl _ _) (.cells #[.int .i64 p.n, .int .i64 p.u, .string p.s] 24))) _ 1 1 rfl rfl (AtPl.one (PlIn.new w2 p)) (fun e => by cases e) (by simp; omega) (by rw [alloc_size]; omega : B ≤ (w2.alloc (.cells #[.int .i64 p.n, .int .i64 p.u, .string p.s] 24)).heap.size) ?_; intro v2 w3 hOw2 hg3 hat3; have hr3 := fun k e => (World.ownsRow.lt hOw k e).1; have hO := (hO.alloc (.cells #[.int .i64 p.n, .int .i64 p.u, .string p.s] 24)).keep hg3 (fun e => by have := hr3 _ e.symm; omega); have hN := (below_alloc hN (.cells #[.int .i64 p.n, .int .i64 p.u, .string p.s] 24)).grown hg3 (by have := (below_alloc hN (.cells #[.int .i64 p.n, .int .i64 p.u, .string p.s] 24)).size; omega) (fun k e => by have := hr3 k e; omega); have t3 := (t3.alloc hBw (.cells #[.int .i64 p.n, .int .i64 p.u, .string p.s] 24)).keep hg3 hr3; have hBw := Nat.le_trans (by rw [alloc_size]; omega : B ≤ (w2.alloc (.cells #[.int .i64 p.n, .int .i64 p.u, .string p.s] 24)).heap.size) hg3.size) | (refine step_app rfl (.tmp 30) (.tmp 31) rfl B _ _ L3 rfl hOw2 A3 _ _ rfl HE3.out (t3.tr hBw) hz3 (by simp; omega) hBw ?_; intro v3 w4 hOw3 hg4 hat4; have hr4 := fun k e => (World.ownsRow.lt hOw2 k e).1; have hO := hO.keep hg4 (fun e => by have := hr4 _ e.symm; omega); have hN := hN.grown hg4 (by have := hN.size; omega) (fun k e => by have := hr4 k e; omega)))
    all_goals
      have hOw3 : Own w4 B v3 ((L1 ++ [p]) ++ L3) := hOw3
      obtain ⟨A', cap', rfl, hT', hz', hlc⟩ := hOw3.tr
      go_wp2
      go_ret
      exact ⟨A', cap', rfl, hT', hz', hlc, hN⟩
  · obtain ⟨A4, hA4⟩ : ∃ A4, (if cap = ix then A else Option.map (fun x => x.add (ix * 3)) A) = A4 := ⟨_, rfl⟩
    have hto : (ix : Int) + 1 = (to : Int) := by have : to = ix + 1 := by simpa using hbe
                                                 omega
    clear hbe e1 e3
    go_enter Try.func17, Try.ntmps17
    go_wp2_with fail
    have hb1 := below_alloc (Below.refl _ w) (.cells #[.int .i64 p.n, .int .i64 p.u, .string p.s] 24)
    have hO := PlIn.new w p
    have hpl : w.heap.size < (w.alloc (.cells #[.int .i64 p.n, .int .i64 p.u, .string p.s] 24)).heap.size := by simp
    refine (C _ (hT.below hb1)).mono ?_
    rintro e w1 ⟨rfl, hb2⟩
    have hN := below_then hb1 hb2
    have hO := hO.below hb2
    have hpl := Nat.lt_of_lt_of_le hpl hb2.size
    have hTw := hN
    clear hb2 C
    go_wp2_with fail
    have hOV : PlIn w1.drew w.heap.size p := hO
    have hNV : Below w.heap.size w w1.drew := hN.drew
    obtain ⟨B, hBe⟩ : ∃ B, w1.heap.size = B := ⟨_, rfl⟩
    have hB0 : B ≤ w1.drew.heap.size := Nat.le_of_eq hBe.symm
    have hpB : w.heap.size < B := by omega
    have tkV : TrB B w1.drew A L1 := TrB.of (htk.below hNV) (Nat.le_of_eq hBe)
    have t3V : TrB B w1.drew A3 L3 := TrB.of (hT3.below hNV) (Nat.le_of_eq hBe)
    have hwB : w.heap.size ≤ B := Nat.le_of_lt hpB
    have hB_p : B ≤ (w1.drew.alloc (.cells #[.int .i64 p.n, .int .i64 p.u, .string p.s] 24)).heap.size := by rw [alloc_size]; omega
    have o_p : PlIn (w1.drew.alloc (.cells #[.int .i64 p.n, .int .i64 p.u, .string p.s] 24)) w.heap.size p := hOV.alloc _
    have n_p : Below w.heap.size w (w1.drew.alloc (.cells #[.int .i64 p.n, .int .i64 p.u, .string p.s] 24)) := below_alloc hNV _
    have k_p : TrB B (w1.drew.alloc (.cells #[.int .i64 p.n, .int .i64 p.u, .string p.s] 24)) A L1 := tkV.alloc hB0 _
    have t_p : TrB B (w1.drew.alloc (.cells #[.int .i64 p.n, .int .i64 p.u, .string p.s] 24)) A3 L3 := t3V.alloc hB0 _
    have hB_i : B ≤ (w1.drew.alloc (.cells #[] 24)).heap.size := by rw [alloc_size]; omega
    have o_i : PlIn (w1.drew.alloc (.cells #[] 24)) w.heap.size p := hOV.alloc _
    have n_i : Below w.heap.size w (w1.drew.alloc (.cells #[] 24)) := below_alloc hNV _
    have k_i : TrB B (w1.drew.alloc (.cells #[] 24)) A L1 := tkV.alloc hB0 _
    have t_i : TrB B (w1.drew.alloc (.cells #[] 24)) A3 L3 := t3V.alloc hB0 _
    have hB_ii : B ≤ ((w1.drew.alloc (.cells #[] 24)).alloc (.cells #[.int .i64 p.n, .int .i64 p.u, .string p.s] 24)).heap.size := by rw [alloc_size]; omega
    have o_ii : PlIn ((w1.drew.alloc (.cells #[] 24)).alloc (.cells #[.int .i64 p.n, .int .i64 p.u, .string p.s] 24)) w.heap.size p := o_i.alloc _
    have n_ii : Below w.heap.size w ((w1.drew.alloc (.cells #[] 24)).alloc (.cells #[.int .i64 p.n, .int .i64 p.u, .string p.s] 24)) := below_alloc n_i _
    have k_ii : TrB B ((w1.drew.alloc (.cells #[] 24)).alloc (.cells #[.int .i64 p.n, .int .i64 p.u, .string p.s] 24)) A L1 := k_i.alloc hB_i _
    have t_ii : TrB B ((w1.drew.alloc (.cells #[] 24)).alloc (.cells #[.int .i64 p.n, .int .i64 p.u, .string p.s] 24)) A3 L3 := t_i.alloc hB_i _
    have hB_iii : B ≤ ((w1.drew.alloc (.cells #[.int .i64 p.n, .int .i64 p.u, .string p.s] 24)).alloc (.cells #[] 24)).heap.size := by rw [alloc_size]; omega
    have o_iii : PlIn ((w1.drew.alloc (.cells #[.int .i64 p.n, .int .i64 p.u, .string p.s] 24)).alloc (.cells #[] 24)) w.heap.size p := o_p.alloc _
    have n_iii : Below w.heap.size w ((w1.drew.alloc (.cells #[.int .i64 p.n, .int .i64 p.u, .string p.s] 24)).alloc (.cells #[] 24)) := below_alloc n_p _
    have k_iii : TrB B ((w1.drew.alloc (.cells #[.int .i64 p.n, .int .i64 p.u, .string p.s] 24)).alloc (.cells #[] 24)) A L1 := k_p.alloc hB_p _
    have t_iii : TrB B ((w1.drew.alloc (.cells #[.int .i64 p.n, .int .i64 p.u, .string p.s] 24)).alloc (.cells #[] 24)) A3 L3 := t_p.alloc hB_p _
    have own_i : Own (w1.drew.alloc (.cells #[] 24)) B (.slice (some ⟨B, 0, none⟩) 0 0) [] := by rw [← hBe]; exact own_empty w1.drew _ (Nat.le_refl _)
    have own_ii : Own ((w1.drew.alloc (.cells #[] 24)).alloc (.cells #[.int .i64 p.n, .int .i64 p.u, .string p.s] 24)) B (.slice (some ⟨B, 0, none⟩) 0 0) [] := own_i.below (below_alloc (Below.refl _ _) _)
    have e_ii : Tr ((w1.drew.alloc (.cells #[] 24)).alloc (.cells #[.int .i64 p.n, .int .i64 p.u, .string p.s] 24)) (some ⟨B + 1, 0, none⟩) [p] := by
      have := AtPl.one (PlIn.new (w1.drew.alloc (.cells #[] 24)) p)
      rw [alloc_size, show w1.drew.heap.size = B from hBe] at this
      exact this
    have own_iii : Own ((w1.drew.alloc (.cells #[.int .i64 p.n, .int .i64 p.u, .string p.s] 24)).alloc (.cells #[] 24)) B (.slice (some ⟨B + 1, 0, none⟩) 0 0) [] := by
      have := own_empty (w1.drew.alloc (.cells #[.int .i64 p.n, .int .i64 p.u, .string p.s] 24)) B hB_p
      rw [alloc_size, show w1.drew.heap.size = B from hBe] at this
      exact this
    have e_iii : Tr ((w1.drew.alloc (.cells #[.int .i64 p.n, .int .i64 p.u, .string p.s] 24)).alloc (.cells #[] 24)) (some ⟨B, 0, none⟩) [p] := by
      have := (AtPl.one (PlIn.new w1.drew p)).below (below_alloc (Below.refl _ _) (.cells #[] 24))
      rw [show w1.drew.heap.size = B from hBe] at this
      exact this
    have hL13 : L1.length + L3.length ≤ 900 := by have := HE1.out; have := HE3.out; omega
    have hO := hOV
    clear hT hTw htk hT3 hOV hNV tkV t3V k_p t_p n_p hcap
    go_region_held3 (fun w' => w'.cell? ⟨w.heap.size, 0, none⟩ = some (.int .i64 p.n) ∧ w'.cell? ⟨w.heap.size, 1, none⟩ = some (.int .i64 p.u) ∧ w'.cell? ⟨w.heap.size, 2, none⟩ = some (.string p.s)) (first | exact hO.cells | exact o_i.cells | exact o_p.cells | exact o_ii.cells | exact o_iii.cells | exact (hO.alloc _).cells) (first | (refine step_app rfl (.tmp 23) (.tmp 26) rfl B _ [] L1 rfl own_i A _ cap rfl HE1.out (k_i.tr hB_i) hn (by simp; omega) hB_i ?_; intro v1 w2 hOw hg2 hat2; have hr2 := (fun k e => (World.ownsRow.lt own_i k e).1 : ∀ k, Value.ownBlock (.slice (some ⟨B, 0, none⟩) 0 0) = some k → B ≤ k); have hO := o_i.keep hg2 (fun e => by have := hr2 _ e.symm; omega); have hN := n_i.grown hg2 (by have := n_i.size; omega) (fun k e => by have := hr2 k e; omega); have t3 := t_i.keep hg2 hr2; have hBw := Nat.le_trans hB_i hg2.size) | (refine step_app rfl (.tmp 23) (.tmp 26) rfl B _ [] L1 rfl own_ii A _ cap rfl HE1.out (k_ii.tr hB_ii) hn (by simp; omega) hB_ii ?_; intro v1 w2 hOw hg2 hat2; have hr2 := (fun k e => (World.ownsRow.lt own_ii k e).1 : ∀ k, Value.ownBlock (.slice (some ⟨B, 0, none⟩) 0 0) = some k → B ≤ k); have hO := o_ii.keep hg2 (fun e => by have := hr2 _ e.symm; omega); have hN := n_ii.grown hg2 (by have := n_ii.size; omega) (fun k e => by have := hr2 k e; omega); have t3 := t_ii.keep hg2 hr2; have hBw := Nat.le_trans hB_ii hg2.size; have hEE : Tr w2 (some ⟨B + 1, 0, none⟩) [p] := e_ii.keep1 hg2 (fun e => by have e : some (B + 1) = some B := e; have := Option.some.inj e; omega)) | (refine step_app rfl (.tmp 23) (.tmp 26) rfl B _ [] L1 rfl own_iii A _ cap rfl HE1.out (k_iii.tr hB_iii) hn (by simp; omega) hB_iii ?_; intro v1 w2 hOw hg2 hat2; have hr2 := (fun k e => (World.ownsRow.lt own_iii k e).1 : ∀ k, Value.ownBlock (.slice (some ⟨B + 1, 0, none⟩) 0 0) = some k → B ≤ k); have hO := o_iii.keep hg2 (fun e => by have := hr2 _ e.symm; omega); have hN := n_iii.grown hg2 (by have := n_iii.size; omega) (fun k e => by have := hr2 k e; omega); have t3 := t_iii.keep hg2 hr2; have hBw := Nat.le_trans hB_iii hg2.size; have hEE : Tr w2 (some ⟨B, 0, none⟩) [p] := e_iii.keep1 hg2 (fun e => by have e : some B = some (B + 1) := e; have := Option.some.inj e; omega)) | (refine step_app rfl (.tmp 27) (.tmp 29) rfl B _ _ [p] rfl hOw _ 1 1 rfl rfl hEE (fun e => by cases e) (by simp; omega) hBw ?_; intro v2 w3 hOw2 hg3 hat3; have hr3 := fun k e => (World.ownsRow.lt hOw k e).1; have hO := hO.keep hg3 (fun e => by have := hr3 _ e.symm; omega); have hN := hN.grown hg3 (by have := hN.size; omega) (fun k e => by have := hr3 k e; omega); have t3 := t3.keep hg3 hr3; have hBw := Nat.le_trans hBw hg3.size) | (refine step_app rfl (.tmp 27) (.tmp 29) rfl B _ _ [p] rfl (hOw.below (below_alloc (Below.refl _ _) (.cells #[.int .i64 p.n, .int .i64 p.u, .string p.s] 24))) _ 1 1 rfl rfl (AtPl.one (PlIn.new w2 p)) (fun e => by cases e) (by simp; omega) (by rw [alloc_size]; omega : B ≤ (w2.alloc (.cells #[.int .i64 p.n, .int .i64 p.u, .string p.s] 24)).heap.size) ?_; intro v2 w3 hOw2 hg3 hat3; have hr3 := fun k e => (World.ownsRow.lt hOw k e).1; have hO := (hO.alloc (.cells #[.int .i64 p.n, .int .i64 p.u, .string p.s] 24)).keep hg3 (fun e => by have := hr3 _ e.symm; omega); have hN := (below_alloc hN (.cells #[.int .i64 p.n, .int .i64 p.u, .string p.s] 24)).grown hg3 (by have := (below_alloc hN (.cells #[.int .i64 p.n, .int .i64 p.u, .string p.s] 24)).size; omega) (fun k e => by have := hr3 k e; omega); have t3 := (t3.alloc hBw (.cells #[.int .i64 p.n, .int .i64 p.u, .string p.s] 24)).keep hg3 hr3; have hBw := Nat.le_trans (by rw [alloc_size]; omega : B ≤ (w2.alloc (.cells #[.int .i64 p.n, .int .i64 p.u, .string p.s] 24)).heap.size) hg3.size) | (refine step_app rfl (.tmp 30) (.tmp 31) rfl B _ _ L3 rfl hOw2 A3 _ _ rfl HE3.out (t3.tr hBw) hz3 (by simp; omega) hBw ?_; intro v3 w4 hOw3 hg4 hat4; have hr4 := fun k e => (World.ownsRow.lt hOw2 k e).1; have hO := hO.keep hg4 (fun e => by have := hr4 _ e.symm; omega); have hN := hN.grown hg4 (by have := hN.size; omega) (fun k e => by have := hr4 k e; omega)))
    all_goals
      have hOw3 : Own w4 B v3 ((L1 ++ [p]) ++ L3) := hOw3
      obtain ⟨A', cap', rfl, hT', hz', hlc⟩ := hOw3.tr
      go_wp2
      go_ret
      exact ⟨A', cap', rfl, hT', hz', hlc, hN⟩

theorem dropL_none {l : List Pl} {b : Int} (h : (Tre.get l b).isSome = false) : dropL l b = l := by
  unfold dropL placedL behind
  rw [h, List.append_nil]
  exact List.take_append_drop _ _

set_option maxRecDepth 100000 in
set_option maxHeartbeats 4000000 in
theorem refDrop_any (A : Option Addr) (cap : Nat) (l : List Pl) (b : Int) (w : World) (hl : l.length ≤ 900) (hT : Tr w A l) (hcap : l.length ≤ cap) (hn : A = none → cap = 0) :
    Calls Try.prog 19 #[.slice A l.length cap, .int .i64 b] w fun e w' => ∃ A' cap', e = .returned (.slice A' (dropL l b).length cap') ∧ Tr w' A' (dropL l b) ∧ (A' = none → cap' = 0) ∧ (dropL l b).length ≤ cap' ∧ Below w.heap.size w w' := by
  have hbl := behind_le l b
  have C := refFind_any A cap l b w (by omega) hT
  have hbe : behind l b = if (Tre.get l b).isSome then idx l b + 1 else idx l b := rfl
  rcases hi : (Tre.get l b).isSome with _ | _
  · rw [dropL_none hi]
    rw [hi] at C
    clear hbe hi hbl
    go_enter Try.func19, Try.ntmps19
    go_wp2_with fail
    refine C.mono ?_
    rintro e w1 ⟨rfl, hb1⟩
    have hT1 := (hT.below hb1).below (below_alloc (Below.refl _ w1) (.cells #[] 24))
    have hO := own_empty w1 w1.heap.size (Nat.le_refl _)
    have hN := below_alloc hb1 (.cells #[] 24)
    have hB : w1.heap.size ≤ (w1.alloc (.cells #[] 24)).heap.size := by rw [alloc_size]; omega
    have hwB := hb1.size
    clear C hb1
    go_wp2_with (at_builtin; refine wpList_app rfl _ _ rfl w1.heap.size _ [] l rfl hO A _ cap rfl rfl hT1 hn (by simp; omega) hB ?_; intro v1 w2 hOw hg2 _)
    have hr2 := fun k e => (World.ownsRow.lt hO k e).1
    obtain ⟨A', cap', rfl, hT', hz', hlc⟩ := hOw.tr
    have hN2 := hN.grown hg2 (by have := hN.size; omega) (fun k e => by have := hr2 k e; omega)
    go_wp2
    go_ret
    exact ⟨A', cap', rfl, hT', hz', hlc, hN2⟩
  · rw [hi] at C hbe
    unfold dropL placedL
    generalize behind l b = to at *
    generalize idx l b = ix at *
    obtain rfl : to = ix + 1 := by simpa using hbe
    obtain ⟨A3, hA3⟩ : ∃ A3, (if cap = ix + 1 then A else Option.map (fun x => x.add ((ix + 1) * 3)) A) = A3 := ⟨_, rfl⟩
    have hT3 := hT.drop hcap hA3
    have hz3 := drop_none hn hA3
    have htk := hT.take ix
    have e1 : (l.take ix).length = ix := by rw [List.length_take]; omega
    have e3 : (l.drop (ix + 1)).length = l.length - (ix + 1) := List.length_drop
    have h0 : (0 : Int) ≤ (ix : Int) := by omega
    have h1 : (ix : Int) ≤ (cap : Int) := by omega
    have h2 : (0 : Int) ≤ (ix : Int) + 1 := by omega
    have h3 : (ix : Int) + 1 ≤ (l.length : Int) := by omega
    have hwr : IntKind.i64.wrap ((ix : Int) + 1) = (ix : Int) + 1 := by rw [IntKind.wrap_i64]; omega
    have hw6 : wrap64 ((ix : Int) + 1) = (ix : Int) + 1 := by unfold wrap64; omega
    have HE1 := Lib.hid e1
    have HE3 := Lib.hid e3
    have hL13 : (l.take ix).length + (l.drop (ix + 1)).length ≤ 900 := by omega
    generalize l.take ix = L1 at *
    generalize l.drop (ix + 1) = L3 at *
    clear hbe e1 e3 hi
    go_enter Try.func19, Try.ntmps19
    go_wp2_with fail
    refine C.mono ?_
    rintro e w1 ⟨rfl, hb1⟩
    have hTw := hb1.drew
    obtain ⟨B, hBe⟩ : ∃ B, w1.heap.size = B := ⟨_, rfl⟩
    have hwB := hb1.size
    have hB0 : B ≤ w1.drew.heap.size := Nat.le_of_eq hBe.symm
    have tkV : TrB B w1.drew A L1 := TrB.of (htk.below hTw) (Nat.le_of_eq hBe)
    have t3V : TrB B w1.drew A3 L3 := TrB.of (hT3.below hTw) (Nat.le_of_eq hBe)
    have hB_i : B ≤ (w1.drew.alloc (.cells #[] 24)).heap.size := by rw [alloc_size]; omega
    have n_i : Below w.heap.size w (w1.drew.alloc (.cells #[] 24)) := below_alloc hTw _
    have k_i : TrB B (w1.drew.alloc (.cells #[] 24)) A L1 := tkV.alloc hB0 _
    have t_i : TrB B (w1.drew.alloc (.cells #[] 24)) A3 L3 := t3V.alloc hB0 _
    have own_i : Own (w1.drew.alloc (.cells #[] 24)) B (.slice (some ⟨B, 0, none⟩) 0 0) [] := by rw [← hBe]; exact own_empty w1.drew _ (Nat.le_refl _)
    clear C hb1 hT htk hT3 tkV t3V hcap
    go_wp2_with fail
    go_region_held3 (fun w' => True) (first | exact trivial) (first | (refine step_app rfl (.tmp 18) (.tmp 21) rfl B _ [] L1 rfl own_i A _ cap rfl HE1.out (k_i.tr hB_i) hn (by simp; omega) hB_i ?_; intro v1 w2 hOw hg2 hat2; have hr2 := (fun k e => (World.ownsRow.lt own_i k e).1 : ∀ k, Value.ownBlock (.slice (some ⟨B, 0, none⟩) 0 0) = some k → B ≤ k); have hN := n_i.grown hg2 (by have := n_i.size; omega) (fun k e => by have := hr2 k e; omega); have t3 := t_i.keep hg2 hr2; have hBw := Nat.le_trans hB_i hg2.size) | (refine step_app rfl (.tmp 22) (.tmp 26) rfl B _ _ L3 rfl hOw A3 _ _ rfl HE3.out (t3.tr hBw) hz3 (by simp; omega) hBw ?_; intro v3 w4 hOw3 hg4 hat4; have hr4 := fun k e => (World.ownsRow.lt hOw k e).1; have hN := hN.grown hg4 (by have := hN.size; omega) (fun k e => by have := hr4 k e; omega)))
    all_goals
      have hOw3 : Own w4 B v3 ((L1 ++ []) ++ L3) := by rw [List.append_nil]; exact hOw3
      obtain ⟨A', cap', rfl, hT', hz', hlc⟩ := hOw3.tr
      go_wp2
      go_ret
      exact ⟨A', cap', rfl, hT', hz', hlc, hN⟩
end Go.Proofs.Ytfhonobaddkmhaa
