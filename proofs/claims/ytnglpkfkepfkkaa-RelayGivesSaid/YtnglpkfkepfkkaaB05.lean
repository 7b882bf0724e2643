/- Texts laid one behind the other: Ba, Ak, Qk, Hc, Hd, Hn, Ho, Am, An, Ql. -/
import Derived.Test.YtnglpkfkepfkkaaB04
import Derived.Deep.CutRange
/- The program's gifts: Insert (slices), Merge. -/
namespace Go.Proofs.Ytnglpkfkepfkkaa
open Go.RowKit Nam Cod

theorem gfSize : (Try.prog.info? 57).map (·.size) = some 5 := by kernel_rfl
theorem infoGf : (Try.prog.info? 57).map (fun i => (i.zero, i.size, i.bytes)) = some (some (.agg #[.int .i64 0, .int .i64 0, .int .i64 0, .int .i64 0, .string ⟨#[]⟩]), 5, 48) := by kernel_rfl
/-- What a row of the call's own is. -/
theorem gf_row {w : World} {B g c : Nat} {l : List Gf} (h : gfE.Own w B (.slice (some ⟨g, 0, none⟩) l.length c) l) : ∃ C : List Value, B ≤ g ∧ w.heap[g]? = some (.cells C.toArray 57 (0, 0)) ∧ l.length ≤ c ∧ c ≤ maxLen ∧ C.length = c * 5 ∧ C.take (l.length * 5) = gfE.cells l := by
  rcases h.2 with ⟨e, _⟩ | ⟨g', cap, cur, e, hb, hg, hnc, hcm, hcs, htk⟩
  · cases e
  · injection e with e1 _ e2
    injection e1 with e1
    injection e1 with e1
    subst e1 e2
    exact ⟨cur.toList, hb, by rw [Array.toArray_toList]; exact hg, hnc, hcm, by rw [Array.length_toList]; exact hcs, htk⟩
theorem gf_own {w : World} {B g c : Nat} {l : List Gf} {C : List Value} (hb : B ≤ g) (hg : w.heap[g]? = some (.cells C.toArray 57 (0, 0))) (hnc : l.length ≤ c) (hcm : c ≤ maxLen) (hcs : C.length = c * 5) (htk : C.take (l.length * 5) = gfE.cells l) : gfE.Own w B (.slice (some ⟨g, 0, none⟩) l.length c) l :=
  ⟨El.cells_len l, Or.inr ⟨g, c, C.toArray, rfl, hb, hg, hnc, hcm, by rw [List.size_toArray]; exact hcs, by rw [List.toList_toArray]; exact htk⟩⟩
theorem gf_get {w : World} {g : Nat} {C : List Value} (hg : w.heap[g]? = some (.cells C.toArray 57 (0, 0))) (o : Nat) (cs : List Value) (h : ∀ j v, cs[j]? = some v → C[o + j]? = some v) : ∀ j v, cs[j]? = some v → w.cell? ((⟨g, o, none⟩ : Addr).add j) = some v := fun j v hj => by
  rw [Addr.add_lit, cell_of_row w g (o + j) _ _ _ hg]
  simpa using h j v hj
theorem gf_drop {C : List Value} {l : List Gf} (htk : C.take (l.length * 5) = gfE.cells l) (i : Nat) (hi : i ≤ l.length) : ∀ j v, (gfE.cells (l.drop i))[j]? = some v → C[i * 5 + j]? = some v := fun j v hj => by
  have h : gfE.cells l = gfE.cells (l.take i) ++ gfE.cells (l.drop i) := by rw [← El.cells_app, List.take_append_drop]
  have hl : (gfE.cells (l.take i)).length = i * 5 := by rw [show (gfE.cells (l.take i)).length = (l.take i).length * 5 from El.cells_len _, List.length_take, Nat.min_eq_left hi]
  have h2 : (C.take (l.length * 5))[i * 5 + j]? = some v := by
    rw [htk, h, List.getElem?_append_right (by omega), hl, Nat.add_sub_cancel_left]; exact hj
  rw [List.getElem?_take] at h2
  split at h2
  · exact h2
  · cases h2

set_option maxRecDepth 100000 in
set_option maxHeartbeats 4000000 in
theorem insRoom_any (W0 w : World) (hB : Below W0.heap.size W0 w) (g c : Nat) (l : List Gf) (i : Nat) (x : Gf) (vb : Nat) (hO : gfE.Own w W0.heap.size (.slice (some ⟨g, 0, none⟩) l.length c) l) (hi : i < l.length) (hl : l.length ≤ 1000) (hx : gfE.In w vb x) (hne : vb ≠ g) (hroom : l.length + 1 ≤ c) :
    Calls Try.prog 62 #[.slice (some ⟨g, 0, none⟩) l.length c, .int .i64 i, .slice (some ⟨vb, 0, none⟩) 1 1] w fun e w' => ∃ v, e = .returned v ∧ gfE.Own w' W0.heap.size v (l.take i ++ [x] ++ l.drop i) ∧ Below W0.heap.size W0 w' := by
  obtain ⟨C, hBg, hg, hnc, hcm, hcs, htk⟩ := gf_row hO
  have hc63 : c ≤ 9223372036854775807 := by unfold maxLen at hcm; omega
  have hov : ∀ lb cb, (callFunc 74 #[.slice (some ⟨vb, 0, none⟩) 1 1, .slice (some ⟨g, (i + 1) * 5, none⟩) lb cb]).run Try.prog w = .ok (.value (.bool false)) w := fun lb cb => by
    have hx' : w.heap[vb]? = some (.cells (gfE.c x).toArray 57 (0, 0)) := hx
    rw [run_callFunc_extern Try.func74 (by kernel_rfl) (by kernel_rfl) (by kernel_rfl) (e := Extern.SlicesOverlaps.overlaps #[26, 26] #[4]) (by kernel_rfl),
      Lib.run_overlaps_apart w 26 4 57 Try.underlying26 5 (fun w => by kernel_rfl) ⟨vb, 0, none⟩ ⟨g, (i + 1) * 5, none⟩ 1 1 lb cb hne 57 57 5 (c * 5) (by simp [World.shape?, hx']; rfl) (by simp [World.shape?, hg, hcs]) (by omega) (hx.frozen 0) (hx.frozen 5)]
    rfl
  have hw1 : IntKind.i64.wrap ((i : Int) + 1) = (i : Int) + 1 := by rw [IntKind.wrap_i64]; omega
  have hb1 : (0 : Int) ≤ (i : Int) + 1 := by omega
  have hin : i ≤ l.length := by omega
  have htn : ((i : Int) + 1).toNat = i + 1 := by omega
  have hz2 : ¬ ((i : Int) = (l.length : Int)) := by omega
  have hb2 : ¬ (c = i + 1) := by omega
  have hb3 : (i : Int) ≤ (l.length : Int) + 1 := by omega
  have hb4 : ¬ (c = i) := by omega
  obtain ⟨D, hD⟩ : ∃ D, gfE.cells (l.drop i) = D := ⟨_, rfl⟩
  have hDl : D.length = (l.length - i) * 5 := by rw [← hD, show (gfE.cells (l.drop i)).length = (l.drop i).length * 5 from El.cells_len _, List.length_drop]
  have hD1 : ∀ v ∈ D, v.oneCell' = true := by rw [← hD]; exact El.cells_one _
  have hsrc := gf_get hg (i * 5) D (by rw [← hD]; exact gf_drop htk i hin)
  obtain ⟨n, hn⟩ : ∃ n, l.length = n := ⟨_, rfl⟩
  have HN := Lib.hid hn
  have HD := Lib.hid hD
  rw [hn] at hi hl hroom htk hnc hin hz2 hb3 hDl ⊢
  clear hn hD
  go_enter Try.func62, Try.ntmps62
  go_wp2_with (simp only [hov])
  have hgd : w.drew.heap[g]? = some (.cells C.toArray 57 (0, 0)) := hg
  have hsd : ∀ j v, D[j]? = some v → w.drew.cell? ((⟨g, i * 5, none⟩ : Addr).add j) = some v := hsrc
  have hxd : gfE.In w.drew vb x := hx
  have hBd := hB.drew
  have hfit : i * 5 + 5 + D.length ≤ C.length := by omega
  go_region_law (refine step_copyE rfl (.tmp 73) (.tmp 76) 26 26 rfl 57 Try.underlying26 5 gfSize g (i * 5 + 5) (n - i) (c - (i + 1)) ⟨g, i * 5, none⟩ (n + 1 - i) (c - i) (by simp [Act.eval, Act.put]) (by simp [Act.eval, Act.put]) C 57 hgd D (by rw [hDl]; simp only [Nat.min_def]; split <;> omega) hsd hfit hD1 W0.heap.size W0 hBd hBg ?_; intro w4 hg4 hb4 hk4)
  replace hxd : gfE.In w4 vb x := (hk4 vb hne).trans hxd
  obtain ⟨S, hS⟩ : ∃ S, splice C (i * 5 + 5) D = S := ⟨_, rfl⟩
  rw [hS] at hg4
  have hSl : S.length = C.length := by rw [← hS]; exact length_splice _ _ _ hfit
  have HS := Lib.hid hS
  clear hS hgd hsd hx hB hBd hsrc hov hO hk4
  go_wp2_with (refine wpList_copyE rfl (.tmp 80) (.tmp 81) 26 26 rfl 57 Try.underlying26 5 gfSize g (i * 5) _ _ ⟨vb, 0, none⟩ _ _ rfl rfl S 57 hg4.out (gfE.c x) (by rw [gfE.len]; show 5 = Nat.min 1 (n + 1 - i) * 5; simp only [Nat.min_def]; split <;> omega) (fun j v hj => by rw [Addr.add_lit, Nat.zero_add]; exact (hxd.cell j).trans hj) (by rw [gfE.len]; show i * 5 + 5 ≤ _; omega) (gfE.one x) W0.heap.size W0 hb4 hBg ?_; intro w5 hg5 hb5 _)
  go_ret
  refine ⟨_, rfl, ?_, hb5⟩
  have hlen : (l.take i ++ [x] ++ l.drop i).length = n + 1 := by
    have := HN.out
    simp only [List.length_append, List.length_take, List.length_drop, List.length_singleton]; omega
  have hfin := shift_in C D (gfE.c x) (i * 5) 5 (gfE.len x) (by omega)
  rw [HS.out, show i * 5 + 5 + D.length = (n + 1) * 5 by omega] at hfin
  have hown := gf_own (c := c) (l := l.take i ++ [x] ++ l.drop i) hBg hg5.out (by omega) hcm (by rw [length_splice _ _ _ (by rw [gfE.len]; show i * 5 + 5 ≤ _; omega), hSl, hcs]) (by
    rw [hlen, hfin, gf_in, HD.out, ← gf_take, ← htk, List.take_take, Nat.min_eq_left (by omega)])
  rw [hlen] at hown
  exact hown

set_option maxRecDepth 100000 in
set_option maxHeartbeats 4000000 in
theorem insGrow_any (W0 w : World) (hB : Below W0.heap.size W0 w) (g c : Nat) (l : List Gf) (i : Nat) (x : Gf) (vb : Nat) (hO : gfE.Own w W0.heap.size (.slice (some ⟨g, 0, none⟩) l.length c) l) (hi : i < l.length) (hl : l.length ≤ 1000) (hx : gfE.In w vb x) (hne : vb ≠ g) (hroom : c < l.length + 1) :
    Calls Try.prog 62 #[.slice (some ⟨g, 0, none⟩) l.length c, .int .i64 i, .slice (some ⟨vb, 0, none⟩) 1 1] w fun e w' => ∃ v, e = .returned v ∧ gfE.Own w' W0.heap.size v (l.take i ++ [x] ++ l.drop i) ∧ Below W0.heap.size W0 w' := by
  obtain ⟨C, hBg, hg, hnc, hcm, hcs, htk⟩ := gf_row hO
  obtain ⟨inf, hinf, hz, hz1, hz2⟩ := info_parts infoGf
  have hgN : g < w.heap.size := by
    rcases Nat.lt_or_ge g w.heap.size with h | h
    · exact h
    · rw [Array.getElem?_eq_none h] at hg; cases hg
  have hvN := hx.lt
  have hin : i ≤ l.length := by omega
  obtain ⟨D, hD⟩ : ∃ D, gfE.cells (l.drop i) = D := ⟨_, rfl⟩
  obtain ⟨T, hT⟩ : ∃ T, gfE.cells (l.take i) = T := ⟨_, rfl⟩
  have hDl : D.length = (l.length - i) * 5 := by rw [← hD, show (gfE.cells (l.drop i)).length = (l.drop i).length * 5 from El.cells_len _, List.length_drop]
  have hTl : T.length = i * 5 := by rw [← hT, show (gfE.cells (l.take i)).length = (l.take i).length * 5 from El.cells_len _, List.length_take, Nat.min_eq_left hin]
  have hD1 : ∀ v ∈ D, v.oneCell' = true := by rw [← hD]; exact El.cells_one _
  have hDs := gf_drop htk i hin
  rw [hD] at hDs
  have hCT : T = C.take (i * 5) := by rw [← hT, ← gf_take, ← htk, List.take_take, Nat.min_eq_left (by omega)]
  have hold : (Builtin.firstCells inf.size i (.slice (some ⟨g, 0, none⟩) i c)).run Try.prog w.drew = .ok T.toArray w.drew := by
    rw [hz1]
    exact run_firstCells_some w.drew 5 i ⟨g, 0, none⟩ i c T hTl (gf_get (w := w.drew) hg 0 T (fun j v hj => by
      rw [Nat.zero_add]
      rw [hCT, List.getElem?_take] at hj
      split at hj
      · exact hj
      · cases hj))
  obtain ⟨n, hn⟩ : ∃ n, l.length = n := ⟨_, rfl⟩
  have HN := Lib.hid hn
  have HD := Lib.hid hD
  have HT := Lib.hid hT
  rw [hn] at hi hl hroom htk hnc hin hDl ⊢
  clear hn hD hT hCT hO
  have hik : i + (n + 1 - i) = n + 1 := by omega
  have hkk : (n : Int) + 1 - (i : Int) = ((n + 1 - i : Nat) : Int) := by omega
  have hrz := fun ty => Lib.run_append_grow_zeros w 26 3 ty 57 inf _ .i64 .i64 Try.underlying26 Try.underlying3 hinf hz (some ⟨g, 0, none⟩) i c T hold (n + 1 - i) (by omega) (by omega) (by omega) (by omega) (by rw [hz2]; omega) (by rw [hz2, hik]; exact growslice_fits hroom (by omega))
  rw [hik, ← hkk] at hrz
  have hGn : n + 1 ≤ grownCap w (n + 1) c 57 := grownCap_ge w _ _ _
  have hGm : grownCap w (n + 1) c 57 ≤ maxLen := grownCap_le_maxLen w (n + 1) c 57 (by unfold maxLen; omega)
  generalize grownCap w (n + 1) c 57 = G at *
  have hG63 : G ≤ 9223372036854775807 := by unfold maxLen at hGm; omega
  obtain ⟨R, hR0⟩ : ∃ R : List Value, R = (T.toArray ++ Builtin.zeroCells (Value.agg #[.int .i64 0, .int .i64 0, .int .i64 0, .int .i64 0, .string ⟨#[]⟩]).cells (n + 1 - i) ++ Builtin.zeroCells (Value.agg #[.int .i64 0, .int .i64 0, .int .i64 0, .int .i64 0, .string ⟨#[]⟩]).cells (G - (n + 1))).toList := ⟨_, rfl⟩
  have hR : T.toArray ++ Builtin.zeroCells (Value.agg #[.int .i64 0, .int .i64 0, .int .i64 0, .int .i64 0, .string ⟨#[]⟩]).cells (n + 1 - i) ++ Builtin.zeroCells (Value.agg #[.int .i64 0, .int .i64 0, .int .i64 0, .int .i64 0, .string ⟨#[]⟩]).cells (G - (n + 1)) = R.toArray := by rw [hR0, Array.toArray_toList]
  have hRl : R.length = G * 5 := by
    rw [hR0, Array.length_toList, Array.size_append, Array.size_append, size_zeroCells, size_zeroCells, List.size_toArray, hTl]
    have h2 : ((Value.agg #[.int .i64 0, .int .i64 0, .int .i64 0, .int .i64 0, .string ⟨#[]⟩]).cells).size = 5 := rfl
    rw [h2]
    omega
  have hRT : R.take (i * 5) = T := by
    rw [hR0, Array.toList_append, Array.toList_append, List.toList_toArray, List.append_assoc, List.take_append_of_le_length (by omega), List.take_of_length_le (by omega)]
  clear hR0
  rw [hR] at hrz
  obtain ⟨W1, hW1⟩ : ∃ W1, W1 = w.drew.alloc (.cells R.toArray 57) := ⟨_, rfl⟩
  rw [← hW1] at hrz
  have hrow : W1.heap[w.heap.size]? = some (.cells R.toArray 57 (0, 0)) := by rw [hW1]; exact heap_alloc_new w.drew _
  have hB1 : Below W0.heap.size W0 W1 := by rw [hW1]; exact below_then hB (below_alloc (Below.refl w.heap.size w).drew _)
  have hbl : Below w.heap.size w W1 := by rw [hW1]; exact below_alloc (Below.refl w.heap.size w).drew _
  have hx1 : gfE.In W1 vb x := hx.below hbl
  have hg1 : W1.heap[g]? = some (.cells C.toArray 57 (0, 0)) := (hbl.block g hgN).trans hg
  have hBN : W0.heap.size ≤ w.heap.size := hB.size
  have hvne : vb ≠ w.heap.size := by omega
  have hgne : g ≠ w.heap.size := by omega
  generalize w.heap.size = N at *
  have hw1 : IntKind.i64.wrap ((i : Int) + 1) = (i : Int) + 1 := by rw [IntKind.wrap_i64]; omega
  have hb1 : (0 : Int) ≤ (i : Int) + 1 := by omega
  have htn : ((i : Int) + 1).toNat = i + 1 := by omega
  have hz2 : ¬ ((i : Int) = (n : Int)) := by omega
  have hz3 : (c : Int) < (n : Int) + 1 := by omega
  have hb3 : (i : Int) ≤ (n : Int) := by omega
  have hGi : ¬ (G = i) := by omega
  have hGim : ¬ (G = i + 1) := by omega
  have hci : ¬ (c = i) := by omega
  have hfit : i * 5 + 5 ≤ R.length := by omega
  clear hW1 hR hold hinf hz hz1 hik hkk hbl hx hg hgN hvN hB
  go_enter Try.func62, Try.ntmps62
  go_wp2_with (first
    | (at_builtin; refine Lib.wpList_append_run _ rfl _ _ _ _ rfl _ _ rfl rfl _ _ (hrz _) ?_)
    | (refine wpList_copyE rfl (.tmp 43) (.tmp 44) 26 26 rfl 57 Try.underlying26 5 gfSize N (i * 5) _ _ ⟨vb, 0, none⟩ _ _ rfl rfl R 57 hrow (gfE.c x) (by rw [gfE.len]; show 5 = Nat.min 1 (n + 1 - i) * 5; simp only [Nat.min_def]; split <;> omega) (fun j v hj => by rw [Addr.add_lit, Nat.zero_add]; exact (hx1.cell j).trans hj) (by rw [gfE.len]; exact hfit) (gfE.one x) W0.heap.size W0 hB1 hBN ?_; intro w5 hg5 hb5 hk5))
  obtain ⟨S, hS⟩ : ∃ S, splice R (i * 5) (gfE.c x) = S := ⟨_, rfl⟩
  rw [hS] at hg5
  have hSl : S.length = R.length := by rw [← hS]; exact length_splice _ _ _ (by rw [gfE.len]; exact hfit)
  have HS := Lib.hid hS
  have hgd : w5.drew.heap[N]? = some (.cells S.toArray 57 (0, 0)) := hg5.out
  have hsd : ∀ j v, D[j]? = some v → w5.drew.cell? ((⟨g, i * 5, none⟩ : Addr).add j) = some v := gf_get (w := w5.drew) ((hk5 g hgne).trans hg1) (i * 5) D hDs
  have hBd := hb5.drew
  have hfit2 : i * 5 + 5 + D.length ≤ S.length := by omega
  clear hS hg1 hx1 hrow hB1 hb5 hk5 hrz
  go_region_law (refine step_copyE rfl (.tmp 50) (.tmp 53) 26 26 rfl 57 Try.underlying26 5 gfSize N (i * 5 + 5) (n - i) (G - (i + 1)) ⟨g, i * 5, none⟩ (n - i) (c - i) (by simp [Act.eval, Act.put]) (by simp [Act.eval, Act.put]) S 57 hgd D (by rw [hDl]; simp only [Nat.min_def]; split <;> omega) hsd hfit2 hD1 W0.heap.size W0 hBd hBN ?_; intro w6 hg6 hb6 _)
  clear hgd hsd hBd
  go_wp2_with fail
  go_ret
  refine ⟨_, rfl, ?_, hb6⟩
  have hlen : (l.take i ++ [x] ++ l.drop i).length = n + 1 := by
    have := HN.out
    simp only [List.length_append, List.length_take, List.length_drop, List.length_singleton]; omega
  have hfin := new_in R D (gfE.c x) (i * 5) 5 (gfE.len x) (by omega)
  rw [HS.out, show i * 5 + 5 + D.length = (n + 1) * 5 by omega] at hfin
  have hown := gf_own (c := G) (l := l.take i ++ [x] ++ l.drop i) hBN hg6.out (by omega) hGm (by rw [length_splice _ _ _ hfit2, hSl, hRl]) (by
    rw [hlen, hfin, gf_in, HD.out, HT.out, hRT])
  rw [hlen] at hown
  exact hown

theorem gfInsert_any (W0 w : World) (hB : Below W0.heap.size W0 w) (g c : Nat) (l : List Gf) (i : Nat) (x : Gf) (vb : Nat) (hO : gfE.Own w W0.heap.size (.slice (some ⟨g, 0, none⟩) l.length c) l) (hi : i < l.length) (hl : l.length ≤ 1000) (hx : gfE.In w vb x) (hne : vb ≠ g) :
    Calls Try.prog 62 #[.slice (some ⟨g, 0, none⟩) l.length c, .int .i64 i, .slice (some ⟨vb, 0, none⟩) 1 1] w fun e w' => ∃ v, e = .returned v ∧ gfE.Own w' W0.heap.size v (l.take i ++ [x] ++ l.drop i) ∧ Below W0.heap.size W0 w' := by
  by_cases h : l.length + 1 ≤ c
  · exact insRoom_any W0 w hB g c l i x vb hO hi hl hx hne h
  · exact insGrow_any W0 w hB g c l i x vb hO hi hl hx hne (by omega)
theorem own_atG {w : World} {B : Nat} {A : Option Addr} {c : Nat} {l : List Gf} (h : gfE.Own w B (.slice A l.length c) l) (h0 : 0 < l.length) : ∃ g, A = some ⟨g, 0, none⟩ := by
  rcases h.2 with ⟨e, e2⟩ | ⟨g, cap, cur, e, _⟩
  · omega
  · injection e with e1
    exact ⟨g, e1⟩
theorem idxG_none {l : List Gf} {d : Int} (h : ¬ cutG l d < l.length) : idxG l d = -1 := if_neg h
theorem idxG_at {l : List Gf} {d : Int} (h : cutG l d < l.length) : idxG l d = (cutG l d : Int) := if_pos h

set_option maxRecDepth 100000 in
set_option maxHeartbeats 4000000 in
theorem pMergeG_any (A : Option Addr) (c : Nat) (l : List Gf) (g : Gf) (w : World) (hl : l.length ≤ 1000) (hT0 : SlV gfE w A c l) : Calls Try.prog 39 #[.slice A l.length c, .agg #[.int .i64 g.d, .int .i64 g.i, .int .i64 g.c, .int .i64 g.t, .string g.s]] w fun e w' => ∃ (A' : Option Addr) (c' : Nat), e = .returned (.slice A' (mergeG l g).length c') ∧ SlV gfE w' A' c' (mergeG l g) ∧ Below w.heap.size w w' := by
  have hP : gfE.In (w.alloc (.cells #[.int .i64 g.d, .int .i64 g.i, .int .i64 g.c, .int .i64 g.t, .string g.s] 57)) w.heap.size g := El.In.new (E := gfE) w g _ rfl
  have hB := below_alloc (Below.refl w.heap.size w) (.cells #[.int .i64 g.d, .int .i64 g.i, .int .i64 g.c, .int .i64 g.t, .string g.s] 57)
  have C1 := Lib.hid (cloneGf_any A c l _ hl (SlV.below hT0 hB))
  clear hT0
  go_enter Try.func39, Try.ntmps39
  go_upto_region 1 with fail
  generalize w.alloc (.cells #[.int .i64 g.d, .int .i64 g.i, .int .i64 g.c, .int .i64 g.t, .string g.s] 57) = W at *
  obtain ⟨n1, hn1⟩ : ∃ n, w.heap.size = n := ⟨_, rfl⟩
  rw [hn1] at hP ⊢
  clear hn1
  have hlt := hP.lt
  have hws := hB.size
  go_wp2_with fail
  refine C1.out.mono ?_
  rintro e w2 ⟨v, rfl, hO, hb2⟩
  replace hP := hP.below hb2
  obtain ⟨A', c', rfl, hS⟩ := SlV.own hO
  have C2 := Lib.hid (pMergeIdx_any A' c' l n1 g w2 hl hP hS.1)
  clear C1 hS
  go_wp2_with fail
  refine C2.out.mono ?_
  rintro e w3 ⟨rfl, hb3⟩
  replace hP := hP.below hb3
  replace hO := hO.below hb3
  replace hb2 := below_then hb2 hb3
  clear hb3 C2
  by_cases hc : cutG l g.d < l.length
  · rw [idxG_at hc]
    obtain ⟨gb, rfl⟩ := own_atG hO (by omega)
    have hle := cutG_at l g.d hc
    have hnew := mergeG_new l g
    have hold := mergeG_old l g hc
    generalize cutG l g.d = k at *
    have hat : gfE.At w3 gb (k * 5) l[k] := by
      obtain ⟨A2, c2, e2, hS2, _⟩ := SlV.own hO
      injection e2 with e3
      subst e3
      obtain ⟨b, off, eA, _, hcc⟩ := hS2 (by omega)
      injection eA with eA
      injection eA with eb eo
      subst eb eo
      have h := hcc k hc
      rw [Nat.zero_add] at h
      exact h
    have hbr := (hO.lt gb rfl).2
    have hx := gfIdxH (A := some ⟨gb, 0, none⟩) (b := gb) (off := 0) (cap := c') rfl hc
    simp only [Nat.zero_add] at hx
    obtain ⟨s0, s1, s2, s3, s4⟩ := gfAt5 hat
    obtain ⟨q0, q1, q2, q3, q4⟩ := gfIn5 hP
    have f0 : decide ((k : Int) < 0) = false := decide_eq_false (by omega)
    have hki : (k : Int) < (l.length : Int) := by omega
    have HC := Lib.hid hc
    by_cases hd : g.d < l[k].d
    · have HV := Lib.hid (hnew (fun _ => by omega))
      generalize hx0 : l[k].d = x0 at *
      have g5 : decide (g.d < x0) = true := decide_eq_true hd
      clear hd hx0 hat hold hnew hle
      go_wp2_with fail
      go_quiet (fail)
      replace hb2 := below_drew hb2 nq
      replace hP : gfE.In (w3.drewN nq) n1 g := hP
      replace hO := hO.below (below_drew (Below.refl w3.heap.size w3) nq)
      replace hbr : gb < (w3.drewN nq).heap.size := hbr
      clear s0 s1 s2 s3 s4 q0 q1 q2 q3 q4 g5 hx
      generalize w3.drewN nq = V at *
      have hal := below_alloc (Below.refl V.heap.size V) (.cells #[.int .i64 g.d, .int .i64 g.i, .int .i64 g.c, .int .i64 g.t, .string g.s] 57)
      have hX : gfE.In (V.alloc (.cells #[.int .i64 g.d, .int .i64 g.i, .int .i64 g.c, .int .i64 g.t, .string g.s] 57)) V.heap.size g := El.In.new (E := gfE) V g _ rfl
      have CI := Lib.hid (gfInsert_any W _ (below_then hb2 hal) gb c' l k g V.heap.size (hO.below hal) hc hl hX (by omega))
      clear hX hal hO
      go_wp2_with (first | (refine El.load gfRow rfl _ rfl n1 0 rfl g hP.at #[.int .i64 g.d, .int .i64 g.i, .int .i64 g.c, .int .i64 g.t, .string g.s] rfl ?_) | (go_at_call 62; (with_reducible refine CI.out.mono ?_); rintro e w6 ⟨v6, rfl, hO6, hb6⟩))
      rw [← HV.out] at hO6
      obtain ⟨A6, c6, rfl, hS6⟩ := SlV.own hO6
      go_ret
      exact ⟨A6, c6, rfl, hS6, hB.trans (hb6.mono hB.size)⟩
    · have he : l[k].d = g.d := by omega
      have HM := Lib.hid (hold he)
      obtain ⟨bn, hbn⟩ : ∃ bn, newG g l[k] = bn := ⟨_, rfl⟩
      generalize l[k] = x at *
      have g5 : decide (g.d < x.d) = false := decide_eq_false hd
      have CN := Lib.hid (fun wx => (by
        have h := pNewerG_any g x wx
        rw [hbn] at h
        exact h : Calls Try.prog 63 #[.agg #[.int .i64 g.d, .int .i64 g.i, .int .i64 g.c, .int .i64 g.t, .string g.s], .agg #[.int .i64 x.d, .int .i64 x.i, .int .i64 x.c, .int .i64 x.t, .string x.s]] wx fun e w' => e = .returned (.bool bn) ∧ Below wx.heap.size wx w'))
      have HM2 := Lib.hid (show mergeG l g = if bn = true then l.set k g else l by rw [← hbn]; exact HM.out)
      clear hd he hold hnew hle HM hbn
      go_wp2_with fail
      go_quiet (fail)
      replace hb2 := below_drew hb2 nq
      replace hP : gfE.In (w3.drewN nq) n1 g := hP
      replace hat : gfE.At (w3.drewN nq) gb (k * 5) x := hat
      replace hO := hO.below (below_drew (Below.refl w3.heap.size w3) nq)
      replace hbr : gb < (w3.drewN nq).heap.size := hbr
      clear s0 s1 s2 s3 s4 q0 q1 q2 q3 q4 g5
      go_wp2_with fail
      generalize w3.drewN nq = V at *
      replace hP : gfE.In V.drew n1 g := hP
      replace hat : gfE.At V.drew gb (k * 5) x := hat
      replace hO : gfE.Own V.drew W.heap.size (.slice (some ⟨gb, 0, none⟩) l.length c') l := hO
      replace hb2 := hb2.drew
      replace hbr : gb < V.drew.heap.size := hbr
      go_region_held3 (fun w' => (w'.cell? ⟨n1, 0, none⟩ = some (.int .i64 g.d) ∧ w'.cell? ⟨n1, 1, none⟩ = some (.int .i64 g.i) ∧ w'.cell? ⟨n1, 2, none⟩ = some (.int .i64 g.c) ∧ w'.cell? ⟨n1, 3, none⟩ = some (.int .i64 g.t) ∧ w'.cell? ⟨n1, 4, none⟩ = some (.string g.s)) ∧ (w'.cell? ⟨gb, k * 5, none⟩ = some (.int .i64 x.d) ∧ w'.cell? ⟨gb, k * 5 + 1, none⟩ = some (.int .i64 x.i) ∧ w'.cell? ⟨gb, k * 5 + 2, none⟩ = some (.int .i64 x.c) ∧ w'.cell? ⟨gb, k * 5 + 3, none⟩ = some (.int .i64 x.t) ∧ w'.cell? ⟨gb, k * 5 + 4, none⟩ = some (.string x.s))) (with_reducible exact ⟨gfIn5 hP, gfAt5 hat⟩) (first | (go_at_call 63; (with_reducible refine (CN.out _).mono ?_); rintro e w6 ⟨rfl, hb6⟩; replace hP := hP.below hb6; replace hat := hat.below hb6 hbr; replace hO := hO.below hb6; replace hb2 := below_then hb2 hb6; clear hb6))
      cases bn
      · have hm := HM2.out
        rw [if_neg (by decide)] at hm
        have HV := Lib.hid hm
        clear hm hat
        go_wp2_with fail
        obtain ⟨A6, c6, e6, hS6⟩ := SlV.own hO
        injection e6 with e7 _ e8
        subst e7 e8
        go_ret
        exact ⟨some ⟨gb, 0, none⟩, c', by rw [HV.out]; rfl, by rw [HV.out]; exact hS6, hB.trans (hb2.mono hB.size)⟩
      · have hm := HM2.out
        rw [if_pos rfl] at hm
        have HV := Lib.hid hm
        clear hm hat
        go_wp2_with (first | (refine El.load gfRow rfl _ rfl n1 0 rfl g hP.at #[.int .i64 g.d, .int .i64 g.i, .int .i64 g.c, .int .i64 g.t, .string g.s] rfl ?_) | (refine El.wpList_setAt gfRow rfl _ _ rfl W.heap.size gb c' k l g hO HC.out #[.int .i64 g.d, .int .i64 g.i, .int .i64 g.c, .int .i64 g.t, .string g.s] rfl rfl rfl ?_; intro w7 hO7 hg7 _) | fail)
        obtain ⟨A6, c6, e6, hS6⟩ := SlV.own hO7
        injection e6 with e7 _ e8
        subst e7 e8
        go_ret
        exact ⟨some ⟨gb, 0, none⟩, c', by rw [HV.out, List.length_set]; rfl, by rw [HV.out]; exact hS6, hB.trans ((hb2.grown hg7 hb2.size (fun k hk => by have := hO.rows k (by rw [← hk]; rfl); omega)).mono hB.size)⟩
  · rw [idxG_none hc]
    have hk : cutG l g.d = l.length := by have := cutG_le l g.d; omega
    have HV := Lib.hid (show mergeG l g = l ++ [g] by
      rw [mergeG_new l g (fun h => absurd h hc), hk, List.take_length, List.drop_length, List.append_nil])
    clear hc hk
    have hal := below_alloc (Below.refl w3.heap.size w3) (.cells #[.int .i64 g.d, .int .i64 g.i, .int .i64 g.c, .int .i64 g.t, .string g.s] 57)
    have he : gfE.Sl (w3.alloc (.cells #[.int .i64 g.d, .int .i64 g.i, .int .i64 g.c, .int .i64 g.t, .string g.s] 57)) (some ⟨w3.heap.size, 0, none⟩) [g] := (El.In.new (E := gfE) w3 g _ rfl).sl
    replace hO := hO.below hal
    replace hb2 := below_then hb2 hal
    have hBs := hb2.size
    clear hal
    go_wp2_with (first | (refine El.load gfRow rfl _ rfl n1 0 rfl g hP.at #[.int .i64 g.d, .int .i64 g.i, .int .i64 g.c, .int .i64 g.t, .string g.s] rfl ?_) | (at_builtin; refine El.wpList_app gfInn rfl _ _ rfl W.heap.size _ l [g] rfl hO (some ⟨w3.heap.size, 0, none⟩) 1 1 rfl rfl he (fun e => by cases e) (by rw [List.length_singleton]; omega) hBs ?_; intro v' w5 hO5 hg5 _) | fail)
    rw [← HV.out] at hO5
    obtain ⟨A5, c5, rfl, hS5⟩ := SlV.own hO5
    go_ret
    exact ⟨A5, c5, rfl, hS5, hB.trans ((hb2.grown hg5 hb2.size (fun k hk => hO.rows k hk)).mono hB.size)⟩
end Go.Proofs.Ytnglpkfkepfkkaa

/- The program's relays: parent, Kid, whether a device is below. -/
namespace Go.Proofs.Ytnglpkfkepfkkaa
open Go.RowKit Nam Cod Pln

theorem kidAt_is : ∀ (l : List Kin) (d : Int) (k : Nat) (hk : k < l.length), l[k].n = d → (∀ j (h : j < l.length), j < k → l[j].n ≠ d) → kidAt l d = some k
  | [], _, k, hk, _, _ => absurd hk (Nat.not_lt_zero k)
  | x :: l, d, 0, _, h, _ => by
    unfold kidAt
    rw [List.getElem_cons_zero] at h
    rw [if_pos h]
  | x :: l, d, k + 1, hk, h, hn => by
    rw [List.getElem_cons_succ] at h
    have h0 := hn 0 (Nat.succ_pos _) (Nat.succ_pos _)
    rw [List.getElem_cons_zero] at h0
    unfold kidAt
    rw [if_neg h0, kidAt_is l d k (Nat.lt_of_succ_lt_succ hk) h (fun j hj hjk => by
      have h1 := hn (j + 1) (Nat.succ_lt_succ hj) (Nat.succ_lt_succ hjk)
      rw [List.getElem_cons_succ] at h1
      exact h1)]
    rfl
theorem kidAt_not : ∀ (l : List Kin) (d : Int), (∀ j (h : j < l.length), l[j].n ≠ d) → kidAt l d = none
  | [], _, _ => rfl
  | x :: l, d, hn => by
    have h0 := hn 0 (Nat.succ_pos _)
    rw [List.getElem_cons_zero] at h0
    unfold kidAt
    rw [if_neg h0, kidAt_not l d (fun j hj => by
      have h1 := hn (j + 1) (Nat.succ_lt_succ hj)
      rw [List.getElem_cons_succ] at h1
      exact h1)]
    rfl
set_option maxRecDepth 100000 in
set_option maxHeartbeats 4000000 in
theorem parent19_any (p : Pnw) (n : Int) (up : Int) (w : World) (hp : 0 ≤ n ∧ p.p.u[n.toNat]? = some up) (hT : inE.Sl w p.A p.p.u) :
    Calls Try.prog 17 #[.agg #[.slice p.A p.p.u.length p.c, .int .i64 p.p.q, .int .i64 p.p.r, .int .i64 p.p.b, .int .i64 p.p.l, .int .i64 p.p.w, .int .i64 p.p.c, .int .i64 p.p.k, .int .i64 p.p.i], .int .i64 n] w fun e w' => e = .returned (.tuple #[.int .i64 up, .bool true]) ∧ Below w.heap.size w w' := by
  obtain ⟨hn0, hu⟩ := hp
  obtain ⟨k, rfl⟩ : ∃ k : Nat, n = (k : Int) := ⟨n.toNat, by omega⟩
  replace hu : p.p.u[k]? = some up := hu
  have hP : pnE.In (w.alloc (.cells #[.slice p.A p.p.u.length p.c, .int .i64 p.p.q, .int .i64 p.p.r, .int .i64 p.p.b, .int .i64 p.p.l, .int .i64 p.p.w, .int .i64 p.p.c, .int .i64 p.p.k, .int .i64 p.p.i] 33)) w.heap.size p := El.In.new (E := pnE) w p _ rfl
  have hB := below_alloc (Below.refl w.heap.size w) (.cells #[.slice p.A p.p.u.length p.c, .int .i64 p.p.q, .int .i64 p.p.r, .int .i64 p.p.b, .int .i64 p.p.l, .int .i64 p.p.w, .int .i64 p.p.c, .int .i64 p.p.k, .int .i64 p.p.i] 33)
  have hlt : k < p.p.u.length := by
    rcases Nat.lt_or_ge k p.p.u.length with h | h
    · exact h
    · rw [List.getElem?_eq_none h] at hu; cases hu
  obtain ⟨b, off, eA, hbw, hc⟩ := hT (by omega)
  have hcell : w.cell? ⟨b, off + k, none⟩ = some (.int .i64 up) := by
    have h := hc k hlt 0 (.int .i64 up) (by
      rw [List.getElem?_eq_getElem hlt] at hu
      rw [Option.some.inj hu]; rfl)
    rw [show off + k * inE.k + 0 = off + k from by show off + k * 1 + 0 = off + k; omega] at h
    exact h
  have hcB : (w.alloc (.cells #[.slice p.A p.p.u.length p.c, .int .i64 p.p.q, .int .i64 p.p.r, .int .i64 p.p.b, .int .i64 p.p.l, .int .i64 p.p.w, .int .i64 p.p.c, .int .i64 p.p.k, .int .i64 p.p.i] 33)).cell? ⟨b, off + k, none⟩ = some (.int .i64 up) := by rw [(bcell hB).1 _ _ hbw]; exact hcell
  have EA := Lib.hid eA
  clear eA
  go_enter Try.func17, Try.ntmps17
  go_upto_region 1 with fail
  generalize w.alloc (.cells #[.slice p.A p.p.u.length p.c, .int .i64 p.p.q, .int .i64 p.p.r, .int .i64 p.p.b, .int .i64 p.p.l, .int .i64 p.p.w, .int .i64 p.p.c, .int .i64 p.p.k, .int .i64 p.p.i] 33) = W at *
  obtain ⟨n1, hn1⟩ : ∃ n1, w.heap.size = n1 := ⟨_, rfl⟩
  rw [hn1] at hP ⊢
  obtain ⟨p0, p1, p2, p3, p4, p5, p6, p7, p8⟩ := pnIn9 hP
  have f1 : decide ((k : Int) < 0) = false := decide_eq_false (by omega)
  have f2 : decide ((p.p.u.length : Int) ≤ (k : Int)) = false := decide_eq_false (by omega)
  have f3 : decide (p.p.u.length ≤ k) = false := decide_eq_false (by omega)
  have hki : (k : Int) < (p.p.u.length : Int) := by omega
  clear hn1 hP p1 p2 p3 p4 p5 p6 p7 p8 hu hn0 hcell hc hT
  rw [EA.out] at p0
  go_wp2_with fail
  go_ret2
  exact ⟨rfl, hB⟩
theorem kinIn4 {w : World} {b : Nat} {y : Kin} (h : kinE.In w b y) : w.cell? ⟨b, 0, none⟩ = some (.int .i64 y.n) ∧ w.cell? ⟨b, 1, none⟩ = some (.int .i64 y.r) ∧ w.cell? ⟨b, 2, none⟩ = some (.int .i64 y.p) ∧ w.cell? ⟨b, 3, none⟩ = some (.int .i64 y.b) := ⟨h.cell 0, h.cell 1, h.cell 2, h.cell 3⟩
theorem cellLtA {w : World} {b i : Nat} {v : Value} (h : w.cell? ⟨b, i, none⟩ = some v) : b < w.heap.size := World.block_lt_of_cell? _ _ h
set_option maxRecDepth 100000 in
set_option maxHeartbeats 2000000 in
theorem kid1_any (m : Kin) (n : Nat) (d : Int) (w : World) (h : w.cell? ⟨n, 0, none⟩ = some (.int .i64 d)) : Calls Try.prog 32 #[.agg #[.int .i64 m.n, .int .i64 m.r, .int .i64 m.p, .int .i64 m.b], .pointer (some ⟨n, 0, none⟩)] w fun e w' => e = .returned (.bool (decide (m.n = d))) ∧ Below w.heap.size w w' := by
  have hP : kinE.In (w.alloc (.cells #[.int .i64 m.n, .int .i64 m.r, .int .i64 m.p, .int .i64 m.b] 69)) w.heap.size m := El.In.new (E := kinE) w m _ rfl
  have hB := below_alloc (Below.refl w.heap.size w) (.cells #[.int .i64 m.n, .int .i64 m.r, .int .i64 m.p, .int .i64 m.b] 69)
  have hlt := cellLtA h
  rw [← (bcell hB).1 _ _ hlt] at h
  have p0 := (kinIn4 hP).1
  clear hP
  obtain ⟨bv, hbv⟩ : ∃ bv, decide (m.n = d) = bv := ⟨_, rfl⟩
  have f1 : (m.n == d) = bv := hbv
  rw [hbv]
  clear hbv
  go_enter Try.func32, Try.ntmps32
  go_upto_region 1 with fail
  generalize w.alloc (.cells #[.int .i64 m.n, .int .i64 m.r, .int .i64 m.p, .int .i64 m.b] 69) = W at *
  go_wp2_with fail
  go_ret
  exact ⟨rfl, hB⟩

set_option maxRecDepth 100000 in
set_option maxHeartbeats 2000000 in
theorem kinIndex_any (A : Option Addr) (cap : Nat) (l : List Kin) (n : Nat) (d : Int) (w : World) (hl : l.length ≤ 1000) (h : w.cell? ⟨n, 0, none⟩ = some (.int .i64 d)) (hT : kinE.Sl w A l) :
    Calls Try.prog 31 #[.slice A l.length cap, .func (.func 32) #[] #[.pointer (some ⟨n, 0, none⟩)]] w fun e w' => e = .returned (.int .i64 (kidI l d)) ∧ Below w.heap.size w w' := by
  have hlt := cellLtA h
  have HF := Lib.hid (fun (r : Kin) (wx : World) (hb : Below w.heap.size w wx) => kid1_any r n d wx (by rw [(bcell hb).1 _ _ hlt]; exact h))
  have HC0 := Lib.hid (fun (j : Nat) (h : j < l.length) (hj : j < 0) => (absurd hj (Nat.not_lt_zero j) : l[j].n ≠ d))
  have hB := Below.refl w.heap.size w
  have HT := Lib.hid hT
  clear h hT
  go_enter Try.func31, Try.ntmps31
  go_wp2_with fail
  go_loopw [8] (fun y wr => ∃ k : Nat, k ≤ l.length ∧ y = .int .i64 k ∧ Hid (∀ j (h : j < l.length), j < k → l[j].n ≠ d) ∧ Below w.heap.size w wr) (fun y _ => l.length - (intOf y).toNat)
  case atStart => exact ⟨0, Nat.zero_le _, rfl, HC0, hB⟩
  case round =>
    clear HC0 hB
    obtain ⟨k, hk, rfl, HK, hB⟩ := hrel
    by_cases hkl : k < l.length
    · obtain ⟨b, off, eA, hbw, hc⟩ := HT.out (by omega)
      have hx := kinIdxH (cap := cap) eA hkl
      have hat : kinE.At wr b (off + k * 4) l[k] := (hc k hkl).below hB hbw
      have HC := Lib.hid (HF.out l[k] wr hB)
      by_cases hd : l[k].n = d
      · have hv : kidI l d = k := by
          unfold kidI; rw [kidAt_is l d k hkl hd HK.out]
        have HV := Lib.hid hv
        rw [show decide (l[k].n = d) = true from decide_eq_true hd] at HC
        generalize l[k] = x at *
        clear hc eA hv hd
        go_wp2_with (first | (refine El.load kinRow rfl _ rfl b (off + k * 4) rfl x hat #[.int .i64 x.n, .int .i64 x.r, .int .i64 x.p, .int .i64 x.b] rfl ?_) | (go_at_call 32; (with_reducible refine (HC.out).mono ?_); rintro e w1 ⟨rfl, hb1⟩))
        go_ret
        exact ⟨by rw [HV.out]; rfl, below_then hB hb1⟩
      · have HN := Lib.hid (fun (j : Nat) (h : j < l.length) (hj : j < k + 1) => (by
          by_cases e : j < k
          · exact HK.out j h e
          · obtain rfl : j = k := by omega
            exact hd : l[j].n ≠ d))
        rw [show decide (l[k].n = d) = false from decide_eq_false hd] at HC
        generalize l[k] = x at *
        clear hc eA hd
        go_wp2_with (first | (refine El.load kinRow rfl _ rfl b (off + k * 4) rfl x hat #[.int .i64 x.n, .int .i64 x.r, .int .i64 x.p, .int .i64 x.b] rfl ?_) | (go_at_call 32; (with_reducible refine (HC.out).mono ?_); rintro e w1 ⟨rfl, hb1⟩))
        exact ⟨⟨k + 1, by omega, by go_num, HN, below_then hB hb1⟩, by simp [intOf]; omega⟩
    · obtain rfl : k = l.length := by omega
      have hv : kidI l d = -1 := by
        unfold kidI; rw [kidAt_not l d (fun j h => HK.out j h h)]
      have HV := Lib.hid hv
      clear hv
      go_wp2_with fail
      go_ret
      exact ⟨by rw [HV.out]; rfl, hB⟩
set_option maxRecDepth 100000 in
set_option maxHeartbeats 4000000 in
theorem deviceBelow_any (p : Pnw) (n top : Int) (w : World) (hT : inE.Sl w p.A p.p.u) (hR : Shp p.p.u) :
    Calls Try.prog 38 #[.agg #[.slice p.A p.p.u.length p.c, .int .i64 p.p.q, .int .i64 p.p.r, .int .i64 p.p.b, .int .i64 p.p.l, .int .i64 p.p.w, .int .i64 p.p.c, .int .i64 p.p.k, .int .i64 p.p.i], .int .i64 n, .int .i64 top] w fun e w' => e = .returned (.bool (decide (kindL p.p.u n = 3) && belowU p.p.u n top)) ∧ Below w.heap.size w w' := by
  have hP : pnE.In (w.alloc (.cells #[.slice p.A p.p.u.length p.c, .int .i64 p.p.q, .int .i64 p.p.r, .int .i64 p.p.b, .int .i64 p.p.l, .int .i64 p.p.w, .int .i64 p.p.c, .int .i64 p.p.k, .int .i64 p.p.i] 33)) w.heap.size p := El.In.new (E := pnE) w p _ rfl
  have hB := below_alloc (Below.refl w.heap.size w) (.cells #[.slice p.A p.p.u.length p.c, .int .i64 p.p.q, .int .i64 p.p.r, .int .i64 p.p.b, .int .i64 p.p.l, .int .i64 p.p.w, .int .i64 p.p.c, .int .i64 p.p.k, .int .i64 p.p.i] 33)
  have CK := Lib.hid (fun (wx : World) (h : inE.Sl wx p.A p.p.u) => pKind_any p n wx h hR)
  have CB := Lib.hid (fun (wx : World) (h : inE.Sl wx p.A p.p.u) => pBelow_any p n top wx h hR)
  have HTW := Lib.hid (hT.below hB)
  obtain ⟨kd, hkd⟩ : ∃ kd, kindL p.p.u n = kd := ⟨_, rfl⟩
  obtain ⟨bb, hbb⟩ : ∃ bb, belowU p.p.u n top = bb := ⟨_, rfl⟩
  rw [hkd] at CK ⊢
  rw [hbb] at CB ⊢
  clear hkd hbb hT hR
  go_enter Try.func38, Try.ntmps38
  go_upto_region 1 with fail
  generalize w.alloc (.cells #[.slice p.A p.p.u.length p.c, .int .i64 p.p.q, .int .i64 p.p.r, .int .i64 p.p.b, .int .i64 p.p.l, .int .i64 p.p.w, .int .i64 p.p.c, .int .i64 p.p.k, .int .i64 p.p.i] 33) = W at *
  obtain ⟨n1, hn1⟩ : ∃ n1, w.heap.size = n1 := ⟨_, rfl⟩
  rw [hn1] at hP ⊢
  clear hn1
  cases hk : decide (kd = 3) with
  | true =>
    have f1 : (kd == 3) = true := hk
    go_wp2_with (first | (refine El.load pnRow rfl _ rfl n1 0 rfl p hP.at #[.slice p.A p.p.u.length p.c, .int .i64 p.p.q, .int .i64 p.p.r, .int .i64 p.p.b, .int .i64 p.p.l, .int .i64 p.p.w, .int .i64 p.p.c, .int .i64 p.p.k, .int .i64 p.p.i] rfl ?_) | fail)
    refine (CK.out _ HTW.out).mono ?_
    rintro e w2 ⟨rfl, hb2⟩
    have HT2 := Lib.hid (HTW.out.below hb2)
    replace hP := hP.below hb2
    clear CK HTW
    go_wp2_with (first | (refine El.load_ifK pnRow (by rfl) _ rfl n1 0 rfl p hP.at #[.slice p.A p.p.u.length p.c, .int .i64 p.p.q, .int .i64 p.p.r, .int .i64 p.p.b, .int .i64 p.p.l, .int .i64 p.p.w, .int .i64 p.p.c, .int .i64 p.p.k, .int .i64 p.p.i] rfl ?_) | fail)
    refine (CB.out _ HT2.out).mono ?_
    rintro e w3 ⟨rfl, hb3⟩
    go_wp2_with fail
    go_ret
    exact ⟨by rw [hk]; rfl, below_then (below_then hB hb2) hb3⟩
  | false =>
    have f1 : (kd == 3) = false := hk
    go_wp2_with (first | (refine El.load pnRow rfl _ rfl n1 0 rfl p hP.at #[.slice p.A p.p.u.length p.c, .int .i64 p.p.q, .int .i64 p.p.r, .int .i64 p.p.b, .int .i64 p.p.l, .int .i64 p.p.w, .int .i64 p.p.c, .int .i64 p.p.k, .int .i64 p.p.i] rfl ?_) | fail)
    refine (CK.out _ HTW.out).mono ?_
    rintro e w2 ⟨rfl, hb2⟩
    clear CK HTW CB hP
    go_wp2_with fail
    go_ret
    exact ⟨by rw [hk]; rfl, below_then hB hb2⟩
set_option maxRecDepth 100000 in
set_option maxHeartbeats 4000000 in
theorem kid19_any (x : Rlw) (d : Int) (w : World) (hl : x.ks.length ≤ 1000) (hx : x.ok w) :
    Calls Try.prog 14 #[.agg #[.int .i64 x.node, .int .i64 x.boot, .int .i64 x.above, .int .i64 x.st.s, .int .i64 x.st.t, .int .i64 x.st.p, .slice x.eA x.st.es.length x.ec, .int .i64 x.q.f, .int .i64 x.q.g, .slice x.qA x.q.os.length x.qc, .slice x.kA x.ks.length x.kc, .slice x.rA x.rs.length x.rc, .slice x.gA x.gs.length x.gc, .slice none 0 0, .slice none 0 0, .int .i64 0, .slice none 0 0, .slice none 0 0, .slice none 0 0, .slice none 0 0, .int .i64 0, .int .i64 0, .int .i64 0, .int .i64 0, .slice none 0 0, .int .i64 0], .int .i64 d] w fun e w' => e = .returned (.int .i64 (kidI x.ks d)) ∧ Below w.heap.size w w' := by
  have hE : ryE.In ((w.alloc (.cells #[.int .i64 x.node, .int .i64 x.boot, .int .i64 x.above, .int .i64 x.st.s, .int .i64 x.st.t, .int .i64 x.st.p, .slice x.eA x.st.es.length x.ec, .int .i64 x.q.f, .int .i64 x.q.g, .slice x.qA x.q.os.length x.qc, .slice x.kA x.ks.length x.kc, .slice x.rA x.rs.length x.rc, .slice x.gA x.gs.length x.gc, .slice none 0 0, .slice none 0 0, .int .i64 0, .slice none 0 0, .slice none 0 0, .slice none 0 0, .slice none 0 0, .int .i64 0, .int .i64 0, .int .i64 0, .int .i64 0, .slice none 0 0, .int .i64 0] 48)).alloc (.cells #[.int .i64 d] 3)) w.heap.size x := (El.In.new (E := ryE) w x _ rfl).alloc _
  have hc : ((w.alloc (.cells #[.int .i64 x.node, .int .i64 x.boot, .int .i64 x.above, .int .i64 x.st.s, .int .i64 x.st.t, .int .i64 x.st.p, .slice x.eA x.st.es.length x.ec, .int .i64 x.q.f, .int .i64 x.q.g, .slice x.qA x.q.os.length x.qc, .slice x.kA x.ks.length x.kc, .slice x.rA x.rs.length x.rc, .slice x.gA x.gs.length x.gc, .slice none 0 0, .slice none 0 0, .int .i64 0, .slice none 0 0, .slice none 0 0, .slice none 0 0, .slice none 0 0, .int .i64 0, .int .i64 0, .int .i64 0, .int .i64 0, .slice none 0 0, .int .i64 0] 48)).alloc (.cells #[.int .i64 d] 3)).cell? ⟨w.heap.size + 1, 0, none⟩ = some (.int .i64 d) := by
    have h := cell_of_row ((w.alloc (.cells #[.int .i64 x.node, .int .i64 x.boot, .int .i64 x.above, .int .i64 x.st.s, .int .i64 x.st.t, .int .i64 x.st.p, .slice x.eA x.st.es.length x.ec, .int .i64 x.q.f, .int .i64 x.q.g, .slice x.qA x.q.os.length x.qc, .slice x.kA x.ks.length x.kc, .slice x.rA x.rs.length x.rc, .slice x.gA x.gs.length x.gc, .slice none 0 0, .slice none 0 0, .int .i64 0, .slice none 0 0, .slice none 0 0, .slice none 0 0, .slice none 0 0, .int .i64 0, .int .i64 0, .int .i64 0, .int .i64 0, .slice none 0 0, .int .i64 0] 48)).alloc (.cells #[.int .i64 d] 3)) (w.alloc (.cells #[.int .i64 x.node, .int .i64 x.boot, .int .i64 x.above, .int .i64 x.st.s, .int .i64 x.st.t, .int .i64 x.st.p, .slice x.eA x.st.es.length x.ec, .int .i64 x.q.f, .int .i64 x.q.g, .slice x.qA x.q.os.length x.qc, .slice x.kA x.ks.length x.kc, .slice x.rA x.rs.length x.rc, .slice x.gA x.gs.length x.gc, .slice none 0 0, .slice none 0 0, .int .i64 0, .slice none 0 0, .slice none 0 0, .slice none 0 0, .slice none 0 0, .int .i64 0, .int .i64 0, .int .i64 0, .int .i64 0, .slice none 0 0, .int .i64 0] 48)).heap.size 0 #[.int .i64 d] 3 (0, 0) (heap_alloc_new _ _)
    rw [alloc_size] at h; exact h
  have hB := below_alloc (below_alloc (Below.refl w.heap.size w) (.cells #[.int .i64 x.node, .int .i64 x.boot, .int .i64 x.above, .int .i64 x.st.s, .int .i64 x.st.t, .int .i64 x.st.p, .slice x.eA x.st.es.length x.ec, .int .i64 x.q.f, .int .i64 x.q.g, .slice x.qA x.q.os.length x.qc, .slice x.kA x.ks.length x.kc, .slice x.rA x.rs.length x.rc, .slice x.gA x.gs.length x.gc, .slice none 0 0, .slice none 0 0, .int .i64 0, .slice none 0 0, .slice none 0 0, .slice none 0 0, .slice none 0 0, .int .i64 0, .int .i64 0, .int .i64 0, .int .i64 0, .slice none 0 0, .int .i64 0] 48)) (.cells #[.int .i64 d] 3)
  have HC := Lib.hid (kinIndex_any x.kA x.kc x.ks (w.heap.size + 1) d _ hl hc (hx.k.1.below hB))
  obtain ⟨k, hkk⟩ : ∃ k, kidI x.ks d = k := ⟨_, rfl⟩
  rw [hkk] at HC ⊢
  clear hkk
  go_enter Try.func14, Try.ntmps14
  go_upto_region 1 with fail
  generalize (w.alloc (.cells #[.int .i64 x.node, .int .i64 x.boot, .int .i64 x.above, .int .i64 x.st.s, .int .i64 x.st.t, .int .i64 x.st.p, .slice x.eA x.st.es.length x.ec, .int .i64 x.q.f, .int .i64 x.q.g, .slice x.qA x.q.os.length x.qc, .slice x.kA x.ks.length x.kc, .slice x.rA x.rs.length x.rc, .slice x.gA x.gs.length x.gc, .slice none 0 0, .slice none 0 0, .int .i64 0, .slice none 0 0, .slice none 0 0, .slice none 0 0, .slice none 0 0, .int .i64 0, .int .i64 0, .int .i64 0, .int .i64 0, .slice none 0 0, .int .i64 0] 48)).alloc (.cells #[.int .i64 d] 3) = W at *
  obtain ⟨n1, hn1⟩ : ∃ n1, w.heap.size = n1 := ⟨_, rfl⟩
  rw [hn1] at hE hc ⊢
  rw [hn1] at HC
  have c10 : W.cell? ⟨n1, 10, none⟩ = some (.slice x.kA x.ks.length x.kc) := hE.cell 10
  clear hE hc hx hn1
  go_wp2_with fail
  refine HC.out.mono ?_
  rintro e w1 ⟨rfl, hb1⟩
  go_wp2_with fail
  go_ret
  exact ⟨rfl, below_then hB hb1⟩
theorem prune_next (rs : List Rp) {l : List Gf} {k : Nat} (hk : k < l.length) : pruneG rs (l.take (k + 1)) = pruneG rs (l.take k) ++ (if wantedG l[k] rs = true then [l[k]] else []) := by
  unfold pruneG
  rw [List.take_succ_eq_append_getElem hk, List.filter_append]
  congr 1
  by_cases c : wantedG l[k] rs = true
  · rw [if_pos c, List.filter_cons_of_pos (by exact c)]; rfl
  · rw [if_neg c, List.filter_cons_of_neg (by exact c)]; rfl
set_option maxRecDepth 100000 in
set_option maxHeartbeats 4000000 in
theorem wanted19_any (A : Option Addr) (c : Nat) (l : List Gf) (B : Option Addr) (d : Nat) (rs : List Rp) (w : World) (hl : l.length ≤ 1000) (hrl : rs.length ≤ 1000) (hT : SlV gfE w A c l) (hR : SlV rpE w B d rs) :
    Calls Try.prog 20 #[.slice A l.length c, .slice B rs.length d] w fun e w' => ∃ (A' : Option Addr) (c' : Nat), e = .returned (.slice A' (pruneG rs l).length c') ∧ SlV gfE w' A' c' (pruneG rs l) ∧ Below w.heap.size w w' := by
  have HT := Lib.hid hT
  have HR := Lib.hid hR
  have hO := El.Own.nil (E := gfE) w w.heap.size
  have hB := Below.refl w.heap.size w
  have CW := Lib.hid (fun (g : Gf) (wx : World) (h : Below w.heap.size w wx) => pWantedG_any g B d rs wx hrl ((SlV.below HR.out h).1))
  clear hT hR
  go_enter Try.func20, Try.ntmps20
  go_wp2_with fail
  go_loopw [5, 10] (fun p y wr => ∃ (k : Nat) (v : Value), k ≤ l.length ∧ y = .int .i64 k ∧ p = v ∧ gfE.Own wr w.heap.size v (pruneG rs (l.take k)) ∧ Below w.heap.size w wr) (fun _ y _ => l.length - (intOf y).toNat)
  case atStart => exact ⟨0, _, Nat.zero_le _, rfl, rfl, hO, hB⟩
  case round =>
    clear hB hO
    obtain ⟨k, v, hk, rfl, rfl, hO, hB⟩ := hrel
    by_cases hkl : k < l.length
    · obtain ⟨b, off, eA, hbw, hc⟩ := HT.out.1 (by omega)
      have hx := gfIdxH (cap := c) eA hkl
      have hat : gfE.At wr b (off + k * 5) l[k] := (hc k hkl).below hB hbw
      have HNX := Lib.hid (prune_next rs hkl)
      have HLE := Lib.hid (show (pruneG rs (l.take k)).length ≤ 1000 from Nat.le_trans (List.length_filter_le _ _) (by rw [List.length_take]; omega))
      generalize l[k] = x at *
      generalize pruneG rs (l.take k) = LO at *
      obtain ⟨A0, c0, rfl, _⟩ := SlV.own hO
      have hnO1 : ∀ g, (Value.slice A0 LO.length c0).ownBlock = some g → g < wr.heap.size := fun g e => (hO.lt g e).2
      have hwr := hB.size
      have hE : gfE.In (wr.alloc (.cells #[.int .i64 x.d, .int .i64 x.i, .int .i64 x.c, .int .i64 x.t, .string x.s] 57)) wr.heap.size x := El.In.new (E := gfE) wr x _ rfl
      have hal := below_alloc (Below.refl wr.heap.size wr) (.cells #[.int .i64 x.d, .int .i64 x.i, .int .i64 x.c, .int .i64 x.t, .string x.s] 57)
      replace hB := below_then hB hal
      replace hO := hO.below hal
      clear hal hc eA
      go_upto_region 5 with (first | (refine El.load gfRow rfl _ rfl b (off + k * 5) rfl x hat #[.int .i64 x.d, .int .i64 x.i, .int .i64 x.c, .int .i64 x.t, .string x.s] rfl ?_) | fail)
      clear hat hx hbw
      generalize wr.alloc (.cells #[.int .i64 x.d, .int .i64 x.i, .int .i64 x.c, .int .i64 x.t, .string x.s] 57) = V at *
      have hnO_lt : ∀ g, (Value.slice A0 LO.length c0).ownBlock = some g → g < wr.heap.size := hnO1
      generalize wr.heap.size = n at *
      have C := CW.out x V hB
      clear hnO1
      cases hw : wantedG x rs with
      | false =>
        rw [hw] at C
        have HNV := Lib.hid (show pruneG rs (l.take (k + 1)) = LO by rw [HNX.out, hw]; simp)
        clear hw
        go_wp2_with (first | (refine El.load gfRow rfl _ rfl n 0 rfl x hE.at #[.int .i64 x.d, .int .i64 x.i, .int .i64 x.c, .int .i64 x.t, .string x.s] rfl ?_) | fail)
        refine C.mono ?_
        rintro e w2 ⟨rfl, hb2⟩
        replace hO := hO.below hb2
        replace hB := below_then hB hb2
        clear hb2 hE
        go_wp2_with fail
        exact ⟨⟨k + 1, _, by omega, by go_num, rfl, by rw [HNV.out]; exact hO, hB⟩, by simp [intOf]; omega⟩
      | true =>
        rw [hw] at C
        have HNV := Lib.hid (show pruneG rs (l.take (k + 1)) = LO ++ [x] by rw [HNX.out, hw, if_pos rfl])
        clear hw
        go_wp2_with (first | (refine El.load gfRow rfl _ rfl n 0 rfl x hE.at #[.int .i64 x.d, .int .i64 x.i, .int .i64 x.c, .int .i64 x.t, .string x.s] rfl ?_) | fail)
        refine C.mono ?_
        rintro e w2 ⟨rfl, hb2⟩
        replace hO := hO.below hb2
        replace hE := hE.below hb2
        replace hB := below_then hB hb2
        clear hb2
        have hal2 := below_alloc (Below.refl w2.heap.size w2) (.cells #[.int .i64 x.d, .int .i64 x.i, .int .i64 x.c, .int .i64 x.t, .string x.s] 57)
        have hO2 := hO.below hal2
        have hT2 : gfE.Sl (w2.alloc (.cells #[.int .i64 x.d, .int .i64 x.i, .int .i64 x.c, .int .i64 x.t, .string x.s] 57)) (some ⟨w2.heap.size, 0, none⟩) [x] := (El.In.new (E := gfE) w2 x _ rfl).sl
        have hB2 := below_then hB hal2
        have hBs := hB2.size
        clear hal2 hO
        go_wp2_with (first | (at_builtin; refine El.wpList_app gfInn rfl _ _ rfl w.heap.size _ LO [x] rfl hO2 (some ⟨w2.heap.size, 0, none⟩) 1 1 rfl rfl hT2 (fun e => by cases e) (by have := HLE.out; rw [List.length_singleton]; omega) hBs ?_; intro v' w5 hO5 hg5 _) | (refine El.load gfRow rfl _ rfl n 0 rfl x hE.at #[.int .i64 x.d, .int .i64 x.i, .int .i64 x.c, .int .i64 x.t, .string x.s] rfl ?_) | fail)
        exact ⟨⟨k + 1, _, by omega, by go_num, rfl, by rw [HNV.out]; exact hO5, hB2.grown hg5 hB2.size (fun k e => (hO2.lt k e).1)⟩, by simp [intOf]; omega⟩
    · obtain rfl : k = l.length := by omega
      obtain ⟨A0, c0, rfl, hS⟩ := SlV.own hO
      rw [List.take_length] at hS ⊢
      clear hO
      go_wp2_with fail
      go_ret
      exact ⟨A0, c0, rfl, hS, hB⟩
end Go.Proofs.Ytnglpkfkepfkkaa

/- The program's queues: Grow, Concat of operations; New, Right. -/
namespace Go.Proofs.Ytnglpkfkepfkkaa
open Go.RowKit Nam Cod

set_option maxRecDepth 100000 in
theorem infoQ2 : (Try.prog.info? 64).map (fun i => (i.zero, i.size, i.bytes)) = some (some (.agg #[.int .i64 0, .int .i64 0, .int .i64 0, .int .i64 0, .int .i64 0, .int .i64 0, .string ⟨#[]⟩]), 7, 64) := by kernel_rfl
set_option maxRecDepth 100000 in
theorem growQ2_any (B n : Nat) (w : World) (hn : n ≤ 60000) (hB : B ≤ w.heap.size) :
    Calls Try.prog 76 #[.slice none 0 0, .int .i64 n] w fun e w' => ∃ v, e = .returned v ∧ opE.Own w' B v [] ∧ Below w.heap.size w w' := by
  by_cases h0 : n = 0
  · subst h0
    go_enter Try.func76, Try.ntmps76
    go_wp2
    go_ret
    exact ⟨_, rfl, El.Own.nil _ B, Below.refl _ _⟩
  · obtain ⟨i, hi, hz, hz1, hz2⟩ := info_parts infoQ2
    have hr := fun ty => Lib.run_append_nil_zeros (P := Try.prog) w 23 3 ty 64 i _ .i64 .i64 Try.underlying23 Try.underlying3 hi hz n (by omega) (by omega) (by omega) (by rw [hz2]; omega)
    have hg1 : n ≤ grownCap w n 0 64 := grownCap_ge w n 0 _
    have hg2 : grownCap w n 0 64 ≤ maxLen := grownCap_le_maxLen w n 0 64 (by unfold maxLen; omega)
    have hown : opE.Own (w.drew.alloc (.cells (Builtin.zeroCells (Value.agg #[.int .i64 0, .int .i64 0, .int .i64 0, .int .i64 0, .int .i64 0, .int .i64 0, .string ⟨#[]⟩]).cells n ++ Builtin.zeroCells (Value.agg #[.int .i64 0, .int .i64 0, .int .i64 0, .int .i64 0, .int .i64 0, .int .i64 0, .string ⟨#[]⟩]).cells (grownCap w n 0 64 - n)) 64)) B (.slice (some ⟨w.heap.size, 0, none⟩) 0 (grownCap w n 0 64)) [] := by
      refine World.ownsRow_made w.drew _ (grownCap w n 0 64) hB hg2 ?_
      rw [Array.size_append, size_zeroCells, size_zeroCells]
      show n * 7 + (grownCap w n 0 64 - n) * 7 = _ * 7
      omega
    have hnx : Below w.heap.size w (w.drew.alloc (.cells (Builtin.zeroCells (Value.agg #[.int .i64 0, .int .i64 0, .int .i64 0, .int .i64 0, .int .i64 0, .int .i64 0, .string ⟨#[]⟩]).cells n ++ Builtin.zeroCells (Value.agg #[.int .i64 0, .int .i64 0, .int .i64 0, .int .i64 0, .int .i64 0, .int .i64 0, .string ⟨#[]⟩]).cells (grownCap w n 0 64 - n)) 64)) := below_alloc (Below.refl _ w).drew _
    generalize grownCap w n 0 64 = cap at *
    generalize w.drew.alloc (.cells (Builtin.zeroCells (Value.agg #[.int .i64 0, .int .i64 0, .int .i64 0, .int .i64 0, .int .i64 0, .int .i64 0, .string ⟨#[]⟩]).cells n ++ Builtin.zeroCells (Value.agg #[.int .i64 0, .int .i64 0, .int .i64 0, .int .i64 0, .int .i64 0, .int .i64 0, .string ⟨#[]⟩]).cells (cap - n)) 64) = W at *
    go_enter Try.func76, Try.ntmps76
    go_wp2_with (at_builtin; refine Lib.wpList_append_run _ rfl _ _ 23 3 rfl _ _ rfl rfl _ _ (hr _) ?_)
    go_wp2
    go_ret
    exact ⟨_, rfl, hown, hnx⟩

set_option maxRecDepth 100000 in
theorem concatQ2_any (sb : Nat) (F : Nat → List Mv) (A : Nat → Option Addr) (C : Nat → Nat) (w : World) (hcell : ∀ j, j < 2 → w.cell? ⟨sb, j, none⟩ = some (.slice (A j) (F j).length (C j)))
    (hT : ∀ j, j < 2 → opE.Sl w (A j) (F j)) (hc : ∀ j, j < 2 → A j = none → C j = 0) (hl : (catE F 2).length ≤ 60000) (hsb : sb < w.heap.size) :
    Calls Try.prog 64 #[.slice (some ⟨sb, 0, none⟩) 2 2] w fun e w' => ∃ A' cap', e = .returned (.slice A' (catE F 2).length cap') ∧ SlV opE w' A' cap' (catE F 2) ∧ Frs w.heap.size A' ∧ Below w.heap.size w w' := by
  have CG := fun n hn => growQ2_any w.heap.size n w hn (Nat.le_refl _)
  have hle := fun k h => catE_le F k 2 h
  have HCL := Lib.hid hcell
  have HTT := Lib.hid hT
  have HCC := Lib.hid hc
  clear hcell hT hc
  go_enter Try.func64, Try.ntmps64
  go_wp2
  go_loop [3, 11] (fun x y => ∃ k : Nat, k ≤ 2 ∧ y = .int .i64 k ∧ x = .int .i64 (catE F k).length) (fun _ y => 2 - (intOf y).toNat)
  case atStart => exact ⟨0, Nat.zero_le _, rfl, rfl⟩
  case round =>
    obtain ⟨k, hk, rfl, rfl⟩ := hrel
    by_cases hlt : k < 2
    · have h1 := HCL.out k hlt
      have h2 := hle (k + 1) hlt
      have h3 : (catE F (k + 1)).length = (catE F k).length + (F k).length := by rw [catE, List.length_append]
      have H3 := Lib.hid h3
      have h4 : (catE F k).length + (F k).length ≤ 60000 := by omega
      generalize (catE F k).length = n at *
      generalize (F k).length = m at *
      clear h3
      go_wp2
      go_round
      case rel => exact ⟨k + 1, by omega, by go_num, by rw [H3.out]; go_num⟩
      case measure => simp [intOf]; omega
    · obtain rfl : k = 2 := by omega
      have CG := CG _ hl
      go_wp2_with fail
      refine CG.mono ?_
      rintro e w1 ⟨v, rfl, hown, hb1⟩
      clear CG
      go_wp2
      go_loopw [6, 27] (fun x y wr => ∃ (k : Nat) (v : Value), k ≤ 2 ∧ y = .int .i64 k ∧ x = v ∧ opE.Own wr w.heap.size v (catE F k) ∧ Below w.heap.size w wr) (fun _ y _ => 2 - (intOf y).toNat)
      case atStart => exact ⟨0, v, Nat.zero_le _, rfl, rfl, hown, hb1⟩
      case round =>
        clear hown hb1
        obtain ⟨k, v, hk, rfl, rfl, hown, hnx⟩ := hrel
        by_cases hlt : k < 2
        · have h1 := HCL.out k hlt
          rw [← (bcell hnx).1 _ _ hsb] at h1
          have h2 := hle (k + 1) hlt
          have h3 : (catE F (k + 1)).length = (catE F k).length + (F k).length := by rw [catE, List.length_append]
          have hTk := (HTT.out k hlt).below hnx
          have hck := HCC.out k hlt
          have hB := hnx.size
          go_wp2_with (at_builtin; refine El.wpList_app opInn rfl _ _ rfl w.heap.size _ (catE F k) (F k) rfl hown (A k) _ (C k) rfl rfl hTk hck (by omega) hB ?_; intro v' w2 hown2 hg2 _)
          go_roundw
          case rel => exact ⟨k + 1, v', by omega, by go_num, rfl, hown2, hnx.grown hg2 hB (fun j hj => (hown).rows j hj)⟩
          case measure => simp [intOf]; omega
        · obtain rfl : k = 2 := by omega
          obtain ⟨A', cap', rfl, hS⟩ := SlV.own hown
          go_wp2
          go_ret
          exact ⟨A', cap', rfl, hS, hown.frs, hnx⟩

def pickQ {α : Type} (a b : α) : Nat → α
  | 0 => a
  | _ => b

set_option maxRecDepth 100000 in
theorem quNew_any (w : World) : Calls Try.prog 15 #[] w fun r w' => ∃ z : Qw, r = .returned (.agg #[.int .i64 z.x.f, .int .i64 z.x.g, .slice z.A z.x.os.length z.c]) ∧ z.x = newQu ∧ z.ok w' ∧ Below w.heap.size w w' := by
  have hB := below_alloc (Below.refl w.heap.size w) (.cells #[.int .i64 1, .int .i64 0, .slice none 0 0] 38)
  have hP : quE.In (w.alloc (.cells #[.int .i64 1, .int .i64 0, .slice none 0 0] 38)) w.heap.size newQw := El.In.new (E := quE) w newQw _ rfl
  go_enter Try.func15, Try.ntmps15
  go_wp2_with fail
  refine El.ret1 quRow hP rfl rfl rfl #[.int .i64 1, .int .i64 0, .slice none 0 0] rfl ?_
  exact ⟨newQw, rfl, rfl, SlV.nil opE _, hB⟩

end Go.Proofs.Ytnglpkfkepfkkaa

/- The document's Push, Take, Settle. -/
namespace Go.Proofs.Ytnglpkfkepfkkaa
open Go.RowKit Nam Cod
theorem sm_off {w : World} {A : Option Addr} {l : List En} {n : Nat} {z : Sw} (h : enE.Sl w A l) (hP : smE.In w n z) : 0 < l.length → ∀ a, A = some a → some a.block ≠ some n := fun h0 a e e2 => by
  obtain ⟨b, off, eb, _, hc⟩ := h h0
  rw [e] at eb
  cases eb
  have e2 := Option.some.inj e2
  dsimp only at e2
  subst e2
  have h1 := hc 0 h0 9 _ rfl
  rw [hP.cell, List.getElem?_eq_none (by rw [smE.len]; show 4 ≤ off + 0 * 10 + 9; omega)] at h1
  cases h1
theorem SlV.keepN {w w' : World} {A : Option Addr} {c : Nat} {l : List En} {row : Option Nat} (h : SlV enE w A c l) (hg : w.grownBy w' row) (hne : 0 < l.length → ∀ a, A = some a → some a.block ≠ row) : SlV enE w' A c l :=
  ⟨fun h0 => (h.1.keep hg (hne h0)) h0, h.2⟩
end Go.Proofs.Ytnglpkfkepfkkaa

/- The document's Settle. -/
namespace Go.Proofs.Ytnglpkfkepfkkaa
open Go.RowKit Nam Cod

theorem two_boxes (w : World) (a b : Array Value) (z : Sw) (hb : b = (smE.c z).toArray) : smE.In ((w.alloc (.cells a 36)).alloc (.cells b 36)) (w.heap.size + 1) z := by
  have := El.In.new (E := smE) (w.alloc (.cells a 36)) z b hb
  rw [alloc_size] at this; exact this
end Go.Proofs.Ytnglpkfkepfkkaa

/- The program's streams: window, rightCount, rightEntries; Clone, Concat of entries; pushed. -/
namespace Go.Proofs.Ytnglpkfkepfkkaa
open Go.RowKit Nam Cod

set_option maxRecDepth 100000 in
theorem cloneEn_any (A : Option Addr) (c : Nat) (l : List En) (w : World) (hl : l.length ≤ 50000) (hT : SlV enE w A c l) :
    Calls Try.prog 55 #[.slice A l.length c] w fun e w' => ∃ A' c', e = .returned (.slice A' l.length c') ∧ SlV enE w' A' c' l ∧ Frs w.heap.size A' ∧ Below w.heap.size w w' := by
  obtain ⟨hT, hz, hlc⟩ := hT
  have q : ∀ (w : World) (a : Option Addr) (n c n' c' : Nat), (binOp .eql 25 (.slice a n c) (.slice none n' c')).run Try.prog w = .ok (.bool a.isNone) w := fun w a n c n' c' => Lib.run_eql_slice_nil w _ _ a n c n' c' Try.underlying25
  cases A with
  | none =>
    obtain rfl := hT.none_nil
    obtain rfl := hz rfl
    go_enter Try.func55, Try.ntmps55
    go_wp2
    go_ret
    exact ⟨none, 0, rfl, SlV.nil _ _, frs_nil _, Below.refl _ _⟩
  | some a =>
    go_enter Try.func55, Try.ntmps55
    have hE := El.Own.empty (E := enE) w w.heap.size (Nat.le_refl _)
    have hb0 := below_alloc (Below.refl w.heap.size w) (.cells #[] 67)
    go_wp2_with (at_builtin; refine El.wpList_app enInn rfl _ _ rfl w.heap.size _ [] l rfl hE (some a) _ c rfl rfl (hT.below hb0) (fun e => by cases e) (by simp; omega) (by simp) ?_; intro v' w2 hown hg _)
    obtain ⟨A', c', rfl, hS⟩ := SlV.own hown
    go_wp2
    go_ret
    exact ⟨A', c', rfl, hS, hown.frs, below_own hb0 hg (hE.rows)⟩

theorem infoEn : (Try.prog.info? 67).map (fun i => (i.zero, i.size, i.bytes)) = some (some (.agg #[.int .i64 0, .int .i64 0, .int .i64 0, .int .i64 0, .int .i64 0, .int .i64 0, .int .i64 0, .int .i64 0, .int .i64 0, .string ⟨#[]⟩]), 10, 88) := by kernel_rfl
set_option maxRecDepth 100000 in
theorem growEn_any (B n : Nat) (w : World) (hn : n ≤ 60000) (hB : B ≤ w.heap.size) :
    Calls Try.prog 85 #[.slice none 0 0, .int .i64 n] w fun e w' => ∃ v, e = .returned v ∧ enE.Own w' B v [] ∧ Below w.heap.size w w' := by
  by_cases h0 : n = 0
  · subst h0
    go_enter Try.func85, Try.ntmps85
    go_wp2
    go_ret
    exact ⟨_, rfl, El.Own.nil _ B, Below.refl _ _⟩
  · obtain ⟨i, hi, hz, hz1, hz2⟩ := info_parts infoEn
    have hr := fun ty => Lib.run_append_nil_zeros (P := Try.prog) w 25 3 ty 67 i _ .i64 .i64 Try.underlying25 Try.underlying3 hi hz n (by omega) (by omega) (by omega) (by rw [hz2]; omega)
    have hg1 : n ≤ grownCap w n 0 67 := grownCap_ge w n 0 _
    have hg2 : grownCap w n 0 67 ≤ maxLen := grownCap_le_maxLen w n 0 67 (by unfold maxLen; omega)
    have hown : enE.Own (w.drew.alloc (.cells (Builtin.zeroCells (Value.agg #[.int .i64 0, .int .i64 0, .int .i64 0, .int .i64 0, .int .i64 0, .int .i64 0, .int .i64 0, .int .i64 0, .int .i64 0, .string ⟨#[]⟩]).cells n ++ Builtin.zeroCells (Value.agg #[.int .i64 0, .int .i64 0, .int .i64 0, .int .i64 0, .int .i64 0, .int .i64 0, .int .i64 0, .int .i64 0, .int .i64 0, .string ⟨#[]⟩]).cells (grownCap w n 0 67 - n)) 67)) B (.slice (some ⟨w.heap.size, 0, none⟩) 0 (grownCap w n 0 67)) [] := by
      refine World.ownsRow_made w.drew _ (grownCap w n 0 67) hB hg2 ?_
      rw [Array.size_append, size_zeroCells, size_zeroCells]
      show n * 10 + (grownCap w n 0 67 - n) * 10 = _ * 10
      omega
    have hnx : Below w.heap.size w (w.drew.alloc (.cells (Builtin.zeroCells (Value.agg #[.int .i64 0, .int .i64 0, .int .i64 0, .int .i64 0, .int .i64 0, .int .i64 0, .int .i64 0, .int .i64 0, .int .i64 0, .string ⟨#[]⟩]).cells n ++ Builtin.zeroCells (Value.agg #[.int .i64 0, .int .i64 0, .int .i64 0, .int .i64 0, .int .i64 0, .int .i64 0, .int .i64 0, .int .i64 0, .int .i64 0, .string ⟨#[]⟩]).cells (grownCap w n 0 67 - n)) 67)) := below_alloc (Below.refl _ w).drew _
    generalize grownCap w n 0 67 = cap at *
    generalize w.drew.alloc (.cells (Builtin.zeroCells (Value.agg #[.int .i64 0, .int .i64 0, .int .i64 0, .int .i64 0, .int .i64 0, .int .i64 0, .int .i64 0, .int .i64 0, .int .i64 0, .string ⟨#[]⟩]).cells n ++ Builtin.zeroCells (Value.agg #[.int .i64 0, .int .i64 0, .int .i64 0, .int .i64 0, .int .i64 0, .int .i64 0, .int .i64 0, .int .i64 0, .int .i64 0, .string ⟨#[]⟩]).cells (cap - n)) 67) = W at *
    go_enter Try.func85, Try.ntmps85
    go_wp2_with (at_builtin; refine Lib.wpList_append_run _ rfl _ _ 25 3 rfl _ _ rfl rfl _ _ (hr _) ?_)
    go_wp2
    go_ret
    exact ⟨_, rfl, hown, hnx⟩

set_option maxRecDepth 100000 in
theorem concatEn_any (sb : Nat) (F : Nat → List En) (A : Nat → Option Addr) (C : Nat → Nat) (w : World) (hcell : ∀ j, j < 2 → w.cell? ⟨sb, j, none⟩ = some (.slice (A j) (F j).length (C j)))
    (hT : ∀ j, j < 2 → enE.Sl w (A j) (F j)) (hc : ∀ j, j < 2 → A j = none → C j = 0) (hl : (catE F 2).length ≤ 60000) (hsb : sb < w.heap.size) :
    Calls Try.prog 82 #[.slice (some ⟨sb, 0, none⟩) 2 2] w fun e w' => ∃ A' cap', e = .returned (.slice A' (catE F 2).length cap') ∧ SlV enE w' A' cap' (catE F 2) ∧ Frs w.heap.size A' ∧ Below w.heap.size w w' := by
  have CG := fun n hn => growEn_any w.heap.size n w hn (Nat.le_refl _)
  have hle := fun k h => catE_le F k 2 h
  have HCL := Lib.hid hcell
  have HTT := Lib.hid hT
  have HCC := Lib.hid hc
  clear hcell hT hc
  go_enter Try.func82, Try.ntmps82
  go_wp2
  go_loop [3, 11] (fun x y => ∃ k : Nat, k ≤ 2 ∧ y = .int .i64 k ∧ x = .int .i64 (catE F k).length) (fun _ y => 2 - (intOf y).toNat)
  case atStart => exact ⟨0, Nat.zero_le _, rfl, rfl⟩
  case round =>
    obtain ⟨k, hk, rfl, rfl⟩ := hrel
    by_cases hlt : k < 2
    · have h1 := HCL.out k hlt
      have h2 := hle (k + 1) hlt
      have h3 : (catE F (k + 1)).length = (catE F k).length + (F k).length := by rw [catE, List.length_append]
      have H3 := Lib.hid h3
      have h4 : (catE F k).length + (F k).length ≤ 60000 := by omega
      generalize (catE F k).length = n at *
      generalize (F k).length = m at *
      clear h3
      go_wp2
      go_round
      case rel => exact ⟨k + 1, by omega, by go_num, by rw [H3.out]; go_num⟩
      case measure => simp [intOf]; omega
    · obtain rfl : k = 2 := by omega
      have CG := CG _ hl
      go_wp2_with fail
      refine CG.mono ?_
      rintro e w1 ⟨v, rfl, hown, hb1⟩
      clear CG
      go_wp2
      go_loopw [6, 27] (fun x y wr => ∃ (k : Nat) (v : Value), k ≤ 2 ∧ y = .int .i64 k ∧ x = v ∧ enE.Own wr w.heap.size v (catE F k) ∧ Below w.heap.size w wr) (fun _ y _ => 2 - (intOf y).toNat)
      case atStart => exact ⟨0, v, Nat.zero_le _, rfl, rfl, hown, hb1⟩
      case round =>
        clear hown hb1
        obtain ⟨k, v, hk, rfl, rfl, hown, hnx⟩ := hrel
        by_cases hlt : k < 2
        · have h1 := HCL.out k hlt
          rw [← (bcell hnx).1 _ _ hsb] at h1
          have h2 := hle (k + 1) hlt
          have h3 : (catE F (k + 1)).length = (catE F k).length + (F k).length := by rw [catE, List.length_append]
          have hTk := (HTT.out k hlt).below hnx
          have hck := HCC.out k hlt
          have hB := hnx.size
          go_wp2_with (at_builtin; refine El.wpList_app enInn rfl _ _ rfl w.heap.size _ (catE F k) (F k) rfl hown (A k) _ (C k) rfl rfl hTk hck (by omega) hB ?_; intro v' w2 hown2 hg2 _)
          go_roundw
          case rel => exact ⟨k + 1, v', by omega, by go_num, rfl, hown2, hnx.grown hg2 hB (fun j hj => (hown).rows j hj)⟩
          case measure => simp [intOf]; omega
        · obtain rfl : k = 2 := by omega
          obtain ⟨A', cap', rfl, hS⟩ := SlV.own hown
          go_wp2
          go_ret
          exact ⟨A', cap', rfl, hS, hown.frs, hnx⟩
def pickT {α : Type} (a b : α) : Nat → α
  | 0 => a
  | _ => b

def winL (l : List En) (i : Int) : List En := if i < 0 ∨ (l.length : Int) < i then [] else l.drop i.toNat
theorem winL_le (l : List En) (i : Int) : (winL l i).length ≤ l.length := by
  unfold winL
  split
  · exact Nat.zero_le _
  · rw [List.length_drop]; omega

set_option maxRecDepth 100000 in
set_option maxHeartbeats 2000000 in
theorem window_any (A : Option Addr) (cap : Nat) (l : List En) (i : Int) (w : World) (hT : SlV enE w A cap l) :
    Calls Try.prog 56 #[.slice A l.length cap, .int .i64 i] w fun r w' => ∃ A' c', r = .returned (.slice A' (winL l i).length c') ∧ SlV enE w A' c' (winL l i) ∧ w' = w := by
  obtain ⟨hT, hz, hlc⟩ := hT
  rcases Int.lt_or_le i 0 with h0 | h0
  · have HV := Lib.hid (show winL l i = [] by unfold winL; rw [if_pos (Or.inl h0)])
    clear hT hz hlc
    go_enter Try.func56, Try.ntmps56
    go_wp2_with fail
    go_ret
    exact ⟨none, 0, by rw [HV.out]; rfl, by rw [HV.out]; exact SlV.nil enE _, rfl⟩
  · rcases Int.lt_or_le l.length i with h1 | h1
    · have HV := Lib.hid (show winL l i = [] by unfold winL; rw [if_pos (Or.inr h1)])
      have f1 : decide (i < 0) = false := decide_eq_false (by omega)
      clear hT hz hlc
      go_enter Try.func56, Try.ntmps56
      go_wp2_with fail
      go_ret
      exact ⟨none, 0, by rw [HV.out]; rfl, by rw [HV.out]; exact SlV.nil enE _, rfl⟩
    · obtain ⟨k, rfl⟩ : ∃ k : Nat, i = k := ⟨i.toNat, by omega⟩
      have HV := Lib.hid (show winL l k = l.drop k by unfold winL; rw [if_neg (by omega)]; rfl)
      have HL := Lib.hid (show (l.drop k).length = l.length - k from List.length_drop)
      obtain ⟨A3, hA3⟩ : ∃ A3, (if cap = k then A else Option.map (fun x => x.add (k * 10)) A) = A3 := ⟨_, rfl⟩
      have hT3 := hT.drop hlc hA3
      have hz3 := El.drop_none hz hA3
      have f1 : decide ((k : Int) < 0) = false := decide_eq_false (by omega)
      have f2 : decide ((l.length : Int) < (k : Int)) = false := decide_eq_false (by omega)
      have f3 : decide (l.length < k) = false := decide_eq_false (by omega)
      have g1 : (k : Int) ≤ (cap : Int) := by omega
      have g2 : (k : Int) ≤ (l.length : Int) := by omega
      have HC := Lib.hid (show l.length - k ≤ cap - k by omega)
      clear hT hz
      go_enter Try.func56, Try.ntmps56
      go_wp2_with fail
      go_ret
      exact ⟨A3, cap - k, by rw [HV.out, HL.out]; rfl, by rw [HV.out]; exact ⟨hT3, hz3, by rw [HL.out]; exact HC.out⟩, rfl⟩

end Go.Proofs.Ytnglpkfkepfkkaa

/- The program's streams: pushed, Push, Take. -/
namespace Go.Proofs.Ytnglpkfkepfkkaa
open Go.RowKit Nam Cod

def SmS (n1 : Nat) (y : Sw) (w : World) : Prop := w.cell? ⟨n1, 0, none⟩ = some (.int .i64 y.x.s) ∧ w.cell? ⟨n1, 1, none⟩ = some (.int .i64 y.x.t) ∧ w.cell? ⟨n1, 2, none⟩ = some (.int .i64 y.x.p) ∧ w.cell? ⟨n1, 3, none⟩ = some (.slice y.A y.x.es.length y.c)
set_option maxRecDepth 100000 in
set_option maxHeartbeats 4000000 in
theorem pushed_any (y : Sw) (A : Option Addr) (c : Nat) (l : List En) (w : World) (hp : -4611686018427387904 ≤ y.x.p ∧ y.x.p ≤ 4611686018427387904) (hlen : y.x.es.length + l.length ≤ 60000) (hok : y.ok w) (hT : SlV enE w A c l) :
    Calls Try.prog 72 #[.agg #[.int .i64 y.x.s, .int .i64 y.x.t, .int .i64 y.x.p, .slice y.A y.x.es.length y.c], .slice A l.length c] w fun r w' => ∃ z : Sw, r = .returned (.agg #[.int .i64 z.x.s, .int .i64 z.x.t, .int .i64 z.x.p, .slice z.A z.x.es.length z.c]) ∧ z.x = ⟨y.x.s, y.x.t, y.x.p + l.length, y.x.es ++ l⟩ ∧ z.ok w' ∧ Below w.heap.size w w' := by
  have hP : smE.In ((w.alloc (.cells #[.int .i64 y.x.s, .int .i64 y.x.t, .int .i64 y.x.p, .slice y.A y.x.es.length y.c] 36)).alloc (.cells #[.int .i64 0, .int .i64 0, .int .i64 0, .slice none 0 0] 36)) w.heap.size y := (El.In.new (E := smE) w y _ rfl).alloc _
  have hZ := two_boxes w #[.int .i64 y.x.s, .int .i64 y.x.t, .int .i64 y.x.p, .slice y.A y.x.es.length y.c] #[.int .i64 0, .int .i64 0, .int .i64 0, .slice none 0 0] zeroSw rfl
  have hB := below_alloc (below_alloc (Below.refl w.heap.size w) (.cells #[.int .i64 y.x.s, .int .i64 y.x.t, .int .i64 y.x.p, .slice y.A y.x.es.length y.c] 36)) (.cells #[.int .i64 0, .int .i64 0, .int .i64 0, .slice none 0 0] 36)
  replace hok := hok.below hB
  replace hT := hT.below hB
  have hw : IntKind.i64.wrap (y.x.p + (l.length : Int)) = y.x.p + (l.length : Int) := by rw [IntKind.wrap_i64]; omega
  go_enter Try.func72, Try.ntmps72
  go_wp2_with fail
  generalize (w.alloc (.cells #[.int .i64 y.x.s, .int .i64 y.x.t, .int .i64 y.x.p, .slice y.A y.x.es.length y.c] 36)).alloc (.cells #[.int .i64 0, .int .i64 0, .int .i64 0, .slice none 0 0] 36) = V at *
  obtain ⟨n3, h3⟩ : ∃ n, w.heap.size + 1 = n := ⟨_, rfl⟩
  obtain ⟨n1, h1⟩ : ∃ n, w.heap.size = n := ⟨_, rfl⟩
  rw [h3] at hZ ⊢
  rw [h1] at hP ⊢
  have hwn1 : w.heap.size ≤ n1 := by omega
  have hwn3 : w.heap.size ≤ n3 := by omega
  have hn13 : n1 < n3 := by omega
  clear h1 h3
  refine region_anyG (S := SmS n1 y) 15 (by kernel_rfl) ?_
  replace hP : smE.In V.drew n1 y := hP
  replace hZ : smE.In V.drew n3 zeroSw := hZ
  replace hok : y.ok V.drew := hok
  replace hT : SlV enE V.drew A c l := hT
  replace hB := hB.drew
  generalize V.drew = U at *
  have hS : SmS n1 y U := smIn4 hP
  refine anyG_take (i := 0) (v := .pointer (some ⟨n1, 0, none⟩)) rfl (by kernel_rfl) (by kernel_rfl) (by kernel_rfl) (by kernel_rfl) (by kernel_rfl) (fun _ _ _ h => h) (Or.inl ⟨by rfl, fun w' hSw => by (obtain ⟨s0, s1, s2, s3⟩ := hSw; go_simp)⟩) hS ?_
  try simp only [Act.put, List.setIfInBounds_toArray, List.set_cons_zero, List.set_cons_succ]
  refine anyG_take (i := 1) (v := .int .i64 y.x.s) rfl (by kernel_rfl) (by kernel_rfl) (by kernel_rfl) (by kernel_rfl) (by kernel_rfl) (fun _ _ _ h => h) (Or.inl ⟨by rfl, fun w' hSw => by (obtain ⟨s0, s1, s2, s3⟩ := hSw; go_simp)⟩) hS ?_
  try simp only [Act.put, List.setIfInBounds_toArray, List.set_cons_zero, List.set_cons_succ]
  refine anyG_take (i := 2) (v := .pointer (some ⟨n1, 1, none⟩)) rfl (by kernel_rfl) (by kernel_rfl) (by kernel_rfl) (by kernel_rfl) (by kernel_rfl) (fun _ _ _ h => h) (Or.inl ⟨by rfl, fun w' hSw => by (obtain ⟨s0, s1, s2, s3⟩ := hSw; go_simp)⟩) hS ?_
  try simp only [Act.put, List.setIfInBounds_toArray, List.set_cons_zero, List.set_cons_succ]
  refine anyG_take (i := 3) (v := .int .i64 y.x.t) rfl (by kernel_rfl) (by kernel_rfl) (by kernel_rfl) (by kernel_rfl) (by kernel_rfl) (fun _ _ _ h => h) (Or.inl ⟨by rfl, fun w' hSw => by (obtain ⟨s0, s1, s2, s3⟩ := hSw; go_simp)⟩) hS ?_
  try simp only [Act.put, List.setIfInBounds_toArray, List.set_cons_zero, List.set_cons_succ]
  refine anyG_take (i := 4) (v := .pointer (some ⟨n1, 2, none⟩)) rfl (by kernel_rfl) (by kernel_rfl) (by kernel_rfl) (by kernel_rfl) (by kernel_rfl) (fun _ _ _ h => h) (Or.inl ⟨by rfl, fun w' hSw => by (obtain ⟨s0, s1, s2, s3⟩ := hSw; go_simp)⟩) hS ?_
  try simp only [Act.put, List.setIfInBounds_toArray, List.set_cons_zero, List.set_cons_succ]
  refine anyG_take (i := 5) (v := .int .i64 y.x.p) rfl (by kernel_rfl) (by kernel_rfl) (by kernel_rfl) (by kernel_rfl) (by kernel_rfl) (fun _ _ _ h => h) (Or.inl ⟨by rfl, fun w' hSw => by (obtain ⟨s0, s1, s2, s3⟩ := hSw; go_simp)⟩) hS ?_
  try simp only [Act.put, List.setIfInBounds_toArray, List.set_cons_zero, List.set_cons_succ]
  refine anyG_take (i := 6) (v := .slice A l.length c) rfl (by kernel_rfl) (by kernel_rfl) (by kernel_rfl) (by kernel_rfl) (by kernel_rfl) (fun _ _ _ h => h) (Or.inl ⟨by rfl, fun w' hSw => by (obtain ⟨s0, s1, s2, s3⟩ := hSw; go_simp)⟩) hS ?_
  try simp only [Act.put, List.setIfInBounds_toArray, List.set_cons_zero, List.set_cons_succ]
  refine anyG_take (i := 7) (v := .int .i64 l.length) rfl (by kernel_rfl) (by kernel_rfl) (by kernel_rfl) (by kernel_rfl) (by kernel_rfl) (fun _ _ _ h => h) (Or.inl ⟨by rfl, fun w' hSw => by (obtain ⟨s0, s1, s2, s3⟩ := hSw; go_simp)⟩) hS ?_
  try simp only [Act.put, List.setIfInBounds_toArray, List.set_cons_zero, List.set_cons_succ]
  refine anyG_take (i := 8) (v := .int .i64 (y.x.p + (l.length : Int))) rfl (by kernel_rfl) (by kernel_rfl) (by kernel_rfl) (by kernel_rfl) (by kernel_rfl) (fun _ _ _ h => h) (Or.inl ⟨by rfl, fun w' hSw => by (obtain ⟨s0, s1, s2, s3⟩ := hSw; go_simp)⟩) hS ?_
  try simp only [Act.put, List.setIfInBounds_toArray, List.set_cons_zero, List.set_cons_succ]
  refine anyG_take (i := 9) (v := .pointer (some ⟨n1, 3, none⟩)) rfl (by kernel_rfl) (by kernel_rfl) (by kernel_rfl) (by kernel_rfl) (by kernel_rfl) (fun _ _ _ h => h) (Or.inl ⟨by rfl, fun w' hSw => by (obtain ⟨s0, s1, s2, s3⟩ := hSw; go_simp)⟩) hS ?_
  try simp only [Act.put, List.setIfInBounds_toArray, List.set_cons_zero, List.set_cons_succ]
  refine anyG_take (i := 10) (v := .slice y.A y.x.es.length y.c) rfl (by kernel_rfl) (by kernel_rfl) (by kernel_rfl) (by kernel_rfl) (by kernel_rfl) (fun _ _ _ h => h) (Or.inl ⟨by rfl, fun w' hSw => by (obtain ⟨s0, s1, s2, s3⟩ := hSw; go_simp)⟩) hS ?_
  try simp only [Act.put, List.setIfInBounds_toArray, List.set_cons_zero, List.set_cons_succ]
  refine anyG_take (i := 11) (v := .slice A l.length c) rfl (by kernel_rfl) (by kernel_rfl) (by kernel_rfl) (by kernel_rfl) (by kernel_rfl) (fun _ _ _ h => h) (Or.inl ⟨by rfl, fun w' hSw => by (obtain ⟨s0, s1, s2, s3⟩ := hSw; go_simp)⟩) hS ?_
  try simp only [Act.put, List.setIfInBounds_toArray, List.set_cons_zero, List.set_cons_succ]
  clear hw hp
  have hal := below_alloc (Below.refl U.heap.size U) (.cells #[.slice y.A y.x.es.length y.c, .slice A l.length c] 25)
  have hcells : ∀ j, j < 2 → (U.alloc (.cells #[.slice y.A y.x.es.length y.c, .slice A l.length c] 25)).cell? ⟨U.heap.size, j, none⟩ = some (.slice (pickT y.A A j) (pickT y.x.es l j).length (pickT y.c c j)) := fun j hj => by
    match j, hj with
    | 0, _ => show _ = some (Value.slice y.A y.x.es.length y.c); go_simp
    | 1, _ => show _ = some (Value.slice A l.length c); go_simp
  have hsz : U.heap.size < (U.alloc (.cells #[.slice y.A y.x.es.length y.c, .slice A l.length c] 25)).heap.size := by rw [alloc_size]; omega
  replace hP := hP.below hal
  replace hZ := hZ.below hal
  replace hok := hok.below hal
  replace hT := hT.below hal
  replace hB := below_then hB hal
  clear hal hS
  refine anyG_step (rs := [12]) (by kernel_rfl) (by simp) ?_
  refine AllG.cons rfl (fun K hK => ?_) AllG.nil
  go_simp
  refine hK.out _ _ (smIn4 hP : SmS n1 y _) ?_
  try simp only [Act.put, List.setIfInBounds_toArray, List.set_cons_zero, List.set_cons_succ]
  clear hK
  generalize U.alloc (.cells #[.slice y.A y.x.es.length y.c, .slice A l.length c] 25) = U1 at *
  have hcat : catE (pickT y.x.es l) 2 = y.x.es ++ l := by
    show ([] ++ y.x.es) ++ l = _
    rw [List.nil_append]
  have CC := concatEn_any U.heap.size (pickT y.x.es l) (pickT y.A A) (pickT y.c c) U1 hcells
    (fun j hj => by
      match j, hj with
      | 0, _ => exact hok.1
      | 1, _ => exact hT.1)
    (fun j hj => by
      match j, hj with
      | 0, _ => exact hok.2.1
      | 1, _ => exact hT.2.1)
    (by rw [hcat, List.length_append]; omega) hsz
  rw [hcat] at CC
  generalize U.heap.size = n0 at *
  clear hcells hcat hsz hok hT
  obtain ⟨L2, hL2⟩ : ∃ L2, y.x.es ++ l = L2 := ⟨_, rfl⟩
  rw [hL2] at CC
  have HL2 := Lib.hid hL2
  clear hL2
  refine anyG_step (rs := [13]) (by kernel_rfl) (by simp) ?_
  refine AllG.cons rfl (fun K hK => ?_) AllG.nil
  go_simp
  refine CC.mono ?_
  rintro r U2 ⟨A', c', rfl, hS', _, hb2⟩
  replace hP := hP.below hb2
  replace hZ := hZ.below hb2
  replace hB := below_then hB hb2
  clear hb2 CC
  try go_wp2_with fail
  have hS : SmS n1 y U2 := smIn4 hP
  refine hK.out _ _ hS ?_
  try simp only [Act.put, List.setIfInBounds_toArray, List.set_cons_zero, List.set_cons_succ]
  clear hK
  refine anyG_take (i := 14) (v := .agg #[.int .i64 y.x.s, .int .i64 y.x.t, .int .i64 (y.x.p + (l.length : Int)), .slice A' L2.length c']) rfl (by kernel_rfl) (by kernel_rfl) (by kernel_rfl) (by kernel_rfl) (by kernel_rfl) (fun _ _ _ h => h) (Or.inl ⟨by rfl, fun w' hSw => by (obtain ⟨s0, s1, s2, s3⟩ := hSw; go_simp)⟩) hS ?_
  try simp only [Act.put, List.setIfInBounds_toArray, List.set_cons_zero, List.set_cons_succ]
  refine anyG_step (rs := [15]) (by kernel_rfl) (by simp) ?_
  refine AllG.last (n := 15) rfl (fun K hK => ?_)
  refine El.step_store smRow rfl _ _ rfl n3 ⟨A', c', ⟨y.x.s, y.x.t, y.x.p + (l.length : Int), L2⟩⟩ #[.int .i64 y.x.s, .int .i64 y.x.t, .int .i64 (y.x.p + (l.length : Int)), .slice A' L2.length c'] rfl rfl rfl zeroSw hZ ?_
  refine hK.out _ _ ?_
  clear hK hS
  refine anyG_done (by kernel_rfl) ?_ _
  go_wp2_with fail
  refine El.ret1 smRow (hZ.set ⟨A', c', ⟨y.x.s, y.x.t, y.x.p + (l.length : Int), L2⟩⟩ _ rfl) rfl rfl rfl _ rfl ?_
  exact ⟨⟨A', c', ⟨y.x.s, y.x.t, y.x.p + (l.length : Int), L2⟩⟩, rfl, by rw [HL2.out], SlV.keepN hS' (by_row _ n3 _) (sm_off hS'.1 hZ), below_setRow hB hwn3 _⟩

theorem takeS_win (x : Sm) (st : Int) (l : List En) : takeS x st l = ⟨x.s, x.t, x.p + ((winL l (x.p + 1 - st)).length : Int), x.es ++ winL l (x.p + 1 - st)⟩ := by
  rw [takeS_eq]
  obtain ⟨s, t, p, es⟩ := x
  dsimp only
  unfold winL
  by_cases c : st ≤ p + 1
  · rw [if_pos c]
    by_cases c2 : (l.length : Int) < p + 1 - st
    · rw [if_pos (Or.inr c2), List.drop_eq_nil_of_le (by omega)]
      congr 1
      rw [List.length_nil]; omega
    · rw [if_neg (by omega)]
      congr 1
      rw [List.length_drop]; omega
  · rw [if_neg c, if_pos (Or.inl (by omega)), List.append_nil]
    congr 1
    rw [List.length_nil]; omega

set_option maxRecDepth 100000 in
set_option maxHeartbeats 4000000 in
theorem smTake_any (y : Sw) (st : Int) (A : Option Addr) (c : Nat) (l : List En) (w : World) (hn : SmN y.x) (hst : -1000000000000000 ≤ st ∧ st ≤ 1000000000000000) (hl : l.length ≤ 5000) (hok : y.ok w) (hT : SlV enE w A c l) :
    Calls Try.prog 54 #[.agg #[.int .i64 y.x.s, .int .i64 y.x.t, .int .i64 y.x.p, .slice y.A y.x.es.length y.c], .int .i64 st, .slice A l.length c] w fun r w' => ∃ z : Sw, r = .returned (.agg #[.int .i64 z.x.s, .int .i64 z.x.t, .int .i64 z.x.p, .slice z.A z.x.es.length z.c]) ∧ z.x = takeS y.x st l ∧ z.ok w' ∧ Below w.heap.size w w' := by
  have hP : smE.In ((w.alloc (.cells #[.int .i64 y.x.s, .int .i64 y.x.t, .int .i64 y.x.p, .slice y.A y.x.es.length y.c] 36)).alloc (.cells #[.int .i64 0, .int .i64 0, .int .i64 0, .slice none 0 0] 36)) w.heap.size y := (El.In.new (E := smE) w y _ rfl).alloc _
  have hZ := two_boxes w #[.int .i64 y.x.s, .int .i64 y.x.t, .int .i64 y.x.p, .slice y.A y.x.es.length y.c] #[.int .i64 0, .int .i64 0, .int .i64 0, .slice none 0 0] zeroSw rfl
  have hB := below_alloc (below_alloc (Below.refl w.heap.size w) (.cells #[.int .i64 y.x.s, .int .i64 y.x.t, .int .i64 y.x.p, .slice y.A y.x.es.length y.c] 36)) (.cells #[.int .i64 0, .int .i64 0, .int .i64 0, .slice none 0 0] 36)
  replace hok := hok.below hB
  replace hT := hT.below hB
  have hp := hn.p
  have hl0 := hn.l
  have w1 : IntKind.i64.wrap (y.x.p + 1) = y.x.p + 1 := by rw [IntKind.wrap_i64]; omega
  have w2 : IntKind.i64.wrap (y.x.p + 1 - st) = y.x.p + 1 - st := by rw [IntKind.wrap_i64]; omega
  go_enter Try.func54, Try.ntmps54
  go_wp2_with fail
  generalize (w.alloc (.cells #[.int .i64 y.x.s, .int .i64 y.x.t, .int .i64 y.x.p, .slice y.A y.x.es.length y.c] 36)).alloc (.cells #[.int .i64 0, .int .i64 0, .int .i64 0, .slice none 0 0] 36) = V at *
  obtain ⟨n3, h3⟩ : ∃ n, w.heap.size + 1 = n := ⟨_, rfl⟩
  obtain ⟨n1, h1⟩ : ∃ n, w.heap.size = n := ⟨_, rfl⟩
  rw [h3] at hZ ⊢
  rw [h1] at hP ⊢
  have hwn1 : w.heap.size ≤ n1 := by omega
  have hwn3 : w.heap.size ≤ n3 := by omega
  have hn13 : n1 < n3 := by omega
  clear h1 h3
  refine region_anyG (S := SmS n1 y) 9 (by kernel_rfl) ?_
  replace hP : smE.In V.drew n1 y := hP
  replace hZ : smE.In V.drew n3 zeroSw := hZ
  replace hok : y.ok V.drew := hok
  replace hT : SlV enE V.drew A c l := hT
  replace hB := hB.drew
  generalize V.drew = U at *
  have hS : SmS n1 y U := smIn4 hP
  refine anyG_take (i := 0) (v := .agg #[.int .i64 y.x.s, .int .i64 y.x.t, .int .i64 y.x.p, .slice y.A y.x.es.length y.c]) rfl (by kernel_rfl) (by kernel_rfl) (by kernel_rfl) (by kernel_rfl) (by kernel_rfl) (fun _ _ _ h => h) (Or.inl ⟨by rfl, fun w' hSw => by (obtain ⟨s0, s1, s2, s3⟩ := hSw; go_simp)⟩) hS ?_
  try simp only [Act.put, List.setIfInBounds_toArray, List.set_cons_zero, List.set_cons_succ]
  refine anyG_take (i := 1) (v := .slice A l.length c) rfl (by kernel_rfl) (by kernel_rfl) (by kernel_rfl) (by kernel_rfl) (by kernel_rfl) (fun _ _ _ h => h) (Or.inl ⟨by rfl, fun w' hSw => by (obtain ⟨s0, s1, s2, s3⟩ := hSw; go_simp)⟩) hS ?_
  try simp only [Act.put, List.setIfInBounds_toArray, List.set_cons_zero, List.set_cons_succ]
  refine anyG_take (i := 2) (v := .pointer (some ⟨n1, 2, none⟩)) rfl (by kernel_rfl) (by kernel_rfl) (by kernel_rfl) (by kernel_rfl) (by kernel_rfl) (fun _ _ _ h => h) (Or.inl ⟨by rfl, fun w' hSw => by (obtain ⟨s0, s1, s2, s3⟩ := hSw; go_simp)⟩) hS ?_
  try simp only [Act.put, List.setIfInBounds_toArray, List.set_cons_zero, List.set_cons_succ]
  refine anyG_take (i := 3) (v := .int .i64 y.x.p) rfl (by kernel_rfl) (by kernel_rfl) (by kernel_rfl) (by kernel_rfl) (by kernel_rfl) (fun _ _ _ h => h) (Or.inl ⟨by rfl, fun w' hSw => by (obtain ⟨s0, s1, s2, s3⟩ := hSw; go_simp)⟩) hS ?_
  try simp only [Act.put, List.setIfInBounds_toArray, List.set_cons_zero, List.set_cons_succ]
  refine anyG_take (i := 4) (v := .int .i64 (y.x.p + 1)) rfl (by kernel_rfl) (by kernel_rfl) (by kernel_rfl) (by kernel_rfl) (by kernel_rfl) (fun _ _ _ h => h) (Or.inl ⟨by rfl, fun w' hSw => by (obtain ⟨s0, s1, s2, s3⟩ := hSw; go_simp)⟩) hS ?_
  try simp only [Act.put, List.setIfInBounds_toArray, List.set_cons_zero, List.set_cons_succ]
  refine anyG_take (i := 5) (v := .int .i64 st) rfl (by kernel_rfl) (by kernel_rfl) (by kernel_rfl) (by kernel_rfl) (by kernel_rfl) (fun _ _ _ h => h) (Or.inl ⟨by rfl, fun w' hSw => by (obtain ⟨s0, s1, s2, s3⟩ := hSw; go_simp)⟩) hS ?_
  try simp only [Act.put, List.setIfInBounds_toArray, List.set_cons_zero, List.set_cons_succ]
  refine anyG_take (i := 6) (v := .int .i64 (y.x.p + 1 - st)) rfl (by kernel_rfl) (by kernel_rfl) (by kernel_rfl) (by kernel_rfl) (by kernel_rfl) (fun _ _ _ h => h) (Or.inl ⟨by rfl, fun w' hSw => by (obtain ⟨s0, s1, s2, s3⟩ := hSw; go_simp)⟩) hS ?_
  try simp only [Act.put, List.setIfInBounds_toArray, List.set_cons_zero, List.set_cons_succ]
  have CW := window_any A c l (y.x.p + 1 - st) U hT
  have HTS := Lib.hid (takeS_win y.x st l)
  have hwl := winL_le l (y.x.p + 1 - st)
  generalize winL l (y.x.p + 1 - st) = W at *
  clear w1 w2 hn hst
  refine anyG_step (rs := [7]) (by kernel_rfl) (by simp) ?_
  refine AllG.cons rfl (fun K hK => ?_) AllG.nil
  go_simp
  refine CW.mono ?_
  rintro r U1 ⟨A1, c1, rfl, hT1, rfl⟩
  have CP := pushed_any y A1 c1 W U1 (by omega) (by omega) hok hT1
  clear CW hT hT1
  try go_wp2_with fail
  refine hK.out _ _ hS ?_
  try simp only [Act.put, List.setIfInBounds_toArray, List.set_cons_zero, List.set_cons_succ]
  clear hK
  refine anyG_step (rs := [8]) (by kernel_rfl) (by simp) ?_
  refine AllG.cons rfl (fun K hK => ?_) AllG.nil
  go_simp
  refine CP.mono ?_
  rintro r U2 ⟨z, rfl, hz0, ho, hb2⟩
  have hz := Lib.hid hz0
  clear hz0
  replace hP := hP.below hb2
  replace hZ := hZ.below hb2
  replace hB := below_then hB hb2
  clear hb2 CP hS
  try go_wp2_with fail
  refine hK.out _ _ (smIn4 hP : SmS n1 y U2) ?_
  try simp only [Act.put, List.setIfInBounds_toArray, List.set_cons_zero, List.set_cons_succ]
  clear hK
  refine anyG_step (rs := [9]) (by kernel_rfl) (by simp) ?_
  refine AllG.last (n := 9) rfl (fun K hK => ?_)
  refine El.step_store smRow rfl _ _ rfl n3 z #[.int .i64 z.x.s, .int .i64 z.x.t, .int .i64 z.x.p, .slice z.A z.x.es.length z.c] rfl rfl rfl zeroSw hZ ?_
  refine hK.out _ _ ?_
  clear hK
  refine anyG_done (by kernel_rfl) ?_ _
  go_wp2_with fail
  refine El.ret1 smRow (hZ.set z _ rfl) rfl rfl rfl _ rfl ?_
  exact ⟨z, rfl, by rw [hz.out, HTS.out], SlV.keepN ho (by_row _ n3 _) (sm_off ho.1 hZ), below_setRow hB hwn3 _⟩
end Go.Proofs.Ytnglpkfkepfkkaa

/- The program's relays: New, followed. -/
namespace Go.Proofs.Ytnglpkfkepfkkaa
open Go.RowKit Nam Cod Pln

theorem El.Own.kin {w : World} {B n c : Nat} {A : Option Addr} {l : List Kin} (h : kinE.Own w B (.slice A n c) l) : KnT w A := fun a e => by
  unfold El.Own at h
  subst e
  rcases h.2 with ⟨h, _⟩ | ⟨g, cap, cur, h, _, hg, _⟩
  · cases h
  · injection h with h _ _
    injection h with h
    subst h
    exact ⟨cur, hg⟩
def kinL (l : List Nat) : List Kin := l.map fun (i : Nat) => (⟨(i : Int), 0, 0, 0⟩ : Kin)
def newW (n : Int) (A : Option Addr) (c : Nat) : Rlw := ⟨n, 1, 0, none, 0, zeroSm, A, c, newQu, none, 0, [], none, 0, [], none, 0, []⟩
def kidsW (x : Rlw) (A : Option Addr) (c : Nat) (l : List Kin) : Rlw := { x with kA := A, kc := c, ks := l }
set_option maxRecDepth 100000 in
set_option maxHeartbeats 4000000 in
theorem new19_any (p : Pnw) (n : Int) (w : World) (hP : Pln.Right p.p) (hT : inE.Sl w p.A p.p.u) :
    Calls Try.prog 8 #[.agg #[.slice p.A p.p.u.length p.c, .int .i64 p.p.q, .int .i64 p.p.r, .int .i64 p.p.b, .int .i64 p.p.l, .int .i64 p.p.w, .int .i64 p.p.c, .int .i64 p.p.k, .int .i64 p.p.i], .int .i64 n] w fun e w' => ∃ x : Rlw, e = .returned (.agg #[.int .i64 x.node, .int .i64 x.boot, .int .i64 x.above, .int .i64 x.st.s, .int .i64 x.st.t, .int .i64 x.st.p, .slice x.eA x.st.es.length x.ec, .int .i64 x.q.f, .int .i64 x.q.g, .slice x.qA x.q.os.length x.qc, .slice x.kA x.ks.length x.kc, .slice x.rA x.rs.length x.rc, .slice x.gA x.gs.length x.gc, .slice none 0 0, .slice none 0 0, .int .i64 0, .slice none 0 0, .slice none 0 0, .slice none 0 0, .slice none 0 0, .int .i64 0, .int .i64 0, .int .i64 0, .int .i64 0, .slice none 0 0, .int .i64 0]) ∧ x.ok w' ∧ x.v = newR19 p.p.u n ∧ Below w.heap.size w w' := by
  have hB := below_alloc (below_alloc (Below.refl w.heap.size w) (.cells #[.slice p.A p.p.u.length p.c, .int .i64 p.p.q, .int .i64 p.p.r, .int .i64 p.p.b, .int .i64 p.p.l, .int .i64 p.p.w, .int .i64 p.p.c, .int .i64 p.p.k, .int .i64 p.p.i] 33)) (.cells #[.int .i64 0, .int .i64 0, .int .i64 0, .int .i64 0, .int .i64 0, .int .i64 0, .slice none 0 0, .int .i64 0, .int .i64 0, .slice none 0 0, .slice none 0 0, .slice none 0 0, .slice none 0 0, .slice none 0 0, .slice none 0 0, .int .i64 0, .slice none 0 0, .slice none 0 0, .slice none 0 0, .slice none 0 0, .int .i64 0, .int .i64 0, .int .i64 0, .int .i64 0, .slice none 0 0, .int .i64 0] 48)
  have hPn : pnE.In ((w.alloc (.cells #[.slice p.A p.p.u.length p.c, .int .i64 p.p.q, .int .i64 p.p.r, .int .i64 p.p.b, .int .i64 p.p.l, .int .i64 p.p.w, .int .i64 p.p.c, .int .i64 p.p.k, .int .i64 p.p.i] 33)).alloc (.cells #[.int .i64 0, .int .i64 0, .int .i64 0, .int .i64 0, .int .i64 0, .int .i64 0, .slice none 0 0, .int .i64 0, .int .i64 0, .slice none 0 0, .slice none 0 0, .slice none 0 0, .slice none 0 0, .slice none 0 0, .slice none 0 0, .int .i64 0, .slice none 0 0, .slice none 0 0, .slice none 0 0, .slice none 0 0, .int .i64 0, .int .i64 0, .int .i64 0, .int .i64 0, .slice none 0 0, .int .i64 0] 48)) w.heap.size p := (El.In.new (E := pnE) w p _ rfl).alloc _
  have hR : ryE.In ((w.alloc (.cells #[.slice p.A p.p.u.length p.c, .int .i64 p.p.q, .int .i64 p.p.r, .int .i64 p.p.b, .int .i64 p.p.l, .int .i64 p.p.w, .int .i64 p.p.c, .int .i64 p.p.k, .int .i64 p.p.i] 33)).alloc (.cells #[.int .i64 0, .int .i64 0, .int .i64 0, .int .i64 0, .int .i64 0, .int .i64 0, .slice none 0 0, .int .i64 0, .int .i64 0, .slice none 0 0, .slice none 0 0, .slice none 0 0, .slice none 0 0, .slice none 0 0, .slice none 0 0, .int .i64 0, .slice none 0 0, .slice none 0 0, .slice none 0 0, .slice none 0 0, .int .i64 0, .int .i64 0, .int .i64 0, .int .i64 0, .slice none 0 0, .int .i64 0] 48)) (w.heap.size + 1) Rlw.zero := by
    have h := El.In.new (E := ryE) (w.alloc (.cells #[.slice p.A p.p.u.length p.c, .int .i64 p.p.q, .int .i64 p.p.r, .int .i64 p.p.b, .int .i64 p.p.l, .int .i64 p.p.w, .int .i64 p.p.c, .int .i64 p.p.k, .int .i64 p.p.i] 33)) Rlw.zero #[.int .i64 0, .int .i64 0, .int .i64 0, .int .i64 0, .int .i64 0, .int .i64 0, .slice none 0 0, .int .i64 0, .int .i64 0, .slice none 0 0, .slice none 0 0, .slice none 0 0, .slice none 0 0, .slice none 0 0, .slice none 0 0, .int .i64 0, .slice none 0 0, .slice none 0 0, .slice none 0 0, .slice none 0 0, .int .i64 0, .int .i64 0, .int .i64 0, .int .i64 0, .slice none 0 0, .int .i64 0] rfl
    rw [alloc_size] at h; exact h
  have CK := Lib.hid (fun (wx : World) (h : inE.Sl wx p.A p.p.u) => pKids_any p n wx h hP.shp)
  have hT0 := hT.below hB
  have HLK := Lib.hid (show (kidsN p.p.u n).length ≤ 12 by
    unfold kidsN
    refine Nat.le_trans (List.length_filter_le _ _) ?_
    rw [List.length_range]
    exact hP.n12)
  have HNV : Hid (newR19 p.p.u n = ⟨n, 1, 0, zeroSm, newQu, kinL (kidsN p.p.u n), [], []⟩) := Lib.hid rfl
  obtain ⟨K, hK⟩ : ∃ K, kidsN p.p.u n = K := ⟨_, rfl⟩
  rw [hK] at CK HLK HNV
  clear hK hT
  go_enter Try.func8, Try.ntmps8
  go_upto_region 1 with (first | (refine wpList_alloc_ry rfl rfl ?_) | fail)
  try simp only [alloc_size]
  generalize (w.alloc (.cells #[.slice p.A p.p.u.length p.c, .int .i64 p.p.q, .int .i64 p.p.r, .int .i64 p.p.b, .int .i64 p.p.l, .int .i64 p.p.w, .int .i64 p.p.c, .int .i64 p.p.k, .int .i64 p.p.i] 33)).alloc (.cells #[.int .i64 0, .int .i64 0, .int .i64 0, .int .i64 0, .int .i64 0, .int .i64 0, .slice none 0 0, .int .i64 0, .int .i64 0, .slice none 0 0, .slice none 0 0, .slice none 0 0, .slice none 0 0, .slice none 0 0, .slice none 0 0, .int .i64 0, .slice none 0 0, .slice none 0 0, .slice none 0 0, .slice none 0 0, .int .i64 0, .int .i64 0, .int .i64 0, .int .i64 0, .slice none 0 0, .int .i64 0] 48) = W at *
  obtain ⟨n1, h1⟩ : ∃ n1, w.heap.size = n1 := ⟨_, rfl⟩
  obtain ⟨n2, h2⟩ : ∃ n2, w.heap.size + 1 = n2 := ⟨_, rfl⟩
  have hw2 : w.heap.size ≤ n2 := by omega
  rw [h2] at hR ⊢
  rw [h1] at hPn ⊢
  clear h1 h2
  go_wp2_with fail
  refine (quNew_any W).mono ?_
  rintro e w2 ⟨z, rfl, hzx, hz, hb2⟩
  replace hPn := hPn.below hb2
  replace hR := hR.below hb2
  replace hT0 := hT0.below hb2
  replace hB := below_then hB hb2
  clear hb2
  obtain ⟨zA, zc, zx⟩ := z
  obtain rfl : zx = newQu := hzx
  have HZ := Lib.hid hz
  have hZ : ryE.In (w2.alloc (.cells #[.int .i64 0, .int .i64 0, .int .i64 0, .int .i64 0, .int .i64 0, .int .i64 0, .slice none 0 0, .int .i64 0, .int .i64 0, .slice none 0 0, .slice none 0 0, .slice none 0 0, .slice none 0 0, .slice none 0 0, .slice none 0 0, .int .i64 0, .slice none 0 0, .slice none 0 0, .slice none 0 0, .slice none 0 0, .int .i64 0, .int .i64 0, .int .i64 0, .int .i64 0, .slice none 0 0, .int .i64 0] 48)) w2.heap.size Rlw.zero := El.In.new (E := ryE) w2 Rlw.zero _ rfl
  have hal := below_setRow (below_alloc (Below.refl w2.heap.size w2) (.cells #[.int .i64 0, .int .i64 0, .int .i64 0, .int .i64 0, .int .i64 0, .int .i64 0, .slice none 0 0, .int .i64 0, .int .i64 0, .slice none 0 0, .slice none 0 0, .slice none 0 0, .slice none 0 0, .slice none 0 0, .slice none 0 0, .int .i64 0, .slice none 0 0, .slice none 0 0, .slice none 0 0, .slice none 0 0, .int .i64 0, .int .i64 0, .int .i64 0, .int .i64 0, .slice none 0 0, .int .i64 0] 48)) (Nat.le_refl _) #[.int .i64 (newW n zA zc).node, .int .i64 (newW n zA zc).boot, .int .i64 (newW n zA zc).above, .int .i64 (newW n zA zc).st.s, .int .i64 (newW n zA zc).st.t, .int .i64 (newW n zA zc).st.p, .slice (newW n zA zc).eA (newW n zA zc).st.es.length (newW n zA zc).ec, .int .i64 (newW n zA zc).q.f, .int .i64 (newW n zA zc).q.g, .slice (newW n zA zc).qA (newW n zA zc).q.os.length (newW n zA zc).qc, .slice (newW n zA zc).kA (newW n zA zc).ks.length (newW n zA zc).kc, .slice (newW n zA zc).rA (newW n zA zc).rs.length (newW n zA zc).rc, .slice (newW n zA zc).gA (newW n zA zc).gs.length (newW n zA zc).gc, .slice none 0 0, .slice none 0 0, .int .i64 0, .slice none 0 0, .slice none 0 0, .slice none 0 0, .slice none 0 0, .int .i64 0, .int .i64 0, .int .i64 0, .int .i64 0, .slice none 0 0, .int .i64 0]
  go_upto_region 2 with (first | (refine wpList_alloc_ry rfl rfl ?_) | (refine El.store ryRow rfl _ _ rfl w2.heap.size (newW n zA zc) #[.int .i64 (newW n zA zc).node, .int .i64 (newW n zA zc).boot, .int .i64 (newW n zA zc).above, .int .i64 (newW n zA zc).st.s, .int .i64 (newW n zA zc).st.t, .int .i64 (newW n zA zc).st.p, .slice (newW n zA zc).eA (newW n zA zc).st.es.length (newW n zA zc).ec, .int .i64 (newW n zA zc).q.f, .int .i64 (newW n zA zc).q.g, .slice (newW n zA zc).qA (newW n zA zc).q.os.length (newW n zA zc).qc, .slice (newW n zA zc).kA (newW n zA zc).ks.length (newW n zA zc).kc, .slice (newW n zA zc).rA (newW n zA zc).rs.length (newW n zA zc).rc, .slice (newW n zA zc).gA (newW n zA zc).gs.length (newW n zA zc).gc, .slice none 0 0, .slice none 0 0, .int .i64 0, .slice none 0 0, .slice none 0 0, .slice none 0 0, .slice none 0 0, .int .i64 0, .int .i64 0, .int .i64 0, .int .i64 0, .slice none 0 0, .int .i64 0] rfl rfl rfl Rlw.zero hZ ?_) | fail)
  have hE := hZ.set (newW n zA zc) #[.int .i64 (newW n zA zc).node, .int .i64 (newW n zA zc).boot, .int .i64 (newW n zA zc).above, .int .i64 (newW n zA zc).st.s, .int .i64 (newW n zA zc).st.t, .int .i64 (newW n zA zc).st.p, .slice (newW n zA zc).eA (newW n zA zc).st.es.length (newW n zA zc).ec, .int .i64 (newW n zA zc).q.f, .int .i64 (newW n zA zc).q.g, .slice (newW n zA zc).qA (newW n zA zc).q.os.length (newW n zA zc).qc, .slice (newW n zA zc).kA (newW n zA zc).ks.length (newW n zA zc).kc, .slice (newW n zA zc).rA (newW n zA zc).rs.length (newW n zA zc).rc, .slice (newW n zA zc).gA (newW n zA zc).gs.length (newW n zA zc).gc, .slice none 0 0, .slice none 0 0, .int .i64 0, .slice none 0 0, .slice none 0 0, .slice none 0 0, .slice none 0 0, .int .i64 0, .int .i64 0, .int .i64 0, .int .i64 0, .slice none 0 0, .int .i64 0] rfl
  have hw5 : w.heap.size ≤ w2.heap.size := hB.size
  have h25 : n2 < w2.heap.size := hR.lt
  replace hPn := hPn.below hal
  replace hR := hR.below hal
  replace hT0 := hT0.below hal
  replace hB := below_then hB hal
  clear hal hZ hz
  generalize (w2.alloc (.cells #[.int .i64 0, .int .i64 0, .int .i64 0, .int .i64 0, .int .i64 0, .int .i64 0, .slice none 0 0, .int .i64 0, .int .i64 0, .slice none 0 0, .slice none 0 0, .slice none 0 0, .slice none 0 0, .slice none 0 0, .slice none 0 0, .int .i64 0, .slice none 0 0, .slice none 0 0, .slice none 0 0, .slice none 0 0, .int .i64 0, .int .i64 0, .int .i64 0, .int .i64 0, .slice none 0 0, .int .i64 0] 48)).setRow w2.heap.size #[.int .i64 (newW n zA zc).node, .int .i64 (newW n zA zc).boot, .int .i64 (newW n zA zc).above, .int .i64 (newW n zA zc).st.s, .int .i64 (newW n zA zc).st.t, .int .i64 (newW n zA zc).st.p, .slice (newW n zA zc).eA (newW n zA zc).st.es.length (newW n zA zc).ec, .int .i64 (newW n zA zc).q.f, .int .i64 (newW n zA zc).q.g, .slice (newW n zA zc).qA (newW n zA zc).q.os.length (newW n zA zc).qc, .slice (newW n zA zc).kA (newW n zA zc).ks.length (newW n zA zc).kc, .slice (newW n zA zc).rA (newW n zA zc).rs.length (newW n zA zc).rc, .slice (newW n zA zc).gA (newW n zA zc).gs.length (newW n zA zc).gc, .slice none 0 0, .slice none 0 0, .int .i64 0, .slice none 0 0, .slice none 0 0, .slice none 0 0, .slice none 0 0, .int .i64 0, .int .i64 0, .int .i64 0, .int .i64 0, .slice none 0 0, .int .i64 0] = V at *
  generalize w2.heap.size = n5 at *
  have h5V : n5 < V.heap.size := hE.lt
  go_wp2_with (first | (refine El.load pnRow rfl _ rfl n1 0 rfl p hPn.at #[.slice p.A p.p.u.length p.c, .int .i64 p.p.q, .int .i64 p.p.r, .int .i64 p.p.b, .int .i64 p.p.l, .int .i64 p.p.w, .int .i64 p.p.c, .int .i64 p.p.k, .int .i64 p.p.i] rfl ?_) | fail)
  refine (CK.out _ hT0).mono ?_
  rintro e w4 ⟨A', c', rfl, ⟨hK2, hKf⟩, hb4⟩
  obtain ⟨N4, hN4⟩ : ∃ N4, w4.heap.size = N4 := ⟨_, rfl⟩
  have h54 : n5 < N4 := by rw [← hN4]; exact Nat.lt_of_lt_of_le h5V hb4.size
  have HAB := Lib.hid (fun (hk : 0 < K.length) (a : Addr) (e : A' = some a) => (show n5 < a.block ∧ a.block < N4 from ⟨Nat.lt_of_lt_of_le h5V (hKf a e), by
    obtain ⟨b, off, eA, hbw, _⟩ := hK2 (by rw [ints_len]; exact hk)
    rw [eA] at e
    rw [← Option.some.inj e, ← hN4]; exact hbw⟩))
  replace hE := hE.below hb4
  replace hR := hR.below hb4
  replace hB := below_then hB hb4
  clear hb4 hPn hT0 CK h5V
  have hO : kinE.Own w4 N4 (.slice none (kinL (K.take 0)).length 0) (kinL (K.take 0)) := El.Own.nil (E := kinE) w4 N4
  have hB4 : N4 ≤ w4.heap.size := by omega
  have HK0 := Lib.hid hK2
  have hB9 := Below.refl w4.heap.size w4
  have hE9 : ryE.In w4 n5 (kidsW (newW n zA zc) none 0 (kinL (K.take 0))) := hE
  clear hE hK2 hKf hN4
  go_wp2_with fail
  go_loopw [15] (fun y wr => ∃ (k : Nat) (A0 : Option Addr) (c0 : Nat), k ≤ K.length ∧ y = .int .i64 k ∧ N4 ≤ wr.heap.size ∧ kinE.Own wr N4 (.slice A0 (kinL (K.take k)).length c0) (kinL (K.take k)) ∧ ryE.In wr n5 (kidsW (newW n zA zc) A0 c0 (kinL (K.take k))) ∧ inE.Sl wr A' (ints K) ∧ ryE.In wr n2 Rlw.zero ∧ Below w.heap.size w wr) (fun y _ => K.length - (intOf y).toNat)
  case atStart => exact ⟨0, none, 0, Nat.zero_le _, rfl, hB4, hO, hE9, HK0.out, hR, hB⟩
  case round =>
    clear hO hE9 hR hB HK0 hB9 hB4
    obtain ⟨k, A0, c0, hk, rfl, hB4, hO, hE, hI, hR, hB⟩ := hrel
    by_cases hkl : k < K.length
    · obtain ⟨b, off, eA, hbw, hc⟩ := hI (by rw [ints_len]; omega)
      obtain ⟨x, hx⟩ : ∃ x : Nat, K[k] = x := ⟨_, rfl⟩
      have hcell : wr.cell? ⟨b, off + k, none⟩ = some (.int .i64 (x : Int)) := by
        have h := hc k (by rw [ints_len]; exact hkl) 0 (.int .i64 (x : Int)) (by
          rw [← hx]
          unfold ints
          rw [List.getElem_map]; rfl)
        rw [show off + k * inE.k + 0 = off + k from by show off + k * 1 + 0 = off + k; omega] at h
        exact h
      have HNX := Lib.hid (show kinL (K.take (k + 1)) = kinL (K.take k) ++ [⟨(x : Int), 0, 0, 0⟩] by
        unfold kinL
        rw [List.take_succ_eq_append_getElem hkl, List.map_append, hx]; rfl)
      have HLE := Lib.hid (show (kinL (K.take k)).length ≤ 12 by
        unfold kinL
        rw [List.length_map, List.length_take]; have := HLK.out; omega)
      have HI := Lib.hid hI
      have HBW := Lib.hid hbw
      clear hx hc hI hbw
      generalize kinL (K.take k) = L at *
      have hki : (k : Int) < (K.length : Int) := by omega
      have hk12 := HLK.out
      have c10 : wr.cell? ⟨n5, 10, none⟩ = some (.slice A0 L.length c0) := hE.cell 10
      have hT2 : kinE.Sl (wr.alloc (.cells #[.int .i64 (x : Int), .int .i64 0, .int .i64 0, .int .i64 0] 69)) (some ⟨wr.heap.size, 0, none⟩) [⟨(x : Int), 0, 0, 0⟩] := (El.In.new (E := kinE) wr ⟨(x : Int), 0, 0, 0⟩ _ rfl).sl
      have hal := below_alloc (Below.refl wr.heap.size wr) (.cells #[.int .i64 (x : Int), .int .i64 0, .int .i64 0, .int .i64 0] 69)
      have hO2 := hO.below hal
      have hE2 := hE.below hal
      have hR2 := hR.below hal
      have HI2 := Lib.hid (HI.out.below hal)
      have hB2 := below_then hB hal
      have hBs : N4 ≤ (wr.alloc (.cells #[.int .i64 (x : Int), .int .i64 0, .int .i64 0, .int .i64 0] 69)).heap.size := Nat.le_trans hB4 hal.size
      have hlo := hO2.lt
      have HN5 := Lib.hid hlo
      clear hal hO hE hR hB hlo
      subst eA
      go_wp2_with (first | (at_builtin; refine El.wpList_app kinInn rfl _ _ rfl N4 _ L [⟨(x : Int), 0, 0, 0⟩] rfl hO2 (some ⟨wr.heap.size, 0, none⟩) 1 1 rfl rfl hT2 (fun e => by cases e) (by have := HLE.out; rw [List.length_singleton]; omega) hBs ?_; intro v' w5 hO5 hg5 _; have hE5 := hE2.keep hg5 (fun e => by have := (HN5.out _ e.symm).1; omega); have c10' := hE5.cell 10; have qf := hE5.frozen; (obtain ⟨L2, hL2⟩ : ∃ L2, L ++ [(⟨(x : Int), 0, 0, 0⟩ : Kin)] = L2 := ⟨_, rfl⟩); rw [hL2] at hO5; have HL2 := Lib.hid hL2; clear hL2; obtain ⟨A1, c1, rfl, _⟩ := SlV.own hO5) | fail)
      have hg := by_cell w5 n5 10 (.slice A1 L2.length c1)
      have hR5 := hR2.keep hg5 (fun e => by have := (HN5.out _ e.symm).1; omega)
      have hI5 := HI2.out.keep hg5 (fun a e e2 => by have h1 := (HN5.out _ e2.symm).1; have h2 := (HAB.out (by omega) a e).2; omega)
      have hI6 := hI5.keep hg (fun a e e2 => by have h2 := (HAB.out (by omega) a e).1; have := Option.some.inj e2; omega)
      have hB5 := hB2.grown hg5 hB2.size (fun k e => by have h1 := (HN5.out _ e).1; omega)
      have hlo5 := hO5.lt
      clear c10 c10' qf hcell hI5 HI2 HI
      go_roundw
      case rel =>
        refine ⟨k + 1, A1, c1, by omega, by go_num, ?_, ?_, ?_, hI6, hR5.other n5 10 _ (by omega), Below.setCell hB5 (p := ⟨n5, 10, none⟩) hw5 _⟩
        · exact Nat.le_trans (Nat.le_trans hBs hg5.size) hg.size
        · rw [HNX.out, HL2.out]
          exact hO5.kept hg (Or.inr (fun e => by have := (hlo5 _ e).1; omega))
        · rw [HNX.out, HL2.out]
          exact hE5.put (kidsW (newW n zA zc) A1 c1 L2) 10 _ rfl
      case measure => simp [intOf]; omega
    · obtain rfl : k = K.length := by omega
      rw [List.take_length] at hO hE
      obtain ⟨Z, hZ⟩ : ∃ Z, kidsW (newW n zA zc) A0 c0 (kinL K) = Z := ⟨_, rfl⟩
      have HV := Lib.hid (show Z.v = newR19 p.p.u n by rw [HNV.out, ← hZ]; rfl)
      have hok : Z.ok wr := by
        rw [← hZ]
        obtain ⟨A2, c2, e2, hS⟩ := SlV.own hO
        injection e2 with e2 _ e3
        subst e2 e3
        exact ⟨SlV.nil _ _, ⟨fun h => absurd h (Nat.lt_irrefl 0), HZ.out.2⟩, hS, hO.kin, SlV.nil _ _, SlV.nil _ _⟩
      rw [hZ] at hE
      clear hO hI hkl hk
      go_wp2_with (first | (refine El.load ryRow rfl _ rfl n5 0 rfl Z hE.at #[.int .i64 Z.node, .int .i64 Z.boot, .int .i64 Z.above, .int .i64 Z.st.s, .int .i64 Z.st.t, .int .i64 Z.st.p, .slice Z.eA Z.st.es.length Z.ec, .int .i64 Z.q.f, .int .i64 Z.q.g, .slice Z.qA Z.q.os.length Z.qc, .slice Z.kA Z.ks.length Z.kc, .slice Z.rA Z.rs.length Z.rc, .slice Z.gA Z.gs.length Z.gc, .slice none 0 0, .slice none 0 0, .int .i64 0, .slice none 0 0, .slice none 0 0, .slice none 0 0, .slice none 0 0, .int .i64 0, .int .i64 0, .int .i64 0, .int .i64 0, .slice none 0 0, .int .i64 0] rfl ?_) | (refine El.store ryRow rfl _ _ rfl n2 Z #[.int .i64 Z.node, .int .i64 Z.boot, .int .i64 Z.above, .int .i64 Z.st.s, .int .i64 Z.st.t, .int .i64 Z.st.p, .slice Z.eA Z.st.es.length Z.ec, .int .i64 Z.q.f, .int .i64 Z.q.g, .slice Z.qA Z.q.os.length Z.qc, .slice Z.kA Z.ks.length Z.kc, .slice Z.rA Z.rs.length Z.rc, .slice Z.gA Z.gs.length Z.gc, .slice none 0 0, .slice none 0 0, .int .i64 0, .slice none 0 0, .slice none 0 0, .slice none 0 0, .slice none 0 0, .int .i64 0, .int .i64 0, .int .i64 0, .int .i64 0, .slice none 0 0, .int .i64 0] rfl rfl rfl Rlw.zero hR ?_) | fail)
      refine El.ret1 ryRow (hR.set Z _ rfl) rfl rfl rfl _ rfl ?_
      exact ⟨Z, rfl, hok.keepB hR (by_row _ _ _), HV.out, below_setRow hB hw2 _⟩
theorem downS_stop {most : Int} {x : Sm} (h : ¬ (x.es.length : Int) < most) : ∀ (l : List En) (a : Int), downS most x a l = x
  | [], _ => rfl
  | e :: l, a => by rw [downS, if_neg h]
theorem downS_split (most : Int) (r : List En) : ∀ (l : List En) (x : Sm) (a : Int), downS most x a (l ++ r) = downS most (downS most x a l) (a + (l.length : Int)) r
  | [], x, a => by
    show downS most x a r = downS most x (a + ((0 : Nat) : Int)) r
    rw [show a + ((0 : Nat) : Int) = a by omega]
  | e :: l, x, a => by
    rw [List.cons_append, downS, downS]
    by_cases h : (x.es.length : Int) < most
    · rw [if_pos h, if_pos h, downS_split most r l, List.length_cons]
      congr 1
      omega
    · rw [if_neg h, if_neg h, downS_stop h]
theorem downS_next {most : Int} {x : Sm} {a : Int} {l : List En} {k : Nat} (hk : k < l.length) : downS most x a (l.take (k + 1)) = if ((downS most x a (l.take k)).es.length : Int) < most then takeS (downS most x a (l.take k)) (a + k) [l[k]] else downS most x a (l.take k) := by
  rw [List.take_succ_eq_append_getElem hk, downS_split, List.length_take, Nat.min_eq_left (by omega), downS]
  rfl
theorem downS_end {most : Int} {x : Sm} {a : Int} {l : List En} {k : Nat} (h : ¬ ((downS most x a (l.take k)).es.length : Int) < most) : downS most x a l = downS most x a (l.take k) := by
  have e := downS_split most (l.drop k) (l.take k) x a
  rw [List.take_append_drop] at e
  rw [e, downS_stop h]
end Go.Proofs.Ytnglpkfkepfkkaa

/- The program's relays: followed. -/
namespace Go.Proofs.Ytnglpkfkepfkkaa
open Go.RowKit Nam Cod Pln

theorem sm_noEn {w : World} {n off : Nat} {z : Sw} {e : En} (hZ : smE.In w n z) : ¬ enE.At w n off e := fun ha => by
  have h := ha 9 _ rfl
  rw [hZ.cell, List.getElem?_eq_none (by rw [smE.len]; show 4 ≤ off + 9; omega)] at h
  cases h
set_option maxRecDepth 100000 in
set_option maxHeartbeats 8000000 in
theorem followed19_any (y : Sw) (f : Fw) (most : Int) (w : World) (hR : SmR y.x) (hl : y.x.es.length ≤ 100) (hm : most ≤ 100) (hp : y.x.p ≤ 1099511627000) (hf : FrT f.x) (hy : y.ok w) (hfo : SlV enE w f.eA f.ec f.x.es) :
    Calls Try.prog 35 #[.agg #[.int .i64 y.x.s, .int .i64 y.x.t, .int .i64 y.x.p, .slice y.A y.x.es.length y.c], .agg #[.int .i64 f.x.a, .int .i64 f.x.b, .int .i64 f.x.boot, .int .i64 f.x.first, .slice f.oA f.x.os.length f.oc, .int .i64 f.x.pos, .slice f.rA f.x.rs.length f.rc, .int .i64 f.x.start, .slice f.eA f.x.es.length f.ec, .int .i64 f.x.ack, .int .i64 f.x.grant, .int .i64 f.x.s, .int .i64 f.x.t, .slice f.gA f.x.gs.length f.gc], .int .i64 most] w fun e w' => ∃ z : Sw, e = .returned (.agg #[.int .i64 z.x.s, .int .i64 z.x.t, .int .i64 z.x.p, .slice z.A z.x.es.length z.c]) ∧ z.x = downS most y.x f.x.start f.x.es ∧ z.ok w' ∧ Below w.heap.size w w' := by
  have hE : smE.In (((w.alloc (.cells #[.int .i64 y.x.s, .int .i64 y.x.t, .int .i64 y.x.p, .slice y.A y.x.es.length y.c] 36)).alloc (.cells #[.int .i64 f.x.a, .int .i64 f.x.b, .int .i64 f.x.boot, .int .i64 f.x.first, .slice f.oA f.x.os.length f.oc, .int .i64 f.x.pos, .slice f.rA f.x.rs.length f.rc, .int .i64 f.x.start, .slice f.eA f.x.es.length f.ec, .int .i64 f.x.ack, .int .i64 f.x.grant, .int .i64 f.x.s, .int .i64 f.x.t, .slice f.gA f.x.gs.length f.gc] 28)).alloc (.cells #[.int .i64 0, .int .i64 0, .int .i64 0, .slice none 0 0] 36)) w.heap.size y := ((El.In.new (E := smE) w y _ rfl).alloc _).alloc _
  have hM : frE.In (((w.alloc (.cells #[.int .i64 y.x.s, .int .i64 y.x.t, .int .i64 y.x.p, .slice y.A y.x.es.length y.c] 36)).alloc (.cells #[.int .i64 f.x.a, .int .i64 f.x.b, .int .i64 f.x.boot, .int .i64 f.x.first, .slice f.oA f.x.os.length f.oc, .int .i64 f.x.pos, .slice f.rA f.x.rs.length f.rc, .int .i64 f.x.start, .slice f.eA f.x.es.length f.ec, .int .i64 f.x.ack, .int .i64 f.x.grant, .int .i64 f.x.s, .int .i64 f.x.t, .slice f.gA f.x.gs.length f.gc] 28)).alloc (.cells #[.int .i64 0, .int .i64 0, .int .i64 0, .slice none 0 0] 36)) (w.heap.size + 1) f := by
    have h := (El.In.new (E := frE) (w.alloc (.cells #[.int .i64 y.x.s, .int .i64 y.x.t, .int .i64 y.x.p, .slice y.A y.x.es.length y.c] 36)) f _ rfl).alloc (.cells #[.int .i64 0, .int .i64 0, .int .i64 0, .slice none 0 0] 36)
    rw [alloc_size] at h; exact h
  have hZ : smE.In (((w.alloc (.cells #[.int .i64 y.x.s, .int .i64 y.x.t, .int .i64 y.x.p, .slice y.A y.x.es.length y.c] 36)).alloc (.cells #[.int .i64 f.x.a, .int .i64 f.x.b, .int .i64 f.x.boot, .int .i64 f.x.first, .slice f.oA f.x.os.length f.oc, .int .i64 f.x.pos, .slice f.rA f.x.rs.length f.rc, .int .i64 f.x.start, .slice f.eA f.x.es.length f.ec, .int .i64 f.x.ack, .int .i64 f.x.grant, .int .i64 f.x.s, .int .i64 f.x.t, .slice f.gA f.x.gs.length f.gc] 28)).alloc (.cells #[.int .i64 0, .int .i64 0, .int .i64 0, .slice none 0 0] 36)) (w.heap.size + 2) ⟨none, 0, zeroSm⟩ := by
    have h := El.In.new (E := smE) ((w.alloc (.cells #[.int .i64 y.x.s, .int .i64 y.x.t, .int .i64 y.x.p, .slice y.A y.x.es.length y.c] 36)).alloc (.cells #[.int .i64 f.x.a, .int .i64 f.x.b, .int .i64 f.x.boot, .int .i64 f.x.first, .slice f.oA f.x.os.length f.oc, .int .i64 f.x.pos, .slice f.rA f.x.rs.length f.rc, .int .i64 f.x.start, .slice f.eA f.x.es.length f.ec, .int .i64 f.x.ack, .int .i64 f.x.grant, .int .i64 f.x.s, .int .i64 f.x.t, .slice f.gA f.x.gs.length f.gc] 28)) ⟨none, 0, zeroSm⟩ #[.int .i64 0, .int .i64 0, .int .i64 0, .slice none 0 0] rfl
    rw [alloc_size, alloc_size] at h; exact h
  have hB := below_alloc (below_alloc (below_alloc (Below.refl w.heap.size w) (.cells #[.int .i64 y.x.s, .int .i64 y.x.t, .int .i64 y.x.p, .slice y.A y.x.es.length y.c] 36)) (.cells #[.int .i64 f.x.a, .int .i64 f.x.b, .int .i64 f.x.boot, .int .i64 f.x.first, .slice f.oA f.x.os.length f.oc, .int .i64 f.x.pos, .slice f.rA f.x.rs.length f.rc, .int .i64 f.x.start, .slice f.eA f.x.es.length f.ec, .int .i64 f.x.ack, .int .i64 f.x.grant, .int .i64 f.x.s, .int .i64 f.x.t, .slice f.gA f.x.gs.length f.gc] 28)) (.cells #[.int .i64 0, .int .i64 0, .int .i64 0, .slice none 0 0] 36)
  have hok := hy.below hB
  have hes := SlV.below hfo hB
  have HF := Lib.hid hf
  have HR := Lib.hid hR
  have HLP := Lib.hid (And.intro hl (And.intro hm hp))
  obtain ⟨rv, hrv⟩ : ∃ rv, downS most y.x f.x.start f.x.es = rv := ⟨_, rfl⟩
  rw [hrv]
  have HRV := Lib.hid hrv
  have HSB := Lib.hid (fun (k : Nat) (hk : k ≤ f.x.es.length) => (by
    have hfe := hf.e
    have h := downS_R (most := most) (f.x.es.take k) f.x.start hR (fun e he => hf.es e (List.mem_of_mem_take he)) (by rw [List.length_take]; omega)
    rw [List.length_take] at h
    exact ⟨h.1, by have := h.2.1; omega, by have := h.2.2; omega⟩ : SmR (downS most y.x f.x.start (f.x.es.take k)) ∧ (downS most y.x f.x.start (f.x.es.take k)).p ≤ 1099511627776 ∧ (downS most y.x f.x.start (f.x.es.take k)).es.length ≤ 100))
  have HST := Lib.hid (show 0 ≤ f.x.start ∧ f.x.start ≤ 1099511627776 ∧ f.x.es.length ≤ 64 by have := hf.e; omega)
  clear hrv hy hfo hf hR hl hm hp
  go_enter Try.func35, Try.ntmps35
  go_upto_region 1 with fail
  try simp only [alloc_size, Nat.add_assoc, Nat.reduceAdd]
  generalize ((w.alloc (.cells #[.int .i64 y.x.s, .int .i64 y.x.t, .int .i64 y.x.p, .slice y.A y.x.es.length y.c] 36)).alloc (.cells #[.int .i64 f.x.a, .int .i64 f.x.b, .int .i64 f.x.boot, .int .i64 f.x.first, .slice f.oA f.x.os.length f.oc, .int .i64 f.x.pos, .slice f.rA f.x.rs.length f.rc, .int .i64 f.x.start, .slice f.eA f.x.es.length f.ec, .int .i64 f.x.ack, .int .i64 f.x.grant, .int .i64 f.x.s, .int .i64 f.x.t, .slice f.gA f.x.gs.length f.gc] 28)).alloc (.cells #[.int .i64 0, .int .i64 0, .int .i64 0, .slice none 0 0] 36) = W at *
  obtain ⟨n1, h1⟩ : ∃ n1, w.heap.size = n1 := ⟨_, rfl⟩
  obtain ⟨n2, h2⟩ : ∃ n2, w.heap.size + 1 = n2 := ⟨_, rfl⟩
  obtain ⟨n3, h3⟩ : ∃ n3, w.heap.size + 2 = n3 := ⟨_, rfl⟩
  have hw1 : w.heap.size ≤ n1 := by omega
  have hw3 : w.heap.size ≤ n3 := by omega
  have e31 : n3 ≠ n1 := by omega
  have e21 : n2 ≠ n1 := by omega
  rw [h3] at hZ ⊢
  rw [h2] at hM ⊢
  rw [h1] at hE ⊢
  clear h1 h2 h3
  have m8 : W.cell? ⟨n2, 8, none⟩ = some (.slice f.eA f.x.es.length f.ec) := hM.cell 8
  have HY0 := Lib.hid (show y.x = downS most y.x f.x.start (f.x.es.take 0) from rfl)
  go_wp2_with fail
  clear m8
  go_loopw [12] (fun i wr => ∃ (k : Nat) (z : Sw), k ≤ f.x.es.length ∧ i = .int .i64 k ∧ Hid (z.x = downS most y.x f.x.start (f.x.es.take k)) ∧ smE.In wr n1 z ∧ z.ok wr ∧ SlV enE wr f.eA f.ec f.x.es ∧ smE.In wr n3 ⟨none, 0, zeroSm⟩ ∧ frE.In wr n2 f ∧ Below w.heap.size w wr) (fun i _ => f.x.es.length - (intOf i).toNat)
  case atStart => exact ⟨0, y, Nat.zero_le _, rfl, HY0, hE, hok, hes, hZ, hM, hB⟩
  case round =>
    clear hE hok hes hZ hM hB HY0
    obtain ⟨k, z, hk, rfl, HX, hE, hok, hes, hZ, hM, hB⟩ := hrel
    have hl64 : f.x.es.length ≤ 64 := HST.out.2.2
    by_cases hkl : k < f.x.es.length
    · have f2 : decide ((k : Int) < (f.x.es.length : Int)) = true := decide_eq_true (by omega)
      have f3 : decide (k < f.x.es.length) = true := decide_eq_true hkl
      obtain ⟨b, off, eA, hbw, hc⟩ := hes.1 (by omega)
      obtain ⟨e1, he1⟩ : ∃ e1, f.x.es[k] = e1 := ⟨_, rfl⟩
      have hat : enE.At wr b (off + k * 10) e1 := by
        have h := hc k hkl
        rw [he1] at h; exact h
      have hx := enIdxH (cap := f.ec) eA hkl
      have HE1 := Lib.hid he1
      have HL := Lib.hid hes
      clear hc he1 hes eA
      have hN : enE.In (wr.alloc (.cells #[.int .i64 e1.k, .int .i64 e1.d, .int .i64 e1.i, .int .i64 e1.o.C, .int .i64 e1.o.D, .int .i64 e1.o.I, .int .i64 e1.o.M, .int .i64 e1.o.K, .int .i64 e1.o.U, .string e1.o.s] 67)) wr.heap.size e1 := El.In.new (E := enE) wr e1 _ rfl
      have hal := below_alloc (Below.refl wr.heap.size wr) (.cells #[.int .i64 e1.k, .int .i64 e1.d, .int .i64 e1.i, .int .i64 e1.o.C, .int .i64 e1.o.D, .int .i64 e1.o.I, .int .i64 e1.o.M, .int .i64 e1.o.K, .int .i64 e1.o.U, .string e1.o.s] 67)
      replace hE := hE.below hal
      replace hok := hok.below hal
      replace hZ := hZ.below hal
      replace hM := hM.below hal
      replace hB := below_then hB hal
      have HL2 := Lib.hid (SlV.below HL.out hal)
      clear hal HL
      go_upto_region 4 with (first | (refine El.load enRow rfl _ rfl b (off + k * 10) rfl e1 hat #[.int .i64 e1.k, .int .i64 e1.d, .int .i64 e1.i, .int .i64 e1.o.C, .int .i64 e1.o.D, .int .i64 e1.o.I, .int .i64 e1.o.M, .int .i64 e1.o.K, .int .i64 e1.o.U, .string e1.o.s] rfl ?_) | fail)
      clear hat hx hbw
      generalize wr.alloc (.cells #[.int .i64 e1.k, .int .i64 e1.d, .int .i64 e1.i, .int .i64 e1.o.C, .int .i64 e1.o.D, .int .i64 e1.o.I, .int .i64 e1.o.M, .int .i64 e1.o.K, .int .i64 e1.o.U, .string e1.o.s] 67) = V at *
      generalize wr.heap.size = n8 at *
      have c3 : V.cell? ⟨n1, 3, none⟩ = some (.slice z.A z.x.es.length z.c) := hE.cell 3
      by_cases hst : most ≤ (z.x.es.length : Int)
      · have f1 : decide (most ≤ (z.x.es.length : Int)) = true := decide_eq_true hst
        have HV2 := Lib.hid (show z.x = rv by
          rw [← HRV.out, HX.out]
          refine (downS_end ?_).symm
          rw [← HX.out]; omega)
        clear hst hN
        go_wp2_with (first | (refine El.load smRow rfl _ rfl n1 0 rfl z hE.at #[.int .i64 z.x.s, .int .i64 z.x.t, .int .i64 z.x.p, .slice z.A z.x.es.length z.c] rfl ?_) | (refine El.store smRow rfl _ _ rfl n3 z #[.int .i64 z.x.s, .int .i64 z.x.t, .int .i64 z.x.p, .slice z.A z.x.es.length z.c] rfl rfl rfl ⟨none, 0, zeroSm⟩ hZ ?_) | fail)
        refine El.ret1 smRow (hZ.set z _ rfl) rfl rfl rfl _ rfl ?_
        exact ⟨z, rfl, HV2.out, hok.keepRK (fun o _ => sm_noEn hZ) (by_row _ _ _), below_setRow hB hw3 _⟩
      · have f1 : decide (most ≤ (z.x.es.length : Int)) = false := decide_eq_false hst
        obtain ⟨st, hst2⟩ : ∃ st, f.x.start + (k : Int) = st := ⟨_, rfl⟩
        have hwr : IntKind.i64.wrap (f.x.start + (k : Int)) = st := by rw [IntKind.wrap_i64]; have := HST.out; omega
        have HSTV := Lib.hid hst2
        have m7 : V.cell? ⟨n2, 7, none⟩ = some (.int .i64 f.x.start) := hM.cell 7
        have HNX := Lib.hid (show takeS z.x st [e1] = downS most y.x f.x.start (f.x.es.take (k + 1)) by
          rw [downS_next hkl, if_pos (by rw [← HX.out]; omega), HE1.out, ← HX.out, hst2])
        have hzb := HSB.out k hk
        rw [← HX.out] at hzb
        have HZN := Lib.hid (smR_n hzb.1 (by have := hzb.2.2; omega))
        clear hst hst2 hzb
        have hT2 : enE.Sl (V.alloc (.cells #[.int .i64 e1.k, .int .i64 e1.d, .int .i64 e1.i, .int .i64 e1.o.C, .int .i64 e1.o.D, .int .i64 e1.o.I, .int .i64 e1.o.M, .int .i64 e1.o.K, .int .i64 e1.o.U, .string e1.o.s] 67)) (some ⟨V.heap.size, 0, none⟩) [e1] := (El.In.new (E := enE) V e1 _ rfl).sl
        have hal := below_alloc (Below.refl V.heap.size V) (.cells #[.int .i64 e1.k, .int .i64 e1.d, .int .i64 e1.i, .int .i64 e1.o.C, .int .i64 e1.o.D, .int .i64 e1.o.I, .int .i64 e1.o.M, .int .i64 e1.o.K, .int .i64 e1.o.U, .string e1.o.s] 67)
        have CT : Calls Try.prog 54 #[.agg #[.int .i64 z.x.s, .int .i64 z.x.t, .int .i64 z.x.p, .slice z.A z.x.es.length z.c], .int .i64 st, .slice (some ⟨V.heap.size, 0, none⟩) 1 1] (V.alloc (.cells #[.int .i64 e1.k, .int .i64 e1.d, .int .i64 e1.i, .int .i64 e1.o.C, .int .i64 e1.o.D, .int .i64 e1.o.I, .int .i64 e1.o.M, .int .i64 e1.o.K, .int .i64 e1.o.U, .string e1.o.s] 67)) fun r w' => ∃ z2 : Sw, r = .returned (.agg #[.int .i64 z2.x.s, .int .i64 z2.x.t, .int .i64 z2.x.p, .slice z2.A z2.x.es.length z2.c]) ∧ z2.x = takeS z.x st [e1] ∧ z2.ok w' ∧ Below (V.alloc (.cells #[.int .i64 e1.k, .int .i64 e1.d, .int .i64 e1.i, .int .i64 e1.o.C, .int .i64 e1.o.D, .int .i64 e1.o.I, .int .i64 e1.o.M, .int .i64 e1.o.K, .int .i64 e1.o.U, .string e1.o.s] 67)).heap.size (V.alloc (.cells #[.int .i64 e1.k, .int .i64 e1.d, .int .i64 e1.i, .int .i64 e1.o.C, .int .i64 e1.o.D, .int .i64 e1.o.I, .int .i64 e1.o.M, .int .i64 e1.o.K, .int .i64 e1.o.U, .string e1.o.s] 67)) w' :=
          smTake_any z st (some ⟨V.heap.size, 0, none⟩) 1 [e1] _ HZN.out (by have h1 := HST.out; have h2 := HSTV.out; omega) (by show 1 ≤ 5000; omega) (hok.below hal) ⟨hT2, (fun e => by cases e), Nat.le_refl _⟩
        go_wp2_with (first | (refine El.load smRow rfl _ rfl n1 0 rfl z hE.at #[.int .i64 z.x.s, .int .i64 z.x.t, .int .i64 z.x.p, .slice z.A z.x.es.length z.c] rfl ?_) | (refine El.load enRow rfl _ rfl n8 0 rfl e1 hN.at #[.int .i64 e1.k, .int .i64 e1.d, .int .i64 e1.i, .int .i64 e1.o.C, .int .i64 e1.o.D, .int .i64 e1.o.I, .int .i64 e1.o.M, .int .i64 e1.o.K, .int .i64 e1.o.U, .string e1.o.s] rfl ?_) | fail)
        refine CT.mono ?_
        rintro e w7 ⟨z2, rfl, hz2x, hz2, hb7⟩
        replace hE := (hE.below hal).below hb7
        replace hZ := (hZ.below hal).below hb7
        replace hM := (hM.below hal).below hb7
        have HL7 := Lib.hid (SlV.below (SlV.below HL2.out hal) hb7)
        replace hB := below_then (below_then hB hal) hb7
        have HX2 := Lib.hid (hz2x.trans HNX.out)
        clear CT hal hb7 hz2x hT2 hN hwr m7 c3 hok HX
        have hgr := by_row w7 n1 #[.int .i64 z2.x.s, .int .i64 z2.x.t, .int .i64 z2.x.p, .slice z2.A z2.x.es.length z2.c]
        go_wp2_with (first | (refine El.store smRow rfl _ _ rfl n1 z2 #[.int .i64 z2.x.s, .int .i64 z2.x.t, .int .i64 z2.x.p, .slice z2.A z2.x.es.length z2.c] rfl rfl rfl z hE ?_) | fail)
        go_roundw
        case rel =>
          refine ⟨k + 1, z2, by omega, by go_num, HX2, hE.set z2 #[.int .i64 z2.x.s, .int .i64 z2.x.t, .int .i64 z2.x.p, .slice z2.A z2.x.es.length z2.c] rfl, hz2.keepRK (fun o _ => sm_noEn hE) hgr, HL7.out.keepRK (fun o _ => sm_noEn hE) hgr, hZ.rowN n1 #[.int .i64 z2.x.s, .int .i64 z2.x.t, .int .i64 z2.x.p, .slice z2.A z2.x.es.length z2.c] e31, hM.rowN n1 #[.int .i64 z2.x.s, .int .i64 z2.x.t, .int .i64 z2.x.p, .slice z2.A z2.x.es.length z2.c] e21, below_setRow hB hw1 _⟩
        case measure => simp [intOf]; omega
    · obtain rfl : k = f.x.es.length := by omega
      have HV2 := Lib.hid (show z.x = rv by rw [HX.out, List.take_length, HRV.out])
      clear hkl hk
      go_wp2_with (first | (refine El.load smRow rfl _ rfl n1 0 rfl z hE.at #[.int .i64 z.x.s, .int .i64 z.x.t, .int .i64 z.x.p, .slice z.A z.x.es.length z.c] rfl ?_) | (refine El.store smRow rfl _ _ rfl n3 z #[.int .i64 z.x.s, .int .i64 z.x.t, .int .i64 z.x.p, .slice z.A z.x.es.length z.c] rfl rfl rfl ⟨none, 0, zeroSm⟩ hZ ?_) | fail)
      refine El.ret1 smRow (hZ.set z _ rfl) rfl rfl rfl _ rfl ?_
      exact ⟨z, rfl, HV2.out, hok.keepRK (fun o _ => sm_noEn hZ) (by_row _ _ _), below_setRow hB hw3 _⟩
end Go.Proofs.Ytnglpkfkepfkkaa

/- The program's queues: upTo, Ack, Allow, Out. -/
namespace Go.Proofs.Ytnglpkfkepfkkaa
open Go.RowKit Nam Cod

def upQ (x : Qu) (a : Int) : Nat := if a < x.f then 0 else min (a - x.f + 1).toNat x.os.length
theorem upQ_le (x : Qu) (a : Int) : upQ x a ≤ x.os.length := by
  unfold upQ
  split
  · exact Nat.zero_le _
  · omega
theorem ackQ_up (x : Qu) (a : Int) : ackQ x a = ⟨x.f + (upQ x a : Int), x.g, x.os.drop (upQ x a)⟩ := by
  obtain ⟨f, g, os⟩ := x
  unfold ackQ upQ
  dsimp only
  by_cases c : a < f
  · rw [if_pos c, if_pos c]
    congr 1
    omega
  · rw [if_neg c, if_neg c]
    congr 1
    · omega
    · congr 1
      omega
theorem outQ_up (x : Qu) (most : Int) : outQ x most = x.os.take (min (upQ x x.g) (max most 0).toNat) := by
  obtain ⟨f, g, os⟩ := x
  unfold outQ upQ
  dsimp only
  by_cases c : g < f
  · rw [if_pos c, show (min most (g - f + 1)).toNat = 0 by omega, Nat.zero_min]
  · rw [if_neg c]
    by_cases c2 : (min most (g - f + 1)).toNat ≤ os.length
    · congr 1
      omega
    · rw [List.take_of_length_le (by omega), List.take_of_length_le (by omega)]

set_option maxRecDepth 100000 in
set_option maxHeartbeats 2000000 in
theorem upTo_any (y : Qw) (a : Int) (w : World) (hn : QuN y.x) (ha : -1000000000000000 ≤ a ∧ a ≤ 1000000000000000) :
    Calls Try.prog 53 #[.agg #[.int .i64 y.x.f, .int .i64 y.x.g, .slice y.A y.x.os.length y.c], .int .i64 a] w fun r w' => r = .returned (.int .i64 ((upQ y.x a : Nat) : Int)) ∧ Below w.heap.size w w' := by
  have hP : quE.In (w.alloc (.cells #[.int .i64 y.x.f, .int .i64 y.x.g, .slice y.A y.x.os.length y.c] 38)) w.heap.size y := El.In.new (E := quE) w y _ rfl
  have hB := below_alloc (Below.refl w.heap.size w) (.cells #[.int .i64 y.x.f, .int .i64 y.x.g, .slice y.A y.x.os.length y.c] 38)
  obtain ⟨p0, p1, p2⟩ := quIn3 hP
  have hf := hn.f
  have hl := hn.l
  clear hn hP
  by_cases c : a < y.x.f
  · have hu : upQ y.x a = 0 := by unfold upQ; rw [if_pos c]
    rw [hu]
    clear hu
    have f1 : decide (a < y.x.f) = true := decide_eq_true c
    go_enter Try.func53, Try.ntmps53
    go_wp2_with fail
    go_ret
    exact ⟨rfl, hB⟩
  · obtain ⟨d, hd⟩ : ∃ d : Nat, a - y.x.f = d := ⟨(a - y.x.f).toNat, by omega⟩
    have f1 : decide (a < y.x.f) = false := decide_eq_false c
    obtain ⟨u1, h1⟩ : ∃ u1, IntKind.u64.wrap a = u1 := ⟨_, rfl⟩
    obtain ⟨u2, h2⟩ : ∃ u2, IntKind.u64.wrap y.x.f = u2 := ⟨_, rfl⟩
    have f2 : IntKind.u64.wrap (u1 - u2) = (d : Int) := by
      rw [← h1, ← h2]
      show ((a % 18446744073709551616) - (y.x.f % 18446744073709551616)) % 18446744073709551616 = _
      omega
    have f3 : IntKind.u64.wrap (y.x.os.length : Int) = (y.x.os.length : Int) := by
      show (y.x.os.length : Int) % 18446744073709551616 = _
      omega
    by_cases c2 : y.x.os.length ≤ d
    · have hu : upQ y.x a = y.x.os.length := by unfold upQ; rw [if_neg c]; omega
      rw [hu]
      have f4 : decide ((y.x.os.length : Int) ≤ (d : Int)) = true := decide_eq_true (by omega)
      have f5 : decide (y.x.os.length ≤ d) = true := decide_eq_true c2
      clear hd hu c2
      go_enter Try.func53, Try.ntmps53
      go_wp2_with fail
      go_ret
      exact ⟨rfl, hB⟩
    · have hu : upQ y.x a = d + 1 := by unfold upQ; rw [if_neg c]; omega
      rw [hu]
      have f4 : decide ((y.x.os.length : Int) ≤ (d : Int)) = false := decide_eq_false (by omega)
      have f5 : decide (y.x.os.length ≤ d) = false := decide_eq_false c2
      have f6 : IntKind.i64.wrap (d : Int) = (d : Int) := by rw [IntKind.wrap_i64]; omega
      have f7 : IntKind.i64.wrap ((d : Int) + 1) = ((d + 1 : Nat) : Int) := by rw [IntKind.wrap_i64]; omega
      clear hd hu
      go_enter Try.func53, Try.ntmps53
      go_wp2_with fail
      go_ret
      exact ⟨rfl, hB⟩

theorem near_new {B : Nat} {y : Qw} {A : Option Addr} {c : Nat} {x : Qu} (h : Frs B A) : Near B y ⟨A, c, x⟩ := fun _ a' e => Or.inl (h a' e)

set_option maxRecDepth 100000 in
set_option maxHeartbeats 4000000 in
theorem quAck_any (y : Qw) (a : Int) (w : World) (hn : QuN y.x) (ha : -1000000000000000 ≤ a ∧ a ≤ 1000000000000000) (hok : y.ok w) :
    Calls Try.prog 34 #[.agg #[.int .i64 y.x.f, .int .i64 y.x.g, .slice y.A y.x.os.length y.c], .int .i64 a] w fun r w' => ∃ z : Qw, r = .returned (.agg #[.int .i64 z.x.f, .int .i64 z.x.g, .slice z.A z.x.os.length z.c]) ∧ z.x = ackQ y.x a ∧ z.ok w' ∧ Below w.heap.size w w' ∧ Near w.heap.size y z := by
  have CU := Lib.hid (fun (wx : World) => upTo_any y a wx hn ha)
  have hv := ackQ_up y.x a
  have hul := upQ_le y.x a
  generalize upQ y.x a = u at *
  have hf := hn.f
  have hl := hn.l
  have f1 : IntKind.i64.wrap (y.x.f + (u : Int)) = y.x.f + (u : Int) := by rw [IntKind.wrap_i64]; omega
  have hP : quE.In ((w.alloc (.cells #[.int .i64 y.x.f, .int .i64 y.x.g, .slice y.A y.x.os.length y.c] 38)).alloc (.cells #[.int .i64 0, .int .i64 0, .slice none 0 0] 38)) w.heap.size y := (El.In.new (E := quE) w y _ rfl).alloc _
  have hZ := two_quB w #[.int .i64 y.x.f, .int .i64 y.x.g, .slice y.A y.x.os.length y.c] #[.int .i64 0, .int .i64 0, .slice none 0 0] zeroQw rfl
  have hB := below_alloc (below_alloc (Below.refl w.heap.size w) (.cells #[.int .i64 y.x.f, .int .i64 y.x.g, .slice y.A y.x.os.length y.c] 38)) (.cells #[.int .i64 0, .int .i64 0, .slice none 0 0] 38)
  replace hok := hok.below hB
  have HV := Lib.hid hv
  clear hv hn
  go_enter Try.func34, Try.ntmps34
  go_wp2_with (first | (refine El.load quRow rfl _ rfl w.heap.size 0 rfl y hP.at #[.int .i64 y.x.f, .int .i64 y.x.g, .slice y.A y.x.os.length y.c] rfl ?_) | fail)
  refine (CU.out _).mono ?_
  generalize (w.alloc (.cells #[.int .i64 y.x.f, .int .i64 y.x.g, .slice y.A y.x.os.length y.c] 38)).alloc (.cells #[.int .i64 0, .int .i64 0, .slice none 0 0] 38) = W at *
  obtain ⟨n3, h3⟩ : ∃ n, w.heap.size + 1 = n := ⟨_, rfl⟩
  obtain ⟨n1, h1⟩ : ∃ n, w.heap.size = n := ⟨_, rfl⟩
  rw [h3] at hZ ⊢
  rw [h1] at hP ⊢
  rintro r w1 ⟨rfl, hb1⟩
  have hwn1 : w.heap.size ≤ n1 := by omega
  have hwn3 : w.heap.size ≤ n3 := by omega
  have hn13 : n1 ≠ n3 := by omega
  clear h1 h3 CU
  replace hP := hP.below hb1
  replace hZ := hZ.below hb1
  replace hB := below_then hB hb1
  replace hok := hok.below hb1
  clear hb1
  obtain ⟨p0, p1, p2⟩ := quIn3 hP
  have pf := hP.frozen
  go_upto_region 3 with fail
  have hok1 : SlV opE (w1.setCell ⟨n1, 0, none⟩ (.int .i64 (y.x.f + (u : Int)))) y.A y.c y.x.os := SlV.keepO hok (by_cell w1 n1 0 (.int .i64 (y.x.f + (u : Int)))) (qu_off hok.1 hP)
  replace hP := hP.put ⟨y.A, y.c, ⟨y.x.f + (u : Int), y.x.g, y.x.os⟩⟩ 0 (.int .i64 (y.x.f + (u : Int))) rfl
  replace hZ := hZ.other n1 0 (.int .i64 (y.x.f + (u : Int))) hn13.symm
  replace hB := hB.grown (by_cell w1 n1 0 (.int .i64 (y.x.f + (u : Int)))) hB.size (fun k e => by have := Option.some.inj e; omega)
  clear p0 p1 p2 pf hok
  generalize w1.setCell ⟨n1, 0, none⟩ (.int .i64 (y.x.f + (u : Int))) = w2 at *
  obtain ⟨p0, p1, p2⟩ := quIn3 hP
  have pf := hP.frozen
  dsimp only at p0 p1 p2
  obtain ⟨hT, hz, hlc⟩ := hok1
  obtain ⟨A3, hA3⟩ : ∃ A3, (if y.c = u then y.A else Option.map (fun x => x.add (u * 7)) y.A) = A3 := ⟨_, rfl⟩
  have hT3 := hT.drop hlc hA3
  have hz3 := El.drop_none hz hA3
  obtain ⟨X, hX⟩ : ∃ X, y.x.os.drop u = X := ⟨_, rfl⟩
  rw [hX] at hT3
  have hXl : X.length = y.x.os.length - u := by rw [← hX, List.length_drop]
  have CC := cloneOp_any A3 (y.c - u) X w2 (by omega) ⟨hT3, hz3, by omega⟩
  rw [hXl] at CC
  replace CC := Lib.hid CC
  have HX := Lib.hid (show (⟨y.x.f + (u : Int), y.x.g, X⟩ : Qu) = ackQ y.x a by rw [HV.out, hX])
  have HXL := Lib.hid hXl
  have g1 : (u : Int) ≤ (y.c : Int) := by omega
  have g2 : (u : Int) ≤ (y.x.os.length : Int) := by omega
  clear hT hz hX hXl hT3 hz3 HV
  go_wp2_with fail
  refine CC.out.mono ?_
  rintro r w3 ⟨A', c', rfl, hS, hfr, hb2⟩
  have hn1w : n1 < w2.heap.size := hP.lt
  clear CC p0 p1 p2 pf
  replace hP := hP.below hb2
  replace hZ := hZ.below hb2
  replace hfr : Frs w.heap.size A' := hfr.mono hB.size
  replace hB := below_then hB hb2
  clear hb2
  obtain ⟨p0, p1, p2⟩ := quIn3 hP
  have pf := hP.frozen
  dsimp only at p0 p1 p2
  rw [← HXL.out]
  go_upto_region 4 with fail
  have hS1 := SlV.keepO hS (by_cell w3 n1 2 (.slice A' X.length c')) (qu_off hS.1 hP)
  replace hP := hP.put ⟨A', c', ⟨y.x.f + (u : Int), y.x.g, X⟩⟩ 2 (.slice A' X.length c') rfl
  replace hZ := hZ.other n1 2 (.slice A' X.length c') hn13.symm
  replace hB := hB.grown (by_cell w3 n1 2 (.slice A' X.length c')) hB.size (fun k e => by have := Option.some.inj e; omega)
  clear p0 p1 p2 pf hS
  generalize w3.setCell ⟨n1, 2, none⟩ (.slice A' X.length c') = w4 at *
  go_wp2_with (first | (refine El.load quRow rfl _ rfl n1 0 rfl ⟨A', c', ⟨y.x.f + (u : Int), y.x.g, X⟩⟩ hP.at #[.int .i64 (y.x.f + (u : Int)), .int .i64 y.x.g, .slice A' X.length c'] rfl ?_) | (refine El.store quRow rfl _ _ rfl n3 ⟨A', c', ⟨y.x.f + (u : Int), y.x.g, X⟩⟩ #[.int .i64 (y.x.f + (u : Int)), .int .i64 y.x.g, .slice A' X.length c'] rfl rfl rfl zeroQw hZ ?_) | fail)
  refine El.ret1 quRow (hZ.set ⟨A', c', ⟨y.x.f + (u : Int), y.x.g, X⟩⟩ _ rfl) rfl rfl rfl _ rfl ?_
  exact ⟨⟨A', c', ⟨y.x.f + (u : Int), y.x.g, X⟩⟩, rfl, HX.out, SlV.keepO hS1 (by_row _ n3 _) (qu_off hS1.1 hZ), below_setRow hB hwn3 _, near_new hfr⟩

set_option maxRecDepth 100000 in
set_option maxHeartbeats 4000000 in
theorem quAllow_any (y : Qw) (g : Int) (w : World) (hn : QuN y.x) (hok : y.ok w) :
    Calls Try.prog 33 #[.agg #[.int .i64 y.x.f, .int .i64 y.x.g, .slice y.A y.x.os.length y.c], .int .i64 g] w fun r w' => ∃ z : Qw, r = .returned (.agg #[.int .i64 z.x.f, .int .i64 z.x.g, .slice z.A z.x.os.length z.c]) ∧ z.x = allowQ y.x g ∧ z.ok w' ∧ Below w.heap.size w w' ∧ Near w.heap.size y z := by
  have hl := hn.l
  clear hn
  rcases Int.lt_or_le y.x.g g with hm | hm
  · skip
    have CC := Lib.hid (fun (wx : World) (h : y.ok wx) => cloneOp_any y.A y.c y.x.os wx hl h)
    have HV := Lib.hid (show (⟨y.x.f, g, y.x.os⟩ : Qu) = allowQ y.x g by unfold allowQ; rw [show max y.x.g g = g by omega])
    have hmx : max y.x.g g = g := by omega
    have hP : quE.In ((w.alloc (.cells #[.int .i64 y.x.f, .int .i64 (g), .slice y.A y.x.os.length y.c] 38)).alloc (.cells #[.int .i64 0, .int .i64 0, .slice none 0 0] 38)) w.heap.size ⟨y.A, y.c, ⟨y.x.f, g, y.x.os⟩⟩ := (El.In.new (E := quE) w ⟨y.A, y.c, ⟨y.x.f, g, y.x.os⟩⟩ _ rfl).alloc _
    have hZ := two_quB w #[.int .i64 y.x.f, .int .i64 (g), .slice y.A y.x.os.length y.c] #[.int .i64 0, .int .i64 0, .slice none 0 0] zeroQw rfl
    have hB := below_alloc (below_alloc (Below.refl w.heap.size w) (.cells #[.int .i64 y.x.f, .int .i64 (g), .slice y.A y.x.os.length y.c] 38)) (.cells #[.int .i64 0, .int .i64 0, .slice none 0 0] 38)
    have hok1 : y.ok _ := hok.below hB
    clear hok
    go_enter Try.func33, Try.ntmps33
    go_wp2_with (fail)
    generalize (w.alloc (.cells #[.int .i64 y.x.f, .int .i64 (g), .slice y.A y.x.os.length y.c] 38)).alloc (.cells #[.int .i64 0, .int .i64 0, .slice none 0 0] 38) = w2 at *
    obtain ⟨n3, h3⟩ : ∃ n, w.heap.size + 1 = n := ⟨_, rfl⟩
    obtain ⟨n1, h1⟩ : ∃ n, w.heap.size = n := ⟨_, rfl⟩
    rw [h3] at hZ ⊢
    rw [h1] at hP ⊢
    have hwn1 : w.heap.size ≤ n1 := by omega
    have hwn3 : w.heap.size ≤ n3 := by omega
    have hn13 : n1 ≠ n3 := by omega
    clear h1 h3
    refine (CC.out _ hok1).mono ?_
    rintro r w3 ⟨A', c', rfl, hS, hfr, hb2⟩
    have hn1w : n1 < w2.heap.size := hP.lt
    clear CC hok1
    replace hP := hP.below hb2
    replace hZ := hZ.below hb2
    replace hfr : Frs w.heap.size A' := hfr.mono hB.size
    replace hB := below_then hB hb2
    clear hb2
    obtain ⟨p0, p1, p2⟩ := quIn3 hP
    have pf := hP.frozen
    dsimp only at p0 p1 p2
    go_upto_region 3 with fail
    have hS1 := SlV.keepO hS (by_cell w3 n1 2 (.slice A' y.x.os.length c')) (qu_off hS.1 hP)
    replace hP := hP.put ⟨A', c', ⟨y.x.f, g, y.x.os⟩⟩ 2 (.slice A' y.x.os.length c') rfl
    replace hZ := hZ.other n1 2 (.slice A' y.x.os.length c') hn13.symm
    replace hB := hB.grown (by_cell w3 n1 2 (.slice A' y.x.os.length c')) hB.size (fun k e => by have := Option.some.inj e; omega)
    clear p0 p1 p2 pf hS
    generalize w3.setCell ⟨n1, 2, none⟩ (.slice A' y.x.os.length c') = w4 at *
    go_wp2_with (first | (refine El.load quRow rfl _ rfl n1 0 rfl ⟨A', c', ⟨y.x.f, g, y.x.os⟩⟩ hP.at #[.int .i64 y.x.f, .int .i64 (g), .slice A' y.x.os.length c'] rfl ?_) | (refine El.store quRow rfl _ _ rfl n3 ⟨A', c', ⟨y.x.f, g, y.x.os⟩⟩ #[.int .i64 y.x.f, .int .i64 (g), .slice A' y.x.os.length c'] rfl rfl rfl zeroQw hZ ?_) | fail)
    refine El.ret1 quRow (hZ.set ⟨A', c', ⟨y.x.f, g, y.x.os⟩⟩ _ rfl) rfl rfl rfl _ rfl ?_
    exact ⟨⟨A', c', ⟨y.x.f, g, y.x.os⟩⟩, rfl, HV.out, SlV.keepO hS1 (by_row _ n3 _) (qu_off hS1.1 hZ), below_setRow hB hwn3 _, near_new hfr⟩
  · skip
    have CC := Lib.hid (fun (wx : World) (h : y.ok wx) => cloneOp_any y.A y.c y.x.os wx hl h)
    have HV := Lib.hid (show (⟨y.x.f, y.x.g, y.x.os⟩ : Qu) = allowQ y.x g by unfold allowQ; rw [show max y.x.g g = y.x.g by omega])
    have hmx : max y.x.g g = y.x.g := by omega
    have hP : quE.In ((w.alloc (.cells #[.int .i64 y.x.f, .int .i64 (y.x.g), .slice y.A y.x.os.length y.c] 38)).alloc (.cells #[.int .i64 0, .int .i64 0, .slice none 0 0] 38)) w.heap.size ⟨y.A, y.c, ⟨y.x.f, y.x.g, y.x.os⟩⟩ := (El.In.new (E := quE) w ⟨y.A, y.c, ⟨y.x.f, y.x.g, y.x.os⟩⟩ _ rfl).alloc _
    have hZ := two_quB w #[.int .i64 y.x.f, .int .i64 (y.x.g), .slice y.A y.x.os.length y.c] #[.int .i64 0, .int .i64 0, .slice none 0 0] zeroQw rfl
    have hB := below_alloc (below_alloc (Below.refl w.heap.size w) (.cells #[.int .i64 y.x.f, .int .i64 (y.x.g), .slice y.A y.x.os.length y.c] 38)) (.cells #[.int .i64 0, .int .i64 0, .slice none 0 0] 38)
    have hok1 : y.ok _ := hok.below hB
    clear hok
    go_enter Try.func33, Try.ntmps33
    go_wp2_with (fail)
    generalize (w.alloc (.cells #[.int .i64 y.x.f, .int .i64 (y.x.g), .slice y.A y.x.os.length y.c] 38)).alloc (.cells #[.int .i64 0, .int .i64 0, .slice none 0 0] 38) = w2 at *
    obtain ⟨n3, h3⟩ : ∃ n, w.heap.size + 1 = n := ⟨_, rfl⟩
    obtain ⟨n1, h1⟩ : ∃ n, w.heap.size = n := ⟨_, rfl⟩
    rw [h3] at hZ ⊢
    rw [h1] at hP ⊢
    have hwn1 : w.heap.size ≤ n1 := by omega
    have hwn3 : w.heap.size ≤ n3 := by omega
    have hn13 : n1 ≠ n3 := by omega
    clear h1 h3
    refine (CC.out _ hok1).mono ?_
    rintro r w3 ⟨A', c', rfl, hS, hfr, hb2⟩
    have hn1w : n1 < w2.heap.size := hP.lt
    clear CC hok1
    replace hP := hP.below hb2
    replace hZ := hZ.below hb2
    replace hfr : Frs w.heap.size A' := hfr.mono hB.size
    replace hB := below_then hB hb2
    clear hb2
    obtain ⟨p0, p1, p2⟩ := quIn3 hP
    have pf := hP.frozen
    dsimp only at p0 p1 p2
    go_upto_region 3 with fail
    have hS1 := SlV.keepO hS (by_cell w3 n1 2 (.slice A' y.x.os.length c')) (qu_off hS.1 hP)
    replace hP := hP.put ⟨A', c', ⟨y.x.f, y.x.g, y.x.os⟩⟩ 2 (.slice A' y.x.os.length c') rfl
    replace hZ := hZ.other n1 2 (.slice A' y.x.os.length c') hn13.symm
    replace hB := hB.grown (by_cell w3 n1 2 (.slice A' y.x.os.length c')) hB.size (fun k e => by have := Option.some.inj e; omega)
    clear p0 p1 p2 pf hS
    generalize w3.setCell ⟨n1, 2, none⟩ (.slice A' y.x.os.length c') = w4 at *
    go_wp2_with (first | (refine El.load quRow rfl _ rfl n1 0 rfl ⟨A', c', ⟨y.x.f, y.x.g, y.x.os⟩⟩ hP.at #[.int .i64 y.x.f, .int .i64 (y.x.g), .slice A' y.x.os.length c'] rfl ?_) | (refine El.store quRow rfl _ _ rfl n3 ⟨A', c', ⟨y.x.f, y.x.g, y.x.os⟩⟩ #[.int .i64 y.x.f, .int .i64 (y.x.g), .slice A' y.x.os.length c'] rfl rfl rfl zeroQw hZ ?_) | fail)
    refine El.ret1 quRow (hZ.set ⟨A', c', ⟨y.x.f, y.x.g, y.x.os⟩⟩ _ rfl) rfl rfl rfl _ rfl ?_
    exact ⟨⟨A', c', ⟨y.x.f, y.x.g, y.x.os⟩⟩, rfl, HV.out, SlV.keepO hS1 (by_row _ n3 _) (qu_off hS1.1 hZ), below_setRow hB hwn3 _, near_new hfr⟩

theorem SlV.cutO {w : World} {A : Option Addr} {c : Nat} {l : List Mv} {m : Nat} (h : SlV opE w A c l) (hm : m ≤ l.length) : SlV opE w A c (l.take m) := ⟨h.1.take m, h.2.1, by rw [List.length_take]; have := h.2.2; omega⟩
set_option maxRecDepth 100000 in
set_option maxHeartbeats 4000000 in
theorem quOut_any (y : Qw) (most : Int) (w : World) (hn : QuN y.x) (hok : y.ok w) :
    Calls Try.prog 46 #[.agg #[.int .i64 y.x.f, .int .i64 y.x.g, .slice y.A y.x.os.length y.c], .int .i64 most] w fun r w' => ∃ (A : Option Addr) (c : Nat), r = .returned (.slice A (outQ y.x most).length c) ∧ SlV opE w' A c (outQ y.x most) ∧ Below w.heap.size w w' := by
  have CU := Lib.hid (fun (wx : World) => upTo_any y y.x.g wx hn hn.g)
  have hv := outQ_up y.x most
  have hul := upQ_le y.x y.x.g
  generalize upQ y.x y.x.g = u at *
  have hl := hn.l
  have hlc := hok.2.2
  have hP : quE.In (w.alloc (.cells #[.int .i64 y.x.f, .int .i64 y.x.g, .slice y.A y.x.os.length y.c] 38)) w.heap.size y := El.In.new (E := quE) w y _ rfl
  have hB := below_alloc (Below.refl w.heap.size w) (.cells #[.int .i64 y.x.f, .int .i64 y.x.g, .slice y.A y.x.os.length y.c] 38)
  replace hok := hok.below hB
  obtain ⟨p0, p1, p2⟩ := quIn3 hP
  clear hn
  rcases Int.lt_or_le most 0 with hm | hm
  · have m1 : max most 0 = 0 := by omega
    have m2 : min (u : Int) (0 : Int) = 0 := by omega
    have g1 : (0 : Int) ≤ (y.c : Int) := by omega
    have HV := Lib.hid (show outQ y.x (most) = y.x.os.take (0) by rw [hv]; congr 1; omega)
    obtain ⟨X, hX⟩ : ∃ X, y.x.os.take (0) = X := ⟨_, rfl⟩
    have hXl : X.length = 0 := by rw [← hX, List.length_take]; omega
    have HX := Lib.hid (show outQ y.x (most) = X by rw [HV.out, hX])
    have CC := Lib.hid (fun (wx : World) (h : y.ok wx) => by
      have h2 := SlV.cutO (m := 0) h (by omega)
      rw [hX] at h2
      have h3 := cloneOp_any y.A y.c X wx (by omega) h2
      rw [hXl] at h3
      exact (h3 : Calls Try.prog 52 #[.slice y.A (0) y.c] wx fun e w' => ∃ A' c', e = .returned (.slice A' (0) c') ∧ SlV opE w' A' c' X ∧ Frs wx.heap.size A' ∧ Below wx.heap.size wx w'))
    have HXL := Lib.hid hXl
    clear hX hXl hv HV
    go_enter Try.func46, Try.ntmps46
    go_wp2_with (first | (refine El.load quRow rfl _ rfl w.heap.size 0 rfl y hP.at #[.int .i64 y.x.f, .int .i64 y.x.g, .slice y.A y.x.os.length y.c] rfl ?_) | fail)
    refine (CU.out _).mono ?_
    generalize w.alloc (.cells #[.int .i64 y.x.f, .int .i64 y.x.g, .slice y.A y.x.os.length y.c] 38) = W at *
    obtain ⟨n1, h1⟩ : ∃ n, w.heap.size = n := ⟨_, rfl⟩
    rw [h1] at hP ⊢
    clear h1
    rintro r w1 ⟨rfl, hb1⟩
    replace hP := hP.below hb1
    replace hB := hB.trans (hb1.mono hB.size)
    replace hok := hok.below hb1
    clear hb1 CU p0 p1 p2
    obtain ⟨p0, p1, p2⟩ := quIn3 hP
    go_wp2_with fail
    refine (CC.out _ hok).mono ?_
    rintro r w2 ⟨A', c', rfl, hS, _, hb2⟩
    replace hB := hB.trans (hb2.mono hB.size)
    clear hb2 CC
    go_wp2_with fail
    go_ret
    exact ⟨A', c', by rw [HX.out, HXL.out]; rfl, by rw [HX.out]; exact hS, hB⟩
  · obtain ⟨M, rfl⟩ : ∃ M : Nat, most = M := ⟨most.toNat, by omega⟩
    have m1 : max (M : Int) 0 = (M : Int) := by omega
    rcases Nat.lt_or_ge u M with hW | hW
    · have m2 : min (u : Int) (M : Int) = (u : Int) := by omega
      have g1 : (u : Int) ≤ (y.c : Int) := by omega
      have HV := Lib.hid (show outQ y.x ((M : Int)) = y.x.os.take (u) by rw [hv]; congr 1; omega)
      obtain ⟨X, hX⟩ : ∃ X, y.x.os.take (u) = X := ⟨_, rfl⟩
      have hXl : X.length = u := by rw [← hX, List.length_take]; omega
      have HX := Lib.hid (show outQ y.x ((M : Int)) = X by rw [HV.out, hX])
      have CC := Lib.hid (fun (wx : World) (h : y.ok wx) => by
        have h2 := SlV.cutO (m := u) h (by omega)
        rw [hX] at h2
        have h3 := cloneOp_any y.A y.c X wx (by omega) h2
        rw [hXl] at h3
        exact (h3 : Calls Try.prog 52 #[.slice y.A (u) y.c] wx fun e w' => ∃ A' c', e = .returned (.slice A' (u) c') ∧ SlV opE w' A' c' X ∧ Frs wx.heap.size A' ∧ Below wx.heap.size wx w'))
      have HXL := Lib.hid hXl
      clear hX hXl hv HV
      go_enter Try.func46, Try.ntmps46
      go_wp2_with (first | (refine El.load quRow rfl _ rfl w.heap.size 0 rfl y hP.at #[.int .i64 y.x.f, .int .i64 y.x.g, .slice y.A y.x.os.length y.c] rfl ?_) | fail)
      refine (CU.out _).mono ?_
      generalize w.alloc (.cells #[.int .i64 y.x.f, .int .i64 y.x.g, .slice y.A y.x.os.length y.c] 38) = W at *
      obtain ⟨n1, h1⟩ : ∃ n, w.heap.size = n := ⟨_, rfl⟩
      rw [h1] at hP ⊢
      clear h1
      rintro r w1 ⟨rfl, hb1⟩
      replace hP := hP.below hb1
      replace hB := hB.trans (hb1.mono hB.size)
      replace hok := hok.below hb1
      clear hb1 CU p0 p1 p2
      obtain ⟨p0, p1, p2⟩ := quIn3 hP
      go_wp2_with fail
      refine (CC.out _ hok).mono ?_
      rintro r w2 ⟨A', c', rfl, hS, _, hb2⟩
      replace hB := hB.trans (hb2.mono hB.size)
      clear hb2 CC
      go_wp2_with fail
      go_ret
      exact ⟨A', c', by rw [HX.out, HXL.out]; rfl, by rw [HX.out]; exact hS, hB⟩
    · have m2 : min (u : Int) (M : Int) = (M : Int) := by omega
      have g1 : (M : Int) ≤ (y.c : Int) := by omega
      have HV := Lib.hid (show outQ y.x ((M : Int)) = y.x.os.take (M) by rw [hv]; congr 1; omega)
      obtain ⟨X, hX⟩ : ∃ X, y.x.os.take (M) = X := ⟨_, rfl⟩
      have hXl : X.length = M := by rw [← hX, List.length_take]; omega
      have HX := Lib.hid (show outQ y.x ((M : Int)) = X by rw [HV.out, hX])
      have CC := Lib.hid (fun (wx : World) (h : y.ok wx) => by
        have h2 := SlV.cutO (m := M) h (by omega)
        rw [hX] at h2
        have h3 := cloneOp_any y.A y.c X wx (by omega) h2
        rw [hXl] at h3
        exact (h3 : Calls Try.prog 52 #[.slice y.A (M) y.c] wx fun e w' => ∃ A' c', e = .returned (.slice A' (M) c') ∧ SlV opE w' A' c' X ∧ Frs wx.heap.size A' ∧ Below wx.heap.size wx w'))
      have HXL := Lib.hid hXl
      clear hX hXl hv HV
      go_enter Try.func46, Try.ntmps46
      go_wp2_with (first | (refine El.load quRow rfl _ rfl w.heap.size 0 rfl y hP.at #[.int .i64 y.x.f, .int .i64 y.x.g, .slice y.A y.x.os.length y.c] rfl ?_) | fail)
      refine (CU.out _).mono ?_
      generalize w.alloc (.cells #[.int .i64 y.x.f, .int .i64 y.x.g, .slice y.A y.x.os.length y.c] 38) = W at *
      obtain ⟨n1, h1⟩ : ∃ n, w.heap.size = n := ⟨_, rfl⟩
      rw [h1] at hP ⊢
      clear h1
      rintro r w1 ⟨rfl, hb1⟩
      replace hP := hP.below hb1
      replace hB := hB.trans (hb1.mono hB.size)
      replace hok := hok.below hb1
      clear hb1 CU p0 p1 p2
      obtain ⟨p0, p1, p2⟩ := quIn3 hP
      go_wp2_with fail
      refine (CC.out _ hok).mono ?_
      rintro r w2 ⟨A', c', rfl, hS, _, hb2⟩
      replace hB := hB.trans (hb2.mono hB.size)
      clear hb2 CC
      go_wp2_with fail
      go_ret
      exact ⟨A', c', by rw [HX.out, HXL.out]; rfl, by rw [HX.out]; exact hS, hB⟩
end Go.Proofs.Ytnglpkfkepfkkaa
