/- TreeTells is proved: whether any list may be a tree is the document's; of a tree, what it has, with a node more or less, and who is above whom, are, too. Conditions: none. -/
import Derived.Test.YtfhonobaddkmhaaOpn
import Derived.Test.YtfhonobaddkmhaaTs
import Derived.Test.YtfhonobaddkmhaaTt
namespace Go.Proofs.Ytfhonobaddkmhaa
open Go.ChangeShapes Go.WideShapes Go.ChangeAt Go.RowKit Go.Deep Nam Cod Tre

theorem tells_no (A : Option Addr) (cap : Nat) (l : List Pl) (p : Pl) (b : Int) (w : World) (hsz : ∀ p ∈ l, p.s.size ≤ 9223372036854775807) (hT : Tr w A l) (h : 100 < l.length ∨ (l.length ≤ 100 ∧ (1000 < p.s.size ∨ (p.s.size ≤ 1000 ∧ treeB l = false)))) :
    Calls Try.prog 3 #[.slice A l.length cap, .agg #[.int .i64 p.n, .int .i64 p.u, .string p.s], .int .i64 b] w fun e w' => e = .returned (.bool true) ∧ Below w.heap.size w w' := by
  rcases h with h | ⟨h, h1 | ⟨h1, h2⟩⟩
  · go_enter Try.func3, Try.ntmps3
    go_wp2_with (go_at_call 8; (with_reducible refine (awake_any _).mono ?_); rintro e w1 ⟨rfl, hb1⟩)
    go_ret
    exact ⟨rfl, below_then (below_alloc (Below.refl _ _) _) hb1⟩
  · go_enter Try.func3, Try.ntmps3
    go_wp2_with (go_at_call 8; (with_reducible refine (awake_any _).mono ?_); rintro e w1 ⟨rfl, hb1⟩)
    go_ret
    exact ⟨rfl, below_then (below_alloc (Below.refl _ _) _) hb1⟩
  · have C := fun w (hT : Tr w A l) => right_any A cap l w (by omega) hsz hT
    have R := fun w (hT : Tr w A l) => refRight_any A cap l w (by omega) hsz hT
    rw [h2] at C R
    have hT1 := hT.below (below_alloc (Below.refl _ _) (.cells #[.int .i64 p.n, .int .i64 p.u, .string p.s] 24))
    go_enter Try.func3, Try.ntmps3
    go_wp2_with (first | (go_at_call 9; (with_reducible refine (C _ hT1).mono ?_); rintro e w1 ⟨rfl, hb1⟩; have hT2 := hT1.below hb1) | (go_at_call 10; (with_reducible refine (R _ hT2).mono ?_); rintro e w2 ⟨rfl, hb2⟩) | (go_at_call 8; (with_reducible refine (awake_any _).mono ?_); rintro e w3 ⟨rfl, hb3⟩))
    go_ret
    exact ⟨rfl, below_then (below_then (below_then (below_alloc (Below.refl _ _) _) hb1) hb2) hb3⟩

set_option maxRecDepth 100000 in
set_option maxHeartbeats 16000000 in
theorem tells_walk (A : Option Addr) (cap : Nat) (l : List Pl) (p : Pl) (b : Int) (w : World) (hl : l.length ≤ 100) (hps : p.s.size ≤ 1000) (ht : treeB l = true) (hT : Tr w A l) (hcap : l.length ≤ cap) (hn : A = none → cap = 0) :
    Calls Try.prog 3 #[.slice A l.length cap, .agg #[.int .i64 p.n, .int .i64 p.u, .string p.s], .int .i64 b] w fun e w' => e = .returned (.bool true) ∧ Below w.heap.size w w' := by
  obtain ⟨hok, hs, _⟩ := treeB_facts ht
  have hf : ∀ p ∈ l, Fit p := fun p hp => (okPl_fit (hok p hp)).1
  have C := fun w (hT : Tr w A l) => right_any A cap l w (by omega) (fun p hp => by have := (hf p hp).s; omega) hT
  have R := fun w (hT : Tr w A l) => refRight_any A cap l w (by omega) (fun p hp => by have := (hf p hp).s; omega) hT
  rw [ht] at C R
  have HRt := Lib.hid C
  have HRr := Lib.hid R
  have HFt := Lib.hid (fun w (hT : Tr w A l) => find_any A cap l p.n w (by omega) hs hT)
  have HFr := Lib.hid (fun w (hT : Tr w A l) => refFind_any A cap l p.n w (by omega) hT)
  obtain ⟨q, hq⟩ : ∃ q, (Tre.get l p.n).getD zero = q := ⟨_, rfl⟩
  obtain ⟨is, hi⟩ : ∃ is, (Tre.get l p.n).isSome = is := ⟨_, rfl⟩
  have HGt := Lib.hid (fun w (hT : Tr w A l) => get_any A cap l p.n w (by omega) hs hT q is hq hi)
  have HGr := Lib.hid (fun w (hT : Tr w A l) => refGet_any A cap l p.n w (by omega) hT q is hq hi)
  have HPt := Lib.hid (fun w (hT : Tr w A l) => put_any A cap l p w (by omega) hs hT hcap hn)
  have HPr := Lib.hid (fun w (hT : Tr w A l) => refPut_any A cap l p w (by omega) hT hcap hn)
  have HDt := Lib.hid (fun w (hT : Tr w A l) => drop_any A cap l p.n w (by omega) hs hT hcap hn)
  have HDr := Lib.hid (fun w (hT : Tr w A l) => refDrop_any A cap l p.n w (by omega) hT hcap hn)
  have HAt := Lib.hid (fun w (hT : Tr w A l) => above_any A cap l p.n b w (by omega) hs hT)
  have HAr := Lib.hid (fun w (hT : Tr w A l) => refAbove_any A cap l p.n b w (by omega) hT)
  have HSt := Lib.hid (fun w (hT : Tr w A l) => print_any A cap l w (by omega) hf hT)
  have HSr := Lib.hid (fun w (hT : Tr w A l) => refPrint_any A cap l w (by omega) hf hT)
  have HLp : (putL l p).length ≤ 1000 := by
    have := behind_le l p.n
    unfold putL placedL
    rw [List.length_append, List.length_append, List.length_take, List.length_drop]
    have : [p].length = 1 := rfl
    omega
  have HLd : (dropL l p.n).length ≤ 1000 := by
    have := behind_le l p.n
    unfold dropL placedL
    rw [List.length_append, List.length_append, List.length_take, List.length_drop]
    have : ([] : List Pl).length = 0 := rfl
    omega
  rw [hi] at HFt HFr
  generalize putL l p = LP at *
  generalize dropL l p.n = LD at *
  generalize above l p.n b = ab at *
  generalize treeBytes l = T at *
  generalize idx l p.n = ix at *
  clear hq hi hok hs hf C R ht hcap hn
  go_enter Try.func3, Try.ntmps3
  go_wp2_with fail
  have hP := PlIn.new w p
  have hB := below_alloc (Below.refl _ w) (.cells #[.int .i64 p.n, .int .i64 p.u, .string p.s] 24)
  replace hT := hT.below hB
  generalize w.alloc (.cells #[.int .i64 p.n, .int .i64 p.u, .string p.s] 24) = W at *
  obtain ⟨pb, hpb⟩ : ∃ n, w.heap.size = n := ⟨_, rfl⟩
  rw [hpb] at hP ⊢
  refine (HRt.out _ hT).mono ?_
  rintro e w1 ⟨rfl, hb⟩
  replace hT := hT.below hb
  replace hP := hP.below hb
  replace hB := below_then hB hb
  clear hb HRt
  go_wp2_with fail
  refine (HRr.out _ hT).mono ?_
  rintro e w2 ⟨rfl, hb⟩
  replace hT := hT.below hb
  replace hP := hP.below hb
  replace hB := below_then hB hb
  clear hb HRr
  obtain ⟨g0, g1, g2⟩ := hP.cells
  go_wp2_with fail
  clear g0 g1 g2
  refine (HFt.out _ hT).mono ?_
  rintro e w3 ⟨rfl, hb⟩
  replace hT := hT.below hb
  replace hP := hP.below hb
  replace hB := below_then hB hb
  clear hb HFt
  obtain ⟨g0, g1, g2⟩ := hP.cells
  go_wp2_with fail
  clear g0 g1 g2
  refine (HFr.out _ hT).mono ?_
  rintro e w4 ⟨rfl, hb⟩
  replace hT := hT.below hb
  replace hP := hP.below hb
  replace hB := below_then hB hb
  clear hb HFr
  obtain ⟨g0, g1, g2⟩ := hP.cells
  go_wp2_with fail
  clear g0 g1 g2
  refine (HGt.out _ hT).mono ?_
  rintro e w5 ⟨rfl, hb⟩
  replace hT := hT.below hb
  replace hP := hP.below hb
  replace hB := below_then hB hb
  clear hb HGt
  have hbA := below_alloc (Below.refl _ w5) (.cells #[.int .i64 q.n, .int .i64 q.u, .string q.s] 24)
  have hQ := PlIn.new w5 q
  replace hT := hT.below hbA
  replace hP := hP.below hbA
  replace hB := below_then hB hbA
  clear hbA
  obtain ⟨g0, g1, g2⟩ := hP.cells
  go_wp2_with fail
  clear g0 g1 g2
  generalize w5.alloc (.cells #[.int .i64 q.n, .int .i64 q.u, .string q.s] 24) = W5 at *
  generalize w5.heap.size = n5 at *
  refine (HGr.out _ hT).mono ?_
  rintro e w6 ⟨rfl, hb⟩
  replace hT := hT.below hb
  replace hP := hP.below hb
  replace hQ := hQ.below hb
  replace hB := below_then hB hb
  clear hb HGr
  have hbA := below_alloc (Below.refl _ w6) (.cells #[.int .i64 q.n, .int .i64 q.u, .string q.s] 24)
  have hR := PlIn.new w6 q
  replace hT := hT.below hbA
  replace hP := hP.below hbA
  replace hQ := hQ.below hbA
  replace hB := below_then hB hbA
  clear hbA
  go_wp2_with fail
  generalize w6.alloc (.cells #[.int .i64 q.n, .int .i64 q.u, .string q.s] 24) = W6 at *
  generalize w6.heap.size = n6 at *
  replace hT : Tr W6.drew A l := hT
  replace hP : PlIn W6.drew pb p := hP
  replace hQ : PlIn W6.drew n5 q := hQ
  replace hR : PlIn W6.drew n6 q := hR
  replace hB : Below w.heap.size w W6.drew := hB.drew
  clear w1 w2 w3 w4 w5 w6 W W5
  go_region_held3 (fun w' => (w'.cell? ⟨pb, 0, none⟩ = some (.int .i64 p.n) ∧ w'.cell? ⟨pb, 1, none⟩ = some (.int .i64 p.u) ∧ w'.cell? ⟨pb, 2, none⟩ = some (.string p.s)) ∧ (w'.cell? ⟨n5, 0, none⟩ = some (.int .i64 q.n) ∧ w'.cell? ⟨n5, 1, none⟩ = some (.int .i64 q.u) ∧ w'.cell? ⟨n5, 2, none⟩ = some (.string q.s)) ∧ (w'.cell? ⟨n6, 0, none⟩ = some (.int .i64 q.n) ∧ w'.cell? ⟨n6, 1, none⟩ = some (.int .i64 q.u) ∧ w'.cell? ⟨n6, 2, none⟩ = some (.string q.s))) (first | exact ⟨hP.cells, hQ.cells, hR.cells⟩) (first | (go_at_call 8; (with_reducible refine (awake_any _).mono ?_); rintro e w3 ⟨rfl, hb3⟩; replace hT := hT.below hb3; replace hP := hP.below hb3; replace hQ := hQ.below hb3; replace hR := hR.below hb3; replace hB := below_then hB hb3; (try replace hX1 := hX1.below hb3); (try replace hX2 := hX2.below hb3); (try replace hY1 := hY1.below hb3); (try replace hY2 := hY2.below hb3); clear hb3) | (go_at_call 16; (with_reducible refine (HPt.out _ hT).mono ?_); rintro e w3 ⟨A', c', rfl, hX1n, -, -, hb3⟩; replace hT := hT.below hb3; replace hP := hP.below hb3; replace hQ := hQ.below hb3; replace hR := hR.below hb3; replace hB := below_then hB hb3; (try replace hX1 := hX1.below hb3); (try replace hX2 := hX2.below hb3); (try replace hY1 := hY1.below hb3); (try replace hY2 := hY2.below hb3); have hX1 := hX1n; clear hb3 hX1n) | (go_at_call 17; (with_reducible refine (HPr.out _ hT).mono ?_); rintro e w3 ⟨A', c', rfl, hX2n, -, -, hb3⟩; replace hT := hT.below hb3; replace hP := hP.below hb3; replace hQ := hQ.below hb3; replace hR := hR.below hb3; replace hB := below_then hB hb3; (try replace hX1 := hX1.below hb3); (try replace hX2 := hX2.below hb3); (try replace hY1 := hY1.below hb3); (try replace hY2 := hY2.below hb3); have hX2 := hX2n; clear hb3 hX2n) | (go_at_call 15; (with_reducible refine (same_any _ _ _ _ LP _ HLp hX1 hX2).mono ?_); rintro e w3 ⟨rfl, hb3⟩; replace hT := hT.below hb3; replace hP := hP.below hb3; replace hQ := hQ.below hb3; replace hR := hR.below hb3; replace hB := below_then hB hb3; (try replace hX1 := hX1.below hb3); (try replace hX2 := hX2.below hb3); (try replace hY1 := hY1.below hb3); (try replace hY2 := hY2.below hb3); clear hb3) | (go_at_call 18; (with_reducible refine (HDt.out _ hT).mono ?_); rintro e w3 ⟨A', c', rfl, hY1n, -, -, hb3⟩; replace hT := hT.below hb3; replace hP := hP.below hb3; replace hQ := hQ.below hb3; replace hR := hR.below hb3; replace hB := below_then hB hb3; (try replace hX1 := hX1.below hb3); (try replace hX2 := hX2.below hb3); (try replace hY1 := hY1.below hb3); (try replace hY2 := hY2.below hb3); have hY1 := hY1n; clear hb3 hY1n) | (go_at_call 19; (with_reducible refine (HDr.out _ hT).mono ?_); rintro e w3 ⟨A', c', rfl, hY2n, -, -, hb3⟩; replace hT := hT.below hb3; replace hP := hP.below hb3; replace hQ := hQ.below hb3; replace hR := hR.below hb3; replace hB := below_then hB hb3; (try replace hX1 := hX1.below hb3); (try replace hX2 := hX2.below hb3); (try replace hY1 := hY1.below hb3); (try replace hY2 := hY2.below hb3); have hY2 := hY2n; clear hb3 hY2n) | (go_at_call 15; (with_reducible refine (same_any _ _ _ _ LD _ HLd hY1 hY2).mono ?_); rintro e w3 ⟨rfl, hb3⟩; replace hT := hT.below hb3; replace hP := hP.below hb3; replace hQ := hQ.below hb3; replace hR := hR.below hb3; replace hB := below_then hB hb3; (try replace hX1 := hX1.below hb3); (try replace hX2 := hX2.below hb3); (try replace hY1 := hY1.below hb3); (try replace hY2 := hY2.below hb3); clear hb3) | (go_at_call 20; (with_reducible refine (HAt.out _ hT).mono ?_); rintro e w3 ⟨rfl, hb3⟩; replace hT := hT.below hb3; replace hP := hP.below hb3; replace hQ := hQ.below hb3; replace hR := hR.below hb3; replace hB := below_then hB hb3; (try replace hX1 := hX1.below hb3); (try replace hX2 := hX2.below hb3); (try replace hY1 := hY1.below hb3); (try replace hY2 := hY2.below hb3); clear hb3) | (go_at_call 21; (with_reducible refine (HAr.out _ hT).mono ?_); rintro e w3 ⟨rfl, hb3⟩; replace hT := hT.below hb3; replace hP := hP.below hb3; replace hQ := hQ.below hb3; replace hR := hR.below hb3; replace hB := below_then hB hb3; (try replace hX1 := hX1.below hb3); (try replace hX2 := hX2.below hb3); (try replace hY1 := hY1.below hb3); (try replace hY2 := hY2.below hb3); clear hb3) | (go_at_call 22; (with_reducible refine (HSt.out _ hT).mono ?_); rintro e w3 ⟨rfl, hb3⟩; replace hT := hT.below hb3; replace hP := hP.below hb3; replace hQ := hQ.below hb3; replace hR := hR.below hb3; replace hB := below_then hB hb3; (try replace hX1 := hX1.below hb3); (try replace hX2 := hX2.below hb3); (try replace hY1 := hY1.below hb3); (try replace hY2 := hY2.below hb3); clear hb3) | (go_at_call 23; (with_reducible refine (HSr.out _ hT).mono ?_); rintro e w3 ⟨rfl, hb3⟩; replace hT := hT.below hb3; replace hP := hP.below hb3; replace hQ := hQ.below hb3; replace hR := hR.below hb3; replace hB := below_then hB hb3; (try replace hX1 := hX1.below hb3); (try replace hX2 := hX2.below hb3); (try replace hY1 := hY1.below hb3); (try replace hY2 := hY2.below hb3); clear hb3))
  all_goals
    go_wp2
    go_ret
    exact ⟨rfl, hB⟩

set_option maxRecDepth 100000 in
theorem tells_lifted (os : Os) (started : os.Started) (H : Type) (enc : TypeId × Value → H) :
    ReturnsInHanded {} Try.checked os 3 .any (Rows.treeTellsSpec.pre6 enc Try.prog Try.f3 Rows.treeTellsRow.domain false) (Rows.treeTellsSpec.post enc Try.prog Try.f3 false true false false) := by
  refine returnsInHanded_of_change (C := Try.checked) own started (by kernel_rfl) Try.func3
    (ChangeSpec.witness6 (enc := enc) (C := Try.checked) false ⟨#[], #[.slice none 0 0, .agg #[.int .i64 0, .int .i64 0, .string ⟨#[]⟩], .int .i64 0], []⟩ 8 (by kernel_rfl) (by kernel_rfl) (by kernel_rfl) (by kernel_rfl)) ?_
  intro W base args ds gs before hval0 hW _ _
  have hval : ∀ (j : Nat) t v, Try.f3.params[j]? = some t → args[j]? = some v → Value.okWide Try.prog W .any base t v := hval0
  have hW' := hW
  obtain ⟨p, q, hA0, hV, rfl, _, _⟩ := hW
  have hA : DataW.TrodAll enc Try.prog W 0 (fun _ => true) true Try.f3.params.toList args.toList ds p := hA0
  rw [Try.params3] at hA hval
  obtain ⟨v0, v1, v2, d0, d1, d2, p0, p1, p2, rfl, rfl, rfl, h0, h1, h2⟩ := trodAll_three hA
  obtain ⟨A, cap, l, rfl, hT, hcap, hn, hw⟩ := open_tree (hval 0 22 v0 rfl rfl) h0
  obtain ⟨p, rfl, _⟩ := open_pl (hval 1 24 v1 rfl rfl) h1
  obtain ⟨b, rfl, _⟩ := open_i64 (hval 2 3 v2 rfl rfl) h2
  have hc : Calls Try.prog 3 #[.slice A l.length cap, .agg #[.int .i64 p.n, .int .i64 p.u, .string p.s], .int .i64 b] W fun e w' => e = .returned (.bool true) ∧ Below W.heap.size W w' := by
    by_cases hbig : 100 < l.length
    · exact tells_no A cap l p b W (long_le hw) hT (Or.inl hbig)
    · by_cases hpb : 1000 < p.s.size
      · exact tells_no A cap l p b W (long_le hw) hT (Or.inr ⟨by omega, Or.inl hpb⟩)
      · cases ht : treeB l
        · exact tells_no A cap l p b W (long_le hw) hT (Or.inr ⟨by omega, Or.inr ⟨by omega, ht⟩⟩)
        · exact tells_walk A cap l p b W (by omega) (by omega) ht hT hcap hn
  refine hc.mono fun e W' ⟨he, hb⟩ => ?_
  subst he
  exact ⟨_, rfl, Frm.law_post (by kernel_rfl) (by kernel_rfl) (by kernel_rfl) Try.underlying4 rfl rfl hW' hb⟩

theorem tells_holds : Rows.TreeTellsSaid :=
  OpenClaim.holds_of_wide 3 Try.f3 rfl rfl rfl rfl rfl rfl rfl ⟨rfl, rfl, rfl, rfl, rfl⟩ rfl rfl rfl rfl rfl (by kernel_rfl) Try.func3 (by kernel_rfl)
    (of_decide_eq_true (by kernel_rfl)) (by unfold Func.isWrapper; first | (rw [if_pos (by decide +kernel)]; kernel_rfl) | (rw [if_neg (by decide +kernel)]; exact ⟨rfl, rfl⟩))
    (fun os started H enc _ => tells_lifted os started H enc)

end Go.Proofs.Ytfhonobaddkmhaa
