/- Texts laid one behind the other: Ec. -/
import Derived.Test.YtfpgfclmmdihjaaB07
import Derived.Deep.RegionHeld3
/- The document's Tally. -/
namespace Go.Proofs.Ytfpgfclmmdihjaa
open Go.RowKit Nam Cod

theorem cutC_next {l : List Cn} {d : Int} {k : Nat} (hk : k ≤ cutC l d) (h : k < l.length) (hd : l[k].d < d) : k + 1 ≤ cutC l d := by
  rcases Nat.lt_or_ge k (cutC l d) with h1 | h1
  · exact h1
  · obtain rfl : k = cutC l d := by omega
    have := cutC_ge l d h; omega
theorem cutC_here {l : List Cn} {d : Int} {k : Nat} (hk : k ≤ cutC l d) (h : k = l.length ∨ ∃ h : k < l.length, d ≤ l[k].d) : k = cutC l d := by
  rcases Nat.lt_or_ge k (cutC l d) with h1 | h1
  · exfalso
    have := cutC_le l d
    rcases h with h | ⟨h, h2⟩
    · omega
    · have := cutC_lt l d k h h1; omega
  · omega
theorem putC_yes {l : List Cn} {c : Cn} {k : Nat} {x : Int} (hk : k = cutC l c.d) (h : k < l.length) (hx : l[k].d = x) (he : x = c.d) : putC l c = (l.take k ++ [c]) ++ l.drop (k + 1) := by
  subst hk he
  have hh : hereC l c.d = 1 := by unfold hereC; rw [dif_pos h, if_pos hx]
  unfold putC
  rw [hh, List.append_assoc]; rfl
theorem putC_no {l : List Cn} {c : Cn} {k : Nat} (hk : k = cutC l c.d) (h : k = l.length ∨ ∃ (h : k < l.length), ¬ l[k].d = c.d) : putC l c = (l.take k ++ [c]) ++ l.drop k := by
  subst hk
  have hh : hereC l c.d = 0 := by
    unfold hereC
    rcases h with h | ⟨h, h2⟩
    · rw [dif_neg (by omega)]
    · rw [dif_pos h, if_neg h2]
  unfold putC
  rw [hh, List.append_assoc]; rfl
def CnS (n : Nat) (x : Cn) (w : World) : Prop := w.cell? ⟨n, 0, none⟩ = some (.int .i64 x.d) ∧ w.cell? ⟨n, 1, none⟩ = some (.int .i64 x.i) ∧ w.cell? ⟨n, 2, none⟩ = some (.int .i64 x.n)

set_option maxRecDepth 100000 in
set_option maxHeartbeats 2000000 in
theorem refTally_none (A : Option Addr) (cap : Nat) (l : List Cn) (e : En) (w : World) (hl : l.length ≤ 1000) (hT : SlV cnE w A cap l) (h1 : ¬ e.k = 1) (h3 : ¬ e.k = 3) :
    Calls Try.prog 20 #[.slice A l.length cap, .agg #[.int .i64 e.k, .int .i64 e.d, .int .i64 e.i, .int .i64 e.o.C, .int .i64 e.o.D, .int .i64 e.o.I, .int .i64 e.o.M, .int .i64 e.o.K, .int .i64 e.o.U, .string e.o.s]] w fun r w' => ∃ A' c', r = .returned (.slice A' l.length c') ∧ SlV cnE w' A' c' l ∧ Below w.heap.size w w' := by
  obtain ⟨hT, hz, hlc⟩ := hT
  have hE : enE.In (w.alloc (.cells #[.int .i64 e.k, .int .i64 e.d, .int .i64 e.i, .int .i64 e.o.C, .int .i64 e.o.D, .int .i64 e.o.I, .int .i64 e.o.M, .int .i64 e.o.K, .int .i64 e.o.U, .string e.o.s] 50)) w.heap.size e := El.In.new (E := enE) w e _ rfl
  have hB := below_alloc (Below.refl w.heap.size w) (.cells #[.int .i64 e.k, .int .i64 e.d, .int .i64 e.i, .int .i64 e.o.C, .int .i64 e.o.D, .int .i64 e.o.I, .int .i64 e.o.M, .int .i64 e.o.K, .int .i64 e.o.U, .string e.o.s] 50)
  obtain ⟨p0, p1, p2, p3, p4, p5, p6, p7, p8, p9⟩ := enIn10 hE
  have e1 : (e.k == 1) = false := beq_eq_false_iff_ne.2 h1
  have e3 : (e.k == 3) = false := beq_eq_false_iff_ne.2 h3
  have hB1 := below_alloc hB (.cells #[.int .i64 e.d, .int .i64 e.i, .int .i64 0] 69)
  have hB2 := below_alloc hB1 (.cells #[] 69)
  have hO := El.Own.empty (E := cnE) ((w.alloc (.cells #[.int .i64 e.k, .int .i64 e.d, .int .i64 e.i, .int .i64 e.o.C, .int .i64 e.o.D, .int .i64 e.o.I, .int .i64 e.o.M, .int .i64 e.o.K, .int .i64 e.o.U, .string e.o.s] 50)).alloc (.cells #[.int .i64 e.d, .int .i64 e.i, .int .i64 0] 69)) w.heap.size hB1.size
  rw [alloc_size, alloc_size] at hO
  have hT2 := hT.below hB2
  have hBs := hB2.size
  clear h1 h3 hT hE hB hB1
  go_enter Try.func20, Try.ntmps20
  go_wp2_with (first | (at_builtin; refine El.wpList_app cnInn rfl _ _ rfl w.heap.size _ [] l rfl hO A _ cap rfl rfl hT2 hz (by simp; omega) hBs ?_; intro v1 w2 hOw hg2 _) | fail)
  have hB3 := hB2.grown hg2 hB2.size hO.rows
  have hOw : cnE.Own w2 w.heap.size v1 l := hOw
  obtain ⟨A', c', rfl, hS⟩ := SlV.own hOw
  go_wp2_with fail
  go_ret
  exact ⟨A', c', rfl, hS, hB3⟩

set_option maxRecDepth 100000 in
set_option maxHeartbeats 2000000 in
theorem refTally_op (A : Option Addr) (cap : Nat) (l : List Cn) (e : En) (c : Cn) (w : World) (hl : l.length ≤ 1000) (hT : SlV cnE w A cap l) (h1 : e.k = 1) (hc : c = ⟨e.o.D, e.o.I, e.o.M⟩) :
    Calls Try.prog 20 #[.slice A l.length cap, .agg #[.int .i64 e.k, .int .i64 e.d, .int .i64 e.i, .int .i64 e.o.C, .int .i64 e.o.D, .int .i64 e.o.I, .int .i64 e.o.M, .int .i64 e.o.K, .int .i64 e.o.U, .string e.o.s]] w fun r w' => ∃ A' c', r = .returned (.slice A' (putC l c).length c') ∧ SlV cnE w' A' c' (putC l c) ∧ Below w.heap.size w w' := by
  obtain ⟨k, d, i, o⟩ := e
  dsimp only at h1 hc ⊢
  subst h1
  obtain ⟨hT, hz, hlc⟩ := hT
  have hB := below_alloc (below_alloc (Below.refl w.heap.size w) (.cells #[.int .i64 (⟨1, d, i, o⟩ : En).k, .int .i64 (⟨1, d, i, o⟩ : En).d, .int .i64 (⟨1, d, i, o⟩ : En).i, .int .i64 (⟨1, d, i, o⟩ : En).o.C, .int .i64 (⟨1, d, i, o⟩ : En).o.D, .int .i64 (⟨1, d, i, o⟩ : En).o.I, .int .i64 (⟨1, d, i, o⟩ : En).o.M, .int .i64 (⟨1, d, i, o⟩ : En).o.K, .int .i64 (⟨1, d, i, o⟩ : En).o.U, .string (⟨1, d, i, o⟩ : En).o.s] 50)) (.cells #[.int .i64 o.D, .int .i64 o.I, .int .i64 o.M] 69)
  have hP : cnE.In ((w.alloc (.cells #[.int .i64 (⟨1, d, i, o⟩ : En).k, .int .i64 (⟨1, d, i, o⟩ : En).d, .int .i64 (⟨1, d, i, o⟩ : En).i, .int .i64 (⟨1, d, i, o⟩ : En).o.C, .int .i64 (⟨1, d, i, o⟩ : En).o.D, .int .i64 (⟨1, d, i, o⟩ : En).o.I, .int .i64 (⟨1, d, i, o⟩ : En).o.M, .int .i64 (⟨1, d, i, o⟩ : En).o.K, .int .i64 (⟨1, d, i, o⟩ : En).o.U, .string (⟨1, d, i, o⟩ : En).o.s] 50)).alloc (.cells #[.int .i64 o.D, .int .i64 o.I, .int .i64 o.M] 69)) (w.alloc (.cells #[.int .i64 (⟨1, d, i, o⟩ : En).k, .int .i64 (⟨1, d, i, o⟩ : En).d, .int .i64 (⟨1, d, i, o⟩ : En).i, .int .i64 (⟨1, d, i, o⟩ : En).o.C, .int .i64 (⟨1, d, i, o⟩ : En).o.D, .int .i64 (⟨1, d, i, o⟩ : En).o.I, .int .i64 (⟨1, d, i, o⟩ : En).o.M, .int .i64 (⟨1, d, i, o⟩ : En).o.K, .int .i64 (⟨1, d, i, o⟩ : En).o.U, .string (⟨1, d, i, o⟩ : En).o.s] 50)).heap.size c := El.In.new (E := cnE) (w.alloc (.cells #[.int .i64 (⟨1, d, i, o⟩ : En).k, .int .i64 (⟨1, d, i, o⟩ : En).d, .int .i64 (⟨1, d, i, o⟩ : En).i, .int .i64 (⟨1, d, i, o⟩ : En).o.C, .int .i64 (⟨1, d, i, o⟩ : En).o.D, .int .i64 (⟨1, d, i, o⟩ : En).o.I, .int .i64 (⟨1, d, i, o⟩ : En).o.M, .int .i64 (⟨1, d, i, o⟩ : En).o.K, .int .i64 (⟨1, d, i, o⟩ : En).o.U, .string (⟨1, d, i, o⟩ : En).o.s] 50)) c #[.int .i64 o.D, .int .i64 o.I, .int .i64 o.M] (by rw [hc]; rfl)
  rw [alloc_size] at hP
  dsimp only at hP hB
  clear hc
  go_enter Try.func20, Try.ntmps20
  go_wp2_with fail
  generalize (w.alloc (.cells #[.int .i64 1, .int .i64 d, .int .i64 i, .int .i64 o.C, .int .i64 o.D, .int .i64 o.I, .int .i64 o.M, .int .i64 o.K, .int .i64 o.U, .string o.s] 50)).alloc (.cells #[.int .i64 o.D, .int .i64 o.I, .int .i64 o.M] 69) = W0 at *
  obtain ⟨nc, hnc⟩ : ∃ n, w.heap.size + 1 = n := ⟨_, rfl⟩
  rw [hnc] at hP ⊢
  have hwn : w.heap.size < nc := by omega
  clear hnc
  go_loopw [6] (fun y wr => ∃ k : Nat, k ≤ cutC l c.d ∧ y = .int .i64 k ∧ cnE.In wr nc c ∧ Below w.heap.size w wr) (fun y _ => l.length - (intOf y).toNat)
  case atStart => exact ⟨0, Nat.zero_le _, rfl, hP, hB⟩
  case round =>
    clear hP hB
    obtain ⟨k, hk, rfl, hP, hB⟩ := hrel
    obtain ⟨q0, q1, q2⟩ := cnIn3 hP
    by_cases hkl : k < l.length
    · obtain ⟨b, off, hA, hbw, hc⟩ := hT (by omega)
      have hat : cnE.At wr b (off + k * 3) l[k] := (hc k hkl).below hB hbw
      have hx : ∀ w, (Instr.indexAt 28 (.slice A l.length cap) (.int .i64 k)).run Try.prog w = .ok (.pointer (some ⟨b, off + k * 3, none⟩)) w := fun w => by
        subst hA
        have h2 : (k : Int) < (l.length : Int) := by omega
        go_simp
      obtain ⟨s0, s1, s2⟩ := cnAt3 hat
      by_cases hd : l[k].d < c.d
      · have HN := Lib.hid (cutC_next hk hkl hd)
        have f1 : decide (l[k].d < c.d) = true := decide_eq_true hd
        have hki : (k : Int) < (l.length : Int) := by omega
        clear hc hat hA
        generalize l[k].d = x0 at *
        go_wp2_with fail
        go_quiet (fail)
        go_wp2_with fail
        exact ⟨⟨k + 1, HN.out, by go_num, hP, below_drew hB nq⟩, by simp [intOf]; omega⟩
      · have HX := Lib.hid (cutC_here hk (Or.inr ⟨hkl, by omega⟩))
        have f1 : decide (l[k].d < c.d) = false := decide_eq_false hd
        have hki : (k : Int) < (l.length : Int) := by omega
        obtain ⟨A3, hA3⟩ : ∃ A3, (if cap = k then A else Option.map (fun x => x.add ((k) * 3)) A) = A3 := ⟨_, rfl⟩
        have hT3 := hT.drop hlc hA3
        have hz3 := El.drop_none hz hA3
        have g0 : (0 : Int) ≤ (k : Int) := by omega
        have g1 : (k : Int) ≤ (cap : Int) := by omega
        have g2 : (k : Int) ≤ (l.length : Int) := by omega
        have g3 : (k : Int) + 1 ≤ (cap : Int) + 1 := by omega
        clear hc hat
        generalize hx0 : l[k].d = x0 at *
        have HX0 := Lib.hid hx0
        clear hx0 hA
        go_wp2_with fail
        go_quiet (fail)
        clear f1 q0 q1 q2
        by_cases he : x0 = c.d
        · have HTO := Lib.hid (putC_yes HX.out hkl HX0.out he)
          have f1 : (x0 == c.d) = true := beq_iff_eq.2 he
          clear A3 hA3 hT3 hz3
          obtain ⟨A3, hA3⟩ : ∃ A3, (if cap = k + 1 then A else Option.map (fun x => x.add ((k + 1) * 3)) A) = A3 := ⟨_, rfl⟩
          have hT3 := hT.drop hlc hA3
          have hz3 := El.drop_none hz hA3
          have g0 : (0 : Int) ≤ (k : Int) := by omega
          have g1 : (k : Int) ≤ (cap : Int) := by omega
          have g2 : (k : Int) ≤ (l.length : Int) := by omega
          have g3 : (k : Int) + 1 ≤ (cap : Int) + 1 := by omega
          have hB1 := below_drew hB nq
          have hP1 : cnE.In (wr.drewN nq) nc c := hP
          have s01 : (wr.drewN nq).cell? ⟨b, off + k * 3, none⟩ = some (.int .i64 x0) := s0
          clear hB hP s0 s1 s2 he
          go_wp2_with fail
          generalize wr.drewN nq = V1 at *
          obtain ⟨q0, q1, q2⟩ := cnIn3 hP1
          go_quiet (fail)
          clear s01 q0 q1 q2 f1
          have hB := below_drew hB1 nq
          have hP : cnE.In (V1.drewN nq) nc c := hP1
          clear hB1 hP1
          go_wp2_with fail
          generalize V1.drewN nq = V at *
          clear hA3
          have HE1 := Lib.hid (show (l.take k).length = k by rw [List.length_take]; omega)
          have HE3 := Lib.hid (show (l.drop (k + 1)).length = l.length - (k + 1) by simp only [List.length_drop]; try omega)
          have htk := (hT.take k).below hB
          have ht3 := hT3.below hB
          generalize l.take k = L1 at *
          generalize l.drop (k + 1) = L3 at *
          obtain ⟨B, hBe⟩ : ∃ B, V.heap.size = B := ⟨_, rfl⟩
          have hBV : B ≤ V.drew.heap.size := Nat.le_of_eq hBe.symm
          have kV : cnE.SlB B V.drew A L1 := El.SlB.of htk (Nat.le_of_eq hBe)
          have tV : cnE.SlB B V.drew A3 L3 := El.SlB.of ht3 (Nat.le_of_eq hBe)
          have hwB : w.heap.size ≤ B := by have := hB.size; omega
          have hnB : nc < B := by have := hP.lt; omega
          replace hP : cnE.In V.drew nc c := hP
          replace hB := hB.drew
          clear htk ht3 hBe hT hT3
          refine region_anyG (S := CnS nc c) 10 (by kernel_rfl) ?_
          generalize V.drew = U at *
          have hS : CnS nc c U := cnIn3 hP
          refine anyG_take (i := 1) (v := .slice A l.length cap) rfl (by kernel_rfl) (by kernel_rfl) (by kernel_rfl) (by kernel_rfl) (by kernel_rfl) (fun _ _ _ h => h) (Or.inl ⟨by rfl, fun w' hSw => by (obtain ⟨s0, s1, s2⟩ := hSw; go_simp)⟩) hS ?_
          try simp only [Act.put, List.setIfInBounds_toArray, List.set_cons_zero, List.set_cons_succ]
          refine anyG_take (i := 2) (v := .int .i64 k) rfl (by kernel_rfl) (by kernel_rfl) (by kernel_rfl) (by kernel_rfl) (by kernel_rfl) (fun _ _ _ h => h) (Or.inl ⟨by rfl, fun w' hSw => by (obtain ⟨s0, s1, s2⟩ := hSw; go_simp)⟩) hS ?_
          try simp only [Act.put, List.setIfInBounds_toArray, List.set_cons_zero, List.set_cons_succ]
          refine anyG_take (i := 3) (v := .slice A k cap) rfl (by kernel_rfl) (by kernel_rfl) (by kernel_rfl) (by kernel_rfl) (by kernel_rfl) (fun _ _ _ h => h) (Or.inl ⟨by rfl, fun w' hSw => by (obtain ⟨s0, s1, s2⟩ := hSw; go_simp)⟩) hS ?_
          try simp only [Act.put, List.setIfInBounds_toArray, List.set_cons_zero, List.set_cons_succ]
          refine anyG_take (i := 5) (v := .agg #[.int .i64 c.d, .int .i64 c.i, .int .i64 c.n]) rfl (by kernel_rfl) (by kernel_rfl) (by kernel_rfl) (by kernel_rfl) (by kernel_rfl) (fun _ _ _ h => h) (Or.inl ⟨by rfl, fun w' hSw => by (obtain ⟨s0, s1, s2⟩ := hSw; go_simp)⟩) hS ?_
          try simp only [Act.put, List.setIfInBounds_toArray, List.set_cons_zero, List.set_cons_succ]
          refine anyG_take (i := 8) (v := .slice A3 (l.length - (k + 1)) (cap - (k + 1))) rfl (by kernel_rfl) (by kernel_rfl) (by kernel_rfl) (by kernel_rfl) (by kernel_rfl) (fun _ _ _ h => h) (Or.inl ⟨by rfl, fun w' hSw => by (obtain ⟨s0, s1, s2⟩ := hSw; go_simp)⟩) hS ?_
          try simp only [Act.put, List.setIfInBounds_toArray, List.set_cons_zero, List.set_cons_succ]
          refine anyG_step (rs := [0, 6]) (by kernel_rfl) (by simp) ?_
          refine AllG.cons rfl (fun K hK => ?_) (AllG.cons rfl (fun K hK => ?_) AllG.nil)
          · skip
            have hal := below_alloc (Below.refl (U).heap.size U) (.cells #[] 69)
            have hg := World.grownBy_alloc U (.cells #[] 69) none
            have hO0 : cnE.Own ((U).alloc (.cells #[] 69)) B (.slice (some ⟨(U).heap.size, 0, none⟩) 0 0) [] := El.Own.empty (E := cnE) U B hBV
            replace hP := hP.below hal
            replace kV := kV.keep hg (fun k e => by cases e)
            replace tV := tV.keep hg (fun k e => by cases e)
            replace hB := hB.trans (hal.mono hB.size)
            replace hBV := Nat.le_trans hBV hal.size
            try replace he := he.below hal
            try have hn60 := Nat.ne_of_lt hn6
            clear hg
            try clear hS
            go_simp
            refine hK.out _ _ (cnIn3 hP : CnS nc c _) ?_
            try simp only [Act.put, List.setIfInBounds_toArray, List.set_cons_zero, List.set_cons_succ]
            clear hK
            clear hal
            generalize (U).alloc (.cells #[] 69) = U1 at *
            generalize (U).heap.size = n0 at *
            refine anyG_step (rs := [4, 6]) (by kernel_rfl) (by simp) ?_
            refine AllG.cons rfl (fun K hK => ?_) (AllG.cons rfl (fun K hK => ?_) AllG.nil)
            · skip
              refine El.step_app cnInn rfl (.tmp 70) (.tmp 73) rfl B _ [] L1 rfl hO0 A k cap rfl HE1.out (kV.sl hBV) hz (by have := HE1.out; simp; omega) hBV ?_
              intro v1 W4 hO1 hg4 _
              have hr := hO0.rows
              replace hO1 : cnE.Own W4 B v1 L1 := hO1
              replace hP := hP.keep hg4 (fun e => by have := hr nc e.symm; omega)
              replace tV := tV.keep hg4 hr
              replace hB := hB.grown hg4 hB.size (fun k e => by have := hr k e; omega)
              replace hBV := Nat.le_trans hBV hg4.size
              try replace he := he.keep1 hg4 (fun e => hn60 (Option.some.inj e))
              clear hr hO0 kV hg4
              refine hK.out _ _ (cnIn3 hP : CnS nc c _) ?_
              try simp only [Act.put, List.setIfInBounds_toArray, List.set_cons_zero, List.set_cons_succ]
              clear hK
              refine anyG_step (rs := [6]) (by kernel_rfl) (by simp) ?_
              refine AllG.cons rfl (fun K hK => ?_) AllG.nil
              have hal := below_alloc (Below.refl (W4).heap.size W4) (.cells #[.int .i64 c.d, .int .i64 c.i, .int .i64 c.n] 69)
              have hg := World.grownBy_alloc W4 (.cells #[.int .i64 c.d, .int .i64 c.i, .int .i64 c.n] 69) none
              have he : cnE.Sl ((W4).alloc (.cells #[.int .i64 c.d, .int .i64 c.i, .int .i64 c.n] 69)) (some ⟨(W4).heap.size, 0, none⟩) [c] := (El.In.new (E := cnE) W4 c _ rfl).sl
              have hn6 : (W4).heap.size < ((W4).alloc (.cells #[.int .i64 c.d, .int .i64 c.i, .int .i64 c.n] 69)).heap.size := by rw [alloc_size]; omega
              try have hn60 : (W4).heap.size ≠ n0 := by have := (hO0.lt n0 rfl).2; omega
              replace hP := hP.below hal
              try replace kV := kV.keep hg (fun k e => by cases e)
              replace tV := tV.keep hg (fun k e => by cases e)
              replace hB := hB.trans (hal.mono hB.size)
              replace hBV := Nat.le_trans hBV hal.size
              try replace hO0 := hO0.below hal
              try replace hO1 := hO1.below hal
              clear hg
              try clear hS
              go_simp
              refine hK.out _ _ (cnIn3 hP : CnS nc c _) ?_
              try simp only [Act.put, List.setIfInBounds_toArray, List.set_cons_zero, List.set_cons_succ]
              clear hK
              clear hal
              generalize (W4).alloc (.cells #[.int .i64 c.d, .int .i64 c.i, .int .i64 c.n] 69) = U2 at *
              generalize (W4).heap.size = n6 at *
              refine anyG_step (rs := [7]) (by kernel_rfl) (by simp) ?_
              refine AllG.cons rfl (fun K hK => ?_) AllG.nil
              refine El.step_app cnInn rfl (.tmp 74) (.tmp 76) rfl B v1 L1 [c] rfl hO1 (some ⟨n6, 0, none⟩) 1 1 rfl rfl he (fun e => by cases e) (by have := HE1.out; rw [List.length_singleton]; omega) hBV ?_
              intro v2 W7 hO2 hg7 _
              have hr7 := hO1.rows
              replace hP := hP.keep hg7 (fun e => by have := hr7 nc e.symm; omega)
              replace tV := tV.keep hg7 hr7
              replace hB := hB.grown hg7 hB.size (fun k e => by have := hr7 k e; omega)
              replace hBV := Nat.le_trans hBV hg7.size
              clear hr7 hO1 hg7 he
              refine hK.out _ _ (cnIn3 hP : CnS nc c _) ?_
              try simp only [Act.put, List.setIfInBounds_toArray, List.set_cons_zero, List.set_cons_succ]
              clear hK
              refine anyG_step (rs := [9]) (by kernel_rfl) (by simp) ?_
              refine AllG.cons rfl (fun K hK => ?_) AllG.nil
              refine El.step_app cnInn rfl (.tmp 77) (.tmp 78) rfl B v2 (L1 ++ [c]) L3 rfl hO2 A3 (l.length - (k + 1)) (cap - (k + 1)) rfl HE3.out (tV.sl hBV) hz3 (by have := HE1.out; have := HE3.out; rw [List.length_append, List.length_singleton]; omega) hBV ?_
              intro v3 W9 hO3 hg9 _
              have hr9 := hO2.rows
              replace hP := hP.keep hg9 (fun e => by have := hr9 nc e.symm; omega)
              replace hB := hB.grown hg9 hB.size (fun k e => by have := hr9 k e; omega)
              clear hr9 hO2 hg9 tV
              refine hK.out _ _ (cnIn3 hP : CnS nc c _) ?_
              try simp only [Act.put, List.setIfInBounds_toArray, List.set_cons_zero, List.set_cons_succ]
              clear hK
              refine anyG_step (rs := [10]) (by kernel_rfl) (by simp) ?_
              refine AllG.last (n := 10) rfl (fun K hK => ?_)
              go_simp
              refine hK.out _ _ ?_
              try simp only [Act.put, List.setIfInBounds_toArray, List.set_cons_zero, List.set_cons_succ]
              clear hK
              refine anyG_done (by kernel_rfl) ?_ _
              rw [← HTO.out] at hO3
              obtain ⟨A', c', rfl, hS'⟩ := SlV.own hO3
              clear hO3
              go_wp2_with fail
              go_ret
              exact ⟨A', c', rfl, hS', hB⟩
            · skip
              have hal := below_alloc (Below.refl (U1).heap.size U1) (.cells #[.int .i64 c.d, .int .i64 c.i, .int .i64 c.n] 69)
              have hg := World.grownBy_alloc U1 (.cells #[.int .i64 c.d, .int .i64 c.i, .int .i64 c.n] 69) none
              have he : cnE.Sl ((U1).alloc (.cells #[.int .i64 c.d, .int .i64 c.i, .int .i64 c.n] 69)) (some ⟨(U1).heap.size, 0, none⟩) [c] := (El.In.new (E := cnE) U1 c _ rfl).sl
              have hn6 : (U1).heap.size < ((U1).alloc (.cells #[.int .i64 c.d, .int .i64 c.i, .int .i64 c.n] 69)).heap.size := by rw [alloc_size]; omega
              try have hn60 : (U1).heap.size ≠ n0 := by have := (hO0.lt n0 rfl).2; omega
              replace hP := hP.below hal
              try replace kV := kV.keep hg (fun k e => by cases e)
              replace tV := tV.keep hg (fun k e => by cases e)
              replace hB := hB.trans (hal.mono hB.size)
              replace hBV := Nat.le_trans hBV hal.size
              try replace hO0 := hO0.below hal
              try replace hO1 := hO1.below hal
              clear hg
              try clear hS
              go_simp
              refine hK.out _ _ (cnIn3 hP : CnS nc c _) ?_
              try simp only [Act.put, List.setIfInBounds_toArray, List.set_cons_zero, List.set_cons_succ]
              clear hK
              clear hal
              generalize (U1).alloc (.cells #[.int .i64 c.d, .int .i64 c.i, .int .i64 c.n] 69) = U2 at *
              generalize (U1).heap.size = n6 at *
              refine anyG_step (rs := [4]) (by kernel_rfl) (by simp) ?_
              refine AllG.cons rfl (fun K hK => ?_) AllG.nil
              refine El.step_app cnInn rfl (.tmp 70) (.tmp 73) rfl B _ [] L1 rfl hO0 A k cap rfl HE1.out (kV.sl hBV) hz (by have := HE1.out; simp; omega) hBV ?_
              intro v1 W4 hO1 hg4 _
              have hr := hO0.rows
              replace hO1 : cnE.Own W4 B v1 L1 := hO1
              replace hP := hP.keep hg4 (fun e => by have := hr nc e.symm; omega)
              replace tV := tV.keep hg4 hr
              replace hB := hB.grown hg4 hB.size (fun k e => by have := hr k e; omega)
              replace hBV := Nat.le_trans hBV hg4.size
              try replace he := he.keep1 hg4 (fun e => hn60 (Option.some.inj e))
              clear hr hO0 kV hg4
              refine hK.out _ _ (cnIn3 hP : CnS nc c _) ?_
              try simp only [Act.put, List.setIfInBounds_toArray, List.set_cons_zero, List.set_cons_succ]
              clear hK
              refine anyG_step (rs := [7]) (by kernel_rfl) (by simp) ?_
              refine AllG.cons rfl (fun K hK => ?_) AllG.nil
              refine El.step_app cnInn rfl (.tmp 74) (.tmp 76) rfl B v1 L1 [c] rfl hO1 (some ⟨n6, 0, none⟩) 1 1 rfl rfl he (fun e => by cases e) (by have := HE1.out; rw [List.length_singleton]; omega) hBV ?_
              intro v2 W7 hO2 hg7 _
              have hr7 := hO1.rows
              replace hP := hP.keep hg7 (fun e => by have := hr7 nc e.symm; omega)
              replace tV := tV.keep hg7 hr7
              replace hB := hB.grown hg7 hB.size (fun k e => by have := hr7 k e; omega)
              replace hBV := Nat.le_trans hBV hg7.size
              clear hr7 hO1 hg7 he
              refine hK.out _ _ (cnIn3 hP : CnS nc c _) ?_
              try simp only [Act.put, List.setIfInBounds_toArray, List.set_cons_zero, List.set_cons_succ]
              clear hK
              refine anyG_step (rs := [9]) (by kernel_rfl) (by simp) ?_
              refine AllG.cons rfl (fun K hK => ?_) AllG.nil
              refine El.step_app cnInn rfl (.tmp 77) (.tmp 78) rfl B v2 (L1 ++ [c]) L3 rfl hO2 A3 (l.length - (k + 1)) (cap - (k + 1)) rfl HE3.out (tV.sl hBV) hz3 (by have := HE1.out; have := HE3.out; rw [List.length_append, List.length_singleton]; omega) hBV ?_
              intro v3 W9 hO3 hg9 _
              have hr9 := hO2.rows
              replace hP := hP.keep hg9 (fun e => by have := hr9 nc e.symm; omega)
              replace hB := hB.grown hg9 hB.size (fun k e => by have := hr9 k e; omega)
              clear hr9 hO2 hg9 tV
              refine hK.out _ _ (cnIn3 hP : CnS nc c _) ?_
              try simp only [Act.put, List.setIfInBounds_toArray, List.set_cons_zero, List.set_cons_succ]
              clear hK
              refine anyG_step (rs := [10]) (by kernel_rfl) (by simp) ?_
              refine AllG.last (n := 10) rfl (fun K hK => ?_)
              go_simp
              refine hK.out _ _ ?_
              try simp only [Act.put, List.setIfInBounds_toArray, List.set_cons_zero, List.set_cons_succ]
              clear hK
              refine anyG_done (by kernel_rfl) ?_ _
              rw [← HTO.out] at hO3
              obtain ⟨A', c', rfl, hS'⟩ := SlV.own hO3
              clear hO3
              go_wp2_with fail
              go_ret
              exact ⟨A', c', rfl, hS', hB⟩
          · skip
            have hal := below_alloc (Below.refl (U).heap.size U) (.cells #[.int .i64 c.d, .int .i64 c.i, .int .i64 c.n] 69)
            have hg := World.grownBy_alloc U (.cells #[.int .i64 c.d, .int .i64 c.i, .int .i64 c.n] 69) none
            have he : cnE.Sl ((U).alloc (.cells #[.int .i64 c.d, .int .i64 c.i, .int .i64 c.n] 69)) (some ⟨(U).heap.size, 0, none⟩) [c] := (El.In.new (E := cnE) U c _ rfl).sl
            have hn6 : (U).heap.size < ((U).alloc (.cells #[.int .i64 c.d, .int .i64 c.i, .int .i64 c.n] 69)).heap.size := by rw [alloc_size]; omega
            try have hn60 : (U).heap.size ≠ n0 := by have := (hO0.lt n0 rfl).2; omega
            replace hP := hP.below hal
            try replace kV := kV.keep hg (fun k e => by cases e)
            replace tV := tV.keep hg (fun k e => by cases e)
            replace hB := hB.trans (hal.mono hB.size)
            replace hBV := Nat.le_trans hBV hal.size
            try replace hO0 := hO0.below hal
            try replace hO1 := hO1.below hal
            clear hg
            try clear hS
            go_simp
            refine hK.out _ _ (cnIn3 hP : CnS nc c _) ?_
            try simp only [Act.put, List.setIfInBounds_toArray, List.set_cons_zero, List.set_cons_succ]
            clear hK
            clear hal
            generalize (U).alloc (.cells #[.int .i64 c.d, .int .i64 c.i, .int .i64 c.n] 69) = U2 at *
            generalize (U).heap.size = n6 at *
            refine anyG_step (rs := [0]) (by kernel_rfl) (by simp) ?_
            refine AllG.cons rfl (fun K hK => ?_) AllG.nil
            have hal := below_alloc (Below.refl (U2).heap.size U2) (.cells #[] 69)
            have hg := World.grownBy_alloc U2 (.cells #[] 69) none
            have hO0 : cnE.Own ((U2).alloc (.cells #[] 69)) B (.slice (some ⟨(U2).heap.size, 0, none⟩) 0 0) [] := El.Own.empty (E := cnE) U2 B hBV
            replace hP := hP.below hal
            replace kV := kV.keep hg (fun k e => by cases e)
            replace tV := tV.keep hg (fun k e => by cases e)
            replace hB := hB.trans (hal.mono hB.size)
            replace hBV := Nat.le_trans hBV hal.size
            try replace he := he.below hal
            try have hn60 := Nat.ne_of_lt hn6
            clear hg
            try clear hS
            go_simp
            refine hK.out _ _ (cnIn3 hP : CnS nc c _) ?_
            try simp only [Act.put, List.setIfInBounds_toArray, List.set_cons_zero, List.set_cons_succ]
            clear hK
            clear hal
            generalize (U2).alloc (.cells #[] 69) = U1 at *
            generalize (U2).heap.size = n0 at *
            refine anyG_step (rs := [4]) (by kernel_rfl) (by simp) ?_
            refine AllG.cons rfl (fun K hK => ?_) AllG.nil
            refine El.step_app cnInn rfl (.tmp 70) (.tmp 73) rfl B _ [] L1 rfl hO0 A k cap rfl HE1.out (kV.sl hBV) hz (by have := HE1.out; simp; omega) hBV ?_
            intro v1 W4 hO1 hg4 _
            have hr := hO0.rows
            replace hO1 : cnE.Own W4 B v1 L1 := hO1
            replace hP := hP.keep hg4 (fun e => by have := hr nc e.symm; omega)
            replace tV := tV.keep hg4 hr
            replace hB := hB.grown hg4 hB.size (fun k e => by have := hr k e; omega)
            replace hBV := Nat.le_trans hBV hg4.size
            try replace he := he.keep1 hg4 (fun e => hn60 (Option.some.inj e))
            clear hr hO0 kV hg4
            refine hK.out _ _ (cnIn3 hP : CnS nc c _) ?_
            try simp only [Act.put, List.setIfInBounds_toArray, List.set_cons_zero, List.set_cons_succ]
            clear hK
            refine anyG_step (rs := [7]) (by kernel_rfl) (by simp) ?_
            refine AllG.cons rfl (fun K hK => ?_) AllG.nil
            refine El.step_app cnInn rfl (.tmp 74) (.tmp 76) rfl B v1 L1 [c] rfl hO1 (some ⟨n6, 0, none⟩) 1 1 rfl rfl he (fun e => by cases e) (by have := HE1.out; rw [List.length_singleton]; omega) hBV ?_
            intro v2 W7 hO2 hg7 _
            have hr7 := hO1.rows
            replace hP := hP.keep hg7 (fun e => by have := hr7 nc e.symm; omega)
            replace tV := tV.keep hg7 hr7
            replace hB := hB.grown hg7 hB.size (fun k e => by have := hr7 k e; omega)
            replace hBV := Nat.le_trans hBV hg7.size
            clear hr7 hO1 hg7 he
            refine hK.out _ _ (cnIn3 hP : CnS nc c _) ?_
            try simp only [Act.put, List.setIfInBounds_toArray, List.set_cons_zero, List.set_cons_succ]
            clear hK
            refine anyG_step (rs := [9]) (by kernel_rfl) (by simp) ?_
            refine AllG.cons rfl (fun K hK => ?_) AllG.nil
            refine El.step_app cnInn rfl (.tmp 77) (.tmp 78) rfl B v2 (L1 ++ [c]) L3 rfl hO2 A3 (l.length - (k + 1)) (cap - (k + 1)) rfl HE3.out (tV.sl hBV) hz3 (by have := HE1.out; have := HE3.out; rw [List.length_append, List.length_singleton]; omega) hBV ?_
            intro v3 W9 hO3 hg9 _
            have hr9 := hO2.rows
            replace hP := hP.keep hg9 (fun e => by have := hr9 nc e.symm; omega)
            replace hB := hB.grown hg9 hB.size (fun k e => by have := hr9 k e; omega)
            clear hr9 hO2 hg9 tV
            refine hK.out _ _ (cnIn3 hP : CnS nc c _) ?_
            try simp only [Act.put, List.setIfInBounds_toArray, List.set_cons_zero, List.set_cons_succ]
            clear hK
            refine anyG_step (rs := [10]) (by kernel_rfl) (by simp) ?_
            refine AllG.last (n := 10) rfl (fun K hK => ?_)
            go_simp
            refine hK.out _ _ ?_
            try simp only [Act.put, List.setIfInBounds_toArray, List.set_cons_zero, List.set_cons_succ]
            clear hK
            refine anyG_done (by kernel_rfl) ?_ _
            rw [← HTO.out] at hO3
            obtain ⟨A', c', rfl, hS'⟩ := SlV.own hO3
            clear hO3
            go_wp2_with fail
            go_ret
            exact ⟨A', c', rfl, hS', hB⟩
        · have HTO := Lib.hid (putC_no HX.out (Or.inr ⟨hkl, by rw [HX0.out]; exact he⟩))
          have f1 : (x0 == c.d) = false := beq_eq_false_iff_ne.2 he
          have hA4 : Option.map (fun x => x.add (k * 3)) A = A3 := by
            rw [← hA3, if_neg (by omega)]
          have hB1 := below_drew hB nq
          have hP1 : cnE.In (wr.drewN nq) nc c := hP
          have s01 : (wr.drewN nq).cell? ⟨b, off + k * 3, none⟩ = some (.int .i64 x0) := s0
          clear hB hP s0 s1 s2 he
          go_wp2_with fail
          generalize wr.drewN nq = V1 at *
          obtain ⟨q0, q1, q2⟩ := cnIn3 hP1
          go_quiet (fail)
          clear s01 q0 q1 q2 f1
          have hB := below_drew hB1 nq
          have hP : cnE.In (V1.drewN nq) nc c := hP1
          clear hB1 hP1
          go_wp2_with fail
          generalize V1.drewN nq = V at *
          try rw [hA4]
          clear hA3 hA4
          have HE1 := Lib.hid (show (l.take k).length = k by rw [List.length_take]; omega)
          have HE3 := Lib.hid (show (l.drop (k)).length = l.length - k by simp only [List.length_drop]; try omega)
          have htk := (hT.take k).below hB
          have ht3 := hT3.below hB
          generalize l.take k = L1 at *
          generalize l.drop (k) = L3 at *
          obtain ⟨B, hBe⟩ : ∃ B, V.heap.size = B := ⟨_, rfl⟩
          have hBV : B ≤ V.drew.heap.size := Nat.le_of_eq hBe.symm
          have kV : cnE.SlB B V.drew A L1 := El.SlB.of htk (Nat.le_of_eq hBe)
          have tV : cnE.SlB B V.drew A3 L3 := El.SlB.of ht3 (Nat.le_of_eq hBe)
          have hwB : w.heap.size ≤ B := by have := hB.size; omega
          have hnB : nc < B := by have := hP.lt; omega
          replace hP : cnE.In V.drew nc c := hP
          replace hB := hB.drew
          clear htk ht3 hBe hT hT3
          refine region_anyG (S := CnS nc c) 10 (by kernel_rfl) ?_
          generalize V.drew = U at *
          have hS : CnS nc c U := cnIn3 hP
          refine anyG_take (i := 1) (v := .slice A l.length cap) rfl (by kernel_rfl) (by kernel_rfl) (by kernel_rfl) (by kernel_rfl) (by kernel_rfl) (fun _ _ _ h => h) (Or.inl ⟨by rfl, fun w' hSw => by (obtain ⟨s0, s1, s2⟩ := hSw; go_simp)⟩) hS ?_
          try simp only [Act.put, List.setIfInBounds_toArray, List.set_cons_zero, List.set_cons_succ]
          refine anyG_take (i := 2) (v := .int .i64 k) rfl (by kernel_rfl) (by kernel_rfl) (by kernel_rfl) (by kernel_rfl) (by kernel_rfl) (fun _ _ _ h => h) (Or.inl ⟨by rfl, fun w' hSw => by (obtain ⟨s0, s1, s2⟩ := hSw; go_simp)⟩) hS ?_
          try simp only [Act.put, List.setIfInBounds_toArray, List.set_cons_zero, List.set_cons_succ]
          refine anyG_take (i := 3) (v := .slice A k cap) rfl (by kernel_rfl) (by kernel_rfl) (by kernel_rfl) (by kernel_rfl) (by kernel_rfl) (fun _ _ _ h => h) (Or.inl ⟨by rfl, fun w' hSw => by (obtain ⟨s0, s1, s2⟩ := hSw; go_simp)⟩) hS ?_
          try simp only [Act.put, List.setIfInBounds_toArray, List.set_cons_zero, List.set_cons_succ]
          refine anyG_take (i := 5) (v := .agg #[.int .i64 c.d, .int .i64 c.i, .int .i64 c.n]) rfl (by kernel_rfl) (by kernel_rfl) (by kernel_rfl) (by kernel_rfl) (by kernel_rfl) (fun _ _ _ h => h) (Or.inl ⟨by rfl, fun w' hSw => by (obtain ⟨s0, s1, s2⟩ := hSw; go_simp)⟩) hS ?_
          try simp only [Act.put, List.setIfInBounds_toArray, List.set_cons_zero, List.set_cons_succ]
          refine anyG_take (i := 8) (v := .slice A3 (l.length - k) (cap - k)) rfl (by kernel_rfl) (by kernel_rfl) (by kernel_rfl) (by kernel_rfl) (by kernel_rfl) (fun _ _ _ h => h) (Or.inl ⟨by rfl, fun w' hSw => by (obtain ⟨s0, s1, s2⟩ := hSw; go_simp)⟩) hS ?_
          try simp only [Act.put, List.setIfInBounds_toArray, List.set_cons_zero, List.set_cons_succ]
          refine anyG_step (rs := [0, 6]) (by kernel_rfl) (by simp) ?_
          refine AllG.cons rfl (fun K hK => ?_) (AllG.cons rfl (fun K hK => ?_) AllG.nil)
          · skip
            have hal := below_alloc (Below.refl (U).heap.size U) (.cells #[] 69)
            have hg := World.grownBy_alloc U (.cells #[] 69) none
            have hO0 : cnE.Own ((U).alloc (.cells #[] 69)) B (.slice (some ⟨(U).heap.size, 0, none⟩) 0 0) [] := El.Own.empty (E := cnE) U B hBV
            replace hP := hP.below hal
            replace kV := kV.keep hg (fun k e => by cases e)
            replace tV := tV.keep hg (fun k e => by cases e)
            replace hB := hB.trans (hal.mono hB.size)
            replace hBV := Nat.le_trans hBV hal.size
            try replace he := he.below hal
            try have hn60 := Nat.ne_of_lt hn6
            clear hg
            try clear hS
            go_simp
            refine hK.out _ _ (cnIn3 hP : CnS nc c _) ?_
            try simp only [Act.put, List.setIfInBounds_toArray, List.set_cons_zero, List.set_cons_succ]
            clear hK
            clear hal
            generalize (U).alloc (.cells #[] 69) = U1 at *
            generalize (U).heap.size = n0 at *
            refine anyG_step (rs := [4, 6]) (by kernel_rfl) (by simp) ?_
            refine AllG.cons rfl (fun K hK => ?_) (AllG.cons rfl (fun K hK => ?_) AllG.nil)
            · skip
              refine El.step_app cnInn rfl (.tmp 70) (.tmp 73) rfl B _ [] L1 rfl hO0 A k cap rfl HE1.out (kV.sl hBV) hz (by have := HE1.out; simp; omega) hBV ?_
              intro v1 W4 hO1 hg4 _
              have hr := hO0.rows
              replace hO1 : cnE.Own W4 B v1 L1 := hO1
              replace hP := hP.keep hg4 (fun e => by have := hr nc e.symm; omega)
              replace tV := tV.keep hg4 hr
              replace hB := hB.grown hg4 hB.size (fun k e => by have := hr k e; omega)
              replace hBV := Nat.le_trans hBV hg4.size
              try replace he := he.keep1 hg4 (fun e => hn60 (Option.some.inj e))
              clear hr hO0 kV hg4
              refine hK.out _ _ (cnIn3 hP : CnS nc c _) ?_
              try simp only [Act.put, List.setIfInBounds_toArray, List.set_cons_zero, List.set_cons_succ]
              clear hK
              refine anyG_step (rs := [6]) (by kernel_rfl) (by simp) ?_
              refine AllG.cons rfl (fun K hK => ?_) AllG.nil
              have hal := below_alloc (Below.refl (W4).heap.size W4) (.cells #[.int .i64 c.d, .int .i64 c.i, .int .i64 c.n] 69)
              have hg := World.grownBy_alloc W4 (.cells #[.int .i64 c.d, .int .i64 c.i, .int .i64 c.n] 69) none
              have he : cnE.Sl ((W4).alloc (.cells #[.int .i64 c.d, .int .i64 c.i, .int .i64 c.n] 69)) (some ⟨(W4).heap.size, 0, none⟩) [c] := (El.In.new (E := cnE) W4 c _ rfl).sl
              have hn6 : (W4).heap.size < ((W4).alloc (.cells #[.int .i64 c.d, .int .i64 c.i, .int .i64 c.n] 69)).heap.size := by rw [alloc_size]; omega
              try have hn60 : (W4).heap.size ≠ n0 := by have := (hO0.lt n0 rfl).2; omega
              replace hP := hP.below hal
              try replace kV := kV.keep hg (fun k e => by cases e)
              replace tV := tV.keep hg (fun k e => by cases e)
              replace hB := hB.trans (hal.mono hB.size)
              replace hBV := Nat.le_trans hBV hal.size
              try replace hO0 := hO0.below hal
              try replace hO1 := hO1.below hal
              clear hg
              try clear hS
              go_simp
              refine hK.out _ _ (cnIn3 hP : CnS nc c _) ?_
              try simp only [Act.put, List.setIfInBounds_toArray, List.set_cons_zero, List.set_cons_succ]
              clear hK
              clear hal
              generalize (W4).alloc (.cells #[.int .i64 c.d, .int .i64 c.i, .int .i64 c.n] 69) = U2 at *
              generalize (W4).heap.size = n6 at *
              refine anyG_step (rs := [7]) (by kernel_rfl) (by simp) ?_
              refine AllG.cons rfl (fun K hK => ?_) AllG.nil
              refine El.step_app cnInn rfl (.tmp 74) (.tmp 76) rfl B v1 L1 [c] rfl hO1 (some ⟨n6, 0, none⟩) 1 1 rfl rfl he (fun e => by cases e) (by have := HE1.out; rw [List.length_singleton]; omega) hBV ?_
              intro v2 W7 hO2 hg7 _
              have hr7 := hO1.rows
              replace hP := hP.keep hg7 (fun e => by have := hr7 nc e.symm; omega)
              replace tV := tV.keep hg7 hr7
              replace hB := hB.grown hg7 hB.size (fun k e => by have := hr7 k e; omega)
              replace hBV := Nat.le_trans hBV hg7.size
              clear hr7 hO1 hg7 he
              refine hK.out _ _ (cnIn3 hP : CnS nc c _) ?_
              try simp only [Act.put, List.setIfInBounds_toArray, List.set_cons_zero, List.set_cons_succ]
              clear hK
              refine anyG_step (rs := [9]) (by kernel_rfl) (by simp) ?_
              refine AllG.cons rfl (fun K hK => ?_) AllG.nil
              refine El.step_app cnInn rfl (.tmp 77) (.tmp 78) rfl B v2 (L1 ++ [c]) L3 rfl hO2 A3 (l.length - k) (cap - k) rfl HE3.out (tV.sl hBV) hz3 (by have := HE1.out; have := HE3.out; rw [List.length_append, List.length_singleton]; omega) hBV ?_
              intro v3 W9 hO3 hg9 _
              have hr9 := hO2.rows
              replace hP := hP.keep hg9 (fun e => by have := hr9 nc e.symm; omega)
              replace hB := hB.grown hg9 hB.size (fun k e => by have := hr9 k e; omega)
              clear hr9 hO2 hg9 tV
              refine hK.out _ _ (cnIn3 hP : CnS nc c _) ?_
              try simp only [Act.put, List.setIfInBounds_toArray, List.set_cons_zero, List.set_cons_succ]
              clear hK
              refine anyG_step (rs := [10]) (by kernel_rfl) (by simp) ?_
              refine AllG.last (n := 10) rfl (fun K hK => ?_)
              go_simp
              refine hK.out _ _ ?_
              try simp only [Act.put, List.setIfInBounds_toArray, List.set_cons_zero, List.set_cons_succ]
              clear hK
              refine anyG_done (by kernel_rfl) ?_ _
              rw [← HTO.out] at hO3
              obtain ⟨A', c', rfl, hS'⟩ := SlV.own hO3
              clear hO3
              go_wp2_with fail
              go_ret
              exact ⟨A', c', rfl, hS', hB⟩
            · skip
              have hal := below_alloc (Below.refl (U1).heap.size U1) (.cells #[.int .i64 c.d, .int .i64 c.i, .int .i64 c.n] 69)
              have hg := World.grownBy_alloc U1 (.cells #[.int .i64 c.d, .int .i64 c.i, .int .i64 c.n] 69) none
              have he : cnE.Sl ((U1).alloc (.cells #[.int .i64 c.d, .int .i64 c.i, .int .i64 c.n] 69)) (some ⟨(U1).heap.size, 0, none⟩) [c] := (El.In.new (E := cnE) U1 c _ rfl).sl
              have hn6 : (U1).heap.size < ((U1).alloc (.cells #[.int .i64 c.d, .int .i64 c.i, .int .i64 c.n] 69)).heap.size := by rw [alloc_size]; omega
              try have hn60 : (U1).heap.size ≠ n0 := by have := (hO0.lt n0 rfl).2; omega
              replace hP := hP.below hal
              try replace kV := kV.keep hg (fun k e => by cases e)
              replace tV := tV.keep hg (fun k e => by cases e)
              replace hB := hB.trans (hal.mono hB.size)
              replace hBV := Nat.le_trans hBV hal.size
              try replace hO0 := hO0.below hal
              try replace hO1 := hO1.below hal
              clear hg
              try clear hS
              go_simp
              refine hK.out _ _ (cnIn3 hP : CnS nc c _) ?_
              try simp only [Act.put, List.setIfInBounds_toArray, List.set_cons_zero, List.set_cons_succ]
              clear hK
              clear hal
              generalize (U1).alloc (.cells #[.int .i64 c.d, .int .i64 c.i, .int .i64 c.n] 69) = U2 at *
              generalize (U1).heap.size = n6 at *
              refine anyG_step (rs := [4]) (by kernel_rfl) (by simp) ?_
              refine AllG.cons rfl (fun K hK => ?_) AllG.nil
              refine El.step_app cnInn rfl (.tmp 70) (.tmp 73) rfl B _ [] L1 rfl hO0 A k cap rfl HE1.out (kV.sl hBV) hz (by have := HE1.out; simp; omega) hBV ?_
              intro v1 W4 hO1 hg4 _
              have hr := hO0.rows
              replace hO1 : cnE.Own W4 B v1 L1 := hO1
              replace hP := hP.keep hg4 (fun e => by have := hr nc e.symm; omega)
              replace tV := tV.keep hg4 hr
              replace hB := hB.grown hg4 hB.size (fun k e => by have := hr k e; omega)
              replace hBV := Nat.le_trans hBV hg4.size
              try replace he := he.keep1 hg4 (fun e => hn60 (Option.some.inj e))
              clear hr hO0 kV hg4
              refine hK.out _ _ (cnIn3 hP : CnS nc c _) ?_
              try simp only [Act.put, List.setIfInBounds_toArray, List.set_cons_zero, List.set_cons_succ]
              clear hK
              refine anyG_step (rs := [7]) (by kernel_rfl) (by simp) ?_
              refine AllG.cons rfl (fun K hK => ?_) AllG.nil
              refine El.step_app cnInn rfl (.tmp 74) (.tmp 76) rfl B v1 L1 [c] rfl hO1 (some ⟨n6, 0, none⟩) 1 1 rfl rfl he (fun e => by cases e) (by have := HE1.out; rw [List.length_singleton]; omega) hBV ?_
              intro v2 W7 hO2 hg7 _
              have hr7 := hO1.rows
              replace hP := hP.keep hg7 (fun e => by have := hr7 nc e.symm; omega)
              replace tV := tV.keep hg7 hr7
              replace hB := hB.grown hg7 hB.size (fun k e => by have := hr7 k e; omega)
              replace hBV := Nat.le_trans hBV hg7.size
              clear hr7 hO1 hg7 he
              refine hK.out _ _ (cnIn3 hP : CnS nc c _) ?_
              try simp only [Act.put, List.setIfInBounds_toArray, List.set_cons_zero, List.set_cons_succ]
              clear hK
              refine anyG_step (rs := [9]) (by kernel_rfl) (by simp) ?_
              refine AllG.cons rfl (fun K hK => ?_) AllG.nil
              refine El.step_app cnInn rfl (.tmp 77) (.tmp 78) rfl B v2 (L1 ++ [c]) L3 rfl hO2 A3 (l.length - k) (cap - k) rfl HE3.out (tV.sl hBV) hz3 (by have := HE1.out; have := HE3.out; rw [List.length_append, List.length_singleton]; omega) hBV ?_
              intro v3 W9 hO3 hg9 _
              have hr9 := hO2.rows
              replace hP := hP.keep hg9 (fun e => by have := hr9 nc e.symm; omega)
              replace hB := hB.grown hg9 hB.size (fun k e => by have := hr9 k e; omega)
              clear hr9 hO2 hg9 tV
              refine hK.out _ _ (cnIn3 hP : CnS nc c _) ?_
              try simp only [Act.put, List.setIfInBounds_toArray, List.set_cons_zero, List.set_cons_succ]
              clear hK
              refine anyG_step (rs := [10]) (by kernel_rfl) (by simp) ?_
              refine AllG.last (n := 10) rfl (fun K hK => ?_)
              go_simp
              refine hK.out _ _ ?_
              try simp only [Act.put, List.setIfInBounds_toArray, List.set_cons_zero, List.set_cons_succ]
              clear hK
              refine anyG_done (by kernel_rfl) ?_ _
              rw [← HTO.out] at hO3
              obtain ⟨A', c', rfl, hS'⟩ := SlV.own hO3
              clear hO3
              go_wp2_with fail
              go_ret
              exact ⟨A', c', rfl, hS', hB⟩
          · skip
            have hal := below_alloc (Below.refl (U).heap.size U) (.cells #[.int .i64 c.d, .int .i64 c.i, .int .i64 c.n] 69)
            have hg := World.grownBy_alloc U (.cells #[.int .i64 c.d, .int .i64 c.i, .int .i64 c.n] 69) none
            have he : cnE.Sl ((U).alloc (.cells #[.int .i64 c.d, .int .i64 c.i, .int .i64 c.n] 69)) (some ⟨(U).heap.size, 0, none⟩) [c] := (El.In.new (E := cnE) U c _ rfl).sl
            have hn6 : (U).heap.size < ((U).alloc (.cells #[.int .i64 c.d, .int .i64 c.i, .int .i64 c.n] 69)).heap.size := by rw [alloc_size]; omega
            try have hn60 : (U).heap.size ≠ n0 := by have := (hO0.lt n0 rfl).2; omega
            replace hP := hP.below hal
            try replace kV := kV.keep hg (fun k e => by cases e)
            replace tV := tV.keep hg (fun k e => by cases e)
            replace hB := hB.trans (hal.mono hB.size)
            replace hBV := Nat.le_trans hBV hal.size
            try replace hO0 := hO0.below hal
            try replace hO1 := hO1.below hal
            clear hg
            try clear hS
            go_simp
            refine hK.out _ _ (cnIn3 hP : CnS nc c _) ?_
            try simp only [Act.put, List.setIfInBounds_toArray, List.set_cons_zero, List.set_cons_succ]
            clear hK
            clear hal
            generalize (U).alloc (.cells #[.int .i64 c.d, .int .i64 c.i, .int .i64 c.n] 69) = U2 at *
            generalize (U).heap.size = n6 at *
            refine anyG_step (rs := [0]) (by kernel_rfl) (by simp) ?_
            refine AllG.cons rfl (fun K hK => ?_) AllG.nil
            have hal := below_alloc (Below.refl (U2).heap.size U2) (.cells #[] 69)
            have hg := World.grownBy_alloc U2 (.cells #[] 69) none
            have hO0 : cnE.Own ((U2).alloc (.cells #[] 69)) B (.slice (some ⟨(U2).heap.size, 0, none⟩) 0 0) [] := El.Own.empty (E := cnE) U2 B hBV
            replace hP := hP.below hal
            replace kV := kV.keep hg (fun k e => by cases e)
            replace tV := tV.keep hg (fun k e => by cases e)
            replace hB := hB.trans (hal.mono hB.size)
            replace hBV := Nat.le_trans hBV hal.size
            try replace he := he.below hal
            try have hn60 := Nat.ne_of_lt hn6
            clear hg
            try clear hS
            go_simp
            refine hK.out _ _ (cnIn3 hP : CnS nc c _) ?_
            try simp only [Act.put, List.setIfInBounds_toArray, List.set_cons_zero, List.set_cons_succ]
            clear hK
            clear hal
            generalize (U2).alloc (.cells #[] 69) = U1 at *
            generalize (U2).heap.size = n0 at *
            refine anyG_step (rs := [4]) (by kernel_rfl) (by simp) ?_
            refine AllG.cons rfl (fun K hK => ?_) AllG.nil
            refine El.step_app cnInn rfl (.tmp 70) (.tmp 73) rfl B _ [] L1 rfl hO0 A k cap rfl HE1.out (kV.sl hBV) hz (by have := HE1.out; simp; omega) hBV ?_
            intro v1 W4 hO1 hg4 _
            have hr := hO0.rows
            replace hO1 : cnE.Own W4 B v1 L1 := hO1
            replace hP := hP.keep hg4 (fun e => by have := hr nc e.symm; omega)
            replace tV := tV.keep hg4 hr
            replace hB := hB.grown hg4 hB.size (fun k e => by have := hr k e; omega)
            replace hBV := Nat.le_trans hBV hg4.size
            try replace he := he.keep1 hg4 (fun e => hn60 (Option.some.inj e))
            clear hr hO0 kV hg4
            refine hK.out _ _ (cnIn3 hP : CnS nc c _) ?_
            try simp only [Act.put, List.setIfInBounds_toArray, List.set_cons_zero, List.set_cons_succ]
            clear hK
            refine anyG_step (rs := [7]) (by kernel_rfl) (by simp) ?_
            refine AllG.cons rfl (fun K hK => ?_) AllG.nil
            refine El.step_app cnInn rfl (.tmp 74) (.tmp 76) rfl B v1 L1 [c] rfl hO1 (some ⟨n6, 0, none⟩) 1 1 rfl rfl he (fun e => by cases e) (by have := HE1.out; rw [List.length_singleton]; omega) hBV ?_
            intro v2 W7 hO2 hg7 _
            have hr7 := hO1.rows
            replace hP := hP.keep hg7 (fun e => by have := hr7 nc e.symm; omega)
            replace tV := tV.keep hg7 hr7
            replace hB := hB.grown hg7 hB.size (fun k e => by have := hr7 k e; omega)
            replace hBV := Nat.le_trans hBV hg7.size
            clear hr7 hO1 hg7 he
            refine hK.out _ _ (cnIn3 hP : CnS nc c _) ?_
            try simp only [Act.put, List.setIfInBounds_toArray, List.set_cons_zero, List.set_cons_succ]
            clear hK
            refine anyG_step (rs := [9]) (by kernel_rfl) (by simp) ?_
            refine AllG.cons rfl (fun K hK => ?_) AllG.nil
            refine El.step_app cnInn rfl (.tmp 77) (.tmp 78) rfl B v2 (L1 ++ [c]) L3 rfl hO2 A3 (l.length - k) (cap - k) rfl HE3.out (tV.sl hBV) hz3 (by have := HE1.out; have := HE3.out; rw [List.length_append, List.length_singleton]; omega) hBV ?_
            intro v3 W9 hO3 hg9 _
            have hr9 := hO2.rows
            replace hP := hP.keep hg9 (fun e => by have := hr9 nc e.symm; omega)
            replace hB := hB.grown hg9 hB.size (fun k e => by have := hr9 k e; omega)
            clear hr9 hO2 hg9 tV
            refine hK.out _ _ (cnIn3 hP : CnS nc c _) ?_
            try simp only [Act.put, List.setIfInBounds_toArray, List.set_cons_zero, List.set_cons_succ]
            clear hK
            refine anyG_step (rs := [10]) (by kernel_rfl) (by simp) ?_
            refine AllG.last (n := 10) rfl (fun K hK => ?_)
            go_simp
            refine hK.out _ _ ?_
            try simp only [Act.put, List.setIfInBounds_toArray, List.set_cons_zero, List.set_cons_succ]
            clear hK
            refine anyG_done (by kernel_rfl) ?_ _
            rw [← HTO.out] at hO3
            obtain ⟨A', c', rfl, hS'⟩ := SlV.own hO3
            clear hO3
            go_wp2_with fail
            go_ret
            exact ⟨A', c', rfl, hS', hB⟩
    · have hge : l.length ≤ k := by omega
      have hke : k = l.length := by have := cutC_le l c.d; omega
      have HX := Lib.hid (cutC_here hk (Or.inl hke))
      have HTO := Lib.hid (putC_no HX.out (Or.inl hke))
      have hle : k ≤ l.length := by omega
      have hgi : (l.length : Int) ≤ (k : Int) := by omega
      clear hke hkl
      obtain ⟨A3, hA3⟩ : ∃ A3, (if cap = k then A else Option.map (fun x => x.add ((k) * 3)) A) = A3 := ⟨_, rfl⟩
      have hT3 := hT.drop hlc hA3
      have hz3 := El.drop_none hz hA3
      have g0 : (0 : Int) ≤ (k : Int) := by omega
      have g1 : (k : Int) ≤ (cap : Int) := by omega
      have g2 : (k : Int) ≤ (l.length : Int) := by omega
      have g3 : (k : Int) + 1 ≤ (cap : Int) + 1 := by omega
      have f1 : decide ((k : Int) < (l.length : Int)) = false := decide_eq_false (by omega)
      have f2 : decide (k < l.length) = false := decide_eq_false (by omega)
      go_wp2_with fail
      go_quiet (fail)
      have hB1 := below_drew hB nq
      have hP1 : cnE.In (wr.drewN nq) nc c := hP
      clear hB hP q0 q1 q2
      go_wp2_with fail
      generalize wr.drewN nq = V1 at *
      go_quiet (fail)
      have hB := below_drew hB1 nq
      have hP : cnE.In (V1.drewN nq) nc c := hP1
      clear hB1 hP1
      go_wp2_with fail
      generalize V1.drewN nq = V at *
      clear hA3
      have HE1 := Lib.hid (show (l.take k).length = k by rw [List.length_take]; omega)
      have HE3 := Lib.hid (show (l.drop (k)).length = 0 by simp only [List.length_drop]; try omega)
      have htk := (hT.take k).below hB
      have ht3 := hT3.below hB
      generalize l.take k = L1 at *
      generalize l.drop (k) = L3 at *
      obtain ⟨B, hBe⟩ : ∃ B, V.heap.size = B := ⟨_, rfl⟩
      have hBV : B ≤ V.drew.heap.size := Nat.le_of_eq hBe.symm
      have kV : cnE.SlB B V.drew A L1 := El.SlB.of htk (Nat.le_of_eq hBe)
      have tV : cnE.SlB B V.drew A3 L3 := El.SlB.of ht3 (Nat.le_of_eq hBe)
      have hwB : w.heap.size ≤ B := by have := hB.size; omega
      have hnB : nc < B := by have := hP.lt; omega
      replace hP : cnE.In V.drew nc c := hP
      replace hB := hB.drew
      clear htk ht3 hBe hT hT3
      refine region_anyG (S := CnS nc c) 10 (by kernel_rfl) ?_
      generalize V.drew = U at *
      have hS : CnS nc c U := cnIn3 hP
      refine anyG_take (i := 1) (v := .slice A l.length cap) rfl (by kernel_rfl) (by kernel_rfl) (by kernel_rfl) (by kernel_rfl) (by kernel_rfl) (fun _ _ _ h => h) (Or.inl ⟨by rfl, fun w' hSw => by (obtain ⟨s0, s1, s2⟩ := hSw; go_simp)⟩) hS ?_
      try simp only [Act.put, List.setIfInBounds_toArray, List.set_cons_zero, List.set_cons_succ]
      refine anyG_take (i := 2) (v := .int .i64 k) rfl (by kernel_rfl) (by kernel_rfl) (by kernel_rfl) (by kernel_rfl) (by kernel_rfl) (fun _ _ _ h => h) (Or.inl ⟨by rfl, fun w' hSw => by (obtain ⟨s0, s1, s2⟩ := hSw; go_simp)⟩) hS ?_
      try simp only [Act.put, List.setIfInBounds_toArray, List.set_cons_zero, List.set_cons_succ]
      refine anyG_take (i := 3) (v := .slice A k cap) rfl (by kernel_rfl) (by kernel_rfl) (by kernel_rfl) (by kernel_rfl) (by kernel_rfl) (fun _ _ _ h => h) (Or.inl ⟨by rfl, fun w' hSw => by (obtain ⟨s0, s1, s2⟩ := hSw; go_simp)⟩) hS ?_
      try simp only [Act.put, List.setIfInBounds_toArray, List.set_cons_zero, List.set_cons_succ]
      refine anyG_take (i := 5) (v := .agg #[.int .i64 c.d, .int .i64 c.i, .int .i64 c.n]) rfl (by kernel_rfl) (by kernel_rfl) (by kernel_rfl) (by kernel_rfl) (by kernel_rfl) (fun _ _ _ h => h) (Or.inl ⟨by rfl, fun w' hSw => by (obtain ⟨s0, s1, s2⟩ := hSw; go_simp)⟩) hS ?_
      try simp only [Act.put, List.setIfInBounds_toArray, List.set_cons_zero, List.set_cons_succ]
      refine anyG_take (i := 8) (v := .slice A3 (0) (cap - k)) rfl (by kernel_rfl) (by kernel_rfl) (by kernel_rfl) (by kernel_rfl) (by kernel_rfl) (fun _ _ _ h => h) (Or.inl ⟨by rfl, fun w' hSw => by (obtain ⟨s0, s1, s2⟩ := hSw; go_simp)⟩) hS ?_
      try simp only [Act.put, List.setIfInBounds_toArray, List.set_cons_zero, List.set_cons_succ]
      refine anyG_step (rs := [0, 6]) (by kernel_rfl) (by simp) ?_
      refine AllG.cons rfl (fun K hK => ?_) (AllG.cons rfl (fun K hK => ?_) AllG.nil)
      · skip
        have hal := below_alloc (Below.refl (U).heap.size U) (.cells #[] 69)
        have hg := World.grownBy_alloc U (.cells #[] 69) none
        have hO0 : cnE.Own ((U).alloc (.cells #[] 69)) B (.slice (some ⟨(U).heap.size, 0, none⟩) 0 0) [] := El.Own.empty (E := cnE) U B hBV
        replace hP := hP.below hal
        replace kV := kV.keep hg (fun k e => by cases e)
        replace tV := tV.keep hg (fun k e => by cases e)
        replace hB := hB.trans (hal.mono hB.size)
        replace hBV := Nat.le_trans hBV hal.size
        try replace he := he.below hal
        try have hn60 := Nat.ne_of_lt hn6
        clear hg
        try clear hS
        go_simp
        refine hK.out _ _ (cnIn3 hP : CnS nc c _) ?_
        try simp only [Act.put, List.setIfInBounds_toArray, List.set_cons_zero, List.set_cons_succ]
        clear hK
        clear hal
        generalize (U).alloc (.cells #[] 69) = U1 at *
        generalize (U).heap.size = n0 at *
        refine anyG_step (rs := [4, 6]) (by kernel_rfl) (by simp) ?_
        refine AllG.cons rfl (fun K hK => ?_) (AllG.cons rfl (fun K hK => ?_) AllG.nil)
        · skip
          refine El.step_app cnInn rfl (.tmp 70) (.tmp 73) rfl B _ [] L1 rfl hO0 A k cap rfl HE1.out (kV.sl hBV) hz (by have := HE1.out; simp; omega) hBV ?_
          intro v1 W4 hO1 hg4 _
          have hr := hO0.rows
          replace hO1 : cnE.Own W4 B v1 L1 := hO1
          replace hP := hP.keep hg4 (fun e => by have := hr nc e.symm; omega)
          replace tV := tV.keep hg4 hr
          replace hB := hB.grown hg4 hB.size (fun k e => by have := hr k e; omega)
          replace hBV := Nat.le_trans hBV hg4.size
          try replace he := he.keep1 hg4 (fun e => hn60 (Option.some.inj e))
          clear hr hO0 kV hg4
          refine hK.out _ _ (cnIn3 hP : CnS nc c _) ?_
          try simp only [Act.put, List.setIfInBounds_toArray, List.set_cons_zero, List.set_cons_succ]
          clear hK
          refine anyG_step (rs := [6]) (by kernel_rfl) (by simp) ?_
          refine AllG.cons rfl (fun K hK => ?_) AllG.nil
          have hal := below_alloc (Below.refl (W4).heap.size W4) (.cells #[.int .i64 c.d, .int .i64 c.i, .int .i64 c.n] 69)
          have hg := World.grownBy_alloc W4 (.cells #[.int .i64 c.d, .int .i64 c.i, .int .i64 c.n] 69) none
          have he : cnE.Sl ((W4).alloc (.cells #[.int .i64 c.d, .int .i64 c.i, .int .i64 c.n] 69)) (some ⟨(W4).heap.size, 0, none⟩) [c] := (El.In.new (E := cnE) W4 c _ rfl).sl
          have hn6 : (W4).heap.size < ((W4).alloc (.cells #[.int .i64 c.d, .int .i64 c.i, .int .i64 c.n] 69)).heap.size := by rw [alloc_size]; omega
          try have hn60 : (W4).heap.size ≠ n0 := by have := (hO0.lt n0 rfl).2; omega
          replace hP := hP.below hal
          try replace kV := kV.keep hg (fun k e => by cases e)
          replace tV := tV.keep hg (fun k e => by cases e)
          replace hB := hB.trans (hal.mono hB.size)
          replace hBV := Nat.le_trans hBV hal.size
          try replace hO0 := hO0.below hal
          try replace hO1 := hO1.below hal
          clear hg
          try clear hS
          go_simp
          refine hK.out _ _ (cnIn3 hP : CnS nc c _) ?_
          try simp only [Act.put, List.setIfInBounds_toArray, List.set_cons_zero, List.set_cons_succ]
          clear hK
          clear hal
          generalize (W4).alloc (.cells #[.int .i64 c.d, .int .i64 c.i, .int .i64 c.n] 69) = U2 at *
          generalize (W4).heap.size = n6 at *
          refine anyG_step (rs := [7]) (by kernel_rfl) (by simp) ?_
          refine AllG.cons rfl (fun K hK => ?_) AllG.nil
          refine El.step_app cnInn rfl (.tmp 74) (.tmp 76) rfl B v1 L1 [c] rfl hO1 (some ⟨n6, 0, none⟩) 1 1 rfl rfl he (fun e => by cases e) (by have := HE1.out; rw [List.length_singleton]; omega) hBV ?_
          intro v2 W7 hO2 hg7 _
          have hr7 := hO1.rows
          replace hP := hP.keep hg7 (fun e => by have := hr7 nc e.symm; omega)
          replace tV := tV.keep hg7 hr7
          replace hB := hB.grown hg7 hB.size (fun k e => by have := hr7 k e; omega)
          replace hBV := Nat.le_trans hBV hg7.size
          clear hr7 hO1 hg7 he
          refine hK.out _ _ (cnIn3 hP : CnS nc c _) ?_
          try simp only [Act.put, List.setIfInBounds_toArray, List.set_cons_zero, List.set_cons_succ]
          clear hK
          refine anyG_step (rs := [9]) (by kernel_rfl) (by simp) ?_
          refine AllG.cons rfl (fun K hK => ?_) AllG.nil
          refine El.step_app cnInn rfl (.tmp 77) (.tmp 78) rfl B v2 (L1 ++ [c]) L3 rfl hO2 A3 (0) (cap - k) rfl HE3.out (tV.sl hBV) hz3 (by have := HE1.out; have := HE3.out; rw [List.length_append, List.length_singleton]; omega) hBV ?_
          intro v3 W9 hO3 hg9 _
          have hr9 := hO2.rows
          replace hP := hP.keep hg9 (fun e => by have := hr9 nc e.symm; omega)
          replace hB := hB.grown hg9 hB.size (fun k e => by have := hr9 k e; omega)
          clear hr9 hO2 hg9 tV
          refine hK.out _ _ (cnIn3 hP : CnS nc c _) ?_
          try simp only [Act.put, List.setIfInBounds_toArray, List.set_cons_zero, List.set_cons_succ]
          clear hK
          refine anyG_step (rs := [10]) (by kernel_rfl) (by simp) ?_
          refine AllG.last (n := 10) rfl (fun K hK => ?_)
          go_simp
          refine hK.out _ _ ?_
          try simp only [Act.put, List.setIfInBounds_toArray, List.set_cons_zero, List.set_cons_succ]
          clear hK
          refine anyG_done (by kernel_rfl) ?_ _
          rw [← HTO.out] at hO3
          obtain ⟨A', c', rfl, hS'⟩ := SlV.own hO3
          clear hO3
          go_wp2_with fail
          go_ret
          exact ⟨A', c', rfl, hS', hB⟩
        · skip
          have hal := below_alloc (Below.refl (U1).heap.size U1) (.cells #[.int .i64 c.d, .int .i64 c.i, .int .i64 c.n] 69)
          have hg := World.grownBy_alloc U1 (.cells #[.int .i64 c.d, .int .i64 c.i, .int .i64 c.n] 69) none
          have he : cnE.Sl ((U1).alloc (.cells #[.int .i64 c.d, .int .i64 c.i, .int .i64 c.n] 69)) (some ⟨(U1).heap.size, 0, none⟩) [c] := (El.In.new (E := cnE) U1 c _ rfl).sl
          have hn6 : (U1).heap.size < ((U1).alloc (.cells #[.int .i64 c.d, .int .i64 c.i, .int .i64 c.n] 69)).heap.size := by rw [alloc_size]; omega
          try have hn60 : (U1).heap.size ≠ n0 := by have := (hO0.lt n0 rfl).2; omega
          replace hP := hP.below hal
          try replace kV := kV.keep hg (fun k e => by cases e)
          replace tV := tV.keep hg (fun k e => by cases e)
          replace hB := hB.trans (hal.mono hB.size)
          replace hBV := Nat.le_trans hBV hal.size
          try replace hO0 := hO0.below hal
          try replace hO1 := hO1.below hal
          clear hg
          try clear hS
          go_simp
          refine hK.out _ _ (cnIn3 hP : CnS nc c _) ?_
          try simp only [Act.put, List.setIfInBounds_toArray, List.set_cons_zero, List.set_cons_succ]
          clear hK
          clear hal
          generalize (U1).alloc (.cells #[.int .i64 c.d, .int .i64 c.i, .int .i64 c.n] 69) = U2 at *
          generalize (U1).heap.size = n6 at *
          refine anyG_step (rs := [4]) (by kernel_rfl) (by simp) ?_
          refine AllG.cons rfl (fun K hK => ?_) AllG.nil
          refine El.step_app cnInn rfl (.tmp 70) (.tmp 73) rfl B _ [] L1 rfl hO0 A k cap rfl HE1.out (kV.sl hBV) hz (by have := HE1.out; simp; omega) hBV ?_
          intro v1 W4 hO1 hg4 _
          have hr := hO0.rows
          replace hO1 : cnE.Own W4 B v1 L1 := hO1
          replace hP := hP.keep hg4 (fun e => by have := hr nc e.symm; omega)
          replace tV := tV.keep hg4 hr
          replace hB := hB.grown hg4 hB.size (fun k e => by have := hr k e; omega)
          replace hBV := Nat.le_trans hBV hg4.size
          try replace he := he.keep1 hg4 (fun e => hn60 (Option.some.inj e))
          clear hr hO0 kV hg4
          refine hK.out _ _ (cnIn3 hP : CnS nc c _) ?_
          try simp only [Act.put, List.setIfInBounds_toArray, List.set_cons_zero, List.set_cons_succ]
          clear hK
          refine anyG_step (rs := [7]) (by kernel_rfl) (by simp) ?_
          refine AllG.cons rfl (fun K hK => ?_) AllG.nil
          refine El.step_app cnInn rfl (.tmp 74) (.tmp 76) rfl B v1 L1 [c] rfl hO1 (some ⟨n6, 0, none⟩) 1 1 rfl rfl he (fun e => by cases e) (by have := HE1.out; rw [List.length_singleton]; omega) hBV ?_
          intro v2 W7 hO2 hg7 _
          have hr7 := hO1.rows
          replace hP := hP.keep hg7 (fun e => by have := hr7 nc e.symm; omega)
          replace tV := tV.keep hg7 hr7
          replace hB := hB.grown hg7 hB.size (fun k e => by have := hr7 k e; omega)
          replace hBV := Nat.le_trans hBV hg7.size
          clear hr7 hO1 hg7 he
          refine hK.out _ _ (cnIn3 hP : CnS nc c _) ?_
          try simp only [Act.put, List.setIfInBounds_toArray, List.set_cons_zero, List.set_cons_succ]
          clear hK
          refine anyG_step (rs := [9]) (by kernel_rfl) (by simp) ?_
          refine AllG.cons rfl (fun K hK => ?_) AllG.nil
          refine El.step_app cnInn rfl (.tmp 77) (.tmp 78) rfl B v2 (L1 ++ [c]) L3 rfl hO2 A3 (0) (cap - k) rfl HE3.out (tV.sl hBV) hz3 (by have := HE1.out; have := HE3.out; rw [List.length_append, List.length_singleton]; omega) hBV ?_
          intro v3 W9 hO3 hg9 _
          have hr9 := hO2.rows
          replace hP := hP.keep hg9 (fun e => by have := hr9 nc e.symm; omega)
          replace hB := hB.grown hg9 hB.size (fun k e => by have := hr9 k e; omega)
          clear hr9 hO2 hg9 tV
          refine hK.out _ _ (cnIn3 hP : CnS nc c _) ?_
          try simp only [Act.put, List.setIfInBounds_toArray, List.set_cons_zero, List.set_cons_succ]
          clear hK
          refine anyG_step (rs := [10]) (by kernel_rfl) (by simp) ?_
          refine AllG.last (n := 10) rfl (fun K hK => ?_)
          go_simp
          refine hK.out _ _ ?_
          try simp only [Act.put, List.setIfInBounds_toArray, List.set_cons_zero, List.set_cons_succ]
          clear hK
          refine anyG_done (by kernel_rfl) ?_ _
          rw [← HTO.out] at hO3
          obtain ⟨A', c', rfl, hS'⟩ := SlV.own hO3
          clear hO3
          go_wp2_with fail
          go_ret
          exact ⟨A', c', rfl, hS', hB⟩
      · skip
        have hal := below_alloc (Below.refl (U).heap.size U) (.cells #[.int .i64 c.d, .int .i64 c.i, .int .i64 c.n] 69)
        have hg := World.grownBy_alloc U (.cells #[.int .i64 c.d, .int .i64 c.i, .int .i64 c.n] 69) none
        have he : cnE.Sl ((U).alloc (.cells #[.int .i64 c.d, .int .i64 c.i, .int .i64 c.n] 69)) (some ⟨(U).heap.size, 0, none⟩) [c] := (El.In.new (E := cnE) U c _ rfl).sl
        have hn6 : (U).heap.size < ((U).alloc (.cells #[.int .i64 c.d, .int .i64 c.i, .int .i64 c.n] 69)).heap.size := by rw [alloc_size]; omega
        try have hn60 : (U).heap.size ≠ n0 := by have := (hO0.lt n0 rfl).2; omega
        replace hP := hP.below hal
        try replace kV := kV.keep hg (fun k e => by cases e)
        replace tV := tV.keep hg (fun k e => by cases e)
        replace hB := hB.trans (hal.mono hB.size)
        replace hBV := Nat.le_trans hBV hal.size
        try replace hO0 := hO0.below hal
        try replace hO1 := hO1.below hal
        clear hg
        try clear hS
        go_simp
        refine hK.out _ _ (cnIn3 hP : CnS nc c _) ?_
        try simp only [Act.put, List.setIfInBounds_toArray, List.set_cons_zero, List.set_cons_succ]
        clear hK
        clear hal
        generalize (U).alloc (.cells #[.int .i64 c.d, .int .i64 c.i, .int .i64 c.n] 69) = U2 at *
        generalize (U).heap.size = n6 at *
        refine anyG_step (rs := [0]) (by kernel_rfl) (by simp) ?_
        refine AllG.cons rfl (fun K hK => ?_) AllG.nil
        have hal := below_alloc (Below.refl (U2).heap.size U2) (.cells #[] 69)
        have hg := World.grownBy_alloc U2 (.cells #[] 69) none
        have hO0 : cnE.Own ((U2).alloc (.cells #[] 69)) B (.slice (some ⟨(U2).heap.size, 0, none⟩) 0 0) [] := El.Own.empty (E := cnE) U2 B hBV
        replace hP := hP.below hal
        replace kV := kV.keep hg (fun k e => by cases e)
        replace tV := tV.keep hg (fun k e => by cases e)
        replace hB := hB.trans (hal.mono hB.size)
        replace hBV := Nat.le_trans hBV hal.size
        try replace he := he.below hal
        try have hn60 := Nat.ne_of_lt hn6
        clear hg
        try clear hS
        go_simp
        refine hK.out _ _ (cnIn3 hP : CnS nc c _) ?_
        try simp only [Act.put, List.setIfInBounds_toArray, List.set_cons_zero, List.set_cons_succ]
        clear hK
        clear hal
        generalize (U2).alloc (.cells #[] 69) = U1 at *
        generalize (U2).heap.size = n0 at *
        refine anyG_step (rs := [4]) (by kernel_rfl) (by simp) ?_
        refine AllG.cons rfl (fun K hK => ?_) AllG.nil
        refine El.step_app cnInn rfl (.tmp 70) (.tmp 73) rfl B _ [] L1 rfl hO0 A k cap rfl HE1.out (kV.sl hBV) hz (by have := HE1.out; simp; omega) hBV ?_
        intro v1 W4 hO1 hg4 _
        have hr := hO0.rows
        replace hO1 : cnE.Own W4 B v1 L1 := hO1
        replace hP := hP.keep hg4 (fun e => by have := hr nc e.symm; omega)
        replace tV := tV.keep hg4 hr
        replace hB := hB.grown hg4 hB.size (fun k e => by have := hr k e; omega)
        replace hBV := Nat.le_trans hBV hg4.size
        try replace he := he.keep1 hg4 (fun e => hn60 (Option.some.inj e))
        clear hr hO0 kV hg4
        refine hK.out _ _ (cnIn3 hP : CnS nc c _) ?_
        try simp only [Act.put, List.setIfInBounds_toArray, List.set_cons_zero, List.set_cons_succ]
        clear hK
        refine anyG_step (rs := [7]) (by kernel_rfl) (by simp) ?_
        refine AllG.cons rfl (fun K hK => ?_) AllG.nil
        refine El.step_app cnInn rfl (.tmp 74) (.tmp 76) rfl B v1 L1 [c] rfl hO1 (some ⟨n6, 0, none⟩) 1 1 rfl rfl he (fun e => by cases e) (by have := HE1.out; rw [List.length_singleton]; omega) hBV ?_
        intro v2 W7 hO2 hg7 _
        have hr7 := hO1.rows
        replace hP := hP.keep hg7 (fun e => by have := hr7 nc e.symm; omega)
        replace tV := tV.keep hg7 hr7
        replace hB := hB.grown hg7 hB.size (fun k e => by have := hr7 k e; omega)
        replace hBV := Nat.le_trans hBV hg7.size
        clear hr7 hO1 hg7 he
        refine hK.out _ _ (cnIn3 hP : CnS nc c _) ?_
        try simp only [Act.put, List.setIfInBounds_toArray, List.set_cons_zero, List.set_cons_succ]
        clear hK
        refine anyG_step (rs := [9]) (by kernel_rfl) (by simp) ?_
        refine AllG.cons rfl (fun K hK => ?_) AllG.nil
        refine El.step_app cnInn rfl (.tmp 77) (.tmp 78) rfl B v2 (L1 ++ [c]) L3 rfl hO2 A3 (0) (cap - k) rfl HE3.out (tV.sl hBV) hz3 (by have := HE1.out; have := HE3.out; rw [List.length_append, List.length_singleton]; omega) hBV ?_
        intro v3 W9 hO3 hg9 _
        have hr9 := hO2.rows
        replace hP := hP.keep hg9 (fun e => by have := hr9 nc e.symm; omega)
        replace hB := hB.grown hg9 hB.size (fun k e => by have := hr9 k e; omega)
        clear hr9 hO2 hg9 tV
        refine hK.out _ _ (cnIn3 hP : CnS nc c _) ?_
        try simp only [Act.put, List.setIfInBounds_toArray, List.set_cons_zero, List.set_cons_succ]
        clear hK
        refine anyG_step (rs := [10]) (by kernel_rfl) (by simp) ?_
        refine AllG.last (n := 10) rfl (fun K hK => ?_)
        go_simp
        refine hK.out _ _ ?_
        try simp only [Act.put, List.setIfInBounds_toArray, List.set_cons_zero, List.set_cons_succ]
        clear hK
        refine anyG_done (by kernel_rfl) ?_ _
        rw [← HTO.out] at hO3
        obtain ⟨A', c', rfl, hS'⟩ := SlV.own hO3
        clear hO3
        go_wp2_with fail
        go_ret
        exact ⟨A', c', rfl, hS', hB⟩

set_option maxRecDepth 100000 in
set_option maxHeartbeats 2000000 in
theorem refTally_in (A : Option Addr) (cap : Nat) (l : List Cn) (e : En) (c : Cn) (w : World) (hl : l.length ≤ 1000) (hT : SlV cnE w A cap l) (h1 : e.k = 3) (hc : c = ⟨e.d, e.i, 0⟩) :
    Calls Try.prog 20 #[.slice A l.length cap, .agg #[.int .i64 e.k, .int .i64 e.d, .int .i64 e.i, .int .i64 e.o.C, .int .i64 e.o.D, .int .i64 e.o.I, .int .i64 e.o.M, .int .i64 e.o.K, .int .i64 e.o.U, .string e.o.s]] w fun r w' => ∃ A' c', r = .returned (.slice A' (putC l c).length c') ∧ SlV cnE w' A' c' (putC l c) ∧ Below w.heap.size w w' := by
  obtain ⟨k, d, i, o⟩ := e
  dsimp only at h1 hc ⊢
  subst h1
  obtain ⟨hT, hz, hlc⟩ := hT
  have hB := below_alloc (below_alloc (Below.refl w.heap.size w) (.cells #[.int .i64 (⟨3, d, i, o⟩ : En).k, .int .i64 (⟨3, d, i, o⟩ : En).d, .int .i64 (⟨3, d, i, o⟩ : En).i, .int .i64 (⟨3, d, i, o⟩ : En).o.C, .int .i64 (⟨3, d, i, o⟩ : En).o.D, .int .i64 (⟨3, d, i, o⟩ : En).o.I, .int .i64 (⟨3, d, i, o⟩ : En).o.M, .int .i64 (⟨3, d, i, o⟩ : En).o.K, .int .i64 (⟨3, d, i, o⟩ : En).o.U, .string (⟨3, d, i, o⟩ : En).o.s] 50)) (.cells #[.int .i64 d, .int .i64 i, .int .i64 0] 69)
  have hP : cnE.In ((w.alloc (.cells #[.int .i64 (⟨3, d, i, o⟩ : En).k, .int .i64 (⟨3, d, i, o⟩ : En).d, .int .i64 (⟨3, d, i, o⟩ : En).i, .int .i64 (⟨3, d, i, o⟩ : En).o.C, .int .i64 (⟨3, d, i, o⟩ : En).o.D, .int .i64 (⟨3, d, i, o⟩ : En).o.I, .int .i64 (⟨3, d, i, o⟩ : En).o.M, .int .i64 (⟨3, d, i, o⟩ : En).o.K, .int .i64 (⟨3, d, i, o⟩ : En).o.U, .string (⟨3, d, i, o⟩ : En).o.s] 50)).alloc (.cells #[.int .i64 d, .int .i64 i, .int .i64 0] 69)) (w.alloc (.cells #[.int .i64 (⟨3, d, i, o⟩ : En).k, .int .i64 (⟨3, d, i, o⟩ : En).d, .int .i64 (⟨3, d, i, o⟩ : En).i, .int .i64 (⟨3, d, i, o⟩ : En).o.C, .int .i64 (⟨3, d, i, o⟩ : En).o.D, .int .i64 (⟨3, d, i, o⟩ : En).o.I, .int .i64 (⟨3, d, i, o⟩ : En).o.M, .int .i64 (⟨3, d, i, o⟩ : En).o.K, .int .i64 (⟨3, d, i, o⟩ : En).o.U, .string (⟨3, d, i, o⟩ : En).o.s] 50)).heap.size c := El.In.new (E := cnE) (w.alloc (.cells #[.int .i64 (⟨3, d, i, o⟩ : En).k, .int .i64 (⟨3, d, i, o⟩ : En).d, .int .i64 (⟨3, d, i, o⟩ : En).i, .int .i64 (⟨3, d, i, o⟩ : En).o.C, .int .i64 (⟨3, d, i, o⟩ : En).o.D, .int .i64 (⟨3, d, i, o⟩ : En).o.I, .int .i64 (⟨3, d, i, o⟩ : En).o.M, .int .i64 (⟨3, d, i, o⟩ : En).o.K, .int .i64 (⟨3, d, i, o⟩ : En).o.U, .string (⟨3, d, i, o⟩ : En).o.s] 50)) c #[.int .i64 d, .int .i64 i, .int .i64 0] (by rw [hc]; rfl)
  rw [alloc_size] at hP
  dsimp only at hP hB
  clear hc
  go_enter Try.func20, Try.ntmps20
  go_wp2_with fail
  generalize (w.alloc (.cells #[.int .i64 3, .int .i64 d, .int .i64 i, .int .i64 o.C, .int .i64 o.D, .int .i64 o.I, .int .i64 o.M, .int .i64 o.K, .int .i64 o.U, .string o.s] 50)).alloc (.cells #[.int .i64 d, .int .i64 i, .int .i64 0] 69) = W0 at *
  obtain ⟨nc, hnc⟩ : ∃ n, w.heap.size + 1 = n := ⟨_, rfl⟩
  rw [hnc] at hP ⊢
  have hwn : w.heap.size < nc := by omega
  clear hnc
  go_loopw [6] (fun y wr => ∃ k : Nat, k ≤ cutC l c.d ∧ y = .int .i64 k ∧ cnE.In wr nc c ∧ Below w.heap.size w wr) (fun y _ => l.length - (intOf y).toNat)
  case atStart => exact ⟨0, Nat.zero_le _, rfl, hP, hB⟩
  case round =>
    clear hP hB
    obtain ⟨k, hk, rfl, hP, hB⟩ := hrel
    obtain ⟨q0, q1, q2⟩ := cnIn3 hP
    by_cases hkl : k < l.length
    · obtain ⟨b, off, hA, hbw, hc⟩ := hT (by omega)
      have hat : cnE.At wr b (off + k * 3) l[k] := (hc k hkl).below hB hbw
      have hx : ∀ w, (Instr.indexAt 28 (.slice A l.length cap) (.int .i64 k)).run Try.prog w = .ok (.pointer (some ⟨b, off + k * 3, none⟩)) w := fun w => by
        subst hA
        have h2 : (k : Int) < (l.length : Int) := by omega
        go_simp
      obtain ⟨s0, s1, s2⟩ := cnAt3 hat
      by_cases hd : l[k].d < c.d
      · have HN := Lib.hid (cutC_next hk hkl hd)
        have f1 : decide (l[k].d < c.d) = true := decide_eq_true hd
        have hki : (k : Int) < (l.length : Int) := by omega
        clear hc hat hA
        generalize l[k].d = x0 at *
        go_wp2_with fail
        go_quiet (fail)
        go_wp2_with fail
        exact ⟨⟨k + 1, HN.out, by go_num, hP, below_drew hB nq⟩, by simp [intOf]; omega⟩
      · have HX := Lib.hid (cutC_here hk (Or.inr ⟨hkl, by omega⟩))
        have f1 : decide (l[k].d < c.d) = false := decide_eq_false hd
        have hki : (k : Int) < (l.length : Int) := by omega
        obtain ⟨A3, hA3⟩ : ∃ A3, (if cap = k then A else Option.map (fun x => x.add ((k) * 3)) A) = A3 := ⟨_, rfl⟩
        have hT3 := hT.drop hlc hA3
        have hz3 := El.drop_none hz hA3
        have g0 : (0 : Int) ≤ (k : Int) := by omega
        have g1 : (k : Int) ≤ (cap : Int) := by omega
        have g2 : (k : Int) ≤ (l.length : Int) := by omega
        have g3 : (k : Int) + 1 ≤ (cap : Int) + 1 := by omega
        clear hc hat
        generalize hx0 : l[k].d = x0 at *
        have HX0 := Lib.hid hx0
        clear hx0 hA
        go_wp2_with fail
        go_quiet (fail)
        clear f1 q0 q1 q2
        by_cases he : x0 = c.d
        · have HTO := Lib.hid (putC_yes HX.out hkl HX0.out he)
          have f1 : (x0 == c.d) = true := beq_iff_eq.2 he
          clear A3 hA3 hT3 hz3
          obtain ⟨A3, hA3⟩ : ∃ A3, (if cap = k + 1 then A else Option.map (fun x => x.add ((k + 1) * 3)) A) = A3 := ⟨_, rfl⟩
          have hT3 := hT.drop hlc hA3
          have hz3 := El.drop_none hz hA3
          have g0 : (0 : Int) ≤ (k : Int) := by omega
          have g1 : (k : Int) ≤ (cap : Int) := by omega
          have g2 : (k : Int) ≤ (l.length : Int) := by omega
          have g3 : (k : Int) + 1 ≤ (cap : Int) + 1 := by omega
          have hB1 := below_drew hB nq
          have hP1 : cnE.In (wr.drewN nq) nc c := hP
          have s01 : (wr.drewN nq).cell? ⟨b, off + k * 3, none⟩ = some (.int .i64 x0) := s0
          clear hB hP s0 s1 s2 he
          go_wp2_with fail
          generalize wr.drewN nq = V1 at *
          obtain ⟨q0, q1, q2⟩ := cnIn3 hP1
          go_quiet (fail)
          clear s01 q0 q1 q2 f1
          have hB := below_drew hB1 nq
          have hP : cnE.In (V1.drewN nq) nc c := hP1
          clear hB1 hP1
          go_wp2_with fail
          generalize V1.drewN nq = V at *
          clear hA3
          have HE1 := Lib.hid (show (l.take k).length = k by rw [List.length_take]; omega)
          have HE3 := Lib.hid (show (l.drop (k + 1)).length = l.length - (k + 1) by simp only [List.length_drop]; try omega)
          have htk := (hT.take k).below hB
          have ht3 := hT3.below hB
          generalize l.take k = L1 at *
          generalize l.drop (k + 1) = L3 at *
          obtain ⟨B, hBe⟩ : ∃ B, V.heap.size = B := ⟨_, rfl⟩
          have hBV : B ≤ V.drew.heap.size := Nat.le_of_eq hBe.symm
          have kV : cnE.SlB B V.drew A L1 := El.SlB.of htk (Nat.le_of_eq hBe)
          have tV : cnE.SlB B V.drew A3 L3 := El.SlB.of ht3 (Nat.le_of_eq hBe)
          have hwB : w.heap.size ≤ B := by have := hB.size; omega
          have hnB : nc < B := by have := hP.lt; omega
          replace hP : cnE.In V.drew nc c := hP
          replace hB := hB.drew
          clear htk ht3 hBe hT hT3
          refine region_anyG (S := CnS nc c) 10 (by kernel_rfl) ?_
          generalize V.drew = U at *
          have hS : CnS nc c U := cnIn3 hP
          refine anyG_take (i := 1) (v := .slice A l.length cap) rfl (by kernel_rfl) (by kernel_rfl) (by kernel_rfl) (by kernel_rfl) (by kernel_rfl) (fun _ _ _ h => h) (Or.inl ⟨by rfl, fun w' hSw => by (obtain ⟨s0, s1, s2⟩ := hSw; go_simp)⟩) hS ?_
          try simp only [Act.put, List.setIfInBounds_toArray, List.set_cons_zero, List.set_cons_succ]
          refine anyG_take (i := 2) (v := .int .i64 k) rfl (by kernel_rfl) (by kernel_rfl) (by kernel_rfl) (by kernel_rfl) (by kernel_rfl) (fun _ _ _ h => h) (Or.inl ⟨by rfl, fun w' hSw => by (obtain ⟨s0, s1, s2⟩ := hSw; go_simp)⟩) hS ?_
          try simp only [Act.put, List.setIfInBounds_toArray, List.set_cons_zero, List.set_cons_succ]
          refine anyG_take (i := 3) (v := .slice A k cap) rfl (by kernel_rfl) (by kernel_rfl) (by kernel_rfl) (by kernel_rfl) (by kernel_rfl) (fun _ _ _ h => h) (Or.inl ⟨by rfl, fun w' hSw => by (obtain ⟨s0, s1, s2⟩ := hSw; go_simp)⟩) hS ?_
          try simp only [Act.put, List.setIfInBounds_toArray, List.set_cons_zero, List.set_cons_succ]
          refine anyG_take (i := 5) (v := .agg #[.int .i64 c.d, .int .i64 c.i, .int .i64 c.n]) rfl (by kernel_rfl) (by kernel_rfl) (by kernel_rfl) (by kernel_rfl) (by kernel_rfl) (fun _ _ _ h => h) (Or.inl ⟨by rfl, fun w' hSw => by (obtain ⟨s0, s1, s2⟩ := hSw; go_simp)⟩) hS ?_
          try simp only [Act.put, List.setIfInBounds_toArray, List.set_cons_zero, List.set_cons_succ]
          refine anyG_take (i := 8) (v := .slice A3 (l.length - (k + 1)) (cap - (k + 1))) rfl (by kernel_rfl) (by kernel_rfl) (by kernel_rfl) (by kernel_rfl) (by kernel_rfl) (fun _ _ _ h => h) (Or.inl ⟨by rfl, fun w' hSw => by (obtain ⟨s0, s1, s2⟩ := hSw; go_simp)⟩) hS ?_
          try simp only [Act.put, List.setIfInBounds_toArray, List.set_cons_zero, List.set_cons_succ]
          refine anyG_step (rs := [0, 6]) (by kernel_rfl) (by simp) ?_
          refine AllG.cons rfl (fun K hK => ?_) (AllG.cons rfl (fun K hK => ?_) AllG.nil)
          · skip
            have hal := below_alloc (Below.refl (U).heap.size U) (.cells #[] 69)
            have hg := World.grownBy_alloc U (.cells #[] 69) none
            have hO0 : cnE.Own ((U).alloc (.cells #[] 69)) B (.slice (some ⟨(U).heap.size, 0, none⟩) 0 0) [] := El.Own.empty (E := cnE) U B hBV
            replace hP := hP.below hal
            replace kV := kV.keep hg (fun k e => by cases e)
            replace tV := tV.keep hg (fun k e => by cases e)
            replace hB := hB.trans (hal.mono hB.size)
            replace hBV := Nat.le_trans hBV hal.size
            try replace he := he.below hal
            try have hn60 := Nat.ne_of_lt hn6
            clear hg
            try clear hS
            go_simp
            refine hK.out _ _ (cnIn3 hP : CnS nc c _) ?_
            try simp only [Act.put, List.setIfInBounds_toArray, List.set_cons_zero, List.set_cons_succ]
            clear hK
            clear hal
            generalize (U).alloc (.cells #[] 69) = U1 at *
            generalize (U).heap.size = n0 at *
            refine anyG_step (rs := [4, 6]) (by kernel_rfl) (by simp) ?_
            refine AllG.cons rfl (fun K hK => ?_) (AllG.cons rfl (fun K hK => ?_) AllG.nil)
            · skip
              refine El.step_app cnInn rfl (.tmp 70) (.tmp 73) rfl B _ [] L1 rfl hO0 A k cap rfl HE1.out (kV.sl hBV) hz (by have := HE1.out; simp; omega) hBV ?_
              intro v1 W4 hO1 hg4 _
              have hr := hO0.rows
              replace hO1 : cnE.Own W4 B v1 L1 := hO1
              replace hP := hP.keep hg4 (fun e => by have := hr nc e.symm; omega)
              replace tV := tV.keep hg4 hr
              replace hB := hB.grown hg4 hB.size (fun k e => by have := hr k e; omega)
              replace hBV := Nat.le_trans hBV hg4.size
              try replace he := he.keep1 hg4 (fun e => hn60 (Option.some.inj e))
              clear hr hO0 kV hg4
              refine hK.out _ _ (cnIn3 hP : CnS nc c _) ?_
              try simp only [Act.put, List.setIfInBounds_toArray, List.set_cons_zero, List.set_cons_succ]
              clear hK
              refine anyG_step (rs := [6]) (by kernel_rfl) (by simp) ?_
              refine AllG.cons rfl (fun K hK => ?_) AllG.nil
              have hal := below_alloc (Below.refl (W4).heap.size W4) (.cells #[.int .i64 c.d, .int .i64 c.i, .int .i64 c.n] 69)
              have hg := World.grownBy_alloc W4 (.cells #[.int .i64 c.d, .int .i64 c.i, .int .i64 c.n] 69) none
              have he : cnE.Sl ((W4).alloc (.cells #[.int .i64 c.d, .int .i64 c.i, .int .i64 c.n] 69)) (some ⟨(W4).heap.size, 0, none⟩) [c] := (El.In.new (E := cnE) W4 c _ rfl).sl
              have hn6 : (W4).heap.size < ((W4).alloc (.cells #[.int .i64 c.d, .int .i64 c.i, .int .i64 c.n] 69)).heap.size := by rw [alloc_size]; omega
              try have hn60 : (W4).heap.size ≠ n0 := by have := (hO0.lt n0 rfl).2; omega
              replace hP := hP.below hal
              try replace kV := kV.keep hg (fun k e => by cases e)
              replace tV := tV.keep hg (fun k e => by cases e)
              replace hB := hB.trans (hal.mono hB.size)
              replace hBV := Nat.le_trans hBV hal.size
              try replace hO0 := hO0.below hal
              try replace hO1 := hO1.below hal
              clear hg
              try clear hS
              go_simp
              refine hK.out _ _ (cnIn3 hP : CnS nc c _) ?_
              try simp only [Act.put, List.setIfInBounds_toArray, List.set_cons_zero, List.set_cons_succ]
              clear hK
              clear hal
              generalize (W4).alloc (.cells #[.int .i64 c.d, .int .i64 c.i, .int .i64 c.n] 69) = U2 at *
              generalize (W4).heap.size = n6 at *
              refine anyG_step (rs := [7]) (by kernel_rfl) (by simp) ?_
              refine AllG.cons rfl (fun K hK => ?_) AllG.nil
              refine El.step_app cnInn rfl (.tmp 74) (.tmp 76) rfl B v1 L1 [c] rfl hO1 (some ⟨n6, 0, none⟩) 1 1 rfl rfl he (fun e => by cases e) (by have := HE1.out; rw [List.length_singleton]; omega) hBV ?_
              intro v2 W7 hO2 hg7 _
              have hr7 := hO1.rows
              replace hP := hP.keep hg7 (fun e => by have := hr7 nc e.symm; omega)
              replace tV := tV.keep hg7 hr7
              replace hB := hB.grown hg7 hB.size (fun k e => by have := hr7 k e; omega)
              replace hBV := Nat.le_trans hBV hg7.size
              clear hr7 hO1 hg7 he
              refine hK.out _ _ (cnIn3 hP : CnS nc c _) ?_
              try simp only [Act.put, List.setIfInBounds_toArray, List.set_cons_zero, List.set_cons_succ]
              clear hK
              refine anyG_step (rs := [9]) (by kernel_rfl) (by simp) ?_
              refine AllG.cons rfl (fun K hK => ?_) AllG.nil
              refine El.step_app cnInn rfl (.tmp 77) (.tmp 78) rfl B v2 (L1 ++ [c]) L3 rfl hO2 A3 (l.length - (k + 1)) (cap - (k + 1)) rfl HE3.out (tV.sl hBV) hz3 (by have := HE1.out; have := HE3.out; rw [List.length_append, List.length_singleton]; omega) hBV ?_
              intro v3 W9 hO3 hg9 _
              have hr9 := hO2.rows
              replace hP := hP.keep hg9 (fun e => by have := hr9 nc e.symm; omega)
              replace hB := hB.grown hg9 hB.size (fun k e => by have := hr9 k e; omega)
              clear hr9 hO2 hg9 tV
              refine hK.out _ _ (cnIn3 hP : CnS nc c _) ?_
              try simp only [Act.put, List.setIfInBounds_toArray, List.set_cons_zero, List.set_cons_succ]
              clear hK
              refine anyG_step (rs := [10]) (by kernel_rfl) (by simp) ?_
              refine AllG.last (n := 10) rfl (fun K hK => ?_)
              go_simp
              refine hK.out _ _ ?_
              try simp only [Act.put, List.setIfInBounds_toArray, List.set_cons_zero, List.set_cons_succ]
              clear hK
              refine anyG_done (by kernel_rfl) ?_ _
              rw [← HTO.out] at hO3
              obtain ⟨A', c', rfl, hS'⟩ := SlV.own hO3
              clear hO3
              go_wp2_with fail
              go_ret
              exact ⟨A', c', rfl, hS', hB⟩
            · skip
              have hal := below_alloc (Below.refl (U1).heap.size U1) (.cells #[.int .i64 c.d, .int .i64 c.i, .int .i64 c.n] 69)
              have hg := World.grownBy_alloc U1 (.cells #[.int .i64 c.d, .int .i64 c.i, .int .i64 c.n] 69) none
              have he : cnE.Sl ((U1).alloc (.cells #[.int .i64 c.d, .int .i64 c.i, .int .i64 c.n] 69)) (some ⟨(U1).heap.size, 0, none⟩) [c] := (El.In.new (E := cnE) U1 c _ rfl).sl
              have hn6 : (U1).heap.size < ((U1).alloc (.cells #[.int .i64 c.d, .int .i64 c.i, .int .i64 c.n] 69)).heap.size := by rw [alloc_size]; omega
              try have hn60 : (U1).heap.size ≠ n0 := by have := (hO0.lt n0 rfl).2; omega
              replace hP := hP.below hal
              try replace kV := kV.keep hg (fun k e => by cases e)
              replace tV := tV.keep hg (fun k e => by cases e)
              replace hB := hB.trans (hal.mono hB.size)
              replace hBV := Nat.le_trans hBV hal.size
              try replace hO0 := hO0.below hal
              try replace hO1 := hO1.below hal
              clear hg
              try clear hS
              go_simp
              refine hK.out _ _ (cnIn3 hP : CnS nc c _) ?_
              try simp only [Act.put, List.setIfInBounds_toArray, List.set_cons_zero, List.set_cons_succ]
              clear hK
              clear hal
              generalize (U1).alloc (.cells #[.int .i64 c.d, .int .i64 c.i, .int .i64 c.n] 69) = U2 at *
              generalize (U1).heap.size = n6 at *
              refine anyG_step (rs := [4]) (by kernel_rfl) (by simp) ?_
              refine AllG.cons rfl (fun K hK => ?_) AllG.nil
              refine El.step_app cnInn rfl (.tmp 70) (.tmp 73) rfl B _ [] L1 rfl hO0 A k cap rfl HE1.out (kV.sl hBV) hz (by have := HE1.out; simp; omega) hBV ?_
              intro v1 W4 hO1 hg4 _
              have hr := hO0.rows
              replace hO1 : cnE.Own W4 B v1 L1 := hO1
              replace hP := hP.keep hg4 (fun e => by have := hr nc e.symm; omega)
              replace tV := tV.keep hg4 hr
              replace hB := hB.grown hg4 hB.size (fun k e => by have := hr k e; omega)
              replace hBV := Nat.le_trans hBV hg4.size
              try replace he := he.keep1 hg4 (fun e => hn60 (Option.some.inj e))
              clear hr hO0 kV hg4
              refine hK.out _ _ (cnIn3 hP : CnS nc c _) ?_
              try simp only [Act.put, List.setIfInBounds_toArray, List.set_cons_zero, List.set_cons_succ]
              clear hK
              refine anyG_step (rs := [7]) (by kernel_rfl) (by simp) ?_
              refine AllG.cons rfl (fun K hK => ?_) AllG.nil
              refine El.step_app cnInn rfl (.tmp 74) (.tmp 76) rfl B v1 L1 [c] rfl hO1 (some ⟨n6, 0, none⟩) 1 1 rfl rfl he (fun e => by cases e) (by have := HE1.out; rw [List.length_singleton]; omega) hBV ?_
              intro v2 W7 hO2 hg7 _
              have hr7 := hO1.rows
              replace hP := hP.keep hg7 (fun e => by have := hr7 nc e.symm; omega)
              replace tV := tV.keep hg7 hr7
              replace hB := hB.grown hg7 hB.size (fun k e => by have := hr7 k e; omega)
              replace hBV := Nat.le_trans hBV hg7.size
              clear hr7 hO1 hg7 he
              refine hK.out _ _ (cnIn3 hP : CnS nc c _) ?_
              try simp only [Act.put, List.setIfInBounds_toArray, List.set_cons_zero, List.set_cons_succ]
              clear hK
              refine anyG_step (rs := [9]) (by kernel_rfl) (by simp) ?_
              refine AllG.cons rfl (fun K hK => ?_) AllG.nil
              refine El.step_app cnInn rfl (.tmp 77) (.tmp 78) rfl B v2 (L1 ++ [c]) L3 rfl hO2 A3 (l.length - (k + 1)) (cap - (k + 1)) rfl HE3.out (tV.sl hBV) hz3 (by have := HE1.out; have := HE3.out; rw [List.length_append, List.length_singleton]; omega) hBV ?_
              intro v3 W9 hO3 hg9 _
              have hr9 := hO2.rows
              replace hP := hP.keep hg9 (fun e => by have := hr9 nc e.symm; omega)
              replace hB := hB.grown hg9 hB.size (fun k e => by have := hr9 k e; omega)
              clear hr9 hO2 hg9 tV
              refine hK.out _ _ (cnIn3 hP : CnS nc c _) ?_
              try simp only [Act.put, List.setIfInBounds_toArray, List.set_cons_zero, List.set_cons_succ]
              clear hK
              refine anyG_step (rs := [10]) (by kernel_rfl) (by simp) ?_
              refine AllG.last (n := 10) rfl (fun K hK => ?_)
              go_simp
              refine hK.out _ _ ?_
              try simp only [Act.put, List.setIfInBounds_toArray, List.set_cons_zero, List.set_cons_succ]
              clear hK
              refine anyG_done (by kernel_rfl) ?_ _
              rw [← HTO.out] at hO3
              obtain ⟨A', c', rfl, hS'⟩ := SlV.own hO3
              clear hO3
              go_wp2_with fail
              go_ret
              exact ⟨A', c', rfl, hS', hB⟩
          · skip
            have hal := below_alloc (Below.refl (U).heap.size U) (.cells #[.int .i64 c.d, .int .i64 c.i, .int .i64 c.n] 69)
            have hg := World.grownBy_alloc U (.cells #[.int .i64 c.d, .int .i64 c.i, .int .i64 c.n] 69) none
            have he : cnE.Sl ((U).alloc (.cells #[.int .i64 c.d, .int .i64 c.i, .int .i64 c.n] 69)) (some ⟨(U).heap.size, 0, none⟩) [c] := (El.In.new (E := cnE) U c _ rfl).sl
            have hn6 : (U).heap.size < ((U).alloc (.cells #[.int .i64 c.d, .int .i64 c.i, .int .i64 c.n] 69)).heap.size := by rw [alloc_size]; omega
            try have hn60 : (U).heap.size ≠ n0 := by have := (hO0.lt n0 rfl).2; omega
            replace hP := hP.below hal
            try replace kV := kV.keep hg (fun k e => by cases e)
            replace tV := tV.keep hg (fun k e => by cases e)
            replace hB := hB.trans (hal.mono hB.size)
            replace hBV := Nat.le_trans hBV hal.size
            try replace hO0 := hO0.below hal
            try replace hO1 := hO1.below hal
            clear hg
            try clear hS
            go_simp
            refine hK.out _ _ (cnIn3 hP : CnS nc c _) ?_
            try simp only [Act.put, List.setIfInBounds_toArray, List.set_cons_zero, List.set_cons_succ]
            clear hK
            clear hal
            generalize (U).alloc (.cells #[.int .i64 c.d, .int .i64 c.i, .int .i64 c.n] 69) = U2 at *
            generalize (U).heap.size = n6 at *
            refine anyG_step (rs := [0]) (by kernel_rfl) (by simp) ?_
            refine AllG.cons rfl (fun K hK => ?_) AllG.nil
            have hal := below_alloc (Below.refl (U2).heap.size U2) (.cells #[] 69)
            have hg := World.grownBy_alloc U2 (.cells #[] 69) none
            have hO0 : cnE.Own ((U2).alloc (.cells #[] 69)) B (.slice (some ⟨(U2).heap.size, 0, none⟩) 0 0) [] := El.Own.empty (E := cnE) U2 B hBV
            replace hP := hP.below hal
            replace kV := kV.keep hg (fun k e => by cases e)
            replace tV := tV.keep hg (fun k e => by cases e)
            replace hB := hB.trans (hal.mono hB.size)
            replace hBV := Nat.le_trans hBV hal.size
            try replace he := he.below hal
            try have hn60 := Nat.ne_of_lt hn6
            clear hg
            try clear hS
            go_simp
            refine hK.out _ _ (cnIn3 hP : CnS nc c _) ?_
            try simp only [Act.put, List.setIfInBounds_toArray, List.set_cons_zero, List.set_cons_succ]
            clear hK
            clear hal
            generalize (U2).alloc (.cells #[] 69) = U1 at *
            generalize (U2).heap.size = n0 at *
            refine anyG_step (rs := [4]) (by kernel_rfl) (by simp) ?_
            refine AllG.cons rfl (fun K hK => ?_) AllG.nil
            refine El.step_app cnInn rfl (.tmp 70) (.tmp 73) rfl B _ [] L1 rfl hO0 A k cap rfl HE1.out (kV.sl hBV) hz (by have := HE1.out; simp; omega) hBV ?_
            intro v1 W4 hO1 hg4 _
            have hr := hO0.rows
            replace hO1 : cnE.Own W4 B v1 L1 := hO1
            replace hP := hP.keep hg4 (fun e => by have := hr nc e.symm; omega)
            replace tV := tV.keep hg4 hr
            replace hB := hB.grown hg4 hB.size (fun k e => by have := hr k e; omega)
            replace hBV := Nat.le_trans hBV hg4.size
            try replace he := he.keep1 hg4 (fun e => hn60 (Option.some.inj e))
            clear hr hO0 kV hg4
            refine hK.out _ _ (cnIn3 hP : CnS nc c _) ?_
            try simp only [Act.put, List.setIfInBounds_toArray, List.set_cons_zero, List.set_cons_succ]
            clear hK
            refine anyG_step (rs := [7]) (by kernel_rfl) (by simp) ?_
            refine AllG.cons rfl (fun K hK => ?_) AllG.nil
            refine El.step_app cnInn rfl (.tmp 74) (.tmp 76) rfl B v1 L1 [c] rfl hO1 (some ⟨n6, 0, none⟩) 1 1 rfl rfl he (fun e => by cases e) (by have := HE1.out; rw [List.length_singleton]; omega) hBV ?_
            intro v2 W7 hO2 hg7 _
            have hr7 := hO1.rows
            replace hP := hP.keep hg7 (fun e => by have := hr7 nc e.symm; omega)
            replace tV := tV.keep hg7 hr7
            replace hB := hB.grown hg7 hB.size (fun k e => by have := hr7 k e; omega)
            replace hBV := Nat.le_trans hBV hg7.size
            clear hr7 hO1 hg7 he
            refine hK.out _ _ (cnIn3 hP : CnS nc c _) ?_
            try simp only [Act.put, List.setIfInBounds_toArray, List.set_cons_zero, List.set_cons_succ]
            clear hK
            refine anyG_step (rs := [9]) (by kernel_rfl) (by simp) ?_
            refine AllG.cons rfl (fun K hK => ?_) AllG.nil
            refine El.step_app cnInn rfl (.tmp 77) (.tmp 78) rfl B v2 (L1 ++ [c]) L3 rfl hO2 A3 (l.length - (k + 1)) (cap - (k + 1)) rfl HE3.out (tV.sl hBV) hz3 (by have := HE1.out; have := HE3.out; rw [List.length_append, List.length_singleton]; omega) hBV ?_
            intro v3 W9 hO3 hg9 _
            have hr9 := hO2.rows
            replace hP := hP.keep hg9 (fun e => by have := hr9 nc e.symm; omega)
            replace hB := hB.grown hg9 hB.size (fun k e => by have := hr9 k e; omega)
            clear hr9 hO2 hg9 tV
            refine hK.out _ _ (cnIn3 hP : CnS nc c _) ?_
            try simp only [Act.put, List.setIfInBounds_toArray, List.set_cons_zero, List.set_cons_succ]
            clear hK
            refine anyG_step (rs := [10]) (by kernel_rfl) (by simp) ?_
            refine AllG.last (n := 10) rfl (fun K hK => ?_)
            go_simp
            refine hK.out _ _ ?_
            try simp only [Act.put, List.setIfInBounds_toArray, List.set_cons_zero, List.set_cons_succ]
            clear hK
            refine anyG_done (by kernel_rfl) ?_ _
            rw [← HTO.out] at hO3
            obtain ⟨A', c', rfl, hS'⟩ := SlV.own hO3
            clear hO3
            go_wp2_with fail
            go_ret
            exact ⟨A', c', rfl, hS', hB⟩
        · have HTO := Lib.hid (putC_no HX.out (Or.inr ⟨hkl, by rw [HX0.out]; exact he⟩))
          have f1 : (x0 == c.d) = false := beq_eq_false_iff_ne.2 he
          have hA4 : Option.map (fun x => x.add (k * 3)) A = A3 := by
            rw [← hA3, if_neg (by omega)]
          have hB1 := below_drew hB nq
          have hP1 : cnE.In (wr.drewN nq) nc c := hP
          have s01 : (wr.drewN nq).cell? ⟨b, off + k * 3, none⟩ = some (.int .i64 x0) := s0
          clear hB hP s0 s1 s2 he
          go_wp2_with fail
          generalize wr.drewN nq = V1 at *
          obtain ⟨q0, q1, q2⟩ := cnIn3 hP1
          go_quiet (fail)
          clear s01 q0 q1 q2 f1
          have hB := below_drew hB1 nq
          have hP : cnE.In (V1.drewN nq) nc c := hP1
          clear hB1 hP1
          go_wp2_with fail
          generalize V1.drewN nq = V at *
          try rw [hA4]
          clear hA3 hA4
          have HE1 := Lib.hid (show (l.take k).length = k by rw [List.length_take]; omega)
          have HE3 := Lib.hid (show (l.drop (k)).length = l.length - k by simp only [List.length_drop]; try omega)
          have htk := (hT.take k).below hB
          have ht3 := hT3.below hB
          generalize l.take k = L1 at *
          generalize l.drop (k) = L3 at *
          obtain ⟨B, hBe⟩ : ∃ B, V.heap.size = B := ⟨_, rfl⟩
          have hBV : B ≤ V.drew.heap.size := Nat.le_of_eq hBe.symm
          have kV : cnE.SlB B V.drew A L1 := El.SlB.of htk (Nat.le_of_eq hBe)
          have tV : cnE.SlB B V.drew A3 L3 := El.SlB.of ht3 (Nat.le_of_eq hBe)
          have hwB : w.heap.size ≤ B := by have := hB.size; omega
          have hnB : nc < B := by have := hP.lt; omega
          replace hP : cnE.In V.drew nc c := hP
          replace hB := hB.drew
          clear htk ht3 hBe hT hT3
          refine region_anyG (S := CnS nc c) 10 (by kernel_rfl) ?_
          generalize V.drew = U at *
          have hS : CnS nc c U := cnIn3 hP
          refine anyG_take (i := 1) (v := .slice A l.length cap) rfl (by kernel_rfl) (by kernel_rfl) (by kernel_rfl) (by kernel_rfl) (by kernel_rfl) (fun _ _ _ h => h) (Or.inl ⟨by rfl, fun w' hSw => by (obtain ⟨s0, s1, s2⟩ := hSw; go_simp)⟩) hS ?_
          try simp only [Act.put, List.setIfInBounds_toArray, List.set_cons_zero, List.set_cons_succ]
          refine anyG_take (i := 2) (v := .int .i64 k) rfl (by kernel_rfl) (by kernel_rfl) (by kernel_rfl) (by kernel_rfl) (by kernel_rfl) (fun _ _ _ h => h) (Or.inl ⟨by rfl, fun w' hSw => by (obtain ⟨s0, s1, s2⟩ := hSw; go_simp)⟩) hS ?_
          try simp only [Act.put, List.setIfInBounds_toArray, List.set_cons_zero, List.set_cons_succ]
          refine anyG_take (i := 3) (v := .slice A k cap) rfl (by kernel_rfl) (by kernel_rfl) (by kernel_rfl) (by kernel_rfl) (by kernel_rfl) (fun _ _ _ h => h) (Or.inl ⟨by rfl, fun w' hSw => by (obtain ⟨s0, s1, s2⟩ := hSw; go_simp)⟩) hS ?_
          try simp only [Act.put, List.setIfInBounds_toArray, List.set_cons_zero, List.set_cons_succ]
          refine anyG_take (i := 5) (v := .agg #[.int .i64 c.d, .int .i64 c.i, .int .i64 c.n]) rfl (by kernel_rfl) (by kernel_rfl) (by kernel_rfl) (by kernel_rfl) (by kernel_rfl) (fun _ _ _ h => h) (Or.inl ⟨by rfl, fun w' hSw => by (obtain ⟨s0, s1, s2⟩ := hSw; go_simp)⟩) hS ?_
          try simp only [Act.put, List.setIfInBounds_toArray, List.set_cons_zero, List.set_cons_succ]
          refine anyG_take (i := 8) (v := .slice A3 (l.length - k) (cap - k)) rfl (by kernel_rfl) (by kernel_rfl) (by kernel_rfl) (by kernel_rfl) (by kernel_rfl) (fun _ _ _ h => h) (Or.inl ⟨by rfl, fun w' hSw => by (obtain ⟨s0, s1, s2⟩ := hSw; go_simp)⟩) hS ?_
          try simp only [Act.put, List.setIfInBounds_toArray, List.set_cons_zero, List.set_cons_succ]
          refine anyG_step (rs := [0, 6]) (by kernel_rfl) (by simp) ?_
          refine AllG.cons rfl (fun K hK => ?_) (AllG.cons rfl (fun K hK => ?_) AllG.nil)
          · skip
            have hal := below_alloc (Below.refl (U).heap.size U) (.cells #[] 69)
            have hg := World.grownBy_alloc U (.cells #[] 69) none
            have hO0 : cnE.Own ((U).alloc (.cells #[] 69)) B (.slice (some ⟨(U).heap.size, 0, none⟩) 0 0) [] := El.Own.empty (E := cnE) U B hBV
            replace hP := hP.below hal
            replace kV := kV.keep hg (fun k e => by cases e)
            replace tV := tV.keep hg (fun k e => by cases e)
            replace hB := hB.trans (hal.mono hB.size)
            replace hBV := Nat.le_trans hBV hal.size
            try replace he := he.below hal
            try have hn60 := Nat.ne_of_lt hn6
            clear hg
            try clear hS
            go_simp
            refine hK.out _ _ (cnIn3 hP : CnS nc c _) ?_
            try simp only [Act.put, List.setIfInBounds_toArray, List.set_cons_zero, List.set_cons_succ]
            clear hK
            clear hal
            generalize (U).alloc (.cells #[] 69) = U1 at *
            generalize (U).heap.size = n0 at *
            refine anyG_step (rs := [4, 6]) (by kernel_rfl) (by simp) ?_
            refine AllG.cons rfl (fun K hK => ?_) (AllG.cons rfl (fun K hK => ?_) AllG.nil)
            · skip
              refine El.step_app cnInn rfl (.tmp 70) (.tmp 73) rfl B _ [] L1 rfl hO0 A k cap rfl HE1.out (kV.sl hBV) hz (by have := HE1.out; simp; omega) hBV ?_
              intro v1 W4 hO1 hg4 _
              have hr := hO0.rows
              replace hO1 : cnE.Own W4 B v1 L1 := hO1
              replace hP := hP.keep hg4 (fun e => by have := hr nc e.symm; omega)
              replace tV := tV.keep hg4 hr
              replace hB := hB.grown hg4 hB.size (fun k e => by have := hr k e; omega)
              replace hBV := Nat.le_trans hBV hg4.size
              try replace he := he.keep1 hg4 (fun e => hn60 (Option.some.inj e))
              clear hr hO0 kV hg4
              refine hK.out _ _ (cnIn3 hP : CnS nc c _) ?_
              try simp only [Act.put, List.setIfInBounds_toArray, List.set_cons_zero, List.set_cons_succ]
              clear hK
              refine anyG_step (rs := [6]) (by kernel_rfl) (by simp) ?_
              refine AllG.cons rfl (fun K hK => ?_) AllG.nil
              have hal := below_alloc (Below.refl (W4).heap.size W4) (.cells #[.int .i64 c.d, .int .i64 c.i, .int .i64 c.n] 69)
              have hg := World.grownBy_alloc W4 (.cells #[.int .i64 c.d, .int .i64 c.i, .int .i64 c.n] 69) none
              have he : cnE.Sl ((W4).alloc (.cells #[.int .i64 c.d, .int .i64 c.i, .int .i64 c.n] 69)) (some ⟨(W4).heap.size, 0, none⟩) [c] := (El.In.new (E := cnE) W4 c _ rfl).sl
              have hn6 : (W4).heap.size < ((W4).alloc (.cells #[.int .i64 c.d, .int .i64 c.i, .int .i64 c.n] 69)).heap.size := by rw [alloc_size]; omega
              try have hn60 : (W4).heap.size ≠ n0 := by have := (hO0.lt n0 rfl).2; omega
              replace hP := hP.below hal
              try replace kV := kV.keep hg (fun k e => by cases e)
              replace tV := tV.keep hg (fun k e => by cases e)
              replace hB := hB.trans (hal.mono hB.size)
              replace hBV := Nat.le_trans hBV hal.size
              try replace hO0 := hO0.below hal
              try replace hO1 := hO1.below hal
              clear hg
              try clear hS
              go_simp
              refine hK.out _ _ (cnIn3 hP : CnS nc c _) ?_
              try simp only [Act.put, List.setIfInBounds_toArray, List.set_cons_zero, List.set_cons_succ]
              clear hK
              clear hal
              generalize (W4).alloc (.cells #[.int .i64 c.d, .int .i64 c.i, .int .i64 c.n] 69) = U2 at *
              generalize (W4).heap.size = n6 at *
              refine anyG_step (rs := [7]) (by kernel_rfl) (by simp) ?_
              refine AllG.cons rfl (fun K hK => ?_) AllG.nil
              refine El.step_app cnInn rfl (.tmp 74) (.tmp 76) rfl B v1 L1 [c] rfl hO1 (some ⟨n6, 0, none⟩) 1 1 rfl rfl he (fun e => by cases e) (by have := HE1.out; rw [List.length_singleton]; omega) hBV ?_
              intro v2 W7 hO2 hg7 _
              have hr7 := hO1.rows
              replace hP := hP.keep hg7 (fun e => by have := hr7 nc e.symm; omega)
              replace tV := tV.keep hg7 hr7
              replace hB := hB.grown hg7 hB.size (fun k e => by have := hr7 k e; omega)
              replace hBV := Nat.le_trans hBV hg7.size
              clear hr7 hO1 hg7 he
              refine hK.out _ _ (cnIn3 hP : CnS nc c _) ?_
              try simp only [Act.put, List.setIfInBounds_toArray, List.set_cons_zero, List.set_cons_succ]
              clear hK
              refine anyG_step (rs := [9]) (by kernel_rfl) (by simp) ?_
              refine AllG.cons rfl (fun K hK => ?_) AllG.nil
              refine El.step_app cnInn rfl (.tmp 77) (.tmp 78) rfl B v2 (L1 ++ [c]) L3 rfl hO2 A3 (l.length - k) (cap - k) rfl HE3.out (tV.sl hBV) hz3 (by have := HE1.out; have := HE3.out; rw [List.length_append, List.length_singleton]; omega) hBV ?_
              intro v3 W9 hO3 hg9 _
              have hr9 := hO2.rows
              replace hP := hP.keep hg9 (fun e => by have := hr9 nc e.symm; omega)
              replace hB := hB.grown hg9 hB.size (fun k e => by have := hr9 k e; omega)
              clear hr9 hO2 hg9 tV
              refine hK.out _ _ (cnIn3 hP : CnS nc c _) ?_
              try simp only [Act.put, List.setIfInBounds_toArray, List.set_cons_zero, List.set_cons_succ]
              clear hK
              refine anyG_step (rs := [10]) (by kernel_rfl) (by simp) ?_
              refine AllG.last (n := 10) rfl (fun K hK => ?_)
              go_simp
              refine hK.out _ _ ?_
              try simp only [Act.put, List.setIfInBounds_toArray, List.set_cons_zero, List.set_cons_succ]
              clear hK
              refine anyG_done (by kernel_rfl) ?_ _
              rw [← HTO.out] at hO3
              obtain ⟨A', c', rfl, hS'⟩ := SlV.own hO3
              clear hO3
              go_wp2_with fail
              go_ret
              exact ⟨A', c', rfl, hS', hB⟩
            · skip
              have hal := below_alloc (Below.refl (U1).heap.size U1) (.cells #[.int .i64 c.d, .int .i64 c.i, .int .i64 c.n] 69)
              have hg := World.grownBy_alloc U1 (.cells #[.int .i64 c.d, .int .i64 c.i, .int .i64 c.n] 69) none
              have he : cnE.Sl ((U1).alloc (.cells #[.int .i64 c.d, .int .i64 c.i, .int .i64 c.n] 69)) (some ⟨(U1).heap.size, 0, none⟩) [c] := (El.In.new (E := cnE) U1 c _ rfl).sl
              have hn6 : (U1).heap.size < ((U1).alloc (.cells #[.int .i64 c.d, .int .i64 c.i, .int .i64 c.n] 69)).heap.size := by rw [alloc_size]; omega
              try have hn60 : (U1).heap.size ≠ n0 := by have := (hO0.lt n0 rfl).2; omega
              replace hP := hP.below hal
              try replace kV := kV.keep hg (fun k e => by cases e)
              replace tV := tV.keep hg (fun k e => by cases e)
              replace hB := hB.trans (hal.mono hB.size)
              replace hBV := Nat.le_trans hBV hal.size
              try replace hO0 := hO0.below hal
              try replace hO1 := hO1.below hal
              clear hg
              try clear hS
              go_simp
              refine hK.out _ _ (cnIn3 hP : CnS nc c _) ?_
              try simp only [Act.put, List.setIfInBounds_toArray, List.set_cons_zero, List.set_cons_succ]
              clear hK
              clear hal
              generalize (U1).alloc (.cells #[.int .i64 c.d, .int .i64 c.i, .int .i64 c.n] 69) = U2 at *
              generalize (U1).heap.size = n6 at *
              refine anyG_step (rs := [4]) (by kernel_rfl) (by simp) ?_
              refine AllG.cons rfl (fun K hK => ?_) AllG.nil
              refine El.step_app cnInn rfl (.tmp 70) (.tmp 73) rfl B _ [] L1 rfl hO0 A k cap rfl HE1.out (kV.sl hBV) hz (by have := HE1.out; simp; omega) hBV ?_
              intro v1 W4 hO1 hg4 _
              have hr := hO0.rows
              replace hO1 : cnE.Own W4 B v1 L1 := hO1
              replace hP := hP.keep hg4 (fun e => by have := hr nc e.symm; omega)
              replace tV := tV.keep hg4 hr
              replace hB := hB.grown hg4 hB.size (fun k e => by have := hr k e; omega)
              replace hBV := Nat.le_trans hBV hg4.size
              try replace he := he.keep1 hg4 (fun e => hn60 (Option.some.inj e))
              clear hr hO0 kV hg4
              refine hK.out _ _ (cnIn3 hP : CnS nc c _) ?_
              try simp only [Act.put, List.setIfInBounds_toArray, List.set_cons_zero, List.set_cons_succ]
              clear hK
              refine anyG_step (rs := [7]) (by kernel_rfl) (by simp) ?_
              refine AllG.cons rfl (fun K hK => ?_) AllG.nil
              refine El.step_app cnInn rfl (.tmp 74) (.tmp 76) rfl B v1 L1 [c] rfl hO1 (some ⟨n6, 0, none⟩) 1 1 rfl rfl he (fun e => by cases e) (by have := HE1.out; rw [List.length_singleton]; omega) hBV ?_
              intro v2 W7 hO2 hg7 _
              have hr7 := hO1.rows
              replace hP := hP.keep hg7 (fun e => by have := hr7 nc e.symm; omega)
              replace tV := tV.keep hg7 hr7
              replace hB := hB.grown hg7 hB.size (fun k e => by have := hr7 k e; omega)
              replace hBV := Nat.le_trans hBV hg7.size
              clear hr7 hO1 hg7 he
              refine hK.out _ _ (cnIn3 hP : CnS nc c _) ?_
              try simp only [Act.put, List.setIfInBounds_toArray, List.set_cons_zero, List.set_cons_succ]
              clear hK
              refine anyG_step (rs := [9]) (by kernel_rfl) (by simp) ?_
              refine AllG.cons rfl (fun K hK => ?_) AllG.nil
              refine El.step_app cnInn rfl (.tmp 77) (.tmp 78) rfl B v2 (L1 ++ [c]) L3 rfl hO2 A3 (l.length - k) (cap - k) rfl HE3.out (tV.sl hBV) hz3 (by have := HE1.out; have := HE3.out; rw [List.length_append, List.length_singleton]; omega) hBV ?_
              intro v3 W9 hO3 hg9 _
              have hr9 := hO2.rows
              replace hP := hP.keep hg9 (fun e => by have := hr9 nc e.symm; omega)
              replace hB := hB.grown hg9 hB.size (fun k e => by have := hr9 k e; omega)
              clear hr9 hO2 hg9 tV
              refine hK.out _ _ (cnIn3 hP : CnS nc c _) ?_
              try simp only [Act.put, List.setIfInBounds_toArray, List.set_cons_zero, List.set_cons_succ]
              clear hK
              refine anyG_step (rs := [10]) (by kernel_rfl) (by simp) ?_
              refine AllG.last (n := 10) rfl (fun K hK => ?_)
              go_simp
              refine hK.out _ _ ?_
              try simp only [Act.put, List.setIfInBounds_toArray, List.set_cons_zero, List.set_cons_succ]
              clear hK
              refine anyG_done (by kernel_rfl) ?_ _
              rw [← HTO.out] at hO3
              obtain ⟨A', c', rfl, hS'⟩ := SlV.own hO3
              clear hO3
              go_wp2_with fail
              go_ret
              exact ⟨A', c', rfl, hS', hB⟩
          · skip
            have hal := below_alloc (Below.refl (U).heap.size U) (.cells #[.int .i64 c.d, .int .i64 c.i, .int .i64 c.n] 69)
            have hg := World.grownBy_alloc U (.cells #[.int .i64 c.d, .int .i64 c.i, .int .i64 c.n] 69) none
            have he : cnE.Sl ((U).alloc (.cells #[.int .i64 c.d, .int .i64 c.i, .int .i64 c.n] 69)) (some ⟨(U).heap.size, 0, none⟩) [c] := (El.In.new (E := cnE) U c _ rfl).sl
            have hn6 : (U).heap.size < ((U).alloc (.cells #[.int .i64 c.d, .int .i64 c.i, .int .i64 c.n] 69)).heap.size := by rw [alloc_size]; omega
            try have hn60 : (U).heap.size ≠ n0 := by have := (hO0.lt n0 rfl).2; omega
            replace hP := hP.below hal
            try replace kV := kV.keep hg (fun k e => by cases e)
            replace tV := tV.keep hg (fun k e => by cases e)
            replace hB := hB.trans (hal.mono hB.size)
            replace hBV := Nat.le_trans hBV hal.size
            try replace hO0 := hO0.below hal
            try replace hO1 := hO1.below hal
            clear hg
            try clear hS
            go_simp
            refine hK.out _ _ (cnIn3 hP : CnS nc c _) ?_
            try simp only [Act.put, List.setIfInBounds_toArray, List.set_cons_zero, List.set_cons_succ]
            clear hK
            clear hal
            generalize (U).alloc (.cells #[.int .i64 c.d, .int .i64 c.i, .int .i64 c.n] 69) = U2 at *
            generalize (U).heap.size = n6 at *
            refine anyG_step (rs := [0]) (by kernel_rfl) (by simp) ?_
            refine AllG.cons rfl (fun K hK => ?_) AllG.nil
            have hal := below_alloc (Below.refl (U2).heap.size U2) (.cells #[] 69)
            have hg := World.grownBy_alloc U2 (.cells #[] 69) none
            have hO0 : cnE.Own ((U2).alloc (.cells #[] 69)) B (.slice (some ⟨(U2).heap.size, 0, none⟩) 0 0) [] := El.Own.empty (E := cnE) U2 B hBV
            replace hP := hP.below hal
            replace kV := kV.keep hg (fun k e => by cases e)
            replace tV := tV.keep hg (fun k e => by cases e)
            replace hB := hB.trans (hal.mono hB.size)
            replace hBV := Nat.le_trans hBV hal.size
            try replace he := he.below hal
            try have hn60 := Nat.ne_of_lt hn6
            clear hg
            try clear hS
            go_simp
            refine hK.out _ _ (cnIn3 hP : CnS nc c _) ?_
            try simp only [Act.put, List.setIfInBounds_toArray, List.set_cons_zero, List.set_cons_succ]
            clear hK
            clear hal
            generalize (U2).alloc (.cells #[] 69) = U1 at *
            generalize (U2).heap.size = n0 at *
            refine anyG_step (rs := [4]) (by kernel_rfl) (by simp) ?_
            refine AllG.cons rfl (fun K hK => ?_) AllG.nil
            refine El.step_app cnInn rfl (.tmp 70) (.tmp 73) rfl B _ [] L1 rfl hO0 A k cap rfl HE1.out (kV.sl hBV) hz (by have := HE1.out; simp; omega) hBV ?_
            intro v1 W4 hO1 hg4 _
            have hr := hO0.rows
            replace hO1 : cnE.Own W4 B v1 L1 := hO1
            replace hP := hP.keep hg4 (fun e => by have := hr nc e.symm; omega)
            replace tV := tV.keep hg4 hr
            replace hB := hB.grown hg4 hB.size (fun k e => by have := hr k e; omega)
            replace hBV := Nat.le_trans hBV hg4.size
            try replace he := he.keep1 hg4 (fun e => hn60 (Option.some.inj e))
            clear hr hO0 kV hg4
            refine hK.out _ _ (cnIn3 hP : CnS nc c _) ?_
            try simp only [Act.put, List.setIfInBounds_toArray, List.set_cons_zero, List.set_cons_succ]
            clear hK
            refine anyG_step (rs := [7]) (by kernel_rfl) (by simp) ?_
            refine AllG.cons rfl (fun K hK => ?_) AllG.nil
            refine El.step_app cnInn rfl (.tmp 74) (.tmp 76) rfl B v1 L1 [c] rfl hO1 (some ⟨n6, 0, none⟩) 1 1 rfl rfl he (fun e => by cases e) (by have := HE1.out; rw [List.length_singleton]; omega) hBV ?_
            intro v2 W7 hO2 hg7 _
            have hr7 := hO1.rows
            replace hP := hP.keep hg7 (fun e => by have := hr7 nc e.symm; omega)
            replace tV := tV.keep hg7 hr7
            replace hB := hB.grown hg7 hB.size (fun k e => by have := hr7 k e; omega)
            replace hBV := Nat.le_trans hBV hg7.size
            clear hr7 hO1 hg7 he
            refine hK.out _ _ (cnIn3 hP : CnS nc c _) ?_
            try simp only [Act.put, List.setIfInBounds_toArray, List.set_cons_zero, List.set_cons_succ]
            clear hK
            refine anyG_step (rs := [9]) (by kernel_rfl) (by simp) ?_
            refine AllG.cons rfl (fun K hK => ?_) AllG.nil
            refine El.step_app cnInn rfl (.tmp 77) (.tmp 78) rfl B v2 (L1 ++ [c]) L3 rfl hO2 A3 (l.length - k) (cap - k) rfl HE3.out (tV.sl hBV) hz3 (by have := HE1.out; have := HE3.out; rw [List.length_append, List.length_singleton]; omega) hBV ?_
            intro v3 W9 hO3 hg9 _
            have hr9 := hO2.rows
            replace hP := hP.keep hg9 (fun e => by have := hr9 nc e.symm; omega)
            replace hB := hB.grown hg9 hB.size (fun k e => by have := hr9 k e; omega)
            clear hr9 hO2 hg9 tV
            refine hK.out _ _ (cnIn3 hP : CnS nc c _) ?_
            try simp only [Act.put, List.setIfInBounds_toArray, List.set_cons_zero, List.set_cons_succ]
            clear hK
            refine anyG_step (rs := [10]) (by kernel_rfl) (by simp) ?_
            refine AllG.last (n := 10) rfl (fun K hK => ?_)
            go_simp
            refine hK.out _ _ ?_
            try simp only [Act.put, List.setIfInBounds_toArray, List.set_cons_zero, List.set_cons_succ]
            clear hK
            refine anyG_done (by kernel_rfl) ?_ _
            rw [← HTO.out] at hO3
            obtain ⟨A', c', rfl, hS'⟩ := SlV.own hO3
            clear hO3
            go_wp2_with fail
            go_ret
            exact ⟨A', c', rfl, hS', hB⟩
    · have hge : l.length ≤ k := by omega
      have hke : k = l.length := by have := cutC_le l c.d; omega
      have HX := Lib.hid (cutC_here hk (Or.inl hke))
      have HTO := Lib.hid (putC_no HX.out (Or.inl hke))
      have hle : k ≤ l.length := by omega
      have hgi : (l.length : Int) ≤ (k : Int) := by omega
      clear hke hkl
      obtain ⟨A3, hA3⟩ : ∃ A3, (if cap = k then A else Option.map (fun x => x.add ((k) * 3)) A) = A3 := ⟨_, rfl⟩
      have hT3 := hT.drop hlc hA3
      have hz3 := El.drop_none hz hA3
      have g0 : (0 : Int) ≤ (k : Int) := by omega
      have g1 : (k : Int) ≤ (cap : Int) := by omega
      have g2 : (k : Int) ≤ (l.length : Int) := by omega
      have g3 : (k : Int) + 1 ≤ (cap : Int) + 1 := by omega
      have f1 : decide ((k : Int) < (l.length : Int)) = false := decide_eq_false (by omega)
      have f2 : decide (k < l.length) = false := decide_eq_false (by omega)
      go_wp2_with fail
      go_quiet (fail)
      have hB1 := below_drew hB nq
      have hP1 : cnE.In (wr.drewN nq) nc c := hP
      clear hB hP q0 q1 q2
      go_wp2_with fail
      generalize wr.drewN nq = V1 at *
      go_quiet (fail)
      have hB := below_drew hB1 nq
      have hP : cnE.In (V1.drewN nq) nc c := hP1
      clear hB1 hP1
      go_wp2_with fail
      generalize V1.drewN nq = V at *
      clear hA3
      have HE1 := Lib.hid (show (l.take k).length = k by rw [List.length_take]; omega)
      have HE3 := Lib.hid (show (l.drop (k)).length = 0 by simp only [List.length_drop]; try omega)
      have htk := (hT.take k).below hB
      have ht3 := hT3.below hB
      generalize l.take k = L1 at *
      generalize l.drop (k) = L3 at *
      obtain ⟨B, hBe⟩ : ∃ B, V.heap.size = B := ⟨_, rfl⟩
      have hBV : B ≤ V.drew.heap.size := Nat.le_of_eq hBe.symm
      have kV : cnE.SlB B V.drew A L1 := El.SlB.of htk (Nat.le_of_eq hBe)
      have tV : cnE.SlB B V.drew A3 L3 := El.SlB.of ht3 (Nat.le_of_eq hBe)
      have hwB : w.heap.size ≤ B := by have := hB.size; omega
      have hnB : nc < B := by have := hP.lt; omega
      replace hP : cnE.In V.drew nc c := hP
      replace hB := hB.drew
      clear htk ht3 hBe hT hT3
      refine region_anyG (S := CnS nc c) 10 (by kernel_rfl) ?_
      generalize V.drew = U at *
      have hS : CnS nc c U := cnIn3 hP
      refine anyG_take (i := 1) (v := .slice A l.length cap) rfl (by kernel_rfl) (by kernel_rfl) (by kernel_rfl) (by kernel_rfl) (by kernel_rfl) (fun _ _ _ h => h) (Or.inl ⟨by rfl, fun w' hSw => by (obtain ⟨s0, s1, s2⟩ := hSw; go_simp)⟩) hS ?_
      try simp only [Act.put, List.setIfInBounds_toArray, List.set_cons_zero, List.set_cons_succ]
      refine anyG_take (i := 2) (v := .int .i64 k) rfl (by kernel_rfl) (by kernel_rfl) (by kernel_rfl) (by kernel_rfl) (by kernel_rfl) (fun _ _ _ h => h) (Or.inl ⟨by rfl, fun w' hSw => by (obtain ⟨s0, s1, s2⟩ := hSw; go_simp)⟩) hS ?_
      try simp only [Act.put, List.setIfInBounds_toArray, List.set_cons_zero, List.set_cons_succ]
      refine anyG_take (i := 3) (v := .slice A k cap) rfl (by kernel_rfl) (by kernel_rfl) (by kernel_rfl) (by kernel_rfl) (by kernel_rfl) (fun _ _ _ h => h) (Or.inl ⟨by rfl, fun w' hSw => by (obtain ⟨s0, s1, s2⟩ := hSw; go_simp)⟩) hS ?_
      try simp only [Act.put, List.setIfInBounds_toArray, List.set_cons_zero, List.set_cons_succ]
      refine anyG_take (i := 5) (v := .agg #[.int .i64 c.d, .int .i64 c.i, .int .i64 c.n]) rfl (by kernel_rfl) (by kernel_rfl) (by kernel_rfl) (by kernel_rfl) (by kernel_rfl) (fun _ _ _ h => h) (Or.inl ⟨by rfl, fun w' hSw => by (obtain ⟨s0, s1, s2⟩ := hSw; go_simp)⟩) hS ?_
      try simp only [Act.put, List.setIfInBounds_toArray, List.set_cons_zero, List.set_cons_succ]
      refine anyG_take (i := 8) (v := .slice A3 (0) (cap - k)) rfl (by kernel_rfl) (by kernel_rfl) (by kernel_rfl) (by kernel_rfl) (by kernel_rfl) (fun _ _ _ h => h) (Or.inl ⟨by rfl, fun w' hSw => by (obtain ⟨s0, s1, s2⟩ := hSw; go_simp)⟩) hS ?_
      try simp only [Act.put, List.setIfInBounds_toArray, List.set_cons_zero, List.set_cons_succ]
      refine anyG_step (rs := [0, 6]) (by kernel_rfl) (by simp) ?_
      refine AllG.cons rfl (fun K hK => ?_) (AllG.cons rfl (fun K hK => ?_) AllG.nil)
      · skip
        have hal := below_alloc (Below.refl (U).heap.size U) (.cells #[] 69)
        have hg := World.grownBy_alloc U (.cells #[] 69) none
        have hO0 : cnE.Own ((U).alloc (.cells #[] 69)) B (.slice (some ⟨(U).heap.size, 0, none⟩) 0 0) [] := El.Own.empty (E := cnE) U B hBV
        replace hP := hP.below hal
        replace kV := kV.keep hg (fun k e => by cases e)
        replace tV := tV.keep hg (fun k e => by cases e)
        replace hB := hB.trans (hal.mono hB.size)
        replace hBV := Nat.le_trans hBV hal.size
        try replace he := he.below hal
        try have hn60 := Nat.ne_of_lt hn6
        clear hg
        try clear hS
        go_simp
        refine hK.out _ _ (cnIn3 hP : CnS nc c _) ?_
        try simp only [Act.put, List.setIfInBounds_toArray, List.set_cons_zero, List.set_cons_succ]
        clear hK
        clear hal
        generalize (U).alloc (.cells #[] 69) = U1 at *
        generalize (U).heap.size = n0 at *
        refine anyG_step (rs := [4, 6]) (by kernel_rfl) (by simp) ?_
        refine AllG.cons rfl (fun K hK => ?_) (AllG.cons rfl (fun K hK => ?_) AllG.nil)
        · skip
          refine El.step_app cnInn rfl (.tmp 70) (.tmp 73) rfl B _ [] L1 rfl hO0 A k cap rfl HE1.out (kV.sl hBV) hz (by have := HE1.out; simp; omega) hBV ?_
          intro v1 W4 hO1 hg4 _
          have hr := hO0.rows
          replace hO1 : cnE.Own W4 B v1 L1 := hO1
          replace hP := hP.keep hg4 (fun e => by have := hr nc e.symm; omega)
          replace tV := tV.keep hg4 hr
          replace hB := hB.grown hg4 hB.size (fun k e => by have := hr k e; omega)
          replace hBV := Nat.le_trans hBV hg4.size
          try replace he := he.keep1 hg4 (fun e => hn60 (Option.some.inj e))
          clear hr hO0 kV hg4
          refine hK.out _ _ (cnIn3 hP : CnS nc c _) ?_
          try simp only [Act.put, List.setIfInBounds_toArray, List.set_cons_zero, List.set_cons_succ]
          clear hK
          refine anyG_step (rs := [6]) (by kernel_rfl) (by simp) ?_
          refine AllG.cons rfl (fun K hK => ?_) AllG.nil
          have hal := below_alloc (Below.refl (W4).heap.size W4) (.cells #[.int .i64 c.d, .int .i64 c.i, .int .i64 c.n] 69)
          have hg := World.grownBy_alloc W4 (.cells #[.int .i64 c.d, .int .i64 c.i, .int .i64 c.n] 69) none
          have he : cnE.Sl ((W4).alloc (.cells #[.int .i64 c.d, .int .i64 c.i, .int .i64 c.n] 69)) (some ⟨(W4).heap.size, 0, none⟩) [c] := (El.In.new (E := cnE) W4 c _ rfl).sl
          have hn6 : (W4).heap.size < ((W4).alloc (.cells #[.int .i64 c.d, .int .i64 c.i, .int .i64 c.n] 69)).heap.size := by rw [alloc_size]; omega
          try have hn60 : (W4).heap.size ≠ n0 := by have := (hO0.lt n0 rfl).2; omega
          replace hP := hP.below hal
          try replace kV := kV.keep hg (fun k e => by cases e)
          replace tV := tV.keep hg (fun k e => by cases e)
          replace hB := hB.trans (hal.mono hB.size)
          replace hBV := Nat.le_trans hBV hal.size
          try replace hO0 := hO0.below hal
          try replace hO1 := hO1.below hal
          clear hg
          try clear hS
          go_simp
          refine hK.out _ _ (cnIn3 hP : CnS nc c _) ?_
          try simp only [Act.put, List.setIfInBounds_toArray, List.set_cons_zero, List.set_cons_succ]
          clear hK
          clear hal
          generalize (W4).alloc (.cells #[.int .i64 c.d, .int .i64 c.i, .int .i64 c.n] 69) = U2 at *
          generalize (W4).heap.size = n6 at *
          refine anyG_step (rs := [7]) (by kernel_rfl) (by simp) ?_
          refine AllG.cons rfl (fun K hK => ?_) AllG.nil
          refine El.step_app cnInn rfl (.tmp 74) (.tmp 76) rfl B v1 L1 [c] rfl hO1 (some ⟨n6, 0, none⟩) 1 1 rfl rfl he (fun e => by cases e) (by have := HE1.out; rw [List.length_singleton]; omega) hBV ?_
          intro v2 W7 hO2 hg7 _
          have hr7 := hO1.rows
          replace hP := hP.keep hg7 (fun e => by have := hr7 nc e.symm; omega)
          replace tV := tV.keep hg7 hr7
          replace hB := hB.grown hg7 hB.size (fun k e => by have := hr7 k e; omega)
          replace hBV := Nat.le_trans hBV hg7.size
          clear hr7 hO1 hg7 he
          refine hK.out _ _ (cnIn3 hP : CnS nc c _) ?_
          try simp only [Act.put, List.setIfInBounds_toArray, List.set_cons_zero, List.set_cons_succ]
          clear hK
          refine anyG_step (rs := [9]) (by kernel_rfl) (by simp) ?_
          refine AllG.cons rfl (fun K hK => ?_) AllG.nil
          refine El.step_app cnInn rfl (.tmp 77) (.tmp 78) rfl B v2 (L1 ++ [c]) L3 rfl hO2 A3 (0) (cap - k) rfl HE3.out (tV.sl hBV) hz3 (by have := HE1.out; have := HE3.out; rw [List.length_append, List.length_singleton]; omega) hBV ?_
          intro v3 W9 hO3 hg9 _
          have hr9 := hO2.rows
          replace hP := hP.keep hg9 (fun e => by have := hr9 nc e.symm; omega)
          replace hB := hB.grown hg9 hB.size (fun k e => by have := hr9 k e; omega)
          clear hr9 hO2 hg9 tV
          refine hK.out _ _ (cnIn3 hP : CnS nc c _) ?_
          try simp only [Act.put, List.setIfInBounds_toArray, List.set_cons_zero, List.set_cons_succ]
          clear hK
          refine anyG_step (rs := [10]) (by kernel_rfl) (by simp) ?_
          refine AllG.last (n := 10) rfl (fun K hK => ?_)
          go_simp
          refine hK.out _ _ ?_
          try simp only [Act.put, List.setIfInBounds_toArray, List.set_cons_zero, List.set_cons_succ]
          clear hK
          refine anyG_done (by kernel_rfl) ?_ _
          rw [← HTO.out] at hO3
          obtain ⟨A', c', rfl, hS'⟩ := SlV.own hO3
          clear hO3
          go_wp2_with fail
          go_ret
          exact ⟨A', c', rfl, hS', hB⟩
        · skip
          have hal := below_alloc (Below.refl (U1).heap.size U1) (.cells #[.int .i64 c.d, .int .i64 c.i, .int .i64 c.n] 69)
          have hg := World.grownBy_alloc U1 (.cells #[.int .i64 c.d, .int .i64 c.i, .int .i64 c.n] 69) none
          have he : cnE.Sl ((U1).alloc (.cells #[.int .i64 c.d, .int .i64 c.i, .int .i64 c.n] 69)) (some ⟨(U1).heap.size, 0, none⟩) [c] := (El.In.new (E := cnE) U1 c _ rfl).sl
          have hn6 : (U1).heap.size < ((U1).alloc (.cells #[.int .i64 c.d, .int .i64 c.i, .int .i64 c.n] 69)).heap.size := by rw [alloc_size]; omega
          try have hn60 : (U1).heap.size ≠ n0 := by have := (hO0.lt n0 rfl).2; omega
          replace hP := hP.below hal
          try replace kV := kV.keep hg (fun k e => by cases e)
          replace tV := tV.keep hg (fun k e => by cases e)
          replace hB := hB.trans (hal.mono hB.size)
          replace hBV := Nat.le_trans hBV hal.size
          try replace hO0 := hO0.below hal
          try replace hO1 := hO1.below hal
          clear hg
          try clear hS
          go_simp
          refine hK.out _ _ (cnIn3 hP : CnS nc c _) ?_
          try simp only [Act.put, List.setIfInBounds_toArray, List.set_cons_zero, List.set_cons_succ]
          clear hK
          clear hal
          generalize (U1).alloc (.cells #[.int .i64 c.d, .int .i64 c.i, .int .i64 c.n] 69) = U2 at *
          generalize (U1).heap.size = n6 at *
          refine anyG_step (rs := [4]) (by kernel_rfl) (by simp) ?_
          refine AllG.cons rfl (fun K hK => ?_) AllG.nil
          refine El.step_app cnInn rfl (.tmp 70) (.tmp 73) rfl B _ [] L1 rfl hO0 A k cap rfl HE1.out (kV.sl hBV) hz (by have := HE1.out; simp; omega) hBV ?_
          intro v1 W4 hO1 hg4 _
          have hr := hO0.rows
          replace hO1 : cnE.Own W4 B v1 L1 := hO1
          replace hP := hP.keep hg4 (fun e => by have := hr nc e.symm; omega)
          replace tV := tV.keep hg4 hr
          replace hB := hB.grown hg4 hB.size (fun k e => by have := hr k e; omega)
          replace hBV := Nat.le_trans hBV hg4.size
          try replace he := he.keep1 hg4 (fun e => hn60 (Option.some.inj e))
          clear hr hO0 kV hg4
          refine hK.out _ _ (cnIn3 hP : CnS nc c _) ?_
          try simp only [Act.put, List.setIfInBounds_toArray, List.set_cons_zero, List.set_cons_succ]
          clear hK
          refine anyG_step (rs := [7]) (by kernel_rfl) (by simp) ?_
          refine AllG.cons rfl (fun K hK => ?_) AllG.nil
          refine El.step_app cnInn rfl (.tmp 74) (.tmp 76) rfl B v1 L1 [c] rfl hO1 (some ⟨n6, 0, none⟩) 1 1 rfl rfl he (fun e => by cases e) (by have := HE1.out; rw [List.length_singleton]; omega) hBV ?_
          intro v2 W7 hO2 hg7 _
          have hr7 := hO1.rows
          replace hP := hP.keep hg7 (fun e => by have := hr7 nc e.symm; omega)
          replace tV := tV.keep hg7 hr7
          replace hB := hB.grown hg7 hB.size (fun k e => by have := hr7 k e; omega)
          replace hBV := Nat.le_trans hBV hg7.size
          clear hr7 hO1 hg7 he
          refine hK.out _ _ (cnIn3 hP : CnS nc c _) ?_
          try simp only [Act.put, List.setIfInBounds_toArray, List.set_cons_zero, List.set_cons_succ]
          clear hK
          refine anyG_step (rs := [9]) (by kernel_rfl) (by simp) ?_
          refine AllG.cons rfl (fun K hK => ?_) AllG.nil
          refine El.step_app cnInn rfl (.tmp 77) (.tmp 78) rfl B v2 (L1 ++ [c]) L3 rfl hO2 A3 (0) (cap - k) rfl HE3.out (tV.sl hBV) hz3 (by have := HE1.out; have := HE3.out; rw [List.length_append, List.length_singleton]; omega) hBV ?_
          intro v3 W9 hO3 hg9 _
          have hr9 := hO2.rows
          replace hP := hP.keep hg9 (fun e => by have := hr9 nc e.symm; omega)
          replace hB := hB.grown hg9 hB.size (fun k e => by have := hr9 k e; omega)
          clear hr9 hO2 hg9 tV
          refine hK.out _ _ (cnIn3 hP : CnS nc c _) ?_
          try simp only [Act.put, List.setIfInBounds_toArray, List.set_cons_zero, List.set_cons_succ]
          clear hK
          refine anyG_step (rs := [10]) (by kernel_rfl) (by simp) ?_
          refine AllG.last (n := 10) rfl (fun K hK => ?_)
          go_simp
          refine hK.out _ _ ?_
          try simp only [Act.put, List.setIfInBounds_toArray, List.set_cons_zero, List.set_cons_succ]
          clear hK
          refine anyG_done (by kernel_rfl) ?_ _
          rw [← HTO.out] at hO3
          obtain ⟨A', c', rfl, hS'⟩ := SlV.own hO3
          clear hO3
          go_wp2_with fail
          go_ret
          exact ⟨A', c', rfl, hS', hB⟩
      · skip
        have hal := below_alloc (Below.refl (U).heap.size U) (.cells #[.int .i64 c.d, .int .i64 c.i, .int .i64 c.n] 69)
        have hg := World.grownBy_alloc U (.cells #[.int .i64 c.d, .int .i64 c.i, .int .i64 c.n] 69) none
        have he : cnE.Sl ((U).alloc (.cells #[.int .i64 c.d, .int .i64 c.i, .int .i64 c.n] 69)) (some ⟨(U).heap.size, 0, none⟩) [c] := (El.In.new (E := cnE) U c _ rfl).sl
        have hn6 : (U).heap.size < ((U).alloc (.cells #[.int .i64 c.d, .int .i64 c.i, .int .i64 c.n] 69)).heap.size := by rw [alloc_size]; omega
        try have hn60 : (U).heap.size ≠ n0 := by have := (hO0.lt n0 rfl).2; omega
        replace hP := hP.below hal
        try replace kV := kV.keep hg (fun k e => by cases e)
        replace tV := tV.keep hg (fun k e => by cases e)
        replace hB := hB.trans (hal.mono hB.size)
        replace hBV := Nat.le_trans hBV hal.size
        try replace hO0 := hO0.below hal
        try replace hO1 := hO1.below hal
        clear hg
        try clear hS
        go_simp
        refine hK.out _ _ (cnIn3 hP : CnS nc c _) ?_
        try simp only [Act.put, List.setIfInBounds_toArray, List.set_cons_zero, List.set_cons_succ]
        clear hK
        clear hal
        generalize (U).alloc (.cells #[.int .i64 c.d, .int .i64 c.i, .int .i64 c.n] 69) = U2 at *
        generalize (U).heap.size = n6 at *
        refine anyG_step (rs := [0]) (by kernel_rfl) (by simp) ?_
        refine AllG.cons rfl (fun K hK => ?_) AllG.nil
        have hal := below_alloc (Below.refl (U2).heap.size U2) (.cells #[] 69)
        have hg := World.grownBy_alloc U2 (.cells #[] 69) none
        have hO0 : cnE.Own ((U2).alloc (.cells #[] 69)) B (.slice (some ⟨(U2).heap.size, 0, none⟩) 0 0) [] := El.Own.empty (E := cnE) U2 B hBV
        replace hP := hP.below hal
        replace kV := kV.keep hg (fun k e => by cases e)
        replace tV := tV.keep hg (fun k e => by cases e)
        replace hB := hB.trans (hal.mono hB.size)
        replace hBV := Nat.le_trans hBV hal.size
        try replace he := he.below hal
        try have hn60 := Nat.ne_of_lt hn6
        clear hg
        try clear hS
        go_simp
        refine hK.out _ _ (cnIn3 hP : CnS nc c _) ?_
        try simp only [Act.put, List.setIfInBounds_toArray, List.set_cons_zero, List.set_cons_succ]
        clear hK
        clear hal
        generalize (U2).alloc (.cells #[] 69) = U1 at *
        generalize (U2).heap.size = n0 at *
        refine anyG_step (rs := [4]) (by kernel_rfl) (by simp) ?_
        refine AllG.cons rfl (fun K hK => ?_) AllG.nil
        refine El.step_app cnInn rfl (.tmp 70) (.tmp 73) rfl B _ [] L1 rfl hO0 A k cap rfl HE1.out (kV.sl hBV) hz (by have := HE1.out; simp; omega) hBV ?_
        intro v1 W4 hO1 hg4 _
        have hr := hO0.rows
        replace hO1 : cnE.Own W4 B v1 L1 := hO1
        replace hP := hP.keep hg4 (fun e => by have := hr nc e.symm; omega)
        replace tV := tV.keep hg4 hr
        replace hB := hB.grown hg4 hB.size (fun k e => by have := hr k e; omega)
        replace hBV := Nat.le_trans hBV hg4.size
        try replace he := he.keep1 hg4 (fun e => hn60 (Option.some.inj e))
        clear hr hO0 kV hg4
        refine hK.out _ _ (cnIn3 hP : CnS nc c _) ?_
        try simp only [Act.put, List.setIfInBounds_toArray, List.set_cons_zero, List.set_cons_succ]
        clear hK
        refine anyG_step (rs := [7]) (by kernel_rfl) (by simp) ?_
        refine AllG.cons rfl (fun K hK => ?_) AllG.nil
        refine El.step_app cnInn rfl (.tmp 74) (.tmp 76) rfl B v1 L1 [c] rfl hO1 (some ⟨n6, 0, none⟩) 1 1 rfl rfl he (fun e => by cases e) (by have := HE1.out; rw [List.length_singleton]; omega) hBV ?_
        intro v2 W7 hO2 hg7 _
        have hr7 := hO1.rows
        replace hP := hP.keep hg7 (fun e => by have := hr7 nc e.symm; omega)
        replace tV := tV.keep hg7 hr7
        replace hB := hB.grown hg7 hB.size (fun k e => by have := hr7 k e; omega)
        replace hBV := Nat.le_trans hBV hg7.size
        clear hr7 hO1 hg7 he
        refine hK.out _ _ (cnIn3 hP : CnS nc c _) ?_
        try simp only [Act.put, List.setIfInBounds_toArray, List.set_cons_zero, List.set_cons_succ]
        clear hK
        refine anyG_step (rs := [9]) (by kernel_rfl) (by simp) ?_
        refine AllG.cons rfl (fun K hK => ?_) AllG.nil
        refine El.step_app cnInn rfl (.tmp 77) (.tmp 78) rfl B v2 (L1 ++ [c]) L3 rfl hO2 A3 (0) (cap - k) rfl HE3.out (tV.sl hBV) hz3 (by have := HE1.out; have := HE3.out; rw [List.length_append, List.length_singleton]; omega) hBV ?_
        intro v3 W9 hO3 hg9 _
        have hr9 := hO2.rows
        replace hP := hP.keep hg9 (fun e => by have := hr9 nc e.symm; omega)
        replace hB := hB.grown hg9 hB.size (fun k e => by have := hr9 k e; omega)
        clear hr9 hO2 hg9 tV
        refine hK.out _ _ (cnIn3 hP : CnS nc c _) ?_
        try simp only [Act.put, List.setIfInBounds_toArray, List.set_cons_zero, List.set_cons_succ]
        clear hK
        refine anyG_step (rs := [10]) (by kernel_rfl) (by simp) ?_
        refine AllG.last (n := 10) rfl (fun K hK => ?_)
        go_simp
        refine hK.out _ _ ?_
        try simp only [Act.put, List.setIfInBounds_toArray, List.set_cons_zero, List.set_cons_succ]
        clear hK
        refine anyG_done (by kernel_rfl) ?_ _
        rw [← HTO.out] at hO3
        obtain ⟨A', c', rfl, hS'⟩ := SlV.own hO3
        clear hO3
        go_wp2_with fail
        go_ret
        exact ⟨A', c', rfl, hS', hB⟩
theorem refTally_any (A : Option Addr) (c : Nat) (l : List Cn) (e : En) (w : World) (hl : l.length ≤ 1000) (hT : SlV cnE w A c l) : Calls Try.prog 20 #[.slice A l.length c, .agg #[.int .i64 e.k, .int .i64 e.d, .int .i64 e.i, .int .i64 e.o.C, .int .i64 e.o.D, .int .i64 e.o.I, .int .i64 e.o.M, .int .i64 e.o.K, .int .i64 e.o.U, .string e.o.s]] w fun r w' => ∃ A' c', r = .returned (.slice A' (tally l e).length c') ∧ SlV cnE w' A' c' (tally l e) ∧ Below w.heap.size w w' := by
  by_cases h1 : e.k = 1
  · have hv : tally l e = putC l ⟨e.o.D, e.o.I, e.o.M⟩ := by unfold tally cntOf; rw [if_pos h1]
    rw [hv]
    exact refTally_op A c l e _ w hl hT h1 rfl
  · by_cases h3 : e.k = 3
    · have hv : tally l e = putC l ⟨e.d, e.i, 0⟩ := by unfold tally cntOf; rw [if_neg h1, if_pos h3]
      rw [hv]
      exact refTally_in A c l e _ w hl hT h3 rfl
    · have hv : tally l e = l := by unfold tally cntOf; rw [if_neg h1, if_neg h3]
      rw [hv]
      exact refTally_none A c l e w hl hT h1 h3
end Go.Proofs.Ytfpgfclmmdihjaa
