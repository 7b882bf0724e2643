/- Texts laid one behind the other: Pc, Ie, If, Ig, Pg, Pr. -/
import Derived.Test.YtfpgfclmmdihjaaB09
import Derived.Test.YtfpgfclmmdihjaaRows
import Derived.Deep.RegionHeld3
import Derived.Lib.QuietBelow
import Derived.BigQuiet
/- The document's Merge of gifts. -/
namespace Go.Proofs.Ytfpgfclmmdihjaa
open Go.RowKit Cod

def GfS (n : Nat) (r : Gf) (w : World) : Prop := w.cell? ⟨n, 0, none⟩ = some (.int .i64 r.d) ∧ w.cell? ⟨n, 1, none⟩ = some (.int .i64 r.i) ∧ w.cell? ⟨n, 2, none⟩ = some (.int .i64 r.c) ∧ w.cell? ⟨n, 3, none⟩ = some (.int .i64 r.t) ∧ w.cell? ⟨n, 4, none⟩ = some (.string r.s)

set_option maxRecDepth 100000 in
set_option maxHeartbeats 4000000 in
theorem refMergeG_any (A : Option Addr) (cap : Nat) (l : List Gf) (c : Gf) (w : World) (hl : l.length ≤ 1000) (hT : SlV gfE w A cap l) :
    Calls Try.prog 13 #[.slice A l.length cap, .agg #[.int .i64 c.d, .int .i64 c.i, .int .i64 c.c, .int .i64 c.t, .string c.s]] w fun e w' => ∃ (A' : Option Addr) (c' : Nat), e = .returned (.slice A' (mergeG l c).length c') ∧ SlV gfE w' A' c' (mergeG l c) ∧ Below w.heap.size w w' := by
  obtain ⟨hT, hz, hlc⟩ := hT
  have hP : gfE.In (w.alloc (.cells #[.int .i64 c.d, .int .i64 c.i, .int .i64 c.c, .int .i64 c.t, .string c.s] 37)) w.heap.size c := El.In.new (E := gfE) w c _ rfl
  have hB := below_alloc (Below.refl w.heap.size w) (.cells #[.int .i64 c.d, .int .i64 c.i, .int .i64 c.c, .int .i64 c.t, .string c.s] 37)
  obtain ⟨RM, hRM⟩ : ∃ RM, mergeG l c = RM := ⟨_, rfl⟩
  rw [hRM]
  have HRM := Lib.hid hRM
  clear hRM
  go_enter Try.func13, Try.ntmps13
  go_wp2_with fail
  generalize w.alloc (.cells #[.int .i64 c.d, .int .i64 c.i, .int .i64 c.c, .int .i64 c.t, .string c.s] 37) = W0 at *
  obtain ⟨nc, hnc⟩ : ∃ n, w.heap.size = n := ⟨_, rfl⟩
  rw [hnc] at hP ⊢
  have hwn : w.heap.size ≤ nc := by omega
  clear hnc
  go_loopw [5] (fun y wr => ∃ k : Nat, k ≤ cutG l c.d ∧ y = .int .i64 k ∧ gfE.In wr nc c ∧ Below w.heap.size w wr) (fun y _ => l.length - (intOf y).toNat)
  case atStart => exact ⟨0, Nat.zero_le _, rfl, hP, hB⟩
  case round =>
    clear hP hB
    obtain ⟨k, hk, rfl, hP, hB⟩ := hrel
    obtain ⟨q0, q1, q2, q3, q4⟩ := gfIn5 hP
    by_cases hkl : k < l.length
    · obtain ⟨b, off, hA, hbw, hc⟩ := hT (by omega)
      have hat : gfE.At wr b (off + k * 5) l[k] := (hc k hkl).below hB hbw
      have hx := gfIdxH (cap := cap) hA hkl
      obtain ⟨s0, s1, s2, s3, s4⟩ := gfAt5 hat
      by_cases hd : l[k].d < c.d
      · have HN := Lib.hid (cutG_next hk hkl hd)
        have f1 : decide (l[k].d < c.d) = true := decide_eq_true hd
        have hki : (k : Int) < (l.length : Int) := by omega
        clear hc hat hA
        generalize l[k].d = x0 at *
        go_wp2_with fail
        go_quiet (fail)
        go_wp2_with fail
        exact ⟨⟨k + 1, HN.out, by go_num, hP, below_drew hB nq⟩, by simp [intOf]; omega⟩
      · have HX := Lib.hid (cutG_here hk (Or.inr ⟨hkl, by omega⟩))
        have f1 : decide (l[k].d < c.d) = false := decide_eq_false hd
        have hki : (k : Int) < (l.length : Int) := by omega
        have n1 : ((k : Int) == (l.length : Int)) = false := beq_eq_false_iff_ne.2 (by omega)
        have n2 : decide ((k : Int) = (l.length : Int)) = false := decide_eq_false (by omega)
        have n3 : (k == l.length) = false := beq_eq_false_iff_ne.2 (by omega)
        have n4 : decide (k = l.length) = false := decide_eq_false (by omega)
        have HC := Lib.hid hc
        have HAA := Lib.hid hA
        clear hc hat hA
        by_cases he : l[k].d = c.d
        · have hold := mergeG_old l c (by rw [← HX.out]; exact hkl)
          simp only [← HX.out] at hold
          have HM := Lib.hid (hold he)
          clear hold
          generalize hx0 : l[k].d = x0 at *
          have g5 : (x0 == c.d) = true := beq_iff_eq.2 he
          have g6 : decide (x0 = c.d) = true := decide_eq_true he
          have g7 : (x0 != c.d) = false := by simp [he]
          have g8 : decide (¬ x0 = c.d) = false := by simp [he]
          clear he hx0
          go_wp2_with fail
          go_quiet (fail)
          have hB1 := below_drew hB nq
          have hP1 : gfE.In (wr.drewN nq) nc c := hP
          have s01 : (wr.drewN nq).cell? ⟨b, off + k * 5, none⟩ = some (.int .i64 x0) := s0
          clear hB hP s0 s1 s2 s3 s4 q0 q1 q2 q3 q4 f1
          go_wp2_with fail
          generalize wr.drewN nq = V1 at *
          obtain ⟨q0, q1, q2, q3, q4⟩ := gfIn5 hP1
          go_quiet (fail)
          clear s01 q0 q1 q2 q3 q4 g5 g6 g7 g8 n1 n2 n3 n4
          have hB := below_drew hB1 nq
          have hP : gfE.In (V1.drewN nq) nc c := hP1
          clear hB1 hP1
          generalize V1.drewN nq = V at *
          have hE := El.Own.empty (E := gfE) V V.heap.size (Nat.le_refl _)
          have hb0 := below_alloc (Below.refl V.heap.size V) (.cells #[] 37)
          have hTV := hT.below (hB.trans (hb0.mono hB.size))
          have hP0 := hP.below hb0
          have hB0 := below_then hB hb0
          obtain ⟨g, hg⟩ : ∃ g, V.heap.size = g := ⟨_, rfl⟩
          have hgw : w.heap.size ≤ g := by have := hB.size; omega
          have hncg : nc < g := by have := hP.lt; omega
          have hg1 : g ≤ (V.alloc (.cells #[] 37)).heap.size := by rw [alloc_size]; omega
          rw [hg] at hE
          clear hP hB hb0
          go_wp2_with (at_builtin; refine El.wpList_app gfInn rfl _ _ rfl g (.slice (some ⟨g, 0, none⟩) 0 0) [] l (by rw [← hg]; rfl) hE A l.length cap rfl rfl hTV hz (by simp; omega) hg1 ?_; intro v' w4 hO hg4 _)
          have hr4 : ∀ kk, Value.ownBlock (.slice (some ⟨g, 0, none⟩) 0 0) = some kk → kk = g := fun kk e => by cases e; rfl
          replace hP0 := hP0.keep hg4 (fun e => by have := hr4 nc e.symm; omega)
          replace hB0 := hB0.grown hg4 hB0.size (fun kk e => by have := hr4 kk e; omega)
          replace hO : gfE.Own w4 g v' l := hO
          have hat : gfE.At w4 b (off + k * 5) l[k] := (HC.out k hkl).below hB0 hbw
          have hv2 := hO.lt
          clear hr4 hg4 hTV hE hg1
          obtain ⟨A2, c2, rfl, hS2⟩ := SlV.own hO
          generalize l[k] = x at *
          obtain ⟨bn, hbn⟩ : ∃ bn, newG c x = bn := ⟨_, rfl⟩
          have CN := Lib.hid (fun wx => (by
            have h := refNewerG_any c x wx
            rw [hbn] at h
            exact h : Calls Try.prog 18 #[.agg #[.int .i64 c.d, .int .i64 c.i, .int .i64 c.c, .int .i64 c.t, .string c.s], .agg #[.int .i64 x.d, .int .i64 x.i, .int .i64 x.c, .int .i64 x.t, .string x.s]] wx fun e w' => e = .returned (.bool bn) ∧ Below wx.heap.size wx w'))
          have HM2 := Lib.hid (show mergeG l c = if bn = true then l.set k c else l by rw [← hbn]; exact HM.out)
          have hbr : b < w4.heap.size := Nat.lt_of_lt_of_le hbw hB0.size
          clear HM hbn HC
          replace hP0 : gfE.In w4.drew nc c := hP0
          replace hat : gfE.At w4.drew b (off + k * 5) x := hat
          replace hO : gfE.Own w4.drew g (.slice A2 l.length c2) l := hO
          replace hS2 : SlV gfE w4.drew A2 c2 l := hS2
          replace hB0 := hB0.drew
          replace hbr : b < w4.drew.heap.size := hbr
          go_region_held3 (fun w' => (w'.cell? ⟨nc, 0, none⟩ = some (.int .i64 c.d) ∧ w'.cell? ⟨nc, 1, none⟩ = some (.int .i64 c.i) ∧ w'.cell? ⟨nc, 2, none⟩ = some (.int .i64 c.c) ∧ w'.cell? ⟨nc, 3, none⟩ = some (.int .i64 c.t) ∧ w'.cell? ⟨nc, 4, none⟩ = some (.string c.s)) ∧ (w'.cell? ⟨b, off + k * 5, none⟩ = some (.int .i64 x.d) ∧ w'.cell? ⟨b, off + k * 5 + 1, none⟩ = some (.int .i64 x.i) ∧ w'.cell? ⟨b, off + k * 5 + 2, none⟩ = some (.int .i64 x.c) ∧ w'.cell? ⟨b, off + k * 5 + 3, none⟩ = some (.int .i64 x.t) ∧ w'.cell? ⟨b, off + k * 5 + 4, none⟩ = some (.string x.s))) (with_reducible exact ⟨gfIn5 hP0, gfAt5 hat⟩) (first | (go_at_call 18; (with_reducible refine (CN.out _).mono ?_); rintro e w6 ⟨rfl, hb6⟩; replace hP0 := hP0.below hb6; replace hat := hat.below hb6 hbr; replace hO := hO.below hb6; replace hS2 := hS2.below hb6; replace hB0 := below_then hB0 hb6; clear hb6))
          obtain ⟨g2, hA2⟩ : ∃ g2, A2 = some ⟨g2, 0, none⟩ := by
            rcases hO.2 with ⟨e, h0⟩ | ⟨g', cap', cur', e, _⟩
            · injection e with e1 e2 e3; omega
            · injection e with e1 e2 e3; exact ⟨g', e1⟩
          subst hA2
          cases bn
          · have hm := HM2.out
            rw [if_neg (by decide)] at hm
            have HM3 := Lib.hid hm
            clear hm
            go_wp2_with fail
            go_ret
            exact ⟨_, c2, by rw [← HRM.out, HM3.out]; rfl, by rw [← HRM.out, HM3.out]; exact hS2, hB0⟩
          · have hm := HM2.out
            rw [if_pos rfl] at hm
            have HM3 := Lib.hid hm
            clear hm
            have hx2 := gfIdxH (cap := c2) (A := some ⟨g2, 0, none⟩) rfl hkl
            simp only [Nat.zero_add] at hx2
            go_wp2_with (first | (refine El.load gfRow rfl _ rfl nc 0 rfl c hP0.at #[.int .i64 c.d, .int .i64 c.i, .int .i64 c.c, .int .i64 c.t, .string c.s] rfl ?_) | (refine El.wpList_setAt gfRow rfl _ _ rfl g g2 c2 k l c hO hkl #[.int .i64 c.d, .int .i64 c.i, .int .i64 c.c, .int .i64 c.t, .string c.s] rfl rfl rfl ?_; intro w7 hO7 hg7 _) | fail)
            go_ret
            obtain ⟨A8, c8, e8, hS8⟩ := SlV.own (l := l.set k c) (by have h := hO7; unfold El.Own at h ⊢; rw [List.length_set]; rw [List.length_set] at h; exact h : gfE.Own w7 g (.slice (some ⟨g2, 0, none⟩) l.length c2) (l.set k c))
            have hSS : SlV gfE w7 (some ⟨g2, 0, none⟩) c2 (l.set k c) := by
              injection e8 with e1 e2 e3
              subst e1 e3
              exact hS8
            exact ⟨some ⟨g2, 0, none⟩, c2, by rw [← HRM.out, HM3.out, List.length_set]; rfl, by rw [← HRM.out, HM3.out]; exact hSS, hB0.grown hg7 hB0.size (fun kk e => by have h1 := (hO.lt g2 rfl).1; have h2 := Option.some.inj e; omega)⟩
        · have hnew := mergeG_new l c (by rw [← HX.out]; exact fun _ => he)
          rw [← HX.out] at hnew
          have HTO := Lib.hid hnew.symm
          clear hnew
          generalize hx0 : l[k].d = x0 at *
          have g5 : (x0 == c.d) = false := beq_eq_false_iff_ne.2 he
          have g6 : decide (x0 = c.d) = false := decide_eq_false he
          have g7 : (x0 != c.d) = true := by simp [he]
          have g8 : decide (¬ x0 = c.d) = true := by simp [he]
          clear he hx0
          obtain ⟨A3, hA3⟩ : ∃ A3, (if cap = k then A else Option.map (fun x => x.add ((k) * 5)) A) = A3 := ⟨_, rfl⟩
          have hT3 := hT.drop hlc hA3
          have hz3 := El.drop_none hz hA3
          have g0 : (0 : Int) ≤ (k : Int) := by omega
          have g1 : (k : Int) ≤ (cap : Int) := by omega
          have g2 : (k : Int) ≤ (l.length : Int) := by omega
          have g3 : (k : Int) + 1 ≤ (cap : Int) + 1 := by omega
          have hA4 : Option.map (fun x => x.add (k * 5)) A = A3 := by
            rw [← hA3, if_neg (by omega)]
          have hck : ¬ cap = k := by omega
          go_wp2_with fail
          go_quiet (fail)
          have hB1 := below_drew hB nq
          have hP1 : gfE.In (wr.drewN nq) nc c := hP
          have s01 : (wr.drewN nq).cell? ⟨b, off + k * 5, none⟩ = some (.int .i64 x0) := s0
          clear hB hP s0 s1 s2 s3 s4 q0 q1 q2 q3 q4 f1
          go_wp2_with fail
          generalize wr.drewN nq = V1 at *
          obtain ⟨q0, q1, q2, q3, q4⟩ := gfIn5 hP1
          go_quiet (fail)
          clear s01 q0 q1 q2 q3 q4 g5 g6 g7 g8 n1 n2 n3 n4
          have hB := below_drew hB1 nq
          have hP : gfE.In (V1.drewN nq) nc c := hP1
          clear hB1 hP1
          go_wp2_with fail
          generalize V1.drewN nq = V at *
          try rw [hA4]
          skip
          have HE1 := Lib.hid (show (l.take k).length = k by rw [List.length_take]; omega)
          have HE3 := Lib.hid (show (l.drop (k)).length = l.length - k by simp only [List.length_drop]; try omega)
          have htk := (hT.take k).below hB
          have ht3 := hT3.below hB
          generalize l.take k = L1 at *
          generalize l.drop (k) = L3 at *
          obtain ⟨B, hBe⟩ : ∃ B, V.heap.size = B := ⟨_, rfl⟩
          have hBV : B ≤ V.drew.heap.size := Nat.le_of_eq hBe.symm
          have kV : gfE.SlB B V.drew A L1 := El.SlB.of htk (Nat.le_of_eq hBe)
          have tV : gfE.SlB B V.drew A3 L3 := El.SlB.of ht3 (Nat.le_of_eq hBe)
          have hwB : w.heap.size ≤ B := by have := hB.size; omega
          have hnB : nc < B := by have := hP.lt; omega
          replace hP : gfE.In V.drew nc c := hP
          replace hB := hB.drew
          clear htk ht3 hBe hT hT3
          refine region_anyG (S := GfS nc c) 12 (by kernel_rfl) ?_
          generalize V.drew = U at *
          have hS : GfS nc c U := gfIn5 hP
          refine anyG_take (i := 1) (v := .slice A l.length cap) rfl (by kernel_rfl) (by kernel_rfl) (by kernel_rfl) (by kernel_rfl) (by kernel_rfl) (fun _ _ _ h => h) (Or.inl ⟨by rfl, fun w' hSw => by (obtain ⟨s0, s1, s2, s3, s4⟩ := hSw; go_simp)⟩) hS ?_
          try simp only [Act.put, List.setIfInBounds_toArray, List.set_cons_zero, List.set_cons_succ]
          refine anyG_take (i := 2) (v := .int .i64 k) rfl (by kernel_rfl) (by kernel_rfl) (by kernel_rfl) (by kernel_rfl) (by kernel_rfl) (fun _ _ _ h => h) (Or.inl ⟨by rfl, fun w' hSw => by (obtain ⟨s0, s1, s2, s3, s4⟩ := hSw; go_simp)⟩) hS ?_
          try simp only [Act.put, List.setIfInBounds_toArray, List.set_cons_zero, List.set_cons_succ]
          refine anyG_take (i := 3) (v := .slice A k cap) rfl (by kernel_rfl) (by kernel_rfl) (by kernel_rfl) (by kernel_rfl) (by kernel_rfl) (fun _ _ _ h => h) (Or.inl ⟨by rfl, fun w' hSw => by (obtain ⟨s0, s1, s2, s3, s4⟩ := hSw; go_simp)⟩) hS ?_
          try simp only [Act.put, List.setIfInBounds_toArray, List.set_cons_zero, List.set_cons_succ]
          refine anyG_take (i := 5) (v := .agg #[.int .i64 c.d, .int .i64 c.i, .int .i64 c.c, .int .i64 c.t, .string c.s]) rfl (by kernel_rfl) (by kernel_rfl) (by kernel_rfl) (by kernel_rfl) (by kernel_rfl) (fun _ _ _ h => h) (Or.inl ⟨by rfl, fun w' hSw => by (obtain ⟨s0, s1, s2, s3, s4⟩ := hSw; go_simp)⟩) hS ?_
          try simp only [Act.put, List.setIfInBounds_toArray, List.set_cons_zero, List.set_cons_succ]
          refine anyG_take (i := 8) (v := .slice A l.length cap) rfl (by kernel_rfl) (by kernel_rfl) (by kernel_rfl) (by kernel_rfl) (by kernel_rfl) (fun _ _ _ h => h) (Or.inl ⟨by rfl, fun w' hSw => by (obtain ⟨s0, s1, s2, s3, s4⟩ := hSw; go_simp)⟩) hS ?_
          try simp only [Act.put, List.setIfInBounds_toArray, List.set_cons_zero, List.set_cons_succ]
          refine anyG_take (i := 9) (v := .int .i64 k) rfl (by kernel_rfl) (by kernel_rfl) (by kernel_rfl) (by kernel_rfl) (by kernel_rfl) (fun _ _ _ h => h) (Or.inl ⟨by rfl, fun w' hSw => by (obtain ⟨s0, s1, s2, s3, s4⟩ := hSw; go_simp)⟩) hS ?_
          try simp only [Act.put, List.setIfInBounds_toArray, List.set_cons_zero, List.set_cons_succ]
          refine anyG_take (i := 10) (v := .slice A3 (l.length - k) (cap - k)) rfl (by kernel_rfl) (by kernel_rfl) (by kernel_rfl) (by kernel_rfl) (by kernel_rfl) (fun _ _ _ h => h) (Or.inl ⟨by rfl, fun w' hSw => by (obtain ⟨s0, s1, s2, s3, s4⟩ := hSw; go_simp)⟩) hS ?_
          try simp only [Act.put, List.setIfInBounds_toArray, List.set_cons_zero, List.set_cons_succ]
          refine anyG_step (rs := [0, 6]) (by kernel_rfl) (by simp) ?_
          refine AllG.cons rfl (fun K hK => ?_) (AllG.cons rfl (fun K hK => ?_) AllG.nil)
          · skip
            have hal := below_alloc (Below.refl (U).heap.size U) (.cells #[] 37)
            have hg := World.grownBy_alloc U (.cells #[] 37) none
            have hO0 : gfE.Own ((U).alloc (.cells #[] 37)) B (.slice (some ⟨(U).heap.size, 0, none⟩) 0 0) [] := El.Own.empty (E := gfE) U B hBV
            replace hP := hP.below hal
            replace kV := kV.keep hg (fun k e => by cases e)
            replace tV := tV.keep hg (fun k e => by cases e)
            replace hB := hB.trans (hal.mono hB.size)
            replace hBV := Nat.le_trans hBV hal.size
            try replace he := he.below hal
            try have hn60 := Nat.ne_of_lt hn6
            clear hg
            try clear hS
            go_simp
            refine hK.out _ _ (gfIn5 hP : GfS nc c _) ?_
            try simp only [Act.put, List.setIfInBounds_toArray, List.set_cons_zero, List.set_cons_succ]
            clear hK
            clear hal
            generalize (U).alloc (.cells #[] 37) = U1 at *
            generalize (U).heap.size = n0 at *
            refine anyG_step (rs := [4, 6]) (by kernel_rfl) (by simp) ?_
            refine AllG.cons rfl (fun K hK => ?_) (AllG.cons rfl (fun K hK => ?_) AllG.nil)
            · skip
              refine El.step_app gfInn rfl (.tmp 37) (.tmp 40) rfl B _ [] L1 rfl hO0 A k cap rfl HE1.out (kV.sl hBV) hz (by have := HE1.out; simp; omega) hBV ?_
              intro v1 W4 hO1 hg4 _
              have hr := hO0.rows
              replace hO1 : gfE.Own W4 B v1 L1 := hO1
              replace hP := hP.keep hg4 (fun e => by have := hr nc e.symm; omega)
              replace tV := tV.keep hg4 hr
              replace hB := hB.grown hg4 hB.size (fun k e => by have := hr k e; omega)
              replace hBV := Nat.le_trans hBV hg4.size
              try replace he := he.keep1 hg4 (fun e => hn60 (Option.some.inj e))
              clear hr hO0 kV hg4
              refine hK.out _ _ (gfIn5 hP : GfS nc c _) ?_
              try simp only [Act.put, List.setIfInBounds_toArray, List.set_cons_zero, List.set_cons_succ]
              clear hK
              refine anyG_step (rs := [6]) (by kernel_rfl) (by simp) ?_
              refine AllG.cons rfl (fun K hK => ?_) AllG.nil
              have hal := below_alloc (Below.refl (W4).heap.size W4) (.cells #[.int .i64 c.d, .int .i64 c.i, .int .i64 c.c, .int .i64 c.t, .string c.s] 37)
              have hg := World.grownBy_alloc W4 (.cells #[.int .i64 c.d, .int .i64 c.i, .int .i64 c.c, .int .i64 c.t, .string c.s] 37) none
              have he : gfE.Sl ((W4).alloc (.cells #[.int .i64 c.d, .int .i64 c.i, .int .i64 c.c, .int .i64 c.t, .string c.s] 37)) (some ⟨(W4).heap.size, 0, none⟩) [c] := (El.In.new (E := gfE) W4 c _ rfl).sl
              have hn6 : (W4).heap.size < ((W4).alloc (.cells #[.int .i64 c.d, .int .i64 c.i, .int .i64 c.c, .int .i64 c.t, .string c.s] 37)).heap.size := by rw [alloc_size]; omega
              try have hn60 : (W4).heap.size ≠ n0 := by have := (hO0.lt n0 rfl).2; omega
              replace hP := hP.below hal
              try replace kV := kV.keep hg (fun k e => by cases e)
              replace tV := tV.keep hg (fun k e => by cases e)
              replace hB := hB.trans (hal.mono hB.size)
              replace hBV := Nat.le_trans hBV hal.size
              try replace hO0 := hO0.below hal
              try replace hO1 := hO1.below hal
              clear hg
              try clear hS
              go_simp
              refine hK.out _ _ (gfIn5 hP : GfS nc c _) ?_
              try simp only [Act.put, List.setIfInBounds_toArray, List.set_cons_zero, List.set_cons_succ]
              clear hK
              clear hal
              generalize (W4).alloc (.cells #[.int .i64 c.d, .int .i64 c.i, .int .i64 c.c, .int .i64 c.t, .string c.s] 37) = U2 at *
              generalize (W4).heap.size = n6 at *
              refine anyG_step (rs := [7]) (by kernel_rfl) (by simp) ?_
              refine AllG.cons rfl (fun K hK => ?_) AllG.nil
              refine El.step_app gfInn rfl (.tmp 41) (.tmp 43) rfl B v1 L1 [c] rfl hO1 (some ⟨n6, 0, none⟩) 1 1 rfl rfl he (fun e => by cases e) (by have := HE1.out; rw [List.length_singleton]; omega) hBV ?_
              intro v2 W7 hO2 hg7 _
              have hr7 := hO1.rows
              replace hP := hP.keep hg7 (fun e => by have := hr7 nc e.symm; omega)
              replace tV := tV.keep hg7 hr7
              replace hB := hB.grown hg7 hB.size (fun k e => by have := hr7 k e; omega)
              replace hBV := Nat.le_trans hBV hg7.size
              clear hr7 hO1 hg7 he
              refine hK.out _ _ (gfIn5 hP : GfS nc c _) ?_
              try simp only [Act.put, List.setIfInBounds_toArray, List.set_cons_zero, List.set_cons_succ]
              clear hK
              refine anyG_step (rs := [11]) (by kernel_rfl) (by simp) ?_
              refine AllG.cons rfl (fun K hK => ?_) AllG.nil
              refine El.step_app gfInn rfl (.tmp 44) (.tmp 47) rfl B v2 (L1 ++ [c]) L3 rfl hO2 A3 (l.length - k) (cap - k) rfl HE3.out (tV.sl hBV) hz3 (by have := HE1.out; have := HE3.out; rw [List.length_append, List.length_singleton]; omega) hBV ?_
              intro v3 W9 hO3 hg9 _
              have hr9 := hO2.rows
              replace hP := hP.keep hg9 (fun e => by have := hr9 nc e.symm; omega)
              replace hB := hB.grown hg9 hB.size (fun k e => by have := hr9 k e; omega)
              clear hr9 hO2 hg9 tV
              refine hK.out _ _ (gfIn5 hP : GfS nc c _) ?_
              try simp only [Act.put, List.setIfInBounds_toArray, List.set_cons_zero, List.set_cons_succ]
              clear hK
              refine anyG_step (rs := [12]) (by kernel_rfl) (by simp) ?_
              refine AllG.last (n := 12) rfl (fun K hK => ?_)
              go_simp
              refine hK.out _ _ ?_
              try simp only [Act.put, List.setIfInBounds_toArray, List.set_cons_zero, List.set_cons_succ]
              clear hK
              refine anyG_done (by kernel_rfl) ?_ _
              rw [HTO.out] at hO3
              obtain ⟨A', c', rfl, hS'⟩ := SlV.own hO3
              clear hO3
              go_wp2_with fail
              go_ret
              exact ⟨A', c', by rw [← HRM.out]; rfl, by rw [← HRM.out]; exact hS', hB⟩
            · skip
              have hal := below_alloc (Below.refl (U1).heap.size U1) (.cells #[.int .i64 c.d, .int .i64 c.i, .int .i64 c.c, .int .i64 c.t, .string c.s] 37)
              have hg := World.grownBy_alloc U1 (.cells #[.int .i64 c.d, .int .i64 c.i, .int .i64 c.c, .int .i64 c.t, .string c.s] 37) none
              have he : gfE.Sl ((U1).alloc (.cells #[.int .i64 c.d, .int .i64 c.i, .int .i64 c.c, .int .i64 c.t, .string c.s] 37)) (some ⟨(U1).heap.size, 0, none⟩) [c] := (El.In.new (E := gfE) U1 c _ rfl).sl
              have hn6 : (U1).heap.size < ((U1).alloc (.cells #[.int .i64 c.d, .int .i64 c.i, .int .i64 c.c, .int .i64 c.t, .string c.s] 37)).heap.size := by rw [alloc_size]; omega
              try have hn60 : (U1).heap.size ≠ n0 := by have := (hO0.lt n0 rfl).2; omega
              replace hP := hP.below hal
              try replace kV := kV.keep hg (fun k e => by cases e)
              replace tV := tV.keep hg (fun k e => by cases e)
              replace hB := hB.trans (hal.mono hB.size)
              replace hBV := Nat.le_trans hBV hal.size
              try replace hO0 := hO0.below hal
              try replace hO1 := hO1.below hal
              clear hg
              try clear hS
              go_simp
              refine hK.out _ _ (gfIn5 hP : GfS nc c _) ?_
              try simp only [Act.put, List.setIfInBounds_toArray, List.set_cons_zero, List.set_cons_succ]
              clear hK
              clear hal
              generalize (U1).alloc (.cells #[.int .i64 c.d, .int .i64 c.i, .int .i64 c.c, .int .i64 c.t, .string c.s] 37) = U2 at *
              generalize (U1).heap.size = n6 at *
              refine anyG_step (rs := [4]) (by kernel_rfl) (by simp) ?_
              refine AllG.cons rfl (fun K hK => ?_) AllG.nil
              refine El.step_app gfInn rfl (.tmp 37) (.tmp 40) rfl B _ [] L1 rfl hO0 A k cap rfl HE1.out (kV.sl hBV) hz (by have := HE1.out; simp; omega) hBV ?_
              intro v1 W4 hO1 hg4 _
              have hr := hO0.rows
              replace hO1 : gfE.Own W4 B v1 L1 := hO1
              replace hP := hP.keep hg4 (fun e => by have := hr nc e.symm; omega)
              replace tV := tV.keep hg4 hr
              replace hB := hB.grown hg4 hB.size (fun k e => by have := hr k e; omega)
              replace hBV := Nat.le_trans hBV hg4.size
              try replace he := he.keep1 hg4 (fun e => hn60 (Option.some.inj e))
              clear hr hO0 kV hg4
              refine hK.out _ _ (gfIn5 hP : GfS nc c _) ?_
              try simp only [Act.put, List.setIfInBounds_toArray, List.set_cons_zero, List.set_cons_succ]
              clear hK
              refine anyG_step (rs := [7]) (by kernel_rfl) (by simp) ?_
              refine AllG.cons rfl (fun K hK => ?_) AllG.nil
              refine El.step_app gfInn rfl (.tmp 41) (.tmp 43) rfl B v1 L1 [c] rfl hO1 (some ⟨n6, 0, none⟩) 1 1 rfl rfl he (fun e => by cases e) (by have := HE1.out; rw [List.length_singleton]; omega) hBV ?_
              intro v2 W7 hO2 hg7 _
              have hr7 := hO1.rows
              replace hP := hP.keep hg7 (fun e => by have := hr7 nc e.symm; omega)
              replace tV := tV.keep hg7 hr7
              replace hB := hB.grown hg7 hB.size (fun k e => by have := hr7 k e; omega)
              replace hBV := Nat.le_trans hBV hg7.size
              clear hr7 hO1 hg7 he
              refine hK.out _ _ (gfIn5 hP : GfS nc c _) ?_
              try simp only [Act.put, List.setIfInBounds_toArray, List.set_cons_zero, List.set_cons_succ]
              clear hK
              refine anyG_step (rs := [11]) (by kernel_rfl) (by simp) ?_
              refine AllG.cons rfl (fun K hK => ?_) AllG.nil
              refine El.step_app gfInn rfl (.tmp 44) (.tmp 47) rfl B v2 (L1 ++ [c]) L3 rfl hO2 A3 (l.length - k) (cap - k) rfl HE3.out (tV.sl hBV) hz3 (by have := HE1.out; have := HE3.out; rw [List.length_append, List.length_singleton]; omega) hBV ?_
              intro v3 W9 hO3 hg9 _
              have hr9 := hO2.rows
              replace hP := hP.keep hg9 (fun e => by have := hr9 nc e.symm; omega)
              replace hB := hB.grown hg9 hB.size (fun k e => by have := hr9 k e; omega)
              clear hr9 hO2 hg9 tV
              refine hK.out _ _ (gfIn5 hP : GfS nc c _) ?_
              try simp only [Act.put, List.setIfInBounds_toArray, List.set_cons_zero, List.set_cons_succ]
              clear hK
              refine anyG_step (rs := [12]) (by kernel_rfl) (by simp) ?_
              refine AllG.last (n := 12) rfl (fun K hK => ?_)
              go_simp
              refine hK.out _ _ ?_
              try simp only [Act.put, List.setIfInBounds_toArray, List.set_cons_zero, List.set_cons_succ]
              clear hK
              refine anyG_done (by kernel_rfl) ?_ _
              rw [HTO.out] at hO3
              obtain ⟨A', c', rfl, hS'⟩ := SlV.own hO3
              clear hO3
              go_wp2_with fail
              go_ret
              exact ⟨A', c', by rw [← HRM.out]; rfl, by rw [← HRM.out]; exact hS', hB⟩
          · skip
            have hal := below_alloc (Below.refl (U).heap.size U) (.cells #[.int .i64 c.d, .int .i64 c.i, .int .i64 c.c, .int .i64 c.t, .string c.s] 37)
            have hg := World.grownBy_alloc U (.cells #[.int .i64 c.d, .int .i64 c.i, .int .i64 c.c, .int .i64 c.t, .string c.s] 37) none
            have he : gfE.Sl ((U).alloc (.cells #[.int .i64 c.d, .int .i64 c.i, .int .i64 c.c, .int .i64 c.t, .string c.s] 37)) (some ⟨(U).heap.size, 0, none⟩) [c] := (El.In.new (E := gfE) U c _ rfl).sl
            have hn6 : (U).heap.size < ((U).alloc (.cells #[.int .i64 c.d, .int .i64 c.i, .int .i64 c.c, .int .i64 c.t, .string c.s] 37)).heap.size := by rw [alloc_size]; omega
            try have hn60 : (U).heap.size ≠ n0 := by have := (hO0.lt n0 rfl).2; omega
            replace hP := hP.below hal
            try replace kV := kV.keep hg (fun k e => by cases e)
            replace tV := tV.keep hg (fun k e => by cases e)
            replace hB := hB.trans (hal.mono hB.size)
            replace hBV := Nat.le_trans hBV hal.size
            try replace hO0 := hO0.below hal
            try replace hO1 := hO1.below hal
            clear hg
            try clear hS
            go_simp
            refine hK.out _ _ (gfIn5 hP : GfS nc c _) ?_
            try simp only [Act.put, List.setIfInBounds_toArray, List.set_cons_zero, List.set_cons_succ]
            clear hK
            clear hal
            generalize (U).alloc (.cells #[.int .i64 c.d, .int .i64 c.i, .int .i64 c.c, .int .i64 c.t, .string c.s] 37) = U2 at *
            generalize (U).heap.size = n6 at *
            refine anyG_step (rs := [0]) (by kernel_rfl) (by simp) ?_
            refine AllG.cons rfl (fun K hK => ?_) AllG.nil
            have hal := below_alloc (Below.refl (U2).heap.size U2) (.cells #[] 37)
            have hg := World.grownBy_alloc U2 (.cells #[] 37) none
            have hO0 : gfE.Own ((U2).alloc (.cells #[] 37)) B (.slice (some ⟨(U2).heap.size, 0, none⟩) 0 0) [] := El.Own.empty (E := gfE) U2 B hBV
            replace hP := hP.below hal
            replace kV := kV.keep hg (fun k e => by cases e)
            replace tV := tV.keep hg (fun k e => by cases e)
            replace hB := hB.trans (hal.mono hB.size)
            replace hBV := Nat.le_trans hBV hal.size
            try replace he := he.below hal
            try have hn60 := Nat.ne_of_lt hn6
            clear hg
            try clear hS
            go_simp
            refine hK.out _ _ (gfIn5 hP : GfS nc c _) ?_
            try simp only [Act.put, List.setIfInBounds_toArray, List.set_cons_zero, List.set_cons_succ]
            clear hK
            clear hal
            generalize (U2).alloc (.cells #[] 37) = U1 at *
            generalize (U2).heap.size = n0 at *
            refine anyG_step (rs := [4]) (by kernel_rfl) (by simp) ?_
            refine AllG.cons rfl (fun K hK => ?_) AllG.nil
            refine El.step_app gfInn rfl (.tmp 37) (.tmp 40) rfl B _ [] L1 rfl hO0 A k cap rfl HE1.out (kV.sl hBV) hz (by have := HE1.out; simp; omega) hBV ?_
            intro v1 W4 hO1 hg4 _
            have hr := hO0.rows
            replace hO1 : gfE.Own W4 B v1 L1 := hO1
            replace hP := hP.keep hg4 (fun e => by have := hr nc e.symm; omega)
            replace tV := tV.keep hg4 hr
            replace hB := hB.grown hg4 hB.size (fun k e => by have := hr k e; omega)
            replace hBV := Nat.le_trans hBV hg4.size
            try replace he := he.keep1 hg4 (fun e => hn60 (Option.some.inj e))
            clear hr hO0 kV hg4
            refine hK.out _ _ (gfIn5 hP : GfS nc c _) ?_
            try simp only [Act.put, List.setIfInBounds_toArray, List.set_cons_zero, List.set_cons_succ]
            clear hK
            refine anyG_step (rs := [7]) (by kernel_rfl) (by simp) ?_
            refine AllG.cons rfl (fun K hK => ?_) AllG.nil
            refine El.step_app gfInn rfl (.tmp 41) (.tmp 43) rfl B v1 L1 [c] rfl hO1 (some ⟨n6, 0, none⟩) 1 1 rfl rfl he (fun e => by cases e) (by have := HE1.out; rw [List.length_singleton]; omega) hBV ?_
            intro v2 W7 hO2 hg7 _
            have hr7 := hO1.rows
            replace hP := hP.keep hg7 (fun e => by have := hr7 nc e.symm; omega)
            replace tV := tV.keep hg7 hr7
            replace hB := hB.grown hg7 hB.size (fun k e => by have := hr7 k e; omega)
            replace hBV := Nat.le_trans hBV hg7.size
            clear hr7 hO1 hg7 he
            refine hK.out _ _ (gfIn5 hP : GfS nc c _) ?_
            try simp only [Act.put, List.setIfInBounds_toArray, List.set_cons_zero, List.set_cons_succ]
            clear hK
            refine anyG_step (rs := [11]) (by kernel_rfl) (by simp) ?_
            refine AllG.cons rfl (fun K hK => ?_) AllG.nil
            refine El.step_app gfInn rfl (.tmp 44) (.tmp 47) rfl B v2 (L1 ++ [c]) L3 rfl hO2 A3 (l.length - k) (cap - k) rfl HE3.out (tV.sl hBV) hz3 (by have := HE1.out; have := HE3.out; rw [List.length_append, List.length_singleton]; omega) hBV ?_
            intro v3 W9 hO3 hg9 _
            have hr9 := hO2.rows
            replace hP := hP.keep hg9 (fun e => by have := hr9 nc e.symm; omega)
            replace hB := hB.grown hg9 hB.size (fun k e => by have := hr9 k e; omega)
            clear hr9 hO2 hg9 tV
            refine hK.out _ _ (gfIn5 hP : GfS nc c _) ?_
            try simp only [Act.put, List.setIfInBounds_toArray, List.set_cons_zero, List.set_cons_succ]
            clear hK
            refine anyG_step (rs := [12]) (by kernel_rfl) (by simp) ?_
            refine AllG.last (n := 12) rfl (fun K hK => ?_)
            go_simp
            refine hK.out _ _ ?_
            try simp only [Act.put, List.setIfInBounds_toArray, List.set_cons_zero, List.set_cons_succ]
            clear hK
            refine anyG_done (by kernel_rfl) ?_ _
            rw [HTO.out] at hO3
            obtain ⟨A', c', rfl, hS'⟩ := SlV.own hO3
            clear hO3
            go_wp2_with fail
            go_ret
            exact ⟨A', c', by rw [← HRM.out]; rfl, by rw [← HRM.out]; exact hS', hB⟩
    · have hge : l.length ≤ k := by omega
      have hke : k = l.length := by have := cutG_le l c.d; omega
      have HX := Lib.hid (cutG_here hk (Or.inl hke))
      have hnew := mergeG_new l c (by rw [← HX.out]; exact fun h => absurd h (by omega))
      rw [← HX.out] at hnew
      have HTO := Lib.hid hnew.symm
      have hle : k ≤ l.length := by omega
      have hgi : (l.length : Int) ≤ (k : Int) := by omega
      clear hnew
      obtain ⟨A3, hA3⟩ : ∃ A3, (if cap = k then A else Option.map (fun x => x.add ((k) * 5)) A) = A3 := ⟨_, rfl⟩
      have hT3 := hT.drop hlc hA3
      have hz3 := El.drop_none hz hA3
      have g0 : (0 : Int) ≤ (k : Int) := by omega
      have g1 : (k : Int) ≤ (cap : Int) := by omega
      have g2 : (k : Int) ≤ (l.length : Int) := by omega
      have g3 : (k : Int) + 1 ≤ (cap : Int) + 1 := by omega
      have f1 : decide ((k : Int) < (l.length : Int)) = false := decide_eq_false (by omega)
      have f2 : decide (k < l.length) = false := decide_eq_false (by omega)
      have n1 : ((k : Int) == (l.length : Int)) = true := beq_iff_eq.2 (by omega)
      have n2 : decide ((k : Int) = (l.length : Int)) = true := decide_eq_true (by omega)
      have n3 : (k == l.length) = true := beq_iff_eq.2 hke
      have n4 : decide (k = l.length) = true := decide_eq_true hke
      clear hke hkl
      go_wp2_with fail
      go_quiet (fail)
      have hB1 := below_drew hB nq
      have hP1 : gfE.In (wr.drewN nq) nc c := hP
      clear hB hP q0 q1 q2 q3 q4
      go_wp2_with fail
      generalize wr.drewN nq = V1 at *
      go_quiet (fail)
      clear n1 n2 n3 n4 f1 f2
      have hB := below_drew hB1 nq
      have hP : gfE.In (V1.drewN nq) nc c := hP1
      clear hB1 hP1
      go_wp2_with fail
      generalize V1.drewN nq = V at *
      have HE1 := Lib.hid (show (l.take k).length = k by rw [List.length_take]; omega)
      have HE3 := Lib.hid (show (l.drop (k)).length = 0 by simp only [List.length_drop]; try omega)
      have htk := (hT.take k).below hB
      have ht3 := hT3.below hB
      generalize l.take k = L1 at *
      generalize l.drop (k) = L3 at *
      obtain ⟨B, hBe⟩ : ∃ B, V.heap.size = B := ⟨_, rfl⟩
      have hBV : B ≤ V.drew.heap.size := Nat.le_of_eq hBe.symm
      have kV : gfE.SlB B V.drew A L1 := El.SlB.of htk (Nat.le_of_eq hBe)
      have tV : gfE.SlB B V.drew A3 L3 := El.SlB.of ht3 (Nat.le_of_eq hBe)
      have hwB : w.heap.size ≤ B := by have := hB.size; omega
      have hnB : nc < B := by have := hP.lt; omega
      replace hP : gfE.In V.drew nc c := hP
      replace hB := hB.drew
      clear htk ht3 hBe hT hT3
      refine region_anyG (S := GfS nc c) 12 (by kernel_rfl) ?_
      generalize V.drew = U at *
      have hS : GfS nc c U := gfIn5 hP
      refine anyG_take (i := 1) (v := .slice A l.length cap) rfl (by kernel_rfl) (by kernel_rfl) (by kernel_rfl) (by kernel_rfl) (by kernel_rfl) (fun _ _ _ h => h) (Or.inl ⟨by rfl, fun w' hSw => by (obtain ⟨s0, s1, s2, s3, s4⟩ := hSw; go_simp)⟩) hS ?_
      try simp only [Act.put, List.setIfInBounds_toArray, List.set_cons_zero, List.set_cons_succ]
      refine anyG_take (i := 2) (v := .int .i64 k) rfl (by kernel_rfl) (by kernel_rfl) (by kernel_rfl) (by kernel_rfl) (by kernel_rfl) (fun _ _ _ h => h) (Or.inl ⟨by rfl, fun w' hSw => by (obtain ⟨s0, s1, s2, s3, s4⟩ := hSw; go_simp)⟩) hS ?_
      try simp only [Act.put, List.setIfInBounds_toArray, List.set_cons_zero, List.set_cons_succ]
      refine anyG_take (i := 3) (v := .slice A k cap) rfl (by kernel_rfl) (by kernel_rfl) (by kernel_rfl) (by kernel_rfl) (by kernel_rfl) (fun _ _ _ h => h) (Or.inl ⟨by rfl, fun w' hSw => by (obtain ⟨s0, s1, s2, s3, s4⟩ := hSw; go_simp)⟩) hS ?_
      try simp only [Act.put, List.setIfInBounds_toArray, List.set_cons_zero, List.set_cons_succ]
      refine anyG_take (i := 5) (v := .agg #[.int .i64 c.d, .int .i64 c.i, .int .i64 c.c, .int .i64 c.t, .string c.s]) rfl (by kernel_rfl) (by kernel_rfl) (by kernel_rfl) (by kernel_rfl) (by kernel_rfl) (fun _ _ _ h => h) (Or.inl ⟨by rfl, fun w' hSw => by (obtain ⟨s0, s1, s2, s3, s4⟩ := hSw; go_simp)⟩) hS ?_
      try simp only [Act.put, List.setIfInBounds_toArray, List.set_cons_zero, List.set_cons_succ]
      refine anyG_take (i := 8) (v := .slice A l.length cap) rfl (by kernel_rfl) (by kernel_rfl) (by kernel_rfl) (by kernel_rfl) (by kernel_rfl) (fun _ _ _ h => h) (Or.inl ⟨by rfl, fun w' hSw => by (obtain ⟨s0, s1, s2, s3, s4⟩ := hSw; go_simp)⟩) hS ?_
      try simp only [Act.put, List.setIfInBounds_toArray, List.set_cons_zero, List.set_cons_succ]
      refine anyG_take (i := 9) (v := .int .i64 k) rfl (by kernel_rfl) (by kernel_rfl) (by kernel_rfl) (by kernel_rfl) (by kernel_rfl) (fun _ _ _ h => h) (Or.inl ⟨by rfl, fun w' hSw => by (obtain ⟨s0, s1, s2, s3, s4⟩ := hSw; go_simp)⟩) hS ?_
      try simp only [Act.put, List.setIfInBounds_toArray, List.set_cons_zero, List.set_cons_succ]
      refine anyG_take (i := 10) (v := .slice A3 (0) (cap - k)) rfl (by kernel_rfl) (by kernel_rfl) (by kernel_rfl) (by kernel_rfl) (by kernel_rfl) (fun _ _ _ h => h) (Or.inl ⟨by rfl, fun w' hSw => by (obtain ⟨s0, s1, s2, s3, s4⟩ := hSw; go_simp)⟩) hS ?_
      try simp only [Act.put, List.setIfInBounds_toArray, List.set_cons_zero, List.set_cons_succ]
      refine anyG_step (rs := [0, 6]) (by kernel_rfl) (by simp) ?_
      refine AllG.cons rfl (fun K hK => ?_) (AllG.cons rfl (fun K hK => ?_) AllG.nil)
      · skip
        have hal := below_alloc (Below.refl (U).heap.size U) (.cells #[] 37)
        have hg := World.grownBy_alloc U (.cells #[] 37) none
        have hO0 : gfE.Own ((U).alloc (.cells #[] 37)) B (.slice (some ⟨(U).heap.size, 0, none⟩) 0 0) [] := El.Own.empty (E := gfE) U B hBV
        replace hP := hP.below hal
        replace kV := kV.keep hg (fun k e => by cases e)
        replace tV := tV.keep hg (fun k e => by cases e)
        replace hB := hB.trans (hal.mono hB.size)
        replace hBV := Nat.le_trans hBV hal.size
        try replace he := he.below hal
        try have hn60 := Nat.ne_of_lt hn6
        clear hg
        try clear hS
        go_simp
        refine hK.out _ _ (gfIn5 hP : GfS nc c _) ?_
        try simp only [Act.put, List.setIfInBounds_toArray, List.set_cons_zero, List.set_cons_succ]
        clear hK
        clear hal
        generalize (U).alloc (.cells #[] 37) = U1 at *
        generalize (U).heap.size = n0 at *
        refine anyG_step (rs := [4, 6]) (by kernel_rfl) (by simp) ?_
        refine AllG.cons rfl (fun K hK => ?_) (AllG.cons rfl (fun K hK => ?_) AllG.nil)
        · skip
          refine El.step_app gfInn rfl (.tmp 37) (.tmp 40) rfl B _ [] L1 rfl hO0 A k cap rfl HE1.out (kV.sl hBV) hz (by have := HE1.out; simp; omega) hBV ?_
          intro v1 W4 hO1 hg4 _
          have hr := hO0.rows
          replace hO1 : gfE.Own W4 B v1 L1 := hO1
          replace hP := hP.keep hg4 (fun e => by have := hr nc e.symm; omega)
          replace tV := tV.keep hg4 hr
          replace hB := hB.grown hg4 hB.size (fun k e => by have := hr k e; omega)
          replace hBV := Nat.le_trans hBV hg4.size
          try replace he := he.keep1 hg4 (fun e => hn60 (Option.some.inj e))
          clear hr hO0 kV hg4
          refine hK.out _ _ (gfIn5 hP : GfS nc c _) ?_
          try simp only [Act.put, List.setIfInBounds_toArray, List.set_cons_zero, List.set_cons_succ]
          clear hK
          refine anyG_step (rs := [6]) (by kernel_rfl) (by simp) ?_
          refine AllG.cons rfl (fun K hK => ?_) AllG.nil
          have hal := below_alloc (Below.refl (W4).heap.size W4) (.cells #[.int .i64 c.d, .int .i64 c.i, .int .i64 c.c, .int .i64 c.t, .string c.s] 37)
          have hg := World.grownBy_alloc W4 (.cells #[.int .i64 c.d, .int .i64 c.i, .int .i64 c.c, .int .i64 c.t, .string c.s] 37) none
          have he : gfE.Sl ((W4).alloc (.cells #[.int .i64 c.d, .int .i64 c.i, .int .i64 c.c, .int .i64 c.t, .string c.s] 37)) (some ⟨(W4).heap.size, 0, none⟩) [c] := (El.In.new (E := gfE) W4 c _ rfl).sl
          have hn6 : (W4).heap.size < ((W4).alloc (.cells #[.int .i64 c.d, .int .i64 c.i, .int .i64 c.c, .int .i64 c.t, .string c.s] 37)).heap.size := by rw [alloc_size]; omega
          try have hn60 : (W4).heap.size ≠ n0 := by have := (hO0.lt n0 rfl).2; omega
          replace hP := hP.below hal
          try replace kV := kV.keep hg (fun k e => by cases e)
          replace tV := tV.keep hg (fun k e => by cases e)
          replace hB := hB.trans (hal.mono hB.size)
          replace hBV := Nat.le_trans hBV hal.size
          try replace hO0 := hO0.below hal
          try replace hO1 := hO1.below hal
          clear hg
          try clear hS
          go_simp
          refine hK.out _ _ (gfIn5 hP : GfS nc c _) ?_
          try simp only [Act.put, List.setIfInBounds_toArray, List.set_cons_zero, List.set_cons_succ]
          clear hK
          clear hal
          generalize (W4).alloc (.cells #[.int .i64 c.d, .int .i64 c.i, .int .i64 c.c, .int .i64 c.t, .string c.s] 37) = U2 at *
          generalize (W4).heap.size = n6 at *
          refine anyG_step (rs := [7]) (by kernel_rfl) (by simp) ?_
          refine AllG.cons rfl (fun K hK => ?_) AllG.nil
          refine El.step_app gfInn rfl (.tmp 41) (.tmp 43) rfl B v1 L1 [c] rfl hO1 (some ⟨n6, 0, none⟩) 1 1 rfl rfl he (fun e => by cases e) (by have := HE1.out; rw [List.length_singleton]; omega) hBV ?_
          intro v2 W7 hO2 hg7 _
          have hr7 := hO1.rows
          replace hP := hP.keep hg7 (fun e => by have := hr7 nc e.symm; omega)
          replace tV := tV.keep hg7 hr7
          replace hB := hB.grown hg7 hB.size (fun k e => by have := hr7 k e; omega)
          replace hBV := Nat.le_trans hBV hg7.size
          clear hr7 hO1 hg7 he
          refine hK.out _ _ (gfIn5 hP : GfS nc c _) ?_
          try simp only [Act.put, List.setIfInBounds_toArray, List.set_cons_zero, List.set_cons_succ]
          clear hK
          refine anyG_step (rs := [11]) (by kernel_rfl) (by simp) ?_
          refine AllG.cons rfl (fun K hK => ?_) AllG.nil
          refine El.step_app gfInn rfl (.tmp 44) (.tmp 47) rfl B v2 (L1 ++ [c]) L3 rfl hO2 A3 (0) (cap - k) rfl HE3.out (tV.sl hBV) hz3 (by have := HE1.out; have := HE3.out; rw [List.length_append, List.length_singleton]; omega) hBV ?_
          intro v3 W9 hO3 hg9 _
          have hr9 := hO2.rows
          replace hP := hP.keep hg9 (fun e => by have := hr9 nc e.symm; omega)
          replace hB := hB.grown hg9 hB.size (fun k e => by have := hr9 k e; omega)
          clear hr9 hO2 hg9 tV
          refine hK.out _ _ (gfIn5 hP : GfS nc c _) ?_
          try simp only [Act.put, List.setIfInBounds_toArray, List.set_cons_zero, List.set_cons_succ]
          clear hK
          refine anyG_step (rs := [12]) (by kernel_rfl) (by simp) ?_
          refine AllG.last (n := 12) rfl (fun K hK => ?_)
          go_simp
          refine hK.out _ _ ?_
          try simp only [Act.put, List.setIfInBounds_toArray, List.set_cons_zero, List.set_cons_succ]
          clear hK
          refine anyG_done (by kernel_rfl) ?_ _
          rw [HTO.out] at hO3
          obtain ⟨A', c', rfl, hS'⟩ := SlV.own hO3
          clear hO3
          go_wp2_with fail
          go_ret
          exact ⟨A', c', by rw [← HRM.out]; rfl, by rw [← HRM.out]; exact hS', hB⟩
        · skip
          have hal := below_alloc (Below.refl (U1).heap.size U1) (.cells #[.int .i64 c.d, .int .i64 c.i, .int .i64 c.c, .int .i64 c.t, .string c.s] 37)
          have hg := World.grownBy_alloc U1 (.cells #[.int .i64 c.d, .int .i64 c.i, .int .i64 c.c, .int .i64 c.t, .string c.s] 37) none
          have he : gfE.Sl ((U1).alloc (.cells #[.int .i64 c.d, .int .i64 c.i, .int .i64 c.c, .int .i64 c.t, .string c.s] 37)) (some ⟨(U1).heap.size, 0, none⟩) [c] := (El.In.new (E := gfE) U1 c _ rfl).sl
          have hn6 : (U1).heap.size < ((U1).alloc (.cells #[.int .i64 c.d, .int .i64 c.i, .int .i64 c.c, .int .i64 c.t, .string c.s] 37)).heap.size := by rw [alloc_size]; omega
          try have hn60 : (U1).heap.size ≠ n0 := by have := (hO0.lt n0 rfl).2; omega
          replace hP := hP.below hal
          try replace kV := kV.keep hg (fun k e => by cases e)
          replace tV := tV.keep hg (fun k e => by cases e)
          replace hB := hB.trans (hal.mono hB.size)
          replace hBV := Nat.le_trans hBV hal.size
          try replace hO0 := hO0.below hal
          try replace hO1 := hO1.below hal
          clear hg
          try clear hS
          go_simp
          refine hK.out _ _ (gfIn5 hP : GfS nc c _) ?_
          try simp only [Act.put, List.setIfInBounds_toArray, List.set_cons_zero, List.set_cons_succ]
          clear hK
          clear hal
          generalize (U1).alloc (.cells #[.int .i64 c.d, .int .i64 c.i, .int .i64 c.c, .int .i64 c.t, .string c.s] 37) = U2 at *
          generalize (U1).heap.size = n6 at *
          refine anyG_step (rs := [4]) (by kernel_rfl) (by simp) ?_
          refine AllG.cons rfl (fun K hK => ?_) AllG.nil
          refine El.step_app gfInn rfl (.tmp 37) (.tmp 40) rfl B _ [] L1 rfl hO0 A k cap rfl HE1.out (kV.sl hBV) hz (by have := HE1.out; simp; omega) hBV ?_
          intro v1 W4 hO1 hg4 _
          have hr := hO0.rows
          replace hO1 : gfE.Own W4 B v1 L1 := hO1
          replace hP := hP.keep hg4 (fun e => by have := hr nc e.symm; omega)
          replace tV := tV.keep hg4 hr
          replace hB := hB.grown hg4 hB.size (fun k e => by have := hr k e; omega)
          replace hBV := Nat.le_trans hBV hg4.size
          try replace he := he.keep1 hg4 (fun e => hn60 (Option.some.inj e))
          clear hr hO0 kV hg4
          refine hK.out _ _ (gfIn5 hP : GfS nc c _) ?_
          try simp only [Act.put, List.setIfInBounds_toArray, List.set_cons_zero, List.set_cons_succ]
          clear hK
          refine anyG_step (rs := [7]) (by kernel_rfl) (by simp) ?_
          refine AllG.cons rfl (fun K hK => ?_) AllG.nil
          refine El.step_app gfInn rfl (.tmp 41) (.tmp 43) rfl B v1 L1 [c] rfl hO1 (some ⟨n6, 0, none⟩) 1 1 rfl rfl he (fun e => by cases e) (by have := HE1.out; rw [List.length_singleton]; omega) hBV ?_
          intro v2 W7 hO2 hg7 _
          have hr7 := hO1.rows
          replace hP := hP.keep hg7 (fun e => by have := hr7 nc e.symm; omega)
          replace tV := tV.keep hg7 hr7
          replace hB := hB.grown hg7 hB.size (fun k e => by have := hr7 k e; omega)
          replace hBV := Nat.le_trans hBV hg7.size
          clear hr7 hO1 hg7 he
          refine hK.out _ _ (gfIn5 hP : GfS nc c _) ?_
          try simp only [Act.put, List.setIfInBounds_toArray, List.set_cons_zero, List.set_cons_succ]
          clear hK
          refine anyG_step (rs := [11]) (by kernel_rfl) (by simp) ?_
          refine AllG.cons rfl (fun K hK => ?_) AllG.nil
          refine El.step_app gfInn rfl (.tmp 44) (.tmp 47) rfl B v2 (L1 ++ [c]) L3 rfl hO2 A3 (0) (cap - k) rfl HE3.out (tV.sl hBV) hz3 (by have := HE1.out; have := HE3.out; rw [List.length_append, List.length_singleton]; omega) hBV ?_
          intro v3 W9 hO3 hg9 _
          have hr9 := hO2.rows
          replace hP := hP.keep hg9 (fun e => by have := hr9 nc e.symm; omega)
          replace hB := hB.grown hg9 hB.size (fun k e => by have := hr9 k e; omega)
          clear hr9 hO2 hg9 tV
          refine hK.out _ _ (gfIn5 hP : GfS nc c _) ?_
          try simp only [Act.put, List.setIfInBounds_toArray, List.set_cons_zero, List.set_cons_succ]
          clear hK
          refine anyG_step (rs := [12]) (by kernel_rfl) (by simp) ?_
          refine AllG.last (n := 12) rfl (fun K hK => ?_)
          go_simp
          refine hK.out _ _ ?_
          try simp only [Act.put, List.setIfInBounds_toArray, List.set_cons_zero, List.set_cons_succ]
          clear hK
          refine anyG_done (by kernel_rfl) ?_ _
          rw [HTO.out] at hO3
          obtain ⟨A', c', rfl, hS'⟩ := SlV.own hO3
          clear hO3
          go_wp2_with fail
          go_ret
          exact ⟨A', c', by rw [← HRM.out]; rfl, by rw [← HRM.out]; exact hS', hB⟩
      · skip
        have hal := below_alloc (Below.refl (U).heap.size U) (.cells #[.int .i64 c.d, .int .i64 c.i, .int .i64 c.c, .int .i64 c.t, .string c.s] 37)
        have hg := World.grownBy_alloc U (.cells #[.int .i64 c.d, .int .i64 c.i, .int .i64 c.c, .int .i64 c.t, .string c.s] 37) none
        have he : gfE.Sl ((U).alloc (.cells #[.int .i64 c.d, .int .i64 c.i, .int .i64 c.c, .int .i64 c.t, .string c.s] 37)) (some ⟨(U).heap.size, 0, none⟩) [c] := (El.In.new (E := gfE) U c _ rfl).sl
        have hn6 : (U).heap.size < ((U).alloc (.cells #[.int .i64 c.d, .int .i64 c.i, .int .i64 c.c, .int .i64 c.t, .string c.s] 37)).heap.size := by rw [alloc_size]; omega
        try have hn60 : (U).heap.size ≠ n0 := by have := (hO0.lt n0 rfl).2; omega
        replace hP := hP.below hal
        try replace kV := kV.keep hg (fun k e => by cases e)
        replace tV := tV.keep hg (fun k e => by cases e)
        replace hB := hB.trans (hal.mono hB.size)
        replace hBV := Nat.le_trans hBV hal.size
        try replace hO0 := hO0.below hal
        try replace hO1 := hO1.below hal
        clear hg
        try clear hS
        go_simp
        refine hK.out _ _ (gfIn5 hP : GfS nc c _) ?_
        try simp only [Act.put, List.setIfInBounds_toArray, List.set_cons_zero, List.set_cons_succ]
        clear hK
        clear hal
        generalize (U).alloc (.cells #[.int .i64 c.d, .int .i64 c.i, .int .i64 c.c, .int .i64 c.t, .string c.s] 37) = U2 at *
        generalize (U).heap.size = n6 at *
        refine anyG_step (rs := [0]) (by kernel_rfl) (by simp) ?_
        refine AllG.cons rfl (fun K hK => ?_) AllG.nil
        have hal := below_alloc (Below.refl (U2).heap.size U2) (.cells #[] 37)
        have hg := World.grownBy_alloc U2 (.cells #[] 37) none
        have hO0 : gfE.Own ((U2).alloc (.cells #[] 37)) B (.slice (some ⟨(U2).heap.size, 0, none⟩) 0 0) [] := El.Own.empty (E := gfE) U2 B hBV
        replace hP := hP.below hal
        replace kV := kV.keep hg (fun k e => by cases e)
        replace tV := tV.keep hg (fun k e => by cases e)
        replace hB := hB.trans (hal.mono hB.size)
        replace hBV := Nat.le_trans hBV hal.size
        try replace he := he.below hal
        try have hn60 := Nat.ne_of_lt hn6
        clear hg
        try clear hS
        go_simp
        refine hK.out _ _ (gfIn5 hP : GfS nc c _) ?_
        try simp only [Act.put, List.setIfInBounds_toArray, List.set_cons_zero, List.set_cons_succ]
        clear hK
        clear hal
        generalize (U2).alloc (.cells #[] 37) = U1 at *
        generalize (U2).heap.size = n0 at *
        refine anyG_step (rs := [4]) (by kernel_rfl) (by simp) ?_
        refine AllG.cons rfl (fun K hK => ?_) AllG.nil
        refine El.step_app gfInn rfl (.tmp 37) (.tmp 40) rfl B _ [] L1 rfl hO0 A k cap rfl HE1.out (kV.sl hBV) hz (by have := HE1.out; simp; omega) hBV ?_
        intro v1 W4 hO1 hg4 _
        have hr := hO0.rows
        replace hO1 : gfE.Own W4 B v1 L1 := hO1
        replace hP := hP.keep hg4 (fun e => by have := hr nc e.symm; omega)
        replace tV := tV.keep hg4 hr
        replace hB := hB.grown hg4 hB.size (fun k e => by have := hr k e; omega)
        replace hBV := Nat.le_trans hBV hg4.size
        try replace he := he.keep1 hg4 (fun e => hn60 (Option.some.inj e))
        clear hr hO0 kV hg4
        refine hK.out _ _ (gfIn5 hP : GfS nc c _) ?_
        try simp only [Act.put, List.setIfInBounds_toArray, List.set_cons_zero, List.set_cons_succ]
        clear hK
        refine anyG_step (rs := [7]) (by kernel_rfl) (by simp) ?_
        refine AllG.cons rfl (fun K hK => ?_) AllG.nil
        refine El.step_app gfInn rfl (.tmp 41) (.tmp 43) rfl B v1 L1 [c] rfl hO1 (some ⟨n6, 0, none⟩) 1 1 rfl rfl he (fun e => by cases e) (by have := HE1.out; rw [List.length_singleton]; omega) hBV ?_
        intro v2 W7 hO2 hg7 _
        have hr7 := hO1.rows
        replace hP := hP.keep hg7 (fun e => by have := hr7 nc e.symm; omega)
        replace tV := tV.keep hg7 hr7
        replace hB := hB.grown hg7 hB.size (fun k e => by have := hr7 k e; omega)
        replace hBV := Nat.le_trans hBV hg7.size
        clear hr7 hO1 hg7 he
        refine hK.out _ _ (gfIn5 hP : GfS nc c _) ?_
        try simp only [Act.put, List.setIfInBounds_toArray, List.set_cons_zero, List.set_cons_succ]
        clear hK
        refine anyG_step (rs := [11]) (by kernel_rfl) (by simp) ?_
        refine AllG.cons rfl (fun K hK => ?_) AllG.nil
        refine El.step_app gfInn rfl (.tmp 44) (.tmp 47) rfl B v2 (L1 ++ [c]) L3 rfl hO2 A3 (0) (cap - k) rfl HE3.out (tV.sl hBV) hz3 (by have := HE1.out; have := HE3.out; rw [List.length_append, List.length_singleton]; omega) hBV ?_
        intro v3 W9 hO3 hg9 _
        have hr9 := hO2.rows
        replace hP := hP.keep hg9 (fun e => by have := hr9 nc e.symm; omega)
        replace hB := hB.grown hg9 hB.size (fun k e => by have := hr9 k e; omega)
        clear hr9 hO2 hg9 tV
        refine hK.out _ _ (gfIn5 hP : GfS nc c _) ?_
        try simp only [Act.put, List.setIfInBounds_toArray, List.set_cons_zero, List.set_cons_succ]
        clear hK
        refine anyG_step (rs := [12]) (by kernel_rfl) (by simp) ?_
        refine AllG.last (n := 12) rfl (fun K hK => ?_)
        go_simp
        refine hK.out _ _ ?_
        try simp only [Act.put, List.setIfInBounds_toArray, List.set_cons_zero, List.set_cons_succ]
        clear hK
        refine anyG_done (by kernel_rfl) ?_ _
        rw [HTO.out] at hO3
        obtain ⟨A', c', rfl, hS'⟩ := SlV.own hO3
        clear hO3
        go_wp2_with fail
        go_ret
        exact ⟨A', c', by rw [← HRM.out]; rfl, by rw [← HRM.out]; exact hS', hB⟩
end Go.Proofs.Ytfpgfclmmdihjaa

/- The document's Merge of reports. -/
namespace Go.Proofs.Ytfpgfclmmdihjaa
open Go.RowKit Cod

theorem cutR_next {l : List Rp} {d : Int} {k : Nat} (hk : k ≤ cutR l d) (h : k < l.length) (hd : l[k].d < d) : k + 1 ≤ cutR l d := by
  rcases Nat.lt_or_ge k (cutR l d) with h1 | h1
  · exact h1
  · obtain rfl : k = cutR l d := by omega
    exact absurd hd (cutR_at l d h)
theorem cutR_here {l : List Rp} {d : Int} {k : Nat} (hk : k ≤ cutR l d) (h : k = l.length ∨ ∃ h : k < l.length, d ≤ l[k].d) : k = cutR l d := by
  rcases Nat.lt_or_ge k (cutR l d) with h1 | h1
  · rcases h with h | ⟨h, h2⟩
    · have := cutR_le l d; omega
    · have := cutR_lt l d k h h1; omega
  · omega
def RpS (n : Nat) (r : Rp) (w : World) : Prop := w.cell? ⟨n, 0, none⟩ = some (.int .i64 r.d) ∧ w.cell? ⟨n, 1, none⟩ = some (.int .i64 r.i) ∧ w.cell? ⟨n, 2, none⟩ = some (.int .i64 r.b) ∧ w.cell? ⟨n, 3, none⟩ = some (.int .i64 r.t) ∧ w.cell? ⟨n, 4, none⟩ = some (.int .i64 r.m) ∧ w.cell? ⟨n, 5, none⟩ = some (.int .i64 r.p) ∧ w.cell? ⟨n, 6, none⟩ = some (.int .i64 r.c) ∧ w.cell? ⟨n, 7, none⟩ = some (.int .i64 r.s) ∧ w.cell? ⟨n, 8, none⟩ = some (.int .i64 r.k)

end Go.Proofs.Ytfpgfclmmdihjaa

/- Of law 14: awake, given the program's calls. -/
namespace Go.Proofs.Ytfpgfclmmdihjaa
open Go.RowKit Cod

def Ra : Rp := ⟨2, 1, 3, 9, 1, 0, 0, 0, 0⟩
def Rb : Rp := ⟨2, 2, 1, 1, 2, 0, 0, 0, 0⟩
def Rx : Rp := ⟨1, 1, 0, 0, 1, 0, 0, 0, 0⟩
def Ry : Rp := ⟨0, 1, 0, 0, 0, 0, 0, 0, 0⟩
theorem ra_cells {w : World} {n : Nat} (h : rpE.In w n Ra) : (w.cell? ⟨n, 0, none⟩ = some (.int .i64 2) ∧ w.cell? ⟨n, 1, none⟩ = some (.int .i64 1) ∧ w.cell? ⟨n, 2, none⟩ = some (.int .i64 3) ∧ w.cell? ⟨n, 3, none⟩ = some (.int .i64 9) ∧ w.cell? ⟨n, 4, none⟩ = some (.int .i64 1) ∧ w.cell? ⟨n, 5, none⟩ = some (.int .i64 0) ∧ w.cell? ⟨n, 6, none⟩ = some (.int .i64 0) ∧ w.cell? ⟨n, 7, none⟩ = some (.int .i64 0) ∧ w.cell? ⟨n, 8, none⟩ = some (.int .i64 0)) := rpIn9 h
theorem rb_cells {w : World} {n : Nat} (h : rpE.In w n Rb) : (w.cell? ⟨n, 0, none⟩ = some (.int .i64 2) ∧ w.cell? ⟨n, 1, none⟩ = some (.int .i64 2) ∧ w.cell? ⟨n, 2, none⟩ = some (.int .i64 1) ∧ w.cell? ⟨n, 3, none⟩ = some (.int .i64 1) ∧ w.cell? ⟨n, 4, none⟩ = some (.int .i64 2) ∧ w.cell? ⟨n, 5, none⟩ = some (.int .i64 0) ∧ w.cell? ⟨n, 6, none⟩ = some (.int .i64 0) ∧ w.cell? ⟨n, 7, none⟩ = some (.int .i64 0) ∧ w.cell? ⟨n, 8, none⟩ = some (.int .i64 0)) := rpIn9 h
theorem x0_cell {w : World} {b o : Nat} (h : rpE.At w b o Rx) : w.cell? ⟨b, o, none⟩ = some (.int .i64 1) := (rpAt9 h).1
theorem x1_cell {w : World} {b o : Nat} (h : rpE.At w b (o + 9) Rb) : w.cell? ⟨b, o + 9 + 1, none⟩ = some (.int .i64 2) := (rpAt9 h).2.1
theorem ra_R : RpR Ra := rpB_iff.1 rfl
theorem ra_W : RpW Ra := ra_R.i64
theorem m1_eq : mergeR [] Ra = [Ra] := rfl
theorem m2_eq : mergeR [Ra] Rx = [Rx, Ra] := rfl
theorem m3_eq : mergeR [Rx, Ra] Rb = [Rx, Rb] := rfl
end Go.Proofs.Ytfpgfclmmdihjaa

/- Reports among the arguments, opened. -/
namespace Go.Proofs.Ytfpgfclmmdihjaa
open Go.ChangeShapes Go.WideShapes Go.ChangeAt Go.RowKit Go.Deep Cod

theorem cellsRp : Try.prog.cellsOf 56 = 9 := by kernel_rfl
set_option maxRecDepth 100000 in
theorem read_rp {H : Type} {enc : TypeId × Value → H} {W : World} {base : Nat} {sp : Nat → Bool} {held : Bool} {fuel : Nat} {cs : List Value} {x : DataW H × List MemPlace}
    (h : DataW.trod enc Try.prog W base sp held fuel 56 cs = some x) : ∃ r : Rp, cs = rpE.c r ∧ RpW r := by
  obtain ⟨xs, n, _, _, hl, hlen, hf⟩ := DataW.trod_struct Try.underlying56 h
  have hl9 : cs.length = 9 := hl.trans cellsRp
  have hl4 : xs.length = 9 := hlen
  match cs, hl9, xs, hl4 with
  | [c0, c1, c2, c3, c4, c5, c6, c7, c8], _, [y0, y1, y2, y3, y4, y5, y6, y7, y8], _ =>
    have h0 := hf 0 _ rfl
    have h1 := hf 1 _ rfl
    have h2 := hf 2 _ rfl
    have h3 := hf 3 _ rfl
    have h4 := hf 4 _ rfl
    have h5 := hf 5 _ rfl
    have h6 := hf 6 _ rfl
    have h7 := hf 7 _ rfl
    have h8 := hf 8 _ rfl
    simp [cells3] at h0 h1 h2 h3 h4 h5 h6 h7 h8
    obtain ⟨n0, e0, _, w0⟩ := DataW.trod_int Try.underlying3 h0
    obtain ⟨n1, e1, _, w1⟩ := DataW.trod_int Try.underlying3 h1
    obtain ⟨n2, e2, _, w2⟩ := DataW.trod_int Try.underlying3 h2
    obtain ⟨n3, e3, _, w3⟩ := DataW.trod_int Try.underlying3 h3
    obtain ⟨n4, e4, _, w4⟩ := DataW.trod_int Try.underlying3 h4
    obtain ⟨n5, e5, _, w5⟩ := DataW.trod_int Try.underlying3 h5
    obtain ⟨n6, e6, _, w6⟩ := DataW.trod_int Try.underlying3 h6
    obtain ⟨n7, e7, _, w7⟩ := DataW.trod_int Try.underlying3 h7
    obtain ⟨n8, e8, _, w8⟩ := DataW.trod_int Try.underlying3 h8
    simp at e0 e1 e2 e3 e4 e5 e6 e7 e8
    subst e0 e1 e2 e3 e4 e5 e6 e7 e8
    have b0 := bounds_i64 w0
    have b1 := bounds_i64 w1
    have b2 := bounds_i64 w2
    have b3 := bounds_i64 w3
    have b4 := bounds_i64 w4
    have b5 := bounds_i64 w5
    have b6 := bounds_i64 w6
    have b7 := bounds_i64 w7
    have b8 := bounds_i64 w8
    refine ⟨⟨n0, n1, n2, n3, n4, n5, n6, n7, n8⟩, rfl, fun n hn => ?_⟩
    simp only [rpL, List.mem_cons, List.not_mem_nil, or_false] at hn
    unfold i64
    rcases hn with rfl | rfl | rfl | rfl | rfl | rfl | rfl | rfl | rfl <;> omega
set_option maxRecDepth 100000 in
theorem open_rp {H : Type} {enc : TypeId × Value → H} {W : World} {base : Nat} {sp : Nat → Bool} {v : Value} {d : DataW H} {ps : List MemPlace}
    (hv : Value.okWide Try.prog W .any base 56 v) (h : DataW.Trod enc Try.prog W 0 sp true 56 v d ps) : ∃ r : Rp, v = .agg #[.int .i64 r.d, .int .i64 r.i, .int .i64 r.b, .int .i64 r.t, .int .i64 r.m, .int .i64 r.p, .int .i64 r.c, .int .i64 r.s, .int .i64 r.k] ∧ RpW r := by
  obtain ⟨cs, rfl, _⟩ := okWide_struct Try.underlying56 hv
  obtain ⟨fuel, hf⟩ := h
  obtain ⟨e, he, hw⟩ := read_rp hf
  refine ⟨e, ?_, hw⟩
  obtain ⟨l⟩ := cs
  simp [Value.cells] at he
  rw [he]
  rfl
instance : Inhabited Rp := ⟨zeroRp⟩
set_option maxRecDepth 100000 in
theorem open_rps {H : Type} {enc : TypeId × Value → H} {W : World} {base : Nat} {v : Value} {d : DataW H} {ps : List MemPlace}
    (hv : Value.okWide Try.prog W .any base 34 v) (h : DataW.Trod enc Try.prog W 0 (fun _ => true) true 34 v d ps) :
    ∃ (A : Option Addr) (cap : Nat) (l : List Rp), v = .slice A l.length cap ∧ rpE.Sl W A l ∧ l.length ≤ cap ∧ (A = none → cap = 0) ∧ ∀ r ∈ l, RpW r :=
  open_list rpE RpW Try.underlying34 cellsRp (fun h => read_rp h) hv h
end Go.Proofs.Ytfpgfclmmdihjaa

/- GiftMerges, given the program's calls: any gifts, merged one by one, and whether any is wanted still, are the document's. -/
namespace Go.Proofs.Ytfpgfclmmdihjaa
open Go.ChangeShapes Go.WideShapes Go.ChangeAt Go.RowKit Go.Deep Nam Cod

theorem cellsGfP : Try.prog.cellsOf 37 = 5 := by kernel_rfl
set_option maxRecDepth 100000 in
theorem read_gfP {H : Type} {enc : TypeId × Value → H} {W : World} {base : Nat} {sp : Nat → Bool} {held : Bool} {fuel : Nat} {cs : List Value} {x : DataW H × List MemPlace}
    (h : DataW.trod enc Try.prog W base sp held fuel 37 cs = some x) : ∃ g : Gf, cs = gfE.c g ∧ (i64 g.d ∧ i64 g.i ∧ i64 g.c ∧ i64 g.t) ∧ g.s.size ≤ maxLen := by
  obtain ⟨xs, n, _, _, hl, hlen, hf⟩ := DataW.trod_struct Try.underlying37 h
  have hl9 : cs.length = 5 := hl.trans cellsGfP
  have hl4 : xs.length = 5 := hlen
  match cs, hl9, xs, hl4 with
  | [c0, c1, c2, c3, c4], _, [y0, y1, y2, y3, y4], _ =>
    have h0 := hf 0 _ rfl
    have h1 := hf 1 _ rfl
    have h2 := hf 2 _ rfl
    have h3 := hf 3 _ rfl
    have h4 := hf 4 _ rfl
    simp [cells3, cells9] at h0 h1 h2 h3 h4
    obtain ⟨n0, e0, _, w0⟩ := DataW.trod_int Try.underlying3 h0
    obtain ⟨n1, e1, _, w1⟩ := DataW.trod_int Try.underlying3 h1
    obtain ⟨n2, e2, _, w2⟩ := DataW.trod_int Try.underlying3 h2
    obtain ⟨n3, e3, _, w3⟩ := DataW.trod_int Try.underlying3 h3
    obtain ⟨s, e4, _, ws⟩ := DataW.trod_string Try.underlying9 h4
    simp at e0 e1 e2 e3 e4
    subst e0 e1 e2 e3 e4
    have b0 := bounds_i64 w0
    have b1 := bounds_i64 w1
    have b2 := bounds_i64 w2
    have b3 := bounds_i64 w3
    exact ⟨⟨n0, n1, n2, n3, s⟩, rfl, ⟨by unfold i64; omega, by unfold i64; omega, by unfold i64; omega, by unfold i64; omega⟩, ws⟩
set_option maxRecDepth 100000 in
theorem open_gfP {H : Type} {enc : TypeId × Value → H} {W : World} {base : Nat} {sp : Nat → Bool} {v : Value} {d : DataW H} {ps : List MemPlace}
    (hv : Value.okWide Try.prog W .any base 37 v) (h : DataW.Trod enc Try.prog W 0 sp true 37 v d ps) : ∃ g : Gf, v = .agg #[.int .i64 g.d, .int .i64 g.i, .int .i64 g.c, .int .i64 g.t, .string g.s] ∧ (i64 g.d ∧ i64 g.i ∧ i64 g.c ∧ i64 g.t) ∧ g.s.size ≤ maxLen := by
  obtain ⟨cs, rfl, _⟩ := okWide_struct Try.underlying37 hv
  obtain ⟨fuel, hf⟩ := h
  obtain ⟨e, he, hw, hs⟩ := read_gfP hf
  refine ⟨e, ?_, hw, hs⟩
  obtain ⟨l⟩ := cs
  simp [Value.cells] at he
  rw [he]
  rfl
instance : Inhabited Gf := ⟨zeroGf⟩
set_option maxRecDepth 100000 in
theorem open_gfs {H : Type} {enc : TypeId × Value → H} {W : World} {base : Nat} {v : Value} {d : DataW H} {ps : List MemPlace}
    (hv : Value.okWide Try.prog W .any base 33 v) (h : DataW.Trod enc Try.prog W 0 (fun _ => true) true 33 v d ps) :
    ∃ (A : Option Addr) (cap : Nat) (l : List Gf), v = .slice A l.length cap ∧ gfE.Sl W A l ∧ l.length ≤ cap ∧ (A = none → cap = 0) ∧ ∀ g ∈ l, (i64 g.d ∧ i64 g.i ∧ i64 g.c ∧ i64 g.t) ∧ g.s.size ≤ maxLen :=
  open_list gfE (fun g => (i64 g.d ∧ i64 g.i ∧ i64 g.c ∧ i64 g.t) ∧ g.s.size ≤ maxLen) Try.underlying33 cellsGfP (fun h => read_gfP h) hv h

set_option maxRecDepth 100000 in
set_option maxHeartbeats 2000000 in
theorem merges17_no (H : GiftCalls) (A B : Option Addr) (c d : Nat) (l : List Gf) (rs : List Rp) (w : World) (h : 40 < l.length ∨ 40 < rs.length) : Calls Try.prog 4 #[.slice A l.length c, .slice B rs.length d] w fun r w' => r = .returned (.bool true) ∧ Below w.heap.size w w' := by
  by_cases h1 : 40 < l.length
  · have f1 : decide ((40 : Int) < (l.length : Int)) = true := decide_eq_true (by omega)
    have f2 : decide (40 < l.length) = true := decide_eq_true h1
    go_enter Try.func4, Try.ntmps4
    go_wp2_with fail
    refine (awake17_any H _).mono ?_
    rintro r w1 ⟨rfl, hb1⟩
    go_wp2_with fail
    go_ret
    exact ⟨rfl, hb1⟩
  · have f1 : decide ((40 : Int) < (l.length : Int)) = false := decide_eq_false (by omega)
    have f2 : decide (40 < l.length) = false := decide_eq_false h1
    have f3 : decide ((40 : Int) < (rs.length : Int)) = true := decide_eq_true (by omega)
    have f4 : decide (40 < rs.length) = true := decide_eq_true (by omega)
    go_enter Try.func4, Try.ntmps4
    go_wp2_with fail
    refine (awake17_any H _).mono ?_
    rintro r w1 ⟨rfl, hb1⟩
    go_wp2_with fail
    go_ret
    exact ⟨rfl, hb1⟩
set_option maxRecDepth 100000 in
set_option maxHeartbeats 8000000 in
theorem merges17_yes (H : GiftCalls) (A B : Option Addr) (c d : Nat) (l : List Gf) (rs : List Rp) (w : World) (hT : gfE.Sl w A l) (hR : SlV rpE w B d rs) (h : l.length ≤ 40) (hr : rs.length ≤ 40) : Calls Try.prog 4 #[.slice A l.length c, .slice B rs.length d] w fun r w' => r = .returned (.bool true) ∧ Below w.heap.size w w' := by
  have HA := Lib.hid (fun (wx : World) => awake17_any H wx)
  have HH := Lib.hid H
  have HR := Lib.hid hR
  have HT := Lib.hid hT
  have f1 : decide ((40 : Int) < (l.length : Int)) = false := decide_eq_false (by omega)
  have f2 : decide (40 < l.length) = false := decide_eq_false (by omega)
  have f3 : decide ((40 : Int) < (rs.length : Int)) = false := decide_eq_false (by omega)
  have f4 : decide (40 < rs.length) = false := decide_eq_false (by omega)
  clear H hR hT
  go_enter Try.func4, Try.ntmps4
  go_wp2_with fail
  clear f1 f2 f3 f4
  have h0 : SlV gfE w none 0 (foldG (l.take 0)) := by rw [List.take_zero]; exact SlV.nil gfE _
  have hB0 := Below.refl w.heap.size w
  go_loopw [5, 6, 7] (fun x y z wr => ∃ (k : Nat) (A1 A2 : Option Addr) (c1 c2 : Nat), k ≤ l.length ∧ x = .slice A1 (foldG (l.take k)).length c1 ∧ y = .slice A2 (foldG (l.take k)).length c2 ∧ z = .int .i64 k ∧ SlV gfE wr A1 c1 (foldG (l.take k)) ∧ SlV gfE wr A2 c2 (foldG (l.take k)) ∧ Below w.heap.size w wr) (fun _ _ z _ => l.length - (intOf z).toNat)
  case atStart => exact ⟨0, none, none, 0, 0, Nat.zero_le _, by rw [List.take_zero]; rfl, by rw [List.take_zero]; rfl, rfl, h0, h0, hB0⟩
  case round =>
    clear h0 hB0
    obtain ⟨k, A1, A2, c1, c2, hk, rfl, rfl, rfl, hS1, hS2, hN⟩ := hrel
    by_cases hkl : k < l.length
    · obtain ⟨b, off, eA, hbw, hc⟩ := HT.out (by omega)
      have hx := gfIdxH (cap := c) eA hkl
      have hx0 := gfIdxH (cap := c) (k := 0) (len := l.length) eA (by omega)
      have hat : gfE.At wr b (off + k * 5) l[k] := (hc k hkl).below hN hbw
      have HAT0 := Lib.hid (fun (wz : World) (hb : Below w.heap.size w wz) => (show gfE.At wz b (off + 0 * 5) (l[0]'(by omega)) from (hc 0 (by omega)).below hb hbw))
      have HAT := Lib.hid (fun (wz : World) (hb : Below w.heap.size w wz) => (show gfE.At wz b (off + k * 5) l[k] from (hc k hkl).below hb hbw))
      have hbr := Nat.lt_of_lt_of_le hbw hN.size
      have hnx := foldG_next l k hkl
      have hln := foldG_len l k
      clear hc eA
      generalize l[k] = x at *
      generalize l[0]'(by omega) = y at *
      generalize foldG (l.take k) = L at *
      have hml := mergeG_len L x
      have HM := Lib.hid (fun (wx : World) (g : SlV gfE wx A1 c1 L) => HH.out.merge A1 c1 L x wx (by omega) g)
      have HRM := Lib.hid (fun (wx : World) (g : SlV gfE wx A2 c2 L) => refMergeG_any A2 c2 L x wx (by omega) g)
      have HNX := Lib.hid hnx
      obtain ⟨M, hM⟩ : ∃ M, mergeG L x = M := ⟨_, rfl⟩
      rw [hM] at HM HRM HNX hml
      have HML := Lib.hid (show M.length ≤ 50000 by omega)
      clear hnx hM hml hln
      go_upto_region 7 with fail
      replace hat : gfE.At wr.drew b (off + k * 5) x := hat
      replace hS1 : SlV gfE wr.drew A1 c1 L := hS1
      replace hS2 : SlV gfE wr.drew A2 c2 L := hS2
      replace hN := hN.drew
      replace hbr : b < wr.drew.heap.size := hbr
      go_region_held3 (fun w' => w'.cell? ⟨b, off + k * 5, none⟩ = some (.int .i64 x.d) ∧ w'.cell? ⟨b, off + k * 5 + 1, none⟩ = some (.int .i64 x.i) ∧ w'.cell? ⟨b, off + k * 5 + 2, none⟩ = some (.int .i64 x.c) ∧ w'.cell? ⟨b, off + k * 5 + 3, none⟩ = some (.int .i64 x.t) ∧ w'.cell? ⟨b, off + k * 5 + 4, none⟩ = some (.string x.s)) (with_reducible exact gfAt5 hat) (first | (go_at_call 12; (with_reducible refine (HM.out _ hS1).mono ?_); rintro e w5 ⟨A3, c3, rfl, hS3, hb5⟩; have hat := hat.below hb5 hbr; have hbr := Nat.lt_of_lt_of_le hbr hb5.size; have hS2 := hS2.below hb5; have hN := below_then hN hb5) | (go_at_call 13; (with_reducible refine (HRM.out _ hS2).mono ?_); rintro e w5 ⟨A4, c4, rfl, hS4, hb5⟩; have hat := hat.below hb5 hbr; have hbr := Nat.lt_of_lt_of_le hbr hb5.size; have hS3 := hS3.below hb5; have hN := below_then hN hb5))
      all_goals
        clear hat hbr HM HRM
        go_upto_region 8 with fail
        have HCS := Lib.hid (fun (wx : World) (hb : Below w5.heap.size w5 wx) => (show Calls Try.prog 14 #[.slice A3 M.length c3, .slice A4 M.length c4] wx fun e w' => e = .returned (.bool true) ∧ Below wx.heap.size wx w' from
          (sameGf_iff A3 A4 c3 c4 M M wx HML.out HML.out (SlV.below hS3 hb).1 (SlV.below hS4 hb).1).mono (by
            rintro e w' ⟨b, rfl, hb1, hb2⟩
            rw [hb1.2 rfl]
            exact ⟨rfl, hb2⟩)))
        have HW1 := Lib.hid (fun (wx : World) (hb : Below w5.heap.size w5 wx) => HH.out.wanted x B d rs wx (by omega) (SlV.below HR.out (hN.trans (hb.mono hN.size))))
        have HW2 := Lib.hid (fun (wx : World) (hb : Below w5.heap.size w5 wx) => refWantedG_any x B d rs wx (by omega) (SlV.below HR.out (hN.trans (hb.mono hN.size))).1)
        have HN1 := Lib.hid (fun (wx : World) => HH.out.newer x y wx)
        have HN2 := Lib.hid (fun (wx : World) => refNewerG_any x y wx)
        generalize wantedG x rs = vb at *
        generalize newG x y = vn at *
        have d1 : ∀ d' os, Calls Try.prog 14 #[.slice A3 M.length c3, .slice A4 M.length c4] (Sort.grow (redrawn w5 d') os) fun e w'' => e = .returned (.bool true) ∧ ∃ p : Regrown, w'' = Sort.grow (redrawn w5 p.d) p.os := fun d' os => Calls.regrown_of (HCS.out _ (below_regrown w5 d' os))
        have d2 : ∀ d' os, Calls Try.prog 15 #[.agg #[.int .i64 x.d, .int .i64 x.i, .int .i64 x.c, .int .i64 x.t, .string x.s], .slice B rs.length d] (Sort.grow (redrawn w5 d') os) fun e w'' => e = .returned (.bool vb) ∧ ∃ p : Regrown, w'' = Sort.grow (redrawn w5 p.d) p.os := fun d' os => Calls.regrown_of (HW1.out _ (below_regrown w5 d' os))
        have d3 : ∀ d' os, Calls Try.prog 16 #[.agg #[.int .i64 x.d, .int .i64 x.i, .int .i64 x.c, .int .i64 x.t, .string x.s], .slice B rs.length d] (Sort.grow (redrawn w5 d') os) fun e w'' => e = .returned (.bool vb) ∧ ∃ p : Regrown, w'' = Sort.grow (redrawn w5 p.d) p.os := fun d' os => Calls.regrown_of (HW2.out _ (below_regrown w5 d' os))
        have d4 : ∀ d' os, Calls Try.prog 17 #[.agg #[.int .i64 x.d, .int .i64 x.i, .int .i64 x.c, .int .i64 x.t, .string x.s], .agg #[.int .i64 y.d, .int .i64 y.i, .int .i64 y.c, .int .i64 y.t, .string y.s]] (Sort.grow (redrawn w5 d') os) fun e w'' => e = .returned (.bool vn) ∧ ∃ p : Regrown, w'' = Sort.grow (redrawn w5 p.d) p.os := fun d' os => Calls.regrown_of (HN1.out _)
        have d5 : ∀ d' os, Calls Try.prog 18 #[.agg #[.int .i64 x.d, .int .i64 x.i, .int .i64 x.c, .int .i64 x.t, .string x.s], .agg #[.int .i64 y.d, .int .i64 y.i, .int .i64 y.c, .int .i64 y.t, .string y.s]] (Sort.grow (redrawn w5 d') os) fun e w'' => e = .returned (.bool vn) ∧ ∃ p : Regrown, w'' = Sort.grow (redrawn w5 p.d) p.os := fun d' os => Calls.regrown_of (HN2.out _)
        have hy : ∀ w, (Instr.indexAt 33 (.slice A l.length c) (.int .i64 0)).run Try.prog w = .ok (.pointer (some ⟨b, off, none⟩)) w := fun w => by
          have h := hx0 w
          simpa using h
        obtain ⟨s0, s1, s2, s3, s4⟩ := gfAt5 (HAT.out w5 hN)
        obtain ⟨t0, t1, t2, t3, t4⟩ := gfAt5 (HAT0.out w5 hN)
        simp only [Nat.zero_mul, Nat.add_zero] at t0 t1 t2 t3 t4
        have k0 := cell_regrown s0
        have k1 := cell_regrown s1
        have k2 := cell_regrown s2
        have k3 := cell_regrown s3
        have k4 := cell_regrown s4
        have m0 := cell_regrown t0
        have m1 := cell_regrown t1
        have m2 := cell_regrown t2
        have m3 := cell_regrown t3
        have m4 := cell_regrown t4
        clear s0 s1 s2 s3 s4 t0 t1 t2 t3 t4 HCS HW1 HW2 HN1 HN2 HAT HAT0 hx0
        refine wp_region_quiet_below (by kernel_rfl) (by as_aux_lemma => kernel_rfl) ?_
        repeat (go_big_quiet_step ((with_reducible (first | exact d1 _ _ | exact d2 _ _ | exact d3 _ _ | exact d4 _ _ | exact d5 _ _))))
        refine wpQuiet_nil ?_
        intro _ hw'
        obtain ⟨⟨dq, osq⟩, hw''⟩ := hw'
        subst hw''
        have hq := below_regrown w5 dq osq
        replace hS3 := SlV.below hS3 hq
        replace hS4 := SlV.below hS4 hq
        replace hN := hN.trans (hq.mono hN.size)
        clear d1 d2 d3 d4 d5 k0 k1 k2 k3 k4 m0 m1 m2 m3 m4 hx hy hq
        generalize Sort.grow (redrawn w5 dq) osq = W6 at *
        go_wp2_with fail
        exact ⟨⟨k + 1, A3, A4, c3, c4, by omega, by rw [HNX.out], by rw [HNX.out], by go_num, by rw [HNX.out]; exact hS3, by rw [HNX.out]; exact hS4, hN⟩, by simp [intOf]; omega⟩
    · obtain rfl : k = l.length := by omega
      clear hS1 hS2
      go_wp2_with fail
      refine (HA.out _).mono ?_
      rintro r w1 ⟨rfl, hb1⟩
      go_wp2_with fail
      go_ret
      exact ⟨rfl, below_then hN hb1⟩
set_option maxRecDepth 100000 in
theorem merges17_lifted (H0 : GiftCalls) (os : Os) (started : os.Started) (H : Type) (enc : TypeId × Value → H) :
    ReturnsInHanded {} Try.checked os 4 .any (Rows.giftMergesSpec.pre6 enc Try.prog Try.f4 Rows.giftMergesRow.domain false) (Rows.giftMergesSpec.post enc Try.prog Try.f4 false true false false) := by
  refine returnsInHanded_of_change (C := Try.checked) own started (by kernel_rfl) Try.func4
    (ChangeSpec.witness6 (enc := enc) (C := Try.checked) false ⟨#[], #[.slice none 0 0, .slice none 0 0], []⟩ 8 (by kernel_rfl) (by kernel_rfl) (by kernel_rfl) (by kernel_rfl)) ?_
  intro W base args ds gs before hval0 hW _ _
  have hval : ∀ (j : Nat) t v, Try.f4.params[j]? = some t → args[j]? = some v → Value.okWide Try.prog W .any base t v := hval0
  have hW' := hW
  obtain ⟨p, q, hA0, hV, rfl, _, _⟩ := hW
  have hA : DataW.TrodAll enc Try.prog W 0 (fun _ => true) true Try.f4.params.toList args.toList ds p := hA0
  rw [Try.params4] at hA hval
  obtain ⟨v0, v1, d0, d1, p0, p1, rfl, rfl, rfl, h0, h1⟩ := trodAll_two hA
  obtain ⟨A, c, l, rfl, hS, _, _, _⟩ := open_gfs (hval 0 33 v0 rfl rfl) h0
  obtain ⟨B, d, rs, rfl, hR, hR1, hR2, _⟩ := open_rps (hval 1 34 v1 rfl rfl) h1
  have hc : Calls Try.prog 4 #[.slice A l.length c, .slice B rs.length d] W fun e w' => e = .returned (.bool true) ∧ Below W.heap.size W w' := by
    by_cases h : l.length ≤ 40 ∧ rs.length ≤ 40
    · exact merges17_yes H0 A B c d l rs W hS ⟨hR, hR2, hR1⟩ h.1 h.2
    · exact merges17_no H0 A B c d l rs W (by omega)
  refine hc.mono fun e W' ⟨he, hb⟩ => ?_
  subst he
  exact ⟨_, rfl, Frm.law_post (by kernel_rfl) (by kernel_rfl) (by kernel_rfl) Try.underlying4 rfl rfl hW' hb⟩

theorem merges17_holds (H0 : GiftCalls) : Rows.GiftMergesSaid :=
  OpenClaim.holds_of_wide 4 Try.f4 rfl rfl rfl rfl rfl rfl rfl ⟨rfl, rfl, rfl, rfl, rfl⟩ rfl rfl rfl rfl rfl (by kernel_rfl) Try.func4 (by kernel_rfl)
    (of_decide_eq_true (by kernel_rfl)) (by unfold Func.isWrapper; first | (rw [if_pos (by decide +kernel)]; kernel_rfl) | (rw [if_neg (by decide +kernel)]; exact ⟨rfl, rfl⟩))
    (fun os started H enc _ => merges17_lifted H0 os started H enc)
end Go.Proofs.Ytfpgfclmmdihjaa

/- The law's 'same' of two states. -/
namespace Go.Proofs.Ytfpgfclmmdihjaa
open Go.RowKit Tre Cod Pst Nam

theorem stIn11 {w : World} {b : Nat} {x : Sw} (h : stE.In w b x) : w.cell? ⟨b, 3, none⟩ = some (.int .i64 x.pos) ∧ w.cell? ⟨b, 4, none⟩ = some (.int .i64 x.y.t) ∧ w.cell? ⟨b, 5, none⟩ = some (.int .i64 x.pos) ∧ w.cell? ⟨b, 6, none⟩ = some (.slice none 0 0) ∧ w.cell? ⟨b, 14, none⟩ = some (.slice x.y.bA x.y.base.length x.y.bc) ∧ w.cell? ⟨b, 15, none⟩ = some (.int .i64 x.y.t) ∧ w.cell? ⟨b, 16, none⟩ = some (.slice x.y.oA x.y.ops.length x.y.oc) ∧ w.cell? ⟨b, 17, none⟩ = some (.slice x.y.uA x.y.us.length x.y.uc) ∧ w.cell? ⟨b, 18, none⟩ = some (.slice x.y.wA x.y.now.length x.y.wc) ∧ w.cell? ⟨b, 19, none⟩ = some (.slice x.cA x.l.length x.cc) ∧ w.cell? ⟨b, 22, none⟩ = some (.int .i64 x.clock) :=
  ⟨h.cell 3, h.cell 4, h.cell 5, h.cell 6, h.cell 14, h.cell 15, h.cell 16, h.cell 17, h.cell 18, h.cell 19, h.cell 22⟩
end Go.Proofs.Ytfpgfclmmdihjaa
