/- Texts laid one behind the other: Ie, If, Ig, Im, In, Io. -/
import Derived.Test.YtknoabafpgdooaaB02
import Derived.Deep.CutRange
/- The document's Merge of reports. -/
namespace Go.Proofs.Ytknoabafpgdooaa
open Go.RowKit Cod

theorem cutR_next {l : List Rp} {d : Int} {k : Nat} (hk : k ≤ cutR l d) (h : k < l.length) (hd : l[k].d < d) : k + 1 ≤ cutR l d := by
  rcases Nat.lt_or_ge k (cutR l d) with h1 | h1
  · exact h1
  · obtain rfl : k = cutR l d := by omega
    exact absurd hd (cutR_at l d h)
theorem cutR_here {l : List Rp} {d : Int} {k : Nat} (hk : k ≤ cutR l d) (h : k = l.length ∨ ∃ h : k < l.length, d ≤ l[k].d) : k = cutR l d := by
  rcases Nat.lt_or_ge k (cutR l d) with h1 | h1
  · rcases h with h | ⟨h, h2⟩
    · have := cutR_le l d; omega
    · have := cutR_lt l d k h h1; omega
  · omega
def RpS (n : Nat) (r : Rp) (w : World) : Prop := w.cell? ⟨n, 0, none⟩ = some (.int .i64 r.d) ∧ w.cell? ⟨n, 1, none⟩ = some (.int .i64 r.i) ∧ w.cell? ⟨n, 2, none⟩ = some (.int .i64 r.b) ∧ w.cell? ⟨n, 3, none⟩ = some (.int .i64 r.t) ∧ w.cell? ⟨n, 4, none⟩ = some (.int .i64 r.m) ∧ w.cell? ⟨n, 5, none⟩ = some (.int .i64 r.p) ∧ w.cell? ⟨n, 6, none⟩ = some (.int .i64 r.c) ∧ w.cell? ⟨n, 7, none⟩ = some (.int .i64 r.s) ∧ w.cell? ⟨n, 8, none⟩ = some (.int .i64 r.k)

set_option maxRecDepth 100000 in
set_option maxHeartbeats 4000000 in
theorem refRpMerge_any (A : Option Addr) (cap : Nat) (l : List Rp) (c : Rp) (w : World) (hl : l.length ≤ 1000) (hT : SlV rpE w A cap l) :
    Calls Try.prog 16 #[.slice A l.length cap, .agg #[.int .i64 c.d, .int .i64 c.i, .int .i64 c.b, .int .i64 c.t, .int .i64 c.m, .int .i64 c.p, .int .i64 c.c, .int .i64 c.s, .int .i64 c.k]] w fun e w' => ∃ (A' : Option Addr) (c' : Nat), e = .returned (.slice A' (mergeR l c).length c') ∧ SlV rpE w' A' c' (mergeR l c) ∧ Below w.heap.size w w' := by
  obtain ⟨hT, hz, hlc⟩ := hT
  have hP : rpE.In (w.alloc (.cells #[.int .i64 c.d, .int .i64 c.i, .int .i64 c.b, .int .i64 c.t, .int .i64 c.m, .int .i64 c.p, .int .i64 c.c, .int .i64 c.s, .int .i64 c.k] 23)) w.heap.size c := El.In.new (E := rpE) w c _ rfl
  have hB := below_alloc (Below.refl w.heap.size w) (.cells #[.int .i64 c.d, .int .i64 c.i, .int .i64 c.b, .int .i64 c.t, .int .i64 c.m, .int .i64 c.p, .int .i64 c.c, .int .i64 c.s, .int .i64 c.k] 23)
  obtain ⟨RM, hRM⟩ : ∃ RM, mergeR l c = RM := ⟨_, rfl⟩
  rw [hRM]
  have HRM := Lib.hid hRM
  clear hRM
  go_enter Try.func16, Try.ntmps16
  go_wp2_with fail
  generalize w.alloc (.cells #[.int .i64 c.d, .int .i64 c.i, .int .i64 c.b, .int .i64 c.t, .int .i64 c.m, .int .i64 c.p, .int .i64 c.c, .int .i64 c.s, .int .i64 c.k] 23) = W0 at *
  obtain ⟨nc, hnc⟩ : ∃ n, w.heap.size = n := ⟨_, rfl⟩
  rw [hnc] at hP ⊢
  have hwn : w.heap.size ≤ nc := by omega
  clear hnc
  go_loopw [5] (fun y wr => ∃ k : Nat, k ≤ cutR l c.d ∧ y = .int .i64 k ∧ rpE.In wr nc c ∧ Below w.heap.size w wr) (fun y _ => l.length - (intOf y).toNat)
  case atStart => exact ⟨0, Nat.zero_le _, rfl, hP, hB⟩
  case round =>
    clear hP hB
    obtain ⟨k, hk, rfl, hP, hB⟩ := hrel
    obtain ⟨q0, q1, q2, q3, q4, q5, q6, q7, q8⟩ := rpIn9 hP
    by_cases hkl : k < l.length
    · obtain ⟨b, off, hA, hbw, hc⟩ := hT (by omega)
      have hat : rpE.At wr b (off + k * 9) l[k] := (hc k hkl).below hB hbw
      have hx := rpIdxH (cap := cap) hA hkl
      obtain ⟨s0, s1, s2, s3, s4, s5, s6, s7, s8⟩ := rpAt9 hat
      by_cases hd : l[k].d < c.d
      · have HN := Lib.hid (cutR_next hk hkl hd)
        have f1 : decide (l[k].d < c.d) = true := decide_eq_true hd
        have hki : (k : Int) < (l.length : Int) := by omega
        clear hc hat hA
        generalize l[k].d = x0 at *
        go_wp2_with fail
        go_quiet (fail)
        go_wp2_with fail
        exact ⟨⟨k + 1, HN.out, by go_num, hP, below_drew hB nq⟩, by simp [intOf]; omega⟩
      · have HX := Lib.hid (cutR_here hk (Or.inr ⟨hkl, by omega⟩))
        have f1 : decide (l[k].d < c.d) = false := decide_eq_false hd
        have hki : (k : Int) < (l.length : Int) := by omega
        have n1 : ((k : Int) == (l.length : Int)) = false := beq_eq_false_iff_ne.2 (by omega)
        have n2 : decide ((k : Int) = (l.length : Int)) = false := decide_eq_false (by omega)
        have n3 : (k == l.length) = false := beq_eq_false_iff_ne.2 (by omega)
        have n4 : decide (k = l.length) = false := decide_eq_false (by omega)
        have HC := Lib.hid hc
        have HAA := Lib.hid hA
        clear hc hat hA
        by_cases he : l[k].d = c.d
        · have hold := mergeR_old l c (by rw [← HX.out]; exact hkl)
          simp only [← HX.out] at hold
          have HM := Lib.hid (hold he)
          clear hold
          generalize hx0 : l[k].d = x0 at *
          have g5 : (x0 == c.d) = true := beq_iff_eq.2 he
          have g6 : decide (x0 = c.d) = true := decide_eq_true he
          have g7 : (x0 != c.d) = false := by simp [he]
          have g8 : decide (¬ x0 = c.d) = false := by simp [he]
          clear he hx0
          go_wp2_with fail
          go_quiet (fail)
          have hB1 := below_drew hB nq
          have hP1 : rpE.In (wr.drewN nq) nc c := hP
          have s01 : (wr.drewN nq).cell? ⟨b, off + k * 9, none⟩ = some (.int .i64 x0) := s0
          clear hB hP s0 s1 s2 s3 s4 s5 s6 s7 s8 q0 q1 q2 q3 q4 q5 q6 q7 q8 f1
          go_wp2_with fail
          generalize wr.drewN nq = V1 at *
          obtain ⟨q0, q1, q2, q3, q4, q5, q6, q7, q8⟩ := rpIn9 hP1
          go_quiet (fail)
          clear s01 q0 q1 q2 q3 q4 q5 q6 q7 q8 g5 g6 g7 g8 n1 n2 n3 n4
          have hB := below_drew hB1 nq
          have hP : rpE.In (V1.drewN nq) nc c := hP1
          clear hB1 hP1
          generalize V1.drewN nq = V at *
          have hE := El.Own.empty (E := rpE) V V.heap.size (Nat.le_refl _)
          have hb0 := below_alloc (Below.refl V.heap.size V) (.cells #[] 23)
          have hTV := hT.below (hB.trans (hb0.mono hB.size))
          have hP0 := hP.below hb0
          have hB0 := below_then hB hb0
          obtain ⟨g, hg⟩ : ∃ g, V.heap.size = g := ⟨_, rfl⟩
          have hgw : w.heap.size ≤ g := by have := hB.size; omega
          have hncg : nc < g := by have := hP.lt; omega
          have hg1 : g ≤ (V.alloc (.cells #[] 23)).heap.size := by rw [alloc_size]; omega
          rw [hg] at hE
          clear hP hB hb0
          go_wp2_with (at_builtin; refine El.wpList_app rpInn rfl _ _ rfl g (.slice (some ⟨g, 0, none⟩) 0 0) [] l (by rw [← hg]; rfl) hE A l.length cap rfl rfl hTV hz (by simp; omega) hg1 ?_; intro v' w4 hO hg4 _)
          have hr4 : ∀ kk, Value.ownBlock (.slice (some ⟨g, 0, none⟩) 0 0) = some kk → kk = g := fun kk e => by cases e; rfl
          replace hP0 := hP0.keep hg4 (fun e => by have := hr4 nc e.symm; omega)
          replace hB0 := hB0.grown hg4 hB0.size (fun kk e => by have := hr4 kk e; omega)
          replace hO : rpE.Own w4 g v' l := hO
          have hat : rpE.At w4 b (off + k * 9) l[k] := (HC.out k hkl).below hB0 hbw
          have hv2 := hO.lt
          clear hr4 hg4 hTV hE hg1
          obtain ⟨A2, c2, rfl, hS2⟩ := SlV.own hO
          generalize l[k] = x at *
          obtain ⟨bn, hbn⟩ : ∃ bn, newB c x = bn := ⟨_, rfl⟩
          have CN := Lib.hid (fun wx => (by
            have h := refRpNewer_any c x wx
            rw [hbn] at h
            exact h : Calls Try.prog 12 #[.agg #[.int .i64 c.d, .int .i64 c.i, .int .i64 c.b, .int .i64 c.t, .int .i64 c.m, .int .i64 c.p, .int .i64 c.c, .int .i64 c.s, .int .i64 c.k], .agg #[.int .i64 x.d, .int .i64 x.i, .int .i64 x.b, .int .i64 x.t, .int .i64 x.m, .int .i64 x.p, .int .i64 x.c, .int .i64 x.s, .int .i64 x.k]] wx fun e w' => e = .returned (.bool bn) ∧ Below wx.heap.size wx w'))
          have HM2 := Lib.hid (show mergeR l c = if bn = true then l.set k c else l by rw [← hbn]; exact HM.out)
          have hbr : b < w4.heap.size := Nat.lt_of_lt_of_le hbw hB0.size
          clear HM hbn HC
          replace hP0 : rpE.In w4.drew nc c := hP0
          replace hat : rpE.At w4.drew b (off + k * 9) x := hat
          replace hO : rpE.Own w4.drew g (.slice A2 l.length c2) l := hO
          replace hS2 : SlV rpE w4.drew A2 c2 l := hS2
          replace hB0 := hB0.drew
          replace hbr : b < w4.drew.heap.size := hbr
          go_region_held3 (fun w' => (w'.cell? ⟨nc, 0, none⟩ = some (.int .i64 c.d) ∧ w'.cell? ⟨nc, 1, none⟩ = some (.int .i64 c.i) ∧ w'.cell? ⟨nc, 2, none⟩ = some (.int .i64 c.b) ∧ w'.cell? ⟨nc, 3, none⟩ = some (.int .i64 c.t) ∧ w'.cell? ⟨nc, 4, none⟩ = some (.int .i64 c.m) ∧ w'.cell? ⟨nc, 5, none⟩ = some (.int .i64 c.p) ∧ w'.cell? ⟨nc, 6, none⟩ = some (.int .i64 c.c) ∧ w'.cell? ⟨nc, 7, none⟩ = some (.int .i64 c.s) ∧ w'.cell? ⟨nc, 8, none⟩ = some (.int .i64 c.k)) ∧ (w'.cell? ⟨b, off + k * 9, none⟩ = some (.int .i64 x.d) ∧ w'.cell? ⟨b, off + k * 9 + 1, none⟩ = some (.int .i64 x.i) ∧ w'.cell? ⟨b, off + k * 9 + 2, none⟩ = some (.int .i64 x.b) ∧ w'.cell? ⟨b, off + k * 9 + 3, none⟩ = some (.int .i64 x.t) ∧ w'.cell? ⟨b, off + k * 9 + 4, none⟩ = some (.int .i64 x.m) ∧ w'.cell? ⟨b, off + k * 9 + 5, none⟩ = some (.int .i64 x.p) ∧ w'.cell? ⟨b, off + k * 9 + 6, none⟩ = some (.int .i64 x.c) ∧ w'.cell? ⟨b, off + k * 9 + 7, none⟩ = some (.int .i64 x.s) ∧ w'.cell? ⟨b, off + k * 9 + 8, none⟩ = some (.int .i64 x.k))) (with_reducible exact ⟨rpIn9 hP0, rpAt9 hat⟩) (first | (go_at_call 12; (with_reducible refine (CN.out _).mono ?_); rintro e w6 ⟨rfl, hb6⟩; replace hP0 := hP0.below hb6; replace hat := hat.below hb6 hbr; replace hO := hO.below hb6; replace hS2 := hS2.below hb6; replace hB0 := below_then hB0 hb6; clear hb6))
          obtain ⟨g2, hA2⟩ : ∃ g2, A2 = some ⟨g2, 0, none⟩ := by
            rcases hO.2 with ⟨e, h0⟩ | ⟨g', cap', cur', e, _⟩
            · injection e with e1 e2 e3; omega
            · injection e with e1 e2 e3; exact ⟨g', e1⟩
          subst hA2
          cases bn
          · have hm := HM2.out
            rw [if_neg (by decide)] at hm
            have HM3 := Lib.hid hm
            clear hm
            go_wp2_with fail
            go_ret
            exact ⟨_, c2, by rw [← HRM.out, HM3.out]; rfl, by rw [← HRM.out, HM3.out]; exact hS2, hB0⟩
          · have hm := HM2.out
            rw [if_pos rfl] at hm
            have HM3 := Lib.hid hm
            clear hm
            have hx2 := rpIdxH (cap := c2) (A := some ⟨g2, 0, none⟩) rfl hkl
            simp only [Nat.zero_add] at hx2
            go_wp2_with (first | (refine El.load rpRow rfl _ rfl nc 0 rfl c hP0.at #[.int .i64 c.d, .int .i64 c.i, .int .i64 c.b, .int .i64 c.t, .int .i64 c.m, .int .i64 c.p, .int .i64 c.c, .int .i64 c.s, .int .i64 c.k] rfl ?_) | (refine El.wpList_setAt rpRow rfl _ _ rfl g g2 c2 k l c hO hkl #[.int .i64 c.d, .int .i64 c.i, .int .i64 c.b, .int .i64 c.t, .int .i64 c.m, .int .i64 c.p, .int .i64 c.c, .int .i64 c.s, .int .i64 c.k] rfl rfl rfl ?_; intro w7 hO7 hg7 _) | fail)
            go_ret
            obtain ⟨A8, c8, e8, hS8⟩ := SlV.own (l := l.set k c) (by have h := hO7; unfold El.Own at h ⊢; rw [List.length_set]; rw [List.length_set] at h; exact h : rpE.Own w7 g (.slice (some ⟨g2, 0, none⟩) l.length c2) (l.set k c))
            have hSS : SlV rpE w7 (some ⟨g2, 0, none⟩) c2 (l.set k c) := by
              injection e8 with e1 e2 e3
              subst e1 e3
              exact hS8
            exact ⟨some ⟨g2, 0, none⟩, c2, by rw [← HRM.out, HM3.out, List.length_set]; rfl, by rw [← HRM.out, HM3.out]; exact hSS, hB0.grown hg7 hB0.size (fun kk e => by have h1 := (hO.lt g2 rfl).1; have h2 := Option.some.inj e; omega)⟩
        · have hnew := mergeR_new l c (by rw [← HX.out]; exact fun _ => he)
          rw [← HX.out] at hnew
          have HTO := Lib.hid hnew.symm
          clear hnew
          generalize hx0 : l[k].d = x0 at *
          have g5 : (x0 == c.d) = false := beq_eq_false_iff_ne.2 he
          have g6 : decide (x0 = c.d) = false := decide_eq_false he
          have g7 : (x0 != c.d) = true := by simp [he]
          have g8 : decide (¬ x0 = c.d) = true := by simp [he]
          clear he hx0
          obtain ⟨A3, hA3⟩ : ∃ A3, (if cap = k then A else Option.map (fun x => x.add ((k) * 9)) A) = A3 := ⟨_, rfl⟩
          have hT3 := hT.drop hlc hA3
          have hz3 := El.drop_none hz hA3
          have g0 : (0 : Int) ≤ (k : Int) := by omega
          have g1 : (k : Int) ≤ (cap : Int) := by omega
          have g2 : (k : Int) ≤ (l.length : Int) := by omega
          have g3 : (k : Int) + 1 ≤ (cap : Int) + 1 := by omega
          have hA4 : Option.map (fun x => x.add (k * 9)) A = A3 := by
            rw [← hA3, if_neg (by omega)]
          have hck : ¬ cap = k := by omega
          go_wp2_with fail
          go_quiet (fail)
          have hB1 := below_drew hB nq
          have hP1 : rpE.In (wr.drewN nq) nc c := hP
          have s01 : (wr.drewN nq).cell? ⟨b, off + k * 9, none⟩ = some (.int .i64 x0) := s0
          clear hB hP s0 s1 s2 s3 s4 s5 s6 s7 s8 q0 q1 q2 q3 q4 q5 q6 q7 q8 f1
          go_wp2_with fail
          generalize wr.drewN nq = V1 at *
          obtain ⟨q0, q1, q2, q3, q4, q5, q6, q7, q8⟩ := rpIn9 hP1
          go_quiet (fail)
          clear s01 q0 q1 q2 q3 q4 q5 q6 q7 q8 g5 g6 g7 g8 n1 n2 n3 n4
          have hB := below_drew hB1 nq
          have hP : rpE.In (V1.drewN nq) nc c := hP1
          clear hB1 hP1
          go_wp2_with fail
          generalize V1.drewN nq = V at *
          try rw [hA4]
          skip
          have HE1 := Lib.hid (show (l.take k).length = k by rw [List.length_take]; omega)
          have HE3 := Lib.hid (show (l.drop (k)).length = l.length - k by simp only [List.length_drop]; try omega)
          have htk := (hT.take k).below hB
          have ht3 := hT3.below hB
          generalize l.take k = L1 at *
          generalize l.drop (k) = L3 at *
          obtain ⟨B, hBe⟩ : ∃ B, V.heap.size = B := ⟨_, rfl⟩
          have hBV : B ≤ V.drew.heap.size := Nat.le_of_eq hBe.symm
          have kV : rpE.SlB B V.drew A L1 := El.SlB.of htk (Nat.le_of_eq hBe)
          have tV : rpE.SlB B V.drew A3 L3 := El.SlB.of ht3 (Nat.le_of_eq hBe)
          have hwB : w.heap.size ≤ B := by have := hB.size; omega
          have hnB : nc < B := by have := hP.lt; omega
          replace hP : rpE.In V.drew nc c := hP
          replace hB := hB.drew
          clear htk ht3 hBe hT hT3
          refine region_anyG (S := RpS nc c) 12 (by kernel_rfl) ?_
          generalize V.drew = U at *
          have hS : RpS nc c U := rpIn9 hP
          refine anyG_take (i := 1) (v := .slice A l.length cap) rfl (by kernel_rfl) (by kernel_rfl) (by kernel_rfl) (by kernel_rfl) (by kernel_rfl) (fun _ _ _ h => h) (Or.inl ⟨by rfl, fun w' hSw => by (obtain ⟨s0, s1, s2, s3, s4, s5, s6, s7, s8⟩ := hSw; go_simp)⟩) hS ?_
          try simp only [Act.put, List.setIfInBounds_toArray, List.set_cons_zero, List.set_cons_succ]
          refine anyG_take (i := 2) (v := .int .i64 k) rfl (by kernel_rfl) (by kernel_rfl) (by kernel_rfl) (by kernel_rfl) (by kernel_rfl) (fun _ _ _ h => h) (Or.inl ⟨by rfl, fun w' hSw => by (obtain ⟨s0, s1, s2, s3, s4, s5, s6, s7, s8⟩ := hSw; go_simp)⟩) hS ?_
          try simp only [Act.put, List.setIfInBounds_toArray, List.set_cons_zero, List.set_cons_succ]
          refine anyG_take (i := 3) (v := .slice A k cap) rfl (by kernel_rfl) (by kernel_rfl) (by kernel_rfl) (by kernel_rfl) (by kernel_rfl) (fun _ _ _ h => h) (Or.inl ⟨by rfl, fun w' hSw => by (obtain ⟨s0, s1, s2, s3, s4, s5, s6, s7, s8⟩ := hSw; go_simp)⟩) hS ?_
          try simp only [Act.put, List.setIfInBounds_toArray, List.set_cons_zero, List.set_cons_succ]
          refine anyG_take (i := 5) (v := .agg #[.int .i64 c.d, .int .i64 c.i, .int .i64 c.b, .int .i64 c.t, .int .i64 c.m, .int .i64 c.p, .int .i64 c.c, .int .i64 c.s, .int .i64 c.k]) rfl (by kernel_rfl) (by kernel_rfl) (by kernel_rfl) (by kernel_rfl) (by kernel_rfl) (fun _ _ _ h => h) (Or.inl ⟨by rfl, fun w' hSw => by (obtain ⟨s0, s1, s2, s3, s4, s5, s6, s7, s8⟩ := hSw; go_simp)⟩) hS ?_
          try simp only [Act.put, List.setIfInBounds_toArray, List.set_cons_zero, List.set_cons_succ]
          refine anyG_take (i := 8) (v := .slice A l.length cap) rfl (by kernel_rfl) (by kernel_rfl) (by kernel_rfl) (by kernel_rfl) (by kernel_rfl) (fun _ _ _ h => h) (Or.inl ⟨by rfl, fun w' hSw => by (obtain ⟨s0, s1, s2, s3, s4, s5, s6, s7, s8⟩ := hSw; go_simp)⟩) hS ?_
          try simp only [Act.put, List.setIfInBounds_toArray, List.set_cons_zero, List.set_cons_succ]
          refine anyG_take (i := 9) (v := .int .i64 k) rfl (by kernel_rfl) (by kernel_rfl) (by kernel_rfl) (by kernel_rfl) (by kernel_rfl) (fun _ _ _ h => h) (Or.inl ⟨by rfl, fun w' hSw => by (obtain ⟨s0, s1, s2, s3, s4, s5, s6, s7, s8⟩ := hSw; go_simp)⟩) hS ?_
          try simp only [Act.put, List.setIfInBounds_toArray, List.set_cons_zero, List.set_cons_succ]
          refine anyG_take (i := 10) (v := .slice A3 (l.length - k) (cap - k)) rfl (by kernel_rfl) (by kernel_rfl) (by kernel_rfl) (by kernel_rfl) (by kernel_rfl) (fun _ _ _ h => h) (Or.inl ⟨by rfl, fun w' hSw => by (obtain ⟨s0, s1, s2, s3, s4, s5, s6, s7, s8⟩ := hSw; go_simp)⟩) hS ?_
          try simp only [Act.put, List.setIfInBounds_toArray, List.set_cons_zero, List.set_cons_succ]
          refine anyG_step (rs := [0, 6]) (by kernel_rfl) (by simp) ?_
          refine AllG.cons rfl (fun K hK => ?_) (AllG.cons rfl (fun K hK => ?_) AllG.nil)
          · skip
            have hal := below_alloc (Below.refl (U).heap.size U) (.cells #[] 23)
            have hg := World.grownBy_alloc U (.cells #[] 23) none
            have hO0 : rpE.Own ((U).alloc (.cells #[] 23)) B (.slice (some ⟨(U).heap.size, 0, none⟩) 0 0) [] := El.Own.empty (E := rpE) U B hBV
            replace hP := hP.below hal
            replace kV := kV.keep hg (fun k e => by cases e)
            replace tV := tV.keep hg (fun k e => by cases e)
            replace hB := hB.trans (hal.mono hB.size)
            replace hBV := Nat.le_trans hBV hal.size
            try replace he := he.below hal
            try have hn60 := Nat.ne_of_lt hn6
            clear hg
            try clear hS
            go_simp
            refine hK.out _ _ (rpIn9 hP : RpS nc c _) ?_
            try simp only [Act.put, List.setIfInBounds_toArray, List.set_cons_zero, List.set_cons_succ]
            clear hK
            clear hal
            generalize (U).alloc (.cells #[] 23) = U1 at *
            generalize (U).heap.size = n0 at *
            refine anyG_step (rs := [4, 6]) (by kernel_rfl) (by simp) ?_
            refine AllG.cons rfl (fun K hK => ?_) (AllG.cons rfl (fun K hK => ?_) AllG.nil)
            · skip
              refine El.step_app rpInn rfl (.tmp 37) (.tmp 40) rfl B _ [] L1 rfl hO0 A k cap rfl HE1.out (kV.sl hBV) hz (by have := HE1.out; simp; omega) hBV ?_
              intro v1 W4 hO1 hg4 _
              have hr := hO0.rows
              replace hO1 : rpE.Own W4 B v1 L1 := hO1
              replace hP := hP.keep hg4 (fun e => by have := hr nc e.symm; omega)
              replace tV := tV.keep hg4 hr
              replace hB := hB.grown hg4 hB.size (fun k e => by have := hr k e; omega)
              replace hBV := Nat.le_trans hBV hg4.size
              try replace he := he.keep1 hg4 (fun e => hn60 (Option.some.inj e))
              clear hr hO0 kV hg4
              refine hK.out _ _ (rpIn9 hP : RpS nc c _) ?_
              try simp only [Act.put, List.setIfInBounds_toArray, List.set_cons_zero, List.set_cons_succ]
              clear hK
              refine anyG_step (rs := [6]) (by kernel_rfl) (by simp) ?_
              refine AllG.cons rfl (fun K hK => ?_) AllG.nil
              have hal := below_alloc (Below.refl (W4).heap.size W4) (.cells #[.int .i64 c.d, .int .i64 c.i, .int .i64 c.b, .int .i64 c.t, .int .i64 c.m, .int .i64 c.p, .int .i64 c.c, .int .i64 c.s, .int .i64 c.k] 23)
              have hg := World.grownBy_alloc W4 (.cells #[.int .i64 c.d, .int .i64 c.i, .int .i64 c.b, .int .i64 c.t, .int .i64 c.m, .int .i64 c.p, .int .i64 c.c, .int .i64 c.s, .int .i64 c.k] 23) none
              have he : rpE.Sl ((W4).alloc (.cells #[.int .i64 c.d, .int .i64 c.i, .int .i64 c.b, .int .i64 c.t, .int .i64 c.m, .int .i64 c.p, .int .i64 c.c, .int .i64 c.s, .int .i64 c.k] 23)) (some ⟨(W4).heap.size, 0, none⟩) [c] := (El.In.new (E := rpE) W4 c _ rfl).sl
              have hn6 : (W4).heap.size < ((W4).alloc (.cells #[.int .i64 c.d, .int .i64 c.i, .int .i64 c.b, .int .i64 c.t, .int .i64 c.m, .int .i64 c.p, .int .i64 c.c, .int .i64 c.s, .int .i64 c.k] 23)).heap.size := by rw [alloc_size]; omega
              try have hn60 : (W4).heap.size ≠ n0 := by have := (hO0.lt n0 rfl).2; omega
              replace hP := hP.below hal
              try replace kV := kV.keep hg (fun k e => by cases e)
              replace tV := tV.keep hg (fun k e => by cases e)
              replace hB := hB.trans (hal.mono hB.size)
              replace hBV := Nat.le_trans hBV hal.size
              try replace hO0 := hO0.below hal
              try replace hO1 := hO1.below hal
              clear hg
              try clear hS
              go_simp
              refine hK.out _ _ (rpIn9 hP : RpS nc c _) ?_
              try simp only [Act.put, List.setIfInBounds_toArray, List.set_cons_zero, List.set_cons_succ]
              clear hK
              clear hal
              generalize (W4).alloc (.cells #[.int .i64 c.d, .int .i64 c.i, .int .i64 c.b, .int .i64 c.t, .int .i64 c.m, .int .i64 c.p, .int .i64 c.c, .int .i64 c.s, .int .i64 c.k] 23) = U2 at *
              generalize (W4).heap.size = n6 at *
              refine anyG_step (rs := [7]) (by kernel_rfl) (by simp) ?_
              refine AllG.cons rfl (fun K hK => ?_) AllG.nil
              refine El.step_app rpInn rfl (.tmp 41) (.tmp 43) rfl B v1 L1 [c] rfl hO1 (some ⟨n6, 0, none⟩) 1 1 rfl rfl he (fun e => by cases e) (by have := HE1.out; rw [List.length_singleton]; omega) hBV ?_
              intro v2 W7 hO2 hg7 _
              have hr7 := hO1.rows
              replace hP := hP.keep hg7 (fun e => by have := hr7 nc e.symm; omega)
              replace tV := tV.keep hg7 hr7
              replace hB := hB.grown hg7 hB.size (fun k e => by have := hr7 k e; omega)
              replace hBV := Nat.le_trans hBV hg7.size
              clear hr7 hO1 hg7 he
              refine hK.out _ _ (rpIn9 hP : RpS nc c _) ?_
              try simp only [Act.put, List.setIfInBounds_toArray, List.set_cons_zero, List.set_cons_succ]
              clear hK
              refine anyG_step (rs := [11]) (by kernel_rfl) (by simp) ?_
              refine AllG.cons rfl (fun K hK => ?_) AllG.nil
              refine El.step_app rpInn rfl (.tmp 44) (.tmp 47) rfl B v2 (L1 ++ [c]) L3 rfl hO2 A3 (l.length - k) (cap - k) rfl HE3.out (tV.sl hBV) hz3 (by have := HE1.out; have := HE3.out; rw [List.length_append, List.length_singleton]; omega) hBV ?_
              intro v3 W9 hO3 hg9 _
              have hr9 := hO2.rows
              replace hP := hP.keep hg9 (fun e => by have := hr9 nc e.symm; omega)
              replace hB := hB.grown hg9 hB.size (fun k e => by have := hr9 k e; omega)
              clear hr9 hO2 hg9 tV
              refine hK.out _ _ (rpIn9 hP : RpS nc c _) ?_
              try simp only [Act.put, List.setIfInBounds_toArray, List.set_cons_zero, List.set_cons_succ]
              clear hK
              refine anyG_step (rs := [12]) (by kernel_rfl) (by simp) ?_
              refine AllG.last (n := 12) rfl (fun K hK => ?_)
              go_simp
              refine hK.out _ _ ?_
              try simp only [Act.put, List.setIfInBounds_toArray, List.set_cons_zero, List.set_cons_succ]
              clear hK
              refine anyG_done (by kernel_rfl) ?_ _
              rw [HTO.out] at hO3
              obtain ⟨A', c', rfl, hS'⟩ := SlV.own hO3
              clear hO3
              go_wp2_with fail
              go_ret
              exact ⟨A', c', by rw [← HRM.out]; rfl, by rw [← HRM.out]; exact hS', hB⟩
            · skip
              have hal := below_alloc (Below.refl (U1).heap.size U1) (.cells #[.int .i64 c.d, .int .i64 c.i, .int .i64 c.b, .int .i64 c.t, .int .i64 c.m, .int .i64 c.p, .int .i64 c.c, .int .i64 c.s, .int .i64 c.k] 23)
              have hg := World.grownBy_alloc U1 (.cells #[.int .i64 c.d, .int .i64 c.i, .int .i64 c.b, .int .i64 c.t, .int .i64 c.m, .int .i64 c.p, .int .i64 c.c, .int .i64 c.s, .int .i64 c.k] 23) none
              have he : rpE.Sl ((U1).alloc (.cells #[.int .i64 c.d, .int .i64 c.i, .int .i64 c.b, .int .i64 c.t, .int .i64 c.m, .int .i64 c.p, .int .i64 c.c, .int .i64 c.s, .int .i64 c.k] 23)) (some ⟨(U1).heap.size, 0, none⟩) [c] := (El.In.new (E := rpE) U1 c _ rfl).sl
              have hn6 : (U1).heap.size < ((U1).alloc (.cells #[.int .i64 c.d, .int .i64 c.i, .int .i64 c.b, .int .i64 c.t, .int .i64 c.m, .int .i64 c.p, .int .i64 c.c, .int .i64 c.s, .int .i64 c.k] 23)).heap.size := by rw [alloc_size]; omega
              try have hn60 : (U1).heap.size ≠ n0 := by have := (hO0.lt n0 rfl).2; omega
              replace hP := hP.below hal
              try replace kV := kV.keep hg (fun k e => by cases e)
              replace tV := tV.keep hg (fun k e => by cases e)
              replace hB := hB.trans (hal.mono hB.size)
              replace hBV := Nat.le_trans hBV hal.size
              try replace hO0 := hO0.below hal
              try replace hO1 := hO1.below hal
              clear hg
              try clear hS
              go_simp
              refine hK.out _ _ (rpIn9 hP : RpS nc c _) ?_
              try simp only [Act.put, List.setIfInBounds_toArray, List.set_cons_zero, List.set_cons_succ]
              clear hK
              clear hal
              generalize (U1).alloc (.cells #[.int .i64 c.d, .int .i64 c.i, .int .i64 c.b, .int .i64 c.t, .int .i64 c.m, .int .i64 c.p, .int .i64 c.c, .int .i64 c.s, .int .i64 c.k] 23) = U2 at *
              generalize (U1).heap.size = n6 at *
              refine anyG_step (rs := [4]) (by kernel_rfl) (by simp) ?_
              refine AllG.cons rfl (fun K hK => ?_) AllG.nil
              refine El.step_app rpInn rfl (.tmp 37) (.tmp 40) rfl B _ [] L1 rfl hO0 A k cap rfl HE1.out (kV.sl hBV) hz (by have := HE1.out; simp; omega) hBV ?_
              intro v1 W4 hO1 hg4 _
              have hr := hO0.rows
              replace hO1 : rpE.Own W4 B v1 L1 := hO1
              replace hP := hP.keep hg4 (fun e => by have := hr nc e.symm; omega)
              replace tV := tV.keep hg4 hr
              replace hB := hB.grown hg4 hB.size (fun k e => by have := hr k e; omega)
              replace hBV := Nat.le_trans hBV hg4.size
              try replace he := he.keep1 hg4 (fun e => hn60 (Option.some.inj e))
              clear hr hO0 kV hg4
              refine hK.out _ _ (rpIn9 hP : RpS nc c _) ?_
              try simp only [Act.put, List.setIfInBounds_toArray, List.set_cons_zero, List.set_cons_succ]
              clear hK
              refine anyG_step (rs := [7]) (by kernel_rfl) (by simp) ?_
              refine AllG.cons rfl (fun K hK => ?_) AllG.nil
              refine El.step_app rpInn rfl (.tmp 41) (.tmp 43) rfl B v1 L1 [c] rfl hO1 (some ⟨n6, 0, none⟩) 1 1 rfl rfl he (fun e => by cases e) (by have := HE1.out; rw [List.length_singleton]; omega) hBV ?_
              intro v2 W7 hO2 hg7 _
              have hr7 := hO1.rows
              replace hP := hP.keep hg7 (fun e => by have := hr7 nc e.symm; omega)
              replace tV := tV.keep hg7 hr7
              replace hB := hB.grown hg7 hB.size (fun k e => by have := hr7 k e; omega)
              replace hBV := Nat.le_trans hBV hg7.size
              clear hr7 hO1 hg7 he
              refine hK.out _ _ (rpIn9 hP : RpS nc c _) ?_
              try simp only [Act.put, List.setIfInBounds_toArray, List.set_cons_zero, List.set_cons_succ]
              clear hK
              refine anyG_step (rs := [11]) (by kernel_rfl) (by simp) ?_
              refine AllG.cons rfl (fun K hK => ?_) AllG.nil
              refine El.step_app rpInn rfl (.tmp 44) (.tmp 47) rfl B v2 (L1 ++ [c]) L3 rfl hO2 A3 (l.length - k) (cap - k) rfl HE3.out (tV.sl hBV) hz3 (by have := HE1.out; have := HE3.out; rw [List.length_append, List.length_singleton]; omega) hBV ?_
              intro v3 W9 hO3 hg9 _
              have hr9 := hO2.rows
              replace hP := hP.keep hg9 (fun e => by have := hr9 nc e.symm; omega)
              replace hB := hB.grown hg9 hB.size (fun k e => by have := hr9 k e; omega)
              clear hr9 hO2 hg9 tV
              refine hK.out _ _ (rpIn9 hP : RpS nc c _) ?_
              try simp only [Act.put, List.setIfInBounds_toArray, List.set_cons_zero, List.set_cons_succ]
              clear hK
              refine anyG_step (rs := [12]) (by kernel_rfl) (by simp) ?_
              refine AllG.last (n := 12) rfl (fun K hK => ?_)
              go_simp
              refine hK.out _ _ ?_
              try simp only [Act.put, List.setIfInBounds_toArray, List.set_cons_zero, List.set_cons_succ]
              clear hK
              refine anyG_done (by kernel_rfl) ?_ _
              rw [HTO.out] at hO3
              obtain ⟨A', c', rfl, hS'⟩ := SlV.own hO3
              clear hO3
              go_wp2_with fail
              go_ret
              exact ⟨A', c', by rw [← HRM.out]; rfl, by rw [← HRM.out]; exact hS', hB⟩
          · skip
            have hal := below_alloc (Below.refl (U).heap.size U) (.cells #[.int .i64 c.d, .int .i64 c.i, .int .i64 c.b, .int .i64 c.t, .int .i64 c.m, .int .i64 c.p, .int .i64 c.c, .int .i64 c.s, .int .i64 c.k] 23)
            have hg := World.grownBy_alloc U (.cells #[.int .i64 c.d, .int .i64 c.i, .int .i64 c.b, .int .i64 c.t, .int .i64 c.m, .int .i64 c.p, .int .i64 c.c, .int .i64 c.s, .int .i64 c.k] 23) none
            have he : rpE.Sl ((U).alloc (.cells #[.int .i64 c.d, .int .i64 c.i, .int .i64 c.b, .int .i64 c.t, .int .i64 c.m, .int .i64 c.p, .int .i64 c.c, .int .i64 c.s, .int .i64 c.k] 23)) (some ⟨(U).heap.size, 0, none⟩) [c] := (El.In.new (E := rpE) U c _ rfl).sl
            have hn6 : (U).heap.size < ((U).alloc (.cells #[.int .i64 c.d, .int .i64 c.i, .int .i64 c.b, .int .i64 c.t, .int .i64 c.m, .int .i64 c.p, .int .i64 c.c, .int .i64 c.s, .int .i64 c.k] 23)).heap.size := by rw [alloc_size]; omega
            try have hn60 : (U).heap.size ≠ n0 := by have := (hO0.lt n0 rfl).2; omega
            replace hP := hP.below hal
            try replace kV := kV.keep hg (fun k e => by cases e)
            replace tV := tV.keep hg (fun k e => by cases e)
            replace hB := hB.trans (hal.mono hB.size)
            replace hBV := Nat.le_trans hBV hal.size
            try replace hO0 := hO0.below hal
            try replace hO1 := hO1.below hal
            clear hg
            try clear hS
            go_simp
            refine hK.out _ _ (rpIn9 hP : RpS nc c _) ?_
            try simp only [Act.put, List.setIfInBounds_toArray, List.set_cons_zero, List.set_cons_succ]
            clear hK
            clear hal
            generalize (U).alloc (.cells #[.int .i64 c.d, .int .i64 c.i, .int .i64 c.b, .int .i64 c.t, .int .i64 c.m, .int .i64 c.p, .int .i64 c.c, .int .i64 c.s, .int .i64 c.k] 23) = U2 at *
            generalize (U).heap.size = n6 at *
            refine anyG_step (rs := [0]) (by kernel_rfl) (by simp) ?_
            refine AllG.cons rfl (fun K hK => ?_) AllG.nil
            have hal := below_alloc (Below.refl (U2).heap.size U2) (.cells #[] 23)
            have hg := World.grownBy_alloc U2 (.cells #[] 23) none
            have hO0 : rpE.Own ((U2).alloc (.cells #[] 23)) B (.slice (some ⟨(U2).heap.size, 0, none⟩) 0 0) [] := El.Own.empty (E := rpE) U2 B hBV
            replace hP := hP.below hal
            replace kV := kV.keep hg (fun k e => by cases e)
            replace tV := tV.keep hg (fun k e => by cases e)
            replace hB := hB.trans (hal.mono hB.size)
            replace hBV := Nat.le_trans hBV hal.size
            try replace he := he.below hal
            try have hn60 := Nat.ne_of_lt hn6
            clear hg
            try clear hS
            go_simp
            refine hK.out _ _ (rpIn9 hP : RpS nc c _) ?_
            try simp only [Act.put, List.setIfInBounds_toArray, List.set_cons_zero, List.set_cons_succ]
            clear hK
            clear hal
            generalize (U2).alloc (.cells #[] 23) = U1 at *
            generalize (U2).heap.size = n0 at *
            refine anyG_step (rs := [4]) (by kernel_rfl) (by simp) ?_
            refine AllG.cons rfl (fun K hK => ?_) AllG.nil
            refine El.step_app rpInn rfl (.tmp 37) (.tmp 40) rfl B _ [] L1 rfl hO0 A k cap rfl HE1.out (kV.sl hBV) hz (by have := HE1.out; simp; omega) hBV ?_
            intro v1 W4 hO1 hg4 _
            have hr := hO0.rows
            replace hO1 : rpE.Own W4 B v1 L1 := hO1
            replace hP := hP.keep hg4 (fun e => by have := hr nc e.symm; omega)
            replace tV := tV.keep hg4 hr
            replace hB := hB.grown hg4 hB.size (fun k e => by have := hr k e; omega)
            replace hBV := Nat.le_trans hBV hg4.size
            try replace he := he.keep1 hg4 (fun e => hn60 (Option.some.inj e))
            clear hr hO0 kV hg4
            refine hK.out _ _ (rpIn9 hP : RpS nc c _) ?_
            try simp only [Act.put, List.setIfInBounds_toArray, List.set_cons_zero, List.set_cons_succ]
            clear hK
            refine anyG_step (rs := [7]) (by kernel_rfl) (by simp) ?_
            refine AllG.cons rfl (fun K hK => ?_) AllG.nil
            refine El.step_app rpInn rfl (.tmp 41) (.tmp 43) rfl B v1 L1 [c] rfl hO1 (some ⟨n6, 0, none⟩) 1 1 rfl rfl he (fun e => by cases e) (by have := HE1.out; rw [List.length_singleton]; omega) hBV ?_
            intro v2 W7 hO2 hg7 _
            have hr7 := hO1.rows
            replace hP := hP.keep hg7 (fun e => by have := hr7 nc e.symm; omega)
            replace tV := tV.keep hg7 hr7
            replace hB := hB.grown hg7 hB.size (fun k e => by have := hr7 k e; omega)
            replace hBV := Nat.le_trans hBV hg7.size
            clear hr7 hO1 hg7 he
            refine hK.out _ _ (rpIn9 hP : RpS nc c _) ?_
            try simp only [Act.put, List.setIfInBounds_toArray, List.set_cons_zero, List.set_cons_succ]
            clear hK
            refine anyG_step (rs := [11]) (by kernel_rfl) (by simp) ?_
            refine AllG.cons rfl (fun K hK => ?_) AllG.nil
            refine El.step_app rpInn rfl (.tmp 44) (.tmp 47) rfl B v2 (L1 ++ [c]) L3 rfl hO2 A3 (l.length - k) (cap - k) rfl HE3.out (tV.sl hBV) hz3 (by have := HE1.out; have := HE3.out; rw [List.length_append, List.length_singleton]; omega) hBV ?_
            intro v3 W9 hO3 hg9 _
            have hr9 := hO2.rows
            replace hP := hP.keep hg9 (fun e => by have := hr9 nc e.symm; omega)
            replace hB := hB.grown hg9 hB.size (fun k e => by have := hr9 k e; omega)
            clear hr9 hO2 hg9 tV
            refine hK.out _ _ (rpIn9 hP : RpS nc c _) ?_
            try simp only [Act.put, List.setIfInBounds_toArray, List.set_cons_zero, List.set_cons_succ]
            clear hK
            refine anyG_step (rs := [12]) (by kernel_rfl) (by simp) ?_
            refine AllG.last (n := 12) rfl (fun K hK => ?_)
            go_simp
            refine hK.out _ _ ?_
            try simp only [Act.put, List.setIfInBounds_toArray, List.set_cons_zero, List.set_cons_succ]
            clear hK
            refine anyG_done (by kernel_rfl) ?_ _
            rw [HTO.out] at hO3
            obtain ⟨A', c', rfl, hS'⟩ := SlV.own hO3
            clear hO3
            go_wp2_with fail
            go_ret
            exact ⟨A', c', by rw [← HRM.out]; rfl, by rw [← HRM.out]; exact hS', hB⟩
    · have hge : l.length ≤ k := by omega
      have hke : k = l.length := by have := cutR_le l c.d; omega
      have HX := Lib.hid (cutR_here hk (Or.inl hke))
      have hnew := mergeR_new l c (by rw [← HX.out]; exact fun h => absurd h (by omega))
      rw [← HX.out] at hnew
      have HTO := Lib.hid hnew.symm
      have hle : k ≤ l.length := by omega
      have hgi : (l.length : Int) ≤ (k : Int) := by omega
      clear hnew
      obtain ⟨A3, hA3⟩ : ∃ A3, (if cap = k then A else Option.map (fun x => x.add ((k) * 9)) A) = A3 := ⟨_, rfl⟩
      have hT3 := hT.drop hlc hA3
      have hz3 := El.drop_none hz hA3
      have g0 : (0 : Int) ≤ (k : Int) := by omega
      have g1 : (k : Int) ≤ (cap : Int) := by omega
      have g2 : (k : Int) ≤ (l.length : Int) := by omega
      have g3 : (k : Int) + 1 ≤ (cap : Int) + 1 := by omega
      have f1 : decide ((k : Int) < (l.length : Int)) = false := decide_eq_false (by omega)
      have f2 : decide (k < l.length) = false := decide_eq_false (by omega)
      have n1 : ((k : Int) == (l.length : Int)) = true := beq_iff_eq.2 (by omega)
      have n2 : decide ((k : Int) = (l.length : Int)) = true := decide_eq_true (by omega)
      have n3 : (k == l.length) = true := beq_iff_eq.2 hke
      have n4 : decide (k = l.length) = true := decide_eq_true hke
      clear hke hkl
      go_wp2_with fail
      go_quiet (fail)
      have hB1 := below_drew hB nq
      have hP1 : rpE.In (wr.drewN nq) nc c := hP
      clear hB hP q0 q1 q2 q3 q4 q5 q6 q7 q8
      go_wp2_with fail
      generalize wr.drewN nq = V1 at *
      go_quiet (fail)
      clear n1 n2 n3 n4 f1 f2
      have hB := below_drew hB1 nq
      have hP : rpE.In (V1.drewN nq) nc c := hP1
      clear hB1 hP1
      go_wp2_with fail
      generalize V1.drewN nq = V at *
      have HE1 := Lib.hid (show (l.take k).length = k by rw [List.length_take]; omega)
      have HE3 := Lib.hid (show (l.drop (k)).length = 0 by simp only [List.length_drop]; try omega)
      have htk := (hT.take k).below hB
      have ht3 := hT3.below hB
      generalize l.take k = L1 at *
      generalize l.drop (k) = L3 at *
      obtain ⟨B, hBe⟩ : ∃ B, V.heap.size = B := ⟨_, rfl⟩
      have hBV : B ≤ V.drew.heap.size := Nat.le_of_eq hBe.symm
      have kV : rpE.SlB B V.drew A L1 := El.SlB.of htk (Nat.le_of_eq hBe)
      have tV : rpE.SlB B V.drew A3 L3 := El.SlB.of ht3 (Nat.le_of_eq hBe)
      have hwB : w.heap.size ≤ B := by have := hB.size; omega
      have hnB : nc < B := by have := hP.lt; omega
      replace hP : rpE.In V.drew nc c := hP
      replace hB := hB.drew
      clear htk ht3 hBe hT hT3
      refine region_anyG (S := RpS nc c) 12 (by kernel_rfl) ?_
      generalize V.drew = U at *
      have hS : RpS nc c U := rpIn9 hP
      refine anyG_take (i := 1) (v := .slice A l.length cap) rfl (by kernel_rfl) (by kernel_rfl) (by kernel_rfl) (by kernel_rfl) (by kernel_rfl) (fun _ _ _ h => h) (Or.inl ⟨by rfl, fun w' hSw => by (obtain ⟨s0, s1, s2, s3, s4, s5, s6, s7, s8⟩ := hSw; go_simp)⟩) hS ?_
      try simp only [Act.put, List.setIfInBounds_toArray, List.set_cons_zero, List.set_cons_succ]
      refine anyG_take (i := 2) (v := .int .i64 k) rfl (by kernel_rfl) (by kernel_rfl) (by kernel_rfl) (by kernel_rfl) (by kernel_rfl) (fun _ _ _ h => h) (Or.inl ⟨by rfl, fun w' hSw => by (obtain ⟨s0, s1, s2, s3, s4, s5, s6, s7, s8⟩ := hSw; go_simp)⟩) hS ?_
      try simp only [Act.put, List.setIfInBounds_toArray, List.set_cons_zero, List.set_cons_succ]
      refine anyG_take (i := 3) (v := .slice A k cap) rfl (by kernel_rfl) (by kernel_rfl) (by kernel_rfl) (by kernel_rfl) (by kernel_rfl) (fun _ _ _ h => h) (Or.inl ⟨by rfl, fun w' hSw => by (obtain ⟨s0, s1, s2, s3, s4, s5, s6, s7, s8⟩ := hSw; go_simp)⟩) hS ?_
      try simp only [Act.put, List.setIfInBounds_toArray, List.set_cons_zero, List.set_cons_succ]
      refine anyG_take (i := 5) (v := .agg #[.int .i64 c.d, .int .i64 c.i, .int .i64 c.b, .int .i64 c.t, .int .i64 c.m, .int .i64 c.p, .int .i64 c.c, .int .i64 c.s, .int .i64 c.k]) rfl (by kernel_rfl) (by kernel_rfl) (by kernel_rfl) (by kernel_rfl) (by kernel_rfl) (fun _ _ _ h => h) (Or.inl ⟨by rfl, fun w' hSw => by (obtain ⟨s0, s1, s2, s3, s4, s5, s6, s7, s8⟩ := hSw; go_simp)⟩) hS ?_
      try simp only [Act.put, List.setIfInBounds_toArray, List.set_cons_zero, List.set_cons_succ]
      refine anyG_take (i := 8) (v := .slice A l.length cap) rfl (by kernel_rfl) (by kernel_rfl) (by kernel_rfl) (by kernel_rfl) (by kernel_rfl) (fun _ _ _ h => h) (Or.inl ⟨by rfl, fun w' hSw => by (obtain ⟨s0, s1, s2, s3, s4, s5, s6, s7, s8⟩ := hSw; go_simp)⟩) hS ?_
      try simp only [Act.put, List.setIfInBounds_toArray, List.set_cons_zero, List.set_cons_succ]
      refine anyG_take (i := 9) (v := .int .i64 k) rfl (by kernel_rfl) (by kernel_rfl) (by kernel_rfl) (by kernel_rfl) (by kernel_rfl) (fun _ _ _ h => h) (Or.inl ⟨by rfl, fun w' hSw => by (obtain ⟨s0, s1, s2, s3, s4, s5, s6, s7, s8⟩ := hSw; go_simp)⟩) hS ?_
      try simp only [Act.put, List.setIfInBounds_toArray, List.set_cons_zero, List.set_cons_succ]
      refine anyG_take (i := 10) (v := .slice A3 (0) (cap - k)) rfl (by kernel_rfl) (by kernel_rfl) (by kernel_rfl) (by kernel_rfl) (by kernel_rfl) (fun _ _ _ h => h) (Or.inl ⟨by rfl, fun w' hSw => by (obtain ⟨s0, s1, s2, s3, s4, s5, s6, s7, s8⟩ := hSw; go_simp)⟩) hS ?_
      try simp only [Act.put, List.setIfInBounds_toArray, List.set_cons_zero, List.set_cons_succ]
      refine anyG_step (rs := [0, 6]) (by kernel_rfl) (by simp) ?_
      refine AllG.cons rfl (fun K hK => ?_) (AllG.cons rfl (fun K hK => ?_) AllG.nil)
      · skip
        have hal := below_alloc (Below.refl (U).heap.size U) (.cells #[] 23)
        have hg := World.grownBy_alloc U (.cells #[] 23) none
        have hO0 : rpE.Own ((U).alloc (.cells #[] 23)) B (.slice (some ⟨(U).heap.size, 0, none⟩) 0 0) [] := El.Own.empty (E := rpE) U B hBV
        replace hP := hP.below hal
        replace kV := kV.keep hg (fun k e => by cases e)
        replace tV := tV.keep hg (fun k e => by cases e)
        replace hB := hB.trans (hal.mono hB.size)
        replace hBV := Nat.le_trans hBV hal.size
        try replace he := he.below hal
        try have hn60 := Nat.ne_of_lt hn6
        clear hg
        try clear hS
        go_simp
        refine hK.out _ _ (rpIn9 hP : RpS nc c _) ?_
        try simp only [Act.put, List.setIfInBounds_toArray, List.set_cons_zero, List.set_cons_succ]
        clear hK
        clear hal
        generalize (U).alloc (.cells #[] 23) = U1 at *
        generalize (U).heap.size = n0 at *
        refine anyG_step (rs := [4, 6]) (by kernel_rfl) (by simp) ?_
        refine AllG.cons rfl (fun K hK => ?_) (AllG.cons rfl (fun K hK => ?_) AllG.nil)
        · skip
          refine El.step_app rpInn rfl (.tmp 37) (.tmp 40) rfl B _ [] L1 rfl hO0 A k cap rfl HE1.out (kV.sl hBV) hz (by have := HE1.out; simp; omega) hBV ?_
          intro v1 W4 hO1 hg4 _
          have hr := hO0.rows
          replace hO1 : rpE.Own W4 B v1 L1 := hO1
          replace hP := hP.keep hg4 (fun e => by have := hr nc e.symm; omega)
          replace tV := tV.keep hg4 hr
          replace hB := hB.grown hg4 hB.size (fun k e => by have := hr k e; omega)
          replace hBV := Nat.le_trans hBV hg4.size
          try replace he := he.keep1 hg4 (fun e => hn60 (Option.some.inj e))
          clear hr hO0 kV hg4
          refine hK.out _ _ (rpIn9 hP : RpS nc c _) ?_
          try simp only [Act.put, List.setIfInBounds_toArray, List.set_cons_zero, List.set_cons_succ]
          clear hK
          refine anyG_step (rs := [6]) (by kernel_rfl) (by simp) ?_
          refine AllG.cons rfl (fun K hK => ?_) AllG.nil
          have hal := below_alloc (Below.refl (W4).heap.size W4) (.cells #[.int .i64 c.d, .int .i64 c.i, .int .i64 c.b, .int .i64 c.t, .int .i64 c.m, .int .i64 c.p, .int .i64 c.c, .int .i64 c.s, .int .i64 c.k] 23)
          have hg := World.grownBy_alloc W4 (.cells #[.int .i64 c.d, .int .i64 c.i, .int .i64 c.b, .int .i64 c.t, .int .i64 c.m, .int .i64 c.p, .int .i64 c.c, .int .i64 c.s, .int .i64 c.k] 23) none
          have he : rpE.Sl ((W4).alloc (.cells #[.int .i64 c.d, .int .i64 c.i, .int .i64 c.b, .int .i64 c.t, .int .i64 c.m, .int .i64 c.p, .int .i64 c.c, .int .i64 c.s, .int .i64 c.k] 23)) (some ⟨(W4).heap.size, 0, none⟩) [c] := (El.In.new (E := rpE) W4 c _ rfl).sl
          have hn6 : (W4).heap.size < ((W4).alloc (.cells #[.int .i64 c.d, .int .i64 c.i, .int .i64 c.b, .int .i64 c.t, .int .i64 c.m, .int .i64 c.p, .int .i64 c.c, .int .i64 c.s, .int .i64 c.k] 23)).heap.size := by rw [alloc_size]; omega
          try have hn60 : (W4).heap.size ≠ n0 := by have := (hO0.lt n0 rfl).2; omega
          replace hP := hP.below hal
          try replace kV := kV.keep hg (fun k e => by cases e)
          replace tV := tV.keep hg (fun k e => by cases e)
          replace hB := hB.trans (hal.mono hB.size)
          replace hBV := Nat.le_trans hBV hal.size
          try replace hO0 := hO0.below hal
          try replace hO1 := hO1.below hal
          clear hg
          try clear hS
          go_simp
          refine hK.out _ _ (rpIn9 hP : RpS nc c _) ?_
          try simp only [Act.put, List.setIfInBounds_toArray, List.set_cons_zero, List.set_cons_succ]
          clear hK
          clear hal
          generalize (W4).alloc (.cells #[.int .i64 c.d, .int .i64 c.i, .int .i64 c.b, .int .i64 c.t, .int .i64 c.m, .int .i64 c.p, .int .i64 c.c, .int .i64 c.s, .int .i64 c.k] 23) = U2 at *
          generalize (W4).heap.size = n6 at *
          refine anyG_step (rs := [7]) (by kernel_rfl) (by simp) ?_
          refine AllG.cons rfl (fun K hK => ?_) AllG.nil
          refine El.step_app rpInn rfl (.tmp 41) (.tmp 43) rfl B v1 L1 [c] rfl hO1 (some ⟨n6, 0, none⟩) 1 1 rfl rfl he (fun e => by cases e) (by have := HE1.out; rw [List.length_singleton]; omega) hBV ?_
          intro v2 W7 hO2 hg7 _
          have hr7 := hO1.rows
          replace hP := hP.keep hg7 (fun e => by have := hr7 nc e.symm; omega)
          replace tV := tV.keep hg7 hr7
          replace hB := hB.grown hg7 hB.size (fun k e => by have := hr7 k e; omega)
          replace hBV := Nat.le_trans hBV hg7.size
          clear hr7 hO1 hg7 he
          refine hK.out _ _ (rpIn9 hP : RpS nc c _) ?_
          try simp only [Act.put, List.setIfInBounds_toArray, List.set_cons_zero, List.set_cons_succ]
          clear hK
          refine anyG_step (rs := [11]) (by kernel_rfl) (by simp) ?_
          refine AllG.cons rfl (fun K hK => ?_) AllG.nil
          refine El.step_app rpInn rfl (.tmp 44) (.tmp 47) rfl B v2 (L1 ++ [c]) L3 rfl hO2 A3 (0) (cap - k) rfl HE3.out (tV.sl hBV) hz3 (by have := HE1.out; have := HE3.out; rw [List.length_append, List.length_singleton]; omega) hBV ?_
          intro v3 W9 hO3 hg9 _
          have hr9 := hO2.rows
          replace hP := hP.keep hg9 (fun e => by have := hr9 nc e.symm; omega)
          replace hB := hB.grown hg9 hB.size (fun k e => by have := hr9 k e; omega)
          clear hr9 hO2 hg9 tV
          refine hK.out _ _ (rpIn9 hP : RpS nc c _) ?_
          try simp only [Act.put, List.setIfInBounds_toArray, List.set_cons_zero, List.set_cons_succ]
          clear hK
          refine anyG_step (rs := [12]) (by kernel_rfl) (by simp) ?_
          refine AllG.last (n := 12) rfl (fun K hK => ?_)
          go_simp
          refine hK.out _ _ ?_
          try simp only [Act.put, List.setIfInBounds_toArray, List.set_cons_zero, List.set_cons_succ]
          clear hK
          refine anyG_done (by kernel_rfl) ?_ _
          rw [HTO.out] at hO3
          obtain ⟨A', c', rfl, hS'⟩ := SlV.own hO3
          clear hO3
          go_wp2_with fail
          go_ret
          exact ⟨A', c', by rw [← HRM.out]; rfl, by rw [← HRM.out]; exact hS', hB⟩
        · skip
          have hal := below_alloc (Below.refl (U1).heap.size U1) (.cells #[.int .i64 c.d, .int .i64 c.i, .int .i64 c.b, .int .i64 c.t, .int .i64 c.m, .int .i64 c.p, .int .i64 c.c, .int .i64 c.s, .int .i64 c.k] 23)
          have hg := World.grownBy_alloc U1 (.cells #[.int .i64 c.d, .int .i64 c.i, .int .i64 c.b, .int .i64 c.t, .int .i64 c.m, .int .i64 c.p, .int .i64 c.c, .int .i64 c.s, .int .i64 c.k] 23) none
          have he : rpE.Sl ((U1).alloc (.cells #[.int .i64 c.d, .int .i64 c.i, .int .i64 c.b, .int .i64 c.t, .int .i64 c.m, .int .i64 c.p, .int .i64 c.c, .int .i64 c.s, .int .i64 c.k] 23)) (some ⟨(U1).heap.size, 0, none⟩) [c] := (El.In.new (E := rpE) U1 c _ rfl).sl
          have hn6 : (U1).heap.size < ((U1).alloc (.cells #[.int .i64 c.d, .int .i64 c.i, .int .i64 c.b, .int .i64 c.t, .int .i64 c.m, .int .i64 c.p, .int .i64 c.c, .int .i64 c.s, .int .i64 c.k] 23)).heap.size := by rw [alloc_size]; omega
          try have hn60 : (U1).heap.size ≠ n0 := by have := (hO0.lt n0 rfl).2; omega
          replace hP := hP.below hal
          try replace kV := kV.keep hg (fun k e => by cases e)
          replace tV := tV.keep hg (fun k e => by cases e)
          replace hB := hB.trans (hal.mono hB.size)
          replace hBV := Nat.le_trans hBV hal.size
          try replace hO0 := hO0.below hal
          try replace hO1 := hO1.below hal
          clear hg
          try clear hS
          go_simp
          refine hK.out _ _ (rpIn9 hP : RpS nc c _) ?_
          try simp only [Act.put, List.setIfInBounds_toArray, List.set_cons_zero, List.set_cons_succ]
          clear hK
          clear hal
          generalize (U1).alloc (.cells #[.int .i64 c.d, .int .i64 c.i, .int .i64 c.b, .int .i64 c.t, .int .i64 c.m, .int .i64 c.p, .int .i64 c.c, .int .i64 c.s, .int .i64 c.k] 23) = U2 at *
          generalize (U1).heap.size = n6 at *
          refine anyG_step (rs := [4]) (by kernel_rfl) (by simp) ?_
          refine AllG.cons rfl (fun K hK => ?_) AllG.nil
          refine El.step_app rpInn rfl (.tmp 37) (.tmp 40) rfl B _ [] L1 rfl hO0 A k cap rfl HE1.out (kV.sl hBV) hz (by have := HE1.out; simp; omega) hBV ?_
          intro v1 W4 hO1 hg4 _
          have hr := hO0.rows
          replace hO1 : rpE.Own W4 B v1 L1 := hO1
          replace hP := hP.keep hg4 (fun e => by have := hr nc e.symm; omega)
          replace tV := tV.keep hg4 hr
          replace hB := hB.grown hg4 hB.size (fun k e => by have := hr k e; omega)
          replace hBV := Nat.le_trans hBV hg4.size
          try replace he := he.keep1 hg4 (fun e => hn60 (Option.some.inj e))
          clear hr hO0 kV hg4
          refine hK.out _ _ (rpIn9 hP : RpS nc c _) ?_
          try simp only [Act.put, List.setIfInBounds_toArray, List.set_cons_zero, List.set_cons_succ]
          clear hK
          refine anyG_step (rs := [7]) (by kernel_rfl) (by simp) ?_
          refine AllG.cons rfl (fun K hK => ?_) AllG.nil
          refine El.step_app rpInn rfl (.tmp 41) (.tmp 43) rfl B v1 L1 [c] rfl hO1 (some ⟨n6, 0, none⟩) 1 1 rfl rfl he (fun e => by cases e) (by have := HE1.out; rw [List.length_singleton]; omega) hBV ?_
          intro v2 W7 hO2 hg7 _
          have hr7 := hO1.rows
          replace hP := hP.keep hg7 (fun e => by have := hr7 nc e.symm; omega)
          replace tV := tV.keep hg7 hr7
          replace hB := hB.grown hg7 hB.size (fun k e => by have := hr7 k e; omega)
          replace hBV := Nat.le_trans hBV hg7.size
          clear hr7 hO1 hg7 he
          refine hK.out _ _ (rpIn9 hP : RpS nc c _) ?_
          try simp only [Act.put, List.setIfInBounds_toArray, List.set_cons_zero, List.set_cons_succ]
          clear hK
          refine anyG_step (rs := [11]) (by kernel_rfl) (by simp) ?_
          refine AllG.cons rfl (fun K hK => ?_) AllG.nil
          refine El.step_app rpInn rfl (.tmp 44) (.tmp 47) rfl B v2 (L1 ++ [c]) L3 rfl hO2 A3 (0) (cap - k) rfl HE3.out (tV.sl hBV) hz3 (by have := HE1.out; have := HE3.out; rw [List.length_append, List.length_singleton]; omega) hBV ?_
          intro v3 W9 hO3 hg9 _
          have hr9 := hO2.rows
          replace hP := hP.keep hg9 (fun e => by have := hr9 nc e.symm; omega)
          replace hB := hB.grown hg9 hB.size (fun k e => by have := hr9 k e; omega)
          clear hr9 hO2 hg9 tV
          refine hK.out _ _ (rpIn9 hP : RpS nc c _) ?_
          try simp only [Act.put, List.setIfInBounds_toArray, List.set_cons_zero, List.set_cons_succ]
          clear hK
          refine anyG_step (rs := [12]) (by kernel_rfl) (by simp) ?_
          refine AllG.last (n := 12) rfl (fun K hK => ?_)
          go_simp
          refine hK.out _ _ ?_
          try simp only [Act.put, List.setIfInBounds_toArray, List.set_cons_zero, List.set_cons_succ]
          clear hK
          refine anyG_done (by kernel_rfl) ?_ _
          rw [HTO.out] at hO3
          obtain ⟨A', c', rfl, hS'⟩ := SlV.own hO3
          clear hO3
          go_wp2_with fail
          go_ret
          exact ⟨A', c', by rw [← HRM.out]; rfl, by rw [← HRM.out]; exact hS', hB⟩
      · skip
        have hal := below_alloc (Below.refl (U).heap.size U) (.cells #[.int .i64 c.d, .int .i64 c.i, .int .i64 c.b, .int .i64 c.t, .int .i64 c.m, .int .i64 c.p, .int .i64 c.c, .int .i64 c.s, .int .i64 c.k] 23)
        have hg := World.grownBy_alloc U (.cells #[.int .i64 c.d, .int .i64 c.i, .int .i64 c.b, .int .i64 c.t, .int .i64 c.m, .int .i64 c.p, .int .i64 c.c, .int .i64 c.s, .int .i64 c.k] 23) none
        have he : rpE.Sl ((U).alloc (.cells #[.int .i64 c.d, .int .i64 c.i, .int .i64 c.b, .int .i64 c.t, .int .i64 c.m, .int .i64 c.p, .int .i64 c.c, .int .i64 c.s, .int .i64 c.k] 23)) (some ⟨(U).heap.size, 0, none⟩) [c] := (El.In.new (E := rpE) U c _ rfl).sl
        have hn6 : (U).heap.size < ((U).alloc (.cells #[.int .i64 c.d, .int .i64 c.i, .int .i64 c.b, .int .i64 c.t, .int .i64 c.m, .int .i64 c.p, .int .i64 c.c, .int .i64 c.s, .int .i64 c.k] 23)).heap.size := by rw [alloc_size]; omega
        try have hn60 : (U).heap.size ≠ n0 := by have := (hO0.lt n0 rfl).2; omega
        replace hP := hP.below hal
        try replace kV := kV.keep hg (fun k e => by cases e)
        replace tV := tV.keep hg (fun k e => by cases e)
        replace hB := hB.trans (hal.mono hB.size)
        replace hBV := Nat.le_trans hBV hal.size
        try replace hO0 := hO0.below hal
        try replace hO1 := hO1.below hal
        clear hg
        try clear hS
        go_simp
        refine hK.out _ _ (rpIn9 hP : RpS nc c _) ?_
        try simp only [Act.put, List.setIfInBounds_toArray, List.set_cons_zero, List.set_cons_succ]
        clear hK
        clear hal
        generalize (U).alloc (.cells #[.int .i64 c.d, .int .i64 c.i, .int .i64 c.b, .int .i64 c.t, .int .i64 c.m, .int .i64 c.p, .int .i64 c.c, .int .i64 c.s, .int .i64 c.k] 23) = U2 at *
        generalize (U).heap.size = n6 at *
        refine anyG_step (rs := [0]) (by kernel_rfl) (by simp) ?_
        refine AllG.cons rfl (fun K hK => ?_) AllG.nil
        have hal := below_alloc (Below.refl (U2).heap.size U2) (.cells #[] 23)
        have hg := World.grownBy_alloc U2 (.cells #[] 23) none
        have hO0 : rpE.Own ((U2).alloc (.cells #[] 23)) B (.slice (some ⟨(U2).heap.size, 0, none⟩) 0 0) [] := El.Own.empty (E := rpE) U2 B hBV
        replace hP := hP.below hal
        replace kV := kV.keep hg (fun k e => by cases e)
        replace tV := tV.keep hg (fun k e => by cases e)
        replace hB := hB.trans (hal.mono hB.size)
        replace hBV := Nat.le_trans hBV hal.size
        try replace he := he.below hal
        try have hn60 := Nat.ne_of_lt hn6
        clear hg
        try clear hS
        go_simp
        refine hK.out _ _ (rpIn9 hP : RpS nc c _) ?_
        try simp only [Act.put, List.setIfInBounds_toArray, List.set_cons_zero, List.set_cons_succ]
        clear hK
        clear hal
        generalize (U2).alloc (.cells #[] 23) = U1 at *
        generalize (U2).heap.size = n0 at *
        refine anyG_step (rs := [4]) (by kernel_rfl) (by simp) ?_
        refine AllG.cons rfl (fun K hK => ?_) AllG.nil
        refine El.step_app rpInn rfl (.tmp 37) (.tmp 40) rfl B _ [] L1 rfl hO0 A k cap rfl HE1.out (kV.sl hBV) hz (by have := HE1.out; simp; omega) hBV ?_
        intro v1 W4 hO1 hg4 _
        have hr := hO0.rows
        replace hO1 : rpE.Own W4 B v1 L1 := hO1
        replace hP := hP.keep hg4 (fun e => by have := hr nc e.symm; omega)
        replace tV := tV.keep hg4 hr
        replace hB := hB.grown hg4 hB.size (fun k e => by have := hr k e; omega)
        replace hBV := Nat.le_trans hBV hg4.size
        try replace he := he.keep1 hg4 (fun e => hn60 (Option.some.inj e))
        clear hr hO0 kV hg4
        refine hK.out _ _ (rpIn9 hP : RpS nc c _) ?_
        try simp only [Act.put, List.setIfInBounds_toArray, List.set_cons_zero, List.set_cons_succ]
        clear hK
        refine anyG_step (rs := [7]) (by kernel_rfl) (by simp) ?_
        refine AllG.cons rfl (fun K hK => ?_) AllG.nil
        refine El.step_app rpInn rfl (.tmp 41) (.tmp 43) rfl B v1 L1 [c] rfl hO1 (some ⟨n6, 0, none⟩) 1 1 rfl rfl he (fun e => by cases e) (by have := HE1.out; rw [List.length_singleton]; omega) hBV ?_
        intro v2 W7 hO2 hg7 _
        have hr7 := hO1.rows
        replace hP := hP.keep hg7 (fun e => by have := hr7 nc e.symm; omega)
        replace tV := tV.keep hg7 hr7
        replace hB := hB.grown hg7 hB.size (fun k e => by have := hr7 k e; omega)
        replace hBV := Nat.le_trans hBV hg7.size
        clear hr7 hO1 hg7 he
        refine hK.out _ _ (rpIn9 hP : RpS nc c _) ?_
        try simp only [Act.put, List.setIfInBounds_toArray, List.set_cons_zero, List.set_cons_succ]
        clear hK
        refine anyG_step (rs := [11]) (by kernel_rfl) (by simp) ?_
        refine AllG.cons rfl (fun K hK => ?_) AllG.nil
        refine El.step_app rpInn rfl (.tmp 44) (.tmp 47) rfl B v2 (L1 ++ [c]) L3 rfl hO2 A3 (0) (cap - k) rfl HE3.out (tV.sl hBV) hz3 (by have := HE1.out; have := HE3.out; rw [List.length_append, List.length_singleton]; omega) hBV ?_
        intro v3 W9 hO3 hg9 _
        have hr9 := hO2.rows
        replace hP := hP.keep hg9 (fun e => by have := hr9 nc e.symm; omega)
        replace hB := hB.grown hg9 hB.size (fun k e => by have := hr9 k e; omega)
        clear hr9 hO2 hg9 tV
        refine hK.out _ _ (rpIn9 hP : RpS nc c _) ?_
        try simp only [Act.put, List.setIfInBounds_toArray, List.set_cons_zero, List.set_cons_succ]
        clear hK
        refine anyG_step (rs := [12]) (by kernel_rfl) (by simp) ?_
        refine AllG.last (n := 12) rfl (fun K hK => ?_)
        go_simp
        refine hK.out _ _ ?_
        try simp only [Act.put, List.setIfInBounds_toArray, List.set_cons_zero, List.set_cons_succ]
        clear hK
        refine anyG_done (by kernel_rfl) ?_ _
        rw [HTO.out] at hO3
        obtain ⟨A', c', rfl, hS'⟩ := SlV.own hO3
        clear hO3
        go_wp2_with fail
        go_ret
        exact ⟨A', c', by rw [← HRM.out]; rfl, by rw [← HRM.out]; exact hS', hB⟩
end Go.Proofs.Ytknoabafpgdooaa

/- Of law 14: awake, given the program's calls. -/
namespace Go.Proofs.Ytknoabafpgdooaa
open Go.RowKit Cod

def Ra : Rp := ⟨2, 1, 3, 9, 1, 0, 0, 0, 0⟩
def Rb : Rp := ⟨2, 2, 1, 1, 2, 0, 0, 0, 0⟩
def Rx : Rp := ⟨1, 1, 0, 0, 1, 0, 0, 0, 0⟩
def Ry : Rp := ⟨0, 1, 0, 0, 0, 0, 0, 0, 0⟩
theorem ra_cells {w : World} {n : Nat} (h : rpE.In w n Ra) : (w.cell? ⟨n, 0, none⟩ = some (.int .i64 2) ∧ w.cell? ⟨n, 1, none⟩ = some (.int .i64 1) ∧ w.cell? ⟨n, 2, none⟩ = some (.int .i64 3) ∧ w.cell? ⟨n, 3, none⟩ = some (.int .i64 9) ∧ w.cell? ⟨n, 4, none⟩ = some (.int .i64 1) ∧ w.cell? ⟨n, 5, none⟩ = some (.int .i64 0) ∧ w.cell? ⟨n, 6, none⟩ = some (.int .i64 0) ∧ w.cell? ⟨n, 7, none⟩ = some (.int .i64 0) ∧ w.cell? ⟨n, 8, none⟩ = some (.int .i64 0)) := rpIn9 h
theorem rb_cells {w : World} {n : Nat} (h : rpE.In w n Rb) : (w.cell? ⟨n, 0, none⟩ = some (.int .i64 2) ∧ w.cell? ⟨n, 1, none⟩ = some (.int .i64 2) ∧ w.cell? ⟨n, 2, none⟩ = some (.int .i64 1) ∧ w.cell? ⟨n, 3, none⟩ = some (.int .i64 1) ∧ w.cell? ⟨n, 4, none⟩ = some (.int .i64 2) ∧ w.cell? ⟨n, 5, none⟩ = some (.int .i64 0) ∧ w.cell? ⟨n, 6, none⟩ = some (.int .i64 0) ∧ w.cell? ⟨n, 7, none⟩ = some (.int .i64 0) ∧ w.cell? ⟨n, 8, none⟩ = some (.int .i64 0)) := rpIn9 h
theorem x0_cell {w : World} {b o : Nat} (h : rpE.At w b o Rx) : w.cell? ⟨b, o, none⟩ = some (.int .i64 1) := (rpAt9 h).1
theorem x1_cell {w : World} {b o : Nat} (h : rpE.At w b (o + 9) Rb) : w.cell? ⟨b, o + 9 + 1, none⟩ = some (.int .i64 2) := (rpAt9 h).2.1
theorem ra_R : RpR Ra := rpB_iff.1 rfl
theorem ra_W : RpW Ra := ra_R.i64
theorem m1_eq : mergeR [] Ra = [Ra] := rfl
theorem m2_eq : mergeR [Ra] Rx = [Rx, Ra] := rfl
theorem m3_eq : mergeR [Rx, Ra] Rb = [Rx, Rb] := rfl
set_option maxRecDepth 100000 in
set_option maxHeartbeats 4000000 in
theorem awake14_any (H : ReportCalls) (w : World) : Calls Try.prog 8 #[] w fun e w' => e = .returned (.bool true) ∧ Below w.heap.size w w' := by
  have HM1 := Lib.hid (fun (wx : World) => (show Calls Try.prog 15 #[.slice none 0 0, .agg #[.int .i64 2, .int .i64 1, .int .i64 3, .int .i64 9, .int .i64 1, .int .i64 0, .int .i64 0, .int .i64 0, .int .i64 0]] wx fun e w' => ∃ A' c', e = .returned (.slice A' 1 c') ∧ SlV rpE w' A' c' [Ra] ∧ Below wx.heap.size wx w' from H.merge none 0 [] Ra wx (by decide) (SlV.nil rpE wx)))
  have HM2 := Lib.hid (fun (A : Option Addr) (c : Nat) (wx : World) (h : SlV rpE wx A c [Ra]) => (show Calls Try.prog 15 #[.slice A 1 c, .agg #[.int .i64 1, .int .i64 1, .int .i64 0, .int .i64 0, .int .i64 1, .int .i64 0, .int .i64 0, .int .i64 0, .int .i64 0]] wx fun e w' => ∃ A' c', e = .returned (.slice A' 2 c') ∧ SlV rpE w' A' c' [Rx, Ra] ∧ Below wx.heap.size wx w' from H.merge A c [Ra] Rx wx (by decide) h))
  have HM3 := Lib.hid (fun (A : Option Addr) (c : Nat) (wx : World) (h : SlV rpE wx A c [Rx, Ra]) => (show Calls Try.prog 15 #[.slice A 2 c, .agg #[.int .i64 2, .int .i64 2, .int .i64 1, .int .i64 1, .int .i64 2, .int .i64 0, .int .i64 0, .int .i64 0, .int .i64 0]] wx fun e w' => ∃ A' c', e = .returned (.slice A' 2 c') ∧ SlV rpE w' A' c' [Rx, Rb] ∧ Below wx.heap.size wx w' from H.merge A c [Rx, Ra] Rb wx (by decide) h))
  have HN1 := Lib.hid (fun (wx : World) => (show Calls Try.prog 11 #[.agg #[.int .i64 2, .int .i64 2, .int .i64 1, .int .i64 1, .int .i64 2, .int .i64 0, .int .i64 0, .int .i64 0, .int .i64 0], .agg #[.int .i64 2, .int .i64 1, .int .i64 3, .int .i64 9, .int .i64 1, .int .i64 0, .int .i64 0, .int .i64 0, .int .i64 0]] wx fun e w' => e = .returned (.bool true) ∧ Below wx.heap.size wx w' from H.newer Rb Ra wx))
  have HN2 := Lib.hid (fun (wx : World) => (show Calls Try.prog 11 #[.agg #[.int .i64 2, .int .i64 1, .int .i64 3, .int .i64 9, .int .i64 1, .int .i64 0, .int .i64 0, .int .i64 0, .int .i64 0], .agg #[.int .i64 2, .int .i64 1, .int .i64 3, .int .i64 9, .int .i64 1, .int .i64 0, .int .i64 0, .int .i64 0, .int .i64 0]] wx fun e w' => e = .returned (.bool false) ∧ Below wx.heap.size wx w' from H.newer Ra Ra wx))
  have HR1 := Lib.hid (fun (wx : World) => (show Calls Try.prog 9 #[.agg #[.int .i64 2, .int .i64 1, .int .i64 3, .int .i64 9, .int .i64 1, .int .i64 0, .int .i64 0, .int .i64 0, .int .i64 0]] wx fun e w' => e = .returned (.bool true) ∧ Below wx.heap.size wx w' from H.right Ra wx))
  have HR2 := Lib.hid (fun (wx : World) => (show Calls Try.prog 9 #[.agg #[.int .i64 0, .int .i64 1, .int .i64 0, .int .i64 0, .int .i64 0, .int .i64 0, .int .i64 0, .int .i64 0, .int .i64 0]] wx fun e w' => e = .returned (.bool false) ∧ Below wx.heap.size wx w' from H.right Ry wx))
  have hBS : (rpBytes Ra).size ≤ 90 := catN_le _ ra_W
  have hSF := rp_self ra_R
  have HPR := Lib.hid (fun (wx : World) => (show Calls Try.prog 13 #[.agg #[.int .i64 2, .int .i64 1, .int .i64 3, .int .i64 9, .int .i64 1, .int .i64 0, .int .i64 0, .int .i64 0, .int .i64 0]] wx fun e w' => e = .returned (.string (rpBytes Ra)) ∧ Below wx.heap.size wx w' from H.print Ra wx ra_W))
  have he := fun wx => run_eqRp Ra Ra wx
  rw [rpEq_iff.2 rfl] at he
  replace he : ∀ wx : World, (Op.equalIn 10000 23 (.agg #[.int .i64 2, .int .i64 1, .int .i64 3, .int .i64 9, .int .i64 1, .int .i64 0, .int .i64 0, .int .i64 0, .int .i64 0]) (.agg #[.int .i64 2, .int .i64 1, .int .i64 3, .int .i64 9, .int .i64 1, .int .i64 0, .int .i64 0, .int .i64 0, .int .i64 0])).run Try.prog wx = .ok true wx := he
  generalize rpBytes Ra = BY at *
  have hB := Below.refl w.heap.size w
  go_enter Try.func8, Try.ntmps8
  have hP : rpE.In ((w.alloc (.cells #[.int .i64 2, .int .i64 1, .int .i64 3, .int .i64 9, .int .i64 1, .int .i64 0, .int .i64 0, .int .i64 0, .int .i64 0] 23)).alloc (.cells #[.int .i64 2, .int .i64 2, .int .i64 1, .int .i64 1, .int .i64 2, .int .i64 0, .int .i64 0, .int .i64 0, .int .i64 0] 23)) w.heap.size Ra := (El.In.new (E := rpE) w Ra _ rfl).alloc _
  have hQ : rpE.In ((w.alloc (.cells #[.int .i64 2, .int .i64 1, .int .i64 3, .int .i64 9, .int .i64 1, .int .i64 0, .int .i64 0, .int .i64 0, .int .i64 0] 23)).alloc (.cells #[.int .i64 2, .int .i64 2, .int .i64 1, .int .i64 1, .int .i64 2, .int .i64 0, .int .i64 0, .int .i64 0, .int .i64 0] 23)) (w.heap.size + 1) Rb := by
    have h := El.In.new (E := rpE) (w.alloc (.cells #[.int .i64 2, .int .i64 1, .int .i64 3, .int .i64 9, .int .i64 1, .int .i64 0, .int .i64 0, .int .i64 0, .int .i64 0] 23)) Rb #[.int .i64 2, .int .i64 2, .int .i64 1, .int .i64 1, .int .i64 2, .int .i64 0, .int .i64 0, .int .i64 0, .int .i64 0] rfl
    rw [alloc_size] at h; exact h
  replace hB := below_alloc (below_alloc hB (.cells #[.int .i64 2, .int .i64 1, .int .i64 3, .int .i64 9, .int .i64 1, .int .i64 0, .int .i64 0, .int .i64 0, .int .i64 0] 23)) (.cells #[.int .i64 2, .int .i64 2, .int .i64 1, .int .i64 1, .int .i64 2, .int .i64 0, .int .i64 0, .int .i64 0, .int .i64 0] 23)
  go_wp2_with fail
  generalize (w.alloc (.cells #[.int .i64 2, .int .i64 1, .int .i64 3, .int .i64 9, .int .i64 1, .int .i64 0, .int .i64 0, .int .i64 0, .int .i64 0] 23)).alloc (.cells #[.int .i64 2, .int .i64 2, .int .i64 1, .int .i64 1, .int .i64 2, .int .i64 0, .int .i64 0, .int .i64 0, .int .i64 0] 23) = W0 at *
  obtain ⟨n2, h2⟩ : ∃ n, w.heap.size + 1 = n := ⟨_, rfl⟩
  obtain ⟨n1, h1⟩ : ∃ n, w.heap.size = n := ⟨_, rfl⟩
  rw [h2] at hQ ⊢
  rw [h1] at hP ⊢
  clear h1 h2
  replace hP : rpE.In W0.drew n1 Ra := hP
  replace hQ : rpE.In W0.drew n2 Rb := hQ
  replace hB := hB.drew
  go_region_held3 (fun w' => (w'.cell? ⟨n1, 0, none⟩ = some (.int .i64 2) ∧ w'.cell? ⟨n1, 1, none⟩ = some (.int .i64 1) ∧ w'.cell? ⟨n1, 2, none⟩ = some (.int .i64 3) ∧ w'.cell? ⟨n1, 3, none⟩ = some (.int .i64 9) ∧ w'.cell? ⟨n1, 4, none⟩ = some (.int .i64 1) ∧ w'.cell? ⟨n1, 5, none⟩ = some (.int .i64 0) ∧ w'.cell? ⟨n1, 6, none⟩ = some (.int .i64 0) ∧ w'.cell? ⟨n1, 7, none⟩ = some (.int .i64 0) ∧ w'.cell? ⟨n1, 8, none⟩ = some (.int .i64 0)) ∧ (w'.cell? ⟨n2, 0, none⟩ = some (.int .i64 2) ∧ w'.cell? ⟨n2, 1, none⟩ = some (.int .i64 2) ∧ w'.cell? ⟨n2, 2, none⟩ = some (.int .i64 1) ∧ w'.cell? ⟨n2, 3, none⟩ = some (.int .i64 1) ∧ w'.cell? ⟨n2, 4, none⟩ = some (.int .i64 2) ∧ w'.cell? ⟨n2, 5, none⟩ = some (.int .i64 0) ∧ w'.cell? ⟨n2, 6, none⟩ = some (.int .i64 0) ∧ w'.cell? ⟨n2, 7, none⟩ = some (.int .i64 0) ∧ w'.cell? ⟨n2, 8, none⟩ = some (.int .i64 0))) (with_reducible exact ⟨ra_cells hP, rb_cells hQ⟩) (first | (go_at_call 15; (with_reducible refine (HM1.out _).mono ?_); rintro e w6 ⟨A1, c1, rfl, hS1, hb6⟩; replace hP := hP.below hb6; replace hQ := hQ.below hb6; replace hB := below_then hB hb6; clear hb6) | (go_at_call 15; (with_reducible refine (HM2.out _ _ _ hS1).mono ?_); rintro e w6 ⟨A2, c2, rfl, hS2, hb6⟩; replace hP := hP.below hb6; replace hQ := hQ.below hb6; replace hB := below_then hB hb6; clear hb6) | (go_at_call 15; (with_reducible refine (HM3.out _ _ _ hS2).mono ?_); rintro e w6 ⟨A3, c3, rfl, hS3, hb6⟩; replace hP := hP.below hb6; replace hQ := hQ.below hb6; replace hB := below_then hB hb6; clear hb6))
  obtain ⟨p0, p1, p2, p3, p4, p5, p6, p7, p8⟩ := ra_cells hP
  go_wp2_with fail
  refine (HPR.out _).mono ?_
  rintro e w7 ⟨rfl, hb7⟩
  clear p0 p1 p2 p3 p4 p5 p6 p7 p8 HM1 HM2 HM3 HPR
  replace hP := hP.below hb7
  replace hQ := hQ.below hb7
  replace hS3 := hS3.below hb7
  replace hB := below_then hB hb7
  clear hb7
  have hr := Rd.new w7 34 BY 0 rfl
  have hal := below_alloc (Below.refl w7.heap.size w7) (.cells #[.string BY, .int .i64 0, .bool false] 34)
  obtain ⟨bl, ol, eA, hbl, hc⟩ := hS3.1 (by decide)
  have hX0 : rpE.At w7 bl ol Rx := by have h := hc 0 (by decide); rw [Nat.zero_mul, Nat.add_zero] at h; exact h
  have hX1 : rpE.At w7 bl (ol + 9) Rb := by have h := hc 1 (by decide); rw [Nat.one_mul] at h; exact h
  have hI0 := rpIdxH (cap := c3) (len := 2) (k := 0) eA (by decide)
  have hI1 := rpIdxH (cap := c3) (len := 2) (k := 1) eA (by decide)
  have e1 : some n1 ≠ some w7.heap.size := fun e => by have := Option.some.inj e; have := hP.lt; omega
  have e2 : some n2 ≠ some w7.heap.size := fun e => by have := Option.some.inj e; have := hQ.lt; omega
  have e3 : some bl ≠ some w7.heap.size := fun e => by have := Option.some.inj e; omega
  have hwr := hB.size
  replace hP := hP.below hal
  replace hQ := hQ.below hal
  replace hX0 := hX0.below hal hbl
  replace hX1 := hX1.below hal hbl
  replace hbl := Nat.lt_of_lt_of_le hbl hal.size
  replace hB := below_then hB hal
  clear hal hc eA hS3
  simp only [Nat.zero_mul, Nat.add_zero, Nat.one_mul, Int.ofNat_zero, Int.ofNat_one] at hI0 hI1
  go_wp2_with fail
  generalize w7.alloc (.cells #[.string BY, .int .i64 0, .bool false] 34) = W1 at *
  obtain ⟨nr, hnr⟩ : ∃ n, w7.heap.size = n := ⟨_, rfl⟩
  rw [hnr] at hr e1 e2 e3 hwr ⊢
  clear hnr
  have HRD := Lib.hid (fun (wx : World) (h : Rd 34 wx nr BY 0 false) => (show Calls Try.prog 18 #[.pointer (some ⟨nr, 0, none⟩)] wx fun e w' => e = .returned (.agg #[.int .i64 2, .int .i64 1, .int .i64 3, .int .i64 9, .int .i64 1, .int .i64 0, .int .i64 0, .int .i64 0, .int .i64 0]) ∧ Rd 34 w' nr BY BY.size false ∧ wx.grownBy w' (some nr) from (H.read wx nr 0 BY false (by omega) (Nat.zero_le _) h).mono (by
    rintro e w' ⟨x, q, bad', rfl, hr', _, hg, hst⟩
    rcases hst with ⟨h, rfl⟩ | ⟨h, _⟩
    · rw [hSF] at h
      have h := Option.some.inj h
      obtain rfl : Ra = x := congrArg Prod.fst h
      obtain rfl : BY.size = q := congrArg Prod.snd h
      exact ⟨rfl, hr', hg⟩
    · rw [hSF] at h; cases h)))
  have HDN := Lib.hid (fun (wx : World) (hr : Rd 34 wx nr BY BY.size false) => (by
    have h := done_any (Nat.le_refl _) hr
    rw [show isDone BY BY.size false = true by unfold isDone; simp] at h
    exact h.mono (by
      rintro r w' ⟨h1, m, rfl⟩
      exact ⟨h1, below_drew (Below.refl _ _) m⟩) : Calls Try.prog 19 #[.pointer (some ⟨nr, 0, none⟩)] wx fun r w' => r = .returned (.bool true) ∧ Below wx.heap.size wx w'))
  replace hP : rpE.In W1.drew n1 Ra := hP
  replace hQ : rpE.In W1.drew n2 Rb := hQ
  replace hX0 : rpE.At W1.drew bl ol Rx := hX0
  replace hX1 : rpE.At W1.drew bl (ol + 9) Rb := hX1
  replace hbl : bl < W1.drew.heap.size := hbl
  replace hr : Rd 34 W1.drew nr BY 0 false := hr
  replace hB := hB.drew
  go_region_held3 (fun w' => (w'.cell? ⟨n1, 0, none⟩ = some (.int .i64 2) ∧ w'.cell? ⟨n1, 1, none⟩ = some (.int .i64 1) ∧ w'.cell? ⟨n1, 2, none⟩ = some (.int .i64 3) ∧ w'.cell? ⟨n1, 3, none⟩ = some (.int .i64 9) ∧ w'.cell? ⟨n1, 4, none⟩ = some (.int .i64 1) ∧ w'.cell? ⟨n1, 5, none⟩ = some (.int .i64 0) ∧ w'.cell? ⟨n1, 6, none⟩ = some (.int .i64 0) ∧ w'.cell? ⟨n1, 7, none⟩ = some (.int .i64 0) ∧ w'.cell? ⟨n1, 8, none⟩ = some (.int .i64 0)) ∧ (w'.cell? ⟨n2, 0, none⟩ = some (.int .i64 2) ∧ w'.cell? ⟨n2, 1, none⟩ = some (.int .i64 2) ∧ w'.cell? ⟨n2, 2, none⟩ = some (.int .i64 1) ∧ w'.cell? ⟨n2, 3, none⟩ = some (.int .i64 1) ∧ w'.cell? ⟨n2, 4, none⟩ = some (.int .i64 2) ∧ w'.cell? ⟨n2, 5, none⟩ = some (.int .i64 0) ∧ w'.cell? ⟨n2, 6, none⟩ = some (.int .i64 0) ∧ w'.cell? ⟨n2, 7, none⟩ = some (.int .i64 0) ∧ w'.cell? ⟨n2, 8, none⟩ = some (.int .i64 0)) ∧ w'.cell? ⟨bl, ol, none⟩ = some (.int .i64 1) ∧ w'.cell? ⟨bl, ol + 9 + 1, none⟩ = some (.int .i64 2)) (with_reducible exact ⟨ra_cells hP, rb_cells hQ, x0_cell hX0, x1_cell hX1⟩) (first | (go_at_call 11; (with_reducible first | refine (HN1.out _).mono ?_ | refine (HN2.out _).mono ?_); rintro e w6 ⟨rfl, hb6⟩; replace hP := hP.below hb6; replace hQ := hQ.below hb6; replace hX0 := hX0.below hb6 hbl; replace hX1 := hX1.below hb6 hbl; replace hbl := Nat.lt_of_lt_of_le hbl hb6.size; replace hr := hr.below hb6; replace hB := below_then hB hb6; clear hb6) | (go_at_call 9; (with_reducible first | refine (HR1.out _).mono ?_ | refine (HR2.out _).mono ?_); rintro e w6 ⟨rfl, hb6⟩; replace hP := hP.below hb6; replace hQ := hQ.below hb6; replace hX0 := hX0.below hb6 hbl; replace hX1 := hX1.below hb6 hbl; replace hbl := Nat.lt_of_lt_of_le hbl hb6.size; replace hr := hr.below hb6; replace hB := below_then hB hb6; clear hb6) | (go_at_call 18; (with_reducible refine (HRD.out _ hr).mono ?_); rintro e w6 ⟨rfl, hr2, hg6⟩; replace hP := hP.keep hg6 e1; replace hQ := hQ.keep hg6 e2; replace hX0 := hX0.grown hg6 e3; replace hX1 := hX1.grown hg6 e3; replace hbl := Nat.lt_of_lt_of_le hbl hg6.size; replace hB := below_by hB hg6 hwr; clear hr hg6) | (go_at_call 19; (with_reducible refine (HDN.out _ hr2).mono ?_); rintro e w6 ⟨rfl, hb6⟩; replace hP := hP.below hb6; replace hQ := hQ.below hb6; replace hX0 := hX0.below hb6 hbl; replace hX1 := hX1.below hb6 hbl; replace hB := below_then hB hb6; clear hb6))
  go_wp2_with fail
  go_ret
  exact ⟨rfl, hB⟩
end Go.Proofs.Ytknoabafpgdooaa

/- Reports among the arguments, opened. -/
namespace Go.Proofs.Ytknoabafpgdooaa
open Go.ChangeShapes Go.WideShapes Go.ChangeAt Go.RowKit Go.Deep Cod

theorem cellsRp : Try.prog.cellsOf 23 = 9 := by kernel_rfl
set_option maxRecDepth 100000 in
theorem read_rp {H : Type} {enc : TypeId × Value → H} {W : World} {base : Nat} {sp : Nat → Bool} {held : Bool} {fuel : Nat} {cs : List Value} {x : DataW H × List MemPlace}
    (h : DataW.trod enc Try.prog W base sp held fuel 23 cs = some x) : ∃ r : Rp, cs = rpE.c r ∧ RpW r := by
  obtain ⟨xs, n, _, _, hl, hlen, hf⟩ := DataW.trod_struct Try.underlying23 h
  have hl9 : cs.length = 9 := hl.trans cellsRp
  have hl4 : xs.length = 9 := hlen
  match cs, hl9, xs, hl4 with
  | [c0, c1, c2, c3, c4, c5, c6, c7, c8], _, [y0, y1, y2, y3, y4, y5, y6, y7, y8], _ =>
    have h0 := hf 0 _ rfl
    have h1 := hf 1 _ rfl
    have h2 := hf 2 _ rfl
    have h3 := hf 3 _ rfl
    have h4 := hf 4 _ rfl
    have h5 := hf 5 _ rfl
    have h6 := hf 6 _ rfl
    have h7 := hf 7 _ rfl
    have h8 := hf 8 _ rfl
    simp [cells3] at h0 h1 h2 h3 h4 h5 h6 h7 h8
    obtain ⟨n0, e0, _, w0⟩ := DataW.trod_int Try.underlying3 h0
    obtain ⟨n1, e1, _, w1⟩ := DataW.trod_int Try.underlying3 h1
    obtain ⟨n2, e2, _, w2⟩ := DataW.trod_int Try.underlying3 h2
    obtain ⟨n3, e3, _, w3⟩ := DataW.trod_int Try.underlying3 h3
    obtain ⟨n4, e4, _, w4⟩ := DataW.trod_int Try.underlying3 h4
    obtain ⟨n5, e5, _, w5⟩ := DataW.trod_int Try.underlying3 h5
    obtain ⟨n6, e6, _, w6⟩ := DataW.trod_int Try.underlying3 h6
    obtain ⟨n7, e7, _, w7⟩ := DataW.trod_int Try.underlying3 h7
    obtain ⟨n8, e8, _, w8⟩ := DataW.trod_int Try.underlying3 h8
    simp at e0 e1 e2 e3 e4 e5 e6 e7 e8
    subst e0 e1 e2 e3 e4 e5 e6 e7 e8
    have b0 := bounds_i64 w0
    have b1 := bounds_i64 w1
    have b2 := bounds_i64 w2
    have b3 := bounds_i64 w3
    have b4 := bounds_i64 w4
    have b5 := bounds_i64 w5
    have b6 := bounds_i64 w6
    have b7 := bounds_i64 w7
    have b8 := bounds_i64 w8
    refine ⟨⟨n0, n1, n2, n3, n4, n5, n6, n7, n8⟩, rfl, fun n hn => ?_⟩
    simp only [rpL, List.mem_cons, List.not_mem_nil, or_false] at hn
    unfold i64
    rcases hn with rfl | rfl | rfl | rfl | rfl | rfl | rfl | rfl | rfl <;> omega
set_option maxRecDepth 100000 in
theorem open_rp {H : Type} {enc : TypeId × Value → H} {W : World} {base : Nat} {sp : Nat → Bool} {v : Value} {d : DataW H} {ps : List MemPlace}
    (hv : Value.okWide Try.prog W .any base 23 v) (h : DataW.Trod enc Try.prog W 0 sp true 23 v d ps) : ∃ r : Rp, v = .agg #[.int .i64 r.d, .int .i64 r.i, .int .i64 r.b, .int .i64 r.t, .int .i64 r.m, .int .i64 r.p, .int .i64 r.c, .int .i64 r.s, .int .i64 r.k] ∧ RpW r := by
  obtain ⟨cs, rfl, _⟩ := okWide_struct Try.underlying23 hv
  obtain ⟨fuel, hf⟩ := h
  obtain ⟨e, he, hw⟩ := read_rp hf
  refine ⟨e, ?_, hw⟩
  obtain ⟨l⟩ := cs
  simp [Value.cells] at he
  rw [he]
  rfl
instance : Inhabited Rp := ⟨zeroRp⟩
set_option maxRecDepth 100000 in
theorem open_rps {H : Type} {enc : TypeId × Value → H} {W : World} {base : Nat} {v : Value} {d : DataW H} {ps : List MemPlace}
    (hv : Value.okWide Try.prog W .any base 28 v) (h : DataW.Trod enc Try.prog W 0 (fun _ => true) true 28 v d ps) :
    ∃ (A : Option Addr) (cap : Nat) (l : List Rp), v = .slice A l.length cap ∧ rpE.Sl W A l ∧ l.length ≤ cap ∧ (A = none → cap = 0) ∧ ∀ r ∈ l, RpW r :=
  open_list rpE RpW Try.underlying28 cellsRp (fun h => read_rp h) hv h
end Go.Proofs.Ytknoabafpgdooaa

/- The program's reports: an array of fields; there and back. -/
namespace Go.Proofs.Ytknoabafpgdooaa
open Go.RowKit Cod

def fdE : El Rp where
  e := 41
  k := 9
  c r := [.int .i64 r.d, .int .i64 r.i, .int .i64 r.b, .int .i64 r.t, .int .i64 r.m, .int .i64 r.p, .int .i64 r.c, .int .i64 r.s, .int .i64 r.k]
  len _ := rfl
  one p u h := by
    simp only [List.mem_cons, List.not_mem_nil, or_false] at h
    rcases h with rfl | rfl | rfl | rfl | rfl | rfl | rfl | rfl | rfl <;> rfl
  pos := by decide
theorem fdRow : fdE.Row Try.prog := ⟨by kernel_rfl, _, Try.underlying41, rfl⟩
theorem fdIn9 {w : World} {b : Nat} {r : Rp} (h : fdE.In w b r) : w.cell? ⟨b, 0, none⟩ = some (.int .i64 r.d) ∧ w.cell? ⟨b, 1, none⟩ = some (.int .i64 r.i) ∧ w.cell? ⟨b, 2, none⟩ = some (.int .i64 r.b) ∧ w.cell? ⟨b, 3, none⟩ = some (.int .i64 r.t) ∧ w.cell? ⟨b, 4, none⟩ = some (.int .i64 r.m) ∧ w.cell? ⟨b, 5, none⟩ = some (.int .i64 r.p) ∧ w.cell? ⟨b, 6, none⟩ = some (.int .i64 r.c) ∧ w.cell? ⟨b, 7, none⟩ = some (.int .i64 r.s) ∧ w.cell? ⟨b, 8, none⟩ = some (.int .i64 r.k) :=
  ⟨h.cell 0, h.cell 1, h.cell 2, h.cell 3, h.cell 4, h.cell 5, h.cell 6, h.cell 7, h.cell 8⟩
/-- One field another. -/
def setF (r : Rp) : Nat → Int → Rp
  | 0, n => { r with d := n }
  | 1, n => { r with i := n }
  | 2, n => { r with b := n }
  | 3, n => { r with t := n }
  | 4, n => { r with m := n }
  | 5, n => { r with p := n }
  | 6, n => { r with c := n }
  | 7, n => { r with s := n }
  | 8, n => { r with k := n }
  | _, _ => r
theorem setF_c (r : Rp) (n : Int) : ∀ k, k < 9 → fdE.c (setF r k n) = (fdE.c r).set k (.int .i64 n)
  | 0, _ => rfl
  | 1, _ => rfl
  | 2, _ => rfl
  | 3, _ => rfl
  | 4, _ => rfl
  | 5, _ => rfl
  | 6, _ => rfl
  | 7, _ => rfl
  | 8, _ => rfl
  | k + 9, h => absurd h (by omega)
theorem setF_take (r : Rp) (n : Int) : ∀ k, k < 9 → (rpL (setF r k n)).take (k + 1) = (rpL r).take k ++ [n]
  | 0, _ => rfl
  | 1, _ => rfl
  | 2, _ => rfl
  | 3, _ => rfl
  | 4, _ => rfl
  | 5, _ => rfl
  | 6, _ => rfl
  | 7, _ => rfl
  | 8, _ => rfl
  | k + 9, h => absurd h (by omega)
theorem fdCell {w : World} {b : Nat} {r : Rp} (h : fdE.In w b r) : ∀ k, k < 9 → w.cell? ⟨b, k, none⟩ = some (.int .i64 ((rpL r).getD k 0))
  | 0, _ => h.cell 0
  | 1, _ => h.cell 1
  | 2, _ => h.cell 2
  | 3, _ => h.cell 3
  | 4, _ => h.cell 4
  | 5, _ => h.cell 5
  | 6, _ => h.cell 6
  | 7, _ => h.cell 7
  | 8, _ => h.cell 8
  | k + 9, h => absurd h (by omega)
theorem idxFd (r : Rp) (w : World) : ∀ k, k < 9 → (Instr.index 41 (.agg #[.int .i64 r.d, .int .i64 r.i, .int .i64 r.b, .int .i64 r.t, .int .i64 r.m, .int .i64 r.p, .int .i64 r.c, .int .i64 r.s, .int .i64 r.k]) (.int .i64 (k : Nat))).run Try.prog w = .ok (.int .i64 ((rpL r).getD k 0)) w
  | 0, _ => by kernel_rfl
  | 1, _ => by kernel_rfl
  | 2, _ => by kernel_rfl
  | 3, _ => by kernel_rfl
  | 4, _ => by kernel_rfl
  | 5, _ => by kernel_rfl
  | 6, _ => by kernel_rfl
  | 7, _ => by kernel_rfl
  | 8, _ => by kernel_rfl
  | k + 9, h => absurd h (by omega)
theorem two_fd (w : World) (a : Array Value) (T : TypeId) : fdE.In ((w.alloc (.cells a T)).alloc (.cells #[.int .i64 0, .int .i64 0, .int .i64 0, .int .i64 0, .int .i64 0, .int .i64 0, .int .i64 0, .int .i64 0, .int .i64 0] 41)) (w.heap.size + 1) zeroRp := by
  have h := El.In.new (E := fdE) (w.alloc (.cells a T)) zeroRp _ rfl
  rw [alloc_size] at h; exact h
theorem two_rp (w : World) (a : Array Value) (T : TypeId) : rpE.In ((w.alloc (.cells a T)).alloc (.cells #[.int .i64 0, .int .i64 0, .int .i64 0, .int .i64 0, .int .i64 0, .int .i64 0, .int .i64 0, .int .i64 0, .int .i64 0] 23)) (w.heap.size + 1) zeroRp := by
  have h := El.In.new (E := rpE) (w.alloc (.cells a T)) zeroRp _ rfl
  rw [alloc_size] at h; exact h
set_option maxRecDepth 100000 in
set_option maxHeartbeats 2000000 in
theorem fieldsOf_any (r : Rp) (w : World) : Calls Try.prog 20 #[.agg #[.int .i64 r.d, .int .i64 r.i, .int .i64 r.b, .int .i64 r.t, .int .i64 r.m, .int .i64 r.p, .int .i64 r.c, .int .i64 r.s, .int .i64 r.k]] w fun e w' => e = .returned (.agg #[.int .i64 r.d, .int .i64 r.i, .int .i64 r.b, .int .i64 r.t, .int .i64 r.m, .int .i64 r.p, .int .i64 r.c, .int .i64 r.s, .int .i64 r.k]) ∧ Below w.heap.size w w' := by
  have hP : rpE.In ((w.alloc (.cells #[.int .i64 r.d, .int .i64 r.i, .int .i64 r.b, .int .i64 r.t, .int .i64 r.m, .int .i64 r.p, .int .i64 r.c, .int .i64 r.s, .int .i64 r.k] 23)).alloc (.cells #[.int .i64 0, .int .i64 0, .int .i64 0, .int .i64 0, .int .i64 0, .int .i64 0, .int .i64 0, .int .i64 0, .int .i64 0] 41)) w.heap.size r := (El.In.new (E := rpE) w r _ rfl).alloc _
  have hQ := two_fd w #[.int .i64 r.d, .int .i64 r.i, .int .i64 r.b, .int .i64 r.t, .int .i64 r.m, .int .i64 r.p, .int .i64 r.c, .int .i64 r.s, .int .i64 r.k] 23
  have hB := below_alloc (below_alloc (Below.refl w.heap.size w) (.cells #[.int .i64 r.d, .int .i64 r.i, .int .i64 r.b, .int .i64 r.t, .int .i64 r.m, .int .i64 r.p, .int .i64 r.c, .int .i64 r.s, .int .i64 r.k] 23)) (.cells #[.int .i64 0, .int .i64 0, .int .i64 0, .int .i64 0, .int .i64 0, .int .i64 0, .int .i64 0, .int .i64 0, .int .i64 0] 41)
  go_enter Try.func20, Try.ntmps20
  go_upto_region 1 with fail
  generalize (w.alloc (.cells #[.int .i64 r.d, .int .i64 r.i, .int .i64 r.b, .int .i64 r.t, .int .i64 r.m, .int .i64 r.p, .int .i64 r.c, .int .i64 r.s, .int .i64 r.k] 23)).alloc (.cells #[.int .i64 0, .int .i64 0, .int .i64 0, .int .i64 0, .int .i64 0, .int .i64 0, .int .i64 0, .int .i64 0, .int .i64 0] 41) = W at *
  obtain ⟨n3, h3⟩ : ∃ n, w.heap.size + 1 = n := ⟨_, rfl⟩
  obtain ⟨n2, h2⟩ : ∃ n, w.heap.size = n := ⟨_, rfl⟩
  rw [h3] at hQ ⊢
  rw [h2] at hP ⊢
  have hwn3 : w.heap.size ≤ n3 := by omega
  clear h2 h3
  obtain ⟨p0, p1, p2, p3, p4, p5, p6, p7, p8⟩ := rpIn9 hP
  go_wp2_with (first | (refine El.store fdRow rfl _ _ rfl n3 r #[.int .i64 r.d, .int .i64 r.i, .int .i64 r.b, .int .i64 r.t, .int .i64 r.m, .int .i64 r.p, .int .i64 r.c, .int .i64 r.s, .int .i64 r.k] rfl rfl rfl zeroRp hQ ?_) | fail)
  refine El.ret1 fdRow (hQ.set r _ rfl) rfl rfl rfl #[.int .i64 r.d, .int .i64 r.i, .int .i64 r.b, .int .i64 r.t, .int .i64 r.m, .int .i64 r.p, .int .i64 r.c, .int .i64 r.s, .int .i64 r.k] rfl ?_
  exact ⟨rfl, below_setRow hB hwn3 _⟩

set_option maxRecDepth 100000 in
set_option maxHeartbeats 2000000 in
theorem report_any (r : Rp) (w : World) : Calls Try.prog 31 #[.agg #[.int .i64 r.d, .int .i64 r.i, .int .i64 r.b, .int .i64 r.t, .int .i64 r.m, .int .i64 r.p, .int .i64 r.c, .int .i64 r.s, .int .i64 r.k]] w fun e w' => e = .returned (.agg #[.int .i64 r.d, .int .i64 r.i, .int .i64 r.b, .int .i64 r.t, .int .i64 r.m, .int .i64 r.p, .int .i64 r.c, .int .i64 r.s, .int .i64 r.k]) ∧ Below w.heap.size w w' := by
  have hP : fdE.In ((w.alloc (.cells #[.int .i64 r.d, .int .i64 r.i, .int .i64 r.b, .int .i64 r.t, .int .i64 r.m, .int .i64 r.p, .int .i64 r.c, .int .i64 r.s, .int .i64 r.k] 41)).alloc (.cells #[.int .i64 0, .int .i64 0, .int .i64 0, .int .i64 0, .int .i64 0, .int .i64 0, .int .i64 0, .int .i64 0, .int .i64 0] 23)) w.heap.size r := (El.In.new (E := fdE) w r _ rfl).alloc _
  have hQ := two_rp w #[.int .i64 r.d, .int .i64 r.i, .int .i64 r.b, .int .i64 r.t, .int .i64 r.m, .int .i64 r.p, .int .i64 r.c, .int .i64 r.s, .int .i64 r.k] 41
  have hB := below_alloc (below_alloc (Below.refl w.heap.size w) (.cells #[.int .i64 r.d, .int .i64 r.i, .int .i64 r.b, .int .i64 r.t, .int .i64 r.m, .int .i64 r.p, .int .i64 r.c, .int .i64 r.s, .int .i64 r.k] 41)) (.cells #[.int .i64 0, .int .i64 0, .int .i64 0, .int .i64 0, .int .i64 0, .int .i64 0, .int .i64 0, .int .i64 0, .int .i64 0] 23)
  go_enter Try.func31, Try.ntmps31
  go_upto_region 1 with fail
  generalize (w.alloc (.cells #[.int .i64 r.d, .int .i64 r.i, .int .i64 r.b, .int .i64 r.t, .int .i64 r.m, .int .i64 r.p, .int .i64 r.c, .int .i64 r.s, .int .i64 r.k] 41)).alloc (.cells #[.int .i64 0, .int .i64 0, .int .i64 0, .int .i64 0, .int .i64 0, .int .i64 0, .int .i64 0, .int .i64 0, .int .i64 0] 23) = W at *
  obtain ⟨n3, h3⟩ : ∃ n, w.heap.size + 1 = n := ⟨_, rfl⟩
  obtain ⟨n2, h2⟩ : ∃ n, w.heap.size = n := ⟨_, rfl⟩
  rw [h3] at hQ ⊢
  rw [h2] at hP ⊢
  have hwn3 : w.heap.size ≤ n3 := by omega
  clear h2 h3
  obtain ⟨p0, p1, p2, p3, p4, p5, p6, p7, p8⟩ := fdIn9 hP
  go_wp2_with (first | (refine El.store rpRow rfl _ _ rfl n3 r #[.int .i64 r.d, .int .i64 r.i, .int .i64 r.b, .int .i64 r.t, .int .i64 r.m, .int .i64 r.p, .int .i64 r.c, .int .i64 r.s, .int .i64 r.k] rfl rfl rfl zeroRp hQ ?_) | fail)
  refine El.ret1 rpRow (hQ.set r _ rfl) rfl rfl rfl #[.int .i64 r.d, .int .i64 r.i, .int .i64 r.b, .int .i64 r.t, .int .i64 r.m, .int .i64 r.p, .int .i64 r.c, .int .i64 r.s, .int .i64 r.k] rfl ?_
  exact ⟨rfl, below_setRow hB hwn3 _⟩
end Go.Proofs.Ytknoabafpgdooaa

/- The program's reports: bounds, right, Right. -/
namespace Go.Proofs.Ytknoabafpgdooaa
open Go.RowKit Cod

theorem fd_ret2 {fn : Func} {K : Ending → World → Prop} {a : Act} {w : World} {b c : Nat} {t u : Tmp} {x y : Rp} (h : fdE.In w b x) (h2 : fdE.In w c y) (hr : fn.results = #[.cell t 41, .cell u 41]) (hp : a.tmps.getD t undef = .pointer (some ⟨b, 0, none⟩)) (hq : a.tmps.getD u undef = .pointer (some ⟨c, 0, none⟩)) (hd : a.defers = [])
    (hR : K (.returned (.tuple #[.agg #[.int .i64 x.d, .int .i64 x.i, .int .i64 x.b, .int .i64 x.t, .int .i64 x.m, .int .i64 x.p, .int .i64 x.c, .int .i64 x.s, .int .i64 x.k], .agg #[.int .i64 y.d, .int .i64 y.i, .int .i64 y.b, .int .i64 y.t, .int .i64 y.m, .int .i64 y.p, .int .i64 y.c, .int .i64 y.s, .int .i64 y.k]])) w) : bodyPost Try.prog fn K .ret a w := by
  refine bodyPost_ret (v := .tuple #[.agg #[.int .i64 x.d, .int .i64 x.i, .int .i64 x.b, .int .i64 x.t, .int .i64 x.m, .int .i64 x.p, .int .i64 x.c, .int .i64 x.s, .int .i64 x.k], .agg #[.int .i64 y.d, .int .i64 y.i, .int .i64 y.b, .int .i64 y.t, .int .i64 y.m, .int .i64 y.p, .int .i64 y.c, .int .i64 y.s, .int .i64 y.k]]) ?_ hd hR
  have hp' : a.tmps[t]?.getD undef = .pointer (some ⟨b, 0, none⟩) := by simpa using hp
  have hq' : a.tmps[u]?.getD undef = .pointer (some ⟨c, 0, none⟩) := by simpa using hq
  have l1 : (loadVar 41 ⟨b, 0, none⟩).run Try.prog w = .ok (.agg #[.int .i64 x.d, .int .i64 x.i, .int .i64 x.b, .int .i64 x.t, .int .i64 x.m, .int .i64 x.p, .int .i64 x.c, .int .i64 x.s, .int .i64 x.k]) w := El.run_load fdRow h.at
  have l2 : (loadVar 41 ⟨c, 0, none⟩).run Try.prog w = .ok (.agg #[.int .i64 y.d, .int .i64 y.i, .int .i64 y.b, .int .i64 y.t, .int .i64 y.m, .int .i64 y.p, .int .i64 y.c, .int .i64 y.s, .int .i64 y.k]) w := El.run_load fdRow h2.at
  simp [results, hr, hp', hq', asAddr, l1, l2]
theorem below_setC {W w : World} (h : Below W.heap.size W w) (n i : Nat) (v : Value) (hn : W.heap.size ≤ n) : Below W.heap.size W (w.setCell ⟨n, i, none⟩ v) := Below.setCell h (show W.heap.size ≤ (⟨n, i, none⟩ : Addr).block from hn) v
/-- Bounds with the first k laid. -/
def mostK : Nat → Rp
  | 0 => zeroRp
  | k + 1 => setF (mostK k) k 1099511627776
def loB : Rp := ⟨0, 1, 0, 0, 1, 0, 0, 0, 0⟩
def hiB : Rp := ⟨11, 1099511627776, 1099511627776, 1099511627776, 2, 1099511627776, 1099511627776, 1099511627776, 1099511627776⟩
def FdS (n : Nat) (r : Rp) (w : World) : Prop := w.cell? ⟨n, 0, none⟩ = some (.int .i64 r.d) ∧ w.cell? ⟨n, 1, none⟩ = some (.int .i64 r.i) ∧ w.cell? ⟨n, 2, none⟩ = some (.int .i64 r.b) ∧ w.cell? ⟨n, 3, none⟩ = some (.int .i64 r.t) ∧ w.cell? ⟨n, 4, none⟩ = some (.int .i64 r.m) ∧ w.cell? ⟨n, 5, none⟩ = some (.int .i64 r.p) ∧ w.cell? ⟨n, 6, none⟩ = some (.int .i64 r.c) ∧ w.cell? ⟨n, 7, none⟩ = some (.int .i64 r.s) ∧ w.cell? ⟨n, 8, none⟩ = some (.int .i64 r.k)
set_option maxRecDepth 100000 in
set_option maxHeartbeats 2000000 in
theorem bounds_any (w : World) : Calls Try.prog 32 #[] w fun e w' => e = .returned (.tuple #[.agg #[.int .i64 loB.d, .int .i64 loB.i, .int .i64 loB.b, .int .i64 loB.t, .int .i64 loB.m, .int .i64 loB.p, .int .i64 loB.c, .int .i64 loB.s, .int .i64 loB.k], .agg #[.int .i64 hiB.d, .int .i64 hiB.i, .int .i64 hiB.b, .int .i64 hiB.t, .int .i64 hiB.m, .int .i64 hiB.p, .int .i64 hiB.c, .int .i64 hiB.s, .int .i64 hiB.k]]) ∧ Below w.heap.size w w' := by
  have hP : fdE.In ((w.alloc (.cells #[.int .i64 0, .int .i64 0, .int .i64 0, .int .i64 0, .int .i64 0, .int .i64 0, .int .i64 0, .int .i64 0, .int .i64 0] 41)).alloc (.cells #[.int .i64 0, .int .i64 0, .int .i64 0, .int .i64 0, .int .i64 0, .int .i64 0, .int .i64 0, .int .i64 0, .int .i64 0] 41)) w.heap.size zeroRp := (El.In.new (E := fdE) w zeroRp _ rfl).alloc _
  have hQ := two_fd w #[.int .i64 0, .int .i64 0, .int .i64 0, .int .i64 0, .int .i64 0, .int .i64 0, .int .i64 0, .int .i64 0, .int .i64 0] 41
  have hB := below_alloc (below_alloc (Below.refl w.heap.size w) (.cells #[.int .i64 0, .int .i64 0, .int .i64 0, .int .i64 0, .int .i64 0, .int .i64 0, .int .i64 0, .int .i64 0, .int .i64 0] 41)) (.cells #[.int .i64 0, .int .i64 0, .int .i64 0, .int .i64 0, .int .i64 0, .int .i64 0, .int .i64 0, .int .i64 0, .int .i64 0] 41)
  go_enter Try.func32, Try.ntmps32
  go_upto_region 1 with fail
  generalize (w.alloc (.cells #[.int .i64 0, .int .i64 0, .int .i64 0, .int .i64 0, .int .i64 0, .int .i64 0, .int .i64 0, .int .i64 0, .int .i64 0] 41)).alloc (.cells #[.int .i64 0, .int .i64 0, .int .i64 0, .int .i64 0, .int .i64 0, .int .i64 0, .int .i64 0, .int .i64 0, .int .i64 0] 41) = W at *
  obtain ⟨n3, h3⟩ : ∃ n, w.heap.size + 1 = n := ⟨_, rfl⟩
  obtain ⟨n2, h2⟩ : ∃ n, w.heap.size = n := ⟨_, rfl⟩
  rw [h3] at hQ ⊢
  rw [h2] at hP ⊢
  have hwn3 : w.heap.size ≤ n3 := by omega
  have hwn2 : w.heap.size ≤ n2 := by omega
  have hne : n2 ≠ n3 := by omega
  have hne' : n3 ≠ n2 := by omega
  clear h2 h3
  go_wp2_with fail
  go_loopw [3] (fun i wr => ∃ k : Nat, k ≤ 9 ∧ i = .int .i64 k ∧ fdE.In wr n2 zeroRp ∧ fdE.In wr n3 (mostK k) ∧ Below w.heap.size w wr) (fun i _ => 9 - (intOf i).toNat)
  case atStart => exact ⟨0, Nat.zero_le _, rfl, hP, hQ, hB⟩
  case round =>
    clear hP hQ hB
    obtain ⟨k, hk, rfl, hP, hQ, hB⟩ := hrel
    by_cases hkl : k < 9
    · have c0 := fdCell hQ k hkl
      have cf := hQ.frozen k
      have hQ2 : fdE.In (wr.setCell ⟨n3, k, none⟩ (.int .i64 1099511627776)) n3 (mostK (k + 1)) := hQ.put _ k _ (setF_c (mostK k) 1099511627776 k hkl)
      have hP2 := hP.other n3 k (.int .i64 1099511627776) hne
      have hB2 := below_setC hB n3 k (.int .i64 1099511627776) hwn3
      generalize (rpL (mostK k)).getD k 0 = x at *
      clear hP hQ
      go_wp2_with fail
      exact ⟨⟨k + 1, by omega, by go_num, hP2, hQ2, hB2⟩, by simp [intOf]; omega⟩
    · obtain rfl : k = 9 := by omega
      clear hkl
      have c0 : wr.cell? ⟨n3, 0, none⟩ = _ := fdCell hQ 0 (by decide)
      have c1 : wr.cell? ⟨n2, 1, none⟩ = _ := fdCell hP 1 (by decide)
      have c2 : wr.cell? ⟨n2, 4, none⟩ = _ := fdCell hP 4 (by decide)
      have c3 : wr.cell? ⟨n3, 4, none⟩ = _ := fdCell hQ 4 (by decide)
      have f1 := hP.frozen
      have f2 := hQ.frozen
      have hP1 := hP.other n3 0 (.int .i64 11) hne
      have hQ1 : fdE.In (wr.setCell ⟨n3, 0, none⟩ (.int .i64 11)) n3 (setF (mostK 9) 0 11) := hQ.put _ 0 _ rfl
      replace hB := below_setC hB n3 0 (.int .i64 11) hwn3
      clear hP hQ
      have hQ2 := hQ1.other n2 1 (.int .i64 1) hne'
      have hP2 := hP1.put (setF zeroRp 1 1) 1 (.int .i64 1) rfl
      replace hB := below_setC hB n2 1 (.int .i64 1) hwn2
      clear hP1 hQ1
      have hQ1 := hQ2.other n2 4 (.int .i64 1) hne'
      have hP1 := hP2.put (setF (setF zeroRp 1 1) 4 1) 4 (.int .i64 1) rfl
      replace hB := below_setC hB n2 4 (.int .i64 1) hwn2
      clear hP2 hQ2
      have hP2 := hP1.other n3 4 (.int .i64 2) hne
      have hQ2 := hQ1.put hiB 4 (.int .i64 2) rfl
      replace hB := below_setC hB n3 4 (.int .i64 2) hwn3
      clear hP1 hQ1
      replace hP2 : fdE.In _ n2 loB := hP2
      go_upto_region 9 with fail
      clear c0 c1 c2 c3 f1 f2
      generalize (((wr.setCell ⟨n3, 0, none⟩ (.int .i64 11)).setCell ⟨n2, 1, none⟩ (.int .i64 1)).setCell ⟨n2, 4, none⟩ (.int .i64 1)).setCell ⟨n3, 4, none⟩ (.int .i64 2) = V at *
      refine region_anyG (S := fun w' => FdS n2 loB w' ∧ FdS n3 hiB w') 3 (by kernel_rfl) ?_
      replace hP2 : fdE.In V.drew n2 loB := hP2
      replace hQ2 : fdE.In V.drew n3 hiB := hQ2
      replace hB := hB.drew
      generalize V.drew = U at *
      have hS : FdS n2 loB U ∧ FdS n3 hiB U := ⟨fdIn9 hP2, fdIn9 hQ2⟩
      refine anyG_take (i := 0) (v := .agg #[.int .i64 loB.d, .int .i64 loB.i, .int .i64 loB.b, .int .i64 loB.t, .int .i64 loB.m, .int .i64 loB.p, .int .i64 loB.c, .int .i64 loB.s, .int .i64 loB.k]) rfl (by kernel_rfl) (by kernel_rfl) (by kernel_rfl) (by kernel_rfl) (by kernel_rfl) (fun _ _ _ h => h) (Or.inl ⟨by rfl, fun w' hSw => by (obtain ⟨⟨s0, s1, s2, s3, s4, s5, s6, s7, s8⟩, t0, t1, t2, t3, t4, t5, t6, t7, t8⟩ := hSw; go_simp)⟩) hS ?_
      try simp only [Act.put, List.setIfInBounds_toArray, List.set_cons_zero, List.set_cons_succ]
      refine anyG_take (i := 1) (v := .agg #[.int .i64 hiB.d, .int .i64 hiB.i, .int .i64 hiB.b, .int .i64 hiB.t, .int .i64 hiB.m, .int .i64 hiB.p, .int .i64 hiB.c, .int .i64 hiB.s, .int .i64 hiB.k]) rfl (by kernel_rfl) (by kernel_rfl) (by kernel_rfl) (by kernel_rfl) (by kernel_rfl) (fun _ _ _ h => h) (Or.inl ⟨by rfl, fun w' hSw => by (obtain ⟨⟨s0, s1, s2, s3, s4, s5, s6, s7, s8⟩, t0, t1, t2, t3, t4, t5, t6, t7, t8⟩ := hSw; go_simp)⟩) hS ?_
      try simp only [Act.put, List.setIfInBounds_toArray, List.set_cons_zero, List.set_cons_succ]
      refine anyG_step (rs := [2]) (by kernel_rfl) (by simp) ?_
      refine AllG.cons rfl (fun K hK => ?_) AllG.nil
      refine El.step_store fdRow rfl _ _ rfl n2 loB #[.int .i64 loB.d, .int .i64 loB.i, .int .i64 loB.b, .int .i64 loB.t, .int .i64 loB.m, .int .i64 loB.p, .int .i64 loB.c, .int .i64 loB.s, .int .i64 loB.k] rfl rfl rfl loB hP2 ?_
      replace hB := below_setRow hB hwn2 (fdE.c loB).toArray
      replace hQ2 := hQ2.rowN n2 (fdE.c loB).toArray hne'
      replace hP2 := hP2.set loB _ rfl
      refine hK.out _ _ ⟨fdIn9 hP2, fdIn9 hQ2⟩ ?_
      simp only [Act.put]
      clear hK hS
      refine anyG_step (rs := [3]) (by kernel_rfl) (by simp) ?_
      refine AllG.last (n := 3) rfl (fun K hK => ?_)
      refine El.step_store fdRow rfl _ _ rfl n3 hiB #[.int .i64 hiB.d, .int .i64 hiB.i, .int .i64 hiB.b, .int .i64 hiB.t, .int .i64 hiB.m, .int .i64 hiB.p, .int .i64 hiB.c, .int .i64 hiB.s, .int .i64 hiB.k] rfl rfl rfl hiB hQ2 ?_
      replace hB := below_setRow hB hwn3 (fdE.c hiB).toArray
      replace hP2 := hP2.rowN n3 (fdE.c hiB).toArray hne
      replace hQ2 := hQ2.set hiB _ rfl
      refine hK.out _ _ ?_
      clear hK
      refine anyG_done (by kernel_rfl) ?_ _
      go_wp2_with fail
      refine fd_ret2 hP2 hQ2 rfl rfl rfl rfl ?_
      exact ⟨rfl, hB⟩
end Go.Proofs.Ytknoabafpgdooaa

/- The program's reports: right of an array of fields, Right. -/
namespace Go.Proofs.Ytknoabafpgdooaa
open Go.RowKit Cod

def inB (r : Rp) (k : Nat) : Bool := decide ((rpL loB).getD k 0 ≤ (rpL r).getD k 0 ∧ (rpL r).getD k 0 ≤ (rpL hiB).getD k 0)
theorem inB_all {r : Rp} (h : ∀ k, k < 9 → inB r k = true) : rpB r = true := by
  have h0 : (0 : Int) ≤ r.d ∧ r.d ≤ 11 := of_decide_eq_true (h 0 (by decide))
  have h1 : (1 : Int) ≤ r.i ∧ r.i ≤ 1099511627776 := of_decide_eq_true (h 1 (by decide))
  have h2 : (0 : Int) ≤ r.b ∧ r.b ≤ 1099511627776 := of_decide_eq_true (h 2 (by decide))
  have h3 : (0 : Int) ≤ r.t ∧ r.t ≤ 1099511627776 := of_decide_eq_true (h 3 (by decide))
  have h4 : (1 : Int) ≤ r.m ∧ r.m ≤ 2 := of_decide_eq_true (h 4 (by decide))
  have h5 : (0 : Int) ≤ r.p ∧ r.p ≤ 1099511627776 := of_decide_eq_true (h 5 (by decide))
  have h6 : (0 : Int) ≤ r.c ∧ r.c ≤ 1099511627776 := of_decide_eq_true (h 6 (by decide))
  have h7 : (0 : Int) ≤ r.s ∧ r.s ≤ 1099511627776 := of_decide_eq_true (h 7 (by decide))
  have h8 : (0 : Int) ≤ r.k ∧ r.k ≤ 1099511627776 := of_decide_eq_true (h 8 (by decide))
  exact rpB_iff.2 ⟨by omega, by omega, h1, h2, h3, h5, h6, h7, h8⟩
theorem inB_of {r : Rp} (h : RpR r) : ∀ k, k < 9 → inB r k = true
  | 0, _ => decide_eq_true (show (0 : Int) ≤ r.d ∧ r.d ≤ 11 from by have := h.d; omega)
  | 1, _ => decide_eq_true (show (1 : Int) ≤ r.i ∧ r.i ≤ 1099511627776 from h.i)
  | 2, _ => decide_eq_true (show (0 : Int) ≤ r.b ∧ r.b ≤ 1099511627776 from h.b)
  | 3, _ => decide_eq_true (show (0 : Int) ≤ r.t ∧ r.t ≤ 1099511627776 from h.t)
  | 4, _ => decide_eq_true (show (1 : Int) ≤ r.m ∧ r.m ≤ 2 from by have := h.m; omega)
  | 5, _ => decide_eq_true (show (0 : Int) ≤ r.p ∧ r.p ≤ 1099511627776 from h.p)
  | 6, _ => decide_eq_true (show (0 : Int) ≤ r.c ∧ r.c ≤ 1099511627776 from h.c)
  | 7, _ => decide_eq_true (show (0 : Int) ≤ r.s ∧ r.s ≤ 1099511627776 from h.s)
  | 8, _ => decide_eq_true (show (0 : Int) ≤ r.k ∧ r.k ≤ 1099511627776 from h.k)
  | k + 9, h => absurd h (by omega)
theorem inB_out {r : Rp} {k : Nat} (hk : k < 9) (h : inB r k = false) : rpB r = false := by
  rw [Bool.eq_false_iff]; intro hb
  rw [inB_of (rpB_iff.1 hb) k hk] at h; cases h
set_option maxRecDepth 100000 in
set_option maxHeartbeats 2000000 in
theorem fdRight_any (r : Rp) (w : World) : Calls Try.prog 21 #[.agg #[.int .i64 r.d, .int .i64 r.i, .int .i64 r.b, .int .i64 r.t, .int .i64 r.m, .int .i64 r.p, .int .i64 r.c, .int .i64 r.s, .int .i64 r.k]] w fun e w' => e = .returned (.bool (rpB r)) ∧ Below w.heap.size w w' := by
  have hP : fdE.In (w.alloc (.cells #[.int .i64 r.d, .int .i64 r.i, .int .i64 r.b, .int .i64 r.t, .int .i64 r.m, .int .i64 r.p, .int .i64 r.c, .int .i64 r.s, .int .i64 r.k] 41)) w.heap.size r := El.In.new (E := fdE) w r _ rfl
  have hB := below_alloc (Below.refl w.heap.size w) (.cells #[.int .i64 r.d, .int .i64 r.i, .int .i64 r.b, .int .i64 r.t, .int .i64 r.m, .int .i64 r.p, .int .i64 r.c, .int .i64 r.s, .int .i64 r.k] 41)
  have HC0 := Lib.hid (fun (j : Nat) (hj : j < 0) => (absurd hj (Nat.not_lt_zero j) : inB r j = true))
  obtain ⟨bv, hbv⟩ : ∃ bv, rpB r = bv := ⟨_, rfl⟩
  rw [hbv]
  have HV := Lib.hid hbv
  clear hbv
  go_enter Try.func21, Try.ntmps21
  go_wp2_with fail
  generalize w.alloc (.cells #[.int .i64 r.d, .int .i64 r.i, .int .i64 r.b, .int .i64 r.t, .int .i64 r.m, .int .i64 r.p, .int .i64 r.c, .int .i64 r.s, .int .i64 r.k] 41) = W at *
  obtain ⟨n1, h1⟩ : ∃ n, w.heap.size = n := ⟨_, rfl⟩
  rw [h1] at hP ⊢
  have hn1 : w.heap.size ≤ n1 := by omega
  clear h1
  refine (bounds_any W).mono ?_
  rintro e w1 ⟨rfl, hb1⟩
  replace hP := hP.below hb1
  replace hB := below_then hB hb1
  clear hb1
  have hL : fdE.In ((w1.alloc (.cells #[.int .i64 0, .int .i64 0, .int .i64 0, .int .i64 0, .int .i64 0, .int .i64 0, .int .i64 0, .int .i64 0, .int .i64 0] 41)).alloc (.cells #[.int .i64 0, .int .i64 0, .int .i64 0, .int .i64 0, .int .i64 0, .int .i64 0, .int .i64 0, .int .i64 0, .int .i64 0] 41)) w1.heap.size zeroRp := (El.In.new (E := fdE) w1 zeroRp _ rfl).alloc _
  have hM := two_fd w1 #[.int .i64 0, .int .i64 0, .int .i64 0, .int .i64 0, .int .i64 0, .int .i64 0, .int .i64 0, .int .i64 0, .int .i64 0] 41
  have hnb := hP.lt
  replace hP := (hP.alloc (.cells #[.int .i64 0, .int .i64 0, .int .i64 0, .int .i64 0, .int .i64 0, .int .i64 0, .int .i64 0, .int .i64 0, .int .i64 0] 41)).alloc (.cells #[.int .i64 0, .int .i64 0, .int .i64 0, .int .i64 0, .int .i64 0, .int .i64 0, .int .i64 0, .int .i64 0, .int .i64 0] 41)
  have hwn1 := hB.size
  replace hB := below_alloc (below_alloc hB (.cells #[.int .i64 0, .int .i64 0, .int .i64 0, .int .i64 0, .int .i64 0, .int .i64 0, .int .i64 0, .int .i64 0, .int .i64 0] 41)) (.cells #[.int .i64 0, .int .i64 0, .int .i64 0, .int .i64 0, .int .i64 0, .int .i64 0, .int .i64 0, .int .i64 0, .int .i64 0] 41)
  have hL2 := hL.set loB #[.int .i64 loB.d, .int .i64 loB.i, .int .i64 loB.b, .int .i64 loB.t, .int .i64 loB.m, .int .i64 loB.p, .int .i64 loB.c, .int .i64 loB.s, .int .i64 loB.k] rfl
  have hM1 := hM.rowN w1.heap.size #[.int .i64 loB.d, .int .i64 loB.i, .int .i64 loB.b, .int .i64 loB.t, .int .i64 loB.m, .int .i64 loB.p, .int .i64 loB.c, .int .i64 loB.s, .int .i64 loB.k] (by omega)
  have hL3 := hL2.rowN (w1.heap.size + 1) #[.int .i64 hiB.d, .int .i64 hiB.i, .int .i64 hiB.b, .int .i64 hiB.t, .int .i64 hiB.m, .int .i64 hiB.p, .int .i64 hiB.c, .int .i64 hiB.s, .int .i64 hiB.k] (by omega)
  have hM3 := hM1.set hiB #[.int .i64 hiB.d, .int .i64 hiB.i, .int .i64 hiB.b, .int .i64 hiB.t, .int .i64 hiB.m, .int .i64 hiB.p, .int .i64 hiB.c, .int .i64 hiB.s, .int .i64 hiB.k] rfl
  have hP2 := (hP.rowN w1.heap.size #[.int .i64 loB.d, .int .i64 loB.i, .int .i64 loB.b, .int .i64 loB.t, .int .i64 loB.m, .int .i64 loB.p, .int .i64 loB.c, .int .i64 loB.s, .int .i64 loB.k] (by omega)).rowN (w1.heap.size + 1) #[.int .i64 hiB.d, .int .i64 hiB.i, .int .i64 hiB.b, .int .i64 hiB.t, .int .i64 hiB.m, .int .i64 hiB.p, .int .i64 hiB.c, .int .i64 hiB.s, .int .i64 hiB.k] (by omega)
  have hB2 := below_setRow (below_setRow hB hwn1 #[.int .i64 loB.d, .int .i64 loB.i, .int .i64 loB.b, .int .i64 loB.t, .int .i64 loB.m, .int .i64 loB.p, .int .i64 loB.c, .int .i64 loB.s, .int .i64 loB.k]) (show w.heap.size ≤ w1.heap.size + 1 by omega) #[.int .i64 hiB.d, .int .i64 hiB.i, .int .i64 hiB.b, .int .i64 hiB.t, .int .i64 hiB.m, .int .i64 hiB.p, .int .i64 hiB.c, .int .i64 hiB.s, .int .i64 hiB.k]
  clear hP hB hL2
  go_upto_region 2 with (first | (refine El.store fdRow rfl _ _ rfl w1.heap.size loB #[.int .i64 loB.d, .int .i64 loB.i, .int .i64 loB.b, .int .i64 loB.t, .int .i64 loB.m, .int .i64 loB.p, .int .i64 loB.c, .int .i64 loB.s, .int .i64 loB.k] rfl rfl rfl zeroRp hL ?_) | (refine El.store fdRow rfl _ _ rfl (w1.heap.size + 1) hiB #[.int .i64 hiB.d, .int .i64 hiB.i, .int .i64 hiB.b, .int .i64 hiB.t, .int .i64 hiB.m, .int .i64 hiB.p, .int .i64 hiB.c, .int .i64 hiB.s, .int .i64 hiB.k] rfl rfl rfl zeroRp hM1 ?_) | fail)
  clear hL hM hM1
  generalize (((w1.alloc (.cells #[.int .i64 0, .int .i64 0, .int .i64 0, .int .i64 0, .int .i64 0, .int .i64 0, .int .i64 0, .int .i64 0, .int .i64 0] 41)).alloc (.cells #[.int .i64 0, .int .i64 0, .int .i64 0, .int .i64 0, .int .i64 0, .int .i64 0, .int .i64 0, .int .i64 0, .int .i64 0] 41)).setRow w1.heap.size #[.int .i64 loB.d, .int .i64 loB.i, .int .i64 loB.b, .int .i64 loB.t, .int .i64 loB.m, .int .i64 loB.p, .int .i64 loB.c, .int .i64 loB.s, .int .i64 loB.k]).setRow (w1.heap.size + 1) #[.int .i64 hiB.d, .int .i64 hiB.i, .int .i64 hiB.b, .int .i64 hiB.t, .int .i64 hiB.m, .int .i64 hiB.p, .int .i64 hiB.c, .int .i64 hiB.s, .int .i64 hiB.k] = V at *
  generalize w1.heap.size + 1 = n4 at *
  generalize w1.heap.size = n3 at *
  go_upto_region 3 with (first | (refine El.load fdRow rfl _ rfl n1 0 rfl r hP2.at #[.int .i64 r.d, .int .i64 r.i, .int .i64 r.b, .int .i64 r.t, .int .i64 r.m, .int .i64 r.p, .int .i64 r.c, .int .i64 r.s, .int .i64 r.k] rfl ?_) | fail)
  have HL := Lib.hid (fun k hk => fdCell hL3 k hk)
  have HM := Lib.hid (fun k hk => fdCell hM3 k hk)
  clear hL3 hM3 hP2 hnb
  go_loopw [12] (fun i wr => ∃ k : Nat, k ≤ 9 ∧ i = .int .i64 k ∧ Hid (∀ j, j < k → inB r j = true) ∧ V = wr) (fun i _ => 9 - (intOf i).toNat)
  case atStart => exact ⟨0, Nat.zero_le _, rfl, HC0, rfl⟩
  case round =>
    clear HC0
    obtain ⟨k, hk, rfl, HC, rfl⟩ := hrel
    by_cases hkl : k < 9
    · have hx := fun wx => idxFd r wx k hkl
      have c1 := HL.out k hkl
      have c2 := HM.out k hkl
      have HO := Lib.hid (inB_out (r := r) hkl)
      have HN := Lib.hid (fun (h : inB r k = true) (j : Nat) (hj : j < k + 1) => (by
        by_cases e : j < k
        · exact HC.out j e
        · obtain rfl : j = k := by omega
          exact h : inB r j = true))
      have HI := Lib.hid (show inB r k = decide ((rpL loB).getD k 0 ≤ (rpL r).getD k 0 ∧ (rpL r).getD k 0 ≤ (rpL hiB).getD k 0) from rfl)
      generalize (rpL r).getD k 0 = n at *
      generalize (rpL loB).getD k 0 = lo at *
      generalize (rpL hiB).getD k 0 = hi at *
      by_cases h0 : n < lo
      · have hv := HO.out (HI.out.trans (decide_eq_false (by omega)))
        obtain rfl : false = bv := hv.symm.trans HV.out
        have f1 : decide (n < lo) = true := decide_eq_true h0
        clear hv
        go_wp2_with fail
        go_ret
        exact ⟨rfl, hB2⟩
      · have f1 : decide (n < lo) = false := decide_eq_false h0
        by_cases h1 : hi < n
        · have hv := HO.out (HI.out.trans (decide_eq_false (by omega)))
          obtain rfl : false = bv := hv.symm.trans HV.out
          have f2 : decide (hi < n) = true := decide_eq_true h1
          clear hv
          go_wp2_with fail
          go_ret
          exact ⟨rfl, hB2⟩
        · have f2 : decide (hi < n) = false := decide_eq_false h1
          have HN2 := Lib.hid (HN.out (HI.out.trans (decide_eq_true (by omega))))
          go_wp2_with fail
          exact ⟨⟨k + 1, by omega, by go_num, HN2, by trivial⟩, by simp [intOf]; omega⟩
    · obtain rfl : k = 9 := by omega
      have hv := (inB_all HC.out).symm.trans HV.out
      subst hv
      go_wp2_with fail
      go_ret
      exact ⟨rfl, hB2⟩

set_option maxRecDepth 100000 in
set_option maxHeartbeats 2000000 in
theorem rpRight_any (r : Rp) (w : World) : Calls Try.prog 9 #[.agg #[.int .i64 r.d, .int .i64 r.i, .int .i64 r.b, .int .i64 r.t, .int .i64 r.m, .int .i64 r.p, .int .i64 r.c, .int .i64 r.s, .int .i64 r.k]] w fun e w' => e = .returned (.bool (rpB r)) ∧ Below w.heap.size w w' := by
  have hP : rpE.In (w.alloc (.cells #[.int .i64 r.d, .int .i64 r.i, .int .i64 r.b, .int .i64 r.t, .int .i64 r.m, .int .i64 r.p, .int .i64 r.c, .int .i64 r.s, .int .i64 r.k] 23)) w.heap.size r := El.In.new (E := rpE) w r _ rfl
  have hB := below_alloc (Below.refl w.heap.size w) (.cells #[.int .i64 r.d, .int .i64 r.i, .int .i64 r.b, .int .i64 r.t, .int .i64 r.m, .int .i64 r.p, .int .i64 r.c, .int .i64 r.s, .int .i64 r.k] 23)
  have C1 := Lib.hid (fun wx => fieldsOf_any r wx)
  have C2 := Lib.hid (fun wx => fdRight_any r wx)
  generalize rpB r = bv at *
  go_enter Try.func9, Try.ntmps9
  go_wp2_with (first | (refine El.load rpRow rfl _ rfl w.heap.size 0 rfl r hP.at #[.int .i64 r.d, .int .i64 r.i, .int .i64 r.b, .int .i64 r.t, .int .i64 r.m, .int .i64 r.p, .int .i64 r.c, .int .i64 r.s, .int .i64 r.k] rfl ?_) | fail)
  refine (C1.out _).mono ?_
  rintro e w1 ⟨rfl, hb1⟩
  replace hB := below_then hB hb1
  go_wp2_with fail
  refine (C2.out _).mono ?_
  rintro e w2 ⟨rfl, hb2⟩
  go_wp2_with fail
  go_ret
  exact ⟨rfl, below_then hB hb2⟩
end Go.Proofs.Ytknoabafpgdooaa
