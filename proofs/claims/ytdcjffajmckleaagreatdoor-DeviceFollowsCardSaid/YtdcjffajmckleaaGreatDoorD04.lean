/- Texts laid one behind the other: Yd, Ye, Rb, Rd, Rg, Rn. -/
import Derived.Test.YtdcjffajmckleaaGreatDoorD03
/- What is below a node, of the document: below. -/
namespace Go.Proofs.YtdcjffajmckleaaGreatDoor
open Go.RowKit Tre Cod Nam

/-- Those of t below a, each with what g gives of it; the first k places looked at. -/
def partG (t : List Pl) (g : Int → List Pl) (a : Int) (k : Nat) : List Pl := ((t.take k).filter fun p => decide (p.u = a)).flatMap fun p => seen t p :: g p.n
theorem partG_yes {t : List Pl} {g : Int → List Pl} {a : Int} {k : Nat} {p : Pl} (h : k < t.length) (hp : t[k] = p) (hu : p.u = a) : partG t g a (k + 1) = partG t g a k ++ [seen t p] ++ g p.n := by
  unfold partG
  rw [List.take_succ_eq_append_getElem h, List.filter_append, List.flatMap_append, hp, List.append_assoc]
  congr 1
  simp [hu]
theorem partG_no {t : List Pl} {g : Int → List Pl} {a : Int} {k : Nat} {p : Pl} (h : k < t.length) (hp : t[k] = p) (hu : ¬ p.u = a) : partG t g a (k + 1) = partG t g a k := by
  unfold partG
  rw [List.take_succ_eq_append_getElem h, List.filter_append, List.flatMap_append, hp]
  simp [hu]
theorem partG_le (t : List Pl) (g : Int → List Pl) (a : Int) (k : Nat) : (partG t g a k).length ≤ (partG t g a t.length).length := by
  have e : partG t g a t.length = partG t g a k ++ ((t.drop k).filter fun p => decide (p.u = a)).flatMap fun p => seen t p :: g p.n := by
    unfold partG
    rw [List.take_length]
    have e2 : (t.filter fun p => decide (p.u = a)) = ((t.take k).filter fun p => decide (p.u = a)) ++ (t.drop k).filter fun p => decide (p.u = a) := by rw [← List.filter_append, List.take_append_drop]
    rw [e2, List.flatMap_append]
  rw [e, List.length_append]; omega

def PlS (n : Nat) (p : Pl) (w : World) : Prop := w.cell? ⟨n, 0, none⟩ = some (.int .i64 p.n) ∧ w.cell? ⟨n, 1, none⟩ = some (.int .i64 p.u) ∧ w.cell? ⟨n, 2, none⟩ = some (.string p.s)
set_option maxRecDepth 100000 in
set_option maxHeartbeats 4000000 in
theorem refBelow_step (A : Option Addr) (c : Nat) (t : List Pl) (g : Int → List Pl) (a : Int) (w : World) (ht : TreeP t) (hl : t.length ≤ 100) (hT : plE.Sl w A t) (hlen : (partG t g a t.length).length ≤ 1000)
    (hrec : ∀ p ∈ t, p.u = a → ∀ wx, Below w.heap.size w wx → Calls Tryz.prog 42 #[.slice A t.length c, .int .i64 p.n] wx fun e w' => ∃ A' c', e = .returned (.slice A' (g p.n).length c') ∧ SlV seE w' A' c' (g p.n) ∧ Frs wx.heap.size A' ∧ Below wx.heap.size wx w') :
    Calls Tryz.prog 42 #[.slice A t.length c, .int .i64 a] w fun e w' => ∃ A' c', e = .returned (.slice A' (partG t g a t.length).length c') ∧ SlV seE w' A' c' (partG t g a t.length) ∧ Frs w.heap.size A' ∧ Below w.heap.size w w' := by
  have HREC := Lib.hid hrec
  have HLEN := Lib.hid hlen
  clear hrec hlen
  go_enter Tryz.func42, Tryz.ntmps42
  go_wp2_with fail
  go_loopw [5, 6] (fun x y wr => ∃ (k : Nat) (v1 : Value), k ≤ t.length ∧ y = .int .i64 k ∧ x = v1 ∧ seE.Own wr w.heap.size v1 (partG t g a k) ∧ Below w.heap.size w wr) (fun _ y _ => t.length - (intOf y).toNat)
  case atStart => exact ⟨0, _, Nat.zero_le _, rfl, rfl, El.Own.nil w w.heap.size, Below.refl _ _⟩
  case round =>
    obtain ⟨k, v1, hk, rfl, rfl, hO, hB⟩ := hrel
    by_cases hkl : k < t.length
    · obtain ⟨b, off, hA, hbw, hc⟩ := hT (by omega)
      have hat : plE.At wr b (off + k * 3) t[k] := (hc k hkl).below hB hbw
      have hpt : t[k] ∈ t := List.getElem_mem _
      have hy := fun (h : t[k].u = a) => partG_yes (g := g) (a := a) hkl (rfl : t[k] = t[k]) h
      have hno := fun (h : ¬ t[k].u = a) => partG_no (g := g) (a := a) hkl (rfl : t[k] = t[k]) h
      obtain ⟨p, hp⟩ : ∃ p, t[k] = p := ⟨_, rfl⟩
      rw [hp] at hat hpt hy hno
      have HY := Lib.hid hy
      have HNO := Lib.hid hno
      have HRP := Lib.hid (HREC.out p hpt)
      obtain ⟨n1, n2, _, _, n5⟩ := ht.node hpt
      have hps := isName_len n5
      rw [L_len] at hps
      have hbr := Nat.lt_of_lt_of_le hbw hB.size
      clear hp hc hy hno n5 hpt
      subst hA
      have hz0 : plE.In (wr.alloc (.cells #[.int .i64 0, .int .i64 0, .string ⟨#[]⟩] 50)) wr.heap.size zero := El.In.new (E := plE) wr zero #[.int .i64 0, .int .i64 0, .string ⟨#[]⟩] rfl
      have hP := hz0.set p #[.int .i64 p.n, .int .i64 p.u, .string p.s] rfl
      have hbz : Below wr.heap.size wr ((wr.alloc (.cells #[.int .i64 0, .int .i64 0, .string ⟨#[]⟩] 50)).setRow wr.heap.size #[.int .i64 p.n, .int .i64 p.u, .string p.s]) := below_setRow (below_alloc (Below.refl _ _) _) (Nat.le_refl _) _
      obtain ⟨p0, p1, p2⟩ := plIn3 hP
      by_cases e : p.u = a
      · have HQ := Lib.hid (HY.out e)
        have HCR := Lib.hid (HRP.out e)
        have HSE := Lib.hid (show seen t p = ⟨p.n, a, nameOf t p⟩ from by unfold seen; rw [e])
        have he1 : (p.u == a) = true := by rw [e]; exact beq_self_eq_true _
        have he2 : (p.u != a) = false := by rw [e]; simp
        have he3 : decide (p.u = a) = true := decide_eq_true e
        have he4 : decide (¬ p.u = a) = false := decide_eq_false (fun h => h e)
        have HE := Lib.hid e
        clear e
        have hN7 : ∀ j, u5.ownBlock = some j → j < wr.heap.size := fun j e => (hO.lt j e).2
        have HN7 := Lib.hid hN7
        have hL1 := partG_le t g a (k + 1)
        have hL2 := partG_le t g a k
        have HLB := Lib.hid (show (partG t g a k).length ≤ 1000 from Nat.le_trans hL2 HLEN.out)
        have HLC := Lib.hid (show (partG t g a k ++ [seen t p] ++ g p.n).length ≤ 1000 from by rw [← HQ.out]; exact Nat.le_trans hL1 HLEN.out)
        have HTW := Lib.hid (fun wx => (by
          have h := refTwin_any p.s p.n.toNat wx (by omega) (by omega)
          rw [Int.toNat_of_nonneg (by omega)] at h
          exact h : Calls Tryz.prog 70 #[.string p.s, .int .i64 p.n] wx fun e w' => e = .returned (.string (twinOf p.s p.n.toNat)) ∧ Below wx.heap.size wx w'))
        have HT := Lib.hid hT
        have HHL := Lib.hid hl
        clear hN7 hL1 hL2
        go_wp2_with (first | (refine El.load plRow rfl _ rfl b (off + k * 3) rfl p hat #[.int .i64 p.n, .int .i64 p.u, .string p.s] rfl ?_) | (refine El.store plRow rfl _ _ rfl wr.heap.size p #[.int .i64 p.n, .int .i64 p.u, .string p.s] rfl rfl rfl zero hz0 ?_) | (refine El.load plRow rfl _ rfl wr.heap.size 0 rfl p hP.at #[.int .i64 p.n, .int .i64 p.u, .string p.s] rfl ?_) | fail)
        replace hO := hO.below hbz
        replace hB := hB.trans (hbz.mono hB.size)
        clear hbz hz0 hat p0 p1 p2
        generalize (wr.alloc (.cells #[.int .i64 0, .int .i64 0, .string ⟨#[]⟩] 50)).setRow wr.heap.size #[.int .i64 p.n, .int .i64 p.u, .string p.s] = W1 at *
        generalize wr.heap.size = n7 at *
        refine (refFirst_any (some ⟨b, off, none⟩) c t p W1 (by have := HHL.out; omega) (HT.out.below hB)).mono ?_
        rintro e W2 ⟨rfl, hb2⟩
        replace hO := hO.below hb2
        replace hP := hP.below hb2
        replace hB := hB.trans (hb2.mono hB.size)
        clear hb2
        rcases hf : firstB t p with _ | _
        · have hnm : nameOf t p = twinOf p.s p.n.toNat := by unfold nameOf; rw [hf]; rfl
          have hse := HSE.out
          rw [hnm] at hse
          clear HSE hnm hf
          generalize twinOf p.s p.n.toNat = N at hse HTW
          have HSE := Lib.hid hse
          clear hse
          obtain ⟨p0, p1, p2⟩ := plIn3 hP
          go_wp2_with fail
          clear p0 p1 p2
          refine (HTW.out W2).mono ?_
          rintro e W3 ⟨rfl, hb3⟩
          replace hO := hO.below hb3
          replace hP := hP.below hb3
          replace hB := hB.trans (hb3.mono hB.size)
          clear hb3 HTW
          go_wp2_with fail
          refine region_anyG (S := PlS n7 p) 13 (by kernel_rfl) ?_
          replace hP : plE.In W3.drew n7 p := hP
          replace hO : seE.Own W3.drew w.heap.size u5 (partG t g a k) := hO.below (Below.refl _ _).drew
          replace hB := hB.drew
          have hn7V : n7 < W3.drew.heap.size := hP.lt
          generalize W3.drew = V at *
          have hS : PlS n7 p V := plIn3 hP
          refine anyG_take (i := 0) (v := u5) rfl (by kernel_rfl) (by kernel_rfl) (by kernel_rfl) (by kernel_rfl) (by kernel_rfl) (fun _ _ _ h => h) (Or.inl ⟨by rfl, fun w' hSw => by (obtain ⟨s0, s1, s2⟩ := hSw; go_simp)⟩) hS ?_
          try simp only [Act.put, List.setIfInBounds_toArray, List.set_cons_zero, List.set_cons_succ]
          refine anyG_take (i := 1) (v := .pointer (some ⟨n7, 0, none⟩)) rfl (by kernel_rfl) (by kernel_rfl) (by kernel_rfl) (by kernel_rfl) (by kernel_rfl) (fun _ _ _ h => h) (Or.inl ⟨by rfl, fun w' hSw => by (obtain ⟨s0, s1, s2⟩ := hSw; go_simp)⟩) hS ?_
          try simp only [Act.put, List.setIfInBounds_toArray, List.set_cons_zero, List.set_cons_succ]
          refine anyG_take (i := 2) (v := .int .i64 p.n) rfl (by kernel_rfl) (by kernel_rfl) (by kernel_rfl) (by kernel_rfl) (by kernel_rfl) (fun _ _ _ h => h) (Or.inl ⟨by rfl, fun w' hSw => by (obtain ⟨s0, s1, s2⟩ := hSw; go_simp)⟩) hS ?_
          try simp only [Act.put, List.setIfInBounds_toArray, List.set_cons_zero, List.set_cons_succ]
          refine anyG_take (i := 3) (v := .int .i64 a) rfl (by kernel_rfl) (by kernel_rfl) (by kernel_rfl) (by kernel_rfl) (by kernel_rfl) (fun _ _ _ h => h) (Or.inl ⟨by rfl, fun w' hSw => by (obtain ⟨s0, s1, s2⟩ := hSw; go_simp)⟩) hS ?_
          try simp only [Act.put, List.setIfInBounds_toArray, List.set_cons_zero, List.set_cons_succ]
          refine anyG_take (i := 4) (v := .string N) rfl (by kernel_rfl) (by kernel_rfl) (by kernel_rfl) (by kernel_rfl) (by kernel_rfl) (fun _ _ _ h => h) (Or.inl ⟨by rfl, fun w' hSw => by (obtain ⟨s0, s1, s2⟩ := hSw; go_simp)⟩) hS ?_
          try simp only [Act.put, List.setIfInBounds_toArray, List.set_cons_zero, List.set_cons_succ]
          refine anyG_take (i := 5) (v := .agg #[.int .i64 p.n, .int .i64 a, .string N]) rfl (by kernel_rfl) (by kernel_rfl) (by kernel_rfl) (by kernel_rfl) (by kernel_rfl) (fun _ _ _ h => h) (Or.inl ⟨by rfl, fun w' hSw => by (obtain ⟨s0, s1, s2⟩ := hSw; go_simp)⟩) hS ?_
          try simp only [Act.put, List.setIfInBounds_toArray, List.set_cons_zero, List.set_cons_succ]
          refine anyG_take (i := 8) (v := .slice (some ⟨b, off, none⟩) t.length c) rfl (by kernel_rfl) (by kernel_rfl) (by kernel_rfl) (by kernel_rfl) (by kernel_rfl) (fun _ _ _ h => h) (Or.inl ⟨by rfl, fun w' hSw => by (obtain ⟨s0, s1, s2⟩ := hSw; go_simp)⟩) hS ?_
          try simp only [Act.put, List.setIfInBounds_toArray, List.set_cons_zero, List.set_cons_succ]
          refine anyG_take (i := 9) (v := .pointer (some ⟨n7, 0, none⟩)) rfl (by kernel_rfl) (by kernel_rfl) (by kernel_rfl) (by kernel_rfl) (by kernel_rfl) (fun _ _ _ h => h) (Or.inl ⟨by rfl, fun w' hSw => by (obtain ⟨s0, s1, s2⟩ := hSw; go_simp)⟩) hS ?_
          try simp only [Act.put, List.setIfInBounds_toArray, List.set_cons_zero, List.set_cons_succ]
          refine anyG_take (i := 10) (v := .int .i64 p.n) rfl (by kernel_rfl) (by kernel_rfl) (by kernel_rfl) (by kernel_rfl) (by kernel_rfl) (fun _ _ _ h => h) (Or.inl ⟨by rfl, fun w' hSw => by (obtain ⟨s0, s1, s2⟩ := hSw; go_simp)⟩) hS ?_
          try simp only [Act.put, List.setIfInBounds_toArray, List.set_cons_zero, List.set_cons_succ]
          refine anyG_step (rs := [6]) (by kernel_rfl) (by simp) ?_
          refine AllG.cons rfl (fun K hK => ?_) AllG.nil
          have hal := below_alloc (Below.refl V.heap.size V) (.cells #[.int .i64 p.n, .int .i64 a, .string N] 102)
          have hEl : seE.Sl (V.alloc (.cells #[.int .i64 p.n, .int .i64 a, .string N] 102)) (some ⟨V.heap.size, 0, none⟩) [seen t p] := (El.In.new (E := seE) V (seen t p) _ (by rw [HSE.out]; rfl)).sl
          replace hO := hO.below hal
          replace hP := hP.below hal
          replace hB := hB.trans (hal.mono hB.size)
          replace hn7V := Nat.lt_of_lt_of_le hn7V hal.size
          clear hS hal
          have hS : PlS n7 p _ := plIn3 hP
          go_simp
          refine hK.out _ _ hS ?_
          try simp only [Act.put, List.setIfInBounds_toArray, List.set_cons_zero, List.set_cons_succ]
          clear hK hS
          generalize V.alloc (.cells #[.int .i64 p.n, .int .i64 a, .string N] 102) = V1 at *
          generalize V.heap.size = n8 at *
          refine anyG_step (rs := [7]) (by kernel_rfl) (by simp) ?_
          refine AllG.cons rfl (fun K hK => ?_) AllG.nil
          refine El.step_app seInn rfl (.tmp 34) (.tmp 40) rfl w.heap.size u5 (partG t g a k) [seen t p] rfl hO (some ⟨n8, 0, none⟩) 1 1 rfl rfl hEl (fun e => by cases e) (by have := HLB.out; rw [List.length_singleton]; omega) hB.size ?_
          intro v2 W2 hO2 hg2 hat2
          have hP2 := hP.keep hg2 (fun e => by have := HN7.out n7 e.symm; omega)
          have hB2 := hB.grown hg2 hB.size (fun k e => (hO.lt k e).1)
          have HN8 := Lib.hid (show ∀ j, v2.ownBlock = some j → j ≠ n7 from fun j e => by
            rcases hat2 with h | h
            · have := HN7.out j (by rw [← h]; exact e); omega
            · have := Option.some.inj (e.symm.trans h); omega)
          clear hO hP hB hEl hg2 hat2
          refine hK.out _ _ (plIn3 hP2 : PlS n7 p W2) ?_
          try simp only [Act.put, List.setIfInBounds_toArray, List.set_cons_zero, List.set_cons_succ]
          clear hK
          refine anyG_step (rs := [11]) (by kernel_rfl) (by simp) ?_
          refine AllG.cons rfl (fun K hK => ?_) AllG.nil
          go_simp
          refine (HCR.out W2 hB2).mono ?_
          rintro e W3 ⟨A3, c3, rfl, hS3, hF3, hb3⟩
          have hP3 := hP2.below hb3
          have hO3 := hO2.below hb3
          have hB3 := hB2.trans (hb3.mono hB2.size)
          clear hO2 hP2 hB2 hb3 hF3
          try go_wp2_with fail
          refine hK.out _ _ (plIn3 hP3 : PlS n7 p W3) ?_
          try simp only [Act.put, List.setIfInBounds_toArray, List.set_cons_zero, List.set_cons_succ]
          clear hK
          refine anyG_step (rs := [12]) (by kernel_rfl) (by simp) ?_
          refine AllG.cons rfl (fun K hK => ?_) AllG.nil
          refine El.step_app seInn rfl (.tmp 41) (.tmp 45) rfl w.heap.size v2 (partG t g a k ++ [seen t p]) (g p.n) rfl hO3 A3 (g p.n).length c3 rfl rfl hS3.1 hS3.2.1 (by have := HLC.out; rw [List.length_append, List.length_append] at this; rw [List.length_append]; omega) hB3.size ?_
          intro v4 W4 hO4 hg4 hat4
          have hP4 := hP3.keep hg4 (fun e => HN8.out n7 e.symm rfl)
          have hB4 := hB3.grown hg4 hB3.size (fun k e => (hO3.lt k e).1)
          clear hO3 hP3 hB3 hg4 hat4 hS3
          refine hK.out _ _ (plIn3 hP4 : PlS n7 p W4) ?_
          try simp only [Act.put, List.setIfInBounds_toArray, List.set_cons_zero, List.set_cons_succ]
          clear hK
          refine anyG_step (rs := [13]) (by kernel_rfl) (by simp) ?_
          refine AllG.last (n := 13) rfl (fun K hK => ?_)
          go_simp
          refine hK.out _ _ ?_
          try simp only [Act.put, List.setIfInBounds_toArray, List.set_cons_zero, List.set_cons_succ]
          clear hK
          refine anyG_done (by kernel_rfl) ?_ _
          go_wp2_with fail
          exact ⟨⟨k + 1, v4, by omega, by go_num, rfl, by rw [HQ.out]; exact hO4, hB4⟩, by simp [intOf]; omega⟩
        · have hnm : nameOf t p = p.s := by unfold nameOf; rw [hf]; rfl
          have hse := HSE.out
          rw [hnm] at hse
          clear HSE hnm hf HTW
          have HSE := Lib.hid hse
          clear hse
          go_wp2_with fail
          refine region_anyG (S := PlS n7 p) 13 (by kernel_rfl) ?_
          replace hP : plE.In W2.drew n7 p := hP
          replace hO : seE.Own W2.drew w.heap.size u5 (partG t g a k) := hO.below (Below.refl _ _).drew
          replace hB := hB.drew
          have hn7V : n7 < W2.drew.heap.size := hP.lt
          generalize W2.drew = V at *
          have hS : PlS n7 p V := plIn3 hP
          refine anyG_take (i := 0) (v := u5) rfl (by kernel_rfl) (by kernel_rfl) (by kernel_rfl) (by kernel_rfl) (by kernel_rfl) (fun _ _ _ h => h) (Or.inl ⟨by rfl, fun w' hSw => by (obtain ⟨s0, s1, s2⟩ := hSw; go_simp)⟩) hS ?_
          try simp only [Act.put, List.setIfInBounds_toArray, List.set_cons_zero, List.set_cons_succ]
          refine anyG_take (i := 1) (v := .pointer (some ⟨n7, 0, none⟩)) rfl (by kernel_rfl) (by kernel_rfl) (by kernel_rfl) (by kernel_rfl) (by kernel_rfl) (fun _ _ _ h => h) (Or.inl ⟨by rfl, fun w' hSw => by (obtain ⟨s0, s1, s2⟩ := hSw; go_simp)⟩) hS ?_
          try simp only [Act.put, List.setIfInBounds_toArray, List.set_cons_zero, List.set_cons_succ]
          refine anyG_take (i := 2) (v := .int .i64 p.n) rfl (by kernel_rfl) (by kernel_rfl) (by kernel_rfl) (by kernel_rfl) (by kernel_rfl) (fun _ _ _ h => h) (Or.inl ⟨by rfl, fun w' hSw => by (obtain ⟨s0, s1, s2⟩ := hSw; go_simp)⟩) hS ?_
          try simp only [Act.put, List.setIfInBounds_toArray, List.set_cons_zero, List.set_cons_succ]
          refine anyG_take (i := 3) (v := .int .i64 a) rfl (by kernel_rfl) (by kernel_rfl) (by kernel_rfl) (by kernel_rfl) (by kernel_rfl) (fun _ _ _ h => h) (Or.inl ⟨by rfl, fun w' hSw => by (obtain ⟨s0, s1, s2⟩ := hSw; go_simp)⟩) hS ?_
          try simp only [Act.put, List.setIfInBounds_toArray, List.set_cons_zero, List.set_cons_succ]
          refine anyG_take (i := 4) (v := .string p.s) rfl (by kernel_rfl) (by kernel_rfl) (by kernel_rfl) (by kernel_rfl) (by kernel_rfl) (fun _ _ _ h => h) (Or.inl ⟨by rfl, fun w' hSw => by (obtain ⟨s0, s1, s2⟩ := hSw; go_simp)⟩) hS ?_
          try simp only [Act.put, List.setIfInBounds_toArray, List.set_cons_zero, List.set_cons_succ]
          refine anyG_take (i := 5) (v := .agg #[.int .i64 p.n, .int .i64 a, .string p.s]) rfl (by kernel_rfl) (by kernel_rfl) (by kernel_rfl) (by kernel_rfl) (by kernel_rfl) (fun _ _ _ h => h) (Or.inl ⟨by rfl, fun w' hSw => by (obtain ⟨s0, s1, s2⟩ := hSw; go_simp)⟩) hS ?_
          try simp only [Act.put, List.setIfInBounds_toArray, List.set_cons_zero, List.set_cons_succ]
          refine anyG_take (i := 8) (v := .slice (some ⟨b, off, none⟩) t.length c) rfl (by kernel_rfl) (by kernel_rfl) (by kernel_rfl) (by kernel_rfl) (by kernel_rfl) (fun _ _ _ h => h) (Or.inl ⟨by rfl, fun w' hSw => by (obtain ⟨s0, s1, s2⟩ := hSw; go_simp)⟩) hS ?_
          try simp only [Act.put, List.setIfInBounds_toArray, List.set_cons_zero, List.set_cons_succ]
          refine anyG_take (i := 9) (v := .pointer (some ⟨n7, 0, none⟩)) rfl (by kernel_rfl) (by kernel_rfl) (by kernel_rfl) (by kernel_rfl) (by kernel_rfl) (fun _ _ _ h => h) (Or.inl ⟨by rfl, fun w' hSw => by (obtain ⟨s0, s1, s2⟩ := hSw; go_simp)⟩) hS ?_
          try simp only [Act.put, List.setIfInBounds_toArray, List.set_cons_zero, List.set_cons_succ]
          refine anyG_take (i := 10) (v := .int .i64 p.n) rfl (by kernel_rfl) (by kernel_rfl) (by kernel_rfl) (by kernel_rfl) (by kernel_rfl) (fun _ _ _ h => h) (Or.inl ⟨by rfl, fun w' hSw => by (obtain ⟨s0, s1, s2⟩ := hSw; go_simp)⟩) hS ?_
          try simp only [Act.put, List.setIfInBounds_toArray, List.set_cons_zero, List.set_cons_succ]
          refine anyG_step (rs := [6]) (by kernel_rfl) (by simp) ?_
          refine AllG.cons rfl (fun K hK => ?_) AllG.nil
          have hal := below_alloc (Below.refl V.heap.size V) (.cells #[.int .i64 p.n, .int .i64 a, .string p.s] 102)
          have hEl : seE.Sl (V.alloc (.cells #[.int .i64 p.n, .int .i64 a, .string p.s] 102)) (some ⟨V.heap.size, 0, none⟩) [seen t p] := (El.In.new (E := seE) V (seen t p) _ (by rw [HSE.out]; rfl)).sl
          replace hO := hO.below hal
          replace hP := hP.below hal
          replace hB := hB.trans (hal.mono hB.size)
          replace hn7V := Nat.lt_of_lt_of_le hn7V hal.size
          clear hS hal
          have hS : PlS n7 p _ := plIn3 hP
          go_simp
          refine hK.out _ _ hS ?_
          try simp only [Act.put, List.setIfInBounds_toArray, List.set_cons_zero, List.set_cons_succ]
          clear hK hS
          generalize V.alloc (.cells #[.int .i64 p.n, .int .i64 a, .string p.s] 102) = V1 at *
          generalize V.heap.size = n8 at *
          refine anyG_step (rs := [7]) (by kernel_rfl) (by simp) ?_
          refine AllG.cons rfl (fun K hK => ?_) AllG.nil
          refine El.step_app seInn rfl (.tmp 34) (.tmp 40) rfl w.heap.size u5 (partG t g a k) [seen t p] rfl hO (some ⟨n8, 0, none⟩) 1 1 rfl rfl hEl (fun e => by cases e) (by have := HLB.out; rw [List.length_singleton]; omega) hB.size ?_
          intro v2 W2 hO2 hg2 hat2
          have hP2 := hP.keep hg2 (fun e => by have := HN7.out n7 e.symm; omega)
          have hB2 := hB.grown hg2 hB.size (fun k e => (hO.lt k e).1)
          have HN8 := Lib.hid (show ∀ j, v2.ownBlock = some j → j ≠ n7 from fun j e => by
            rcases hat2 with h | h
            · have := HN7.out j (by rw [← h]; exact e); omega
            · have := Option.some.inj (e.symm.trans h); omega)
          clear hO hP hB hEl hg2 hat2
          refine hK.out _ _ (plIn3 hP2 : PlS n7 p W2) ?_
          try simp only [Act.put, List.setIfInBounds_toArray, List.set_cons_zero, List.set_cons_succ]
          clear hK
          refine anyG_step (rs := [11]) (by kernel_rfl) (by simp) ?_
          refine AllG.cons rfl (fun K hK => ?_) AllG.nil
          go_simp
          refine (HCR.out W2 hB2).mono ?_
          rintro e W3 ⟨A3, c3, rfl, hS3, hF3, hb3⟩
          have hP3 := hP2.below hb3
          have hO3 := hO2.below hb3
          have hB3 := hB2.trans (hb3.mono hB2.size)
          clear hO2 hP2 hB2 hb3 hF3
          try go_wp2_with fail
          refine hK.out _ _ (plIn3 hP3 : PlS n7 p W3) ?_
          try simp only [Act.put, List.setIfInBounds_toArray, List.set_cons_zero, List.set_cons_succ]
          clear hK
          refine anyG_step (rs := [12]) (by kernel_rfl) (by simp) ?_
          refine AllG.cons rfl (fun K hK => ?_) AllG.nil
          refine El.step_app seInn rfl (.tmp 41) (.tmp 45) rfl w.heap.size v2 (partG t g a k ++ [seen t p]) (g p.n) rfl hO3 A3 (g p.n).length c3 rfl rfl hS3.1 hS3.2.1 (by have := HLC.out; rw [List.length_append, List.length_append] at this; rw [List.length_append]; omega) hB3.size ?_
          intro v4 W4 hO4 hg4 hat4
          have hP4 := hP3.keep hg4 (fun e => HN8.out n7 e.symm rfl)
          have hB4 := hB3.grown hg4 hB3.size (fun k e => (hO3.lt k e).1)
          clear hO3 hP3 hB3 hg4 hat4 hS3
          refine hK.out _ _ (plIn3 hP4 : PlS n7 p W4) ?_
          try simp only [Act.put, List.setIfInBounds_toArray, List.set_cons_zero, List.set_cons_succ]
          clear hK
          refine anyG_step (rs := [13]) (by kernel_rfl) (by simp) ?_
          refine AllG.last (n := 13) rfl (fun K hK => ?_)
          go_simp
          refine hK.out _ _ ?_
          try simp only [Act.put, List.setIfInBounds_toArray, List.set_cons_zero, List.set_cons_succ]
          clear hK
          refine anyG_done (by kernel_rfl) ?_ _
          go_wp2_with fail
          exact ⟨⟨k + 1, v4, by omega, by go_num, rfl, by rw [HQ.out]; exact hO4, hB4⟩, by simp [intOf]; omega⟩
      · have HQ := Lib.hid (HNO.out e)
        have he1 : (p.u == a) = false := beq_eq_false_iff_ne.2 e
        go_wp2_with (first | (refine El.load plRow rfl _ rfl b (off + k * 3) rfl p hat #[.int .i64 p.n, .int .i64 p.u, .string p.s] rfl ?_) | (refine El.store plRow rfl _ _ rfl wr.heap.size p #[.int .i64 p.n, .int .i64 p.u, .string p.s] rfl rfl rfl zero hz0 ?_) | fail)
        exact ⟨⟨k + 1, _, by omega, by go_num, rfl, by rw [HQ.out]; exact hO.below hbz, hB.trans (hbz.mono hB.size)⟩, by simp [intOf]; omega⟩
    · obtain rfl : k = t.length := by omega
      obtain ⟨A', c', rfl, hS⟩ := SlV.own hO
      have hfr := hO.frs
      clear hO
      go_wp2_with fail
      go_ret
      exact ⟨A', c', rfl, hS, hfr, hB⟩
end Go.Proofs.YtdcjffajmckleaaGreatDoor

/- What is shown, of the document: below, Show, Trash, Same. -/
namespace Go.Proofs.YtdcjffajmckleaaGreatDoor
open Go.RowKit Tre Cod Nam

theorem TreeP.below_len {t : List Pl} (h : TreeP t) (f : Nat) (a : Int) : (belowL t f a).length ≤ t.length := by
  have h2 := pigeon _ (t.map Pl.n) (below_nodup h.s (acyc_of h.r) f a) (fun x hx => by
    obtain ⟨y, hy, rfl⟩ := List.mem_map.1 hx
    obtain ⟨p, hp, rfl, _⟩ := (mem_below h.s y f a).1 hy
    exact List.mem_map.2 ⟨p, hp, rfl⟩)
  simpa using h2
theorem partG_all (t : List Pl) (f : Nat) (a : Int) : partG t (belowL t f) a t.length = belowL t (f + 1) a := by
  unfold partG; rw [List.take_length]; rfl
theorem partG_none {t : List Pl} {g : Int → List Pl} {a : Int} (h : ∀ p ∈ t, p.u ≠ a) : partG t g a t.length = [] := by
  unfold partG
  rw [List.take_length, List.filter_eq_nil_iff.2 (fun p hp => by simpa using h p hp)]; rfl
theorem refBelow_any (A : Option Addr) (c : Nat) (t : List Pl) (ht : TreeP t) (hl : t.length ≤ 100) : ∀ (f : Nat) (a : Int) (w : World), plE.Sl w A t → Deep t f a →
    Calls Tryz.prog 42 #[.slice A t.length c, .int .i64 a] w fun e w' => ∃ A' c', e = .returned (.slice A' (belowL t f a).length c') ∧ SlV seE w' A' c' (belowL t f a) ∧ Frs w.heap.size A' ∧ Below w.heap.size w w'
  | 0, a, w, hT, hd => by
    have hz := partG_none (g := fun _ => []) hd.zero
    have h := refBelow_step A c t (fun _ => []) a w ht hl hT (by rw [hz]; exact Nat.zero_le _) (fun p hp hu => absurd hu (hd.zero p hp))
    rw [hz] at h
    exact h
  | f + 1, a, w, hT, hd => by
    have h := refBelow_step A c t (belowL t f) a w ht hl hT (by rw [partG_all]; have := ht.below_len (f + 1) a; omega) (fun p hp hu wx hb => refBelow_any A c t ht hl f p.n wx (hT.below hb) (hd.next ht.s hp hu))
    rw [partG_all] at h
    exact h

/-- What is shown; nothing of what is no tree. -/
def showV (t : List Pl) : List Pl := if treeB t = true then showL t else []
theorem refShow_any (A : Option Addr) (c : Nat) (t : List Pl) (w : World) (hl : t.length ≤ 100) (hsz : ∀ p ∈ t, p.s.size ≤ 9223372036854775807) (hT : plE.Sl w A t) :
    Calls Tryz.prog 17 #[.slice A t.length c] w fun e w' => ∃ A' c', e = .returned (.slice A' (showV t).length c') ∧ SlV seE w' A' c' (showV t) ∧ Frs w.heap.size A' ∧ Below w.heap.size w w' := by
  have HR := Lib.hid (refRight_any A c t w (by omega) hsz (plSl.1 hT))
  cases ht : treeB t
  · have hv : showV t = [] := by unfold showV; rw [ht]; rfl
    rw [hv]
    have hr := HR.out
    rw [ht] at hr
    go_enter Tryz.func17, Tryz.ntmps17
    go_wp2_with fail
    refine hr.mono ?_
    rintro e w1 ⟨rfl, hb1⟩
    go_wp2_with fail
    go_ret
    exact ⟨none, 0, rfl, SlV.nil _ _, frs_nil _, hb1⟩
  · have hv : showV t = showL t := by unfold showV; rw [ht]; rfl
    rw [hv]
    have hr := HR.out
    rw [ht] at hr
    have hp := treeP ht
    have HB := Lib.hid (fun (wx : World) (hb : Below w.heap.size w wx) => refBelow_any A c t hp hl t.length 0 wx (hT.below hb) (deep_all hp.s hp.r 0))
    go_enter Tryz.func17, Tryz.ntmps17
    go_wp2_with fail
    refine hr.mono ?_
    rintro e w1 ⟨rfl, hb1⟩
    go_wp2_with fail
    refine (HB.out w1 hb1).mono ?_
    rintro e w2 ⟨A', c', rfl, hS, hF, hb2⟩
    go_wp2_with fail
    go_ret
    exact ⟨A', c', rfl, hS, hF.mono hb1.size, below_then hb1 hb2⟩
theorem se_unlike {p q : Pl} (h : ¬ p = q) : ((p.n == q.n) = false) ∨ (p.n = q.n ∧ (p.u == q.u) = false) ∨ (p.n = q.n ∧ p.u = q.u ∧ (p.s.toList == q.s.toList) = false) := by
  by_cases h0 : p.n = q.n
  rotate_left
  · left; exact beq_eq_false_iff_ne.2 h0
  by_cases h1 : p.u = q.u
  rotate_left
  · right; left; exact ⟨h0, beq_eq_false_iff_ne.2 h1⟩
  by_cases h2 : p.s = q.s
  · exfalso; apply h
    obtain ⟨a, b, c⟩ := p; obtain ⟨a', b', c'⟩ := q; simp only at h0 h1 h2; rw [h0, h1, h2]
  · right; right; exact ⟨h0, h1, ne_beq h2⟩
set_option maxRecDepth 100000 in
set_option maxHeartbeats 4000000 in
theorem sameSe_any (A1 A2 : Option Addr) (c1 c2 : Nat) (l m : List Pl) (w : World) (hl : l.length ≤ 50000) (hm : m.length ≤ 50000) (h1 : seE.Sl w A1 l) (h2 : seE.Sl w A2 m) :
    Calls Tryz.prog 16 #[.slice A1 l.length c1, .slice A2 m.length c2] w fun e w' => ∃ b, e = .returned (.bool b) ∧ (b = true ↔ l = m) ∧ Below w.heap.size w w' := by
  by_cases hlen : l.length = m.length
  · rw [← hlen]
    have HL := Lib.hid hlen
    clear hlen
    go_enter Tryz.func16, Tryz.ntmps16
    go_wp2
    go_loopw [5] (fun x wr => ∃ k : Nat, k ≤ l.length ∧ x = .int .i64 k ∧ (∀ j (hj : j < k) (ha : j < l.length) (hb : j < m.length), l[j] = m[j]) ∧ Below w.heap.size w wr) (fun x _ => l.length - (intOf x).toNat)
    case atStart => exact ⟨0, Nat.zero_le _, rfl, fun j hj => by omega, Below.refl _ _⟩
    case round =>
      obtain ⟨k, hk, rfl, hall, hnx⟩ := hrel
      by_cases hlt : k < l.length
      · obtain ⟨b1, o1, hA1, hw1, hc1⟩ := h1 (by omega)
        have hlt2 : k < m.length := by have := HL.out; omega
        obtain ⟨b2, o2, hA2, hw2, hc2⟩ := h2 (by omega)
        have hat : seE.At wr b1 (o1 + k * 3) l[k] := (hc1 k hlt).below hnx hw1
        have hat2 : seE.At wr b2 (o2 + k * 3) m[k] := (hc2 k hlt2).below hnx hw2
        obtain ⟨p, hp⟩ : ∃ p, l[k] = p := ⟨_, rfl⟩
        obtain ⟨q, hq⟩ : ∃ q, m[k] = q := ⟨_, rfl⟩
        rw [hp] at hat
        rw [hq] at hat2
        have HP := Lib.hid hp
        have HQ := Lib.hid hq
        have HA := Lib.hid hall
        obtain ⟨q0, q1, q2⟩ := seAt3 hat
        obtain ⟨r0, r1, r2⟩ := seAt3 hat2
        clear hc1 hc2 hp hq h1 h2 hall hat hat2
        subst hA1 hA2
        by_cases hpq : p = q
        · have HE := Lib.hid hpq
          subst hpq
          go_wp2
          go_quiet (fail)
          go_wp2
          go_roundw
          case rel =>
            refine ⟨k + 1, by omega, by go_num, fun j hj ha hb => ?_, below_drew hnx _⟩
            by_cases e : j = k
            · subst e; rw [HP.out, HQ.out]
            · exact HA.out j (by omega) ha hb
          case measure => simp [intOf]; omega
        · have HN := Lib.hid hpq
          rcases se_unlike hpq with hu | ⟨a0, hu⟩ | ⟨a0, a1, hu⟩
          all_goals
            clear hpq
            go_wp2
            go_quiet (fail)
            go_wp2
            go_ret
            refine ⟨false, rfl, ⟨fun h => (by cases h), fun h => ?_⟩, below_drew hnx _⟩
            subst h
            exact absurd (HP.out.symm.trans HQ.out) HN.out
      · obtain rfl : k = l.length := by omega
        have HA := Lib.hid hall
        clear hall
        go_wp2
        go_ret
        exact ⟨true, rfl, ⟨fun _ => List.ext_getElem HL.out fun j ha hb => HA.out j ha ha hb, fun _ => rfl⟩, hnx⟩
  · have HL := Lib.hid hlen
    have hne : ¬ m.length = l.length := fun e => hlen e.symm
    go_enter Tryz.func16, Tryz.ntmps16
    go_wp2
    go_ret
    exact ⟨false, rfl, ⟨fun h => (by cases h), fun h => absurd (congrArg List.length h) HL.out⟩, Below.refl _ _⟩
end Go.Proofs.YtdcjffajmckleaaGreatDoor

/- Devices' states in memory; what the program's functions shall answer (DeviceCalls). -/
namespace Go.Proofs.YtdcjffajmckleaaGreatDoor
open Go.RowKit Nam Cod Tre Pst Pln

/-- A device's state, and where its slices lie. -/
structure Dw where
  node : Int
  boot : Int
  above : Int
  pos : Int
  qA : Option Addr
  qc : Nat
  q : Qu
  y : Pw
  cA : Option Addr
  cc : Nat
  l : List Cn
  inc : Int
  mode : Int
  clock : Int
  sent : Int
  pA : Option Addr
  pc : Nat
  late : Int
def Dw.v (x : Dw) : Dv := ⟨x.node, x.boot, x.above, x.pos, x.q, x.y.v, x.l, x.inc, x.mode, x.clock, x.sent, x.late⟩
def Dw.zero : Dw := ⟨0, 0, 0, 0, none, 0, nilQu, Pw.zero, none, 0, [], 0, 0, 0, 0, none, 0, 0⟩
def dvE : El Dw where
  e := 44
  k := 26
  c x := [.int .i64 x.node, .int .i64 x.boot, .int .i64 x.above, .int .i64 x.pos, .int .i64 x.y.t, .int .i64 x.pos, .slice none 0 0, .int .i64 x.q.f, .int .i64 x.q.g, .slice x.qA x.q.os.length x.qc, .slice none 0 0, .slice none 0 0, .slice none 0 0, .slice none 0 0, .slice x.y.bA x.y.base.length x.y.bc, .int .i64 x.y.t, .slice x.y.oA x.y.ops.length x.y.oc, .slice x.y.uA x.y.us.length x.y.uc, .slice x.y.wA x.y.now.length x.y.wc, .slice x.cA x.l.length x.cc, .int .i64 x.inc, .int .i64 x.mode, .int .i64 x.clock, .int .i64 x.sent, .slice x.pA 0 x.pc, .int .i64 x.late]
  len _ := rfl
  one p u h := by
    simp only [List.mem_cons, List.not_mem_nil, or_false] at h
    rcases h with rfl | rfl | rfl | rfl | rfl | rfl | rfl | rfl | rfl | rfl | rfl | rfl | rfl | rfl | rfl | rfl | rfl | rfl | rfl | rfl | rfl | rfl | rfl | rfl | rfl | rfl <;> rfl
  pos := by decide
theorem dvRow : dvE.Row Tryz.prog := ⟨by kernel_rfl, _, Tryz.underlying44, rfl⟩
/-- Counts lie in a block of counts. -/
def CnT (w : World) (A : Option Addr) : Prop := ∀ a, A = some a → ∃ c, w.heap[a.block]? = some (.cells c 73 (0, 0))
theorem CnT.below {W w : World} {A : Option Addr} (h : CnT W A) (hb : Below W.heap.size W w) : CnT w A := fun a e => by
  obtain ⟨c, hc⟩ := h a e
  refine ⟨c, (hb.block _ ?_).trans hc⟩
  rcases Nat.lt_or_ge a.block W.heap.size with h1 | h1
  · exact h1
  · rw [Array.getElem?_eq_none h1] at hc; cases hc
theorem CnT.nil (w : World) : CnT w none := fun a e => by cases e
structure Dw.ok (x : Dw) (w : World) : Prop where
  p : PastOk w x.y
  q : SlV opE w x.qA x.qc x.q.os
  c : SlV cnE w x.cA x.cc x.l
  t : CnT w x.cA
theorem Dw.ok.below {x : Dw} {W w : World} (h : x.ok W) (hb : Below W.heap.size W w) : x.ok w := ⟨h.p.below hb, SlV.below h.q hb, SlV.below h.c hb, h.t.below hb⟩
theorem Dw.ok.zero (w : World) : Dw.zero.ok w := ⟨PastOk.zero w, SlV.nil _ _, SlV.nil _ _, CnT.nil w⟩
theorem dvE_cells (x : Dw) : ∀ v ∈ dvE.c x, (∃ k, v = .int .i64 k) ∨ ∃ a m c, v = .slice a m c := by
  intro v hv
  simp only [dvE, List.mem_cons, List.not_mem_nil, or_false] at hv
  rcases hv with rfl | rfl | rfl | rfl | rfl | rfl | rfl | rfl | rfl | rfl | rfl | rfl | rfl | rfl | rfl | rfl | rfl | rfl | rfl | rfl | rfl | rfl | rfl | rfl | rfl | rfl <;> first | exact Or.inl ⟨_, rfl⟩ | exact Or.inr ⟨_, _, _, rfl⟩
theorem dvE_cell {w : World} {n i : Nat} {v : Value} {x : Dw} (hZ : dvE.In w n x) (h : w.cell? ⟨n, i, none⟩ = some v) : (∃ k, v = .int .i64 k) ∨ ∃ a m c, v = .slice a m c := by
  rw [hZ.cell] at h
  exact dvE_cells x v (List.mem_of_getElem? h)
theorem SlV.keepRD {α : Type} {E : El α} {w w' : World} {A : Option Addr} {c : Nat} {l : List α} {b : Nat} (h : SlV E w A c l) (hno : ∀ off (h : 0 < l.length), ¬ E.At w b off l[0]) (hg : w.grownBy w' (some b)) : SlV E w' A c l := by
  refine ⟨fun h0 => ?_, h.2⟩
  obtain ⟨b1, off, e, hl, hc⟩ := h.1 h0
  have hne : b1 ≠ b := by
    rintro rfl
    exact hno _ h0 (hc 0 h0)
  exact ⟨b1, off, e, Nat.lt_of_lt_of_le hl hg.size, fun i hi => (hc i hi).grown hg (fun e => hne (Option.some.inj e))⟩
/-- A state's block is written: what another state's slices hold stays. -/
theorem Dw.ok.keepB {w w' : World} {x z : Dw} {n : Nat} (h : x.ok w) (hZ : dvE.In w n z) (hg : w.grownBy w' (some n)) : x.ok w' := by
  have hp : ∀ off y, ¬ plE.At w n off y := fun off y ha => by
    rcases dvE_cell hZ (ha 2 _ rfl) with ⟨_, h⟩ | ⟨_, _, _, h⟩ <;> cases h
  have ho : ∀ off y, ¬ opE.At w n off y := fun off y ha => by
    rcases dvE_cell hZ (ha 6 _ rfl) with ⟨_, h⟩ | ⟨_, _, _, h⟩ <;> cases h
  have hu : ∀ off y, ¬ unE.At w n off y := fun off y ha => by
    rcases dvE_cell hZ (ha 2 _ rfl) with ⟨_, h⟩ | ⟨_, _, _, h⟩ <;> cases h
  have hne : ∀ a, x.cA = some a → a.block ≠ n := fun a e he => by
    obtain ⟨c, hc⟩ := h.t a e
    have hZ' : w.heap[n]? = some (.cells (dvE.c z).toArray 44 (0, 0)) := hZ
    rw [he, hZ'] at hc
    injection hc with hc
    injection hc with _ hc _
    exact absurd hc (by decide)
  refine ⟨⟨h.p.b.keepRD (fun o _ => hp o _) hg, h.p.o.keepRD (fun o _ => ho o _) hg, h.p.u.keepRD (fun o _ => hu o _) hg, h.p.w.keepRD (fun o _ => hp o _) hg⟩, h.q.keepRD (fun o _ => ho o _) hg, ⟨h.c.1.keep hg (fun a e e2 => hne a e (Option.some.inj e2)), h.c.2⟩, fun a e => ?_⟩
  obtain ⟨c, hc⟩ := h.t a e
  refine ⟨c, (hg.block _ ?_ (fun e2 => hne a e (Option.some.inj e2))).trans hc⟩
  rcases Nat.lt_or_ge a.block w.heap.size with h1 | h1
  · exact h1
  · rw [Array.getElem?_eq_none h1] at hc; cases hc
def MergeE (F : Dw → Dw → Nat → Act) (R : Dw → Dw → Nat → World → Prop) : Exit → Act → World → Prop
  | .normal, a, w => ∃ x y n, a = F x y n ∧ R x y n w
  | _, _, _ => False
theorem wp_mergeE {P : Program} {c : Code} {Q : Exit → Act → World → Prop} {a : Act} {w : World} (R : Dw → Dw → Nat → World → Prop) {F : Dw → Dw → Nat → Act} (h : c.wp P (MergeE F R) a w) (k : ∀ x y n w, R x y n w → Q .normal (F x y n) w) : c.wp P Q a w :=
  Code.wp_mono (fun e a w h => by
    cases e with
    | normal => obtain ⟨x, y, n, rfl, hr⟩ := h; exact k x y n w hr
    | _ => exact h.elim) h
def MergeD (F : Dw → Nat → Act) (R : Dw → Nat → World → Prop) : Exit → Act → World → Prop
  | .normal, a, w => ∃ y n, a = F y n ∧ R y n w
  | _, _, _ => False
theorem wp_mergeD {P : Program} {c : Code} {Q : Exit → Act → World → Prop} {a : Act} {w : World} (R : Dw → Nat → World → Prop) {F : Dw → Nat → Act} (h : c.wp P (MergeD F R) a w) (k : ∀ y n w, R y n w → Q .normal (F y n) w) : c.wp P Q a w :=
  Code.wp_mono (fun e a w h => by
    cases e with
    | normal => obtain ⟨y, n, rfl, hr⟩ := h; exact k y n w hr
    | _ => exact h.elim) h
/-- A frame as it comes: numbers far from where they wrap, no gifts. -/
structure FrD (f : Fr) : Prop where
  n : ∀ n ∈ frL f, 0 ≤ n ∧ n ≤ 4294967296
  es : ∀ e ∈ f.es, entB e = true ∧ e.o.C ≤ 4294967296 ∧ e.o.s.size ≤ 1000
  l : f.os.length ≤ 64 ∧ f.rs.length ≤ 8 ∧ f.es.length ≤ 64
  gs : f.gs = []
structure PlD (p : Pn) (n : Int) (up : Int) : Prop where
  up : 0 < n ∧ p.u[n.toNat]? = some up ∧ 0 ≤ up ∧ up < 12
  l : p.u.length ≤ 12
  q : 0 ≤ p.q ∧ p.q ≤ 1000
  b : 0 ≤ p.b ∧ p.b ≤ 1000
  i : 0 ≤ p.i ∧ p.i ≤ 64
structure DeviceCalls : Prop where
  new : ∀ (n : Int) (w : World), 0 ≤ n ∧ n < 12 → Calls Tryz.prog 8 #[.int .i64 n] w fun e w' => ∃ x : Dw, e = .returned (.agg #[.int .i64 x.node, .int .i64 x.boot, .int .i64 x.above, .int .i64 x.pos, .int .i64 x.y.t, .int .i64 x.pos, .slice none 0 0, .int .i64 x.q.f, .int .i64 x.q.g, .slice x.qA x.q.os.length x.qc, .slice none 0 0, .slice none 0 0, .slice none 0 0, .slice none 0 0, .slice x.y.bA x.y.base.length x.y.bc, .int .i64 x.y.t, .slice x.y.oA x.y.ops.length x.y.oc, .slice x.y.uA x.y.us.length x.y.uc, .slice x.y.wA x.y.now.length x.y.wc, .slice x.cA x.l.length x.cc, .int .i64 x.inc, .int .i64 x.mode, .int .i64 x.clock, .int .i64 x.sent, .slice x.pA 0 x.pc, .int .i64 x.late]) ∧ x.ok w' ∧ x.v = newD n ∧ Below w.heap.size w w'
  edit : ∀ (p : Pnw) (x : Dw) (t : Pl) (w : World) (up : Int), PlD p.p x.node up → DvR x.v → i64 t.n → i64 t.u → t.s.size ≤ 9223372036854775807 → inE.Sl w p.A p.p.u → x.ok w → Calls Tryz.prog 9 #[.agg #[.slice p.A p.p.u.length p.c, .int .i64 p.p.q, .int .i64 p.p.r, .int .i64 p.p.b, .int .i64 p.p.l, .int .i64 p.p.w, .int .i64 p.p.c, .int .i64 p.p.k, .int .i64 p.p.i], .agg #[.int .i64 x.node, .int .i64 x.boot, .int .i64 x.above, .int .i64 x.pos, .int .i64 x.y.t, .int .i64 x.pos, .slice none 0 0, .int .i64 x.q.f, .int .i64 x.q.g, .slice x.qA x.q.os.length x.qc, .slice none 0 0, .slice none 0 0, .slice none 0 0, .slice none 0 0, .slice x.y.bA x.y.base.length x.y.bc, .int .i64 x.y.t, .slice x.y.oA x.y.ops.length x.y.oc, .slice x.y.uA x.y.us.length x.y.uc, .slice x.y.wA x.y.now.length x.y.wc, .slice x.cA x.l.length x.cc, .int .i64 x.inc, .int .i64 x.mode, .int .i64 x.clock, .int .i64 x.sent, .slice x.pA 0 x.pc, .int .i64 x.late], .agg #[.int .i64 t.n, .int .i64 t.u, .string t.s]] w fun e w' => ∃ (z : Dw) (n : Int), e = .returned (.tuple #[.agg #[.int .i64 z.node, .int .i64 z.boot, .int .i64 z.above, .int .i64 z.pos, .int .i64 z.y.t, .int .i64 z.pos, .slice none 0 0, .int .i64 z.q.f, .int .i64 z.q.g, .slice z.qA z.q.os.length z.qc, .slice none 0 0, .slice none 0 0, .slice none 0 0, .slice none 0 0, .slice z.y.bA z.y.base.length z.y.bc, .int .i64 z.y.t, .slice z.y.oA z.y.ops.length z.y.oc, .slice z.y.uA z.y.us.length z.y.uc, .slice z.y.wA z.y.now.length z.y.wc, .slice z.cA z.l.length z.cc, .int .i64 z.inc, .int .i64 z.mode, .int .i64 z.clock, .int .i64 z.sent, .slice z.pA 0 z.pc, .int .i64 z.late], .int .i64 n]) ∧ z.ok w' ∧ editD p.p.q p.p.i x.v t.n t.u t.s = (z.v, n) ∧ Below w.heap.size w w'
  leave : ∀ (x : Dw) (w : World), DvR x.v → x.ok w → Calls Tryz.prog 20 #[.agg #[.int .i64 x.node, .int .i64 x.boot, .int .i64 x.above, .int .i64 x.pos, .int .i64 x.y.t, .int .i64 x.pos, .slice none 0 0, .int .i64 x.q.f, .int .i64 x.q.g, .slice x.qA x.q.os.length x.qc, .slice none 0 0, .slice none 0 0, .slice none 0 0, .slice none 0 0, .slice x.y.bA x.y.base.length x.y.bc, .int .i64 x.y.t, .slice x.y.oA x.y.ops.length x.y.oc, .slice x.y.uA x.y.us.length x.y.uc, .slice x.y.wA x.y.now.length x.y.wc, .slice x.cA x.l.length x.cc, .int .i64 x.inc, .int .i64 x.mode, .int .i64 x.clock, .int .i64 x.sent, .slice x.pA 0 x.pc, .int .i64 x.late]] w fun e w' => ∃ z : Dw, e = .returned (.agg #[.int .i64 z.node, .int .i64 z.boot, .int .i64 z.above, .int .i64 z.pos, .int .i64 z.y.t, .int .i64 z.pos, .slice none 0 0, .int .i64 z.q.f, .int .i64 z.q.g, .slice z.qA z.q.os.length z.qc, .slice none 0 0, .slice none 0 0, .slice none 0 0, .slice none 0 0, .slice z.y.bA z.y.base.length z.y.bc, .int .i64 z.y.t, .slice z.y.oA z.y.ops.length z.y.oc, .slice z.y.uA z.y.us.length z.y.uc, .slice z.y.wA z.y.now.length z.y.wc, .slice z.cA z.l.length z.cc, .int .i64 z.inc, .int .i64 z.mode, .int .i64 z.clock, .int .i64 z.sent, .slice z.pA 0 z.pc, .int .i64 z.late]) ∧ z.ok w' ∧ z.v = leaveD x.v ∧ Below w.heap.size w w'
  take : ∀ (p : Pnw) (x : Dw) (f : Fw) (w : World) (up : Int), PlD p.p x.node up → DvR x.v → FrD f.x → inE.Sl w p.A p.p.u → x.ok w → f.ok w → Calls Tryz.prog 13 #[.agg #[.slice p.A p.p.u.length p.c, .int .i64 p.p.q, .int .i64 p.p.r, .int .i64 p.p.b, .int .i64 p.p.l, .int .i64 p.p.w, .int .i64 p.p.c, .int .i64 p.p.k, .int .i64 p.p.i], .agg #[.int .i64 x.node, .int .i64 x.boot, .int .i64 x.above, .int .i64 x.pos, .int .i64 x.y.t, .int .i64 x.pos, .slice none 0 0, .int .i64 x.q.f, .int .i64 x.q.g, .slice x.qA x.q.os.length x.qc, .slice none 0 0, .slice none 0 0, .slice none 0 0, .slice none 0 0, .slice x.y.bA x.y.base.length x.y.bc, .int .i64 x.y.t, .slice x.y.oA x.y.ops.length x.y.oc, .slice x.y.uA x.y.us.length x.y.uc, .slice x.y.wA x.y.now.length x.y.wc, .slice x.cA x.l.length x.cc, .int .i64 x.inc, .int .i64 x.mode, .int .i64 x.clock, .int .i64 x.sent, .slice x.pA 0 x.pc, .int .i64 x.late], .agg #[.int .i64 f.x.a, .int .i64 f.x.b, .int .i64 f.x.boot, .int .i64 f.x.first, .slice f.oA f.x.os.length f.oc, .int .i64 f.x.pos, .slice f.rA f.x.rs.length f.rc, .int .i64 f.x.start, .slice f.eA f.x.es.length f.ec, .int .i64 f.x.ack, .int .i64 f.x.grant, .int .i64 f.x.s, .int .i64 f.x.t, .slice f.gA f.x.gs.length f.gc]] w fun e w' => ∃ (z : Dw) (n : Int), e = .returned (.tuple #[.agg #[.int .i64 z.node, .int .i64 z.boot, .int .i64 z.above, .int .i64 z.pos, .int .i64 z.y.t, .int .i64 z.pos, .slice none 0 0, .int .i64 z.q.f, .int .i64 z.q.g, .slice z.qA z.q.os.length z.qc, .slice none 0 0, .slice none 0 0, .slice none 0 0, .slice none 0 0, .slice z.y.bA z.y.base.length z.y.bc, .int .i64 z.y.t, .slice z.y.oA z.y.ops.length z.y.oc, .slice z.y.uA z.y.us.length z.y.uc, .slice z.y.wA z.y.now.length z.y.wc, .slice z.cA z.l.length z.cc, .int .i64 z.inc, .int .i64 z.mode, .int .i64 z.clock, .int .i64 z.sent, .slice z.pA 0 z.pc, .int .i64 z.late], .int .i64 n]) ∧ z.ok w' ∧ takeD up x.v f.x = (z.v, n) ∧ Below w.heap.size w w'
  frame : ∀ (p : Pnw) (x : Dw) (beat : Int) (w : World) (up : Int), PlD p.p x.node up → DvR x.v → i64 beat → inE.Sl w p.A p.p.u → x.ok w → Calls Tryz.prog 19 #[.agg #[.slice p.A p.p.u.length p.c, .int .i64 p.p.q, .int .i64 p.p.r, .int .i64 p.p.b, .int .i64 p.p.l, .int .i64 p.p.w, .int .i64 p.p.c, .int .i64 p.p.k, .int .i64 p.p.i], .agg #[.int .i64 x.node, .int .i64 x.boot, .int .i64 x.above, .int .i64 x.pos, .int .i64 x.y.t, .int .i64 x.pos, .slice none 0 0, .int .i64 x.q.f, .int .i64 x.q.g, .slice x.qA x.q.os.length x.qc, .slice none 0 0, .slice none 0 0, .slice none 0 0, .slice none 0 0, .slice x.y.bA x.y.base.length x.y.bc, .int .i64 x.y.t, .slice x.y.oA x.y.ops.length x.y.oc, .slice x.y.uA x.y.us.length x.y.uc, .slice x.y.wA x.y.now.length x.y.wc, .slice x.cA x.l.length x.cc, .int .i64 x.inc, .int .i64 x.mode, .int .i64 x.clock, .int .i64 x.sent, .slice x.pA 0 x.pc, .int .i64 x.late], .int .i64 beat] w fun e w' => ∃ f : Fw, e = .returned (.agg #[.int .i64 f.x.a, .int .i64 f.x.b, .int .i64 f.x.boot, .int .i64 f.x.first, .slice f.oA f.x.os.length f.oc, .int .i64 f.x.pos, .slice f.rA f.x.rs.length f.rc, .int .i64 f.x.start, .slice f.eA f.x.es.length f.ec, .int .i64 f.x.ack, .int .i64 f.x.grant, .int .i64 f.x.s, .int .i64 f.x.t, .slice f.gA f.x.gs.length f.gc]) ∧ f.ok w' ∧ f.x = frameD up p.p.b x.v beat ∧ Below w.heap.size w w'
  vector : ∀ (x : Dw) (w : World), DvR x.v → x.ok w → Calls Tryz.prog 14 #[.agg #[.int .i64 x.node, .int .i64 x.boot, .int .i64 x.above, .int .i64 x.pos, .int .i64 x.y.t, .int .i64 x.pos, .slice none 0 0, .int .i64 x.q.f, .int .i64 x.q.g, .slice x.qA x.q.os.length x.qc, .slice none 0 0, .slice none 0 0, .slice none 0 0, .slice none 0 0, .slice x.y.bA x.y.base.length x.y.bc, .int .i64 x.y.t, .slice x.y.oA x.y.ops.length x.y.oc, .slice x.y.uA x.y.us.length x.y.uc, .slice x.y.wA x.y.now.length x.y.wc, .slice x.cA x.l.length x.cc, .int .i64 x.inc, .int .i64 x.mode, .int .i64 x.clock, .int .i64 x.sent, .slice x.pA 0 x.pc, .int .i64 x.late]] w fun e w' => ∃ (A : Option Addr) (c : Nat), e = .returned (.slice A (vectorD x.v).length c) ∧ SlV cnE w' A c (vectorD x.v) ∧ Below w.heap.size w w'
  read : ∀ (x : Dw) (w : World), DvR x.v → x.ok w → Calls Tryz.prog 15 #[.agg #[.int .i64 x.node, .int .i64 x.boot, .int .i64 x.above, .int .i64 x.pos, .int .i64 x.y.t, .int .i64 x.pos, .slice none 0 0, .int .i64 x.q.f, .int .i64 x.q.g, .slice x.qA x.q.os.length x.qc, .slice none 0 0, .slice none 0 0, .slice none 0 0, .slice none 0 0, .slice x.y.bA x.y.base.length x.y.bc, .int .i64 x.y.t, .slice x.y.oA x.y.ops.length x.y.oc, .slice x.y.uA x.y.us.length x.y.uc, .slice x.y.wA x.y.now.length x.y.wc, .slice x.cA x.l.length x.cc, .int .i64 x.inc, .int .i64 x.mode, .int .i64 x.clock, .int .i64 x.sent, .slice x.pA 0 x.pc, .int .i64 x.late]] w fun e w' => ∃ (A : Option Addr) (c : Nat) (l : List Pl) (b : Bool), e = .returned (.tuple #[.slice A l.length c, .bool b]) ∧ SlV seE w' A c l ∧ ((x.mode = 1 ∧ l = showV x.y.now ∧ b = true) ∨ (x.mode ≠ 1 ∧ l = [] ∧ b = false)) ∧ Below w.heap.size w w'
end Go.Proofs.YtdcjffajmckleaaGreatDoor

/- Devices, as values: of an edit, of an entry; the example's states. -/
namespace Go.Proofs.YtdcjffajmckleaaGreatDoor
open Go.RowKit Nam Cod Tre Pst Pln

theorem argD_ok {x : Dv} (h : DvR x) {ids k u : Int} {s : ByteArray} (ha : argD ids k u s = true) (hc : x.clock < 4294967296) (hs : x.sent < 4294967296) : (editO x k u s).ok := by
  have hp : placeB k u s = true := by
    unfold argD at ha
    simp only [Bool.and_eq_true] at ha
    exact ha.2.2
  have h1 := h.clock
  have h2 := h.sent
  have h3 := h.node
  have h4 := h.inc
  show opB (x.clock + 1) x.node x.inc (x.sent + 1) k u s = true
  rw [opB_place (by omega) h3 (by omega) (by omega)]
  exact hp
theorem editD_cases (quota ids : Int) (x : Dv) (k u : Int) (s : ByteArray) :
    ((editD quota ids x k u s).2 ≠ 0 ∧ (editD quota ids x k u s).1 = x) ∨
    (argD ids k u s = true ∧ x.mode = 1 ∧ (ownV x.y x.node x.inc : Int) < quota ∧ (x.q.os.length : Int) < quota ∧ (addV x.y (editO x k u s)).2 = true ∧ editD quota ids x k u s = ({ x with y := (addV x.y (editO x k u s)).1, q := pushQ x.q (editO x k u s), clock := x.clock + 1, sent := x.sent + 1 }, 0)) := by
  unfold editD
  by_cases h1 : argD ids k u s = false
  · rw [if_pos h1]; exact Or.inl ⟨by show (1 : Int) ≠ 0; decide, rfl⟩
  · rw [if_neg h1]
    by_cases h2 : x.mode ≠ 1
    · rw [if_pos h2]; exact Or.inl ⟨by show (4 : Int) ≠ 0; decide, rfl⟩
    · rw [if_neg h2]
      by_cases h3 : quota ≤ (ownV x.y x.node x.inc : Nat) ∨ quota ≤ (x.q.os.length : Nat)
      · rw [if_pos h3]; exact Or.inl ⟨by show (3 : Int) ≠ 0; decide, rfl⟩
      · rw [if_neg h3]
        by_cases h4 : (addV x.y (editO x k u s)).2 = false
        · rw [if_pos h4]; exact Or.inl ⟨by show (5 : Int) ≠ 0; decide, rfl⟩
        · rw [if_neg h4]
          refine Or.inr ⟨by simpa using h1, by omega, by omega, by omega, by simpa using h4, rfl⟩
theorem editD_r {quota ids : Int} {x : Dv} {k u : Int} {s : ByteArray} (h : DvR x) (hq : quota ≤ 50) (hy : x.y.ops.length < 60) (hc : x.clock < 4294967296) (hs : x.sent < 4294967296) : DvR (editD quota ids x k u s).1 := by
  rcases editD_cases quota ids x k u s with ⟨_, e⟩ | ⟨ha, hm, ho, hl, hadd, e⟩
  · rw [e]; exact h
  · rw [e]
    have h1 := h.clock
    have h2 := h.sent
    exact
      { node := h.node
        boot := h.boot
        above := h.above
        pos := h.pos
        qf := h.qf
        qg := h.qg
        ql := by show (x.q.os ++ [editO x k u s]).length ≤ 60; rw [List.length_append, List.length_singleton]; omega
        y := h.y.add (argD_ok h ha hc hs)
        yl := by have := addV_len x.y (editO x k u s); show (addV x.y (editO x k u s)).1.ops.length ≤ 60; omega
        yt := by
          show (addV x.y (editO x k u s)).1.t ≤ 4294967296
          have h3 := h.yt
          unfold addV
          split
          · exact h3
          · split <;> exact h3
        l := h.l
        lw := h.lw
        inc := h.inc
        mode := h.mode
        clock := by show 0 ≤ x.clock + 1 ∧ x.clock + 1 ≤ 4294967296; omega
        sent := by show 0 ≤ x.sent + 1 ∧ x.sent + 1 ≤ 4294967296; omega
        late := h.late }

/-- The example's states. -/
def sA : Dv := (editD 2 16 (newD 1) 2 0 ⟨#[97]⟩).1
def sB : Dv := (editD 2 16 sA 3 2 ⟨#[98]⟩).1
def fE : Fr := ⟨0, 1, 2, 0, 0, 1, 1, 5, 0, 0, [], [], [⟨2, 2, 1, zeroMv⟩], []⟩
def sC : Dv := (takeD 0 sB fE).1
def fF : Fr := ⟨0, 1, 1, 0, 0, 0, 0, 0, 0, 0, [], [], [], []⟩
theorem fE_d : FrD fE where
  n := by
    intro n hn
    simp only [frL, fE, List.mem_cons, List.not_mem_nil, or_false] at hn
    rcases hn with rfl | rfl | rfl | rfl | rfl | rfl | rfl | rfl | rfl | rfl <;> omega
  es := by
    intro e he
    have he : e ∈ [(⟨2, 2, 1, zeroMv⟩ : En)] := he
    rw [List.mem_singleton] at he
    subst he
    exact ⟨by kernel_rfl, by show (0 : Int) ≤ 4294967296; omega, by show 0 ≤ 1000; omega⟩
  l := ⟨by show 0 ≤ 64; omega, by show 0 ≤ 8; omega, by show 1 ≤ 64; omega⟩
  gs := rfl
theorem fF_d : FrD fF where
  n := by
    intro n hn
    simp only [frL, fF, List.mem_cons, List.not_mem_nil, or_false] at hn
    rcases hn with rfl | rfl | rfl | rfl | rfl | rfl | rfl | rfl | rfl | rfl <;> omega
  es := by intro e he; cases he
  l := ⟨by show 0 ≤ 64; omega, by show 0 ≤ 8; omega, by show 0 ≤ 64; omega⟩
  gs := rfl
theorem sA_is : editD 2 16 (newD 1) 2 0 ⟨#[97]⟩ = (sA, 0) := Prod.ext rfl (by kernel_rfl)
theorem sB_is : editD 2 16 sA 3 2 ⟨#[98]⟩ = (sB, 0) := Prod.ext rfl (by kernel_rfl)
theorem sB_busy : (editD 2 16 sB 4 0 ⟨#[99]⟩).2 = 3 := by kernel_rfl
theorem sB_arg : (editD 2 16 sB 4 4 ⟨#[99]⟩).2 = 1 := by kernel_rfl
theorem sC_is : takeD 0 sB fE = (sC, 0) := Prod.ext rfl (by kernel_rfl)
theorem sC_stale : (takeD 0 sC fF).2 = 7 := by kernel_rfl
theorem sC_shown : (showV sC.y.now).length = 2 := by kernel_rfl
theorem sC_mode : sC.mode = 1 := by kernel_rfl
theorem sC_frame : (frameD 0 2 sC 7).first = 2 ∧ (frameD 0 2 sC 7).os.length = 1 ∧ (frameD 0 2 sC 7).pos = 1 := ⟨by kernel_rfl, by kernel_rfl, by kernel_rfl⟩
theorem sC_vector : (vectorD sC).length = 1 := by kernel_rfl
theorem sC_away : (editD 2 16 (leaveD sC) 4 0 ⟨#[99]⟩).2 = 4 := by kernel_rfl
theorem sC_left : (leaveD sC).inc = 2 ∧ (leaveD sC).mode = 2 := ⟨by kernel_rfl, by kernel_rfl⟩
theorem sA_r : DvR sA := editD_r (newD_r (by omega)) (by omega) (by show 0 < 60; omega) (by show (0 : Int) < 4294967296; omega) (by show (0 : Int) < 4294967296; omega)
theorem sB_r : DvR sB := editD_r sA_r (by omega) (by rw [show sA.y.ops.length = 1 from by kernel_rfl]; omega) (by rw [show sA.clock = 1 from by kernel_rfl]; omega) (by rw [show sA.sent = 1 from by kernel_rfl]; omega)
theorem sC_r : DvR sC where
  node := by rw [show sC.node = 1 from by kernel_rfl]; omega
  boot := by rw [show sC.boot = 1 from by kernel_rfl]; omega
  above := by rw [show sC.above = 2 from by kernel_rfl]; omega
  pos := by rw [show sC.pos = 1 from by kernel_rfl]; omega
  qf := by rw [show sC.q.f = 2 from by kernel_rfl]; omega
  qg := by rw [show sC.q.g = 5 from by kernel_rfl]; omega
  ql := by rw [show sC.q.os.length = 1 from by kernel_rfl]; omega
  y := by
    have e : sC.y = sB.y := by kernel_rfl
    rw [e]; exact sB_r.y
  yl := by rw [show sC.y.ops.length = 2 from by kernel_rfl]; omega
  yt := by rw [show sC.y.t = 0 from by kernel_rfl]; omega
  l := by rw [show sC.l = [] from by kernel_rfl]; exact ⟨Nat.zero_le _, List.Pairwise.nil⟩
  lw := by rw [show sC.l = [] from by kernel_rfl]; intro c h; cases h
  inc := by rw [show sC.inc = 1 from by kernel_rfl]; omega
  mode := Or.inl sC_mode
  clock := by rw [show sC.clock = 2 from by kernel_rfl]; omega
  sent := by rw [show sC.sent = 2 from by kernel_rfl]; omega
  late := by rw [show sC.late = 0 from by kernel_rfl]; omega
end Go.Proofs.YtdcjffajmckleaaGreatDoor

/- Devices, as values: behind edits; leaving. -/
namespace Go.Proofs.YtdcjffajmckleaaGreatDoor
open Go.RowKit Nam Cod Tre Pst Pln

theorem Dv.same {x z : Dv} (h0 : x.node = z.node) (h1 : x.boot = z.boot) (h2 : x.above = z.above) (h3 : x.pos = z.pos) (h4 : x.q = z.q) (h5 : x.y = z.y) (h6 : x.l = z.l) (h7 : x.inc = z.inc) (h8 : x.mode = z.mode) (h9 : x.clock = z.clock) (h10 : x.sent = z.sent) (h11 : x.late = z.late) : x = z := by
  cases x; cases z
  simp_all
/-- Behind k edits, and nothing else. -/
structure EdI (x : Dv) (k : Nat) : Prop where
  r : DvR x
  node : x.node = 1
  mode : x.mode = 1
  inc : x.inc = 1
  pos : x.pos = 0
  above : x.above = 0
  yt : x.y.t = 0
  qf : x.q.f = 1
  qg : x.q.g = 0
  l : x.l = []
  clock : x.clock ≤ k
  sent : x.sent ≤ k
  ops : x.y.ops.length ≤ k
  late : x.late = 0
theorem EdI.new : EdI (newD 1) 0 where
  r := newD_r (by omega)
  node := rfl
  mode := rfl
  inc := rfl
  pos := rfl
  above := rfl
  yt := rfl
  qf := rfl
  qg := rfl
  l := rfl
  clock := Int.le_refl _
  sent := Int.le_refl _
  ops := Nat.le_refl _
  late := rfl
theorem EdI.next {x : Dv} {k : Nat} (h : EdI x k) (hk : k < 50) {quota : Int} (hq : quota ≤ 50) (n u : Int) (s : ByteArray) : EdI (editD quota 16 x n u s).1 (k + 1) := by
  have hc := h.clock
  have hs := h.sent
  have ho := h.ops
  have hr := editD_r (ids := 16) (k := n) (u := u) (s := s) h.r hq (by omega) (by omega) (by omega)
  rcases editD_cases quota 16 x n u s with ⟨_, e⟩ | ⟨_, _, _, _, _, e⟩
  · rw [e]
    exact { r := h.r, node := h.node, mode := h.mode, inc := h.inc, pos := h.pos, above := h.above, yt := h.yt, qf := h.qf, qg := h.qg, l := h.l, clock := by omega, sent := by omega, ops := by omega, late := h.late }
  · rw [e] at hr ⊢
    exact
      { r := hr
        node := h.node
        mode := h.mode
        inc := h.inc
        pos := h.pos
        above := h.above
        yt := by
          show (addV x.y (editO x n u s)).1.t = 0
          have h3 := h.yt
          unfold addV
          split
          · exact h3
          · split <;> exact h3
        qf := h.qf
        qg := h.qg
        l := h.l
        clock := by show x.clock + 1 ≤ ((k + 1 : Nat) : Int); omega
        sent := by show x.sent + 1 ≤ ((k + 1 : Nat) : Int); omega
        ops := by have := addV_len x.y (editO x n u s); show (addV x.y (editO x n u s)).1.ops.length ≤ k + 1; omega
        late := h.late }
end Go.Proofs.YtdcjffajmckleaaGreatDoor

/- Devices, as values: a life that follows. -/
namespace Go.Proofs.YtdcjffajmckleaaGreatDoor
open Go.RowKit Nam Cod Tre Pst Pln

/-- The operation that the law makes of another one. -/
def foM (m : Mv) (i : Nat) : Mv := ⟨1 + (i : Int), 2, 1, 1 + (i : Int), m.K, m.U, m.s⟩
/-- The law's operations. -/
structure FoL (ms : List Mv) : Prop where
  len : ms.length ≤ 30
  at' : ∀ i (h : i < ms.length), ms[i].C = 1 + (i : Int) ∧ ms[i].D = 2 ∧ ms[i].I = 1 ∧ ms[i].M = 1 + (i : Int)
  ok : ∀ m ∈ ms, m.ok
def foP (ms : List Mv) : Pv := ms.foldl (fun q m => (addV q m).1) Pv.zero
theorem foP_next (ms : List Mv) (m : Mv) : foP (ms ++ [m]) = (addV (foP ms) m).1 := by
  unfold foP
  rw [List.foldl_append]; rfl
theorem FoL.take {ms : List Mv} (h : FoL ms) (k : Nat) : FoL (ms.take k) where
  len := by have := h.len; rw [List.length_take]; omega
  at' i hi := by rw [List.getElem_take]; exact h.at' i (by rw [List.length_take] at hi; omega)
  ok m hm := h.ok m (List.mem_of_mem_take hm)
/-- Behind k of them. -/
theorem foP_ops {ms : List Mv} (h : FoL ms) (k : Nat) (hk : k ≤ ms.length) : (foP (ms.take k)).ops = ms.take k ∧ (foP (ms.take k)).t = 0 ∧ PInv (foP (ms.take k)) := by
  induction k with
  | zero => exact ⟨rfl, rfl, PInv.zero⟩
  | succ k ih =>
    obtain ⟨i1, i2, i3⟩ := ih (by omega)
    rw [List.take_succ_eq_append_getElem (by omega : k < ms.length), foP_next]
    have hC : ms[k].C = 1 + (k : Int) := (h.at' k (by omega)).1
    have ha := addV_last (q := foP (ms.take k)) (m := ms[k]) (by rw [i2, hC]; omega) (fun o ho => by
      rw [i1] at ho
      obtain ⟨j, hj, rfl⟩ := List.getElem_of_mem ho
      rw [List.length_take] at hj
      rw [List.getElem_take, (h.at' j (by omega)).1, hC]; omega)
    exact ⟨by rw [ha.2.1, i1], by rw [ha.2.2, i2], i3.add (h.ok _ (List.getElem_mem _))⟩
theorem foP_adds {ms : List Mv} (h : FoL ms) {k : Nat} (hk : k < ms.length) : (addV (foP (ms.take k)) ms[k]).2 = true ∧ (addV (foP (ms.take k)) ms[k]).1 = foP (ms.take (k + 1)) := by
  obtain ⟨i1, i2, i3⟩ := foP_ops h k (by omega)
  have hC : ms[k].C = 1 + (k : Int) := (h.at' k (by omega)).1
  refine ⟨(addV_last (by rw [i2, hC]; omega) (fun o ho => ?_)).1, by rw [List.take_succ_eq_append_getElem hk, foP_next]⟩
  rw [i1] at ho
  obtain ⟨j, hj, rfl⟩ := List.getElem_of_mem ho
  rw [List.length_take] at hj
  rw [List.getElem_take, (h.at' j (by omega)).1, hC]; omega
/-- The life behind k entries. -/
def foC (k : Nat) : List Cn := match k with | 0 => [] | k + 1 => [⟨2, 1, (k : Int) + 1⟩]
def foD (ms : List Mv) (k : Nat) : Dv := { newD 1 with pos := k, y := foP (ms.take k), l := foC k, clock := k }
def foE (m : Mv) : En := ⟨1, 0, 0, m⟩
theorem foC_next (k : Nat) (m : Mv) (hD : m.D = 2) (hI : m.I = 1) (hM : m.M = 1 + (k : Int)) : tally (foC k) (foE m) = foC (k + 1) := by
  obtain ⟨C, D, I, M, K, U, s⟩ := m
  simp only at hD hI hM
  subst hD hI hM
  cases k with
  | zero => rfl
  | succ k =>
    show putC [⟨2, 1, (k : Int) + 1⟩] ⟨2, 1, 1 + ((k + 1 : Nat) : Int)⟩ = [⟨2, 1, ((k + 1 : Nat) : Int) + 1⟩]
    rw [show (1 : Int) + ((k + 1 : Nat) : Int) = ((k + 1 : Nat) : Int) + 1 from by omega]
    rfl
theorem foD_follow {ms : List Mv} (h : FoL ms) {k : Nat} (hk : k < ms.length) : followD (foD ms k) (foE ms[k]) = foD ms (k + 1) := by
  obtain ⟨hC, hD, hI, hM⟩ := h.at' k hk
  obtain ⟨a1, a2⟩ := foP_adds h hk
  unfold followD
  rw [if_neg (fun e => by have : (1 : Int) = 2 := e.1; omega), if_neg (fun e => e rfl), if_neg (fun e => by have e1 : ms[k].D = 1 := e.1; rw [hD] at e1; omega)]
  refine Dv.same rfl rfl rfl ?_ rfl ?_ ?_ rfl rfl ?_ rfl ?_
  · show (k : Int) + 1 = ((k + 1 : Nat) : Int); omega
  · exact a2
  · exact foC_next k _ hD hI hM
  · show max (k : Int) ms[k].C = ((k + 1 : Nat) : Int); rw [hC]; omega
  · show (if (addV (foP (ms.take k)) ms[k]).2 = true then (0 : Int) else 0 + 1) = 0
    rw [if_pos a1]
theorem foD_go {ms : List Mv} (h : FoL ms) : ∀ (L : List En) (p a : Nat), a ≤ p → p ≤ ms.length → a + L.length ≤ ms.length → (∀ j (hj : j < L.length) (hm : a + j < ms.length), L[j] = foE ms[a + j]) →
    goD (foD ms p) ((a : Int) + 1) L = foD ms (max p (a + L.length))
  | [], p, a, hap, _, _, _ => by
    show foD ms p = _
    rw [List.length_nil, Nat.add_zero, Nat.max_eq_left hap]
  | e :: L, p, a, hap, hp, hl, he => by
    rw [List.length_cons] at hl
    have he0 : e = foE ms[a] := he 0 (by rw [List.length_cons]; omega) (by omega)
    have hrest : ∀ j (hj : j < L.length) (hm : a + 1 + j < ms.length), L[j] = foE ms[a + 1 + j] := fun j hj hm => by
      have h2 := he (j + 1) (by rw [List.length_cons]; omega) (by omega)
      rw [List.getElem_cons_succ] at h2
      rw [h2]
      simp only [show a + (j + 1) = a + 1 + j from by omega]
    show goD (if (foD ms p).mode = 1 ∧ (a : Int) + 1 = (foD ms p).pos + 1 then followD (foD ms p) e else foD ms p) ((a : Int) + 1 + 1) L = _
    rw [show (a : Int) + 1 + 1 = ((a + 1 : Nat) : Int) + 1 from by omega, List.length_cons]
    rcases Nat.lt_or_ge a p with hlt | hge
    · rw [if_neg (fun e => by have e2 : (a : Int) + 1 = (p : Int) + 1 := e.2; omega), foD_go h L p (a + 1) (by omega) hp (by omega) hrest]
      rw [show a + 1 + L.length = a + (L.length + 1) from by omega]
    · obtain rfl : a = p := by omega
      rw [if_pos ⟨rfl, rfl⟩, he0, foD_follow h (by omega), foD_go h L (a + 1) (a + 1) (Nat.le_refl _) (by omega) (by omega) hrest]
      rw [show a + 1 + L.length = a + (L.length + 1) from by omega, Nat.max_eq_right (by omega), Nat.max_eq_right (by omega)]
/-- What the law's frame holds. -/
def foF (a : Nat) (L : List En) : Fr := ⟨0, 1, 0, 0, 0, (a : Int) + 1, 0, 0, 0, 0, [], [], L, []⟩
theorem foD_take {ms : List Mv} (h : FoL ms) (L : List En) (p a : Nat) (hap : a ≤ p) (hp : p ≤ ms.length) (hl : a + L.length ≤ ms.length) (he : ∀ j (hj : j < L.length) (hm : a + j < ms.length), L[j] = foE ms[a + j]) :
    takeD 0 (foD ms p) (foF a L) = (foD ms (max p (a + L.length)), 0) := by
  unfold takeD
  rw [if_neg (fun e => e ⟨rfl, rfl⟩), if_neg (by show ¬ (0 : Int) < 0; omega)]
  dsimp only
  rw [if_neg (by show ¬ (1 : Int) ≠ 1; omega), if_neg (by show ¬ (p : Int) < 0; omega), ← foD_go h L p a hap hp hl he]
  have hs : settleV (foP (ms.take p)) 0 = foP (ms.take p) := settleV_late' (by rw [(foP_ops h p hp).2.1]; exact Int.le_refl _)
  refine Prod.ext (congrArg (fun x => goD x ((a : Int) + 1) L) ?_) rfl
  refine Dv.same rfl rfl rfl rfl rfl hs rfl rfl rfl ?_ rfl rfl
  show max (p : Int) (settleV (foP (ms.take p)) 0).t = p
  rw [hs, (foP_ops h p hp).2.1]; omega
theorem foD_vector (ms : List Mv) (k : Nat) : vectorD (foD ms k) = foC k := rfl
theorem foD_r {ms : List Mv} (h : FoL ms) {k : Nat} (hk : k ≤ ms.length) : DvR (foD ms k) := by
  have hlen := h.len
  obtain ⟨i1, i2, i3⟩ := foP_ops h k hk
  exact
    { node := by show (0 : Int) ≤ 1 ∧ (1 : Int) < 12; omega
      boot := by show (0 : Int) ≤ 1 ∧ (1 : Int) ≤ 1099511627776; omega
      above := by show (0 : Int) ≤ 0 ∧ (0 : Int) ≤ 1099511627776; omega
      pos := by show (0 : Int) ≤ (k : Int) ∧ (k : Int) ≤ 4294967296; omega
      qf := (newD_r (n := 1) (by omega)).qf
      qg := (newD_r (n := 1) (by omega)).qg
      ql := Nat.zero_le _
      y := i3
      yl := by show (foP (ms.take k)).ops.length ≤ 60; rw [i1, List.length_take]; omega
      yt := by show (foP (ms.take k)).t ≤ 4294967296; rw [i2]; omega
      l := by
        cases k with
        | zero => exact ⟨Nat.zero_le _, List.Pairwise.nil⟩
        | succ k => exact ⟨by show 1 ≤ 12; omega, List.pairwise_singleton _ _⟩
      lw := fun c hc => by
        cases k with
        | zero => cases hc
        | succ k =>
          have hc : c ∈ [(⟨2, 1, (k : Int) + 1⟩ : Cn)] := hc
          rw [List.mem_singleton] at hc
          subst hc
          refine ⟨⟨?_, ?_⟩, ⟨?_, ?_⟩, ?_, ?_⟩ <;> dsimp only <;> omega
      inc := by show (1 : Int) ≤ 1 ∧ (1 : Int) ≤ 4294967296; omega
      mode := Or.inl rfl
      clock := by show (0 : Int) ≤ (k : Int) ∧ (k : Int) ≤ 4294967296; omega
      sent := by show (0 : Int) ≤ 0 ∧ (0 : Int) ≤ 4294967296; omega
      late := by show (0 : Int) ≤ 0 ∧ (0 : Int) ≤ 4294967296; omega }
end Go.Proofs.YtdcjffajmckleaaGreatDoor
