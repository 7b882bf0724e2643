/- Texts laid one behind the other: Yt, Yu, Sht, Yq, Yh, Rz, La, Lb, Yp. -/
import Derived.Test.YtdcjffajmckleaaGreatDoorE07
import Derived.Shelf.Strings.Builder1
import Derived.Shelf.Strconv.Itoa0
import Derived.Shelf.Strconv.Itoa1
import Derived.Shelf.LaysM
import Derived.Shelf.Strconv.Itoa2
import Derived.Shelf.Strconv.Itoa3
import Derived.Test.YtdcjffajmckleaaGreatDoorProg
import Derived.Deep.CutRange
import Derived.Test.YtdcjffajmckleaaGreatDoorTie
import Derived.Test.YtdcjffajmckleaaGreatDoorCards
import Derived.LaidMore
import Derived.Stop.Joined
import Derived.Stop.LaidErr
import Derived.SevenTiedAt
/- What is right below a node, of the program: below. -/
namespace Go.Proofs.YtdcjffajmckleaaGreatDoor
open Go.RowKit Tre Cod Nam Go.Maps

set_option maxRecDepth 100000 in
set_option maxHeartbeats 4000000 in
theorem below_any (HTW : TwinOk) (A : Option Addr) (c : Nat) (t : List Pl) (a : Int) (w : World) (ht : TreeP t) (hl : t.length ≤ 100) (hT : plE.Sl w A t) :
    Calls Tryz.prog 101 #[.slice A t.length c, .int .i64 a] w fun e w' => ∃ A' c', e = .returned (.slice A' (kidsV t a).length c') ∧ SlV seE w' A' c' (kidsV t a) ∧ Frs w.heap.size A' ∧ Below w.heap.size w w' := by
  have hmm := @run_makeMap Tryz.prog
  have hM0 : OwnersAt (w.alloc (.map #[] 0)) w.heap.size 0 [] := OwnersAt.made w
  have hB0 := below_alloc (Below.refl w.heap.size w) (.map #[] 0)
  go_enter Tryz.func101, Tryz.ntmps101
  go_wp2_with fail
  generalize w.alloc (.map #[] 0) = W0 at *
  go_loopw [6, 12] (fun x y wr => ∃ (k : Nat) (v1 : Value), k ≤ t.length ∧ y = .int .i64 k ∧ x = v1 ∧ seE.Own wr w.heap.size v1 (kidsK t a k) ∧ OwnersAt wr w.heap.size k (sibsK t a k) ∧ Below w.heap.size w wr) (fun _ y _ => t.length - (intOf y).toNat)
  case atStart => exact ⟨0, _, Nat.zero_le _, rfl, rfl, El.Own.nil W0 w.heap.size, hM0, hB0⟩
  case round =>
    clear hM0 hB0 hmm
    obtain ⟨k, v1, hk, rfl, rfl, hO, hM, hB⟩ := hrel
    by_cases hkl : k < t.length
    · obtain ⟨b, off, hA, hbw, hc⟩ := hT (by omega)
      have hat : plE.At wr b (off + k * 3) t[k] := (hc k hkl).below hB hbw
      have hpt : t[k] ∈ t := List.getElem_mem _
      have hy := fun (h : t[k].u = a) => kidsK_yes (a := a) hkl (rfl : t[k] = t[k]) h
      have hno := fun (h : ¬ t[k].u = a) => kidsK_no (a := a) hkl (rfl : t[k] = t[k]) h
      have sy := fun (h : t[k].u = a) => sibsK_yes (a := a) hkl (rfl : t[k] = t[k]) h
      have sno := fun (h : ¬ t[k].u = a) => sibsK_no (a := a) hkl (rfl : t[k] = t[k]) h
      have hfs := fun (h : t[k].u = a) => first_sibs ht.s (a := a) hkl (rfl : t[k] = t[k]) h
      have hah := fun q => sibsK_ahead ht.s (a := a) (q := q) hkl (rfl : t[k] = t[k])
      have hlb := kidsK_le t a k
      obtain ⟨p, hp⟩ : ∃ p, t[k] = p := ⟨_, rfl⟩
      rw [hp] at hat hpt hy hno sy sno hfs hah
      have HY := Lib.hid hy
      have HNO := Lib.hid hno
      have SY := Lib.hid sy
      have SNO := Lib.hid sno
      have HFS := Lib.hid hfs
      have HAH := Lib.hid hah
      have HLB := Lib.hid hlb
      obtain ⟨n1, n2, _, _, n5⟩ := ht.node hpt
      have hps := isName_len n5
      rw [L_len] at hps
      have hbr := Nat.lt_of_lt_of_le hbw hB.size
      clear hp hc hy hno n5 hpt sy sno hfs hah hlb
      subst hA
      have hz0 : plE.In (wr.alloc (.cells #[.int .i64 0, .int .i64 0, .string ⟨#[]⟩] 50)) wr.heap.size zero := El.In.new (E := plE) wr zero #[.int .i64 0, .int .i64 0, .string ⟨#[]⟩] rfl
      have hP := hz0.set p #[.int .i64 p.n, .int .i64 p.u, .string p.s] rfl
      have hbz : Below wr.heap.size wr ((wr.alloc (.cells #[.int .i64 0, .int .i64 0, .string ⟨#[]⟩] 50)).setRow wr.heap.size #[.int .i64 p.n, .int .i64 p.u, .string p.s]) := below_setRow (below_alloc (Below.refl _ _) _) (Nat.le_refl _) _
      obtain ⟨p0, p1, p2⟩ := plIn3 hP
      by_cases e : p.u = a
      · have HQ := Lib.hid (HY.out e)
        have SQ := Lib.hid (SY.out e)
        have HSE := Lib.hid (show seen t p = ⟨p.n, a, nameOf t p⟩ from by unfold seen; rw [e])
        have he1 : (p.u == a) = true := by rw [e]; exact beq_self_eq_true _
        have HSH := Lib.hid (fun (wx : World) (h : OwnersAt wx w.heap.size k (sibsK t a k)) => (by
          have h2 := shown_any HTW wx w.heap.size k (sibsK t a k) p (firstB t p) h (by omega) ⟨by omega, n2⟩ (by omega) HAH.out (HFS.out e)
          rw [← SQ.out] at h2
          exact h2 : Calls Tryz.prog 120 #[.map (some w.heap.size), .agg #[.int .i64 p.n, .int .i64 p.u, .string p.s]] wx fun e w' => e = .returned (.string (nameOf t p)) ∧ OwnersAt w' w.heap.size (k + 1) (sibsK t a (k + 1)) ∧ wx.grownBy w' (some w.heap.size)))
        have HTT := Lib.hid hT
        clear e SY SNO HY HNO HAH HFS hT
        go_wp2_with (first | (refine El.load plRow rfl _ rfl b (off + k * 3) rfl p hat #[.int .i64 p.n, .int .i64 p.u, .string p.s] rfl ?_) | (refine El.store plRow rfl _ _ rfl wr.heap.size p #[.int .i64 p.n, .int .i64 p.u, .string p.s] rfl rfl rfl zero hz0 ?_) | fail)
        have hN7 : w.heap.size < wr.heap.size := hM.lt
        have HN7 := Lib.hid (fun j e => (hO.lt j e).2)
        replace hO := hO.below hbz
        replace hM := hM.below hbz
        replace hB := hB.trans (hbz.mono hB.size)
        clear hbz hz0 hat p0 p1 p2
        generalize (wr.alloc (.cells #[.int .i64 0, .int .i64 0, .string ⟨#[]⟩] 50)).setRow wr.heap.size #[.int .i64 p.n, .int .i64 p.u, .string p.s] = W1 at *
        generalize wr.heap.size = n7 at *
        generalize nameOf t p = N at *
        refine region_anyG (S := PlS n7 p) 10 (by kernel_rfl) ?_
        replace hP : plE.In W1.drew n7 p := hP
        replace hO : seE.Own W1.drew w.heap.size u6 (kidsK t a k) := hO.below (Below.refl _ _).drew
        replace hM : OwnersAt W1.drew w.heap.size k (sibsK t a k) := hM.below (Below.refl _ _).drew
        replace hB := hB.drew
        generalize W1.drew = V at *
        have hS : PlS n7 p V := plIn3 hP
        refine anyG_take (i := 0) (v := u6) rfl (by kernel_rfl) (by kernel_rfl) (by kernel_rfl) (by kernel_rfl) (by kernel_rfl) (fun _ _ _ h => h) (Or.inl ⟨by rfl, fun w' hSw => by (obtain ⟨s0, s1, s2⟩ := hSw; go_simp)⟩) hS ?_
        try simp only [Act.put, List.setIfInBounds_toArray, List.set_cons_zero, List.set_cons_succ]
        refine anyG_take (i := 1) (v := .pointer (some ⟨n7, 0, none⟩)) rfl (by kernel_rfl) (by kernel_rfl) (by kernel_rfl) (by kernel_rfl) (by kernel_rfl) (fun _ _ _ h => h) (Or.inl ⟨by rfl, fun w' hSw => by (obtain ⟨s0, s1, s2⟩ := hSw; go_simp)⟩) hS ?_
        try simp only [Act.put, List.setIfInBounds_toArray, List.set_cons_zero, List.set_cons_succ]
        refine anyG_take (i := 2) (v := .int .i64 p.n) rfl (by kernel_rfl) (by kernel_rfl) (by kernel_rfl) (by kernel_rfl) (by kernel_rfl) (fun _ _ _ h => h) (Or.inl ⟨by rfl, fun w' hSw => by (obtain ⟨s0, s1, s2⟩ := hSw; go_simp)⟩) hS ?_
        try simp only [Act.put, List.setIfInBounds_toArray, List.set_cons_zero, List.set_cons_succ]
        refine anyG_take (i := 3) (v := .int .i64 a) rfl (by kernel_rfl) (by kernel_rfl) (by kernel_rfl) (by kernel_rfl) (by kernel_rfl) (fun _ _ _ h => h) (Or.inl ⟨by rfl, fun w' hSw => by (obtain ⟨s0, s1, s2⟩ := hSw; go_simp)⟩) hS ?_
        try simp only [Act.put, List.setIfInBounds_toArray, List.set_cons_zero, List.set_cons_succ]
        refine anyG_take (i := 4) (v := .map (some w.heap.size)) rfl (by kernel_rfl) (by kernel_rfl) (by kernel_rfl) (by kernel_rfl) (by kernel_rfl) (fun _ _ _ h => h) (Or.inl ⟨by rfl, fun w' hSw => by (obtain ⟨s0, s1, s2⟩ := hSw; go_simp)⟩) hS ?_
        try simp only [Act.put, List.setIfInBounds_toArray, List.set_cons_zero, List.set_cons_succ]
        refine anyG_take (i := 5) (v := .agg #[.int .i64 p.n, .int .i64 p.u, .string p.s]) rfl (by kernel_rfl) (by kernel_rfl) (by kernel_rfl) (by kernel_rfl) (by kernel_rfl) (fun _ _ _ h => h) (Or.inl ⟨by rfl, fun w' hSw => by (obtain ⟨s0, s1, s2⟩ := hSw; go_simp)⟩) hS ?_
        try simp only [Act.put, List.setIfInBounds_toArray, List.set_cons_zero, List.set_cons_succ]
        refine anyG_step (rs := [6]) (by kernel_rfl) (by simp) ?_
        refine AllG.cons rfl (fun K hK => ?_) AllG.nil
        go_simp
        refine (HSH.out V hM).mono ?_
        rintro e W3 ⟨rfl, hM3, hg3⟩
        have hoff := hM.off hO
        have hO3 := hO.kept hg3 (by
          cases hv : u6.ownBlock with
          | none => exact Or.inl rfl
          | some j => exact Or.inr (fun e => hoff j hv (Option.some.inj e)))
        have hP3 := hP.keep hg3 (fun e => by have := Option.some.inj e; omega)
        have hB3 := hB.grown hg3 hB.size (fun k e => by have := Option.some.inj e; omega)
        clear hO hP hB hM hg3 hS
        have hS : PlS n7 p W3 := plIn3 hP3
        try go_wp2_with fail
        refine hK.out _ _ hS ?_
        try simp only [Act.put, List.setIfInBounds_toArray, List.set_cons_zero, List.set_cons_succ]
        clear hK
        refine anyG_take (i := 7) (v := .agg #[.int .i64 p.n, .int .i64 a, .string N]) rfl (by kernel_rfl) (by kernel_rfl) (by kernel_rfl) (by kernel_rfl) (by kernel_rfl) (fun _ _ _ h => h) (Or.inl ⟨by rfl, fun w' hSw => by (obtain ⟨s0, s1, s2⟩ := hSw; go_simp)⟩) hS ?_
        try simp only [Act.put, List.setIfInBounds_toArray, List.set_cons_zero, List.set_cons_succ]
        refine anyG_step (rs := [8]) (by kernel_rfl) (by simp) ?_
        refine AllG.cons rfl (fun K hK => ?_) AllG.nil
        have hal := below_alloc (Below.refl W3.heap.size W3) (.cells #[.int .i64 p.n, .int .i64 a, .string N] 102)
        have hEl : seE.Sl (W3.alloc (.cells #[.int .i64 p.n, .int .i64 a, .string N] 102)) (some ⟨W3.heap.size, 0, none⟩) [seen t p] := (El.In.new (E := seE) W3 (seen t p) _ (by rw [HSE.out]; rfl)).sl
        replace hO3 := hO3.below hal
        replace hP3 := hP3.below hal
        replace hM3 := hM3.below hal
        replace hB3 := hB3.trans (hal.mono hB3.size)
        clear hS hal
        have hS : PlS n7 p _ := plIn3 hP3
        go_simp
        refine hK.out _ _ hS ?_
        try simp only [Act.put, List.setIfInBounds_toArray, List.set_cons_zero, List.set_cons_succ]
        clear hK hS
        generalize W3.alloc (.cells #[.int .i64 p.n, .int .i64 a, .string N] 102) = V1 at *
        generalize W3.heap.size = n8 at *
        refine anyG_step (rs := [9]) (by kernel_rfl) (by simp) ?_
        refine AllG.cons rfl (fun K hK => ?_) AllG.nil
        refine El.step_app seInn rfl (.tmp 20) (.tmp 28) rfl w.heap.size u6 (kidsK t a k) [seen t p] rfl hO3 (some ⟨n8, 0, none⟩) 1 1 rfl rfl hEl (fun e => by cases e) (by have := HLB.out; rw [List.length_singleton]; omega) hB3.size ?_
        intro v2 W4 hO4 hg4 hat4
        have hP4 := hP3.keep hg4 (fun e => by have := HN7.out n7 e.symm; omega)
        have hB4 := hB3.grown hg4 hB3.size (fun k e => (hO3.lt k e).1)
        have hM4 := hM3.kept hg4 (fun e => hoff w.heap.size e.symm rfl)
        clear hO3 hP3 hB3 hM3 hEl hg4 hat4
        refine hK.out _ _ (plIn3 hP4 : PlS n7 p W4) ?_
        try simp only [Act.put, List.setIfInBounds_toArray, List.set_cons_zero, List.set_cons_succ]
        clear hK
        refine anyG_step (rs := [10]) (by kernel_rfl) (by simp) ?_
        refine AllG.last (n := 10) rfl (fun K hK => ?_)
        go_simp
        refine hK.out _ _ ?_
        try simp only [Act.put, List.setIfInBounds_toArray, List.set_cons_zero, List.set_cons_succ]
        clear hK
        refine anyG_done (by kernel_rfl) ?_ _
        go_wp2_with fail
        exact ⟨⟨k + 1, v2, by omega, by go_num, rfl, by rw [HQ.out]; exact hO4, hM4, hB4⟩, by simp [intOf]; omega⟩
      · have HQ := Lib.hid (HNO.out e)
        have SQ := Lib.hid (SNO.out e)
        have he1 : (p.u == a) = false := beq_eq_false_iff_ne.2 e
        have HM := Lib.hid (hM.below hbz)
        have HO := Lib.hid (hO.below hbz)
        have HB := Lib.hid (hB.trans (hbz.mono hB.size))
        clear hM hO hB SY SNO HY HNO HAH HFS
        go_wp2_with (first | (refine El.load plRow rfl _ rfl b (off + k * 3) rfl p hat #[.int .i64 p.n, .int .i64 p.u, .string p.s] rfl ?_) | (refine El.store plRow rfl _ _ rfl wr.heap.size p #[.int .i64 p.n, .int .i64 p.u, .string p.s] rfl rfl rfl zero hz0 ?_) | fail)
        exact ⟨⟨k + 1, _, by omega, by go_num, rfl, by rw [HQ.out]; exact HO.out, by rw [SQ.out]; exact HM.out.mono (Nat.le_succ k), HB.out⟩, by simp [intOf]; omega⟩
    · obtain rfl : k = t.length := by omega
      rw [kidsK_all] at hO
      obtain ⟨A', c', rfl, hS⟩ := SlV.own hO
      have hfr := hO.frs
      clear hO hM
      go_wp2_with fail
      go_ret
      exact ⟨A', c', rfl, hS, hfr, hB⟩
end Go.Proofs.YtdcjffajmckleaaGreatDoor

/- What is shown, of the program: lay, tell. -/
namespace Go.Proofs.YtdcjffajmckleaaGreatDoor
open Go.RowKit Tre Cod Nam

theorem grown_trans {w w1 w2 : World} {r r1 : Option Nat} (h : w.grownBy w1 r) (k : w1.grownBy w2 r1) (hr : ∀ j, r1 = some j → j < w.heap.size → r = some j) : w.grownBy w2 r :=
  ⟨k.os.trans h.os, k.tape.trans h.tape, k.output.trans h.output, Nat.le_trans h.size k.size, fun i hi hne => (k.block i (Nat.lt_of_lt_of_le hi h.size) (fun e => hne (hr i e.symm hi).symm)).trans (h.block i hi hne)⟩
def lenOf : Value → Nat
  | .slice _ n _ => n
  | _ => 0
section
variable {α : Type} {E : El α} {w : World} {B : Nat} {v : Value} {l : List α}
theorem El.Own.lenOf (h : E.Own w B v l) : lenOf v = l.length := by
  obtain ⟨A, c, e, _⟩ := h.sl
  rw [e]; rfl
/-- A row of the call's own, cut at its end. -/
theorem El.Own.take {A : Option Addr} {n c m : Nat} (h : E.Own w B (.slice A n c) l) (hm : m ≤ l.length) : E.Own w B (.slice A m c) (l.take m) := by
  unfold El.Own at h ⊢
  have hl : (l.take m).length = m := by rw [List.length_take]; omega
  refine ⟨by rw [El.cells_len], ?_⟩
  rcases h.2 with ⟨e, h0⟩ | ⟨g, cap, cur, e, hb, hg, hnc, hcm, hcs, htk⟩
  · left
    injection e with e1 e2 e3
    subst e1 e3
    have : m = 0 := by omega
    subst this
    exact ⟨rfl, hl⟩
  · right
    injection e with e1 e2 e3
    subst e1 e3
    refine ⟨g, c, cur, by rw [hl], hb, hg, by rw [hl]; omega, hcm, hcs, ?_⟩
    rw [hl, El.cells_take l m hm, ← htk, List.take_take, Nat.min_eq_left (Nat.mul_le_mul_right _ hm)]
end

theorem seIn3 {w : World} {b : Nat} {p : Pl} (h : seE.In w b p) : PlS b p w := ⟨h.cell 0, h.cell 1, h.cell 2⟩

set_option maxRecDepth 100000 in
set_option maxHeartbeats 4000000 in
theorem lay_any (w : World) (B : Nat) (v : Value) (left : List Pl) (A2 : Option Addr) (c2 : Nat) (l : List Pl) (hO : seE.Own w B v left) (hB : B ≤ w.heap.size) (hS : seE.Sl w A2 l) (hne : ∀ a, A2 = some a → v.ownBlock ≠ some a.block) (hlen : left.length + l.length ≤ 1000) :
    Calls Tryz.prog 100 #[v, .slice A2 l.length c2] w fun e w' => ∃ v', e = .returned v' ∧ seE.Own w' B v' (left ++ l.reverse) ∧ w.grownBy w' v.ownBlock ∧ (v'.ownBlock = v.ownBlock ∨ ∃ j, v'.ownBlock = some j ∧ w.heap.size ≤ j) := by
  have HW := Lib.hid (show IntKind.i64.wrap ((l.length : Int) - 1) = (l.length : Int) - 1 from by rw [IntKind.wrap_i64]; omega)
  have HS := Lib.hid hS
  have HN := Lib.hid hne
  have HL := Lib.hid hlen
  have hsw : w.grownBy w v.ownBlock := ⟨rfl, rfl, rfl, Nat.le_refl _, fun _ _ _ => rfl⟩
  clear hS hne
  go_enter Tryz.func100, Tryz.ntmps100
  go_wp2_with fail
  go_loopw [0, 5] (fun x y wr => ∃ (k : Nat) (v1 : Value) (i : Int), k ≤ l.length ∧ y = .int .i64 i ∧ i = (k : Int) - 1 ∧ x = v1 ∧ seE.Own wr B v1 (left ++ (l.drop k).reverse) ∧ w.grownBy wr v.ownBlock ∧ (v1.ownBlock = v.ownBlock ∨ ∃ j, v1.ownBlock = some j ∧ w.heap.size ≤ j)) (fun _ y _ => (intOf y + 1).toNat)
  case atStart => exact ⟨l.length, v, _, Nat.le_refl _, rfl, (by first | omega | rfl | (rw [IntKind.wrap_i64]; omega) | (rw [wrap64_in _ (by omega)]) | (unfold wrap64; omega)), rfl, by rw [List.drop_length, List.reverse_nil, List.append_nil]; exact hO, hsw, Or.inl rfl⟩
  case round =>
    clear hO hsw
    obtain ⟨k, v1, i, hk, rfl, hi, rfl, hO, hg, hat⟩ := hrel
    cases k with
    | zero =>
      have hneg : ¬ 0 ≤ i := by omega
      have HO := Lib.hid hO
      have HI := Lib.hid hi
      clear hO hi
      go_wp2_with fail
      go_ret
      exact ⟨_, rfl, by have := HO.out; rw [List.drop_zero] at this; exact this, hg, hat⟩
    | succ j =>
      obtain rfl : i = (j : Int) := by omega
      have hjl : j < l.length := by omega
      obtain ⟨b, off, hA2, hbw, hc⟩ := HS.out (by omega)
      have hbv : v.ownBlock ≠ some b := HN.out _ hA2
      have hq := (hc j hjl).grown hg (fun e => hbv e.symm)
      have hnx : left ++ (l.drop j).reverse = (left ++ (l.drop (j + 1)).reverse) ++ [l[j]] := by
        rw [List.drop_eq_getElem_cons hjl, List.reverse_cons, List.append_assoc]
      have hll : (left ++ (l.drop (j + 1)).reverse).length + [l[j]].length ≤ 1000 := by
        have := HL.out
        rw [List.length_append, List.length_reverse, List.length_drop, List.length_singleton]; omega
      generalize left ++ (l.drop (j + 1)).reverse = L1 at *
      obtain ⟨q, hqe⟩ : ∃ q, l[j] = q := ⟨_, rfl⟩
      rw [hqe] at hq hnx hll
      have hEl : seE.Sl (wr.alloc (.cells #[.int .i64 q.n, .int .i64 q.u, .string q.s] 102)) (some ⟨wr.heap.size, 0, none⟩) [q] := (El.In.new (E := seE) wr q _ rfl).sl
      have hO2 := hO.below (below_alloc (Below.refl wr.heap.size wr) (.cells #[.int .i64 q.n, .int .i64 q.u, .string q.s] 102))
      have hBw : B ≤ (wr.alloc (.cells #[.int .i64 q.n, .int .i64 q.u, .string q.s] 102)).heap.size := by
        rw [alloc_size]; have := hg.size; omega
      have HX := Lib.hid hnx
      have HY := Lib.hid hll
      have HO1 := Lib.hid hO
      have HI := Lib.hid hi
      have HG := Lib.hid hg
      have HAT := Lib.hid hat
      subst hA2
      clear hnx hll hqe hO hi hc hat hg
      go_wp2_with (first | (refine El.load seRow rfl _ rfl b (off + j * 3) rfl q hq #[.int .i64 q.n, .int .i64 q.u, .string q.s] rfl ?_) | (refine El.wpList_app seInn rfl (.tmp 13) (.tmp 18) rfl B u0 L1 [q] rfl hO2 (some ⟨wr.heap.size, 0, none⟩) 1 1 rfl rfl hEl (fun e => by cases e) (by have := HY.out; omega) hBw ?_; intro v2 W2 hO3 hg3 hat3))
      have hg4 : w.grownBy W2 v.ownBlock := by
        refine grown_trans (grown_trans HG.out (World.grownBy_alloc wr (.cells #[.int .i64 q.n, .int .i64 q.u, .string q.s] 102) none) (fun _ e => by cases e)) hg3 (fun j2 e hlt => ?_)
        rcases HAT.out with h | ⟨j3, h, h3⟩
        · rw [← h]; exact e
        · have := Option.some.inj (e.symm.trans h); omega
      refine ⟨⟨j, v2, _, by omega, rfl, (by first | omega | rfl | (rw [IntKind.wrap_i64]; omega) | (rw [wrap64_in _ (by omega)]) | (unfold wrap64; omega)), rfl, by rw [HX.out]; exact hO3, hg4, ?_⟩, by simp [intOf]⟩
      rcases hat3 with h | h
      · rw [h]; exact HAT.out
      · refine Or.inr ⟨_, h, ?_⟩
        rw [alloc_size]; have := HG.out.size; omega

set_option maxRecDepth 100000 in
set_option maxHeartbeats 4000000 in
theorem tell_any (HTW : TwinOk) (A : Option Addr) (c : Nat) (t : List Pl) (a : Int) (w : World) (ht : treeB t = true) (hl : t.length ≤ 100) (hT : plE.Sl w A t) :
    Calls Tryz.prog 67 #[.slice A t.length c, .int .i64 a] w fun e w' => ∃ A' c', e = .returned (.slice A' (treeL t a).length c') ∧ SlV seE w' A' c' (treeL t a) ∧ Below w.heap.size w w' := by
  have hp := treeP ht
  have CR := right_any A c t w (by omega) (fun p hq => by have := (tree_fit ht p hq).s; omega) (plSl.1 hT)
  rw [ht] at CR
  have CB := Lib.hid (fun (b : Int) (wx : World) (hb : Below w.heap.size w wx) => below_any HTW A c t b wx hp hl (hT.below hb))
  have HST := Lib.hid (hp.start a)
  have HTE := Lib.hid (fun l s => hp.tell l s)
  have HKL := Lib.hid (fun b => kidsV_le t b)
  have hR : (treeL t a).length ≤ 100 := Nat.le_trans (hp.below_len _ _) hl
  generalize treeL t a = R at *
  clear hp ht hT HTW
  go_enter Tryz.func67, Tryz.ntmps67
  go_wp2_with fail
  refine CR.mono ?_
  rintro e w1 ⟨rfl, hB⟩
  clear CR
  go_wp2_with fail
  refine (CB.out a w1 hB).mono ?_
  rintro e w2 ⟨A2, c2, rfl, hS2, hF2, hb2⟩
  replace hB := hB.trans (hb2.mono hB.size)
  clear hb2 hF2
  go_wp2_with fail
  refine (lay_any w2 w.heap.size (.slice none 0 0) [] A2 c2 (kidsV t a) (El.Own.nil _ _) hB.size hS2.1 (fun _ _ e => by cases e) (by have := HKL.out a; simp only [List.length_nil]; omega)).mono ?_
  rintro e w3 ⟨v6, rfl, hO6, hg6, _⟩
  replace hB := hB.grown hg6 hB.size (fun k e => by cases e)
  have hst := HST.out
  clear hg6 hS2 HST
  generalize ([] : List Pl) ++ (kidsV t a).reverse = L0 at *
  go_wp2_with fail
  go_loopw [5, 6] (fun x y wr => ∃ (v1 v2 : Value) (told left : List Pl), x = v1 ∧ y = v2 ∧ told ++ restL t left = R ∧ seE.Own wr w.heap.size v1 told ∧ seE.Own wr w.heap.size v2 left ∧ (∀ j, v1.ownBlock = some j → v2.ownBlock ≠ some j) ∧ Below w.heap.size w wr) (fun x _ _ => R.length - lenOf x)
  case atStart => exact ⟨_, v6, [], L0, rfl, rfl, by rw [List.nil_append]; exact hst, El.Own.nil _ _, hO6, (fun j e => by cases e), hB⟩
  case round =>
    clear hB hO6 hst
    obtain ⟨v1, v2, told, left, rfl, rfl, hR2, hO1, hO2, hdis, hB⟩ := hrel
    rcases List.eq_nil_or_concat left with rfl | ⟨left', s, he⟩
    · obtain ⟨A6, c6, rfl, hS6⟩ := SlV.own hO2
      rw [restL_nil, List.append_nil] at hR2
      subst hR2
      obtain ⟨A', c', rfl, hS⟩ := SlV.own hO1
      clear hO1 hO2 hdis hS6
      simp only [List.length_nil] at *
      go_wp2_with fail
      go_ret
      exact ⟨A', c', rfl, hS, hB⟩
    · rw [List.concat_eq_append] at he
      subst he
      obtain ⟨m, hm⟩ : ∃ m, left'.length = m := ⟨_, rfl⟩
      have hlen : (left' ++ [s]).length = m + 1 := by rw [List.length_append, hm]; rfl
      have htk : (left' ++ [s]).take m = left' := List.take_left' hm
      obtain ⟨A6, c6, rfl, hSl, _, hcap⟩ := SlV.own hO2
      obtain ⟨b, off, hA6, hbw, hc⟩ := hSl (by omega)
      have hat : seE.At wr b (off + m * 3) s := by
        have h := hc m (by omega)
        rw [List.getElem_append_right (by omega)] at h
        simp only [hm, Nat.sub_self, List.getElem_cons_zero] at h
        exact h
      have hOt := hO2.take (m := m) (by omega)
      rw [htk] at hOt
      rw [HTE.out] at hR2
      have hnx : (told ++ [s]) ++ restL t (left' ++ (kidsV t s.n).reverse) = R := by rw [List.append_assoc]; exact hR2
      have htl : told.length + 1 + (left'.length + (kidsV t s.n).length) ≤ R.length := by
        have h := congrArg List.length hnx
        rw [List.length_append, List.length_append] at h
        have h2 := restL_len t (left' ++ (kidsV t s.n).reverse)
        rw [List.length_append, List.length_reverse] at h2
        have h3 : [s].length = 1 := rfl
        omega
      have HNX := Lib.hid hnx
      have HTL := Lib.hid htl
      have HOT := Lib.hid hOt
      have HM := Lib.hid hm
      have hle := hO1.lenOf
      have HLE := Lib.hid hle
      have hdb : ∀ j, u5.ownBlock = some j → j ≠ b := fun j e e2 => hdis j e (by rw [hA6, e2]; rfl)
      have HDB := Lib.hid hdb
      have HO1 := Lib.hid hO1
      rw [hlen] at hcap ⊢
      subst hA6
      clear hO2 hSl hc htk hR2 hnx htl hOt hm hle hdis hdb hO1 hlen
      obtain ⟨M, hM⟩ : ∃ M, m + 1 = M := ⟨_, rfl⟩
      rw [hM] at hcap ⊢
      have hmM : m < M := by omega
      have hMl : M ≤ 100 := by have := HTL.out; have := HM.out; omega
      have h1 : IntKind.i64.wrap ((M : Int) - 1) = (m : Int) := by rw [IntKind.wrap_i64]; omega
      have h2 : decide ((0 : Int) < (M : Int)) = true := decide_eq_true (by omega)
      have HMM := Lib.hid hM
      have hm0 : 0 < M := by omega
      have hmc : m ≤ c6 := by omega
      have hz0 : seE.In (wr.alloc (.cells #[.int .i64 0, .int .i64 0, .string ⟨#[]⟩] 102)) wr.heap.size zero := El.In.new (E := seE) wr zero #[.int .i64 0, .int .i64 0, .string ⟨#[]⟩] rfl
      have hP := hz0.set s #[.int .i64 s.n, .int .i64 s.u, .string s.s] rfl
      have hbz : Below wr.heap.size wr ((wr.alloc (.cells #[.int .i64 0, .int .i64 0, .string ⟨#[]⟩] 102)).setRow wr.heap.size #[.int .i64 s.n, .int .i64 s.u, .string s.s]) := below_setRow (below_alloc (Below.refl _ _) _) (Nat.le_refl _) _
      have HBZ := Lib.hid hbz
      have hal := below_alloc hbz (.cells #[.int .i64 s.n, .int .i64 s.u, .string s.s] 102)
      have hO3 := HO1.out.below hal
      have hP3 := hP.alloc (.cells #[.int .i64 s.n, .int .i64 s.u, .string s.s] 102)
      have hEl : seE.Sl (((wr.alloc (.cells #[.int .i64 0, .int .i64 0, .string ⟨#[]⟩] 102)).setRow wr.heap.size #[.int .i64 s.n, .int .i64 s.u, .string s.s]).alloc (.cells #[.int .i64 s.n, .int .i64 s.u, .string s.s] 102)) (some ⟨wr.heap.size + 1, 0, none⟩) [s] := by
        have h := (El.In.new (E := seE) ((wr.alloc (.cells #[.int .i64 0, .int .i64 0, .string ⟨#[]⟩] 102)).setRow wr.heap.size #[.int .i64 s.n, .int .i64 s.u, .string s.s]) s _ rfl).sl
        have e : ((wr.alloc (.cells #[.int .i64 0, .int .i64 0, .string ⟨#[]⟩] 102)).setRow wr.heap.size #[.int .i64 s.n, .int .i64 s.u, .string s.s]).heap.size = wr.heap.size + 1 := by simp
        rw [e] at h
        exact h
      have hBw : w.heap.size ≤ (((wr.alloc (.cells #[.int .i64 0, .int .i64 0, .string ⟨#[]⟩] 102)).setRow wr.heap.size #[.int .i64 s.n, .int .i64 s.u, .string s.s]).alloc (.cells #[.int .i64 s.n, .int .i64 s.u, .string s.s] 102)).heap.size := Nat.le_trans hB.size hal.size
      have HAL := Lib.hid hal
      have HHB := Lib.hid hB
      clear hM hbz hal hB
      go_wp2_with (first | (refine El.load seRow rfl _ rfl b (off + m * 3) rfl s hat #[.int .i64 s.n, .int .i64 s.u, .string s.s] rfl ?_) | (refine El.store seRow rfl _ _ rfl wr.heap.size s #[.int .i64 s.n, .int .i64 s.u, .string s.s] rfl rfl rfl zero hz0 ?_) | (refine El.load seRow rfl _ rfl wr.heap.size 0 rfl s hP.at #[.int .i64 s.n, .int .i64 s.u, .string s.s] rfl ?_) | (refine El.wpList_app seInn rfl (.tmp 26) (.tmp 28) rfl w.heap.size u5 told [s] rfl hO3 (some ⟨wr.heap.size + 1, 0, none⟩) 1 1 rfl rfl hEl (fun e => by cases e) (by have := HTL.out; rw [List.length_singleton]; omega) hBw ?_; intro v9 W9 hO9 hg9 hat9) | fail)
      have hP9 := hP3.keep hg9 (fun e => by have := (HO1.out.lt _ e.symm).2; omega)
      have hOt := (HOT.out.below HAL.out).kept hg9 (Or.inr (fun e => HDB.out b e.symm rfl))
      have hB9 := (HHB.out.trans (HAL.out.mono HHB.out.size)).grown hg9 (Nat.le_trans HHB.out.size HAL.out.size) (fun k e => (HO1.out.lt k e).1)
      have hb9 : b < W9.heap.size := Nat.lt_of_lt_of_le hbw (Nat.le_trans HAL.out.size hg9.size)
      have hdis : ∀ j, v9.ownBlock = some j → j ≠ b := fun j e e2 => by
        rcases hat9 with h | h
        · exact HDB.out j (by rw [← h]; exact e) e2
        · have h3 := Option.some.inj (e.symm.trans h)
          have := HAL.out.size
          omega
      have HDI := Lib.hid hdis
      clear hP hP3 hO3 hEl hBw HAL HHB hg9 hat9 HBZ hz0 hat HOT HDB hdis
      generalize wr.heap.size = n8 at *
      refine region_anyG (S := PlS n8 s) 8 (by kernel_rfl) ?_
      replace hP9 : seE.In W9.drew n8 s := hP9
      replace hO9 : seE.Own W9.drew w.heap.size v9 (told ++ [s]) := hO9.below (Below.refl _ _).drew
      replace hOt : seE.Own W9.drew w.heap.size (.slice (some ⟨b, off, none⟩) m c6) left' := hOt.below (Below.refl _ _).drew
      replace hB9 := hB9.drew
      replace hb9 : b < W9.drew.heap.size := hb9
      generalize W9.drew = V at *
      have hS : PlS n8 s V := seIn3 hP9
      have HMC := Lib.hid hmc
      refine anyG_take (i := 0) (v := .slice (some ⟨b, off, none⟩) M c6) rfl (by kernel_rfl) (by kernel_rfl) (by kernel_rfl) (by kernel_rfl) (by kernel_rfl) (fun _ _ _ h => h) (Or.inl ⟨by rfl, fun w' hSw => by (obtain ⟨s0, s1, s2⟩ := hSw; go_simp)⟩) hS ?_
      try simp only [Act.put, List.setIfInBounds_toArray, List.set_cons_zero, List.set_cons_succ]
      refine anyG_take (i := 1) (v := .int .i64 m) rfl (by kernel_rfl) (by kernel_rfl) (by kernel_rfl) (by kernel_rfl) (by kernel_rfl) (fun _ _ _ h => h) (Or.inl ⟨by rfl, fun w' hSw => by (obtain ⟨s0, s1, s2⟩ := hSw; go_simp)⟩) hS ?_
      try simp only [Act.put, List.setIfInBounds_toArray, List.set_cons_zero, List.set_cons_succ]
      refine anyG_take (i := 2) (v := .slice (some ⟨b, off, none⟩) m c6) rfl (by kernel_rfl) (by kernel_rfl) (by kernel_rfl) (by kernel_rfl) (by kernel_rfl) (fun _ _ _ h => h) (Or.inl ⟨by rfl, fun w' hSw => by (obtain ⟨s0, s1, s2⟩ := hSw; go_simp)⟩) hS ?_
      try simp only [Act.put, List.setIfInBounds_toArray, List.set_cons_zero, List.set_cons_succ]
      refine anyG_take (i := 3) (v := .slice A t.length c) rfl (by kernel_rfl) (by kernel_rfl) (by kernel_rfl) (by kernel_rfl) (by kernel_rfl) (fun _ _ _ h => h) (Or.inl ⟨by rfl, fun w' hSw => by (obtain ⟨s0, s1, s2⟩ := hSw; go_simp)⟩) hS ?_
      try simp only [Act.put, List.setIfInBounds_toArray, List.set_cons_zero, List.set_cons_succ]
      refine anyG_take (i := 4) (v := .pointer (some ⟨n8, 0, none⟩)) rfl (by kernel_rfl) (by kernel_rfl) (by kernel_rfl) (by kernel_rfl) (by kernel_rfl) (fun _ _ _ h => h) (Or.inl ⟨by rfl, fun w' hSw => by (obtain ⟨s0, s1, s2⟩ := hSw; go_simp)⟩) hS ?_
      try simp only [Act.put, List.setIfInBounds_toArray, List.set_cons_zero, List.set_cons_succ]
      refine anyG_take (i := 5) (v := .int .i64 s.n) rfl (by kernel_rfl) (by kernel_rfl) (by kernel_rfl) (by kernel_rfl) (by kernel_rfl) (fun _ _ _ h => h) (Or.inl ⟨by rfl, fun w' hSw => by (obtain ⟨s0, s1, s2⟩ := hSw; go_simp)⟩) hS ?_
      try simp only [Act.put, List.setIfInBounds_toArray, List.set_cons_zero, List.set_cons_succ]
      refine anyG_step (rs := [6]) (by kernel_rfl) (by simp) ?_
      refine AllG.cons rfl (fun K hK => ?_) AllG.nil
      go_simp
      refine (CB.out s.n V hB9).mono ?_
      rintro e W5 ⟨A5, c5, rfl, hS5, hF5, hb5⟩
      have hP5 := hP9.below hb5
      have hO5 := hO9.below hb5
      have hOt5 := hOt.below hb5
      have hB5 := hB9.trans (hb5.mono hB9.size)
      have hbV := Nat.lt_of_lt_of_le hb9 hb5.size
      have hne : ∀ a, A5 = some a → (Value.slice (some ⟨b, off, none⟩) m c6).ownBlock ≠ some a.block := fun a e e2 => by
        have h1 := hF5 a e
        have h2 : b = a.block := Option.some.inj e2
        omega
      have hv5 : ∀ j, v9.ownBlock = some j → j < W5.heap.size := fun j e => (hO5.lt j e).2
      clear hP9 hO9 hOt hB9 hb5 hb9 hF5 hS
      try go_wp2_with fail
      refine hK.out _ _ (seIn3 hP5 : PlS n8 s W5) ?_
      try simp only [Act.put, List.setIfInBounds_toArray, List.set_cons_zero, List.set_cons_succ]
      clear hK
      refine anyG_step (rs := [7]) (by kernel_rfl) (by simp) ?_
      refine AllG.cons rfl (fun K hK => ?_) AllG.nil
      go_simp
      refine (lay_any W5 w.heap.size (.slice (some ⟨b, off, none⟩) m c6) left' A5 c5 (kidsV t s.n) hOt5 hB5.size hS5.1 hne (by have := HTL.out; omega)).mono ?_
      rintro e W6 ⟨v7, rfl, hO6, hg6, hat6⟩
      have hP6 := hP5.keep hg6 (fun e => by have h : n8 = b := Option.some.inj e; omega)
      have hO7 := hO5.kept hg6 (by
        cases hv : v9.ownBlock with
        | none => exact Or.inl rfl
        | some j => exact Or.inr (fun e => HDI.out j hv (Option.some.inj e)))
      have hB6 := hB5.grown hg6 hB5.size (fun k e => (hOt5.lt k e).1)
      try go_wp2_with fail
      refine hK.out _ _ (seIn3 hP6 : PlS n8 s W6) ?_
      try simp only [Act.put, List.setIfInBounds_toArray, List.set_cons_zero, List.set_cons_succ]
      clear hK
      refine anyG_step (rs := [8]) (by kernel_rfl) (by simp) ?_
      refine AllG.last (n := 8) rfl (fun K hK => ?_)
      go_simp
      refine hK.out _ _ ?_
      try simp only [Act.put, List.setIfInBounds_toArray, List.set_cons_zero, List.set_cons_succ]
      clear hK
      refine anyG_done (by kernel_rfl) ?_ _
      have hl9 := hO7.lenOf
      have HDIS : ∀ j, v9.ownBlock = some j → v7.ownBlock ≠ some j := fun j e e2 => by
        rcases hat6 with h | ⟨j2, h, h2⟩
        · rw [h] at e2
          exact HDI.out j e (Option.some.inj e2).symm
        · have h3 := Option.some.inj (e2.symm.trans h)
          have := hv5 j e
          omega
      clear hP5 hO5 hOt5 hS5 hP6 hat6 hg6
      go_wp2_with fail
      refine ⟨⟨v9, v7, told ++ [s], left' ++ (kidsV t s.n).reverse, rfl, rfl, HNX.out, hO7, hO6, HDIS, hB6⟩, ?_⟩
      show R.length - lenOf v9 < R.length - lenOf u5
      rw [hl9, HLE.out, List.length_append]
      have := HTL.out
      have h3 : [s].length = 1 := rfl
      omega
end Go.Proofs.YtdcjffajmckleaaGreatDoor

/- The library's contract of strconv.Itoa below 100, laid at this program's numbers. -/
namespace Go.Proofs.YtdcjffajmckleaaGreatDoor
open Go.Shelf
def Tryz.lays171_ren : Go.Shelf.Ren := ⟨fun | 171 => 142 | 243 => 146 | 246 => 147 | 283 => 148 | 284 => 149 | 285 => 150 | 286 => 151 | 129 => 153 | 317 => 152 | 318 => 154 | 319 => 155 | 320 => 156 | 337 => 157 | 338 => 158 | n => n, fun | 3 => 3 | 9 => 9 | 2 => 2 | 4 => 4 | 171 => 208 | 0 => 0 | 53 => 147 | 37 => 58 | 5 => 5 | 173 => 210 | 212 => 213 | 51 => 214 | 20 => 20 | 213 => 215 | 46 => 148 | 232 => 218 | 233 => 219 | n => n, fun | 17 => 1 | 18 => 2 | 19 => 3 | n => n⟩
theorem Tryz.lays171 : Go.Proofs.Lays.n171 Tryz.prog Tryz.lays171_ren := {
  mixed := by kernel_rfl
  f129 := Tryz.func153.trans (congrArg some (by kernel_rfl))
  f171 := Tryz.func142.trans (congrArg some (by kernel_rfl))
  f243 := Tryz.func146.trans (congrArg some (by kernel_rfl))
  f246 := Tryz.func147.trans (congrArg some (by kernel_rfl))
  f283 := Tryz.func148.trans (congrArg some (by kernel_rfl))
  f284 := Tryz.func149.trans (congrArg some (by kernel_rfl))
  f285 := Tryz.func150.trans (congrArg some (by kernel_rfl))
  f286 := Tryz.func151.trans (congrArg some (by kernel_rfl))
  f317 := Tryz.func152.trans (congrArg some (by kernel_rfl))
  f318 := Tryz.func154.trans (congrArg some (by kernel_rfl))
  f319 := Tryz.func155.trans (congrArg some (by kernel_rfl))
  f320 := Tryz.func156.trans (congrArg some (by kernel_rfl))
  f337 := Tryz.func157.trans (congrArg some (by kernel_rfl))
  f338 := Tryz.func158.trans (congrArg some (by kernel_rfl))
  t0 := Tryz.underlying0
  a0 := Tryz.isAgg0
  z0 := Tryz.sizeOf0
  v0 := Tryz.zeroValue0
  t2 := Tryz.underlying2
  a2 := Tryz.isAgg2
  z2 := Tryz.sizeOf2
  v2 := Tryz.zeroValue2
  t3 := Tryz.underlying3
  a3 := Tryz.isAgg3
  z3 := Tryz.sizeOf3
  v3 := Tryz.zeroValue3
  t4 := Tryz.underlying4
  a4 := Tryz.isAgg4
  z4 := Tryz.sizeOf4
  v4 := Tryz.zeroValue4
  t5 := Tryz.underlying5
  a5 := Tryz.isAgg5
  z5 := Tryz.sizeOf5
  v5 := Tryz.zeroValue5
  t9 := Tryz.underlying9
  a9 := Tryz.isAgg9
  z9 := Tryz.sizeOf9
  v9 := Tryz.zeroValue9
  t20 := Tryz.underlying20
  a20 := Tryz.isAgg20
  z20 := Tryz.sizeOf20
  v20 := Tryz.zeroValue20
  t37 := Tryz.underlying58
  a37 := Tryz.isAgg58
  z37 := Tryz.sizeOf58
  v37 := Tryz.zeroValue58
  t46 := Tryz.underlying148
  a46 := Tryz.isAgg148
  z46 := Tryz.sizeOf148
  v46 := Tryz.zeroValue148
  t51 := Tryz.underlying214
  a51 := Tryz.isAgg214
  z51 := Tryz.sizeOf214
  v51 := Tryz.zeroValue214
  t53 := Tryz.underlying147
  a53 := Tryz.isAgg147
  z53 := Tryz.sizeOf147
  v53 := Tryz.zeroValue147
  t171 := Tryz.underlying208
  a171 := Tryz.isAgg208
  z171 := Tryz.sizeOf208
  v171 := Tryz.zeroValue208
  t173 := Tryz.underlying210
  a173 := Tryz.isAgg210
  z173 := Tryz.sizeOf210
  v173 := Tryz.zeroValue210
  t212 := Tryz.underlying213
  a212 := Tryz.isAgg213
  z212 := Tryz.sizeOf213
  v212 := Tryz.zeroValue213
  t213 := Tryz.underlying215
  a213 := Tryz.isAgg215
  z213 := Tryz.sizeOf215
  t232 := Tryz.underlying218
  a232 := Tryz.isAgg218
  z232 := Tryz.sizeOf218
  v232 := Tryz.zeroValue218
  t233 := Tryz.underlying219
  a233 := Tryz.isAgg219
  z233 := Tryz.sizeOf219
  v233 := Tryz.zeroValue219
  g17 := by kernel_rfl
  g18 := by kernel_rfl
  g19 := by kernel_rfl }
open Go.RowKit Go.Sort Go.Lib in
theorem Tryz.strconv_Itoa_small (i : Nat) (hi : i < 100) (w : World) :
    Calls Tryz.prog 142 #[.int .i64 i] w fun e w' => e = .returned (.string ⟨(Lib.decDigits i).toArray⟩) ∧ w' = w := Any.strconv_Itoa_small Tryz.lays171 i hi w
end Go.Proofs.YtdcjffajmckleaaGreatDoor

/- A name's twin, of the program. -/
namespace Go.Proofs.YtdcjffajmckleaaGreatDoor
open Go.RowKit Tre Cod Nam
open Go.Lib (decDigits)

theorem twinOk : TwinOk := by
  intro s n w hn hs
  have HC := Lib.hid (fun w => Tryz.strconv_Itoa_small n hn w)
  have hz := dec_size n (by omega)
  have HT := Lib.hid (show twinOf s n = s ++ ⟨#[126]⟩ ++ ⟨(decDigits n).toArray⟩ from rfl)
  generalize twinOf s n = T at HT ⊢
  generalize (⟨(decDigits n).toArray⟩ : ByteArray) = D at HC HT hz
  go_enter Tryz.func132, Tryz.ntmps132
  go_wp2_with (go_at_call 142; (with_reducible refine (HC.out _).mono ?_); rintro e w1 ⟨rfl, rfl⟩)
  go_ret
  exact ⟨by rw [HT.out]; rfl, rfl⟩
end Go.Proofs.YtdcjffajmckleaaGreatDoor

/- The program's Show, Trash, Path, Look: what they answer. -/
namespace Go.Proofs.YtdcjffajmckleaaGreatDoor
open Go.RowKit Tre Cod Nam

theorem tell_no (A : Option Addr) (c : Nat) (t : List Pl) (a : Int) (w : World) (ht : treeB t = false) (hl : t.length ≤ 100) (hsz : ∀ p ∈ t, p.s.size ≤ 9223372036854775807) (hT : plE.Sl w A t) :
    Calls Tryz.prog 67 #[.slice A t.length c, .int .i64 a] w fun e w' => e = .returned (.slice none 0 0) ∧ Below w.heap.size w w' := by
  have hr := right_any A c t w (by omega) hsz (plSl.1 hT)
  rw [ht] at hr
  go_enter Tryz.func67, Tryz.ntmps67
  go_wp2_with fail
  refine hr.mono ?_
  rintro e w1 ⟨rfl, hb⟩
  go_wp2_with fail
  go_ret
  exact ⟨rfl, hb⟩
theorem tell_both (A : Option Addr) (c : Nat) (t : List Pl) (a : Int) (w : World) (hl : t.length ≤ 100) (hsz : ∀ p ∈ t, p.s.size ≤ 9223372036854775807) (hT : plE.Sl w A t) (V : List Pl) (hV : V = if treeB t = true then treeL t a else []) :
    Calls Tryz.prog 67 #[.slice A t.length c, .int .i64 a] w fun e w' => ∃ A' c', e = .returned (.slice A' V.length c') ∧ SlV seE w' A' c' V ∧ Below w.heap.size w w' := by
  cases ht : treeB t
  · rw [ht] at hV
    have hV : V = [] := hV
    subst hV
    exact (tell_no A c t a w ht hl hsz hT).mono fun e w' ⟨he, hb⟩ => ⟨none, 0, he, SlV.nil _ _, hb⟩
  · rw [ht] at hV
    have hV : V = treeL t a := hV
    subst hV
    exact tell_any twinOk A c t a w ht hl hT
theorem pShow_any (A : Option Addr) (c : Nat) (t : List Pl) (w : World) (hl : t.length ≤ 100) (hsz : ∀ p ∈ t, p.s.size ≤ 9223372036854775807) (hT : plE.Sl w A t) :
    Calls Tryz.prog 40 #[.slice A t.length c] w fun e w' => ∃ A' c', e = .returned (.slice A' (showV t).length c') ∧ SlV seE w' A' c' (showV t) ∧ Below w.heap.size w w' := by
  have H := tell_both A c t 0 w hl hsz hT (showV t) rfl
  go_enter Tryz.func40, Tryz.ntmps40
  go_wp2_with fail
  refine H.mono ?_
  rintro e w1 ⟨A', c', rfl, hS, hb⟩
  go_wp2_with fail
  go_ret
  exact ⟨A', c', rfl, hS, hb⟩
/-- No node that is shown has an empty path. -/
theorem ShownL.some {l : List Pl} (h : ShownL l) (i : Nat) (hi : i < l.length) : pathL l l[i].n ≠ ⟨#[]⟩ := fun e => by
  obtain ⟨m, _, _, e2⟩ := h.up i hi
  unfold pathL at e
  rw [h.at i i hi (Nat.le_refl _) l.length hi, e2] at e
  have h1 := congrArg ByteArray.size e
  have h0 : (ByteArray.mk #[47]).size = 1 := rfl
  have h2 : (ByteArray.mk #[]).size = 0 := rfl
  simp only [ByteArray.size_append] at h1
  omega

end Go.Proofs.YtdcjffajmckleaaGreatDoor

/- The program's parent, Report, Frame, Vector, Read. -/
namespace Go.Proofs.YtdcjffajmckleaaGreatDoor
open Go.RowKit Nam Cod Tre Pst Pln

def vecO (x : Dw) : Mv := ⟨0, x.node, x.inc, x.sent, 0, 0, ⟨#[]⟩⟩
set_option maxRecDepth 100000 in
set_option maxHeartbeats 4000000 in
theorem parent_any (p : Pnw) (n : Int) (up : Int) (w : World) (hp : PlD p.p n up) (hT : inE.Sl w p.A p.p.u) :
    Calls Tryz.prog 33 #[.agg #[.slice p.A p.p.u.length p.c, .int .i64 p.p.q, .int .i64 p.p.r, .int .i64 p.p.b, .int .i64 p.p.l, .int .i64 p.p.w, .int .i64 p.p.c, .int .i64 p.p.k, .int .i64 p.p.i], .int .i64 n] w fun e w' => e = .returned (.tuple #[.int .i64 up, .bool true]) ∧ Below w.heap.size w w' := by
  obtain ⟨hn0, hu, hup⟩ := hp.up
  obtain ⟨k, rfl⟩ : ∃ k : Nat, n = (k : Int) := ⟨n.toNat, by omega⟩
  replace hu : p.p.u[k]? = some up := hu
  have hP : pnE.In (w.alloc (.cells #[.slice p.A p.p.u.length p.c, .int .i64 p.p.q, .int .i64 p.p.r, .int .i64 p.p.b, .int .i64 p.p.l, .int .i64 p.p.w, .int .i64 p.p.c, .int .i64 p.p.k, .int .i64 p.p.i] 26)) w.heap.size p := El.In.new (E := pnE) w p _ rfl
  have hB := below_alloc (Below.refl w.heap.size w) (.cells #[.slice p.A p.p.u.length p.c, .int .i64 p.p.q, .int .i64 p.p.r, .int .i64 p.p.b, .int .i64 p.p.l, .int .i64 p.p.w, .int .i64 p.p.c, .int .i64 p.p.k, .int .i64 p.p.i] 26)
  have hlt : k < p.p.u.length := by
    rcases Nat.lt_or_ge k p.p.u.length with h | h
    · exact h
    · rw [List.getElem?_eq_none h] at hu; cases hu
  obtain ⟨b, off, eA, hbw, hc⟩ := hT (by omega)
  have hcell : w.cell? ⟨b, off + k, none⟩ = some (.int .i64 up) := by
    have h := hc k hlt 0 (.int .i64 up) (by
      rw [List.getElem?_eq_getElem hlt] at hu
      rw [Option.some.inj hu]; rfl)
    rw [show off + k * inE.k + 0 = off + k from by show off + k * 1 + 0 = off + k; omega] at h
    exact h
  have hcB : (w.alloc (.cells #[.slice p.A p.p.u.length p.c, .int .i64 p.p.q, .int .i64 p.p.r, .int .i64 p.p.b, .int .i64 p.p.l, .int .i64 p.p.w, .int .i64 p.p.c, .int .i64 p.p.k, .int .i64 p.p.i] 26)).cell? ⟨b, off + k, none⟩ = some (.int .i64 up) := by rw [(bcell hB).1 _ _ hbw]; exact hcell
  have EA := Lib.hid eA
  clear eA
  go_enter Tryz.func33, Tryz.ntmps33
  go_upto_region 1 with fail
  generalize w.alloc (.cells #[.slice p.A p.p.u.length p.c, .int .i64 p.p.q, .int .i64 p.p.r, .int .i64 p.p.b, .int .i64 p.p.l, .int .i64 p.p.w, .int .i64 p.p.c, .int .i64 p.p.k, .int .i64 p.p.i] 26) = W at *
  obtain ⟨n1, hn1⟩ : ∃ n1, w.heap.size = n1 := ⟨_, rfl⟩
  rw [hn1] at hP ⊢
  obtain ⟨p0, p1, p2, p3, p4, p5, p6, p7, p8⟩ := pnIn9 hP
  have f1 : decide ((k : Int) < 0) = false := decide_eq_false (by omega)
  have f2 : decide ((p.p.u.length : Int) ≤ (k : Int)) = false := decide_eq_false (by omega)
  have f3 : decide (p.p.u.length ≤ k) = false := decide_eq_false (by omega)
  have hki : (k : Int) < (p.p.u.length : Int) := by omega
  clear hn1 hP p1 p2 p3 p4 p5 p6 p7 p8 hu hn0 hcell hc hT hup hp
  rw [EA.out] at p0
  go_wp2_with fail
  go_ret2
  exact ⟨rfl, hB⟩
set_option maxRecDepth 100000 in
set_option maxHeartbeats 4000000 in
theorem report18_any (x : Dw) (beat : Int) (w : World) : Calls Tryz.prog 44 #[.agg #[.int .i64 x.node, .int .i64 x.boot, .int .i64 x.above, .int .i64 x.pos, .int .i64 x.y.t, .int .i64 x.pos, .slice none 0 0, .int .i64 x.q.f, .int .i64 x.q.g, .slice x.qA x.q.os.length x.qc, .slice none 0 0, .slice none 0 0, .slice none 0 0, .slice none 0 0, .slice x.y.bA x.y.base.length x.y.bc, .int .i64 x.y.t, .slice x.y.oA x.y.ops.length x.y.oc, .slice x.y.uA x.y.us.length x.y.uc, .slice x.y.wA x.y.now.length x.y.wc, .slice x.cA x.l.length x.cc, .int .i64 x.inc, .int .i64 x.mode, .int .i64 x.clock, .int .i64 x.sent, .slice x.pA 0 x.pc, .int .i64 x.late], .int .i64 beat] w fun e w' => e = .returned (.agg #[.int .i64 (reportD x.v beat).d, .int .i64 (reportD x.v beat).i, .int .i64 (reportD x.v beat).b, .int .i64 (reportD x.v beat).t, .int .i64 (reportD x.v beat).m, .int .i64 (reportD x.v beat).p, .int .i64 (reportD x.v beat).c, .int .i64 (reportD x.v beat).s, .int .i64 (reportD x.v beat).k]) ∧ Below w.heap.size w w' := by
  have hE : dzE.In ((w.alloc (.cells #[.int .i64 x.node, .int .i64 x.boot, .int .i64 x.above, .int .i64 x.pos, .int .i64 x.y.t, .int .i64 x.pos, .slice none 0 0, .int .i64 x.q.f, .int .i64 x.q.g, .slice x.qA x.q.os.length x.qc, .slice none 0 0, .slice none 0 0, .slice none 0 0, .slice none 0 0, .slice x.y.bA x.y.base.length x.y.bc, .int .i64 x.y.t, .slice x.y.oA x.y.ops.length x.y.oc, .slice x.y.uA x.y.us.length x.y.uc, .slice x.y.wA x.y.now.length x.y.wc, .slice x.cA x.l.length x.cc, .int .i64 x.inc, .int .i64 x.mode, .int .i64 x.clock, .int .i64 x.sent, .slice x.pA 0 x.pc, .int .i64 x.late] 44)).alloc (.cells #[.int .i64 0, .int .i64 0, .int .i64 0, .int .i64 0, .int .i64 0, .int .i64 0, .int .i64 0, .int .i64 0, .int .i64 0] 79)) w.heap.size x.z := (El.In.new (E := dzE) w x.z _ rfl).alloc _
  have hR : rpE.In ((w.alloc (.cells #[.int .i64 x.node, .int .i64 x.boot, .int .i64 x.above, .int .i64 x.pos, .int .i64 x.y.t, .int .i64 x.pos, .slice none 0 0, .int .i64 x.q.f, .int .i64 x.q.g, .slice x.qA x.q.os.length x.qc, .slice none 0 0, .slice none 0 0, .slice none 0 0, .slice none 0 0, .slice x.y.bA x.y.base.length x.y.bc, .int .i64 x.y.t, .slice x.y.oA x.y.ops.length x.y.oc, .slice x.y.uA x.y.us.length x.y.uc, .slice x.y.wA x.y.now.length x.y.wc, .slice x.cA x.l.length x.cc, .int .i64 x.inc, .int .i64 x.mode, .int .i64 x.clock, .int .i64 x.sent, .slice x.pA 0 x.pc, .int .i64 x.late] 44)).alloc (.cells #[.int .i64 0, .int .i64 0, .int .i64 0, .int .i64 0, .int .i64 0, .int .i64 0, .int .i64 0, .int .i64 0, .int .i64 0] 79)) (w.heap.size + 1) zeroRp := by
    have h := El.In.new (E := rpE) (w.alloc (.cells #[.int .i64 x.node, .int .i64 x.boot, .int .i64 x.above, .int .i64 x.pos, .int .i64 x.y.t, .int .i64 x.pos, .slice none 0 0, .int .i64 x.q.f, .int .i64 x.q.g, .slice x.qA x.q.os.length x.qc, .slice none 0 0, .slice none 0 0, .slice none 0 0, .slice none 0 0, .slice x.y.bA x.y.base.length x.y.bc, .int .i64 x.y.t, .slice x.y.oA x.y.ops.length x.y.oc, .slice x.y.uA x.y.us.length x.y.uc, .slice x.y.wA x.y.now.length x.y.wc, .slice x.cA x.l.length x.cc, .int .i64 x.inc, .int .i64 x.mode, .int .i64 x.clock, .int .i64 x.sent, .slice x.pA 0 x.pc, .int .i64 x.late] 44)) zeroRp #[.int .i64 0, .int .i64 0, .int .i64 0, .int .i64 0, .int .i64 0, .int .i64 0, .int .i64 0, .int .i64 0, .int .i64 0] rfl
    rw [alloc_size] at h; exact h
  have hB := below_alloc (below_alloc (Below.refl w.heap.size w) (.cells #[.int .i64 x.node, .int .i64 x.boot, .int .i64 x.above, .int .i64 x.pos, .int .i64 x.y.t, .int .i64 x.pos, .slice none 0 0, .int .i64 x.q.f, .int .i64 x.q.g, .slice x.qA x.q.os.length x.qc, .slice none 0 0, .slice none 0 0, .slice none 0 0, .slice none 0 0, .slice x.y.bA x.y.base.length x.y.bc, .int .i64 x.y.t, .slice x.y.oA x.y.ops.length x.y.oc, .slice x.y.uA x.y.us.length x.y.uc, .slice x.y.wA x.y.now.length x.y.wc, .slice x.cA x.l.length x.cc, .int .i64 x.inc, .int .i64 x.mode, .int .i64 x.clock, .int .i64 x.sent, .slice x.pA 0 x.pc, .int .i64 x.late] 44)) (.cells #[.int .i64 0, .int .i64 0, .int .i64 0, .int .i64 0, .int .i64 0, .int .i64 0, .int .i64 0, .int .i64 0, .int .i64 0] 79)
  go_enter Tryz.func44, Tryz.ntmps44
  go_upto_region 1 with fail
  generalize (w.alloc (.cells #[.int .i64 x.node, .int .i64 x.boot, .int .i64 x.above, .int .i64 x.pos, .int .i64 x.y.t, .int .i64 x.pos, .slice none 0 0, .int .i64 x.q.f, .int .i64 x.q.g, .slice x.qA x.q.os.length x.qc, .slice none 0 0, .slice none 0 0, .slice none 0 0, .slice none 0 0, .slice x.y.bA x.y.base.length x.y.bc, .int .i64 x.y.t, .slice x.y.oA x.y.ops.length x.y.oc, .slice x.y.uA x.y.us.length x.y.uc, .slice x.y.wA x.y.now.length x.y.wc, .slice x.cA x.l.length x.cc, .int .i64 x.inc, .int .i64 x.mode, .int .i64 x.clock, .int .i64 x.sent, .slice x.pA 0 x.pc, .int .i64 x.late] 44)).alloc (.cells #[.int .i64 0, .int .i64 0, .int .i64 0, .int .i64 0, .int .i64 0, .int .i64 0, .int .i64 0, .int .i64 0, .int .i64 0] 79) = W at *
  obtain ⟨n1, h1⟩ : ∃ n1, w.heap.size = n1 := ⟨_, rfl⟩
  obtain ⟨n2, h2⟩ : ∃ n2, w.heap.size + 1 = n2 := ⟨_, rfl⟩
  have hw2 : w.heap.size ≤ n2 := by omega
  rw [h2] at hR ⊢
  rw [h1] at hE ⊢
  clear h1 h2
  obtain ⟨z0, z1, z2, z3, z4, z5, z7, z9, z15, z18, z19, z20, z21, z22, z23, z24, z25⟩ := dzIn hE
  replace z0 : W.cell? ⟨n1, 0, none⟩ = some (.int .i64 x.node) := z0
  replace z1 : W.cell? ⟨n1, 1, none⟩ = some (.int .i64 x.boot) := z1
  replace z5 : W.cell? ⟨n1, 5, none⟩ = some (.int .i64 x.pos) := z5
  replace z20 : W.cell? ⟨n1, 20, none⟩ = some (.int .i64 x.inc) := z20
  replace z21 : W.cell? ⟨n1, 21, none⟩ = some (.int .i64 x.mode) := z21
  replace z22 : W.cell? ⟨n1, 22, none⟩ = some (.int .i64 x.clock) := z22
  replace z23 : W.cell? ⟨n1, 23, none⟩ = some (.int .i64 x.sent) := z23
  replace z24 : W.cell? ⟨n1, 24, none⟩ = some (.slice x.pA 0 x.pc) := z24
  clear z2 z3 z4 z7 z9 z15 z18 z19 z25 hE
  go_wp2_with (first | (refine El.store rpRow rfl _ _ rfl n2 (reportD x.v beat) #[.int .i64 (reportD x.v beat).d, .int .i64 (reportD x.v beat).i, .int .i64 (reportD x.v beat).b, .int .i64 (reportD x.v beat).t, .int .i64 (reportD x.v beat).m, .int .i64 (reportD x.v beat).p, .int .i64 (reportD x.v beat).c, .int .i64 (reportD x.v beat).s, .int .i64 (reportD x.v beat).k] rfl rfl rfl zeroRp hR ?_) | fail)
  refine El.ret1 rpRow (hR.set (reportD x.v beat) _ rfl) rfl rfl rfl _ rfl ?_
  exact ⟨rfl, below_setRow hB hw2 _⟩
set_option maxRecDepth 100000 in
set_option maxHeartbeats 4000000 in
theorem read18_any (x : Dw) (w : World) (hy : PInv x.y.v) (hx : x.ok w) : Calls Tryz.prog 15 #[.agg #[.int .i64 x.node, .int .i64 x.boot, .int .i64 x.above, .int .i64 x.pos, .int .i64 x.y.t, .int .i64 x.pos, .slice none 0 0, .int .i64 x.q.f, .int .i64 x.q.g, .slice x.qA x.q.os.length x.qc, .slice none 0 0, .slice none 0 0, .slice none 0 0, .slice none 0 0, .slice x.y.bA x.y.base.length x.y.bc, .int .i64 x.y.t, .slice x.y.oA x.y.ops.length x.y.oc, .slice x.y.uA x.y.us.length x.y.uc, .slice x.y.wA x.y.now.length x.y.wc, .slice x.cA x.l.length x.cc, .int .i64 x.inc, .int .i64 x.mode, .int .i64 x.clock, .int .i64 x.sent, .slice x.pA 0 x.pc, .int .i64 x.late]] w fun e w' => ∃ (A : Option Addr) (c : Nat) (l : List Pl) (b : Bool), e = .returned (.tuple #[.slice A l.length c, .bool b]) ∧ SlV seE w' A c l ∧ ((x.mode = 1 ∧ l = showV x.y.now ∧ b = true) ∨ (x.mode ≠ 1 ∧ l = [] ∧ b = false)) ∧ Below w.heap.size w w' := by
  have ht : treeB x.y.now = true := hy.ntree
  have hlen := tree_len ht
  have CS := Lib.hid (fun (wx : World) (h : PastOk wx x.y) => pShow_any x.y.wA x.y.wc x.y.now wx (by omega) (fun p hp => by have := (tree_fit ht p hp).s; omega) h.w.1)
  have hE : dzE.In (w.alloc (.cells #[.int .i64 x.node, .int .i64 x.boot, .int .i64 x.above, .int .i64 x.pos, .int .i64 x.y.t, .int .i64 x.pos, .slice none 0 0, .int .i64 x.q.f, .int .i64 x.q.g, .slice x.qA x.q.os.length x.qc, .slice none 0 0, .slice none 0 0, .slice none 0 0, .slice none 0 0, .slice x.y.bA x.y.base.length x.y.bc, .int .i64 x.y.t, .slice x.y.oA x.y.ops.length x.y.oc, .slice x.y.uA x.y.us.length x.y.uc, .slice x.y.wA x.y.now.length x.y.wc, .slice x.cA x.l.length x.cc, .int .i64 x.inc, .int .i64 x.mode, .int .i64 x.clock, .int .i64 x.sent, .slice x.pA 0 x.pc, .int .i64 x.late] 44)) w.heap.size x.z := El.In.new (E := dzE) w x.z _ rfl
  have hB := below_alloc (Below.refl w.heap.size w) (.cells #[.int .i64 x.node, .int .i64 x.boot, .int .i64 x.above, .int .i64 x.pos, .int .i64 x.y.t, .int .i64 x.pos, .slice none 0 0, .int .i64 x.q.f, .int .i64 x.q.g, .slice x.qA x.q.os.length x.qc, .slice none 0 0, .slice none 0 0, .slice none 0 0, .slice none 0 0, .slice x.y.bA x.y.base.length x.y.bc, .int .i64 x.y.t, .slice x.y.oA x.y.ops.length x.y.oc, .slice x.y.uA x.y.us.length x.y.uc, .slice x.y.wA x.y.now.length x.y.wc, .slice x.cA x.l.length x.cc, .int .i64 x.inc, .int .i64 x.mode, .int .i64 x.clock, .int .i64 x.sent, .slice x.pA 0 x.pc, .int .i64 x.late] 44)
  have hok := hx.below hB
  clear hy hx ht hlen
  go_enter Tryz.func15, Tryz.ntmps15
  go_upto_region 1 with fail
  generalize w.alloc (.cells #[.int .i64 x.node, .int .i64 x.boot, .int .i64 x.above, .int .i64 x.pos, .int .i64 x.y.t, .int .i64 x.pos, .slice none 0 0, .int .i64 x.q.f, .int .i64 x.q.g, .slice x.qA x.q.os.length x.qc, .slice none 0 0, .slice none 0 0, .slice none 0 0, .slice none 0 0, .slice x.y.bA x.y.base.length x.y.bc, .int .i64 x.y.t, .slice x.y.oA x.y.ops.length x.y.oc, .slice x.y.uA x.y.us.length x.y.uc, .slice x.y.wA x.y.now.length x.y.wc, .slice x.cA x.l.length x.cc, .int .i64 x.inc, .int .i64 x.mode, .int .i64 x.clock, .int .i64 x.sent, .slice x.pA 0 x.pc, .int .i64 x.late] 44) = W at *
  obtain ⟨n1, h1⟩ : ∃ n1, w.heap.size = n1 := ⟨_, rfl⟩
  rw [h1] at hE ⊢
  clear h1
  have c21 : W.cell? ⟨n1, 21, none⟩ = some (.int .i64 x.mode) := hE.cell 21
  have c18 : W.cell? ⟨n1, 18, none⟩ = some (.slice x.y.wA x.y.now.length x.y.wc) := hE.cell 18
  obtain ⟨md, hmd⟩ : ∃ md, x.mode = md := ⟨_, rfl⟩
  rw [hmd] at c21
  have HMD := Lib.hid hmd
  clear hmd hE
  by_cases hm : md = 1
  · subst hm
    go_wp2_with fail
    refine (CS.out _ hok.p).mono ?_
    rintro e w2 ⟨A', c', rfl, hS, hb2⟩
    go_wp2_with fail
    go_ret2
    exact ⟨A', c', _, true, rfl, hS, Or.inl ⟨HMD.out, rfl, rfl⟩, below_then hB hb2⟩
  · have f3 : (md != 1) = true := bne_iff_ne.2 hm
    have f4 : decide (md = 1) = false := decide_eq_false hm
    have f5 : (md == 1) = false := beq_eq_false_iff_ne.2 hm
    have HM := Lib.hid hm
    clear hm
    go_wp2_with fail
    go_ret2
    exact ⟨none, 0, [], false, rfl, SlV.nil _ _, Or.inr ⟨by rw [HMD.out]; exact HM.out, rfl, rfl⟩, hB⟩
set_option maxRecDepth 100000 in
set_option maxHeartbeats 4000000 in
theorem vector18_any (x : Dw) (w : World) (hl : x.l.length ≤ 1000) (hx : x.ok w) : Calls Tryz.prog 14 #[.agg #[.int .i64 x.node, .int .i64 x.boot, .int .i64 x.above, .int .i64 x.pos, .int .i64 x.y.t, .int .i64 x.pos, .slice none 0 0, .int .i64 x.q.f, .int .i64 x.q.g, .slice x.qA x.q.os.length x.qc, .slice none 0 0, .slice none 0 0, .slice none 0 0, .slice none 0 0, .slice x.y.bA x.y.base.length x.y.bc, .int .i64 x.y.t, .slice x.y.oA x.y.ops.length x.y.oc, .slice x.y.uA x.y.us.length x.y.uc, .slice x.y.wA x.y.now.length x.y.wc, .slice x.cA x.l.length x.cc, .int .i64 x.inc, .int .i64 x.mode, .int .i64 x.clock, .int .i64 x.sent, .slice x.pA 0 x.pc, .int .i64 x.late]] w fun e w' => ∃ (A : Option Addr) (c : Nat), e = .returned (.slice A (vectorD x.v).length c) ∧ SlV cnE w' A c (vectorD x.v) ∧ Below w.heap.size w w' := by
  have CC := Lib.hid (fun (wx : World) (h : x.ok wx) => cloneCnT_any x.cA x.cc x.l wx (by omega) h.c)
  have CT := Lib.hid (fun (wx : World) (h : x.ok wx) => tallyT_any x.cA x.cc x.l ⟨1, 0, 0, vecO x⟩ wx hl h.c)
  have HVV : Hid (vectorD x.v = if 0 < x.sent ∨ 1 < x.inc then tally x.l ⟨1, 0, 0, vecO x⟩ else x.l) := Lib.hid rfl
  obtain ⟨R, hR⟩ : ∃ R, vectorD x.v = R := ⟨_, rfl⟩
  rw [hR] at HVV ⊢
  clear hR
  have hE : dzE.In (w.alloc (.cells #[.int .i64 x.node, .int .i64 x.boot, .int .i64 x.above, .int .i64 x.pos, .int .i64 x.y.t, .int .i64 x.pos, .slice none 0 0, .int .i64 x.q.f, .int .i64 x.q.g, .slice x.qA x.q.os.length x.qc, .slice none 0 0, .slice none 0 0, .slice none 0 0, .slice none 0 0, .slice x.y.bA x.y.base.length x.y.bc, .int .i64 x.y.t, .slice x.y.oA x.y.ops.length x.y.oc, .slice x.y.uA x.y.us.length x.y.uc, .slice x.y.wA x.y.now.length x.y.wc, .slice x.cA x.l.length x.cc, .int .i64 x.inc, .int .i64 x.mode, .int .i64 x.clock, .int .i64 x.sent, .slice x.pA 0 x.pc, .int .i64 x.late] 44)) w.heap.size x.z := El.In.new (E := dzE) w x.z _ rfl
  have hB := below_alloc (Below.refl w.heap.size w) (.cells #[.int .i64 x.node, .int .i64 x.boot, .int .i64 x.above, .int .i64 x.pos, .int .i64 x.y.t, .int .i64 x.pos, .slice none 0 0, .int .i64 x.q.f, .int .i64 x.q.g, .slice x.qA x.q.os.length x.qc, .slice none 0 0, .slice none 0 0, .slice none 0 0, .slice none 0 0, .slice x.y.bA x.y.base.length x.y.bc, .int .i64 x.y.t, .slice x.y.oA x.y.ops.length x.y.oc, .slice x.y.uA x.y.us.length x.y.uc, .slice x.y.wA x.y.now.length x.y.wc, .slice x.cA x.l.length x.cc, .int .i64 x.inc, .int .i64 x.mode, .int .i64 x.clock, .int .i64 x.sent, .slice x.pA 0 x.pc, .int .i64 x.late] 44)
  have hok := hx.below hB
  clear hx hl
  go_enter Tryz.func14, Tryz.ntmps14
  go_upto_region 1 with fail
  generalize w.alloc (.cells #[.int .i64 x.node, .int .i64 x.boot, .int .i64 x.above, .int .i64 x.pos, .int .i64 x.y.t, .int .i64 x.pos, .slice none 0 0, .int .i64 x.q.f, .int .i64 x.q.g, .slice x.qA x.q.os.length x.qc, .slice none 0 0, .slice none 0 0, .slice none 0 0, .slice none 0 0, .slice x.y.bA x.y.base.length x.y.bc, .int .i64 x.y.t, .slice x.y.oA x.y.ops.length x.y.oc, .slice x.y.uA x.y.us.length x.y.uc, .slice x.y.wA x.y.now.length x.y.wc, .slice x.cA x.l.length x.cc, .int .i64 x.inc, .int .i64 x.mode, .int .i64 x.clock, .int .i64 x.sent, .slice x.pA 0 x.pc, .int .i64 x.late] 44) = W at *
  obtain ⟨n1, h1⟩ : ∃ n1, w.heap.size = n1 := ⟨_, rfl⟩
  rw [h1] at hE ⊢
  clear h1
  obtain ⟨z0, z1, z2, z3, z4, z5, z7, z9, z15, z18, z19, z20, z21, z22, z23, z24, z25⟩ := dzIn hE
  replace z0 : W.cell? ⟨n1, 0, none⟩ = some (.int .i64 x.node) := z0
  replace z19 : W.cell? ⟨n1, 19, none⟩ = some (.slice x.cA x.l.length x.cc) := z19
  replace z20 : W.cell? ⟨n1, 20, none⟩ = some (.int .i64 x.inc) := z20
  replace z23 : W.cell? ⟨n1, 23, none⟩ = some (.int .i64 x.sent) := z23
  clear z1 z2 z3 z4 z5 z7 z9 z15 z18 z21 z22 z24 z25
  by_cases h : 0 < x.sent ∨ 1 < x.inc
  · have HR := Lib.hid (show R = tally x.l ⟨1, 0, 0, vecO x⟩ by rw [HVV.out, if_pos h])
    have hz5 : opE.In (W.alloc (.cells #[.int .i64 0, .int .i64 0, .int .i64 0, .int .i64 0, .int .i64 0, .int .i64 0, .string ⟨#[]⟩] 55)) W.heap.size zeroMv := El.In.new (E := opE) W zeroMv #[.int .i64 0, .int .i64 0, .int .i64 0, .int .i64 0, .int .i64 0, .int .i64 0, .string ⟨#[]⟩] rfl
    have hal := below_setRow (below_alloc (Below.refl W.heap.size W) (.cells #[.int .i64 0, .int .i64 0, .int .i64 0, .int .i64 0, .int .i64 0, .int .i64 0, .string ⟨#[]⟩] 55)) (Nat.le_refl _) #[.int .i64 (vecO x).C, .int .i64 (vecO x).D, .int .i64 (vecO x).I, .int .i64 (vecO x).M, .int .i64 (vecO x).K, .int .i64 (vecO x).U, .string (vecO x).s]
    have hM := hz5.set (vecO x) #[.int .i64 (vecO x).C, .int .i64 (vecO x).D, .int .i64 (vecO x).I, .int .i64 (vecO x).M, .int .i64 (vecO x).K, .int .i64 (vecO x).U, .string (vecO x).s] rfl
    by_cases h0 : x.sent ≤ 0
    · have f1 : decide (x.sent ≤ 0) = true := decide_eq_true h0
      have f2 : decide (x.inc ≤ 1) = false := decide_eq_false (by omega)
      clear h h0
      go_upto_region 4 with (first | (refine El.store opRow rfl _ _ rfl W.heap.size (vecO x) #[.int .i64 (vecO x).C, .int .i64 (vecO x).D, .int .i64 (vecO x).I, .int .i64 (vecO x).M, .int .i64 (vecO x).K, .int .i64 (vecO x).U, .string (vecO x).s] rfl rfl rfl zeroMv hz5 ?_) | fail)
      replace hE := hE.below hal
      replace hok := hok.below hal
      replace hB := below_then hB hal
      clear hal hz5 z0 z19 z20 z23
      generalize (W.alloc (.cells #[.int .i64 0, .int .i64 0, .int .i64 0, .int .i64 0, .int .i64 0, .int .i64 0, .string ⟨#[]⟩] 55)).setRow W.heap.size #[.int .i64 (vecO x).C, .int .i64 (vecO x).D, .int .i64 (vecO x).I, .int .i64 (vecO x).M, .int .i64 (vecO x).K, .int .i64 (vecO x).U, .string (vecO x).s] = V at *
      generalize W.heap.size = n5 at *
      have z19 : V.cell? ⟨n1, 19, none⟩ = some (.slice x.cA x.l.length x.cc) := hE.cell 19
      go_wp2_with (first | (refine El.load opRow rfl _ rfl n5 0 rfl (vecO x) hM.at #[.int .i64 (vecO x).C, .int .i64 (vecO x).D, .int .i64 (vecO x).I, .int .i64 (vecO x).M, .int .i64 (vecO x).K, .int .i64 (vecO x).U, .string (vecO x).s] rfl ?_) | fail)
      refine (CT.out _ hok).mono ?_
      rintro e w2 ⟨A', c', rfl, hS, _, hb2⟩
      go_wp2_with fail
      go_ret
      exact ⟨A', c', by rw [HR.out]; rfl, by rw [HR.out]; exact hS, below_then hB hb2⟩
    · have f1 : decide (x.sent ≤ 0) = false := decide_eq_false h0
      clear h h0
      go_upto_region 4 with (first | (refine El.store opRow rfl _ _ rfl W.heap.size (vecO x) #[.int .i64 (vecO x).C, .int .i64 (vecO x).D, .int .i64 (vecO x).I, .int .i64 (vecO x).M, .int .i64 (vecO x).K, .int .i64 (vecO x).U, .string (vecO x).s] rfl rfl rfl zeroMv hz5 ?_) | fail)
      replace hE := hE.below hal
      replace hok := hok.below hal
      replace hB := below_then hB hal
      clear hal hz5 z0 z19 z20 z23
      generalize (W.alloc (.cells #[.int .i64 0, .int .i64 0, .int .i64 0, .int .i64 0, .int .i64 0, .int .i64 0, .string ⟨#[]⟩] 55)).setRow W.heap.size #[.int .i64 (vecO x).C, .int .i64 (vecO x).D, .int .i64 (vecO x).I, .int .i64 (vecO x).M, .int .i64 (vecO x).K, .int .i64 (vecO x).U, .string (vecO x).s] = V at *
      generalize W.heap.size = n5 at *
      have z19 : V.cell? ⟨n1, 19, none⟩ = some (.slice x.cA x.l.length x.cc) := hE.cell 19
      go_wp2_with (first | (refine El.load opRow rfl _ rfl n5 0 rfl (vecO x) hM.at #[.int .i64 (vecO x).C, .int .i64 (vecO x).D, .int .i64 (vecO x).I, .int .i64 (vecO x).M, .int .i64 (vecO x).K, .int .i64 (vecO x).U, .string (vecO x).s] rfl ?_) | fail)
      refine (CT.out _ hok).mono ?_
      rintro e w2 ⟨A', c', rfl, hS, _, hb2⟩
      go_wp2_with fail
      go_ret
      exact ⟨A', c', by rw [HR.out]; rfl, by rw [HR.out]; exact hS, below_then hB hb2⟩
  · have HR := Lib.hid (show R = x.l by rw [HVV.out, if_neg h])
    have f1 : decide (x.sent ≤ 0) = true := decide_eq_true (by omega)
    have f2 : decide (x.inc ≤ 1) = true := decide_eq_true (by omega)
    clear h CT HVV
    go_wp2_with fail
    refine (CC.out _ hok).mono ?_
    rintro e w2 ⟨A', c', rfl, hS, _, hb2⟩
    go_wp2_with fail
    go_ret
    exact ⟨A', c', by rw [HR.out]; rfl, by rw [HR.out]; exact hS, below_then hB hb2⟩
end Go.Proofs.YtdcjffajmckleaaGreatDoor

/- The program's Take, Frame; what the device's functions answer. -/
namespace Go.Proofs.YtdcjffajmckleaaGreatDoor
open Go.RowKit Nam Cod Tre Pst Pln

theorem ta_boxes (p : Pnw) (x : Dw) (m : Fw) (w : World)   :
    pnE.In ((((w.alloc (.cells #[.slice p.A p.p.u.length p.c, .int .i64 p.p.q, .int .i64 p.p.r, .int .i64 p.p.b, .int .i64 p.p.l, .int .i64 p.p.w, .int .i64 p.p.c, .int .i64 p.p.k, .int .i64 p.p.i] 26)).alloc (.cells #[.int .i64 x.node, .int .i64 x.boot, .int .i64 x.above, .int .i64 x.pos, .int .i64 x.y.t, .int .i64 x.pos, .slice none 0 0, .int .i64 x.q.f, .int .i64 x.q.g, .slice x.qA x.q.os.length x.qc, .slice none 0 0, .slice none 0 0, .slice none 0 0, .slice none 0 0, .slice x.y.bA x.y.base.length x.y.bc, .int .i64 x.y.t, .slice x.y.oA x.y.ops.length x.y.oc, .slice x.y.uA x.y.us.length x.y.uc, .slice x.y.wA x.y.now.length x.y.wc, .slice x.cA x.l.length x.cc, .int .i64 x.inc, .int .i64 x.mode, .int .i64 x.clock, .int .i64 x.sent, .slice x.pA 0 x.pc, .int .i64 x.late] 44)).alloc (.cells #[.int .i64 m.x.a, .int .i64 m.x.b, .int .i64 m.x.boot, .int .i64 m.x.first, .slice m.oA m.x.os.length m.oc, .int .i64 m.x.pos, .slice m.rA m.x.rs.length m.rc, .int .i64 m.x.start, .slice m.eA m.x.es.length m.ec, .int .i64 m.x.ack, .int .i64 m.x.grant, .int .i64 m.x.s, .int .i64 m.x.t, .slice m.gA m.x.gs.length m.gc] 65)).alloc (.cells #[.int .i64 0, .int .i64 0, .int .i64 0, .int .i64 0, .int .i64 0, .int .i64 0, .slice none 0 0, .int .i64 0, .int .i64 0, .slice none 0 0, .slice none 0 0, .slice none 0 0, .slice none 0 0, .slice none 0 0, .slice none 0 0, .int .i64 0, .slice none 0 0, .slice none 0 0, .slice none 0 0, .slice none 0 0, .int .i64 0, .int .i64 0, .int .i64 0, .int .i64 0, .slice none 0 0, .int .i64 0] 44)) w.heap.size p ∧ dzE.In ((((w.alloc (.cells #[.slice p.A p.p.u.length p.c, .int .i64 p.p.q, .int .i64 p.p.r, .int .i64 p.p.b, .int .i64 p.p.l, .int .i64 p.p.w, .int .i64 p.p.c, .int .i64 p.p.k, .int .i64 p.p.i] 26)).alloc (.cells #[.int .i64 x.node, .int .i64 x.boot, .int .i64 x.above, .int .i64 x.pos, .int .i64 x.y.t, .int .i64 x.pos, .slice none 0 0, .int .i64 x.q.f, .int .i64 x.q.g, .slice x.qA x.q.os.length x.qc, .slice none 0 0, .slice none 0 0, .slice none 0 0, .slice none 0 0, .slice x.y.bA x.y.base.length x.y.bc, .int .i64 x.y.t, .slice x.y.oA x.y.ops.length x.y.oc, .slice x.y.uA x.y.us.length x.y.uc, .slice x.y.wA x.y.now.length x.y.wc, .slice x.cA x.l.length x.cc, .int .i64 x.inc, .int .i64 x.mode, .int .i64 x.clock, .int .i64 x.sent, .slice x.pA 0 x.pc, .int .i64 x.late] 44)).alloc (.cells #[.int .i64 m.x.a, .int .i64 m.x.b, .int .i64 m.x.boot, .int .i64 m.x.first, .slice m.oA m.x.os.length m.oc, .int .i64 m.x.pos, .slice m.rA m.x.rs.length m.rc, .int .i64 m.x.start, .slice m.eA m.x.es.length m.ec, .int .i64 m.x.ack, .int .i64 m.x.grant, .int .i64 m.x.s, .int .i64 m.x.t, .slice m.gA m.x.gs.length m.gc] 65)).alloc (.cells #[.int .i64 0, .int .i64 0, .int .i64 0, .int .i64 0, .int .i64 0, .int .i64 0, .slice none 0 0, .int .i64 0, .int .i64 0, .slice none 0 0, .slice none 0 0, .slice none 0 0, .slice none 0 0, .slice none 0 0, .slice none 0 0, .int .i64 0, .slice none 0 0, .slice none 0 0, .slice none 0 0, .slice none 0 0, .int .i64 0, .int .i64 0, .int .i64 0, .int .i64 0, .slice none 0 0, .int .i64 0] 44)) (w.heap.size + 1) x.z ∧ frE.In ((((w.alloc (.cells #[.slice p.A p.p.u.length p.c, .int .i64 p.p.q, .int .i64 p.p.r, .int .i64 p.p.b, .int .i64 p.p.l, .int .i64 p.p.w, .int .i64 p.p.c, .int .i64 p.p.k, .int .i64 p.p.i] 26)).alloc (.cells #[.int .i64 x.node, .int .i64 x.boot, .int .i64 x.above, .int .i64 x.pos, .int .i64 x.y.t, .int .i64 x.pos, .slice none 0 0, .int .i64 x.q.f, .int .i64 x.q.g, .slice x.qA x.q.os.length x.qc, .slice none 0 0, .slice none 0 0, .slice none 0 0, .slice none 0 0, .slice x.y.bA x.y.base.length x.y.bc, .int .i64 x.y.t, .slice x.y.oA x.y.ops.length x.y.oc, .slice x.y.uA x.y.us.length x.y.uc, .slice x.y.wA x.y.now.length x.y.wc, .slice x.cA x.l.length x.cc, .int .i64 x.inc, .int .i64 x.mode, .int .i64 x.clock, .int .i64 x.sent, .slice x.pA 0 x.pc, .int .i64 x.late] 44)).alloc (.cells #[.int .i64 m.x.a, .int .i64 m.x.b, .int .i64 m.x.boot, .int .i64 m.x.first, .slice m.oA m.x.os.length m.oc, .int .i64 m.x.pos, .slice m.rA m.x.rs.length m.rc, .int .i64 m.x.start, .slice m.eA m.x.es.length m.ec, .int .i64 m.x.ack, .int .i64 m.x.grant, .int .i64 m.x.s, .int .i64 m.x.t, .slice m.gA m.x.gs.length m.gc] 65)).alloc (.cells #[.int .i64 0, .int .i64 0, .int .i64 0, .int .i64 0, .int .i64 0, .int .i64 0, .slice none 0 0, .int .i64 0, .int .i64 0, .slice none 0 0, .slice none 0 0, .slice none 0 0, .slice none 0 0, .slice none 0 0, .slice none 0 0, .int .i64 0, .slice none 0 0, .slice none 0 0, .slice none 0 0, .slice none 0 0, .int .i64 0, .int .i64 0, .int .i64 0, .int .i64 0, .slice none 0 0, .int .i64 0] 44)) (w.heap.size + 2) m ∧ dvE.In ((((w.alloc (.cells #[.slice p.A p.p.u.length p.c, .int .i64 p.p.q, .int .i64 p.p.r, .int .i64 p.p.b, .int .i64 p.p.l, .int .i64 p.p.w, .int .i64 p.p.c, .int .i64 p.p.k, .int .i64 p.p.i] 26)).alloc (.cells #[.int .i64 x.node, .int .i64 x.boot, .int .i64 x.above, .int .i64 x.pos, .int .i64 x.y.t, .int .i64 x.pos, .slice none 0 0, .int .i64 x.q.f, .int .i64 x.q.g, .slice x.qA x.q.os.length x.qc, .slice none 0 0, .slice none 0 0, .slice none 0 0, .slice none 0 0, .slice x.y.bA x.y.base.length x.y.bc, .int .i64 x.y.t, .slice x.y.oA x.y.ops.length x.y.oc, .slice x.y.uA x.y.us.length x.y.uc, .slice x.y.wA x.y.now.length x.y.wc, .slice x.cA x.l.length x.cc, .int .i64 x.inc, .int .i64 x.mode, .int .i64 x.clock, .int .i64 x.sent, .slice x.pA 0 x.pc, .int .i64 x.late] 44)).alloc (.cells #[.int .i64 m.x.a, .int .i64 m.x.b, .int .i64 m.x.boot, .int .i64 m.x.first, .slice m.oA m.x.os.length m.oc, .int .i64 m.x.pos, .slice m.rA m.x.rs.length m.rc, .int .i64 m.x.start, .slice m.eA m.x.es.length m.ec, .int .i64 m.x.ack, .int .i64 m.x.grant, .int .i64 m.x.s, .int .i64 m.x.t, .slice m.gA m.x.gs.length m.gc] 65)).alloc (.cells #[.int .i64 0, .int .i64 0, .int .i64 0, .int .i64 0, .int .i64 0, .int .i64 0, .slice none 0 0, .int .i64 0, .int .i64 0, .slice none 0 0, .slice none 0 0, .slice none 0 0, .slice none 0 0, .slice none 0 0, .slice none 0 0, .int .i64 0, .slice none 0 0, .slice none 0 0, .slice none 0 0, .slice none 0 0, .int .i64 0, .int .i64 0, .int .i64 0, .int .i64 0, .slice none 0 0, .int .i64 0] 44)) (w.heap.size + 3) Dw.zero ∧ Below w.heap.size w ((((w.alloc (.cells #[.slice p.A p.p.u.length p.c, .int .i64 p.p.q, .int .i64 p.p.r, .int .i64 p.p.b, .int .i64 p.p.l, .int .i64 p.p.w, .int .i64 p.p.c, .int .i64 p.p.k, .int .i64 p.p.i] 26)).alloc (.cells #[.int .i64 x.node, .int .i64 x.boot, .int .i64 x.above, .int .i64 x.pos, .int .i64 x.y.t, .int .i64 x.pos, .slice none 0 0, .int .i64 x.q.f, .int .i64 x.q.g, .slice x.qA x.q.os.length x.qc, .slice none 0 0, .slice none 0 0, .slice none 0 0, .slice none 0 0, .slice x.y.bA x.y.base.length x.y.bc, .int .i64 x.y.t, .slice x.y.oA x.y.ops.length x.y.oc, .slice x.y.uA x.y.us.length x.y.uc, .slice x.y.wA x.y.now.length x.y.wc, .slice x.cA x.l.length x.cc, .int .i64 x.inc, .int .i64 x.mode, .int .i64 x.clock, .int .i64 x.sent, .slice x.pA 0 x.pc, .int .i64 x.late] 44)).alloc (.cells #[.int .i64 m.x.a, .int .i64 m.x.b, .int .i64 m.x.boot, .int .i64 m.x.first, .slice m.oA m.x.os.length m.oc, .int .i64 m.x.pos, .slice m.rA m.x.rs.length m.rc, .int .i64 m.x.start, .slice m.eA m.x.es.length m.ec, .int .i64 m.x.ack, .int .i64 m.x.grant, .int .i64 m.x.s, .int .i64 m.x.t, .slice m.gA m.x.gs.length m.gc] 65)).alloc (.cells #[.int .i64 0, .int .i64 0, .int .i64 0, .int .i64 0, .int .i64 0, .int .i64 0, .slice none 0 0, .int .i64 0, .int .i64 0, .slice none 0 0, .slice none 0 0, .slice none 0 0, .slice none 0 0, .slice none 0 0, .slice none 0 0, .int .i64 0, .slice none 0 0, .slice none 0 0, .slice none 0 0, .slice none 0 0, .int .i64 0, .int .i64 0, .int .i64 0, .int .i64 0, .slice none 0 0, .int .i64 0] 44)) := by
  have b0 := below_alloc (Below.refl w.heap.size w) (.cells #[.slice p.A p.p.u.length p.c, .int .i64 p.p.q, .int .i64 p.p.r, .int .i64 p.p.b, .int .i64 p.p.l, .int .i64 p.p.w, .int .i64 p.p.c, .int .i64 p.p.k, .int .i64 p.p.i] 26)
  have b1 := below_alloc (Below.refl (w.alloc (.cells #[.slice p.A p.p.u.length p.c, .int .i64 p.p.q, .int .i64 p.p.r, .int .i64 p.p.b, .int .i64 p.p.l, .int .i64 p.p.w, .int .i64 p.p.c, .int .i64 p.p.k, .int .i64 p.p.i] 26)).heap.size (w.alloc (.cells #[.slice p.A p.p.u.length p.c, .int .i64 p.p.q, .int .i64 p.p.r, .int .i64 p.p.b, .int .i64 p.p.l, .int .i64 p.p.w, .int .i64 p.p.c, .int .i64 p.p.k, .int .i64 p.p.i] 26))) (.cells #[.int .i64 x.node, .int .i64 x.boot, .int .i64 x.above, .int .i64 x.pos, .int .i64 x.y.t, .int .i64 x.pos, .slice none 0 0, .int .i64 x.q.f, .int .i64 x.q.g, .slice x.qA x.q.os.length x.qc, .slice none 0 0, .slice none 0 0, .slice none 0 0, .slice none 0 0, .slice x.y.bA x.y.base.length x.y.bc, .int .i64 x.y.t, .slice x.y.oA x.y.ops.length x.y.oc, .slice x.y.uA x.y.us.length x.y.uc, .slice x.y.wA x.y.now.length x.y.wc, .slice x.cA x.l.length x.cc, .int .i64 x.inc, .int .i64 x.mode, .int .i64 x.clock, .int .i64 x.sent, .slice x.pA 0 x.pc, .int .i64 x.late] 44)
  have b2 := below_alloc (Below.refl ((w.alloc (.cells #[.slice p.A p.p.u.length p.c, .int .i64 p.p.q, .int .i64 p.p.r, .int .i64 p.p.b, .int .i64 p.p.l, .int .i64 p.p.w, .int .i64 p.p.c, .int .i64 p.p.k, .int .i64 p.p.i] 26)).alloc (.cells #[.int .i64 x.node, .int .i64 x.boot, .int .i64 x.above, .int .i64 x.pos, .int .i64 x.y.t, .int .i64 x.pos, .slice none 0 0, .int .i64 x.q.f, .int .i64 x.q.g, .slice x.qA x.q.os.length x.qc, .slice none 0 0, .slice none 0 0, .slice none 0 0, .slice none 0 0, .slice x.y.bA x.y.base.length x.y.bc, .int .i64 x.y.t, .slice x.y.oA x.y.ops.length x.y.oc, .slice x.y.uA x.y.us.length x.y.uc, .slice x.y.wA x.y.now.length x.y.wc, .slice x.cA x.l.length x.cc, .int .i64 x.inc, .int .i64 x.mode, .int .i64 x.clock, .int .i64 x.sent, .slice x.pA 0 x.pc, .int .i64 x.late] 44)).heap.size ((w.alloc (.cells #[.slice p.A p.p.u.length p.c, .int .i64 p.p.q, .int .i64 p.p.r, .int .i64 p.p.b, .int .i64 p.p.l, .int .i64 p.p.w, .int .i64 p.p.c, .int .i64 p.p.k, .int .i64 p.p.i] 26)).alloc (.cells #[.int .i64 x.node, .int .i64 x.boot, .int .i64 x.above, .int .i64 x.pos, .int .i64 x.y.t, .int .i64 x.pos, .slice none 0 0, .int .i64 x.q.f, .int .i64 x.q.g, .slice x.qA x.q.os.length x.qc, .slice none 0 0, .slice none 0 0, .slice none 0 0, .slice none 0 0, .slice x.y.bA x.y.base.length x.y.bc, .int .i64 x.y.t, .slice x.y.oA x.y.ops.length x.y.oc, .slice x.y.uA x.y.us.length x.y.uc, .slice x.y.wA x.y.now.length x.y.wc, .slice x.cA x.l.length x.cc, .int .i64 x.inc, .int .i64 x.mode, .int .i64 x.clock, .int .i64 x.sent, .slice x.pA 0 x.pc, .int .i64 x.late] 44))) (.cells #[.int .i64 m.x.a, .int .i64 m.x.b, .int .i64 m.x.boot, .int .i64 m.x.first, .slice m.oA m.x.os.length m.oc, .int .i64 m.x.pos, .slice m.rA m.x.rs.length m.rc, .int .i64 m.x.start, .slice m.eA m.x.es.length m.ec, .int .i64 m.x.ack, .int .i64 m.x.grant, .int .i64 m.x.s, .int .i64 m.x.t, .slice m.gA m.x.gs.length m.gc] 65)
  have b3 := below_alloc (Below.refl (((w.alloc (.cells #[.slice p.A p.p.u.length p.c, .int .i64 p.p.q, .int .i64 p.p.r, .int .i64 p.p.b, .int .i64 p.p.l, .int .i64 p.p.w, .int .i64 p.p.c, .int .i64 p.p.k, .int .i64 p.p.i] 26)).alloc (.cells #[.int .i64 x.node, .int .i64 x.boot, .int .i64 x.above, .int .i64 x.pos, .int .i64 x.y.t, .int .i64 x.pos, .slice none 0 0, .int .i64 x.q.f, .int .i64 x.q.g, .slice x.qA x.q.os.length x.qc, .slice none 0 0, .slice none 0 0, .slice none 0 0, .slice none 0 0, .slice x.y.bA x.y.base.length x.y.bc, .int .i64 x.y.t, .slice x.y.oA x.y.ops.length x.y.oc, .slice x.y.uA x.y.us.length x.y.uc, .slice x.y.wA x.y.now.length x.y.wc, .slice x.cA x.l.length x.cc, .int .i64 x.inc, .int .i64 x.mode, .int .i64 x.clock, .int .i64 x.sent, .slice x.pA 0 x.pc, .int .i64 x.late] 44)).alloc (.cells #[.int .i64 m.x.a, .int .i64 m.x.b, .int .i64 m.x.boot, .int .i64 m.x.first, .slice m.oA m.x.os.length m.oc, .int .i64 m.x.pos, .slice m.rA m.x.rs.length m.rc, .int .i64 m.x.start, .slice m.eA m.x.es.length m.ec, .int .i64 m.x.ack, .int .i64 m.x.grant, .int .i64 m.x.s, .int .i64 m.x.t, .slice m.gA m.x.gs.length m.gc] 65)).heap.size (((w.alloc (.cells #[.slice p.A p.p.u.length p.c, .int .i64 p.p.q, .int .i64 p.p.r, .int .i64 p.p.b, .int .i64 p.p.l, .int .i64 p.p.w, .int .i64 p.p.c, .int .i64 p.p.k, .int .i64 p.p.i] 26)).alloc (.cells #[.int .i64 x.node, .int .i64 x.boot, .int .i64 x.above, .int .i64 x.pos, .int .i64 x.y.t, .int .i64 x.pos, .slice none 0 0, .int .i64 x.q.f, .int .i64 x.q.g, .slice x.qA x.q.os.length x.qc, .slice none 0 0, .slice none 0 0, .slice none 0 0, .slice none 0 0, .slice x.y.bA x.y.base.length x.y.bc, .int .i64 x.y.t, .slice x.y.oA x.y.ops.length x.y.oc, .slice x.y.uA x.y.us.length x.y.uc, .slice x.y.wA x.y.now.length x.y.wc, .slice x.cA x.l.length x.cc, .int .i64 x.inc, .int .i64 x.mode, .int .i64 x.clock, .int .i64 x.sent, .slice x.pA 0 x.pc, .int .i64 x.late] 44)).alloc (.cells #[.int .i64 m.x.a, .int .i64 m.x.b, .int .i64 m.x.boot, .int .i64 m.x.first, .slice m.oA m.x.os.length m.oc, .int .i64 m.x.pos, .slice m.rA m.x.rs.length m.rc, .int .i64 m.x.start, .slice m.eA m.x.es.length m.ec, .int .i64 m.x.ack, .int .i64 m.x.grant, .int .i64 m.x.s, .int .i64 m.x.t, .slice m.gA m.x.gs.length m.gc] 65))) (.cells #[.int .i64 0, .int .i64 0, .int .i64 0, .int .i64 0, .int .i64 0, .int .i64 0, .slice none 0 0, .int .i64 0, .int .i64 0, .slice none 0 0, .slice none 0 0, .slice none 0 0, .slice none 0 0, .slice none 0 0, .slice none 0 0, .int .i64 0, .slice none 0 0, .slice none 0 0, .slice none 0 0, .slice none 0 0, .int .i64 0, .int .i64 0, .int .i64 0, .int .i64 0, .slice none 0 0, .int .i64 0] 44)
  have i0 : pnE.In (w.alloc (.cells #[.slice p.A p.p.u.length p.c, .int .i64 p.p.q, .int .i64 p.p.r, .int .i64 p.p.b, .int .i64 p.p.l, .int .i64 p.p.w, .int .i64 p.p.c, .int .i64 p.p.k, .int .i64 p.p.i] 26)) w.heap.size p := El.In.new (E := pnE) w p _ rfl
  have i1 : dzE.In ((w.alloc (.cells #[.slice p.A p.p.u.length p.c, .int .i64 p.p.q, .int .i64 p.p.r, .int .i64 p.p.b, .int .i64 p.p.l, .int .i64 p.p.w, .int .i64 p.p.c, .int .i64 p.p.k, .int .i64 p.p.i] 26)).alloc (.cells #[.int .i64 x.node, .int .i64 x.boot, .int .i64 x.above, .int .i64 x.pos, .int .i64 x.y.t, .int .i64 x.pos, .slice none 0 0, .int .i64 x.q.f, .int .i64 x.q.g, .slice x.qA x.q.os.length x.qc, .slice none 0 0, .slice none 0 0, .slice none 0 0, .slice none 0 0, .slice x.y.bA x.y.base.length x.y.bc, .int .i64 x.y.t, .slice x.y.oA x.y.ops.length x.y.oc, .slice x.y.uA x.y.us.length x.y.uc, .slice x.y.wA x.y.now.length x.y.wc, .slice x.cA x.l.length x.cc, .int .i64 x.inc, .int .i64 x.mode, .int .i64 x.clock, .int .i64 x.sent, .slice x.pA 0 x.pc, .int .i64 x.late] 44)) (w.alloc (.cells #[.slice p.A p.p.u.length p.c, .int .i64 p.p.q, .int .i64 p.p.r, .int .i64 p.p.b, .int .i64 p.p.l, .int .i64 p.p.w, .int .i64 p.p.c, .int .i64 p.p.k, .int .i64 p.p.i] 26)).heap.size x.z := El.In.new (E := dzE) _ x.z _ rfl
  have i2 : frE.In (((w.alloc (.cells #[.slice p.A p.p.u.length p.c, .int .i64 p.p.q, .int .i64 p.p.r, .int .i64 p.p.b, .int .i64 p.p.l, .int .i64 p.p.w, .int .i64 p.p.c, .int .i64 p.p.k, .int .i64 p.p.i] 26)).alloc (.cells #[.int .i64 x.node, .int .i64 x.boot, .int .i64 x.above, .int .i64 x.pos, .int .i64 x.y.t, .int .i64 x.pos, .slice none 0 0, .int .i64 x.q.f, .int .i64 x.q.g, .slice x.qA x.q.os.length x.qc, .slice none 0 0, .slice none 0 0, .slice none 0 0, .slice none 0 0, .slice x.y.bA x.y.base.length x.y.bc, .int .i64 x.y.t, .slice x.y.oA x.y.ops.length x.y.oc, .slice x.y.uA x.y.us.length x.y.uc, .slice x.y.wA x.y.now.length x.y.wc, .slice x.cA x.l.length x.cc, .int .i64 x.inc, .int .i64 x.mode, .int .i64 x.clock, .int .i64 x.sent, .slice x.pA 0 x.pc, .int .i64 x.late] 44)).alloc (.cells #[.int .i64 m.x.a, .int .i64 m.x.b, .int .i64 m.x.boot, .int .i64 m.x.first, .slice m.oA m.x.os.length m.oc, .int .i64 m.x.pos, .slice m.rA m.x.rs.length m.rc, .int .i64 m.x.start, .slice m.eA m.x.es.length m.ec, .int .i64 m.x.ack, .int .i64 m.x.grant, .int .i64 m.x.s, .int .i64 m.x.t, .slice m.gA m.x.gs.length m.gc] 65)) ((w.alloc (.cells #[.slice p.A p.p.u.length p.c, .int .i64 p.p.q, .int .i64 p.p.r, .int .i64 p.p.b, .int .i64 p.p.l, .int .i64 p.p.w, .int .i64 p.p.c, .int .i64 p.p.k, .int .i64 p.p.i] 26)).alloc (.cells #[.int .i64 x.node, .int .i64 x.boot, .int .i64 x.above, .int .i64 x.pos, .int .i64 x.y.t, .int .i64 x.pos, .slice none 0 0, .int .i64 x.q.f, .int .i64 x.q.g, .slice x.qA x.q.os.length x.qc, .slice none 0 0, .slice none 0 0, .slice none 0 0, .slice none 0 0, .slice x.y.bA x.y.base.length x.y.bc, .int .i64 x.y.t, .slice x.y.oA x.y.ops.length x.y.oc, .slice x.y.uA x.y.us.length x.y.uc, .slice x.y.wA x.y.now.length x.y.wc, .slice x.cA x.l.length x.cc, .int .i64 x.inc, .int .i64 x.mode, .int .i64 x.clock, .int .i64 x.sent, .slice x.pA 0 x.pc, .int .i64 x.late] 44)).heap.size m := El.In.new (E := frE) _ m _ rfl
  have i3 : dvE.In ((((w.alloc (.cells #[.slice p.A p.p.u.length p.c, .int .i64 p.p.q, .int .i64 p.p.r, .int .i64 p.p.b, .int .i64 p.p.l, .int .i64 p.p.w, .int .i64 p.p.c, .int .i64 p.p.k, .int .i64 p.p.i] 26)).alloc (.cells #[.int .i64 x.node, .int .i64 x.boot, .int .i64 x.above, .int .i64 x.pos, .int .i64 x.y.t, .int .i64 x.pos, .slice none 0 0, .int .i64 x.q.f, .int .i64 x.q.g, .slice x.qA x.q.os.length x.qc, .slice none 0 0, .slice none 0 0, .slice none 0 0, .slice none 0 0, .slice x.y.bA x.y.base.length x.y.bc, .int .i64 x.y.t, .slice x.y.oA x.y.ops.length x.y.oc, .slice x.y.uA x.y.us.length x.y.uc, .slice x.y.wA x.y.now.length x.y.wc, .slice x.cA x.l.length x.cc, .int .i64 x.inc, .int .i64 x.mode, .int .i64 x.clock, .int .i64 x.sent, .slice x.pA 0 x.pc, .int .i64 x.late] 44)).alloc (.cells #[.int .i64 m.x.a, .int .i64 m.x.b, .int .i64 m.x.boot, .int .i64 m.x.first, .slice m.oA m.x.os.length m.oc, .int .i64 m.x.pos, .slice m.rA m.x.rs.length m.rc, .int .i64 m.x.start, .slice m.eA m.x.es.length m.ec, .int .i64 m.x.ack, .int .i64 m.x.grant, .int .i64 m.x.s, .int .i64 m.x.t, .slice m.gA m.x.gs.length m.gc] 65)).alloc (.cells #[.int .i64 0, .int .i64 0, .int .i64 0, .int .i64 0, .int .i64 0, .int .i64 0, .slice none 0 0, .int .i64 0, .int .i64 0, .slice none 0 0, .slice none 0 0, .slice none 0 0, .slice none 0 0, .slice none 0 0, .slice none 0 0, .int .i64 0, .slice none 0 0, .slice none 0 0, .slice none 0 0, .slice none 0 0, .int .i64 0, .int .i64 0, .int .i64 0, .int .i64 0, .slice none 0 0, .int .i64 0] 44)) (((w.alloc (.cells #[.slice p.A p.p.u.length p.c, .int .i64 p.p.q, .int .i64 p.p.r, .int .i64 p.p.b, .int .i64 p.p.l, .int .i64 p.p.w, .int .i64 p.p.c, .int .i64 p.p.k, .int .i64 p.p.i] 26)).alloc (.cells #[.int .i64 x.node, .int .i64 x.boot, .int .i64 x.above, .int .i64 x.pos, .int .i64 x.y.t, .int .i64 x.pos, .slice none 0 0, .int .i64 x.q.f, .int .i64 x.q.g, .slice x.qA x.q.os.length x.qc, .slice none 0 0, .slice none 0 0, .slice none 0 0, .slice none 0 0, .slice x.y.bA x.y.base.length x.y.bc, .int .i64 x.y.t, .slice x.y.oA x.y.ops.length x.y.oc, .slice x.y.uA x.y.us.length x.y.uc, .slice x.y.wA x.y.now.length x.y.wc, .slice x.cA x.l.length x.cc, .int .i64 x.inc, .int .i64 x.mode, .int .i64 x.clock, .int .i64 x.sent, .slice x.pA 0 x.pc, .int .i64 x.late] 44)).alloc (.cells #[.int .i64 m.x.a, .int .i64 m.x.b, .int .i64 m.x.boot, .int .i64 m.x.first, .slice m.oA m.x.os.length m.oc, .int .i64 m.x.pos, .slice m.rA m.x.rs.length m.rc, .int .i64 m.x.start, .slice m.eA m.x.es.length m.ec, .int .i64 m.x.ack, .int .i64 m.x.grant, .int .i64 m.x.s, .int .i64 m.x.t, .slice m.gA m.x.gs.length m.gc] 65)).heap.size Dw.zero := El.In.new (E := dvE) _ Dw.zero _ rfl
  rw [alloc_size, alloc_size, alloc_size] at i3
  rw [alloc_size, alloc_size] at i2
  rw [alloc_size] at i1
  exact ⟨((i0.below b1).below b2).below b3, (i1.below b2).below b3, i2.below b3, i3, below_then (below_then (below_then b0 b1) b2) b3⟩
def MergeQ (F : Qw → Qw → Act) (R : Qw → Qw → World → Prop) : Exit → Act → World → Prop
  | .normal, a, w => ∃ x y, a = F x y ∧ R x y w
  | _, _, _ => False
theorem wp_mergeQ {P : Program} {c : Code} {Q : Exit → Act → World → Prop} {a : Act} {w : World} (R : Qw → Qw → World → Prop) {F : Qw → Qw → Act} (h : c.wp P (MergeQ F R) a w) (k : ∀ x y w, R x y w → Q .normal (F x y) w) : c.wp P Q a w :=
  Code.wp_mono (fun e a w h => by
    cases e with
    | normal => obtain ⟨x, y, rfl, hr⟩ := h; exact k x y w hr
    | _ => exact h.elim) h
def TkS (n2 n3 : Nat) (x : Dw) (f : Fw) (w : World) : Prop := w.cell? ⟨n2, 7, none⟩ = some (.int .i64 x.Q.x.f) ∧ w.cell? ⟨n2, 8, none⟩ = some (.int .i64 x.Q.x.g) ∧ w.cell? ⟨n2, 9, none⟩ = some (.slice x.Q.A x.Q.x.os.length x.Q.c) ∧ w.cell? ⟨n3, 9, none⟩ = some (.int .i64 f.x.ack) ∧ w.cell? ⟨n3, 10, none⟩ = some (.int .i64 f.x.grant)
theorem tkS_of {w : World} {n2 n3 : Nat} {z : Dz} {f : Fw} (h : dzE.In w n2 z) (hm : frE.In w n3 f) : TkS n2 n3 z.x f w := ⟨h.cell 7, h.cell 8, h.cell 9, hm.cell 9, hm.cell 10⟩
theorem quN_dv {x : Dv} (h : DvR x) : QuN x.q := ⟨by have := h.qf; omega, by have := h.qg; omega, by have := h.ql; omega⟩
theorem quN_ack {x : Dv} (h : DvR x) (a : Int) : QuN (ackQ x.q a) := by
  rw [ackQ_up]
  have h1 := h.qf
  have h2 := h.qg
  have h3 := h.ql
  have h4 := upQ_le x.q a
  exact ⟨by show -1000000000000000 ≤ x.q.f + (upQ x.q a : Int) ∧ x.q.f + (upQ x.q a : Int) ≤ 1000000000000000; omega, by show -1000000000000000 ≤ x.q.g ∧ x.q.g ≤ 1000000000000000; omega, by show (x.q.os.drop (upQ x.q a)).length ≤ 50000; rw [List.length_drop]; omega⟩
set_option maxRecDepth 100000 in
set_option maxHeartbeats 8000000 in
theorem pTake18_any (p : Pnw) (x : Dw) (f : Fw) (w : World) (up : Int) (hp : PlD p.p x.node up) (hr : DvR x.v) (hf : FrD f.x) (hT : inE.Sl w p.A p.p.u) (hx : x.ok w) (hfo : f.ok w) :
    Calls Tryz.prog 13 #[.agg #[.slice p.A p.p.u.length p.c, .int .i64 p.p.q, .int .i64 p.p.r, .int .i64 p.p.b, .int .i64 p.p.l, .int .i64 p.p.w, .int .i64 p.p.c, .int .i64 p.p.k, .int .i64 p.p.i], .agg #[.int .i64 x.node, .int .i64 x.boot, .int .i64 x.above, .int .i64 x.pos, .int .i64 x.y.t, .int .i64 x.pos, .slice none 0 0, .int .i64 x.q.f, .int .i64 x.q.g, .slice x.qA x.q.os.length x.qc, .slice none 0 0, .slice none 0 0, .slice none 0 0, .slice none 0 0, .slice x.y.bA x.y.base.length x.y.bc, .int .i64 x.y.t, .slice x.y.oA x.y.ops.length x.y.oc, .slice x.y.uA x.y.us.length x.y.uc, .slice x.y.wA x.y.now.length x.y.wc, .slice x.cA x.l.length x.cc, .int .i64 x.inc, .int .i64 x.mode, .int .i64 x.clock, .int .i64 x.sent, .slice x.pA 0 x.pc, .int .i64 x.late], .agg #[.int .i64 f.x.a, .int .i64 f.x.b, .int .i64 f.x.boot, .int .i64 f.x.first, .slice f.oA f.x.os.length f.oc, .int .i64 f.x.pos, .slice f.rA f.x.rs.length f.rc, .int .i64 f.x.start, .slice f.eA f.x.es.length f.ec, .int .i64 f.x.ack, .int .i64 f.x.grant, .int .i64 f.x.s, .int .i64 f.x.t, .slice f.gA f.x.gs.length f.gc]] w fun e w' => ∃ (z : Dw) (n : Int), e = .returned (.tuple #[.agg #[.int .i64 z.node, .int .i64 z.boot, .int .i64 z.above, .int .i64 z.pos, .int .i64 z.y.t, .int .i64 z.pos, .slice none 0 0, .int .i64 z.q.f, .int .i64 z.q.g, .slice z.qA z.q.os.length z.qc, .slice none 0 0, .slice none 0 0, .slice none 0 0, .slice none 0 0, .slice z.y.bA z.y.base.length z.y.bc, .int .i64 z.y.t, .slice z.y.oA z.y.ops.length z.y.oc, .slice z.y.uA z.y.us.length z.y.uc, .slice z.y.wA z.y.now.length z.y.wc, .slice z.cA z.l.length z.cc, .int .i64 z.inc, .int .i64 z.mode, .int .i64 z.clock, .int .i64 z.sent, .slice z.pA 0 z.pc, .int .i64 z.late], .int .i64 n]) ∧ z.ok w' ∧ takeD up x.v f.x = (z.v, n) ∧ Below w.heap.size w w' := by
  obtain ⟨hP, hE, hM, hR, hB⟩ := ta_boxes p x f w
  obtain ⟨rv, hrv⟩ : ∃ rv, takeD up x.v f.x = rv := ⟨_, rfl⟩
  rw [hrv]
  have HRV := Lib.hid hrv
  have hok := hx.below hB
  have HFO := Lib.hid hfo
  have HTW := Lib.hid (hT.below hB)
  have CP := Lib.hid (fun (wx : World) (h : inE.Sl wx p.A p.p.u) => parent_any p x.node up wx hp h)
  have HR := Lib.hid hr
  have HF := Lib.hid hf
  clear hrv hx hT hp hr hf hfo
  go_enter Tryz.func13, Tryz.ntmps13
  go_upto_region 1 with (first | (refine wpList_alloc_dv rfl rfl ?_) | fail)
  generalize (((w.alloc (.cells #[.slice p.A p.p.u.length p.c, .int .i64 p.p.q, .int .i64 p.p.r, .int .i64 p.p.b, .int .i64 p.p.l, .int .i64 p.p.w, .int .i64 p.p.c, .int .i64 p.p.k, .int .i64 p.p.i] 26)).alloc (.cells #[.int .i64 x.node, .int .i64 x.boot, .int .i64 x.above, .int .i64 x.pos, .int .i64 x.y.t, .int .i64 x.pos, .slice none 0 0, .int .i64 x.q.f, .int .i64 x.q.g, .slice x.qA x.q.os.length x.qc, .slice none 0 0, .slice none 0 0, .slice none 0 0, .slice none 0 0, .slice x.y.bA x.y.base.length x.y.bc, .int .i64 x.y.t, .slice x.y.oA x.y.ops.length x.y.oc, .slice x.y.uA x.y.us.length x.y.uc, .slice x.y.wA x.y.now.length x.y.wc, .slice x.cA x.l.length x.cc, .int .i64 x.inc, .int .i64 x.mode, .int .i64 x.clock, .int .i64 x.sent, .slice x.pA 0 x.pc, .int .i64 x.late] 44)).alloc (.cells #[.int .i64 f.x.a, .int .i64 f.x.b, .int .i64 f.x.boot, .int .i64 f.x.first, .slice f.oA f.x.os.length f.oc, .int .i64 f.x.pos, .slice f.rA f.x.rs.length f.rc, .int .i64 f.x.start, .slice f.eA f.x.es.length f.ec, .int .i64 f.x.ack, .int .i64 f.x.grant, .int .i64 f.x.s, .int .i64 f.x.t, .slice f.gA f.x.gs.length f.gc] 65)).alloc (.cells #[.int .i64 0, .int .i64 0, .int .i64 0, .int .i64 0, .int .i64 0, .int .i64 0, .slice none 0 0, .int .i64 0, .int .i64 0, .slice none 0 0, .slice none 0 0, .slice none 0 0, .slice none 0 0, .slice none 0 0, .slice none 0 0, .int .i64 0, .slice none 0 0, .slice none 0 0, .slice none 0 0, .slice none 0 0, .int .i64 0, .int .i64 0, .int .i64 0, .int .i64 0, .slice none 0 0, .int .i64 0] 44) = W at *
  obtain ⟨n1, h1⟩ : ∃ n1, w.heap.size = n1 := ⟨_, rfl⟩
  obtain ⟨n2, h2⟩ : ∃ n2, w.heap.size + 1 = n2 := ⟨_, rfl⟩
  obtain ⟨n3, h3⟩ : ∃ n3, w.heap.size + 2 = n3 := ⟨_, rfl⟩
  obtain ⟨n4, h4⟩ : ∃ n4, w.heap.size + 3 = n4 := ⟨_, rfl⟩
  have hw2 : w.heap.size ≤ n2 := by omega
  have hw4 : w.heap.size ≤ n4 := by omega
  have e24 : n4 ≠ n2 := by omega
  have e32 : n3 ≠ n2 := by omega
  rw [h4] at hR ⊢
  rw [h3] at hM ⊢
  rw [h2] at hE ⊢
  rw [h1] at hP ⊢
  clear h1 h2 h3 h4
  have c0 : W.cell? ⟨n2, 0, none⟩ = some (.int .i64 x.node) := hE.cell 0
  go_wp2_with (first | (refine El.load pnRow rfl _ rfl n1 0 rfl p hP.at #[.slice p.A p.p.u.length p.c, .int .i64 p.p.q, .int .i64 p.p.r, .int .i64 p.p.b, .int .i64 p.p.l, .int .i64 p.p.w, .int .i64 p.p.c, .int .i64 p.p.k, .int .i64 p.p.i] rfl ?_) | fail)
  refine (CP.out _ HTW.out).mono ?_
  rintro e w2 ⟨rfl, hb2⟩
  replace hE := hE.below hb2
  replace hM := hM.below hb2
  replace hR := hR.below hb2
  replace hok := hok.below hb2
  replace hB := below_then hB hb2
  clear hb2 CP HTW hP c0
  have c0 : w2.cell? ⟨n2, 0, none⟩ = some (.int .i64 x.node) := hE.cell 0
  have c2 : w2.cell? ⟨n2, 2, none⟩ = some (.int .i64 x.above) := hE.cell 2
  have m0 : w2.cell? ⟨n3, 0, none⟩ = some (.int .i64 f.x.a) := hM.cell 0
  have m1 : w2.cell? ⟨n3, 1, none⟩ = some (.int .i64 f.x.b) := hM.cell 1
  have m2 : w2.cell? ⟨n3, 2, none⟩ = some (.int .i64 f.x.boot) := hM.cell 2
  by_cases ha : f.x.a = up
  · have f1 : (f.x.a != up) = false := by simp [ha]
    have f2 : decide (f.x.a = up) = true := decide_eq_true ha
    have f3 : (f.x.a == up) = true := beq_iff_eq.2 ha
    by_cases hb : f.x.b = x.node
    · have f4 : (f.x.b != x.node) = false := by simp [hb]
      have f5 : decide (f.x.b = x.node) = true := decide_eq_true hb
      have f6 : (f.x.b == x.node) = true := beq_iff_eq.2 hb
      have HAB := Lib.hid (show f.x.b = x.v.node ∧ f.x.a = up from ⟨hb, ha⟩)
      clear ha hb
      by_cases hbt : f.x.boot < x.above
      · have f7 : decide (f.x.boot < x.above) = true := decide_eq_true hbt
        have HV2 := Lib.hid (show rv = (x.v, 7) by rw [← HRV.out]; unfold takeD; rw [if_neg (fun e => e HAB.out), if_pos (show f.x.boot < x.v.above from hbt)])
        clear hbt
        go_wp2_with (first | (refine El.load dzRow rfl _ rfl n2 0 rfl x.z hE.at #[.int .i64 x.node, .int .i64 x.boot, .int .i64 x.above, .int .i64 x.pos, .int .i64 x.y.t, .int .i64 x.pos, .slice none 0 0, .int .i64 x.q.f, .int .i64 x.q.g, .slice x.qA x.q.os.length x.qc, .slice none 0 0, .slice none 0 0, .slice none 0 0, .slice none 0 0, .slice x.y.bA x.y.base.length x.y.bc, .int .i64 x.y.t, .slice x.y.oA x.y.ops.length x.y.oc, .slice x.y.uA x.y.us.length x.y.uc, .slice x.y.wA x.y.now.length x.y.wc, .slice x.cA x.l.length x.cc, .int .i64 x.inc, .int .i64 x.mode, .int .i64 x.clock, .int .i64 x.sent, .slice x.pA 0 x.pc, .int .i64 x.late] rfl ?_) | (refine El.store dvRow rfl _ _ rfl n4 x #[.int .i64 x.node, .int .i64 x.boot, .int .i64 x.above, .int .i64 x.pos, .int .i64 x.y.t, .int .i64 x.pos, .slice none 0 0, .int .i64 x.q.f, .int .i64 x.q.g, .slice x.qA x.q.os.length x.qc, .slice none 0 0, .slice none 0 0, .slice none 0 0, .slice none 0 0, .slice x.y.bA x.y.base.length x.y.bc, .int .i64 x.y.t, .slice x.y.oA x.y.ops.length x.y.oc, .slice x.y.uA x.y.us.length x.y.uc, .slice x.y.wA x.y.now.length x.y.wc, .slice x.cA x.l.length x.cc, .int .i64 x.inc, .int .i64 x.mode, .int .i64 x.clock, .int .i64 x.sent, .slice x.pA 0 x.pc, .int .i64 x.late] rfl rfl rfl Dw.zero hR ?_) | fail)
        refine El.ret2 dvRow (hR.set x _ rfl) rfl rfl rfl rfl _ rfl ?_
        refine ⟨x, _, rfl, Dw.ok.keepB hok hR (by_row _ _ _), HV2.out, below_setRow hB hw4 _⟩
      · have f7 : decide (f.x.boot < x.above) = false := decide_eq_false hbt
        have HBT := Lib.hid (show ¬ f.x.boot < x.v.above from hbt)
        clear hbt
        have qf := hE.frozen
        go_upto_region 7 with fail
        clear qf c0 c2 m0 m1 m2
        have g1 := by_cell w2 n2 2 (.int .i64 f.x.boot)
        replace hok : ({ x with above := f.x.boot } : Dw).ok (w2.setCell ⟨n2, 2, none⟩ (.int .i64 f.x.boot)) := by
          obtain ⟨a, b, c, d⟩ := hok.keepZ hE g1
          exact ⟨a, b, c, d⟩
        replace hE := hE.put ({ x with above := f.x.boot } : Dw).z 2 (.int .i64 f.x.boot) rfl
        replace hR := hR.other n2 2 (.int .i64 f.x.boot) e24
        replace hM := hM.other n2 2 (.int .i64 f.x.boot) e32
        replace hB := Below.setCell hB (p := ⟨n2, 2, none⟩) hw2 (.int .i64 f.x.boot)
        clear g1
        generalize w2.setCell ⟨n2, 2, none⟩ (.int .i64 f.x.boot) = V at *
        obtain ⟨y, hy⟩ : ∃ y, ({ x with above := f.x.boot } : Dw) = y := ⟨_, rfl⟩
        have HY := Lib.hid (show y.v = { x.v with above := f.x.boot } by rw [← hy]; rfl)
        have hE2 : dzE.In V n2 y.z := by rw [← hy]; exact hE
        have hq : y.q = x.q := by rw [← hy]
        have CA := Lib.hid (fun (wx : World) (h : SlV opE wx y.qA y.qc y.q.os) => quAck_any y.Q f.x.ack wx (by show QuN y.q; rw [hq]; exact quN_dv HR.out) (by have h := HF.out.n f.x.ack (by simp [frL]); omega) h)
        have HQN := Lib.hid (show QuN (ackQ y.q f.x.ack) by rw [hq]; exact quN_ack HR.out _)
        rw [hy] at hok
        clear hE hy hq
        have hE := hE2
        clear hE2
        apply wp_mergeQ (fun _ qz w' => qz.x = allowQ (ackQ y.q f.x.ack) f.x.grant ∧ dvE.In w' n2 { y with qA := qz.A, qc := qz.c, q := qz.x } ∧ ({ y with qA := qz.A, qc := qz.c, q := qz.x } : Dw).ok w' ∧ frE.In w' n3 f ∧ dvE.In w' n4 Dw.zero ∧ Below w.heap.size w w')
        · refine region_anyG (S := TkS n2 n3 y f) 9 (by kernel_rfl) ?_
          have hd : Below V.heap.size V V.drew := (Below.refl _ _).drew
          replace hE : dzE.In V.drew n2 y.z := hE
          replace hM : frE.In V.drew n3 f := hM
          replace hR : dvE.In V.drew n4 Dw.zero := hR
          replace hok := hok.below hd
          replace hB := hB.drew
          clear hd
          generalize V.drew = X at *
          have hS : TkS n2 n3 y f X := tkS_of hE hM
          refine anyG_take (i := 0) (v := .pointer (some ⟨n2, 7, none⟩)) rfl (by kernel_rfl) (by kernel_rfl) (by kernel_rfl) (by kernel_rfl) (by kernel_rfl) (fun _ _ _ h => h) (Or.inl ⟨by rfl, fun w' hSw => by (obtain ⟨s0, s1, s2, s3, s4⟩ := hSw; go_simp)⟩) hS ?_
          try simp only [Act.put, List.setIfInBounds_toArray, List.set_cons_zero, List.set_cons_succ]
          refine anyG_take (i := 1) (v := .agg #[.int .i64 y.Q.x.f, .int .i64 y.Q.x.g, .slice y.Q.A y.Q.x.os.length y.Q.c]) rfl (by kernel_rfl) (by kernel_rfl) (by kernel_rfl) (by kernel_rfl) (by kernel_rfl) (fun _ _ _ h => h) (Or.inl ⟨by rfl, fun w' hSw => by (obtain ⟨s0, s1, s2, s3, s4⟩ := hSw; go_simp)⟩) hS ?_
          try simp only [Act.put, List.setIfInBounds_toArray, List.set_cons_zero, List.set_cons_succ]
          refine anyG_take (i := 2) (v := .pointer (some ⟨n3, 9, none⟩)) rfl (by kernel_rfl) (by kernel_rfl) (by kernel_rfl) (by kernel_rfl) (by kernel_rfl) (fun _ _ _ h => h) (Or.inl ⟨by rfl, fun w' hSw => by (obtain ⟨s0, s1, s2, s3, s4⟩ := hSw; go_simp)⟩) hS ?_
          try simp only [Act.put, List.setIfInBounds_toArray, List.set_cons_zero, List.set_cons_succ]
          refine anyG_take (i := 3) (v := .int .i64 f.x.ack) rfl (by kernel_rfl) (by kernel_rfl) (by kernel_rfl) (by kernel_rfl) (by kernel_rfl) (fun _ _ _ h => h) (Or.inl ⟨by rfl, fun w' hSw => by (obtain ⟨s0, s1, s2, s3, s4⟩ := hSw; go_simp)⟩) hS ?_
          try simp only [Act.put, List.setIfInBounds_toArray, List.set_cons_zero, List.set_cons_succ]
          refine anyG_take (i := 5) (v := .pointer (some ⟨n3, 10, none⟩)) rfl (by kernel_rfl) (by kernel_rfl) (by kernel_rfl) (by kernel_rfl) (by kernel_rfl) (fun _ _ _ h => h) (Or.inl ⟨by rfl, fun w' hSw => by (obtain ⟨s0, s1, s2, s3, s4⟩ := hSw; go_simp)⟩) hS ?_
          try simp only [Act.put, List.setIfInBounds_toArray, List.set_cons_zero, List.set_cons_succ]
          refine anyG_take (i := 6) (v := .int .i64 f.x.grant) rfl (by kernel_rfl) (by kernel_rfl) (by kernel_rfl) (by kernel_rfl) (by kernel_rfl) (fun _ _ _ h => h) (Or.inl ⟨by rfl, fun w' hSw => by (obtain ⟨s0, s1, s2, s3, s4⟩ := hSw; go_simp)⟩) hS ?_
          try simp only [Act.put, List.setIfInBounds_toArray, List.set_cons_zero, List.set_cons_succ]
          refine anyG_step (rs := [4]) (by kernel_rfl) (by simp) ?_
          refine AllG.cons rfl (fun K hK => ?_) AllG.nil
          go_simp
          refine (CA.out X hok.q).mono ?_
          rintro e W5 ⟨q5, rfl, hq5, hok5, hb5, _⟩
          have HQ5 := Lib.hid hq5
          clear hq5
          replace hE := hE.below hb5
          replace hM := hM.below hb5
          replace hR := hR.below hb5
          replace hok := hok.below hb5
          replace hB := below_then hB hb5
          clear hb5
          try go_wp2_with fail
          refine hK.out _ _ (tkS_of hE hM : TkS n2 n3 y f W5) ?_
          try simp only [Act.put, List.setIfInBounds_toArray, List.set_cons_zero, List.set_cons_succ]
          clear hK hS
          have hS : TkS n2 n3 y f W5 := tkS_of hE hM
          refine anyG_step (rs := [7]) (by kernel_rfl) (by simp) ?_
          refine AllG.cons rfl (fun K hK => ?_) AllG.nil
          go_simp
          refine (quAllow_any q5 f.x.grant W5 (by rw [HQ5.out]; exact HQN.out) hok5).mono ?_
          rintro e W6 ⟨q6, rfl, hq6, hok6, hb6, _⟩
          have HQ6 := Lib.hid (show q6.x = allowQ (ackQ y.q f.x.ack) f.x.grant by rw [hq6, HQ5.out]; rfl)
          clear hq6
          replace hE := hE.below hb6
          replace hM := hM.below hb6
          replace hR := hR.below hb6
          replace hok := hok.below hb6
          replace hB := below_then hB hb6
          clear hb6
          try go_wp2_with fail
          refine hK.out _ _ (tkS_of hE hM : TkS n2 n3 y f W6) ?_
          try simp only [Act.put, List.setIfInBounds_toArray, List.set_cons_zero, List.set_cons_succ]
          clear hK hS
          have hS : TkS n2 n3 y f W6 := tkS_of hE hM
          refine anyG_take (i := 8) (v := .pointer (some ⟨n2, 7, none⟩)) rfl (by kernel_rfl) (by kernel_rfl) (by kernel_rfl) (by kernel_rfl) (by kernel_rfl) (fun _ _ _ h => h) (Or.inl ⟨by rfl, fun w' hSw => by (obtain ⟨s0, s1, s2, s3, s4⟩ := hSw; go_simp)⟩) hS ?_
          try simp only [Act.put, List.setIfInBounds_toArray, List.set_cons_zero, List.set_cons_succ]
          refine anyG_step (rs := [9]) (by kernel_rfl) (by simp) ?_
          refine AllG.last (n := 9) rfl (fun K hK => ?_)
          have hok1 : ({ y with qA := q6.A, qc := q6.c, q := q6.x } : Dw).ok W6 := ⟨hok.p, hok6, hok.c, hok.t⟩
          refine step_store_dz (T := 33) (k := 3) (by kernel_rfl) rfl _ _ rfl n2 7 y.z ({ y with qA := q6.A, qc := q6.c, q := q6.x } : Dw).z [.int .i64 q6.x.f, .int .i64 q6.x.g, .slice q6.A q6.x.os.length q6.c] rfl (by intro v hv; simp only [List.mem_cons, List.not_mem_nil, or_false] at hv; rcases hv with rfl | rfl | rfl <;> rfl) rfl rfl hE rfl (by show 7 + 3 ≤ 26; omega) ?_
          refine hK.out _ _ ?_
          try simp only [Act.put, List.setIfInBounds_toArray, List.set_cons_zero, List.set_cons_succ]
          clear hK hS
          refine anyG_done (by kernel_rfl) ?_ _
          have hgr := by_row W6 n2 (dzE.c ({ y with qA := q6.A, qc := q6.c, q := q6.x } : Dw).z).toArray
          refine ⟨q5, q6, rfl, HQ6.out, ?_, ?_, ?_, ?_, ?_⟩
          · exact hE.set ({ y with qA := q6.A, qc := q6.c, q := q6.x } : Dw).z _ rfl
          · exact hok1.keepZ hE hgr
          · exact hM.rowN n2 _ e32
          · exact hR.rowN n2 _ e24
          · exact below_setRow hB hw2 _
        rintro qy qz W5 ⟨hqz, hE, hok, hM, hR, hB⟩
        obtain ⟨z, hzz⟩ : ∃ z, ({ y with qA := qz.A, qc := qz.c, q := qz.x } : Dw) = z := ⟨_, rfl⟩
        rw [hzz] at hE hok
        have HZ := Lib.hid (show z.v = { x.v with above := f.x.boot, q := allowQ (ackQ x.v.q f.x.ack) f.x.grant } by
          rw [← hzz]
          show ({ y.v with q := qz.x } : Dv) = _
          rw [hqz, HY.out]
          have h2 : y.q = x.v.q := congrArg Dv.q HY.out
          rw [h2])
        clear hzz hqz CA HQN HY
        have hgs := HF.out.gs
        have m13 : W5.cell? ⟨n3, 13, none⟩ = some (.slice f.gA f.x.gs.length f.gc) := hM.cell 13
        rw [hgs] at m13
        have c21 : W5.cell? ⟨n2, 21, none⟩ = some (.int .i64 z.mode) := hE.cell 21
        clear hgs
        go_wp2_with fail
        go_loopw [58] (fun i wr => i = .int .i64 0 ∧ wr = W5) (fun i _ => 0)
        case atStart => exact ⟨rfl, rfl⟩
        case round =>
          obtain ⟨rfl, rfl⟩ := hrel
          obtain ⟨md, hmd⟩ : ∃ md, z.mode = md := ⟨_, rfl⟩
          rw [hmd] at c21
          have HMD := Lib.hid (show x.v.mode = md by rw [← hmd]; exact (congrArg Dv.mode HZ.out).symm)
          clear hmd m13
          by_cases hm : md = 1
          · subst hm
            have hwz : DvW 0 z.v := by
              rw [HZ.out]
              have h := HR.out
              exact ⟨h.pos, h.y, h.yl, h.l.1, h.inc, h.late⟩
            have CF := followed_any z f wr hwz HF.out hok (Fw.ok.below HFO.out hB)
            clear hwz
            obtain ⟨rz, hrz⟩ : ∃ rz, (if z.pos < f.x.s then leaveD z.v else goD (settleD z.v f.x.t) f.x.start f.x.es) = rz := ⟨_, rfl⟩
            rw [hrz] at CF
            have HV2 := Lib.hid (show rv = (rz, 0) by
              rw [← hrz, ← HRV.out, HZ.out]
              unfold takeD
              rw [if_neg (fun e => e HAB.out), if_neg (by have h := HBT.out; omega : ¬ f.x.boot < x.v.above)]
              dsimp only
              rw [if_neg (fun e => e HMD.out)]
              have hpz : z.pos = x.v.pos := congrArg Dv.pos HZ.out
              rw [hpz]
              by_cases hps : x.v.pos < f.x.s
              · rw [if_pos hps, if_pos hps]
              · rw [if_neg hps, if_neg hps]; rfl)
            clear hrz
            go_wp2_with (first | (refine El.load dvRow rfl _ rfl n2 0 rfl z hE.at #[.int .i64 z.node, .int .i64 z.boot, .int .i64 z.above, .int .i64 z.pos, .int .i64 z.y.t, .int .i64 z.pos, .slice none 0 0, .int .i64 z.q.f, .int .i64 z.q.g, .slice z.qA z.q.os.length z.qc, .slice none 0 0, .slice none 0 0, .slice none 0 0, .slice none 0 0, .slice z.y.bA z.y.base.length z.y.bc, .int .i64 z.y.t, .slice z.y.oA z.y.ops.length z.y.oc, .slice z.y.uA z.y.us.length z.y.uc, .slice z.y.wA z.y.now.length z.y.wc, .slice z.cA z.l.length z.cc, .int .i64 z.inc, .int .i64 z.mode, .int .i64 z.clock, .int .i64 z.sent, .slice z.pA 0 z.pc, .int .i64 z.late] rfl ?_) | (refine El.load frRow rfl _ rfl n3 0 rfl f hM.at #[.int .i64 f.x.a, .int .i64 f.x.b, .int .i64 f.x.boot, .int .i64 f.x.first, .slice f.oA f.x.os.length f.oc, .int .i64 f.x.pos, .slice f.rA f.x.rs.length f.rc, .int .i64 f.x.start, .slice f.eA f.x.es.length f.ec, .int .i64 f.x.ack, .int .i64 f.x.grant, .int .i64 f.x.s, .int .i64 f.x.t, .slice f.gA f.x.gs.length f.gc] rfl ?_) | fail)
            refine CF.mono ?_
            rintro e w7 ⟨z', rfl, hz', hzv, hb7⟩
            replace hE := hE.below hb7
            replace hR := hR.below hb7
            replace hB := below_then hB hb7
            rw [← hzv] at HV2
            clear hb7 CF c21 hM hok hzv
            go_upto_region 15 with (first | (refine El.store dvRow rfl _ _ rfl n2 z' #[.int .i64 z'.node, .int .i64 z'.boot, .int .i64 z'.above, .int .i64 z'.pos, .int .i64 z'.y.t, .int .i64 z'.pos, .slice none 0 0, .int .i64 z'.q.f, .int .i64 z'.q.g, .slice z'.qA z'.q.os.length z'.qc, .slice none 0 0, .slice none 0 0, .slice none 0 0, .slice none 0 0, .slice z'.y.bA z'.y.base.length z'.y.bc, .int .i64 z'.y.t, .slice z'.y.oA z'.y.ops.length z'.y.oc, .slice z'.y.uA z'.y.us.length z'.y.uc, .slice z'.y.wA z'.y.now.length z'.y.wc, .slice z'.cA z'.l.length z'.cc, .int .i64 z'.inc, .int .i64 z'.mode, .int .i64 z'.clock, .int .i64 z'.sent, .slice z'.pA 0 z'.pc, .int .i64 z'.late] rfl rfl rfl z hE ?_) | fail)
            have hgr := by_row w7 n2 #[.int .i64 z'.node, .int .i64 z'.boot, .int .i64 z'.above, .int .i64 z'.pos, .int .i64 z'.y.t, .int .i64 z'.pos, .slice none 0 0, .int .i64 z'.q.f, .int .i64 z'.q.g, .slice z'.qA z'.q.os.length z'.qc, .slice none 0 0, .slice none 0 0, .slice none 0 0, .slice none 0 0, .slice z'.y.bA z'.y.base.length z'.y.bc, .int .i64 z'.y.t, .slice z'.y.oA z'.y.ops.length z'.y.oc, .slice z'.y.uA z'.y.us.length z'.y.uc, .slice z'.y.wA z'.y.now.length z'.y.wc, .slice z'.cA z'.l.length z'.cc, .int .i64 z'.inc, .int .i64 z'.mode, .int .i64 z'.clock, .int .i64 z'.sent, .slice z'.pA 0 z'.pc, .int .i64 z'.late]
            have hok := hz'.keepB hE hgr
            replace hR := hR.rowN n2 #[.int .i64 z'.node, .int .i64 z'.boot, .int .i64 z'.above, .int .i64 z'.pos, .int .i64 z'.y.t, .int .i64 z'.pos, .slice none 0 0, .int .i64 z'.q.f, .int .i64 z'.q.g, .slice z'.qA z'.q.os.length z'.qc, .slice none 0 0, .slice none 0 0, .slice none 0 0, .slice none 0 0, .slice z'.y.bA z'.y.base.length z'.y.bc, .int .i64 z'.y.t, .slice z'.y.oA z'.y.ops.length z'.y.oc, .slice z'.y.uA z'.y.us.length z'.y.uc, .slice z'.y.wA z'.y.now.length z'.y.wc, .slice z'.cA z'.l.length z'.cc, .int .i64 z'.inc, .int .i64 z'.mode, .int .i64 z'.clock, .int .i64 z'.sent, .slice z'.pA 0 z'.pc, .int .i64 z'.late] e24
            replace hB := below_setRow hB hw2 #[.int .i64 z'.node, .int .i64 z'.boot, .int .i64 z'.above, .int .i64 z'.pos, .int .i64 z'.y.t, .int .i64 z'.pos, .slice none 0 0, .int .i64 z'.q.f, .int .i64 z'.q.g, .slice z'.qA z'.q.os.length z'.qc, .slice none 0 0, .slice none 0 0, .slice none 0 0, .slice none 0 0, .slice z'.y.bA z'.y.base.length z'.y.bc, .int .i64 z'.y.t, .slice z'.y.oA z'.y.ops.length z'.y.oc, .slice z'.y.uA z'.y.us.length z'.y.uc, .slice z'.y.wA z'.y.now.length z'.y.wc, .slice z'.cA z'.l.length z'.cc, .int .i64 z'.inc, .int .i64 z'.mode, .int .i64 z'.clock, .int .i64 z'.sent, .slice z'.pA 0 z'.pc, .int .i64 z'.late]
            replace hE : dzE.In (w7.setRow n2 #[.int .i64 z'.node, .int .i64 z'.boot, .int .i64 z'.above, .int .i64 z'.pos, .int .i64 z'.y.t, .int .i64 z'.pos, .slice none 0 0, .int .i64 z'.q.f, .int .i64 z'.q.g, .slice z'.qA z'.q.os.length z'.qc, .slice none 0 0, .slice none 0 0, .slice none 0 0, .slice none 0 0, .slice z'.y.bA z'.y.base.length z'.y.bc, .int .i64 z'.y.t, .slice z'.y.oA z'.y.ops.length z'.y.oc, .slice z'.y.uA z'.y.us.length z'.y.uc, .slice z'.y.wA z'.y.now.length z'.y.wc, .slice z'.cA z'.l.length z'.cc, .int .i64 z'.inc, .int .i64 z'.mode, .int .i64 z'.clock, .int .i64 z'.sent, .slice z'.pA 0 z'.pc, .int .i64 z'.late]) n2 z'.z := hE.set z' #[.int .i64 z'.node, .int .i64 z'.boot, .int .i64 z'.above, .int .i64 z'.pos, .int .i64 z'.y.t, .int .i64 z'.pos, .slice none 0 0, .int .i64 z'.q.f, .int .i64 z'.q.g, .slice z'.qA z'.q.os.length z'.qc, .slice none 0 0, .slice none 0 0, .slice none 0 0, .slice none 0 0, .slice z'.y.bA z'.y.base.length z'.y.bc, .int .i64 z'.y.t, .slice z'.y.oA z'.y.ops.length z'.y.oc, .slice z'.y.uA z'.y.us.length z'.y.uc, .slice z'.y.wA z'.y.now.length z'.y.wc, .slice z'.cA z'.l.length z'.cc, .int .i64 z'.inc, .int .i64 z'.mode, .int .i64 z'.clock, .int .i64 z'.sent, .slice z'.pA 0 z'.pc, .int .i64 z'.late] rfl
            clear hgr hz'
            generalize w7.setRow n2 #[.int .i64 z'.node, .int .i64 z'.boot, .int .i64 z'.above, .int .i64 z'.pos, .int .i64 z'.y.t, .int .i64 z'.pos, .slice none 0 0, .int .i64 z'.q.f, .int .i64 z'.q.g, .slice z'.qA z'.q.os.length z'.qc, .slice none 0 0, .slice none 0 0, .slice none 0 0, .slice none 0 0, .slice z'.y.bA z'.y.base.length z'.y.bc, .int .i64 z'.y.t, .slice z'.y.oA z'.y.ops.length z'.y.oc, .slice z'.y.uA z'.y.us.length z'.y.uc, .slice z'.y.wA z'.y.now.length z'.y.wc, .slice z'.cA z'.l.length z'.cc, .int .i64 z'.inc, .int .i64 z'.mode, .int .i64 z'.clock, .int .i64 z'.sent, .slice z'.pA 0 z'.pc, .int .i64 z'.late] = W9 at *
            go_wp2_with (first | (refine El.load dzRow rfl _ rfl n2 0 rfl z'.z hE.at #[.int .i64 z'.node, .int .i64 z'.boot, .int .i64 z'.above, .int .i64 z'.pos, .int .i64 z'.y.t, .int .i64 z'.pos, .slice none 0 0, .int .i64 z'.q.f, .int .i64 z'.q.g, .slice z'.qA z'.q.os.length z'.qc, .slice none 0 0, .slice none 0 0, .slice none 0 0, .slice none 0 0, .slice z'.y.bA z'.y.base.length z'.y.bc, .int .i64 z'.y.t, .slice z'.y.oA z'.y.ops.length z'.y.oc, .slice z'.y.uA z'.y.us.length z'.y.uc, .slice z'.y.wA z'.y.now.length z'.y.wc, .slice z'.cA z'.l.length z'.cc, .int .i64 z'.inc, .int .i64 z'.mode, .int .i64 z'.clock, .int .i64 z'.sent, .slice z'.pA 0 z'.pc, .int .i64 z'.late] rfl ?_) | (refine El.store dvRow rfl _ _ rfl n4 z' #[.int .i64 z'.node, .int .i64 z'.boot, .int .i64 z'.above, .int .i64 z'.pos, .int .i64 z'.y.t, .int .i64 z'.pos, .slice none 0 0, .int .i64 z'.q.f, .int .i64 z'.q.g, .slice z'.qA z'.q.os.length z'.qc, .slice none 0 0, .slice none 0 0, .slice none 0 0, .slice none 0 0, .slice z'.y.bA z'.y.base.length z'.y.bc, .int .i64 z'.y.t, .slice z'.y.oA z'.y.ops.length z'.y.oc, .slice z'.y.uA z'.y.us.length z'.y.uc, .slice z'.y.wA z'.y.now.length z'.y.wc, .slice z'.cA z'.l.length z'.cc, .int .i64 z'.inc, .int .i64 z'.mode, .int .i64 z'.clock, .int .i64 z'.sent, .slice z'.pA 0 z'.pc, .int .i64 z'.late] rfl rfl rfl Dw.zero hR ?_) | fail)
            refine El.ret2 dvRow (hR.set z' _ rfl) rfl rfl rfl rfl _ rfl ?_
            refine ⟨z', _, rfl, Dw.ok.keepB hok hR (by_row _ _ _), HV2.out, below_setRow hB hw4 _⟩
          · have f3 : (md != 1) = true := bne_iff_ne.2 hm
            have f4 : decide (md = 1) = false := decide_eq_false hm
            have f5 : (md == 1) = false := beq_eq_false_iff_ne.2 hm
            have HV2 := Lib.hid (show rv = (z.v, 0) by
              rw [← HRV.out, HZ.out]
              unfold takeD
              rw [if_neg (fun e => e HAB.out), if_neg (by have h := HBT.out; omega : ¬ f.x.boot < x.v.above)]
              dsimp only
              rw [if_pos (by rw [HMD.out]; exact hm)])
            clear hm
            have hE : dzE.In wr n2 z.z := hE
            go_wp2_with (first | (refine El.load dzRow rfl _ rfl n2 0 rfl z.z hE.at #[.int .i64 z.node, .int .i64 z.boot, .int .i64 z.above, .int .i64 z.pos, .int .i64 z.y.t, .int .i64 z.pos, .slice none 0 0, .int .i64 z.q.f, .int .i64 z.q.g, .slice z.qA z.q.os.length z.qc, .slice none 0 0, .slice none 0 0, .slice none 0 0, .slice none 0 0, .slice z.y.bA z.y.base.length z.y.bc, .int .i64 z.y.t, .slice z.y.oA z.y.ops.length z.y.oc, .slice z.y.uA z.y.us.length z.y.uc, .slice z.y.wA z.y.now.length z.y.wc, .slice z.cA z.l.length z.cc, .int .i64 z.inc, .int .i64 z.mode, .int .i64 z.clock, .int .i64 z.sent, .slice z.pA 0 z.pc, .int .i64 z.late] rfl ?_) | (refine El.store dvRow rfl _ _ rfl n4 z #[.int .i64 z.node, .int .i64 z.boot, .int .i64 z.above, .int .i64 z.pos, .int .i64 z.y.t, .int .i64 z.pos, .slice none 0 0, .int .i64 z.q.f, .int .i64 z.q.g, .slice z.qA z.q.os.length z.qc, .slice none 0 0, .slice none 0 0, .slice none 0 0, .slice none 0 0, .slice z.y.bA z.y.base.length z.y.bc, .int .i64 z.y.t, .slice z.y.oA z.y.ops.length z.y.oc, .slice z.y.uA z.y.us.length z.y.uc, .slice z.y.wA z.y.now.length z.y.wc, .slice z.cA z.l.length z.cc, .int .i64 z.inc, .int .i64 z.mode, .int .i64 z.clock, .int .i64 z.sent, .slice z.pA 0 z.pc, .int .i64 z.late] rfl rfl rfl Dw.zero hR ?_) | fail)
            refine El.ret2 dvRow (hR.set z _ rfl) rfl rfl rfl rfl _ rfl ?_
            refine ⟨z, _, rfl, Dw.ok.keepB hok hR (by_row _ _ _), HV2.out, below_setRow hB hw4 _⟩
    · have f4 : (f.x.b != x.node) = true := bne_iff_ne.2 hb
      have f5 : decide (f.x.b = x.node) = false := decide_eq_false hb
      have f6 : (f.x.b == x.node) = false := beq_eq_false_iff_ne.2 hb
      have HV2 := Lib.hid (show rv = (x.v, 1) by rw [← HRV.out]; unfold takeD; rw [if_pos (fun e => hb e.1)])
      clear ha hb
      go_wp2_with (first | (refine El.load dzRow rfl _ rfl n2 0 rfl x.z hE.at #[.int .i64 x.node, .int .i64 x.boot, .int .i64 x.above, .int .i64 x.pos, .int .i64 x.y.t, .int .i64 x.pos, .slice none 0 0, .int .i64 x.q.f, .int .i64 x.q.g, .slice x.qA x.q.os.length x.qc, .slice none 0 0, .slice none 0 0, .slice none 0 0, .slice none 0 0, .slice x.y.bA x.y.base.length x.y.bc, .int .i64 x.y.t, .slice x.y.oA x.y.ops.length x.y.oc, .slice x.y.uA x.y.us.length x.y.uc, .slice x.y.wA x.y.now.length x.y.wc, .slice x.cA x.l.length x.cc, .int .i64 x.inc, .int .i64 x.mode, .int .i64 x.clock, .int .i64 x.sent, .slice x.pA 0 x.pc, .int .i64 x.late] rfl ?_) | (refine El.store dvRow rfl _ _ rfl n4 x #[.int .i64 x.node, .int .i64 x.boot, .int .i64 x.above, .int .i64 x.pos, .int .i64 x.y.t, .int .i64 x.pos, .slice none 0 0, .int .i64 x.q.f, .int .i64 x.q.g, .slice x.qA x.q.os.length x.qc, .slice none 0 0, .slice none 0 0, .slice none 0 0, .slice none 0 0, .slice x.y.bA x.y.base.length x.y.bc, .int .i64 x.y.t, .slice x.y.oA x.y.ops.length x.y.oc, .slice x.y.uA x.y.us.length x.y.uc, .slice x.y.wA x.y.now.length x.y.wc, .slice x.cA x.l.length x.cc, .int .i64 x.inc, .int .i64 x.mode, .int .i64 x.clock, .int .i64 x.sent, .slice x.pA 0 x.pc, .int .i64 x.late] rfl rfl rfl Dw.zero hR ?_) | fail)
      refine El.ret2 dvRow (hR.set x _ rfl) rfl rfl rfl rfl _ rfl ?_
      refine ⟨x, _, rfl, Dw.ok.keepB hok hR (by_row _ _ _), HV2.out, below_setRow hB hw4 _⟩
  · have f1 : (f.x.a != up) = true := bne_iff_ne.2 ha
    have f2 : decide (f.x.a = up) = false := decide_eq_false ha
    have f3 : (f.x.a == up) = false := beq_eq_false_iff_ne.2 ha
    have HV2 := Lib.hid (show rv = (x.v, 1) by rw [← HRV.out]; unfold takeD; rw [if_pos (fun e => ha e.2)])
    clear ha
    go_wp2_with (first | (refine El.load dzRow rfl _ rfl n2 0 rfl x.z hE.at #[.int .i64 x.node, .int .i64 x.boot, .int .i64 x.above, .int .i64 x.pos, .int .i64 x.y.t, .int .i64 x.pos, .slice none 0 0, .int .i64 x.q.f, .int .i64 x.q.g, .slice x.qA x.q.os.length x.qc, .slice none 0 0, .slice none 0 0, .slice none 0 0, .slice none 0 0, .slice x.y.bA x.y.base.length x.y.bc, .int .i64 x.y.t, .slice x.y.oA x.y.ops.length x.y.oc, .slice x.y.uA x.y.us.length x.y.uc, .slice x.y.wA x.y.now.length x.y.wc, .slice x.cA x.l.length x.cc, .int .i64 x.inc, .int .i64 x.mode, .int .i64 x.clock, .int .i64 x.sent, .slice x.pA 0 x.pc, .int .i64 x.late] rfl ?_) | (refine El.store dvRow rfl _ _ rfl n4 x #[.int .i64 x.node, .int .i64 x.boot, .int .i64 x.above, .int .i64 x.pos, .int .i64 x.y.t, .int .i64 x.pos, .slice none 0 0, .int .i64 x.q.f, .int .i64 x.q.g, .slice x.qA x.q.os.length x.qc, .slice none 0 0, .slice none 0 0, .slice none 0 0, .slice none 0 0, .slice x.y.bA x.y.base.length x.y.bc, .int .i64 x.y.t, .slice x.y.oA x.y.ops.length x.y.oc, .slice x.y.uA x.y.us.length x.y.uc, .slice x.y.wA x.y.now.length x.y.wc, .slice x.cA x.l.length x.cc, .int .i64 x.inc, .int .i64 x.mode, .int .i64 x.clock, .int .i64 x.sent, .slice x.pA 0 x.pc, .int .i64 x.late] rfl rfl rfl Dw.zero hR ?_) | fail)
    refine El.ret2 dvRow (hR.set x _ rfl) rfl rfl rfl rfl _ rfl ?_
    refine ⟨x, _, rfl, Dw.ok.keepB hok hR (by_row _ _ _), HV2.out, below_setRow hB hw4 _⟩
end Go.Proofs.YtdcjffajmckleaaGreatDoor

/- The program's Frame; what the device's functions answer. -/
namespace Go.Proofs.YtdcjffajmckleaaGreatDoor
open Go.RowKit Nam Cod Tre Pst Pln

theorem dvAll {w : World} {b : Nat} {x : Dw} (h : dvE.In w b x) : w.cell? ⟨b, 0, none⟩ = some (.int .i64 x.node) ∧ w.cell? ⟨b, 1, none⟩ = some (.int .i64 x.boot) ∧ w.cell? ⟨b, 2, none⟩ = some (.int .i64 x.above) ∧ w.cell? ⟨b, 3, none⟩ = some (.int .i64 x.pos) ∧ w.cell? ⟨b, 4, none⟩ = some (.int .i64 x.y.t) ∧ w.cell? ⟨b, 5, none⟩ = some (.int .i64 x.pos) ∧ w.cell? ⟨b, 6, none⟩ = some (.slice none 0 0) ∧ w.cell? ⟨b, 7, none⟩ = some (.int .i64 x.q.f) ∧ w.cell? ⟨b, 8, none⟩ = some (.int .i64 x.q.g) ∧ w.cell? ⟨b, 9, none⟩ = some (.slice x.qA x.q.os.length x.qc) ∧ w.cell? ⟨b, 10, none⟩ = some (.slice none 0 0) ∧ w.cell? ⟨b, 11, none⟩ = some (.slice none 0 0) ∧ w.cell? ⟨b, 12, none⟩ = some (.slice none 0 0) ∧ w.cell? ⟨b, 13, none⟩ = some (.slice none 0 0) ∧ w.cell? ⟨b, 14, none⟩ = some (.slice x.y.bA x.y.base.length x.y.bc) ∧ w.cell? ⟨b, 15, none⟩ = some (.int .i64 x.y.t) ∧ w.cell? ⟨b, 16, none⟩ = some (.slice x.y.oA x.y.ops.length x.y.oc) ∧ w.cell? ⟨b, 17, none⟩ = some (.slice x.y.uA x.y.us.length x.y.uc) ∧ w.cell? ⟨b, 18, none⟩ = some (.slice x.y.wA x.y.now.length x.y.wc) ∧ w.cell? ⟨b, 19, none⟩ = some (.slice x.cA x.l.length x.cc) ∧ w.cell? ⟨b, 20, none⟩ = some (.int .i64 x.inc) ∧ w.cell? ⟨b, 21, none⟩ = some (.int .i64 x.mode) ∧ w.cell? ⟨b, 22, none⟩ = some (.int .i64 x.clock) ∧ w.cell? ⟨b, 23, none⟩ = some (.int .i64 x.sent) ∧ w.cell? ⟨b, 24, none⟩ = some (.slice x.pA 0 x.pc) ∧ w.cell? ⟨b, 25, none⟩ = some (.int .i64 x.late) :=
  ⟨h.cell 0, h.cell 1, h.cell 2, h.cell 3, h.cell 4, h.cell 5, h.cell 6, h.cell 7, h.cell 8, h.cell 9, h.cell 10, h.cell 11, h.cell 12, h.cell 13, h.cell 14, h.cell 15, h.cell 16, h.cell 17, h.cell 18, h.cell 19, h.cell 20, h.cell 21, h.cell 22, h.cell 23, h.cell 24, h.cell 25⟩
theorem frE_cells (x : Fw) : ∀ v ∈ frE.c x, (∃ k, v = .int .i64 k) ∨ ∃ a m c, v = .slice a m c := by
  intro v hv
  simp only [frE, List.mem_cons, List.not_mem_nil, or_false] at hv
  rcases hv with rfl | rfl | rfl | rfl | rfl | rfl | rfl | rfl | rfl | rfl | rfl | rfl | rfl | rfl <;> first | exact Or.inl ⟨_, rfl⟩ | exact Or.inr ⟨_, _, _, rfl⟩
theorem frE_cell {w : World} {n i : Nat} {v : Value} {x : Fw} (hZ : frE.In w n x) (h : w.cell? ⟨n, i, none⟩ = some v) : (∃ k, v = .int .i64 k) ∨ ∃ a m c, v = .slice a m c := by
  rw [hZ.cell] at h
  exact frE_cells x v (List.mem_of_getElem? h)
theorem El.exec_loadF {α : Type} {E : El α} {P : Program} (R : El.Row E P) {o : Oper} {a : Act} (x : Operand) (ho : o.op = .load E.e x) {b off : Nat} (hx : a.eval x = .pointer (some ⟨b, off, none⟩)) {w : World} {p : α} (h : E.At w b off p) (cs : Array Value) (hc : cs = (E.c p).toArray) : (execOp a.eval o).run P w = .ok (.value (.agg cs)) w := by
  subst hc
  unfold execOp
  simp only [ho, hx, Instr.loadAt, Instr.sureAddr, Sem.run_bind, Sem.run_pure, Result.andThen_ok, El.run_load R h]
def FmS (n1 n2 : Nat) (p : Pnw) (x : Dw) (w : World) : Prop := dvE.In w n2 x ∧ pnE.In w n1 p
def MergeF (F : Option Addr → Nat → Nat → Act) (R : Option Addr → Nat → Nat → World → Prop) : Exit → Act → World → Prop
  | .normal, a, w => ∃ x y z, a = F x y z ∧ R x y z w
  | _, _, _ => False
theorem wp_mergeF {P : Program} {c : Code} {Q : Exit → Act → World → Prop} {a : Act} {w : World} (R : Option Addr → Nat → Nat → World → Prop) {F : Option Addr → Nat → Nat → Act} (h : c.wp P (MergeF F R) a w) (k : ∀ x y z w, R x y z w → Q .normal (F x y z) w) : c.wp P Q a w :=
  Code.wp_mono (fun e a w h => by
    cases e with
    | normal => obtain ⟨x, y, z, rfl, hr⟩ := h; exact k x y z w hr
    | _ => exact h.elim) h
set_option maxRecDepth 100000 in
set_option maxHeartbeats 8000000 in
theorem pFrame18_any (p : Pnw) (x : Dw) (beat : Int) (w : World) (up : Int) (hp : PlD p.p x.node up) (hr : DvR x.v) (hT : inE.Sl w p.A p.p.u) (hx : x.ok w) :
    Calls Tryz.prog 19 #[.agg #[.slice p.A p.p.u.length p.c, .int .i64 p.p.q, .int .i64 p.p.r, .int .i64 p.p.b, .int .i64 p.p.l, .int .i64 p.p.w, .int .i64 p.p.c, .int .i64 p.p.k, .int .i64 p.p.i], .agg #[.int .i64 x.node, .int .i64 x.boot, .int .i64 x.above, .int .i64 x.pos, .int .i64 x.y.t, .int .i64 x.pos, .slice none 0 0, .int .i64 x.q.f, .int .i64 x.q.g, .slice x.qA x.q.os.length x.qc, .slice none 0 0, .slice none 0 0, .slice none 0 0, .slice none 0 0, .slice x.y.bA x.y.base.length x.y.bc, .int .i64 x.y.t, .slice x.y.oA x.y.ops.length x.y.oc, .slice x.y.uA x.y.us.length x.y.uc, .slice x.y.wA x.y.now.length x.y.wc, .slice x.cA x.l.length x.cc, .int .i64 x.inc, .int .i64 x.mode, .int .i64 x.clock, .int .i64 x.sent, .slice x.pA 0 x.pc, .int .i64 x.late], .int .i64 beat] w fun e w' => ∃ f : Fw, e = .returned (.agg #[.int .i64 f.x.a, .int .i64 f.x.b, .int .i64 f.x.boot, .int .i64 f.x.first, .slice f.oA f.x.os.length f.oc, .int .i64 f.x.pos, .slice f.rA f.x.rs.length f.rc, .int .i64 f.x.start, .slice f.eA f.x.es.length f.ec, .int .i64 f.x.ack, .int .i64 f.x.grant, .int .i64 f.x.s, .int .i64 f.x.t, .slice f.gA f.x.gs.length f.gc]) ∧ f.ok w' ∧ f.x = frameD up p.p.b x.v beat ∧ Below w.heap.size w w' := by
  have hP : pnE.In (((w.alloc (.cells #[.slice p.A p.p.u.length p.c, .int .i64 p.p.q, .int .i64 p.p.r, .int .i64 p.p.b, .int .i64 p.p.l, .int .i64 p.p.w, .int .i64 p.p.c, .int .i64 p.p.k, .int .i64 p.p.i] 26)).alloc (.cells #[.int .i64 x.node, .int .i64 x.boot, .int .i64 x.above, .int .i64 x.pos, .int .i64 x.y.t, .int .i64 x.pos, .slice none 0 0, .int .i64 x.q.f, .int .i64 x.q.g, .slice x.qA x.q.os.length x.qc, .slice none 0 0, .slice none 0 0, .slice none 0 0, .slice none 0 0, .slice x.y.bA x.y.base.length x.y.bc, .int .i64 x.y.t, .slice x.y.oA x.y.ops.length x.y.oc, .slice x.y.uA x.y.us.length x.y.uc, .slice x.y.wA x.y.now.length x.y.wc, .slice x.cA x.l.length x.cc, .int .i64 x.inc, .int .i64 x.mode, .int .i64 x.clock, .int .i64 x.sent, .slice x.pA 0 x.pc, .int .i64 x.late] 44)).alloc (.cells #[.int .i64 0, .int .i64 0, .int .i64 0, .int .i64 0, .slice none 0 0, .int .i64 0, .slice none 0 0, .int .i64 0, .slice none 0 0, .int .i64 0, .int .i64 0, .int .i64 0, .int .i64 0, .slice none 0 0] 65)) w.heap.size p := ((El.In.new (E := pnE) w p _ rfl).alloc _).alloc _
  have hE : dvE.In (((w.alloc (.cells #[.slice p.A p.p.u.length p.c, .int .i64 p.p.q, .int .i64 p.p.r, .int .i64 p.p.b, .int .i64 p.p.l, .int .i64 p.p.w, .int .i64 p.p.c, .int .i64 p.p.k, .int .i64 p.p.i] 26)).alloc (.cells #[.int .i64 x.node, .int .i64 x.boot, .int .i64 x.above, .int .i64 x.pos, .int .i64 x.y.t, .int .i64 x.pos, .slice none 0 0, .int .i64 x.q.f, .int .i64 x.q.g, .slice x.qA x.q.os.length x.qc, .slice none 0 0, .slice none 0 0, .slice none 0 0, .slice none 0 0, .slice x.y.bA x.y.base.length x.y.bc, .int .i64 x.y.t, .slice x.y.oA x.y.ops.length x.y.oc, .slice x.y.uA x.y.us.length x.y.uc, .slice x.y.wA x.y.now.length x.y.wc, .slice x.cA x.l.length x.cc, .int .i64 x.inc, .int .i64 x.mode, .int .i64 x.clock, .int .i64 x.sent, .slice x.pA 0 x.pc, .int .i64 x.late] 44)).alloc (.cells #[.int .i64 0, .int .i64 0, .int .i64 0, .int .i64 0, .slice none 0 0, .int .i64 0, .slice none 0 0, .int .i64 0, .slice none 0 0, .int .i64 0, .int .i64 0, .int .i64 0, .int .i64 0, .slice none 0 0] 65)) (w.heap.size + 1) x := by
    have h := (El.In.new (E := dvE) (w.alloc (.cells #[.slice p.A p.p.u.length p.c, .int .i64 p.p.q, .int .i64 p.p.r, .int .i64 p.p.b, .int .i64 p.p.l, .int .i64 p.p.w, .int .i64 p.p.c, .int .i64 p.p.k, .int .i64 p.p.i] 26)) x #[.int .i64 x.node, .int .i64 x.boot, .int .i64 x.above, .int .i64 x.pos, .int .i64 x.y.t, .int .i64 x.pos, .slice none 0 0, .int .i64 x.q.f, .int .i64 x.q.g, .slice x.qA x.q.os.length x.qc, .slice none 0 0, .slice none 0 0, .slice none 0 0, .slice none 0 0, .slice x.y.bA x.y.base.length x.y.bc, .int .i64 x.y.t, .slice x.y.oA x.y.ops.length x.y.oc, .slice x.y.uA x.y.us.length x.y.uc, .slice x.y.wA x.y.now.length x.y.wc, .slice x.cA x.l.length x.cc, .int .i64 x.inc, .int .i64 x.mode, .int .i64 x.clock, .int .i64 x.sent, .slice x.pA 0 x.pc, .int .i64 x.late] rfl).alloc (.cells #[.int .i64 0, .int .i64 0, .int .i64 0, .int .i64 0, .slice none 0 0, .int .i64 0, .slice none 0 0, .int .i64 0, .slice none 0 0, .int .i64 0, .int .i64 0, .int .i64 0, .int .i64 0, .slice none 0 0] 65)
    rw [alloc_size] at h; exact h
  have hF : frE.In (((w.alloc (.cells #[.slice p.A p.p.u.length p.c, .int .i64 p.p.q, .int .i64 p.p.r, .int .i64 p.p.b, .int .i64 p.p.l, .int .i64 p.p.w, .int .i64 p.p.c, .int .i64 p.p.k, .int .i64 p.p.i] 26)).alloc (.cells #[.int .i64 x.node, .int .i64 x.boot, .int .i64 x.above, .int .i64 x.pos, .int .i64 x.y.t, .int .i64 x.pos, .slice none 0 0, .int .i64 x.q.f, .int .i64 x.q.g, .slice x.qA x.q.os.length x.qc, .slice none 0 0, .slice none 0 0, .slice none 0 0, .slice none 0 0, .slice x.y.bA x.y.base.length x.y.bc, .int .i64 x.y.t, .slice x.y.oA x.y.ops.length x.y.oc, .slice x.y.uA x.y.us.length x.y.uc, .slice x.y.wA x.y.now.length x.y.wc, .slice x.cA x.l.length x.cc, .int .i64 x.inc, .int .i64 x.mode, .int .i64 x.clock, .int .i64 x.sent, .slice x.pA 0 x.pc, .int .i64 x.late] 44)).alloc (.cells #[.int .i64 0, .int .i64 0, .int .i64 0, .int .i64 0, .slice none 0 0, .int .i64 0, .slice none 0 0, .int .i64 0, .slice none 0 0, .int .i64 0, .int .i64 0, .int .i64 0, .int .i64 0, .slice none 0 0] 65)) (w.heap.size + 2) zeroFw := by
    have h := El.In.new (E := frE) ((w.alloc (.cells #[.slice p.A p.p.u.length p.c, .int .i64 p.p.q, .int .i64 p.p.r, .int .i64 p.p.b, .int .i64 p.p.l, .int .i64 p.p.w, .int .i64 p.p.c, .int .i64 p.p.k, .int .i64 p.p.i] 26)).alloc (.cells #[.int .i64 x.node, .int .i64 x.boot, .int .i64 x.above, .int .i64 x.pos, .int .i64 x.y.t, .int .i64 x.pos, .slice none 0 0, .int .i64 x.q.f, .int .i64 x.q.g, .slice x.qA x.q.os.length x.qc, .slice none 0 0, .slice none 0 0, .slice none 0 0, .slice none 0 0, .slice x.y.bA x.y.base.length x.y.bc, .int .i64 x.y.t, .slice x.y.oA x.y.ops.length x.y.oc, .slice x.y.uA x.y.us.length x.y.uc, .slice x.y.wA x.y.now.length x.y.wc, .slice x.cA x.l.length x.cc, .int .i64 x.inc, .int .i64 x.mode, .int .i64 x.clock, .int .i64 x.sent, .slice x.pA 0 x.pc, .int .i64 x.late] 44)) zeroFw #[.int .i64 0, .int .i64 0, .int .i64 0, .int .i64 0, .slice none 0 0, .int .i64 0, .slice none 0 0, .int .i64 0, .slice none 0 0, .int .i64 0, .int .i64 0, .int .i64 0, .int .i64 0, .slice none 0 0] rfl
    rw [alloc_size, alloc_size] at h; exact h
  have hB := below_alloc (below_alloc (below_alloc (Below.refl w.heap.size w) (.cells #[.slice p.A p.p.u.length p.c, .int .i64 p.p.q, .int .i64 p.p.r, .int .i64 p.p.b, .int .i64 p.p.l, .int .i64 p.p.w, .int .i64 p.p.c, .int .i64 p.p.k, .int .i64 p.p.i] 26)) (.cells #[.int .i64 x.node, .int .i64 x.boot, .int .i64 x.above, .int .i64 x.pos, .int .i64 x.y.t, .int .i64 x.pos, .slice none 0 0, .int .i64 x.q.f, .int .i64 x.q.g, .slice x.qA x.q.os.length x.qc, .slice none 0 0, .slice none 0 0, .slice none 0 0, .slice none 0 0, .slice x.y.bA x.y.base.length x.y.bc, .int .i64 x.y.t, .slice x.y.oA x.y.ops.length x.y.oc, .slice x.y.uA x.y.us.length x.y.uc, .slice x.y.wA x.y.now.length x.y.wc, .slice x.cA x.l.length x.cc, .int .i64 x.inc, .int .i64 x.mode, .int .i64 x.clock, .int .i64 x.sent, .slice x.pA 0 x.pc, .int .i64 x.late] 44)) (.cells #[.int .i64 0, .int .i64 0, .int .i64 0, .int .i64 0, .slice none 0 0, .int .i64 0, .slice none 0 0, .int .i64 0, .slice none 0 0, .int .i64 0, .int .i64 0, .int .i64 0, .int .i64 0, .slice none 0 0] 65)
  have hq : SlV opE _ x.qA x.qc x.q.os := SlV.below hx.q hB
  have HTW := Lib.hid (hT.below hB)
  have CP := Lib.hid (fun (wx : World) (h : inE.Sl wx p.A p.p.u) => parent_any p x.node up wx hp h)
  have CO := Lib.hid (fun (wx : World) (h : SlV opE wx x.qA x.qc x.q.os) => quOut_any x.Q p.p.b wx (quN_dv hr) h)
  clear hx hT hp hr
  go_enter Tryz.func19, Tryz.ntmps19
  go_upto_region 1 with fail
  simp only [alloc_size, Nat.add_assoc, Nat.reduceAdd]
  generalize ((w.alloc (.cells #[.slice p.A p.p.u.length p.c, .int .i64 p.p.q, .int .i64 p.p.r, .int .i64 p.p.b, .int .i64 p.p.l, .int .i64 p.p.w, .int .i64 p.p.c, .int .i64 p.p.k, .int .i64 p.p.i] 26)).alloc (.cells #[.int .i64 x.node, .int .i64 x.boot, .int .i64 x.above, .int .i64 x.pos, .int .i64 x.y.t, .int .i64 x.pos, .slice none 0 0, .int .i64 x.q.f, .int .i64 x.q.g, .slice x.qA x.q.os.length x.qc, .slice none 0 0, .slice none 0 0, .slice none 0 0, .slice none 0 0, .slice x.y.bA x.y.base.length x.y.bc, .int .i64 x.y.t, .slice x.y.oA x.y.ops.length x.y.oc, .slice x.y.uA x.y.us.length x.y.uc, .slice x.y.wA x.y.now.length x.y.wc, .slice x.cA x.l.length x.cc, .int .i64 x.inc, .int .i64 x.mode, .int .i64 x.clock, .int .i64 x.sent, .slice x.pA 0 x.pc, .int .i64 x.late] 44)).alloc (.cells #[.int .i64 0, .int .i64 0, .int .i64 0, .int .i64 0, .slice none 0 0, .int .i64 0, .slice none 0 0, .int .i64 0, .slice none 0 0, .int .i64 0, .int .i64 0, .int .i64 0, .int .i64 0, .slice none 0 0] 65) = W at *
  obtain ⟨n1, h1⟩ : ∃ n1, w.heap.size = n1 := ⟨_, rfl⟩
  obtain ⟨n2, h2⟩ : ∃ n2, w.heap.size + 1 = n2 := ⟨_, rfl⟩
  obtain ⟨n3, h3⟩ : ∃ n3, w.heap.size + 2 = n3 := ⟨_, rfl⟩
  have hw3 : w.heap.size ≤ n3 := by omega
  rw [h3] at hF ⊢
  rw [h2] at hE ⊢
  rw [h1] at hP ⊢
  clear h1 h2 h3
  have c0 : W.cell? ⟨n2, 0, none⟩ = some (.int .i64 x.node) := hE.cell 0
  go_wp2_with (first | (refine El.load pnRow rfl _ rfl n1 0 rfl p hP.at #[.slice p.A p.p.u.length p.c, .int .i64 p.p.q, .int .i64 p.p.r, .int .i64 p.p.b, .int .i64 p.p.l, .int .i64 p.p.w, .int .i64 p.p.c, .int .i64 p.p.k, .int .i64 p.p.i] rfl ?_) | fail)
  refine (CP.out _ HTW.out).mono ?_
  rintro e w2 ⟨rfl, hb2⟩
  replace hE := hE.below hb2
  replace hP := hP.below hb2
  replace hF := hF.below hb2
  replace hq := SlV.below hq hb2
  replace hB := below_then hB hb2
  clear hb2 CP HTW c0
  go_upto_region 2 with fail
  apply wp_mergeF (fun A c r w' => SlV opE w' A c (outQ x.q p.p.b) ∧ SlV rpE w' (some ⟨r, 0, none⟩) 1 [reportD x.v beat] ∧ frE.In w' n3 ⟨A, c, some ⟨r, 0, none⟩, 1, none, 0, none, 0, frameD up p.p.b x.v beat⟩ ∧ Below w.heap.size w w')
  · refine region_anyG (S := FmS n1 n2 p x) 21 (by kernel_rfl) ?_
    have hd : Below w2.heap.size w2 w2.drew := (Below.refl _ _).drew
    replace hE : dvE.In w2.drew n2 x := hE
    replace hP : pnE.In w2.drew n1 p := hP
    replace hF : frE.In w2.drew n3 zeroFw := hF
    replace hq := SlV.below hq hd
    replace hB := hB.drew
    clear hd
    generalize w2.drew = X at *
    have hS : FmS n1 n2 p x X := ⟨hE, hP⟩
    refine anyG_take (i := 0) (v := .pointer (some ⟨n2, 0, none⟩)) rfl (by kernel_rfl) (by kernel_rfl) (by kernel_rfl) (by kernel_rfl) (by kernel_rfl) (fun _ _ _ h => h) (Or.inl ⟨by rfl, fun w' hSw => by (obtain ⟨s0, s1, s2, s3, s4, s5, s6, s7, s8, s9, s10, s11, s12, s13, s14, s15, s16, s17, s18, s19, s20, s21, s22, s23, s24, s25⟩ := dvAll hSw.1; obtain ⟨p0, p1, p2, p3, p4, p5, p6, p7, p8⟩ := pnIn9 hSw.2; go_simp)⟩) hS ?_
    try simp only [Act.put, List.setIfInBounds_toArray, List.set_cons_zero, List.set_cons_succ]
    refine anyG_take (i := 1) (v := .int .i64 x.node) rfl (by kernel_rfl) (by kernel_rfl) (by kernel_rfl) (by kernel_rfl) (by kernel_rfl) (fun _ _ _ h => h) (Or.inl ⟨by rfl, fun w' hSw => by (obtain ⟨s0, s1, s2, s3, s4, s5, s6, s7, s8, s9, s10, s11, s12, s13, s14, s15, s16, s17, s18, s19, s20, s21, s22, s23, s24, s25⟩ := dvAll hSw.1; obtain ⟨p0, p1, p2, p3, p4, p5, p6, p7, p8⟩ := pnIn9 hSw.2; go_simp)⟩) hS ?_
    try simp only [Act.put, List.setIfInBounds_toArray, List.set_cons_zero, List.set_cons_succ]
    refine anyG_take (i := 2) (v := .int .i64 up) rfl (by kernel_rfl) (by kernel_rfl) (by kernel_rfl) (by kernel_rfl) (by kernel_rfl) (fun _ _ _ h => h) (Or.inl ⟨by rfl, fun w' hSw => by (obtain ⟨s0, s1, s2, s3, s4, s5, s6, s7, s8, s9, s10, s11, s12, s13, s14, s15, s16, s17, s18, s19, s20, s21, s22, s23, s24, s25⟩ := dvAll hSw.1; obtain ⟨p0, p1, p2, p3, p4, p5, p6, p7, p8⟩ := pnIn9 hSw.2; go_simp)⟩) hS ?_
    try simp only [Act.put, List.setIfInBounds_toArray, List.set_cons_zero, List.set_cons_succ]
    refine anyG_take (i := 3) (v := .pointer (some ⟨n2, 1, none⟩)) rfl (by kernel_rfl) (by kernel_rfl) (by kernel_rfl) (by kernel_rfl) (by kernel_rfl) (fun _ _ _ h => h) (Or.inl ⟨by rfl, fun w' hSw => by (obtain ⟨s0, s1, s2, s3, s4, s5, s6, s7, s8, s9, s10, s11, s12, s13, s14, s15, s16, s17, s18, s19, s20, s21, s22, s23, s24, s25⟩ := dvAll hSw.1; obtain ⟨p0, p1, p2, p3, p4, p5, p6, p7, p8⟩ := pnIn9 hSw.2; go_simp)⟩) hS ?_
    try simp only [Act.put, List.setIfInBounds_toArray, List.set_cons_zero, List.set_cons_succ]
    refine anyG_take (i := 4) (v := .int .i64 x.boot) rfl (by kernel_rfl) (by kernel_rfl) (by kernel_rfl) (by kernel_rfl) (by kernel_rfl) (fun _ _ _ h => h) (Or.inl ⟨by rfl, fun w' hSw => by (obtain ⟨s0, s1, s2, s3, s4, s5, s6, s7, s8, s9, s10, s11, s12, s13, s14, s15, s16, s17, s18, s19, s20, s21, s22, s23, s24, s25⟩ := dvAll hSw.1; obtain ⟨p0, p1, p2, p3, p4, p5, p6, p7, p8⟩ := pnIn9 hSw.2; go_simp)⟩) hS ?_
    try simp only [Act.put, List.setIfInBounds_toArray, List.set_cons_zero, List.set_cons_succ]
    refine anyG_take (i := 5) (v := .pointer (some ⟨n2, 7, none⟩)) rfl (by kernel_rfl) (by kernel_rfl) (by kernel_rfl) (by kernel_rfl) (by kernel_rfl) (fun _ _ _ h => h) (Or.inl ⟨by rfl, fun w' hSw => by (obtain ⟨s0, s1, s2, s3, s4, s5, s6, s7, s8, s9, s10, s11, s12, s13, s14, s15, s16, s17, s18, s19, s20, s21, s22, s23, s24, s25⟩ := dvAll hSw.1; obtain ⟨p0, p1, p2, p3, p4, p5, p6, p7, p8⟩ := pnIn9 hSw.2; go_simp)⟩) hS ?_
    try simp only [Act.put, List.setIfInBounds_toArray, List.set_cons_zero, List.set_cons_succ]
    refine anyG_take (i := 6) (v := .pointer (some ⟨n2, 7, none⟩)) rfl (by kernel_rfl) (by kernel_rfl) (by kernel_rfl) (by kernel_rfl) (by kernel_rfl) (fun _ _ _ h => h) (Or.inl ⟨by rfl, fun w' hSw => by (obtain ⟨s0, s1, s2, s3, s4, s5, s6, s7, s8, s9, s10, s11, s12, s13, s14, s15, s16, s17, s18, s19, s20, s21, s22, s23, s24, s25⟩ := dvAll hSw.1; obtain ⟨p0, p1, p2, p3, p4, p5, p6, p7, p8⟩ := pnIn9 hSw.2; go_simp)⟩) hS ?_
    try simp only [Act.put, List.setIfInBounds_toArray, List.set_cons_zero, List.set_cons_succ]
    refine anyG_take (i := 7) (v := .int .i64 x.q.f) rfl (by kernel_rfl) (by kernel_rfl) (by kernel_rfl) (by kernel_rfl) (by kernel_rfl) (fun _ _ _ h => h) (Or.inl ⟨by rfl, fun w' hSw => by (obtain ⟨s0, s1, s2, s3, s4, s5, s6, s7, s8, s9, s10, s11, s12, s13, s14, s15, s16, s17, s18, s19, s20, s21, s22, s23, s24, s25⟩ := dvAll hSw.1; obtain ⟨p0, p1, p2, p3, p4, p5, p6, p7, p8⟩ := pnIn9 hSw.2; go_simp)⟩) hS ?_
    try simp only [Act.put, List.setIfInBounds_toArray, List.set_cons_zero, List.set_cons_succ]
    refine anyG_take (i := 8) (v := .pointer (some ⟨n2, 7, none⟩)) rfl (by kernel_rfl) (by kernel_rfl) (by kernel_rfl) (by kernel_rfl) (by kernel_rfl) (fun _ _ _ h => h) (Or.inl ⟨by rfl, fun w' hSw => by (obtain ⟨s0, s1, s2, s3, s4, s5, s6, s7, s8, s9, s10, s11, s12, s13, s14, s15, s16, s17, s18, s19, s20, s21, s22, s23, s24, s25⟩ := dvAll hSw.1; obtain ⟨p0, p1, p2, p3, p4, p5, p6, p7, p8⟩ := pnIn9 hSw.2; go_simp)⟩) hS ?_
    try simp only [Act.put, List.setIfInBounds_toArray, List.set_cons_zero, List.set_cons_succ]
    refine anyG_take (i := 9) (v := .agg #[.int .i64 x.q.f, .int .i64 x.q.g, .slice x.qA x.q.os.length x.qc]) rfl (by kernel_rfl) (by kernel_rfl) (by kernel_rfl) (by kernel_rfl) (by kernel_rfl) (fun _ _ _ h => h) (Or.inl ⟨by rfl, fun w' hSw => by (obtain ⟨s0, s1, s2, s3, s4, s5, s6, s7, s8, s9, s10, s11, s12, s13, s14, s15, s16, s17, s18, s19, s20, s21, s22, s23, s24, s25⟩ := dvAll hSw.1; obtain ⟨p0, p1, p2, p3, p4, p5, p6, p7, p8⟩ := pnIn9 hSw.2; go_simp)⟩) hS ?_
    try simp only [Act.put, List.setIfInBounds_toArray, List.set_cons_zero, List.set_cons_succ]
    refine anyG_take (i := 10) (v := .pointer (some ⟨n1, 3, none⟩)) rfl (by kernel_rfl) (by kernel_rfl) (by kernel_rfl) (by kernel_rfl) (by kernel_rfl) (fun _ _ _ h => h) (Or.inl ⟨by rfl, fun w' hSw => by (obtain ⟨s0, s1, s2, s3, s4, s5, s6, s7, s8, s9, s10, s11, s12, s13, s14, s15, s16, s17, s18, s19, s20, s21, s22, s23, s24, s25⟩ := dvAll hSw.1; obtain ⟨p0, p1, p2, p3, p4, p5, p6, p7, p8⟩ := pnIn9 hSw.2; go_simp)⟩) hS ?_
    try simp only [Act.put, List.setIfInBounds_toArray, List.set_cons_zero, List.set_cons_succ]
    refine anyG_take (i := 11) (v := .int .i64 p.p.b) rfl (by kernel_rfl) (by kernel_rfl) (by kernel_rfl) (by kernel_rfl) (by kernel_rfl) (fun _ _ _ h => h) (Or.inl ⟨by rfl, fun w' hSw => by (obtain ⟨s0, s1, s2, s3, s4, s5, s6, s7, s8, s9, s10, s11, s12, s13, s14, s15, s16, s17, s18, s19, s20, s21, s22, s23, s24, s25⟩ := dvAll hSw.1; obtain ⟨p0, p1, p2, p3, p4, p5, p6, p7, p8⟩ := pnIn9 hSw.2; go_simp)⟩) hS ?_
    try simp only [Act.put, List.setIfInBounds_toArray, List.set_cons_zero, List.set_cons_succ]
    refine anyG_take (i := 13) (v := .pointer (some ⟨n2, 3, none⟩)) rfl (by kernel_rfl) (by kernel_rfl) (by kernel_rfl) (by kernel_rfl) (by kernel_rfl) (fun _ _ _ h => h) (Or.inl ⟨by rfl, fun w' hSw => by (obtain ⟨s0, s1, s2, s3, s4, s5, s6, s7, s8, s9, s10, s11, s12, s13, s14, s15, s16, s17, s18, s19, s20, s21, s22, s23, s24, s25⟩ := dvAll hSw.1; obtain ⟨p0, p1, p2, p3, p4, p5, p6, p7, p8⟩ := pnIn9 hSw.2; go_simp)⟩) hS ?_
    try simp only [Act.put, List.setIfInBounds_toArray, List.set_cons_zero, List.set_cons_succ]
    refine anyG_take (i := 14) (v := .pointer (some ⟨n2, 5, none⟩)) rfl (by kernel_rfl) (by kernel_rfl) (by kernel_rfl) (by kernel_rfl) (by kernel_rfl) (fun _ _ _ h => h) (Or.inl ⟨by rfl, fun w' hSw => by (obtain ⟨s0, s1, s2, s3, s4, s5, s6, s7, s8, s9, s10, s11, s12, s13, s14, s15, s16, s17, s18, s19, s20, s21, s22, s23, s24, s25⟩ := dvAll hSw.1; obtain ⟨p0, p1, p2, p3, p4, p5, p6, p7, p8⟩ := pnIn9 hSw.2; go_simp)⟩) hS ?_
    try simp only [Act.put, List.setIfInBounds_toArray, List.set_cons_zero, List.set_cons_succ]
    refine anyG_take (i := 15) (v := .int .i64 x.pos) rfl (by kernel_rfl) (by kernel_rfl) (by kernel_rfl) (by kernel_rfl) (by kernel_rfl) (fun _ _ _ h => h) (Or.inl ⟨by rfl, fun w' hSw => by (obtain ⟨s0, s1, s2, s3, s4, s5, s6, s7, s8, s9, s10, s11, s12, s13, s14, s15, s16, s17, s18, s19, s20, s21, s22, s23, s24, s25⟩ := dvAll hSw.1; obtain ⟨p0, p1, p2, p3, p4, p5, p6, p7, p8⟩ := pnIn9 hSw.2; go_simp)⟩) hS ?_
    try simp only [Act.put, List.setIfInBounds_toArray, List.set_cons_zero, List.set_cons_succ]
    refine anyG_take (i := 16) (v := .agg #[.int .i64 x.node, .int .i64 x.boot, .int .i64 x.above, .int .i64 x.pos, .int .i64 x.y.t, .int .i64 x.pos, .slice none 0 0, .int .i64 x.q.f, .int .i64 x.q.g, .slice x.qA x.q.os.length x.qc, .slice none 0 0, .slice none 0 0, .slice none 0 0, .slice none 0 0, .slice x.y.bA x.y.base.length x.y.bc, .int .i64 x.y.t, .slice x.y.oA x.y.ops.length x.y.oc, .slice x.y.uA x.y.us.length x.y.uc, .slice x.y.wA x.y.now.length x.y.wc, .slice x.cA x.l.length x.cc, .int .i64 x.inc, .int .i64 x.mode, .int .i64 x.clock, .int .i64 x.sent, .slice x.pA 0 x.pc, .int .i64 x.late]) rfl (by kernel_rfl) (by kernel_rfl) (by kernel_rfl) (by kernel_rfl) (by kernel_rfl) (fun _ _ _ h => h) (Or.inl ⟨by rfl, fun w' hSw => El.exec_loadF dvRow (.tmp 4) rfl rfl hSw.1.at #[.int .i64 x.node, .int .i64 x.boot, .int .i64 x.above, .int .i64 x.pos, .int .i64 x.y.t, .int .i64 x.pos, .slice none 0 0, .int .i64 x.q.f, .int .i64 x.q.g, .slice x.qA x.q.os.length x.qc, .slice none 0 0, .slice none 0 0, .slice none 0 0, .slice none 0 0, .slice x.y.bA x.y.base.length x.y.bc, .int .i64 x.y.t, .slice x.y.oA x.y.ops.length x.y.oc, .slice x.y.uA x.y.us.length x.y.uc, .slice x.y.wA x.y.now.length x.y.wc, .slice x.cA x.l.length x.cc, .int .i64 x.inc, .int .i64 x.mode, .int .i64 x.clock, .int .i64 x.sent, .slice x.pA 0 x.pc, .int .i64 x.late] rfl⟩) hS ?_
    try simp only [Act.put, List.setIfInBounds_toArray, List.set_cons_zero, List.set_cons_succ]
    refine anyG_take (i := 17) (v := .int .i64 beat) rfl (by kernel_rfl) (by kernel_rfl) (by kernel_rfl) (by kernel_rfl) (by kernel_rfl) (fun _ _ _ h => h) (Or.inl ⟨by rfl, fun w' hSw => by (obtain ⟨s0, s1, s2, s3, s4, s5, s6, s7, s8, s9, s10, s11, s12, s13, s14, s15, s16, s17, s18, s19, s20, s21, s22, s23, s24, s25⟩ := dvAll hSw.1; obtain ⟨p0, p1, p2, p3, p4, p5, p6, p7, p8⟩ := pnIn9 hSw.2; go_simp)⟩) hS ?_
    try simp only [Act.put, List.setIfInBounds_toArray, List.set_cons_zero, List.set_cons_succ]
    refine anyG_step (rs := [12]) (by kernel_rfl) (by simp) ?_
    refine AllG.cons rfl (fun K hK => ?_) AllG.nil
    go_simp
    refine (CO.out _ hq).mono ?_
    rintro e WA ⟨A', c', rfl, hO, hbA⟩
    have hlen := hbA.size
    replace hE := hE.below hbA
    replace hP := hP.below hbA
    replace hF := hF.below hbA
    replace hq := SlV.below hq hbA
    replace hB := below_then hB hbA
    try replace hRow := hRow.below hbA
    clear hbA hlen
    try go_wp2_with fail
    refine hK.out _ _ (⟨hE, hP⟩ : FmS n1 n2 p x _) ?_
    try simp only [Act.put, List.setIfInBounds_toArray, List.set_cons_zero, List.set_cons_succ]
    clear hK hS
    have hS : FmS n1 n2 p x _ := ⟨hE, hP⟩
    refine anyG_step (rs := [18]) (by kernel_rfl) (by simp) ?_
    refine AllG.cons rfl (fun K hK => ?_) AllG.nil
    go_simp
    refine (report18_any x beat _).mono ?_
    rintro e WB ⟨rfl, hbB⟩
    replace hE := hE.below hbB
    replace hP := hP.below hbB
    replace hF := hF.below hbB
    replace hq := SlV.below hq hbB
    replace hB := below_then hB hbB
    try replace hO := SlV.below hO hbB
    clear hbB
    try go_wp2_with fail
    refine hK.out _ _ (⟨hE, hP⟩ : FmS n1 n2 p x _) ?_
    try simp only [Act.put, List.setIfInBounds_toArray, List.set_cons_zero, List.set_cons_succ]
    clear hK hS
    have hS : FmS n1 n2 p x _ := ⟨hE, hP⟩
    refine anyG_step (rs := [19]) (by kernel_rfl) (by simp) ?_
    refine AllG.cons rfl (fun K hK => ?_) AllG.nil
    have hRow : SlV rpE (WB.alloc (.cells #[.int .i64 (reportD x.v beat).d, .int .i64 (reportD x.v beat).i, .int .i64 (reportD x.v beat).b, .int .i64 (reportD x.v beat).t, .int .i64 (reportD x.v beat).m, .int .i64 (reportD x.v beat).p, .int .i64 (reportD x.v beat).c, .int .i64 (reportD x.v beat).s, .int .i64 (reportD x.v beat).k] 79)) (some ⟨WB.heap.size, 0, none⟩) 1 [reportD x.v beat] := slOne18 (E := rpE) WB (reportD x.v beat) #[.int .i64 (reportD x.v beat).d, .int .i64 (reportD x.v beat).i, .int .i64 (reportD x.v beat).b, .int .i64 (reportD x.v beat).t, .int .i64 (reportD x.v beat).m, .int .i64 (reportD x.v beat).p, .int .i64 (reportD x.v beat).c, .int .i64 (reportD x.v beat).s, .int .i64 (reportD x.v beat).k] rfl
    have hal := below_alloc (Below.refl WB.heap.size WB) (.cells #[.int .i64 (reportD x.v beat).d, .int .i64 (reportD x.v beat).i, .int .i64 (reportD x.v beat).b, .int .i64 (reportD x.v beat).t, .int .i64 (reportD x.v beat).m, .int .i64 (reportD x.v beat).p, .int .i64 (reportD x.v beat).c, .int .i64 (reportD x.v beat).s, .int .i64 (reportD x.v beat).k] 79)
    have hn3r : n3 < WB.heap.size := hF.lt
    replace hE := hE.below hal
    replace hP := hP.below hal
    replace hF := hF.below hal
    replace hq := SlV.below hq hal
    replace hB := below_then hB hal
    try replace hO := SlV.below hO hal
    clear hal
    go_simp
    refine hK.out _ _ (⟨hE, hP⟩ : FmS n1 n2 p x _) ?_
    try simp only [Act.put, List.setIfInBounds_toArray, List.set_cons_zero, List.set_cons_succ]
    clear hK hS
    have hS : FmS n1 n2 p x _ := ⟨hE, hP⟩
    have hn3r : n3 < WB.heap.size := hn3r
    generalize WB.alloc (.cells #[.int .i64 (reportD x.v beat).d, .int .i64 (reportD x.v beat).i, .int .i64 (reportD x.v beat).b, .int .i64 (reportD x.v beat).t, .int .i64 (reportD x.v beat).m, .int .i64 (reportD x.v beat).p, .int .i64 (reportD x.v beat).c, .int .i64 (reportD x.v beat).s, .int .i64 (reportD x.v beat).k] 79) = WC at *
    generalize WB.heap.size = nr at *
    refine anyG_plain (i := 20) (v := .agg #[.int .i64 x.node, .int .i64 up, .int .i64 x.boot, .int .i64 x.q.f, .slice A' (outQ x.Q.x p.p.b).length c', .int .i64 x.pos, .slice (some ⟨nr, 0, none⟩) 1 1, .int .i64 1, .slice none 0 0, .int .i64 0, .int .i64 0, .int .i64 0, .int .i64 0, .slice none 0 0]) rfl (by kernel_rfl) (by kernel_rfl) (by kernel_rfl) (by kernel_rfl) (fun _ _ _ h => h) (Or.inl ⟨by rfl, fun w' => by go_simp⟩) (fun _ => hS) ?_
    try simp only [Act.put, List.setIfInBounds_toArray, List.set_cons_zero, List.set_cons_succ]
    refine anyG_step (rs := [21]) (by kernel_rfl) (by simp) ?_
    refine AllG.last (n := 21) rfl (fun K hK => ?_)
    refine El.step_store frRow rfl _ _ rfl n3 (⟨A', c', some ⟨nr, 0, none⟩, 1, none, 0, none, 0, frameD up p.p.b x.v beat⟩ : Fw) _ rfl rfl rfl zeroFw hF ?_
    refine hK.out _ _ ?_
    clear hK hS
    refine anyG_done (by kernel_rfl) ?_ _
    have hgr := fun (V : World) (cs : Array Value) => by_row V n3 cs
    refine ⟨A', c', nr, rfl, SlV.keepRD hO (fun o _ ha => by rcases frE_cell hF (ha 6 _ rfl) with ⟨_, h⟩ | ⟨_, _, _, h⟩ <;> cases h) (hgr _ _), ⟨hRow.1.keep (hgr _ _) (fun a e e2 => ?_), hRow.2⟩, hF.set (⟨A', c', some ⟨nr, 0, none⟩, 1, none, 0, none, 0, frameD up p.p.b x.v beat⟩ : Fw) _ rfl, below_setRow hB hw3 _⟩
    have e3 := Option.some.inj e
    subst e3
    have e4 : nr = n3 := Option.some.inj e2
    omega
  rintro A c r V ⟨hO, hRow, hF, hB⟩
  clear hE hP hq CO
  go_wp2_with fail
  refine El.ret1 frRow hF rfl rfl rfl _ rfl ?_
  exact ⟨⟨A, c, some ⟨r, 0, none⟩, 1, none, 0, none, 0, frameD up p.p.b x.v beat⟩, rfl, ⟨hO, hRow, SlV.nil _ _, SlV.nil _ _⟩, rfl, hB⟩
theorem deviceCalls : DeviceCalls where
  new n w _ := pNew18_any n w
  edit p x t w _ _ hr _ _ hs _ hx := pEdit18_any p x t w hr hs hx
  leave x w hr hx := (leave18_any x w hx (by have h1 : 1 ≤ x.inc := hr.inc.1; have h2 : x.inc ≤ 4294967296 := hr.inc.2; omega)).mono fun _ _ ⟨h1, h2, h3⟩ => ⟨leaveW x, h1, h2, rfl, h3⟩
  take p x f w up hp hr hf hT hx hfo := pTake18_any p x f w up hp hr hf hT hx hfo
  frame p x beat w up hp hr _ hT hx := pFrame18_any p x beat w up hp hr hT hx
  vector x w hr hx := vector18_any x w (by have h2 : x.l.length ≤ 12 := hr.l.1; omega) hx
  read x w hr hx := read18_any x w hr.y hx
end Go.Proofs.YtdcjffajmckleaaGreatDoor

/- What the listed tables give at the start that meets the condition (no table is read by the walks). -/
namespace Go.Proofs.YtdcjffajmckleaaGreatDoor
open Go.ChangeShapes Go.WideShapes Go.ChangeAt Go.RowKit

abbrev laid3 {H : Type} : List (String × DataW H) := [("math/bits.deBruijn32tab", Rows.laid_math_bits_deBruijn32tab), ("math/bits.deBruijn64tab", Rows.laid_math_bits_deBruijn64tab), ("internal/strconv.uint64pow10", Rows.laid_internal_strconv_uint64pow10)]
theorem door_met (os : Os) (args : Array Value) : laidMetH Tryz.prog laid3 ((World.doorLaid Tryz.prog 24 os).forCall (fun _ _ => 0) ⟨#[], args, []⟩).memory :=
  laidMetH_of_parts3 (fuel := 8) (laidMet_of_run' 8 (by kernel_rfl) (by kernel_rfl)) (by kernel_rfl) (by kernel_rfl)
end Go.Proofs.YtdcjffajmckleaaGreatDoor
