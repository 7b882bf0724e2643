/- PlanTrees: of a plan that may be each node but the root is somebody's kid, once, and deeper than it by one; just those without kids are devices; all are below the root. No condition. -/
import Derived.Test.YtmmfjmhemknpgaaB03
import Derived.Test.YtmmfjmhemknpgaaRows
import Derived.Lib.QuietBelow
import Derived.BigQuiet
import Derived.Deep.QuietTactic
import Derived.Deep.RegionHeld3
namespace Go.Proofs.Ytmmfjmhemknpgaa
open Go.ChangeShapes Go.WideShapes Go.ChangeAt Go.RowKit Go.Deep Pln

/-- Is j among the kids of the nodes ahead of i, or among the first k of i's? -/
def hitB (u : List Int) (i k j : Nat) : Bool := decide (0 < j ∧ u.getD j 0 < (i : Int)) || decide (j ∈ (kidsN u i).take k)
def cntL (u : List Int) (i k : Nat) : List Int := (List.range u.length).map fun j => if hitB u i k j = true then 1 else 0
theorem cntL_len (u : List Int) (i k : Nat) : (cntL u i k).length = u.length := by unfold cntL; simp
theorem cntL_get {u : List Int} {i k j : Nat} (h : j < (cntL u i k).length) : (cntL u i k)[j] = if hitB u i k j = true then 1 else 0 := by simp only [cntL, List.getElem_map, List.getElem_range]
theorem cntL_start {u : List Int} (hp : Par u) : cntL u 0 0 = List.replicate u.length 0 := by
  apply List.ext_getElem
  · rw [cntL_len, List.length_replicate]
  · intro j h1 h2
    rw [cntL_get, List.getElem_replicate, if_neg]
    unfold hitB
    rw [List.take_zero]
    intro h
    simp only [List.not_mem_nil, decide_false, Bool.or_false, decide_eq_true_eq] at h
    rw [cntL_len] at h1
    have := hp j h.1 h1
    omega
theorem cntL_end (u : List Int) (i : Nat) : cntL u i (kidsN u i).length = cntL u (i + 1) 0 := by
  apply List.ext_getElem
  · rw [cntL_len, cntL_len]
  · intro j h1 h2
    rw [cntL_get, cntL_get]
    rw [cntL_len] at h1
    have e : hitB u i (kidsN u i).length j = hitB u (i + 1) 0 j := by
      unfold hitB
      rw [List.take_length, List.take_zero, Bool.eq_iff_iff]
      simp only [Bool.or_eq_true, decide_eq_true_iff, mem_kids, List.not_mem_nil, or_false]
      constructor
      · rintro (h | h) <;> omega
      · intro h
        by_cases e : u.getD j 0 < (i : Int)
        · exact Or.inl ⟨h.1, e⟩
        · exact Or.inr ⟨h.1, h1, by omega⟩
    rw [e]
theorem kid_at {u : List Int} {i k : Nat} (h : k < (kidsN u i).length) : 0 < (kidsN u i)[k] ∧ (kidsN u i)[k] < u.length ∧ u.getD (kidsN u i)[k] 0 = (i : Int) := mem_kids.1 (List.getElem_mem h)
theorem kid_new {u : List Int} {i k : Nat} (h : k < (kidsN u i).length) : hitB u i k (kidsN u i)[k] = false := by
  obtain ⟨h1, h2, h3⟩ := kid_at h
  unfold hitB
  rw [Bool.or_eq_false_iff]
  refine ⟨decide_eq_false (by omega), decide_eq_false fun hm => ?_⟩
  obtain ⟨j, hj, e⟩ := List.getElem_of_mem hm
  rw [List.length_take] at hj
  rw [List.getElem_take] at e
  have := List.pairwise_iff_getElem.1 (kids_nodup u i) j k (by omega) h (by omega)
  exact this e
theorem cntL_zero {u : List Int} {i k : Nat} (h : k < (kidsN u i).length) (hj : (kidsN u i)[k] < (cntL u i k).length) : (cntL u i k)[(kidsN u i)[k]] = 0 := by
  rw [cntL_get, kid_new h]; rfl
theorem cntL_step {u : List Int} {i k : Nat} (h : k < (kidsN u i).length) : (cntL u i k).set (kidsN u i)[k] 1 = cntL u i (k + 1) := by
  apply List.ext_getElem
  · rw [List.length_set, cntL_len, cntL_len]
  · intro j h1 h2
    rw [List.getElem_set, cntL_get]
    have e0 : hitB u i (k + 1) j = (hitB u i k j || decide (j = (kidsN u i)[k])) := by
      unfold hitB
      rw [Bool.or_assoc]
      congr 1
      rw [List.take_succ_eq_append_getElem h, Bool.eq_iff_iff]
      simp only [Bool.or_eq_true, decide_eq_true_iff, List.mem_append, List.mem_singleton]
    rw [cntL_get h2, e0]
    by_cases e : (kidsN u i)[k] = j
    · rw [if_pos e, if_pos (by simp [e])]
    · rw [if_neg e]
      have : ¬ j = (kidsN u i)[k] := fun h => e h.symm
      simp [this]
theorem cntL_all {u : List Int} (hp : Par u) {j : Nat} (h0 : 0 < j) (hj : j < u.length) (h : j < (cntL u u.length 0).length) : (cntL u u.length 0)[j] = 1 := by
  rw [cntL_get, if_pos]
  unfold hitB
  have := hp j h0 hj
  rw [Bool.or_eq_true]
  exact Or.inl (decide_eq_true ⟨h0, by omega⟩)
theorem cntL_root {u : List Int} (h : 0 < (cntL u u.length 0).length) : (cntL u u.length 0)[0] = 0 := by
  rw [cntL_get, if_neg]
  unfold hitB
  simp

theorem trees_no (H : PlanCalls) (x : Pnw) (w : World) (hT : inE.Sl w x.A x.p.u) (hR : ¬ Pln.Right x.p) :
    Calls Try.prog 3 #[.agg #[.slice x.A x.p.u.length x.c, .int .i64 x.p.q, .int .i64 x.p.r, .int .i64 x.p.b, .int .i64 x.p.l, .int .i64 x.p.w, .int .i64 x.p.c, .int .i64 x.p.k, .int .i64 x.p.i]] w fun e w' => e = .returned (.bool true) ∧ Below w.heap.size w w' := by
  have hP : pnE.In (w.alloc (.cells #[.slice x.A x.p.u.length x.c, .int .i64 x.p.q, .int .i64 x.p.r, .int .i64 x.p.b, .int .i64 x.p.l, .int .i64 x.p.w, .int .i64 x.p.c, .int .i64 x.p.k, .int .i64 x.p.i] 24)) w.heap.size x := El.In.new (E := pnE) w x _ rfl
  have hB := below_alloc (Below.refl w.heap.size w) (.cells #[.slice x.A x.p.u.length x.c, .int .i64 x.p.q, .int .i64 x.p.r, .int .i64 x.p.b, .int .i64 x.p.l, .int .i64 x.p.w, .int .i64 x.p.c, .int .i64 x.p.k, .int .i64 x.p.i] 24)
  have HC := Lib.hid (fun (wx : World) (hb : Below w.heap.size w wx) => H.right x wx (hT.below hb) false ⟨fun h => (by cases h), fun h => absurd h hR⟩)
  obtain ⟨p0, p1, p2, p3, p4, p5, p6, p7, p8⟩ := pnIn9 hP
  go_enter Try.func3, Try.ntmps3
  go_wp2_with fail
  refine (HC.out _ hB).mono ?_
  rintro e w1 ⟨rfl, hb1⟩
  replace hB := hB.trans (hb1.mono hB.size)
  clear p0 p1 p2 p3 p4 p5 p6 p7 p8
  go_wp2_with fail
  refine (awake10_any H _).mono ?_
  rintro e w2 ⟨rfl, hb2⟩
  go_wp2_with fail
  go_ret
  exact ⟨rfl, hB.trans (hb2.mono hB.size)⟩

set_option maxRecDepth 100000 in
set_option maxHeartbeats 4000000 in
theorem trees_walk (H : PlanCalls) (x : Pnw) (w : World) (hT : inE.Sl w x.A x.p.u) (hR : Pln.Right x.p) :
    Calls Try.prog 3 #[.agg #[.slice x.A x.p.u.length x.c, .int .i64 x.p.q, .int .i64 x.p.r, .int .i64 x.p.b, .int .i64 x.p.l, .int .i64 x.p.w, .int .i64 x.p.c, .int .i64 x.p.k, .int .i64 x.p.i]] w fun e w' => e = .returned (.bool true) ∧ Below w.heap.size w w' := by
  have hP : pnE.In (w.alloc (.cells #[.slice x.A x.p.u.length x.c, .int .i64 x.p.q, .int .i64 x.p.r, .int .i64 x.p.b, .int .i64 x.p.l, .int .i64 x.p.w, .int .i64 x.p.c, .int .i64 x.p.k, .int .i64 x.p.i] 24)) w.heap.size x := El.In.new (E := pnE) w x _ rfl
  have hB := below_alloc (Below.refl w.heap.size w) (.cells #[.slice x.A x.p.u.length x.c, .int .i64 x.p.q, .int .i64 x.p.r, .int .i64 x.p.b, .int .i64 x.p.l, .int .i64 x.p.w, .int .i64 x.p.c, .int .i64 x.p.k, .int .i64 x.p.i] 24)
  have HRT := Lib.hid (fun (wx : World) (hb : Below w.heap.size w wx) => H.right x wx (hT.below hb) true ⟨fun _ => hR, fun _ => rfl⟩)
  have HKD := Lib.hid (fun (n : Int) (wx : World) (hb : Below w.heap.size w wx) => H.kind x n wx (hT.below hb) hR)
  have HKS := Lib.hid (fun (n : Int) (wx : World) (hb : Below w.heap.size w wx) => H.kids x n wx (hT.below hb) hR)
  have HDV := Lib.hid (fun (wx : World) (hb : Below w.heap.size w wx) => H.devs x wx (hT.below hb) hR)
  have HDP := Lib.hid (fun (n : Int) (wx : World) (hb : Below w.heap.size w wx) => H.deep x n wx (hT.below hb) hR)
  have HDE := Lib.hid (fun (wx : World) (hb : Below w.heap.size w wx) => H.deepest x wx (hT.below hb) hR)
  have HBL := Lib.hid (fun (n top : Int) (wx : World) (hb : Below w.heap.size w wx) => H.below x n top wx (hT.below hb) hR)
  have HWN := Lib.hid (fun (wx : World) (hb : Below w.heap.size w wx) => H.window x wx (hT.below hb) hR)
  have HR := Lib.hid hR
  have HL := Lib.hid (⟨hR.n2, hR.n12⟩ : 2 ≤ x.p.u.length ∧ x.p.u.length ≤ 12)
  have HST := Lib.hid (cntL_start hR.par)
  clear hT hR
  obtain ⟨p0, p1, p2, p3, p4, p5, p6, p7, p8⟩ := pnIn9 hP
  go_enter Try.func3, Try.ntmps3
  go_wp2_with fail
  clear p0 p1 p2 p3 p4 p5 p6 p7 p8
  generalize w.alloc (.cells #[.slice x.A x.p.u.length x.c, .int .i64 x.p.q, .int .i64 x.p.r, .int .i64 x.p.b, .int .i64 x.p.l, .int .i64 x.p.w, .int .i64 x.p.c, .int .i64 x.p.k, .int .i64 x.p.i] 24) = W0 at *
  obtain ⟨n1, hn1⟩ : ∃ n, w.heap.size = n := ⟨_, rfl⟩
  rw [hn1] at hP ⊢
  have hw1 : w.heap.size ≤ n1 := by omega
  clear hn1
  refine (HRT.out _ hB).mono ?_
  rintro e w1 ⟨rfl, hb1⟩
  replace hP := hP.below hb1
  replace hB := hB.trans (hb1.mono hB.size)
  clear hb1 HRT
  obtain ⟨p0, p1, p2, p3, p4, p5, p6, p7, p8⟩ := pnIn9 hP
  have hl12 := HL.out.2
  have hBs := hB.size
  go_wp2_with (first | (at_make; refine El.wpList_make inInnT (0 : Int) inZero rfl _ _ rfl w.heap.size x.p.u.length x.p.u.length rfl rfl (by omega) (Nat.le_refl _) hBs ?_; intro w2 hO hg2 hg2s) | fail)
  clear p0 p1 p2 p3 p4 p5 p6 p7 p8
  rw [← HST.out] at hO
  replace hP := hP.keep hg2 (by simp)
  replace hB := hB.grown hg2 hB.size (fun k e => by cases e)
  obtain ⟨g, hg⟩ : ∃ g, w1.heap.size = g := ⟨_, rfl⟩
  rw [hg] at hO ⊢
  clear hg2 hg2s hg hBs HST
  go_loopw [4] (fun y wr => ∃ i : Nat, i ≤ x.p.u.length ∧ y = .int .i64 i ∧ pnE.In wr n1 x ∧ inE.Own wr w.heap.size (.slice (some ⟨g, 0, none⟩) x.p.u.length x.p.u.length) (cntL x.p.u i 0) ∧ Below w.heap.size w wr) (fun y _ => x.p.u.length - (intOf y).toNat)
  case atStart => exact ⟨0, Nat.zero_le _, rfl, hP, hO, hB⟩
  case round =>
    clear hP hO hB
    obtain ⟨i, hi, rfl, hP, hO, hB⟩ := hrel
    obtain ⟨p0, p1, p2, p3, p4, p5, p6, p7, p8⟩ := pnIn9 hP
    by_cases hil : i < x.p.u.length
    · have C := HKS.out i wr hB
      have HF := Lib.hid (fun (k : Nat) (h : k < (kidsN x.p.u i).length) => (by
        obtain ⟨h1, h2, h3⟩ := kid_at h
        have hp := HR.out.par
        have hlt := (hp _ h1 h2).2
        exact ⟨by omega, h2, deep_kid hp h1 h2 h3, below_kid hp HR.out.neg h1 h2 h3, below_no hp HR.out.neg i i _ (Nat.le_refl _) hil (by omega), cntL_zero h, cntL_step h⟩ : i < (kidsN x.p.u i)[k] ∧ (kidsN x.p.u i)[k] < x.p.u.length ∧ deepL x.p.u (kidsN x.p.u i)[k] = deepL x.p.u i + 1 ∧ belowU x.p.u (kidsN x.p.u i)[k] i = true ∧ belowU x.p.u i (kidsN x.p.u i)[k] = false ∧ (∀ hj : (kidsN x.p.u i)[k] < (cntL x.p.u i k).length, (cntL x.p.u i k)[(kidsN x.p.u i)[k]] = 0) ∧ (cntL x.p.u i k).set (kidsN x.p.u i)[k] 1 = cntL x.p.u i (k + 1)))
      have HE := Lib.hid (cntL_end x.p.u i)
      have hkl := kind_leaf HR.out.par HR.out.n2 hil
      have hk4 := HR.out.kids i hil
      have hdd := deep_le hil
      have hdx : Hid (deepL x.p.u i ≤ 1000) := Lib.hid (by have := HR.out.deep i hil; omega)
      have C1 := HKD.out i
      have CB0 := HBL.out i 0
      have CBI := HBL.out i i
      have CDP := HDP.out i
      have CDE := HDE.out
      rw [below_root HR.out.par HR.out.neg i i (Nat.le_refl _) hil] at CB0
      rw [below_self hil] at CBI
      generalize kidsN x.p.u (i : Int) = K at *
      generalize kindL x.p.u (i : Int) = kv at *
      generalize deepL x.p.u (i : Int) = dv at *
      generalize deepest x.p.u = Dv at *
      have HC := Lib.hid C
      have HC1 := Lib.hid C1
      have HCB0 := Lib.hid CB0
      have HCBI := Lib.hid CBI
      have HCDP := Lib.hid CDP
      have HCDE := Lib.hid CDE
      clear C C1 CB0 CBI CDP CDE
      go_wp2_with fail
      clear p0 p1 p2 p3 p4 p5 p6 p7 p8
      refine HC.out.mono ?_
      rintro e w3 ⟨A5, c5, rfl, ⟨hS, hF⟩, hb3⟩
      have hgw := (hO.lt g rfl).2
      have hFg : ∀ a, A5 = some a → a.block ≠ g := fun a e e2 => by have := hF a e; omega
      replace hP := hP.below hb3
      replace hO := hO.below hb3
      replace hB := hB.trans (hb3.mono hB.size)
      clear hb3 hF HC hgw
      obtain ⟨p0, p1, p2, p3, p4, p5, p6, p7, p8⟩ := pnIn9 hP
      obtain ⟨m, hm⟩ : ∃ m, K.length = m := ⟨_, rfl⟩
      rw [hm] at hkl hk4 HE ⊢
      have HM := Lib.hid hm
      have hf1 : decide ((4 : Int) < (m : Int)) = false := decide_eq_false (by omega)
      have hf2 : decide ((Dv : Int) < (dv : Int)) = false := decide_eq_false (by omega)
      have hkk : ((m : Int) == 0) = (kv == 3) := by
        rw [Bool.eq_iff_iff, beq_iff_eq, beq_iff_eq, ← hkl]; omega
      obtain ⟨e1, he1⟩ : ∃ e1, (kv == 3) = e1 := ⟨_, rfl⟩
      rw [he1] at hkk
      have hf3 : decide (Dv < dv) = false := decide_eq_false (by omega)
      clear hkl hdd hm
      go_wp2_with fail
      clear p0 p1 p2 p3 p4 p5 p6 p7 p8
      replace hP : pnE.In w3.drew n1 x := hP
      replace hO : inE.Own w3.drew w.heap.size (.slice (some ⟨g, 0, none⟩) x.p.u.length x.p.u.length) (cntL x.p.u i 0) := hO.below (Below.refl _ _).drew
      replace hS : inE.Sl w3.drew A5 (ints K) := hS
      replace hB := hB.drew
      go_region_held3 (fun w' => (w'.cell? ⟨n1, 0, none⟩ = some (.slice x.A x.p.u.length x.c) ∧ w'.cell? ⟨n1, 1, none⟩ = some (.int .i64 x.p.q) ∧ w'.cell? ⟨n1, 2, none⟩ = some (.int .i64 x.p.r) ∧ w'.cell? ⟨n1, 3, none⟩ = some (.int .i64 x.p.b) ∧ w'.cell? ⟨n1, 4, none⟩ = some (.int .i64 x.p.l) ∧ w'.cell? ⟨n1, 5, none⟩ = some (.int .i64 x.p.w) ∧ w'.cell? ⟨n1, 6, none⟩ = some (.int .i64 x.p.c) ∧ w'.cell? ⟨n1, 7, none⟩ = some (.int .i64 x.p.k) ∧ w'.cell? ⟨n1, 8, none⟩ = some (.int .i64 x.p.i))) (with_reducible exact pnIn9 hP) (first | (go_at_call 8; (with_reducible refine (HC1.out _ hB).mono ?_); rintro e w4 ⟨rfl, hb4⟩; have hP := hP.below hb4; have hO := hO.below hb4; have hS := hS.below hb4; have hB := hB.trans (hb4.mono hB.size)) | (go_at_call 9; (with_reducible first | refine (HCB0.out _ hB).mono ?_ | refine (HCBI.out _ hB).mono ?_); rintro e w4 ⟨rfl, hb4⟩; have hP := hP.below hb4; have hO := hO.below hb4; have hS := hS.below hb4; have hB := hB.trans (hb4.mono hB.size)) | (go_at_call 10; (with_reducible refine (HCDP.out _ hB).mono ?_); rintro e w4 ⟨rfl, hb4⟩; have hP := hP.below hb4; have hO := hO.below hb4; have hS := hS.below hb4; have hB := hB.trans (hb4.mono hB.size)) | (go_at_call 11; (with_reducible refine (HCDE.out _ hB).mono ?_); rintro e w4 ⟨rfl, hb4⟩; have hP := hP.below hb4; have hO := hO.below hb4; have hS := hS.below hb4; have hB := hB.trans (hb4.mono hB.size)))
      clear HC1 HCB0 HCBI HCDE hf1 hkk he1
      go_wp2_with fail
      clear hf2 hf3
      go_loopw [6] (fun y wr => ∃ k : Nat, k ≤ m ∧ y = .int .i64 k ∧ pnE.In wr n1 x ∧ inE.Own wr w.heap.size (.slice (some ⟨g, 0, none⟩) x.p.u.length x.p.u.length) (cntL x.p.u i k) ∧ inE.Sl wr A5 (ints K) ∧ Below w.heap.size w wr) (fun y _ => m - (intOf y).toNat)
      case atStart => exact ⟨0, Nat.zero_le _, rfl, hP, hO, hS, hB⟩
      case round =>
        clear hP hO hS hB
        obtain ⟨k, hk, rfl, hP, hO, hS, hB⟩ := hrel
        by_cases hkm : k < m
        · have hkK : k < K.length := by have := HM.out; omega
          obtain ⟨f1, f2, f3, f4, f5, f6, f7⟩ := HF.out k hkK
          have hlc := cntL_len x.p.u i k
          have CDJ := HDP.out K[k]
          have CBJ := HBL.out K[k] i
          have CBK := HBL.out i K[k]
          rw [f3] at CDJ
          rw [f4] at CBJ
          rw [f5] at CBK
          have hik : k < (ints K).length := by rw [ints_len]; exact hkK
          obtain ⟨b5, off5, hA5, hb5w, hc5⟩ := hS (by omega)
          have hq := hc5 k hik
          rw [show (ints K)[k] = ((K[k] : Nat) : Int) from by simp [ints]] at hq
          generalize hj : K[k] = j at *
          have s0 : wr.cell? ⟨b5, off5 + k, none⟩ = some (.int .i64 (j : Int)) := by
            have := hq 0 _ rfl
            rw [show inE.k = 1 from rfl, Nat.mul_one] at this
            exact this
          have hO' : inE.Own wr w.heap.size (.slice (some ⟨g, 0, none⟩) (cntL x.p.u i k).length x.p.u.length) (cntL x.p.u i k) := by rw [hlc]; exact hO
          obtain ⟨_, hcc, hcf, hgw⟩ := inOwn_cells hO'
          have hjl : j < (cntL x.p.u i k).length := by rw [hlc]; exact f2
          have c0 := hcc j hjl
          rw [f6 hjl] at c0
          have cf := hcf j
          have hO2 := inOwn_put hO' j hjl 1
          rw [f7, hlc] at hO2
          have hgj := by_cellG wr g j (.int .i64 1)
          have hne1 : n1 ≠ g := fun e => by
            have h1 := hP.cell 0
            have h2 := hcc 0 (by rw [hlc]; omega)
            rw [e] at h1
            rw [h1] at h2
            cases h2
          have hP2 := hP.keep hgj (fun e => hne1 (Option.some.inj e))
          have hS2 := hS.keep hgj (fun a e e2 => hFg a e (Option.some.inj e2))
          have hB2 := hB.grown hgj hB.size (fun k e => by have := Option.some.inj e; have := (hO.lt g rfl).1; omega)
          have hbg : b5 ≠ g := hFg _ hA5
          have hE1 : inE.At wr b5 (off5 + k) (j : Int) := by
            rw [show inE.k = 1 from rfl, Nat.mul_one] at hq
            exact hq
          have hE2 := hE1.grown hgj (fun e => hbg (Option.some.inj e))
          have hb2 := Nat.lt_of_lt_of_le hb5w hgj.size
          have s1 := hgj.cell s0 (fun e => hbg (Option.some.inj e))
          have d1 : decide ((j : Int) ≤ (i : Int)) = false := decide_eq_false (by omega)
          have d2 : decide ((x.p.u.length : Int) ≤ (j : Int)) = false := decide_eq_false (by omega)
          have d3 : decide (j ≤ i) = false := decide_eq_false (by omega)
          have d4 : decide (x.p.u.length ≤ j) = false := decide_eq_false (by omega)
          have HCJ := Lib.hid CDJ
          have HCBJ := Lib.hid CBJ
          have HCBK := Lib.hid CBK
          have HXF := Lib.hid hFg
          subst hA5
          clear hE1 CDJ CBJ CBK f1 f3 f4 f5 f6 f7 hq hc5 hj hcc hcf hO hO' hP hS hB hgj hlc hjl hik hkK hne1
          go_wp2_with fail
          clear s0 c0 cf s1
          generalize wr.setCell ⟨g, j, none⟩ (.int .i64 1) = W at *
          replace hP2 : pnE.In W.drew n1 x := hP2
          replace hO2 : inE.Own W.drew w.heap.size (.slice (some ⟨g, 0, none⟩) x.p.u.length x.p.u.length) (cntL x.p.u i (k + 1)) := hO2.below (Below.refl _ _).drew
          replace hS2 : inE.Sl W.drew (some ⟨b5, off5, none⟩) (ints K) := hS2
          replace hE2 : inE.At W.drew b5 (off5 + k) (j : Int) := hE2
          replace hb2 : b5 < W.drew.heap.size := hb2
          replace hB2 := hB2.drew
          have hdv : IntKind.i64.wrap ((dv : Int) + 1) = ((dv + 1 : Nat) : Int) := by rw [IntKind.wrap_i64]; have := hdx.out; omega
          generalize dv + 1 = Ev at *
          go_region_held3 (fun w' => (w'.cell? ⟨n1, 0, none⟩ = some (.slice x.A x.p.u.length x.c) ∧ w'.cell? ⟨n1, 1, none⟩ = some (.int .i64 x.p.q) ∧ w'.cell? ⟨n1, 2, none⟩ = some (.int .i64 x.p.r) ∧ w'.cell? ⟨n1, 3, none⟩ = some (.int .i64 x.p.b) ∧ w'.cell? ⟨n1, 4, none⟩ = some (.int .i64 x.p.l) ∧ w'.cell? ⟨n1, 5, none⟩ = some (.int .i64 x.p.w) ∧ w'.cell? ⟨n1, 6, none⟩ = some (.int .i64 x.p.c) ∧ w'.cell? ⟨n1, 7, none⟩ = some (.int .i64 x.p.k) ∧ w'.cell? ⟨n1, 8, none⟩ = some (.int .i64 x.p.i)) ∧ w'.cell? ⟨b5, off5 + k, none⟩ = some (.int .i64 (j : Int))) (with_reducible exact ⟨pnIn9 hP2, inAt1 hE2⟩) (first | (go_at_call 9; (with_reducible first | refine (HCBJ.out _ hB2).mono ?_ | refine (HCBK.out _ hB2).mono ?_); rintro e w4 ⟨rfl, hb4⟩; have hP2 := hP2.below hb4; have hO2 := hO2.below hb4; have hS2 := hS2.below hb4; have hE2 := hE2.below hb4 hb2; have hb2 := Nat.lt_of_lt_of_le hb2 hb4.size; have hB2 := hB2.trans (hb4.mono hB2.size)) | (go_at_call 10; (with_reducible first | refine (HCDP.out _ hB2).mono ?_ | refine (HCJ.out _ hB2).mono ?_); rintro e w4 ⟨rfl, hb4⟩; have hP2 := hP2.below hb4; have hO2 := hO2.below hb4; have hS2 := hS2.below hb4; have hE2 := hE2.below hb4 hb2; have hb2 := Nat.lt_of_lt_of_le hb2 hb4.size; have hB2 := hB2.trans (hb4.mono hB2.size)))
          clear hdv HCJ HCBJ HCBK
          go_wp2_with fail
          exact ⟨⟨k + 1, by omega, by go_num, hP2, hO2, hS2, hB2⟩, by simp [intOf]; omega⟩
        · obtain rfl : k = m := by omega
          rw [HE.out] at hO
          clear hS
          go_wp2_with fail
          exact ⟨⟨i + 1, by omega, by go_num, hP, hO, hB⟩, by simp [intOf]; omega⟩
    · obtain rfl : i = x.p.u.length := by omega
      go_wp2_with fail
      go_loopw [7] (fun y wr => ∃ i : Nat, 0 < i ∧ i ≤ x.p.u.length ∧ y = .int .i64 i ∧ pnE.In wr n1 x ∧ inE.Own wr w.heap.size (.slice (some ⟨g, 0, none⟩) x.p.u.length x.p.u.length) (cntL x.p.u x.p.u.length 0) ∧ Below w.heap.size w wr) (fun y _ => x.p.u.length - (intOf y).toNat)
      case atStart => exact ⟨1, by decide, by have := HL.out.1; omega, rfl, hP, hO, hB⟩
      case round =>
        clear hP hO hB p0 p1 p2 p3 p4 p5 p6 p7 p8
        obtain ⟨i, hi0, hi, rfl, hP, hO, hB⟩ := hrel
        have hlc := cntL_len x.p.u x.p.u.length 0
        have hO' : inE.Own wr w.heap.size (.slice (some ⟨g, 0, none⟩) (cntL x.p.u x.p.u.length 0).length x.p.u.length) (cntL x.p.u x.p.u.length 0) := by rw [hlc]; exact hO
        obtain ⟨_, hcc, _, _⟩ := inOwn_cells hO'
        by_cases hil : i < x.p.u.length
        · have c0 := hcc i (by rw [hlc]; exact hil)
          rw [cntL_all HR.out.par hi0 hil] at c0
          clear hlc hcc hO'
          go_wp2_with fail
          exact ⟨⟨i + 1, by omega, by omega, by go_num, hP, hO, hB⟩, by simp [intOf]; omega⟩
        · obtain rfl : i = x.p.u.length := by omega
          have c0 := hcc 0 (by rw [hlc]; have := HL.out.1; omega)
          rw [cntL_root] at c0
          have hgw := (hO.lt g rfl).2
          have hd1 := devs_pos HR.out.par HR.out.n2
          have hd8 := HR.out.devs
          have hq := HR.out.q
          have hde := deepest_le HR.out.deep
          have CD := HDV.out
          have CE := HDE.out
          have CW := HWN.out
          generalize devsN x.p.u = dl at *
          generalize deepest x.p.u = Dv at *
          obtain ⟨n, hn⟩ : ∃ n, dl.length = n := ⟨_, rfl⟩
          rw [hn] at hd1 hd8 CD CW
          obtain ⟨Wv, hWv⟩ : ∃ Wv : Int, (x.p.q + 2) * (n : Int) = Wv := ⟨_, rfl⟩
          rw [hWv] at CW
          have hw3 : 3 * (n : Int) ≤ Wv := by
            rw [← hWv]
            exact Int.mul_le_mul_of_nonneg_right (by omega) (by omega)
          have HCD := Lib.hid CD
          have HCE := Lib.hid CE
          have HCW := Lib.hid CW
          have hm1 : IntKind.i64.wrap (3 * (n : Int)) = 3 * n := by rw [IntKind.wrap_i64]; omega
          have e1 : decide ((1 : Int) ≤ (n : Int)) = true := decide_eq_true (by omega)
          have e2 : decide ((n : Int) ≤ 8) = true := decide_eq_true (by omega)
          have e3 : decide (3 * (n : Int) ≤ Wv) = true := decide_eq_true hw3
          have e4 : decide ((Dv : Int) ≤ 4) = true := decide_eq_true (by omega)
          have hgn : g ≠ n1 := fun e => by
            have h1 := hP.cell 0
            rw [← e, c0] at h1
            cases h1
          have hc1 : inE.At wr g 0 (0 : Int) := fun j u hu => by
            cases j with
            | zero => cases hu; exact c0
            | succ j => simp [inE] at hu
          have hl2 := HL.out.1
          obtain ⟨p0, p1, p2, p3, p4, p5, p6, p7, p8⟩ := pnIn9 hP
          clear hlc hcc hO' hn hWv CD CE CW hw3 hd1 hd8 hde hq hO
          go_wp2_with fail
          clear p0 p1 p2 p3 p4 p5 p6 p7 p8 c0
          refine (HCD.out _ hB).mono ?_
          rintro e w5 ⟨A9, c9, rfl, _, hb5⟩
          replace hP := hP.below hb5
          replace hc1 := hc1.below hb5 hgw
          replace hgw := Nat.lt_of_lt_of_le hgw hb5.size
          replace hB := hB.trans (hb5.mono hB.size)
          clear hb5
          go_wp2_with fail
          refine (awake10_any H _).mono ?_
          rintro e w6 ⟨rfl, hb4⟩
          replace hP := hP.below hb4
          replace hc1 := hc1.below hb4 hgw
          replace hB := hB.trans (hb4.mono hB.size)
          clear hb4
          obtain ⟨p0, p1, p2, p3, p4, p5, p6, p7, p8⟩ := pnIn9 hP
          have c0 := inAt1 hc1
          go_wp2_with fail
          clear p0 p1 p2 p3 p4 p5 p6 p7 p8 c0
          refine (HCW.out _ hB).mono ?_
          rintro e w7 ⟨rfl, hb4⟩
          replace hP := hP.below hb4
          replace hB := hB.trans (hb4.mono hB.size)
          clear hb4
          obtain ⟨p0, p1, p2, p3, p4, p5, p6, p7, p8⟩ := pnIn9 hP
          go_wp2_with fail
          clear p0 p1 p2 p3 p4 p5 p6 p7 p8
          refine (HCE.out _ hB).mono ?_
          rintro e w8 ⟨rfl, hb4⟩
          replace hB := hB.trans (hb4.mono hB.size)
          go_wp2_with fail
          go_ret
          exact ⟨rfl, hB⟩

set_option maxRecDepth 100000 in
theorem trees_lifted (H0 : PlanCalls) (os : Os) (started : os.Started) (H : Type) (enc : TypeId × Value → H) :
    ReturnsInHanded {} Try.checked os 3 .any (Rows.planTreesSpec.pre6 enc Try.prog Try.f3 Rows.planTreesRow.domain false) (Rows.planTreesSpec.post enc Try.prog Try.f3 false true false false) := by
  refine returnsInHanded_of_change (C := Try.checked) own started (by kernel_rfl) Try.func3
    (ChangeSpec.witness6 (enc := enc) (C := Try.checked) false ⟨#[], #[.agg #[.slice none 0 0, .int .i64 0, .int .i64 0, .int .i64 0, .int .i64 0, .int .i64 0, .int .i64 0, .int .i64 0, .int .i64 0]], []⟩ 8 (by kernel_rfl) (by kernel_rfl) (by kernel_rfl) (by kernel_rfl)) ?_
  intro W base args ds gs before hval0 hW _ _
  have hval : ∀ (j : Nat) t v, Try.f3.params[j]? = some t → args[j]? = some v → Value.okWide Try.prog W .any base t v := hval0
  have hW' := hW
  obtain ⟨p, q, hA0, hV, rfl, _, _⟩ := hW
  have hA : DataW.TrodAll enc Try.prog W 0 (fun _ => true) true Try.f3.params.toList args.toList ds p := hA0
  rw [Try.params3] at hA hval
  obtain ⟨v0, d0, rfl, rfl, h0⟩ := trodAll_one hA
  obtain ⟨x, rfl, hT, hn⟩ := open_plan (hval 0 24 v0 rfl rfl) h0
  have hc : Calls Try.prog 3 #[.agg #[.slice x.A x.p.u.length x.c, .int .i64 x.p.q, .int .i64 x.p.r, .int .i64 x.p.b, .int .i64 x.p.l, .int .i64 x.p.w, .int .i64 x.p.c, .int .i64 x.p.k, .int .i64 x.p.i]] W fun e w' => e = .returned (.bool true) ∧ Below W.heap.size W w' := by
    by_cases hR : Pln.Right x.p
    · exact trees_walk H0 x W hT hR
    · exact trees_no H0 x W hT hR
  refine hc.mono fun e W' ⟨he, hb⟩ => ?_
  subst he
  exact ⟨_, rfl, Frm.law_post (by kernel_rfl) (by kernel_rfl) (by kernel_rfl) Try.underlying4 rfl rfl hW' hb⟩

theorem trees_holds (H0 : PlanCalls) : Rows.PlanTreesSaid :=
  OpenClaim.holds_of_wide 3 Try.f3 rfl rfl rfl rfl rfl rfl rfl ⟨rfl, rfl, rfl, rfl, rfl⟩ rfl rfl rfl rfl rfl (by kernel_rfl) Try.func3 (by kernel_rfl)
    (of_decide_eq_true (by kernel_rfl)) (by unfold Func.isWrapper; first | (rw [if_pos (by decide +kernel)]; kernel_rfl) | (rw [if_neg (by decide +kernel)]; exact ⟨rfl, rfl⟩))
    (fun os started H enc _ => trees_lifted H0 os started H enc)
theorem trees_said : Rows.PlanTreesSaid := trees_holds planCalls
end Go.Proofs.Ytmmfjmhemknpgaa
