/- Texts laid one behind the other: Um, Vm, Wk, Wl, Wm, Wb, Wa, Wc, Wd, We, Wf, Wg, Wh, Vk, Wi, Wq, Wr, Xi, To, Ws, Uo, Wt, Wu, Wj, Xa, Shf, Tf, Tg, Vl, Wn, Vi, Vj, Xe, Xj, Pa. -/
import Derived.Test.YtfpgfclmmdihjaaB04
import Derived.Deep.RegionHeld3
import Derived.Lib.QuietBelow
import Derived.Lib.SmallJoins
import Derived.Deep.SlicePairs
import Derived.ChangeSlices
import Derived.ChangeShapes
import Derived.Shelf.Strings.Builder1
import Derived.Test.YtfpgfclmmdihjaaChecked
import Derived.Lib.Builder
import Derived.Lib.AppendStr
import Derived.Test.YtfpgfclmmdihjaaRows
/- A tree as it must be: what makes one, how long it is, what its numbers are. No call in it. -/
namespace Go.Proofs.Ytfpgfclmmdihjaa
open Go.RowKit Tre Cod Nam

theorem sorted_rising : ∀ {l : List Pl}, Sorted l → rising l = true
  | [], _ => rfl
  | [_], _ => rfl
  | p :: q :: l, h => by
    unfold rising
    rw [Bool.and_eq_true, decide_eq_true_iff]
    exact ⟨h 0 1 (by simp) (by simp) (by omega), sorted_rising fun i j hi hj hij => h (i + 1) (j + 1) (by simpa using hi) (by simpa using hj) (by omega)⟩
theorem treeB_of {l : List Pl} (h1 : ∀ p ∈ l, okPl p = true) (h2 : Sorted l) (h3 : NoRing l) : treeB l = true := by
  unfold treeB
  simp only [Bool.and_eq_true, List.all_eq_true, Bool.not_eq_true']
  exact ⟨h1, sorted_rising h2, h3⟩
theorem tree_len {l : List Pl} (h : treeB l = true) : l.length ≤ 62 := by
  obtain ⟨h1, h2, _⟩ := treeB_facts h
  exact sorted_len h2 fun p hp => ⟨(okPl_fit (h1 p hp)).2.1, (okPl_fit (h1 p hp)).2.2.1⟩
theorem tree_fit {l : List Pl} (h : treeB l = true) : ∀ p ∈ l, Fit p := fun p hp => (okPl_fit ((treeB_facts h).1 p hp)).1
end Go.Proofs.Ytfpgfclmmdihjaa

/- A past as it must be, and what stays so. No call in it. -/
namespace Go.Proofs.Ytfpgfclmmdihjaa
open Go.RowKit Tre Cod Pst Nam

theorem ok_pl {m : Mv} (h : m.ok) : okPl (mvPl m) = true := by
  unfold Mv.ok opB mvB at h
  simp only [Bool.and_eq_true, decide_eq_true_iff] at h
  unfold okPl mvPl
  simp only [Bool.and_eq_true, decide_eq_true_iff]
  exact ⟨by omega, h.2.2.2.2⟩
theorem ok_mvs {o : List Mv} (h : ∀ m ∈ o, m.ok) : ∀ q ∈ mvs o, okPl q = true := fun q hq => by
  unfold mvs at hq
  obtain ⟨m, hm, rfl⟩ := List.mem_map.1 hq
  exact ok_pl (h m hm)
theorem fold_tree {l : List Pl} (h : treeB l = true) {o : List Mv} (ho : ∀ m ∈ o, m.ok) : treeB (foldL l (mvs o)).1 = true := by
  obtain ⟨h1, h2, h3⟩ := treeB_facts h
  exact treeB_of (foldL_mem h2 _ h1 (ok_mvs ho)) (foldL_sorted h2 _) (foldL_noRing h2 h3 _)
theorem mvs_app (a b : List Mv) : mvs (a ++ b) = mvs a ++ mvs b := by unfold mvs; rw [List.map_append]
theorem mvs_drop (o : List Mv) (k : Nat) : (mvs o).drop k = mvs (o.drop k) := by unfold mvs; rw [List.map_drop]

structure PInv (q : Pv) : Prop where
  tree : treeB q.base = true
  t0 : 0 ≤ q.t
  t1 : q.t ≤ 1099511627776
  ok : ∀ m ∈ q.ops, m.ok
  gt : ∀ m ∈ q.ops, q.t < m.C
  ris : Ris Mv.C Mv.D q.ops
  un : q.us = (foldL q.base (mvs q.ops)).2
  nw : q.now = (foldL q.base (mvs q.ops)).1
theorem PInv.zero : PInv Pv.zero where
  tree := rfl
  t0 := Int.le_refl _
  t1 := by decide
  ok := fun m h => by cases h
  gt := fun m h => by cases h
  ris := List.Pairwise.nil
  un := rfl
  nw := rfl
theorem PInv.ntree {q : Pv} (h : PInv q) : treeB q.now = true := by rw [h.nw]; exact fold_tree h.tree h.ok
theorem PInv.ulen {q : Pv} (h : PInv q) : q.us.length = q.ops.length := by rw [h.un, foldL_len, mvs_len]
theorem ok_C {m : Mv} (h : m.ok) : 1 ≤ m.C ∧ m.C ≤ 1099511627776 ∧ 0 ≤ m.D ∧ m.D < 12 := by
  unfold Mv.ok opB atB at h
  simp only [Bool.and_eq_true, decide_eq_true_iff] at h
  exact h.1
theorem addV_late' {q : Pv} {m : Mv} (h : m.C ≤ q.t) : addV q m = (q, false) := by unfold addV; rw [if_pos h]
theorem addV_same' {q : Pv} {m : Mv} (h : ¬ m.C ≤ q.t) (hh : has Mv.C Mv.D q.ops m = true) : addV q m = (q, false) := by unfold addV; rw [if_neg h, if_pos hh]
theorem addV_new' {q : Pv} {m : Mv} (h : ¬ m.C ≤ q.t) (hh : has Mv.C Mv.D q.ops m = false) : addV q m = ({ q with ops := insL Mv.C Mv.D q.ops m, us := (foldL q.base (mvs (insL Mv.C Mv.D q.ops m))).2, now := (foldL q.base (mvs (insL Mv.C Mv.D q.ops m))).1 }, true) := by
  unfold addV; rw [if_neg h, hh]; rfl
theorem PInv.add {q : Pv} (h : PInv q) {m : Mv} (hm : m.ok) : PInv (addV q m).1 := by
  by_cases h1 : m.C ≤ q.t
  · rw [addV_late' h1]; exact h
  · rcases h2 : has Mv.C Mv.D q.ops m with _ | _
    · rw [addV_new' h1 h2]
      refine ⟨h.tree, h.t0, h.t1, fun x hx => ?_, fun x hx => ?_, ris_ins h.ris h2, rfl, rfl⟩
      · rcases (mem_ins _ _ _).1 hx with rfl | hx
        · exact hm
        · exact h.ok x hx
      · rcases (mem_ins _ _ _).1 hx with rfl | hx
        · show q.t < _; omega
        · exact h.gt x hx
    · rw [addV_same' h1 h2]; exact h
theorem settleV_late' {q : Pv} {t : Int} (h : t ≤ q.t) : settleV q t = q := by unfold settleV; rw [if_pos h]
/-- What the program makes of it: the undos cut, the tree as it was. -/
theorem PInv.settle_eq {q : Pv} (h : PInv q) {t : Int} (ht : ¬ t ≤ q.t) :
    settleV q t = ⟨(foldL q.base (mvs (q.ops.take (upto Mv.C q.ops t)))).1, t, q.ops.drop (upto Mv.C q.ops t), q.us.drop (upto Mv.C q.ops t), q.now⟩ := by
  unfold settleV
  rw [if_neg ht]
  have e : mvs q.ops = mvs (q.ops.take (upto Mv.C q.ops t)) ++ mvs (q.ops.drop (upto Mv.C q.ops t)) := by rw [← mvs_app, List.take_append_drop]
  have hk := upto_le (c := Mv.C) q.ops t
  rw [h.un, h.nw]
  conv => rhs; rw [e, foldL_app]
  have hl : (foldL q.base (mvs (q.ops.take (upto Mv.C q.ops t)))).2.length = upto Mv.C q.ops t := by rw [foldL_len, mvs_len, List.length_take]; omega
  rw [List.drop_left' hl]
theorem PInv.settle {q : Pv} (h : PInv q) {t : Int} (ht : t ≤ 1099511627776) : PInv (settleV q t) := by
  by_cases h1 : t ≤ q.t
  · rw [settleV_late' h1]; exact h
  · have e : settleV q t = ⟨(foldL q.base (mvs (q.ops.take (upto Mv.C q.ops t)))).1, t, q.ops.drop (upto Mv.C q.ops t), (foldL (foldL q.base (mvs (q.ops.take (upto Mv.C q.ops t)))).1 (mvs (q.ops.drop (upto Mv.C q.ops t)))).2, (foldL (foldL q.base (mvs (q.ops.take (upto Mv.C q.ops t)))).1 (mvs (q.ops.drop (upto Mv.C q.ops t)))).1⟩ := by
      unfold settleV; rw [if_neg h1]
    rw [e]
    exact ⟨fold_tree h.tree fun m hm => h.ok m (List.mem_of_mem_take hm), by have := h.t0; show 0 ≤ t; omega, ht, fun m hm => h.ok m (List.mem_of_mem_drop hm), upto_drop h.ris t, h.ris.sublist (List.drop_sublist _ _), rfl, rfl⟩
theorem addV_len (q : Pv) (m : Mv) : (addV q m).1.ops.length ≤ q.ops.length + 1 := by
  unfold addV
  split
  · exact Nat.le_succ _
  · split
    · exact Nat.le_succ _
    · show (insL Mv.C Mv.D q.ops m).length ≤ _; rw [ins_len]; exact Nat.le_refl _
theorem settleV_len (q : Pv) (t : Int) : (settleV q t).ops.length ≤ q.ops.length := by
  unfold settleV
  split
  · exact Nat.le_refl _
  · show (List.drop _ _).length ≤ _; rw [List.length_drop]; omega
/-- The tree and the undos with m at its place: those ahead stay, the others are made anew upon the tree ahead of it. -/
theorem PInv.add_eq {q : Pv} (h : PInv q) (m : Mv) (k : Nat) (hk : k = pos Mv.C Mv.D q.ops m) :
    q.us.take k = (foldL q.base (mvs (q.ops.take k))).2 ∧
    q.us.drop k = (foldL (foldL q.base (mvs (q.ops.take k))).1 (mvs (q.ops.drop k))).2 ∧
    q.now = (foldL (foldL q.base (mvs (q.ops.take k))).1 (mvs (q.ops.drop k))).1 ∧
    (foldL q.base (mvs (insL Mv.C Mv.D q.ops m))).1 = (foldL (foldL q.base (mvs (q.ops.take k))).1 (mvs ([m] ++ q.ops.drop k))).1 ∧
    (foldL q.base (mvs (insL Mv.C Mv.D q.ops m))).2 = q.us.take k ++ (foldL (foldL q.base (mvs (q.ops.take k))).1 (mvs ([m] ++ q.ops.drop k))).2 ∧
    insL Mv.C Mv.D q.ops m = q.ops.take k ++ ([m] ++ q.ops.drop k) := by
  have hk1 : k ≤ q.ops.length := hk ▸ pos_le q.ops m
  have e : mvs q.ops = mvs (q.ops.take k) ++ mvs (q.ops.drop k) := by rw [← mvs_app, List.take_append_drop]
  have hl : (foldL q.base (mvs (q.ops.take k))).2.length = k := by rw [foldL_len, mvs_len, List.length_take]; omega
  have hins : insL Mv.C Mv.D q.ops m = q.ops.take k ++ ([m] ++ q.ops.drop k) := by unfold insL; rw [← hk, List.append_assoc]
  have hu : q.us.take k = (foldL q.base (mvs (q.ops.take k))).2 := by
    rw [h.un, e, foldL_app]; exact List.take_left' hl
  refine ⟨hu, ?_, ?_, ?_, ?_, hins⟩
  · rw [h.un]; conv => lhs; rw [e, foldL_app]
    exact List.drop_left' hl
  · rw [h.nw]; conv => lhs; rw [e, foldL_app]
  · rw [hins, mvs_app, foldL_app]
  · rw [hins, mvs_app, foldL_app, hu]
end Go.Proofs.Ytfpgfclmmdihjaa

/- Whether operations may be, rise, and come behind a counter: rightOps of the program. -/
namespace Go.Proofs.Ytfpgfclmmdihjaa
open Go.RowKit Tre Cod Pst

/-- The first k may be, rise, and come behind t. -/
def OpsTo (l : List Mv) (t : Int) (k : Nat) : Prop := ∀ i (h : i < l.length), i < k → l[i].ok ∧ t < l[i].C ∧ ∀ (h0 : 0 < i), bef Mv.C Mv.D (l[i - 1]'(by omega)) l[i]
def OpsR (l : List Mv) (t : Int) : Prop := OpsTo l t l.length
theorem OpsTo.zero (l : List Mv) (t : Int) : OpsTo l t 0 := fun i h hi => by omega
theorem OpsTo.next {l : List Mv} {t : Int} {k : Nat} (h : OpsTo l t k) (hk : k < l.length) (h1 : l[k].ok) (h2 : t < l[k].C) (h3 : ∀ (h0 : 0 < k), bef Mv.C Mv.D (l[k - 1]'(by omega)) l[k]) : OpsTo l t (k + 1) := fun i hi hik => by
  by_cases e : i = k
  · subst e; exact ⟨h1, h2, h3⟩
  · exact h i hi (by omega)
theorem OpsR.at {l : List Mv} {t : Int} (h : OpsR l t) (k : Nat) (hk : k < l.length) : l[k].ok ∧ t < l[k].C ∧ ∀ (h0 : 0 < k), bef Mv.C Mv.D (l[k - 1]'(by omega)) l[k] := h k hk hk

theorem false_of_not {b : Bool} {P : Prop} (h : b = true ↔ P) (hn : ¬ P) : b = false := by
  cases b
  · rfl
  · exact absurd (h.1 rfl) hn
theorem bool_for (P : Prop) : ∃ b : Bool, b = true ↔ P := by
  by_cases h : P
  · exact ⟨true, fun _ => h, fun _ => rfl⟩
  · exact ⟨false, fun e => (by cases e), fun k => absurd k h⟩

set_option maxRecDepth 100000 in
set_option maxHeartbeats 4000000 in
theorem rightOps_any (A : Option Addr) (c : Nat) (l : List Mv) (t : Int) (w : World) (hl : l.length ≤ 50000) (hsz : ∀ m ∈ l, m.s.size ≤ 9223372036854775807) (hT : opE.Sl w A l) (bv : Bool) (hbv : bv = true ↔ OpsR l t) :
    Calls Try.prog 69 #[.slice A l.length c, .int .i64 t] w fun e w' => e = .returned (.bool bv) ∧ Below w.heap.size w w' := by
  have HV := Lib.hid hbv
  clear hbv
  go_enter Try.func69, Try.ntmps69
  go_wp2
  go_loopw [9] (fun y wr => ∃ k : Nat, k ≤ l.length ∧ y = .int .i64 k ∧ OpsTo l t k ∧ Below w.heap.size w wr) (fun y _ => l.length - (intOf y).toNat)
  case atStart => exact ⟨0, Nat.zero_le _, rfl, OpsTo.zero l t, Below.refl _ _⟩
  case round =>
    obtain ⟨k, hk, rfl, hto, hnx⟩ := hrel
    by_cases hkl : k < l.length
    · obtain ⟨b, off, rfl, hbw, hc⟩ := hT (by omega)
      have hat : opE.At wr b (off + k * 7) l[k] := (hc k hkl).below hnx hbw
      have hprev : ∀ (h0 : 0 < k), opE.At wr b (off + (k - 1) * 7) (l[k - 1]'(by omega)) := fun h0 => (hc (k - 1) (by omega)).below hnx hbw
      have hms : l[k].s.size ≤ 9223372036854775807 := hsz _ (List.getElem_mem _)
      have HNK := Lib.hid (fun (h : OpsR l t) => h.at k hkl)
      have HT := Lib.hid hto
      obtain ⟨mk, hmk⟩ : ∃ mk, l[k] = mk := ⟨_, rfl⟩
      rw [hmk] at hat hms HNK
      have hb1 : Below wr.heap.size wr ((wr.alloc (.cells #[.int .i64 0, .int .i64 0, .int .i64 0, .int .i64 0, .int .i64 0, .int .i64 0, .string ⟨#[]⟩] 48)).setRow wr.heap.size #[.int .i64 mk.C, .int .i64 mk.D, .int .i64 mk.I, .int .i64 mk.M, .int .i64 mk.K, .int .i64 mk.U, .string mk.s]) := below_setRow (below_alloc (Below.refl _ _) _) (Nat.le_refl _) _
      have hI : opE.In ((wr.alloc (.cells #[.int .i64 0, .int .i64 0, .int .i64 0, .int .i64 0, .int .i64 0, .int .i64 0, .string ⟨#[]⟩] 48)).setRow wr.heap.size #[.int .i64 mk.C, .int .i64 mk.D, .int .i64 mk.I, .int .i64 mk.M, .int .i64 mk.K, .int .i64 mk.U, .string mk.s]) wr.heap.size mk := (El.In.new (E := opE) wr zeroMv #[.int .i64 0, .int .i64 0, .int .i64 0, .int .i64 0, .int .i64 0, .int .i64 0, .string ⟨#[]⟩] rfl).set mk #[.int .i64 mk.C, .int .i64 mk.D, .int .i64 mk.I, .int .i64 mk.M, .int .i64 mk.K, .int .i64 mk.U, .string mk.s] rfl
      have hz : opE.In (wr.alloc (.cells #[.int .i64 0, .int .i64 0, .int .i64 0, .int .i64 0, .int .i64 0, .int .i64 0, .string ⟨#[]⟩] 48)) wr.heap.size zeroMv := El.In.new (E := opE) wr zeroMv #[.int .i64 0, .int .i64 0, .int .i64 0, .int .i64 0, .int .i64 0, .int .i64 0, .string ⟨#[]⟩] rfl
      have hbr := Nat.lt_of_lt_of_le hbw hnx.size
      have hprev2 := fun h0 => (hprev h0).below hb1 hbr
      go_wp2_with (first | (refine El.load opRow rfl _ rfl b (off + k * 7) rfl mk hat #[.int .i64 mk.C, .int .i64 mk.D, .int .i64 mk.I, .int .i64 mk.M, .int .i64 mk.K, .int .i64 mk.U, .string mk.s] rfl ?_) | (refine El.store opRow rfl _ _ rfl wr.heap.size mk #[.int .i64 mk.C, .int .i64 mk.D, .int .i64 mk.I, .int .i64 mk.M, .int .i64 mk.K, .int .i64 mk.U, .string mk.s] rfl rfl rfl zeroMv hz ?_))
      try simp only [Act.put, List.setIfInBounds_toArray, List.set_cons_zero, List.set_cons_succ]
      have HBW := Lib.hid (below_then hnx hb1)
      generalize (wr.alloc (.cells #[.int .i64 0, .int .i64 0, .int .i64 0, .int .i64 0, .int .i64 0, .int .i64 0, .string ⟨#[]⟩] 48)).setRow wr.heap.size #[.int .i64 mk.C, .int .i64 mk.D, .int .i64 mk.I, .int .i64 mk.M, .int .i64 mk.K, .int .i64 mk.U, .string mk.s] = W at *
      generalize wr.heap.size = n0 at *
      obtain ⟨o0, o1, o2, o3, o4, o5, o6⟩ := opIn7 hI
      have k0 := cell_regrown o0
      have k1 := cell_regrown o1
      have k2 := cell_regrown o2
      have k3 := cell_regrown o3
      have k4 := cell_regrown o4
      have k5 := cell_regrown o5
      have k6 := cell_regrown o6
      obtain ⟨r, hr⟩ : ∃ r, opB mk.C mk.D mk.I mk.M mk.K mk.U mk.s = r := ⟨_, rfl⟩
      have CR := fun w => opRight_any mk.C mk.D mk.I mk.M mk.K mk.U mk.s w hms
      rw [hr] at CR
      have HCR := Lib.hid CR
      have HR := Lib.hid hr
      have HTO := Lib.hid hto
      have d1 : ∀ d os, Calls Try.prog 83 #[.agg #[.int .i64 mk.C, .int .i64 mk.D, .int .i64 mk.I, .int .i64 mk.M, .int .i64 mk.K, .int .i64 mk.U, .string mk.s]] (Sort.grow (redrawn W d) os) fun e w'' => e = .returned (.bool r) ∧ ∃ p : Regrown, w'' = Sort.grow (redrawn W p.d) p.os := fun d os => Calls.regrown_of (HCR.out _)
      have d2 : ∀ d os, Calls Try.prog 83 #[.agg #[.int .i64 mk.C, .int .i64 mk.D, .int .i64 mk.I, .int .i64 mk.M, .int .i64 mk.K, .int .i64 mk.U, .string mk.s]] (Sort.grow (redrawn W d) os) fun e w'' => e = .returned (.bool r) ∧ ∃ p : Regrown, w'' = Sort.grow (redrawn W p.d) p.os := d1
      have HMK := Lib.hid hmk
      have HPV := Lib.hid hprev2
      clear o0 o1 o2 o3 o4 o5 o6 CR hr hat hprev hprev2 hc hmk hI hb1 hto HCR
      cases r
      · have HNO := Lib.hid (show ¬ OpsR l t from fun h => by have := (HNK.out h).1; unfold Mv.ok at this; rw [HR.out] at this; cases this)
        refine wp_region_quiet_below (by kernel_rfl) (by kernel_rfl) ?_
        repeat (go_big_quiet_step ((with_reducible (first | exact d1 _ _ | exact d2 _ _))))
        refine wpQuiet_nil ?_
        intro _ hw'
        obtain ⟨⟨dq, osq⟩, hw''⟩ := hw'
        subst hw''
        have hq := below_regrown W dq osq
        generalize Sort.grow (redrawn W dq) osq = W1 at *
        go_wp2_with fail
        go_ret
        exact ⟨by rw [false_of_not HV.out HNO.out]; rfl, HBW.out.trans (hq.mono HBW.out.size)⟩
      · have HOK := Lib.hid (show mk.ok from HR.out)
        by_cases htc : t < mk.C
        · have HTC := Lib.hid htc
          have hdc : decide (mk.C ≤ t) = false := decide_eq_false (by omega)
          by_cases h0 : k = 0
          · subst h0
            have HBF := Lib.hid (fun (h0 : 0 < 0) => (absurd h0 (Nat.lt_irrefl 0) : bef Mv.C Mv.D (l[0 - 1]'(by omega)) mk))
            refine wp_region_quiet_below (by kernel_rfl) (by kernel_rfl) ?_
            repeat (go_big_quiet_step ((with_reducible (first | exact d1 _ _ | exact d2 _ _))))
            refine wpQuiet_nil ?_
            intro _ hw'
            obtain ⟨⟨dq, osq⟩, hw''⟩ := hw'
            subst hw''
            have hq := below_regrown W dq osq
            generalize Sort.grow (redrawn W dq) osq = W1 at *
            go_wp2_with fail
            go_roundw
            case rel => exact ⟨0 + 1, by omega, by go_num, HT.out.next hkl (by rw [HMK.out]; exact HOK.out) (by rw [HMK.out]; exact HTC.out) (by intro h0; omega), HBW.out.trans (hq.mono HBW.out.size)⟩
            case measure => simp [intOf]; omega
          · obtain ⟨j, rfl⟩ : ∃ j, k = j + 1 := ⟨k - 1, by omega⟩
            have hpv := HPV.out (by omega)
            simp only [Nat.add_sub_cancel] at hpv
            obtain ⟨pv, hpve⟩ : ∃ pv, l[j]'(by omega) = pv := ⟨_, rfl⟩
            rw [hpve] at hpv
            obtain ⟨t0, t1, t2, t3, t4, t5, t6⟩ := opAt hpv
            have k7 := cell_regrown t0
            have k8 := cell_regrown t1
            have C2 := fun w => before_any pv.C pv.D mk.C mk.D w
            obtain ⟨bb, hbb⟩ : ∃ bb, befB pv.C pv.D mk.C mk.D = bb := ⟨_, rfl⟩
            rw [hbb] at C2
            rw [bef_iff] at hbb
            have HC2 := Lib.hid C2
            have HBB := Lib.hid hbb
            have HPE := Lib.hid hpve
            clear t0 t1 t2 t3 t4 t5 t6 C2 hbb hpve hpv d2
            have d2 : ∀ d os, Calls Try.prog 84 #[.agg #[.int .i64 pv.C, .int .i64 pv.D], .agg #[.int .i64 mk.C, .int .i64 mk.D]] (Sort.grow (redrawn W d) os) fun e w'' => e = .returned (.bool bb) ∧ ∃ p : Regrown, w'' = Sort.grow (redrawn W p.d) p.os := fun d os => Calls.regrown_of (HC2.out _)
            have hd0 : decide ((0 : Int) < ((j + 1 : Nat) : Int)) = true := decide_eq_true (by omega)
            have hd1 : decide ((0 : Int) < (j : Int) + 1) = true := decide_eq_true (by omega)
            cases bb
            · have HNO := Lib.hid (show ¬ OpsR l t from fun h => of_decide_eq_false HBB.out (by have h9 : bef Mv.C Mv.D (l[j]'(by omega)) mk := (HNK.out h).2.2 (Nat.succ_pos j); rw [HPE.out] at h9; exact h9))
              refine wp_region_quiet_below (by kernel_rfl) (by kernel_rfl) ?_
              repeat (go_big_quiet_step ((with_reducible (first | exact d1 _ _ | exact d2 _ _))))
              refine wpQuiet_nil ?_
              intro _ hw'
              obtain ⟨⟨dq, osq⟩, hw''⟩ := hw'
              subst hw''
              have hq := below_regrown W dq osq
              generalize Sort.grow (redrawn W dq) osq = W1 at *
              go_wp2_with fail
              go_ret
              exact ⟨by rw [false_of_not HV.out HNO.out]; rfl, HBW.out.trans (hq.mono HBW.out.size)⟩
            · have HBF := Lib.hid (show ∀ (h0 : 0 < j + 1), bef Mv.C Mv.D (l[j + 1 - 1]'(by omega)) mk from fun _ => by show bef Mv.C Mv.D (l[j]'(by omega)) mk; rw [HPE.out]; exact of_decide_eq_true HBB.out)
              refine wp_region_quiet_below (by kernel_rfl) (by kernel_rfl) ?_
              repeat (go_big_quiet_step ((with_reducible (first | exact d1 _ _ | exact d2 _ _))))
              refine wpQuiet_nil ?_
              intro _ hw'
              obtain ⟨⟨dq, osq⟩, hw''⟩ := hw'
              subst hw''
              have hq := below_regrown W dq osq
              generalize Sort.grow (redrawn W dq) osq = W1 at *
              go_wp2_with fail
              go_roundw
              case rel => exact ⟨j + 1 + 1, by omega, by go_num, HT.out.next hkl (by rw [HMK.out]; exact HOK.out) (by rw [HMK.out]; exact HTC.out) (by intro h0; rw [HMK.out]; exact HBF.out h0), HBW.out.trans (hq.mono HBW.out.size)⟩
              case measure => simp [intOf]; omega
        · have hdc : decide (mk.C ≤ t) = true := decide_eq_true (by omega)
          have HNO := Lib.hid (show ¬ OpsR l t from fun h => htc (HNK.out h).2.1)
          refine wp_region_quiet_below (by kernel_rfl) (by kernel_rfl) ?_
          repeat (go_big_quiet_step ((with_reducible (first | exact d1 _ _ | exact d2 _ _))))
          refine wpQuiet_nil ?_
          intro _ hw'
          obtain ⟨⟨dq, osq⟩, hw''⟩ := hw'
          subst hw''
          have hq := below_regrown W dq osq
          generalize Sort.grow (redrawn W dq) osq = W1 at *
          go_wp2_with fail
          go_ret
          exact ⟨by rw [false_of_not HV.out HNO.out]; rfl, HBW.out.trans (hq.mono HBW.out.size)⟩
    · obtain rfl : k = l.length := by omega
      go_wp2
      go_ret
      exact ⟨by rw [HV.out.2 hto]; rfl, hnx⟩
end Go.Proofs.Ytfpgfclmmdihjaa

/- The library's Equal, of places and of undos. -/
namespace Go.Proofs.Ytfpgfclmmdihjaa
open Go.RowKit Tre Cod

end Go.Proofs.Ytfpgfclmmdihjaa

/- Whether a past is one: Right of the program. -/
namespace Go.Proofs.Ytfpgfclmmdihjaa
open Go.RowKit Tre Cod Pst Nam

def PastR (q : Pv) : Prop := treeB q.base = true ∧ 0 ≤ q.t ∧ q.t ≤ 1099511627776 ∧ OpsR q.ops q.t ∧ q.now = (foldL q.base (mvs q.ops)).1 ∧ q.us = (foldL q.base (mvs q.ops)).2
theorem PInv.right {q : Pv} (h : PInv q) : PastR q :=
  ⟨h.tree, h.t0, h.t1, fun i hi _ => ⟨h.ok _ (List.getElem_mem hi), h.gt _ (List.getElem_mem hi), fun h0 => ris_get h.ris (by omega) hi (by omega)⟩, h.nw, h.un⟩

end Go.Proofs.Ytfpgfclmmdihjaa

/- The library's Search; where an operation of a moment stands; where the counters above a number begin. -/
namespace Go.Proofs.Ytfpgfclmmdihjaa
open Go.RowKit Tre Cod Pst

theorem find_pos {l : List Mv} (hr : Ris Mv.C Mv.D l) {m : Mv} {i : Nat} (hi : i ≤ l.length) (hlo : ∀ k (h : k < l.length), k < i → befB l[k].C l[k].D m.C m.D = true) (hhi : ∀ k (h : k < l.length), i ≤ k → befB l[k].C l[k].D m.C m.D = false) : i = pos Mv.C Mv.D l m :=
  pos_eq hi (fun k h hk => by have := hlo k h hk; rw [bef_iff] at this; exact of_decide_eq_true this) (fun h => by have := hhi i h (Nat.le_refl _); rw [bef_iff] at this; exact of_decide_eq_false this)

end Go.Proofs.Ytfpgfclmmdihjaa

/- Of the library, at operations and undos: Clone, Grow, Concat. -/
namespace Go.Proofs.Ytfpgfclmmdihjaa
open Go.RowKit Tre Cod

def catE {α : Type} (F : Nat → List α) : Nat → List α
  | 0 => []
  | k + 1 => catE F k ++ F k
theorem catE_le {α : Type} (F : Nat → List α) (k : Nat) : ∀ n, k ≤ n → (catE F k).length ≤ (catE F n).length
  | 0, h => by obtain rfl : k = 0 := by omega
               exact Nat.le_refl _
  | n + 1, h => by
    by_cases e : k = n + 1
    · subst e; exact Nat.le_refl _
    · have := catE_le F k n (by omega)
      rw [catE, List.length_append]; omega

theorem infoOp : (Try.prog.info? 48).map (fun i => (i.zero, i.size, i.bytes)) = some (some (.agg #[.int .i64 0, .int .i64 0, .int .i64 0, .int .i64 0, .int .i64 0, .int .i64 0, .string ⟨#[]⟩]), 7, 64) := by kernel_rfl
theorem infoUn : (Try.prog.info? 120).map (fun i => (i.zero, i.size, i.bytes)) = some (some (.agg #[.int .i64 0, .int .i64 0, .string ⟨#[]⟩, .bool false, .bool false]), 5, 40) := by kernel_rfl
end Go.Proofs.Ytfpgfclmmdihjaa

/- Where an operation of a moment stands, and whether it does; a past in new memory; whether each has its undo. -/
namespace Go.Proofs.Ytfpgfclmmdihjaa
open Go.RowKit Tre Cod Pst

end Go.Proofs.Ytfpgfclmmdihjaa

/- A past in new memory. -/
namespace Go.Proofs.Ytfpgfclmmdihjaa
open Go.RowKit Tre Cod Pst

section
variable {P : Program} {ops : Array Oper} {Q : Exit → Act → World → Prop} {md : Region.Mode} {S : World → Prop} {n : Nat}
/-- An operation behind number n: nothing is asked. -/
theorem AllG.after {fuel : Nat} {listed : Array Bool} {a : Act} {w : World} {i : Nat} {o : Oper} {rs : List Nat} (ho : ops.toList[i]? = some o) (hn : (listed.setIfInBounds i true).getD n true = true)
    (h : ∀ K : Act → World → Prop, RowKit.Hid (∀ b v, anyG P md ops Q S n fuel (listed.setIfInBounds i true) b v → K b v) → if Region.wanted o (yielded ops a.tmps) = true then Oper.wp P o a w K Q else K (a.put o.dst undef) w)
    (hs : AllG P md ops Q S n fuel listed a w rs) : AllG P md ops Q S n fuel listed a w (i :: rs) := fun j hj => by
  rcases List.mem_cons.1 hj with rfl | hj
  · exact wpOp_step (by rw [← Array.getElem?_toList]; exact ho) (fun K hK => h K (Lib.hid fun b v hW => hK b v ⟨fun e => (by rw [hn] at e; cases e), hW⟩))
  · exact hs j hj
theorem anyG_plain_after {i : Nat} {oi : Oper} {v : Value} {fuel : Nat} {listed : Array Bool} {a : Act} {w : World} (hi : ops.toList[i]? = some oi)
    (hin : (i == n) = false) (hs : Region.noSelect ops = true) (hf : Region.free md ops listed i = true) (hr : (Region.ready md ops listed).contains i = true)
    (hQ : ∀ c a w, Q (.panic c) (a.put oi.dst v) w → Q (.panic c) a w) (hy : Yields P ops oi v a) (hn : listed.getD n true = true)
    (h : anyG P md ops Q S n fuel (listed.setIfInBounds i true) (a.put oi.dst v) w) : anyG P md ops Q S n (fuel + 1) listed a w :=
  anyG_plain hi hin hs hf hr hQ hy (fun e => by rw [hn] at e; cases e) h
end

/-- Its slices are the call's own. -/
structure PFrs (B : Nat) (y : Pw) : Prop where
  b : Frs B y.bA
  o : Frs B y.oA
  u : Frs B y.uA
  w : Frs B y.wA
theorem PFrs.mono {B C : Nat} {y : Pw} (h : PFrs C y) (hb : B ≤ C) : PFrs B y := ⟨h.b.mono hb, h.o.mono hb, h.u.mono hb, h.w.mono hb⟩
/-- A block ahead of them is written: they stay. -/
theorem PastOk.keep {w w' : World} {y : Pw} {B b : Nat} (h : PastOk w y) (hf : PFrs B y) (hg : w.grownBy w' (some b)) (hb : b < B) : PastOk w' y :=
  ⟨h.b.keep hf.b hg hb, h.o.keep hf.o hg hb, h.u.keep hf.u hg hb, h.w.keep hf.w hg hb⟩
def Two (n0 i j : Nat) (u v : Value) (w : World) : Prop := w.cell? ⟨n0, i, none⟩ = some u ∧ w.cell? ⟨n0, j, none⟩ = some v

end Go.Proofs.Ytfpgfclmmdihjaa

/- Moves undone from the last one on. -/
namespace Go.Proofs.Ytfpgfclmmdihjaa
open Go.RowKit Tre Cod Pst

theorem undo_at {base : List Pl} (hs : Sorted base) (o : List Mv) (j : Nat) (h : j < o.length) :
    ∃ u, (foldL base (mvs o)).2[j]? = some u ∧ backL (fold1 base o (j + 1)) o[j].K u = fold1 base o j := by
  have hm : j < (mvs o).length := by rw [mvs_len]; exact h
  have e : (mvs o)[j]'hm = mvPl o[j] := List.getElem_map mvPl
  refine ⟨_, foldL_un base (mvs o) j hm, ?_⟩
  have h2 := foldL_undo hs (mvs o) j hm
  unfold fold1
  rw [← mvs_take, ← mvs_take]
  rw [e] at h2 ⊢
  exact h2

end Go.Proofs.Ytfpgfclmmdihjaa

/- Add of the program: what comes too late, or a second time. -/
namespace Go.Proofs.Ytfpgfclmmdihjaa
open Go.RowKit Tre Cod Pst

end Go.Proofs.Ytfpgfclmmdihjaa

/- Add of the program: an operation put in. -/
namespace Go.Proofs.Ytfpgfclmmdihjaa
open Go.RowKit Tre Cod Pst

/-- A past written cell by cell. -/
theorem pw_put {w : World} {b : Nat} {x : Pw} (h : pwE.In w b x) (y : Pw) :
    pwE.In (((((w.setCell ⟨b, 0, none⟩ (.slice y.bA y.base.length y.bc)).setCell ⟨b, 1, none⟩ (.int .i64 y.t)).setCell ⟨b, 2, none⟩ (.slice y.oA y.ops.length y.oc)).setCell ⟨b, 3, none⟩ (.slice y.uA y.us.length y.uc)).setCell ⟨b, 4, none⟩ (.slice y.wA y.now.length y.wc)) b y ∧
    w.grownBy (((((w.setCell ⟨b, 0, none⟩ (.slice y.bA y.base.length y.bc)).setCell ⟨b, 1, none⟩ (.int .i64 y.t)).setCell ⟨b, 2, none⟩ (.slice y.oA y.ops.length y.oc)).setCell ⟨b, 3, none⟩ (.slice y.uA y.us.length y.uc)).setCell ⟨b, 4, none⟩ (.slice y.wA y.now.length y.wc)) (some b) := by
  refine ⟨?_, by_cell2 (by_cell2 (by_cell2 (by_cell2 (by_cell w b 0 _) 1 _) 2 _) 3 _) 4 _⟩
  have h1 := h.put ⟨y.bA, y.bc, y.base, x.t, x.oA, x.oc, x.ops, x.uA, x.uc, x.us, x.wA, x.wc, x.now⟩ 0 (.slice y.bA y.base.length y.bc) rfl
  have h2 := h1.put ⟨y.bA, y.bc, y.base, y.t, x.oA, x.oc, x.ops, x.uA, x.uc, x.us, x.wA, x.wc, x.now⟩ 1 (.int .i64 y.t) rfl
  have h3 := h2.put ⟨y.bA, y.bc, y.base, y.t, y.oA, y.oc, y.ops, x.uA, x.uc, x.us, x.wA, x.wc, x.now⟩ 2 (.slice y.oA y.ops.length y.oc) rfl
  have h4 := h3.put ⟨y.bA, y.bc, y.base, y.t, y.oA, y.oc, y.ops, y.uA, y.uc, y.us, x.wA, x.wc, x.now⟩ 3 (.slice y.uA y.us.length y.uc) rfl
  exact h4.put y 4 (.slice y.wA y.now.length y.wc) rfl
def pick3 {α : Type} (a b c : α) (j : Nat) : α := match j with
  | 0 => a
  | 1 => b
  | _ => c


end Go.Proofs.Ytfpgfclmmdihjaa

/- Settle of the program. -/
namespace Go.Proofs.Ytfpgfclmmdihjaa
open Go.RowKit Tre Cod Pst

end Go.Proofs.Ytfpgfclmmdihjaa

/- The document's Own and Of. -/
namespace Go.Proofs.Ytfpgfclmmdihjaa
open Go.RowKit Tre Cod Pst

/-- How many of the first k are so. -/
def cntO (p : Mv → Bool) (l : List Mv) (k : Nat) : Nat := ((l.take k).filter p).length
theorem cntO_zero (p : Mv → Bool) (l : List Mv) : cntO p l 0 = 0 := rfl
theorem cntO_next {p : Mv → Bool} {l : List Mv} {k : Nat} {x : Mv} (h : k < l.length) (hx : l[k] = x) : cntO p l (k + 1) = cntO p l k + (if p x then 1 else 0) := by
  unfold cntO
  rw [List.take_succ_eq_append_getElem h, List.filter_append, List.length_append, hx]
  congr 1
  cases hp : p x <;> simp [hp]
theorem cntO_all (p : Mv → Bool) (l : List Mv) : cntO p l l.length = (l.filter p).length := by unfold cntO; rw [List.take_length]
theorem cntO_le (p : Mv → Bool) (l : List Mv) (k : Nat) : cntO p l k ≤ l.length := by
  unfold cntO
  have h1 := List.length_filter_le p (l.take k)
  have h2 : (l.take k).length ≤ l.length := by rw [List.length_take]; omega
  omega

end Go.Proofs.Ytfpgfclmmdihjaa

/- Own, Of and count of the program. -/
namespace Go.Proofs.Ytfpgfclmmdihjaa
open Go.RowKit Tre Cod Pst

end Go.Proofs.Ytfpgfclmmdihjaa

/- Of the law: fine, made. -/
namespace Go.Proofs.Ytfpgfclmmdihjaa
open Go.RowKit Tre Cod Pst Nam

theorem refOpRight_mv (m : Mv) (w : World) (hs : m.s.size ≤ 9223372036854775807) :
    Calls Try.prog 30 #[.agg #[.int .i64 m.C, .int .i64 m.D, .int .i64 m.I, .int .i64 m.M, .int .i64 m.K, .int .i64 m.U, .string m.s]] w fun e w' => e = .returned (.bool (opB m.C m.D m.I m.M m.K m.U m.s)) ∧ Below w.heap.size w w' := opRefRight_any m.C m.D m.I m.M m.K m.U m.s w hs
def Fine (l : List Mv) : Prop := l.length ≤ 60 ∧ ∀ m ∈ l, m.ok

def mk4 (c d n u : Int) : Mv := ⟨c, d, 1, 1, n, u, ⟨#[97]⟩⟩
end Go.Proofs.Ytfpgfclmmdihjaa

/- The law's example; what a past's block leaves of pasts. -/
namespace Go.Proofs.Ytfpgfclmmdihjaa
open Go.RowKit Tre Cod Pst Nam

theorem two_int {w : World} {n o : Nat} {x : Pw} {a b : Int} (h : pwE.In w n x) (h1 : w.cell? ⟨n, o, none⟩ = some (.int .i64 a)) (h2 : w.cell? ⟨n, o + 1, none⟩ = some (.int .i64 b)) : False := by
  rw [h.cell] at h1 h2
  match o, h1, h2 with
  | 0, h1, _ => exact absurd (Option.some.inj h1) (by intro e; cases e)
  | 1, _, h2 => exact absurd (Option.some.inj h2) (by intro e; cases e)
  | 2, h1, _ => exact absurd (Option.some.inj h1) (by intro e; cases e)
  | 3, h1, _ => exact absurd (Option.some.inj h1) (by intro e; cases e)
  | 4, h1, _ => exact absurd (Option.some.inj h1) (by intro e; cases e)
  | o + 5, h1, _ => exact absurd h1 (by intro e; cases e)
theorem SlV.off {α : Type} {E : El α} {w w' : World} {A : Option Addr} {c n : Nat} {l : List α} {x : Pw} (h : SlV E w A c l) (hp : pwE.In w n x) (hg : w.grownBy w' (some n)) (hi : ∀ y : α, ∃ a b : Int, (E.c y)[0]? = some (.int .i64 a) ∧ (E.c y)[1]? = some (.int .i64 b)) : SlV E w' A c l := by
  refine ⟨?_, h.2⟩
  intro h0
  obtain ⟨b, off, e, hl, hc⟩ := h.1 h0
  refine ⟨b, off, e, Nat.lt_of_lt_of_le hl hg.size, fun i hi2 => (hc i hi2).grown hg fun e2 => ?_⟩
  have e3 := Option.some.inj e2
  subst e3
  obtain ⟨a1, a2, h1, h2⟩ := hi l[0]
  have g1 := hc 0 h0 0 _ h1
  have g2 := hc 0 h0 1 _ h2
  exact two_int hp g1 g2
/-- A past's own block is written: other pasts stay. -/
theorem PastOk.off {w w' : World} {n : Nat} {x y : Pw} (h : PastOk w y) (hp : pwE.In w n x) (hg : w.grownBy w' (some n)) : PastOk w' y :=
  ⟨h.b.off hp hg fun p => ⟨p.n, p.u, rfl, rfl⟩, h.o.off hp hg fun m => ⟨m.C, m.D, rfl, rfl⟩, h.u.off hp hg fun u => ⟨u.was.n, u.was.u, rfl, rfl⟩, h.w.off hp hg fun p => ⟨p.n, p.u, rfl, rfl⟩⟩

/-- A region's ways brought to one: the frame behind it is F of a past and a block, whatever the way. -/
def Merge (F : Pw → Nat → Act) (R : Pw → Nat → World → Prop) : Exit → Act → World → Prop
  | .normal, a, w => ∃ y n, a = F y n ∧ R y n w
  | _, _, _ => False
theorem wp_merge {P : Program} {c : Code} {Q : Exit → Act → World → Prop} {a : Act} {w : World} (R : Pw → Nat → World → Prop) {F : Pw → Nat → Act} (h : c.wp P (Merge F R) a w) (k : ∀ y n w, R y n w → Q .normal (F y n) w) : c.wp P Q a w :=
  Code.wp_mono (fun e a w h => by
    cases e with
    | normal => obtain ⟨y, n, rfl, hr⟩ := h; exact k y n w hr
    | _ => exact h.elim) h
def am1 : Mv := mk4 2 1 3 2
def am2 : Mv := mk4 1 1 2 3
def am3 : Mv := mk4 2 1 4 0
def am4 : Mv := mk4 1 2 5 0
def aV1 : Pv := ⟨[], 0, [am1], [⟨zero, false, true⟩], [⟨3, 2, ⟨#[97]⟩⟩]⟩
def aV2 : Pv := ⟨[], 0, [am2, am1], [⟨zero, false, true⟩, noUn], [⟨2, 3, ⟨#[97]⟩⟩]⟩
def aV3 : Pv := ⟨[⟨2, 3, ⟨#[97]⟩⟩], 1, [am1], [noUn], [⟨2, 3, ⟨#[97]⟩⟩]⟩
theorem ax1 : addV Pv.zero am1 = (aV1, true) := by rfl
theorem ax2 : addV aV1 am2 = (aV2, true) := by rfl
theorem ax3 : addV aV2 am3 = (aV2, false) := by rfl
theorem ax4 : settleV aV2 1 = aV3 := by rfl
theorem ax5 : addV aV3 am4 = (aV3, false) := by rfl
theorem aok1 : am1.ok := by unfold Mv.ok; rfl
theorem aok2 : am2.ok := by unfold Mv.ok; rfl
theorem aI1 : PInv aV1 := by have h := PInv.zero.add aok1; rw [ax1] at h; exact h
theorem aI2 : PInv aV2 := by have h := aI1.add aok2; rw [ax2] at h; exact h
theorem aI3 : PInv aV3 := by have h := aI2.settle (t := 1) (by decide); rw [ax4] at h; exact h
theorem aown : ownV aV2 1 1 = 2 := by rfl
theorem aof : ofV aV2 2 = 0 := by rfl
end Go.Proofs.Ytfpgfclmmdihjaa

/- The program's Read of a past, where one stands. -/
namespace Go.Proofs.Ytfpgfclmmdihjaa
open Go.RowKit Tre Cod Pst Nam

set_option maxRecDepth 100000 in
set_option maxHeartbeats 2000000 in
theorem pPastRead_yes {w : World} {b p p1 p2 : Nat} {s : ByteArray} (V : Pv) (pos : Nat → Nat) (hs : s.size ≤ 1000000) (hp : p ≤ s.size) (hr : Rd 75 w b s p false) (hI : PInv V) (hl : V.ops.length ≤ 60)
    (hT : isTree s p false = some (V.base, p1)) (h1 : p1 ≤ s.size) (hC : isCount s p1 false 1099511627776 = some (V.t, p2)) (h2 : p2 ≤ s.size)
    (hcnt : isCount s p2 false 4096 = some ((V.ops.length : Int), pos 0)) (hop : ∀ k (h : k < V.ops.length), isOp s (pos k) false = some (V.ops[k], pos (k + 1))) (hpos : ∀ k, k ≤ V.ops.length → pos k ≤ s.size) :
    Calls Try.prog 48 #[.pointer (some ⟨b, 0, none⟩)] w fun e w' => ∃ y : Pw, e = .returned (.agg #[.slice y.bA y.base.length y.bc, .int .i64 y.t, .slice y.oA y.ops.length y.oc, .slice y.uA y.us.length y.uc, .slice y.wA y.now.length y.wc]) ∧ PastOk w' y ∧ y.v = V ∧ Rd 75 w' b s (pos V.ops.length) false ∧ w.grownBy w' (some b) := by
  have hsort := (treeB_facts hI.tree).2.1
  have hbl := tree_len hI.tree
  have hR := hI.right
  have hsz : ∀ m ∈ V.ops, m.s.size ≤ 9223372036854775807 := fun m hm => by have := opB_wide (hI.ok m hm); omega
  have hun := hI.un
  have hnw := hI.nw
  have hopr : OpsR V.ops V.t := hR.2.2.2.1
  clear hI hR
  obtain ⟨base, t, l, us, now⟩ := V
  simp only at hl hT hC hcnt hop hpos hsort hbl hsz hun hnw hopr
  have hbw := hr.lt
  have CF := fun (A : Option Addr) (c : Nat) (O : Option Addr) (oc : Nat) (wx : World) (hA : SlV plE wx A c base) (hO : opE.Sl wx O l) => mvFold_any A c base O oc l wx (by omega) hsort hA hO
  rw [← hnw, ← hun] at CF
  have HCF := Lib.hid CF
  have HRO := Lib.hid (fun (A : Option Addr) (c : Nat) (wx : World) (h : opE.Sl wx A l) => rightOps_any A c l t wx (by omega) hsz h true ⟨fun _ => hopr, fun _ => rfl⟩)
  have HCO := Lib.hid (fun (wx : World) (h : Rd 75 wx b s p2 false) => pReadOps_yes l pos hs h2 h hl hcnt hop hpos)
  have HCC := Lib.hid (fun (wx : World) (h : Rd 75 wx b s p1 false) => count_yes (most := 1099511627776) hs h1 h hC)
  have HCT := Lib.hid (fun (wx : World) (h : Rd 75 wx b s p false) => treeRead_yes hs hp h hT)
  clear CF hun hnw hcnt hop hpos hC hT hsz hopr hsort
  have hR0 := hr.below (below_alloc (Below.refl w.heap.size w) (.cells #[.slice none 0 0, .int .i64 0, .slice none 0 0, .slice none 0 0, .slice none 0 0] 27))
  have hP : pwE.In (w.alloc (.cells #[.slice none 0 0, .int .i64 0, .slice none 0 0, .slice none 0 0, .slice none 0 0] 27)) w.heap.size Pw.zero := El.In.new (E := pwE) w Pw.zero #[.slice none 0 0, .int .i64 0, .slice none 0 0, .slice none 0 0, .slice none 0 0] rfl
  have hG := by_below (below_alloc (Below.refl w.heap.size w) (.cells #[.slice none 0 0, .int .i64 0, .slice none 0 0, .slice none 0 0, .slice none 0 0] 27)) (some b)
  clear hr
  go_enter Try.func48, Try.ntmps48
  go_wp2_with fail
  have hbA : b < (w.alloc (.cells #[.slice none 0 0, .int .i64 0, .slice none 0 0, .slice none 0 0, .slice none 0 0] 27)).heap.size := by rw [alloc_size]; omega
  generalize w.alloc (.cells #[.slice none 0 0, .int .i64 0, .slice none 0 0, .slice none 0 0, .slice none 0 0] 27) = W0 at *
  obtain ⟨n2, h3⟩ : ∃ n, w.heap.size = n := ⟨_, rfl⟩
  rw [h3] at hP ⊢
  have hn2 : w.heap.size ≤ n2 := by omega
  have hne : n2 ≠ b := by omega
  have hne' : some n2 ≠ some b := fun e => hne (Option.some.inj e)
  clear h3
  refine (HCT.out W0 hR0).mono ?_
  rintro e w1 ⟨A1, c1, rfl, hS1, hF1, hR1, hG1⟩
  have hP1 := hP.keep hG1 hne'
  have hGa := by_trans hG hG1
  clear hR0 hP hG HCT
  go_wp2_with fail
  refine (HCC.out w1 hR1).mono ?_
  rintro e w2 ⟨rfl, hR2, hG2⟩
  have hP2 := hP1.keep hG2 hne'
  have hS2 := hS1.keep hF1 hG2 hbA
  have hGb := by_trans hGa hG2
  have hbs2 : b < w2.heap.size := Nat.lt_of_lt_of_le hbw hGb.size
  clear hP1 hS1 hGa hR1 HCC hG1 hG2
  go_wp2_with fail
  refine (HCO.out w2 hR2).mono ?_
  rintro e w3 ⟨A3, c3, rfl, hS3, hF3, hR3, hG3⟩
  have hP3 := hP2.keep hG3 hne'
  have hS2' := hS2.keep hF1 hG3 hbA
  have hGc := by_trans hGb hG3
  clear hP2 hS2 hGb hR2 HCO hG3
  obtain ⟨r0, r1, r2⟩ := hR3.cells
  clear r0 r1
  go_wp2_with fail
  clear r2
  refine (HRO.out A3 c3 w3 hS3.1).mono ?_
  rintro e w4 ⟨rfl, hb4⟩
  have hP4 := hP3.below hb4
  have hS4 := hS2'.below hb4
  have hS34 := hS3.below hb4
  have hR4 := hR3.below hb4
  have hGd := by_trans hGc (by_below hb4 _)
  clear hP3 hS2' hS3 hR3 hGc hb4 HRO
  go_wp2_with fail
  refine (HCF.out A1 c1 A3 c3 w4 hS4 hS34.1).mono ?_
  rintro e w5 ⟨A5, c5, U5, uc5, rfl, hS5, hU5, hf5, hfu5, hb5⟩
  have hP5 := hP4.below hb5
  have hS15 := hS4.below hb5
  have hS35 := hS34.below hb5
  have hR5 := hR4.below hb5
  have hGe := by_trans hGd (by_below hb5 _)
  have hOk : PastOk w5 ⟨A1, c1, base, t, A3, c3, l, U5, uc5, us, A5, c5, now⟩ := ⟨hS15, hS35, hU5, hS5⟩
  clear hP4 hS4 hS34 hR4 hGd hb5 HCF hS5 hU5 hf5 hfu5 hS15 hS35
  go_wp2_with (first | (refine El.store pwRow rfl _ _ rfl n2 ⟨A1, c1, base, t, A3, c3, l, U5, uc5, us, A5, c5, now⟩ #[.slice A1 base.length c1, .int .i64 t, .slice A3 l.length c3, .slice U5 us.length uc5, .slice A5 now.length c5] rfl rfl rfl Pw.zero hP5 ?_) | fail)
  refine El.ret1 pwRow (hP5.set ⟨A1, c1, base, t, A3, c3, l, U5, uc5, us, A5, c5, now⟩ #[.slice A1 base.length c1, .int .i64 t, .slice A3 l.length c3, .slice U5 us.length uc5, .slice A5 now.length c5] rfl) rfl rfl rfl #[.slice A1 base.length c1, .int .i64 t, .slice A3 l.length c3, .slice U5 us.length uc5, .slice A5 now.length c5] rfl ?_
  exact ⟨⟨A1, c1, base, t, A3, c3, l, U5, uc5, us, A5, c5, now⟩, rfl, hOk.off hP5 (by_row _ _ _), rfl, hR5.row n2 _ (fun e => hne e.symm), by_setRow hGe n2 _ hn2⟩
end Go.Proofs.Ytfpgfclmmdihjaa

/- How the arguments of the laws are opened. -/
namespace Go.Proofs.Ytfpgfclmmdihjaa
open Go.ChangeShapes Go.WideShapes Go.ChangeAt Go.RowKit Go.Deep Nam Cod Tre

theorem cells24 : Try.prog.cellsOf 115 = 3 := by kernel_rfl
theorem cells45 : Try.prog.cellsOf 43 = 3 := by kernel_rfl

/-- Its numbers are words, its text isn't too long for a machine. -/
def WidePl (p : Pl) : Prop := i64 p.n ∧ i64 p.u ∧ p.s.size ≤ maxLen
set_option maxRecDepth 100000 in
theorem read_pl {H : Type} {enc : TypeId × Value → H} {W : World} {base : Nat} {sp : Nat → Bool} {held : Bool} {fuel : Nat} {cs : List Value} {x : DataW H × List MemPlace}
    (h : DataW.trod enc Try.prog W base sp held fuel 115 cs = some x) : ∃ p : Pl, cs = [.int .i64 p.n, .int .i64 p.u, .string p.s] ∧ WidePl p := by
  obtain ⟨xs, n, _, _, hl, hlen, hf⟩ := DataW.trod_struct Try.underlying115 h
  have hl3 : cs.length = 3 := hl.trans cells24
  have hlx : xs.length = 3 := hlen
  match cs, hl3, xs, hlx with
  | [c0, c1, c2], _, [y0, y1, y2], _ =>
    have h0 := hf 0 _ rfl
    have h1 := hf 1 _ rfl
    have h2 := hf 2 _ rfl
    simp [cells3, cells9] at h0 h1 h2
    obtain ⟨n, e0, _, w0⟩ := DataW.trod_int Try.underlying3 h0
    obtain ⟨u, e1, _, w1⟩ := DataW.trod_int Try.underlying3 h1
    obtain ⟨s, e2, _, w2⟩ := DataW.trod_string Try.underlying9 h2
    simp at e0 e1 e2
    subst e0 e1 e2
    have b0 := bounds_i64 w0
    have b1 := bounds_i64 w1
    have j0 : i64 n := ⟨by omega, by omega⟩
    have j1 : i64 u := ⟨by omega, by omega⟩
    exact ⟨⟨n, u, s⟩, rfl, j0, j1, w2⟩
set_option maxRecDepth 100000 in
theorem open_pl {H : Type} {enc : TypeId × Value → H} {W : World} {base : Nat} {sp : Nat → Bool} {v : Value} {d : DataW H} {ps : List MemPlace}
    (hv : Value.okWide Try.prog W .any base 115 v) (h : DataW.Trod enc Try.prog W 0 sp true 115 v d ps) : ∃ p : Pl, v = .agg #[.int .i64 p.n, .int .i64 p.u, .string p.s] ∧ WidePl p := by
  obtain ⟨cs, rfl, _⟩ := okWide_struct Try.underlying115 hv
  obtain ⟨fuel, hf⟩ := h
  obtain ⟨p, e, hw⟩ := read_pl hf
  refine ⟨p, ?_, hw⟩
  obtain ⟨l⟩ := cs
  simp [Value.cells] at e
  rw [e]
theorem add_plain (b o n : Nat) : (⟨b, o, none⟩ : Addr).add n = ⟨b, o + n, none⟩ := Addr.add_lit b o n
set_option maxRecDepth 100000 in
/-- A list of places among the arguments. -/
theorem open_tree {H : Type} {enc : TypeId × Value → H} {W : World} {base : Nat} {v : Value} {d : DataW H} {ps : List MemPlace}
    (hv : Value.okWide Try.prog W .any base 23 v) (h : DataW.Trod enc Try.prog W 0 (fun _ => true) true 23 v d ps) :
    ∃ (A : Option Addr) (cap : Nat) (l : List Pl), v = .slice A l.length cap ∧ Tr W A l ∧ l.length ≤ cap ∧ (A = none → cap = 0) ∧ ∀ p ∈ l, WidePl p := by
  obtain ⟨a0, len, cap, rfl, _⟩ := okWide_slice Try.underlying23 hv
  obtain ⟨fuel, hf⟩ := h
  rcases open_slice Try.underlying23 hf with ⟨hcs, hx⟩ | ⟨a, len', cap', m, n, D, Pls, hcs, _, hle, hm, hmm, hx, hi⟩
  · simp [Value.cells] at hcs
    obtain ⟨rfl, rfl, rfl⟩ := hcs
    exact ⟨none, 0, [], rfl, Tr.nil W none, Nat.le_refl _, fun _ => rfl, fun p hp => by cases hp⟩
  · simp [Value.cells] at hcs
    obtain ⟨rfl, rfl, rfl⟩ := hcs
    simp only [if_true] at hmm
    have hv : ∀ i, i < m → ∃ p : Pl, WidePl p ∧ W.cells? 0 (a.add (i * 3)) 3 = some [.int .i64 p.n, .int .i64 p.u, .string p.s] := by
      intro i him
      obtain ⟨cs', h1, h2⟩ := hi i him
      rw [cells24] at h1
      obtain ⟨p, rfl, hw⟩ := read_pl h2
      exact ⟨p, hw, h1⟩
    obtain ⟨f, hf2⟩ := choose_lt hv
    have hlen : ((List.range len).map f).length = len := by simp
    refine ⟨some a, cap, (List.range len).map f, by rw [hlen], fun h => ?_, by rw [hlen]; exact hle, (fun e => by cases e), fun p hp => ?_⟩
    · rw [hlen] at h
      obtain ⟨bb, off, spot⟩ := a
      have cell : ∀ i, i < len → ∀ j v, [Value.int .i64 (f i).n, .int .i64 (f i).u, .string (f i).s][j]? = some v → W.cell? (((⟨bb, off, spot⟩ : Addr).add (i * 3)).add j) = some v := by
        intro i hil j v hv
        obtain ⟨_, _, hcell⟩ := World.cells?_some (hf2 i (by omega)).2
        have hj : j < 3 := by have := (List.getElem?_eq_some_iff.1 hv).1; simpa using this
        have := hcell j hj
        rw [this]; exact hv
      have hspot : spot = none := by
        have := cell 0 h 0 _ rfl
        simpa [Addr.add] using World.cell?_spot this
      subst hspot
      refine ⟨bb, off, rfl, block_lt_of_cell (cell 0 h 0 _ rfl), fun i hil => ?_⟩
      have hil' : i < len := by rw [hlen] at hil; exact hil
      have he : ((List.range len).map f)[i] = f i := by simp
      rw [he]
      refine ⟨?_, ?_, ?_⟩
      · have := cell i hil' 0 _ rfl; rwa [add_plain, add_plain] at this
      · have := cell i hil' 1 _ rfl; rwa [add_plain, add_plain] at this
      · have := cell i hil' 2 _ rfl; rwa [add_plain, add_plain] at this
    · obtain ⟨i, hi2, rfl⟩ := List.mem_map.1 hp
      exact (hf2 i (by have := List.mem_range.1 hi2; omega)).1

theorem long_le {l : List Pl} (h : ∀ p ∈ l, WidePl p) : ∀ p ∈ l, p.s.size ≤ 9223372036854775807 := fun p hp => Nat.le_trans (h p hp).2.2 (by unfold maxLen; omega)
set_option maxRecDepth 100000 in
theorem open_three {H : Type} {enc : TypeId × Value → H} {W : World} {base : Nat} {sp : Nat → Bool} {v : Value} {d : DataW H} {ps : List MemPlace}
    (hv : Value.okWide Try.prog W .any base 43 v) (h : DataW.Trod enc Try.prog W 0 sp true 43 v d ps) : ∃ a b c : Nat, v = .agg #[.int .u8 a, .int .u8 b, .int .u8 c] ∧ a < 256 ∧ b < 256 ∧ c < 256 := by
  obtain ⟨cs, rfl, hsz⟩ : ∃ cs : Array Value, v = .agg cs ∧ cs.size = 3 := by
    simp only [Value.okWide, Try.underlying43] at hv
    obtain ⟨cs, h1, h2, _⟩ := hv
    exact ⟨cs, h1, by rw [h2, cells45]⟩
  obtain ⟨fuel, hf⟩ := h
  obtain ⟨xs, m, rfl, _, hlen, hn, hel⟩ := DataW.trod_array Try.underlying43 hf
  have hcs : (Value.agg cs).cells.toList = cs.toList := rfl
  rw [hcs] at hel
  have hone : ∀ i, i < 3 → ∃ a : Nat, cs[i]? = some (.int .u8 a) ∧ a < 256 := by
    intro i hi
    have h1 := hel i hi
    rw [cells5, Nat.mul_one] at h1
    obtain ⟨x, hxk⟩ : ∃ x, xs[i]? = some x := ⟨_, List.getElem?_eq_getElem (by omega)⟩
    rw [hxk] at h1
    obtain ⟨n, e1, _, wf⟩ := DataW.trod_int Try.underlying5 h1
    have hb := bounds_u8 wf
    have h5 := congrArg (·[0]?) e1
    refine ⟨n.toNat, ?_, by omega⟩
    rw [Int.toNat_of_nonneg hb.1, ← Array.getElem?_toList]
    simpa using h5
  obtain ⟨a, ha, ha2⟩ := hone 0 (by decide)
  obtain ⟨b, hb, hb2⟩ := hone 1 (by decide)
  obtain ⟨c, hc, hc2⟩ := hone 2 (by decide)
  refine ⟨a, b, c, ?_, ha2, hb2, hc2⟩
  congr 1
  apply Array.ext_getElem?
  intro i
  match i with
  | 0 => rw [ha]; rfl
  | 1 => rw [hb]; rfl
  | 2 => rw [hc]; rfl
  | i + 3 => rw [Array.getElem?_eq_none (by omega)]; simp
end Go.Proofs.Ytfpgfclmmdihjaa

/- The law's example. -/
namespace Go.Proofs.Ytfpgfclmmdihjaa
open Go.RowKit Tre Cod Pst Nam

def PaS (n : Nat) (y : Pw) (w : World) : Prop := w.cell? ⟨n, 0, none⟩ = some (.slice y.bA y.base.length y.bc) ∧ w.cell? ⟨n, 1, none⟩ = some (.int .i64 y.t) ∧ w.cell? ⟨n, 2, none⟩ = some (.slice y.oA y.ops.length y.oc) ∧ w.cell? ⟨n, 3, none⟩ = some (.slice y.uA y.us.length y.uc) ∧ w.cell? ⟨n, 4, none⟩ = some (.slice y.wA y.now.length y.wc)
end Go.Proofs.Ytfpgfclmmdihjaa

/- Slices among the arguments, opened, whatever their elements; bytes as elements. -/
namespace Go.Proofs.Ytfpgfclmmdihjaa
open Go.ChangeShapes Go.WideShapes Go.ChangeAt Go.RowKit Go.Deep Nam Cod Tre

def byE : El Int where
  e := 5
  k := 1
  c x := [.int .u8 x]
  len _ := rfl
  one p u h := by
    simp only [List.mem_cons, List.not_mem_nil, or_false] at h
    subst h; rfl
  pos := by decide
set_option maxRecDepth 100000 in
theorem open_list {α : Type} (E : El α) (Q : α → Prop) {st : TypeId} (hu : Try.prog.underlying st = some (.slice E.e)) (hk : Try.prog.cellsOf E.e = E.k) [Inhabited α] {H : Type} {enc : TypeId × Value → H} {W : World} {base : Nat} {v : Value} {d : DataW H} {ps : List MemPlace}
    (hrd : ∀ {fuel : Nat} {cs : List Value} {x : DataW H × List MemPlace}, DataW.trod enc Try.prog W 0 (fun _ => true) true fuel E.e cs = some x → ∃ a, cs = E.c a ∧ Q a)
    (hv : Value.okWide Try.prog W .any base st v) (h : DataW.Trod enc Try.prog W 0 (fun _ => true) true st v d ps) :
    ∃ (A : Option Addr) (cap : Nat) (l : List α), v = .slice A l.length cap ∧ E.Sl W A l ∧ l.length ≤ cap ∧ (A = none → cap = 0) ∧ ∀ p ∈ l, Q p := by
  obtain ⟨a0, len, cap, rfl, _⟩ := okWide_slice hu hv
  obtain ⟨fuel, hf⟩ := h
  rcases open_slice hu hf with ⟨hcs, hx⟩ | ⟨a, len', cap', m, n, D, Pls, hcs, _, hle, hm, hmm, hx, hi⟩
  · simp [Value.cells] at hcs
    obtain ⟨rfl, rfl, rfl⟩ := hcs
    exact ⟨none, 0, [], rfl, El.Sl.nil W none, Nat.le_refl _, fun _ => rfl, fun p hp => by cases hp⟩
  · simp [Value.cells] at hcs
    obtain ⟨rfl, rfl, rfl⟩ := hcs
    simp only [if_true] at hmm
    have hv : ∀ i, i < m → ∃ p : α, Q p ∧ W.cells? 0 (a.add (i * E.k)) E.k = some (E.c p) := by
      intro i him
      obtain ⟨cs', h1, h2⟩ := hi i him
      rw [hk] at h1
      obtain ⟨p, rfl, hw⟩ := hrd h2
      exact ⟨p, hw, h1⟩
    obtain ⟨f, hf2⟩ := choose_lt hv
    have hlen : ((List.range len).map f).length = len := by simp
    refine ⟨some a, cap, (List.range len).map f, by rw [hlen], fun h => ?_, by rw [hlen]; exact hle, (fun e => by cases e), fun p hp => ?_⟩
    · rw [hlen] at h
      obtain ⟨bb, off, spot⟩ := a
      have cell : ∀ i, i < len → ∀ j v, (E.c (f i))[j]? = some v → W.cell? (((⟨bb, off, spot⟩ : Addr).add (i * E.k)).add j) = some v := by
        intro i hil j v hv
        obtain ⟨_, _, hcell⟩ := World.cells?_some (hf2 i (by omega)).2
        have hj : j < E.k := by have := (List.getElem?_eq_some_iff.1 hv).1; rw [E.len] at this; exact this
        have := hcell j hj
        rw [this]; exact hv
      have h00 : ∃ v, (E.c (f 0))[0]? = some v := ⟨(E.c (f 0))[0]'(by rw [E.len]; exact E.pos), List.getElem?_eq_getElem _⟩
      obtain ⟨v0, hv0⟩ := h00
      have hspot : spot = none := by
        have := cell 0 h 0 _ hv0
        simpa [Addr.add] using World.cell?_spot this
      subst hspot
      refine ⟨bb, off, rfl, (by have h9 := block_lt_of_cell (cell 0 h 0 _ hv0); rw [add_plain, add_plain] at h9; exact h9), fun i hil => ?_⟩
      have hil' : i < len := by rw [hlen] at hil; exact hil
      have he : ((List.range len).map f)[i] = f i := by simp
      rw [he]
      intro j u hu
      have := cell i hil' j u hu
      rwa [add_plain, add_plain] at this
    · obtain ⟨i, hi2, rfl⟩ := List.mem_map.1 hp
      exact (hf2 i (by have := List.mem_range.1 hi2; omega)).1

set_option maxRecDepth 100000 in
theorem open_bytes {H : Type} {enc : TypeId × Value → H} {W : World} {base : Nat} {v : Value} {d : DataW H} {ps : List MemPlace}
    (hv : Value.okWide Try.prog W .any base 90 v) (h : DataW.Trod enc Try.prog W 0 (fun _ => true) true 90 v d ps) :
    ∃ (A : Option Addr) (cap : Nat) (l : List Int), v = .slice A l.length cap ∧ byE.Sl W A l ∧ l.length ≤ cap ∧ (A = none → cap = 0) ∧ ∀ t ∈ l, 0 ≤ t ∧ t ≤ 255 :=
  open_list byE (fun t => 0 ≤ t ∧ t ≤ 255) Try.underlying90 cells5 (fun h => by
    obtain ⟨x, e, _, wf⟩ := DataW.trod_int Try.underlying5 h
    have hb := bounds_u8 wf
    exact ⟨x, e, by omega, by omega⟩) hv h
set_option maxRecDepth 100000 in
theorem open_u8 {H : Type} {enc : TypeId × Value → H} {W : World} {base : Nat} {sp : Nat → Bool} {v : Value} {d : DataW H} {ps : List MemPlace}
    (hv : Value.okWide Try.prog W .any base 5 v) (h : DataW.Trod enc Try.prog W 0 sp true 5 v d ps) : ∃ t : Int, v = .int .u8 t ∧ 0 ≤ t ∧ t ≤ 255 := by
  obtain ⟨a, rfl, _, _, wf⟩ := open_int Try.underlying5 hv h
  have hb := bounds_u8 wf
  exact ⟨a, rfl, by omega, by omega⟩
/-- A block that is a row of these. -/
theorem El.Sl.row {α : Type} {E : El α} (w : World) (l : List α) (cs : Array Value) (hc : cs = (E.cells l).toArray) : E.Sl (w.alloc (.cells cs E.e)) (some ⟨w.heap.size, 0, none⟩) l := fun _ => by
  subst hc
  refine ⟨w.heap.size, 0, rfl, by rw [alloc_size]; omega, fun i hi j u hu => ?_⟩
  have h := cell_of_row (w.alloc (.cells (E.cells l).toArray E.e)) w.heap.size (i * E.k + j) _ E.e (0, 0) (heap_alloc_new w _)
  rw [show 0 + i * E.k + j = i * E.k + j by omega, h]
  simpa using El.cells_at l i hi j u hu
set_option maxRecDepth 100000 in
/-- A slice among the cells of an argument. -/
theorem open_cells {α : Type} (E : El α) (Q : α → Prop) {st : TypeId} (hu : Try.prog.underlying st = some (.slice E.e)) (hk : Try.prog.cellsOf E.e = E.k) [Inhabited α] {H : Type} {enc : TypeId × Value → H} {W : World} {fuel : Nat} {cs : List Value} {x : DataW H × List MemPlace}
    (hrd : ∀ {fuel : Nat} {cs : List Value} {x : DataW H × List MemPlace}, DataW.trod enc Try.prog W 0 (fun _ => true) true fuel E.e cs = some x → ∃ a, cs = E.c a ∧ Q a)
    (hf : DataW.trod enc Try.prog W 0 (fun _ => true) true fuel st cs = some x) :
    ∃ (A : Option Addr) (cap : Nat) (l : List α), cs = [.slice A l.length cap] ∧ (E.Sl W A l ∧ (A = none → cap = 0) ∧ l.length ≤ cap) ∧ ∀ p ∈ l, Q p := by
  rcases open_slice hu hf with ⟨hcs, hx⟩ | ⟨a, len, cap, m, n, D, Pls, hcs, _, hle, hm, hmm, hx, hi⟩
  · exact ⟨none, 0, [], hcs, ⟨El.Sl.nil W none, fun _ => rfl, Nat.le_refl _⟩, fun p hp => by cases hp⟩
  · simp only [if_true] at hmm
    have hv : ∀ i, i < m → ∃ p : α, Q p ∧ W.cells? 0 (a.add (i * E.k)) E.k = some (E.c p) := by
      intro i him
      obtain ⟨cs', h1, h2⟩ := hi i him
      rw [hk] at h1
      obtain ⟨p, rfl, hw⟩ := hrd h2
      exact ⟨p, hw, h1⟩
    obtain ⟨f, hf2⟩ := choose_lt hv
    have hlen : ((List.range len).map f).length = len := by simp
    refine ⟨some a, cap, (List.range len).map f, by rw [hlen]; exact hcs, ⟨fun h => ?_, (fun e => by cases e), by rw [hlen]; exact hle⟩, fun p hp => ?_⟩
    · rw [hlen] at h
      obtain ⟨bb, off, spot⟩ := a
      have cell : ∀ i, i < len → ∀ j v, (E.c (f i))[j]? = some v → W.cell? (((⟨bb, off, spot⟩ : Addr).add (i * E.k)).add j) = some v := by
        intro i hil j v hv
        obtain ⟨_, _, hcell⟩ := World.cells?_some (hf2 i (by omega)).2
        have hj : j < E.k := by have := (List.getElem?_eq_some_iff.1 hv).1; rw [E.len] at this; exact this
        have := hcell j hj
        rw [this]; exact hv
      have h00 : ∃ v, (E.c (f 0))[0]? = some v := ⟨(E.c (f 0))[0]'(by rw [E.len]; exact E.pos), List.getElem?_eq_getElem _⟩
      obtain ⟨v0, hv0⟩ := h00
      have hspot : spot = none := by
        have := cell 0 h 0 _ hv0
        simpa [Addr.add] using World.cell?_spot this
      subst hspot
      refine ⟨bb, off, rfl, (by have h9 := block_lt_of_cell (cell 0 h 0 _ hv0); rw [add_plain, add_plain] at h9; exact h9), fun i hil => ?_⟩
      have hil' : i < len := by rw [hlen] at hil; exact hil
      have he : ((List.range len).map f)[i] = f i := by simp
      rw [he]
      intro j u hu
      have := cell i hil' j u hu
      rwa [add_plain, add_plain] at this
    · obtain ⟨i, hi2, rfl⟩ := List.mem_map.1 hp
      exact (hf2 i (by have := List.mem_range.1 hi2; omega)).1
end Go.Proofs.Ytfpgfclmmdihjaa

/- Of the law: grown. -/
namespace Go.Proofs.Ytfpgfclmmdihjaa
open Go.RowKit Tre Cod Pst Nam

def PoS (n : Nat) (y : Pw) (b o : Nat) (m : Mv) (w : World) : Prop := PaS n y w ∧ (w.cell? ⟨b, o, none⟩ = some (.int .i64 m.C) ∧ w.cell? ⟨b, o + 1, none⟩ = some (.int .i64 m.D) ∧ w.cell? ⟨b, o + 2, none⟩ = some (.int .i64 m.I) ∧ w.cell? ⟨b, o + 3, none⟩ = some (.int .i64 m.M) ∧ w.cell? ⟨b, o + 4, none⟩ = some (.int .i64 m.K) ∧ w.cell? ⟨b, o + 5, none⟩ = some (.int .i64 m.U) ∧ w.cell? ⟨b, o + 6, none⟩ = some (.string m.s))
/-- The past behind k operations. -/
def stG (l : List Mv) (at_ : List Int) : Nat → Pv
  | 0 => Pv.zero
  | k + 1 => match l[k]? with
    | none => stG l at_ k
    | some m => match at_[k]? with
      | none => (addV (stG l at_ k) m).1
      | some t => if t < 40 then settleV (addV (stG l at_ k) m).1 t else (addV (stG l at_ k) m).1
theorem stG_next {l : List Mv} {at_ : List Int} {k : Nat} {m : Mv} (h : k < l.length) (hm : l[k] = m) : stG l at_ (k + 1) = match at_[k]? with
      | none => (addV (stG l at_ k) m).1
      | some t => if t < 40 then settleV (addV (stG l at_ k) m).1 t else (addV (stG l at_ k) m).1 := by
  rw [stG, List.getElem?_eq_getElem h, hm]
theorem stG_inv {l : List Mv} (hl : ∀ m ∈ l, m.ok) (at_ : List Int) : ∀ k, PInv (stG l at_ k) ∧ (stG l at_ k).ops.length ≤ k
  | 0 => ⟨PInv.zero, Nat.le_refl _⟩
  | k + 1 => by
    obtain ⟨h1, h2⟩ := stG_inv hl at_ k
    by_cases hk : k < l.length
    · rw [stG_next hk rfl]
      have h3 := h1.add (hl l[k] (List.getElem_mem _))
      have h4 := addV_len (stG l at_ k) l[k]
      cases at_[k]? with
      | none => exact ⟨h3, by simp only; omega⟩
      | some t =>
        simp only
        by_cases ht : t < 40
        · rw [if_pos ht]
          have h5 := settleV_len (addV (stG l at_ k) l[k]).1 t
          exact ⟨h3.settle (by omega), by omega⟩
        · rw [if_neg ht]; exact ⟨h3, by omega⟩
    · rw [stG, List.getElem?_eq_none (by omega)]
      exact ⟨h1, by simp only; omega⟩
theorem addV_gt {q : Pv} {m : Mv} (h : (addV q m).2 = true) : q.t < m.C := by
  unfold addV at h
  split at h
  · cases h
  · omega


def PtS (n : Nat) (y : Pw) (b o : Nat) (t : Int) (w : World) : Prop := PaS n y w ∧ w.cell? ⟨b, o, none⟩ = some (.int .u8 t)
end Go.Proofs.Ytfpgfclmmdihjaa

/- Slices among the arguments, opened. -/
namespace Go.Proofs.Ytfpgfclmmdihjaa
open Go.ChangeShapes Go.WideShapes Go.ChangeAt Go.RowKit Go.Deep Nam Cod Tre Pst

def WideMv (m : Mv) : Prop := Wide m.C m.D m.I m.M m.K m.U ∧ m.s.size ≤ maxLen
set_option maxRecDepth 100000 in
theorem open_ops {H : Type} {enc : TypeId × Value → H} {W : World} {base : Nat} {v : Value} {d : DataW H} {ps : List MemPlace}
    (hv : Value.okWide Try.prog W .any base 24 v) (h : DataW.Trod enc Try.prog W 0 (fun _ => true) true 24 v d ps) :
    ∃ (A : Option Addr) (cap : Nat) (l : List Mv), v = .slice A l.length cap ∧ opE.Sl W A l ∧ l.length ≤ cap ∧ (A = none → cap = 0) ∧ ∀ m ∈ l, WideMv m :=
  open_list opE WideMv Try.underlying24 cells25 (fun h => by
    obtain ⟨C, D, I, M, K, U, t, rfl, hw, ht⟩ := read_op h
    exact ⟨⟨C, D, I, M, K, U, t⟩, rfl, hw, ht⟩) hv h
theorem opsz {l : List Mv} (h : ∀ m ∈ l, WideMv m) : ∀ m ∈ l, m.s.size ≤ 9223372036854775807 := fun m hm => Nat.le_trans (h m hm).2 (by unfold maxLen; omega)
end Go.Proofs.Ytfpgfclmmdihjaa

/- Same of two pasts that are the same; which past is right, of the program: the parts. -/
namespace Go.Proofs.Ytfpgfclmmdihjaa
open Go.RowKit Tre Cod Pst

set_option maxRecDepth 100000 in
set_option maxHeartbeats 4000000 in
theorem samePast_any (x y : Pw) (w : World) (hx : PastOk w x) (hy : PastOk w y) (he : y.v = x.v) (hl1 : x.base.length ≤ 50000) (hl2 : x.ops.length ≤ 50000) (hl3 : x.us.length ≤ 50000) (hl4 : x.now.length ≤ 50000) :
    Calls Try.prog 24 #[.agg #[.slice x.bA x.base.length x.bc, .int .i64 x.t, .slice x.oA x.ops.length x.oc, .slice x.uA x.us.length x.uc, .slice x.wA x.now.length x.wc], .agg #[.slice y.bA y.base.length y.bc, .int .i64 y.t, .slice y.oA y.ops.length y.oc, .slice y.uA y.us.length y.uc, .slice y.wA y.now.length y.wc]] w fun e w' => e = .returned (.bool true) ∧ Below w.heap.size w w' := by
  obtain ⟨bA, bc, base, t, oA, oc, ops, uA, uc, us, wA, wc, now⟩ := x
  obtain ⟨bA', bc', base', t', oA', oc', ops', uA', uc', us', wA', wc', now'⟩ := y
  simp only [Pw.v, Pv.mk.injEq] at he
  obtain ⟨rfl, rfl, rfl, rfl, rfl⟩ := he
  simp only at hl1 hl2 hl3 hl4
  have hP : pwE.In ((w.alloc (.cells #[.slice bA base'.length bc, .int .i64 t', .slice oA ops'.length oc, .slice uA us'.length uc, .slice wA now'.length wc] 27)).alloc (.cells #[.slice bA' base'.length bc', .int .i64 t', .slice oA' ops'.length oc', .slice uA' us'.length uc', .slice wA' now'.length wc'] 27)) w.heap.size ⟨bA, bc, base', t', oA, oc, ops', uA, uc, us', wA, wc, now'⟩ := (El.In.new (E := pwE) w ⟨bA, bc, base', t', oA, oc, ops', uA, uc, us', wA, wc, now'⟩ _ rfl).alloc _
  have hQ : pwE.In ((w.alloc (.cells #[.slice bA base'.length bc, .int .i64 t', .slice oA ops'.length oc, .slice uA us'.length uc, .slice wA now'.length wc] 27)).alloc (.cells #[.slice bA' base'.length bc', .int .i64 t', .slice oA' ops'.length oc', .slice uA' us'.length uc', .slice wA' now'.length wc'] 27)) (w.heap.size + 1) ⟨bA', bc', base', t', oA', oc', ops', uA', uc', us', wA', wc', now'⟩ := by
    have h := El.In.new (E := pwE) (w.alloc (.cells #[.slice bA base'.length bc, .int .i64 t', .slice oA ops'.length oc, .slice uA us'.length uc, .slice wA now'.length wc] 27)) ⟨bA', bc', base', t', oA', oc', ops', uA', uc', us', wA', wc', now'⟩ _ rfl
    rw [alloc_size] at h; exact h
  have hB := below_alloc (below_alloc (Below.refl w.heap.size w) (.cells #[.slice bA base'.length bc, .int .i64 t', .slice oA ops'.length oc, .slice uA us'.length uc, .slice wA now'.length wc] 27)) (.cells #[.slice bA' base'.length bc', .int .i64 t', .slice oA' ops'.length oc', .slice uA' us'.length uc', .slice wA' now'.length wc'] 27)
  replace hx := hx.below hB
  replace hy := hy.below hB
  have C1 : ∀ wx, PastOk wx ⟨bA, bc, base', t', oA, oc, ops', uA, uc, us', wA, wc, now'⟩ → PastOk wx ⟨bA', bc', base', t', oA', oc', ops', uA', uc', us', wA', wc', now'⟩ → _ := fun wx h1 h2 => samePl_any bA bA' bc bc' base' base' wx hl1 hl1 h1.b.1 h2.b.1
  have C2 : ∀ wx, PastOk wx ⟨bA, bc, base', t', oA, oc, ops', uA, uc, us', wA, wc, now'⟩ → PastOk wx ⟨bA', bc', base', t', oA', oc', ops', uA', uc', us', wA', wc', now'⟩ → _ := fun wx h1 h2 => samePl_any wA wA' wc wc' now' now' wx hl4 hl4 h1.w.1 h2.w.1
  have C3 : ∀ wx, PastOk wx ⟨bA, bc, base', t', oA, oc, ops', uA, uc, us', wA, wc, now'⟩ → PastOk wx ⟨bA', bc', base', t', oA', oc', ops', uA', uc', us', wA', wc', now'⟩ → _ := fun wx h1 h2 => sameOp_any oA oA' oc oc' ops' ops' wx hl2 hl2 h1.o.1 h2.o.1
  have C4 : ∀ wx, PastOk wx ⟨bA, bc, base', t', oA, oc, ops', uA, uc, us', wA, wc, now'⟩ → PastOk wx ⟨bA', bc', base', t', oA', oc', ops', uA', uc', us', wA', wc', now'⟩ → _ := fun wx h1 h2 => sameUn_any uA uA' uc uc' us' us' wx hl3 hl3 h1.u.1 h2.u.1
  have HC1 := Lib.hid C1
  have HC2 := Lib.hid C2
  have HC3 := Lib.hid C3
  have HC4 := Lib.hid C4
  clear C1 C2 C3 C4
  go_enter Try.func24, Try.ntmps24
  go_wp2_with fail
  generalize ((w.alloc (.cells #[.slice bA base'.length bc, .int .i64 t', .slice oA ops'.length oc, .slice uA us'.length uc, .slice wA now'.length wc] 27)).alloc (.cells #[.slice bA' base'.length bc', .int .i64 t', .slice oA' ops'.length oc', .slice uA' us'.length uc', .slice wA' now'.length wc'] 27)) = W at *
  obtain ⟨n1, h1⟩ : ∃ n, w.heap.size + 1 = n := ⟨_, rfl⟩
  rw [h1] at hQ ⊢
  obtain ⟨n0, h0⟩ : ∃ n, w.heap.size = n := ⟨_, rfl⟩
  rw [h0] at hP ⊢
  clear h0 h1
  refine (HC1.out _ hx hy).mono ?_
  rintro e W1 ⟨b, rfl, hb, hbl⟩
  obtain rfl : b = true := by simpa using hb
  replace hP := hP.below hbl
  replace hQ := hQ.below hbl
  replace hx := hx.below hbl
  replace hy := hy.below hbl
  replace hB := hB.trans (hbl.mono (by have := hB.size; omega))
  clear hbl hb HC1
  obtain ⟨p0, p1, p2, p3, p4⟩ := pwIn5 hP
  obtain ⟨q0, q1, q2, q3, q4⟩ := pwIn5 hQ
  go_wp2_with fail
  clear p0 p1 p2 p3 p4 q0 q1 q2 q3 q4
  refine (HC2.out _ hx hy).mono ?_
  rintro e W2 ⟨b, rfl, hb, hbl⟩
  obtain rfl : b = true := by simpa using hb
  replace hP := hP.below hbl
  replace hQ := hQ.below hbl
  replace hx := hx.below hbl
  replace hy := hy.below hbl
  replace hB := hB.trans (hbl.mono (by have := hB.size; omega))
  clear hbl hb HC2
  obtain ⟨p0, p1, p2, p3, p4⟩ := pwIn5 hP
  obtain ⟨q0, q1, q2, q3, q4⟩ := pwIn5 hQ
  go_wp2_with fail
  clear p0 p1 p2 p3 p4 q0 q1 q2 q3 q4
  refine (HC3.out _ hx hy).mono ?_
  rintro e W3 ⟨b, rfl, hb, hbl⟩
  obtain rfl : b = true := by simpa using hb
  replace hP := hP.below hbl
  replace hQ := hQ.below hbl
  replace hx := hx.below hbl
  replace hy := hy.below hbl
  replace hB := hB.trans (hbl.mono (by have := hB.size; omega))
  clear hbl hb HC3
  obtain ⟨p0, p1, p2, p3, p4⟩ := pwIn5 hP
  obtain ⟨q0, q1, q2, q3, q4⟩ := pwIn5 hQ
  go_wp2_with fail
  clear p0 p1 p2 p3 p4 q0 q1 q2 q3 q4
  refine (HC4.out _ hx hy).mono ?_
  rintro e W4 ⟨b, rfl, hb, hbl⟩
  obtain rfl : b = true := by simpa using hb
  replace hP := hP.below hbl
  replace hQ := hQ.below hbl
  replace hx := hx.below hbl
  replace hy := hy.below hbl
  replace hB := hB.trans (hbl.mono (by have := hB.size; omega))
  clear hbl hb HC4
  go_wp2_with fail
  go_ret
  exact ⟨rfl, hB⟩
end Go.Proofs.Ytfpgfclmmdihjaa

/- Of operations that come with nothing settled between: what is there, and what comes too late. -/
namespace Go.Proofs.Ytfpgfclmmdihjaa
open Go.ChangeShapes Go.WideShapes Go.ChangeAt Go.RowKit Go.Deep Nam Cod Tre Pst

/-- Nothing is settled in between: every operation's moment is there. -/
theorem stG_has {l : List Mv} (hl : ∀ m ∈ l, m.ok) : ∀ k, k ≤ l.length → (stG l [] k).t = 0 ∧ ∀ i (h : i < l.length), i < k → has Mv.C Mv.D (stG l [] k).ops l[i] = true
  | 0, _ => ⟨rfl, fun i h hi => by omega⟩
  | k + 1, hk => by
    obtain ⟨h1, h2⟩ := stG_has hl k (by omega)
    have hI := (stG_inv hl [] k).1
    have hn : stG l [] (k + 1) = (addV (stG l [] k) l[k]).1 := by rw [stG_next (at_ := []) (show k < l.length by omega) rfl]; rfl
    rw [hn]
    generalize stG l [] k = q at *
    have hC := (ok_C (hl l[k] (List.getElem_mem _))).1
    have hgt : ¬ l[k].C ≤ q.t := by omega
    rcases hh : has Mv.C Mv.D q.ops l[k] with _ | _
    · rw [addV_new' hgt hh]
      refine ⟨h1, fun i h hi => ?_⟩
      have hr := ris_ins hI.ris hh
      show has Mv.C Mv.D (insL Mv.C Mv.D q.ops l[k]) l[i] = true
      rw [has_iff hr]
      by_cases e : i = k
      · subst e; exact ⟨l[i], (mem_ins _ _ _).2 (Or.inl rfl), ⟨rfl, rfl⟩⟩
      · obtain ⟨x, hx, hs⟩ := (has_iff hI.ris l[i]).1 (h2 i h (by omega))
        exact ⟨x, (mem_ins _ _ _).2 (Or.inr hx), hs⟩
    · rw [addV_same' hgt hh]
      refine ⟨h1, fun i h hi => ?_⟩
      by_cases e : i = k
      · subst e; exact hh
      · exact h2 i h (by omega)
theorem late_all {l : List Mv} (hl : ∀ m ∈ l, m.ok) (t : Int) (i : Nat) (h : i < l.length) : addV (settleV (stG l [] l.length) t) l[i] = (settleV (stG l [] l.length) t, false) := by
  obtain ⟨h1, h2⟩ := stG_has hl l.length (Nat.le_refl _)
  have hI := (stG_inv hl [] l.length).1
  have h3 := h2 i h h
  generalize stG l [] l.length = q at *
  have hC := (ok_C (hl l[i] (List.getElem_mem _))).1
  by_cases ht : t ≤ q.t
  · rw [settleV_late' ht]
    exact addV_same' (by omega) h3
  · rw [hI.settle_eq ht]
    by_cases hct : l[i].C ≤ t
    · exact addV_late' hct
    · refine addV_same' hct ?_
      show has Mv.C Mv.D (q.ops.drop (upto Mv.C q.ops t)) l[i] = true
      rw [← has_cut hI.ris (by omega)]; exact h3

end Go.Proofs.Ytfpgfclmmdihjaa

/- The library's contract of Builder.String, laid at this program's numbers. -/
namespace Go.Proofs.Ytfpgfclmmdihjaa
open Go.Shelf
def lays169_ren : Go.Shelf.Ren := ⟨fun | 169 => 37 | n => n, fun | 70 => 89 | 9 => 9 | 0 => 0 | 72 => 92 | 37 => 90 | 127 => 125 | 3 => 3 | 5 => 5 | n => n, fun | n => n⟩
theorem lays169 : Go.Proofs.Lays.n169 Try.prog lays169_ren := {
  mixed := by kernel_rfl
  f169 := Try.func37.trans (congrArg some (by kernel_rfl))
  t0 := Try.underlying0
  a0 := Try.isAgg0
  z0 := Try.sizeOf0
  v0 := Try.zeroValue0
  t3 := Try.underlying3
  a3 := Try.isAgg3
  z3 := Try.sizeOf3
  v3 := Try.zeroValue3
  t9 := Try.underlying9
  a9 := Try.isAgg9
  z9 := Try.sizeOf9
  v9 := Try.zeroValue9
  t37 := Try.underlying90
  a37 := Try.isAgg90
  z37 := Try.sizeOf90
  v37 := Try.zeroValue90
  t70 := Try.underlying89
  a70 := Try.isAgg89
  z70 := Try.sizeOf89
  v70 := Try.zeroValue89
  t72 := Try.underlying92
  a72 := Try.isAgg92
  z72 := Try.sizeOf92
  v72 := Try.zeroValue92
  t127 := Try.underlying125
  a127 := Try.isAgg125
  z127 := Try.sizeOf125
  v127 := Try.zeroValue125 }
theorem builder_Extra_169 : Builder.Extra Try.prog lays169_ren := {
  sizeBuilder := by kernel_rfl
  liesBuilder := by kernel_rfl
  t5 := Try.underlying5
  a5 := Try.isAgg5
  z5 := Try.sizeOf5
  v5 := Try.zeroValue5
  infoByte := by kernel_rfl
  cellsByte := by kernel_rfl
  sizeByte := by kernel_rfl
  neB5 := by decide }
open Go.RowKit in
theorem builder_String_any (B b : Nat) (l : List UInt8) (w : World) (h : Lib.IsBuilder 92 5 B b (Lib.byteCells l) w) (hBw : B ≤ w.heap.size) :
    Calls Try.prog 37 #[.pointer (some ⟨b, 0, none⟩)] w fun e w' => e = .returned (.string ⟨l.toArray⟩) ∧ Below B w w' := Any.Builder_String_any lays169 builder_Extra_169 B b l w h hBw
end Go.Proofs.Ytfpgfclmmdihjaa

/- The library's Builder: what WriteString does with one of the call's own. -/
namespace Go.Proofs.Ytfpgfclmmdihjaa
open Go.RowKit

theorem bd_info : ∃ j, Try.prog.info? 92 = some j ∧ j.size = 2 := by
  have h : (Try.prog.info? 92).map (·.size) = some 2 := by kernel_rfl
  obtain ⟨j, hj, hjs⟩ := Option.map_eq_some_iff.1 h
  exact ⟨j, hj, hjs⟩
theorem bd_lies : liesAt Try.prog Try.prog.depth 92 (2 / Try.prog.cellsOf 92) 0 92 1 = true := by kernel_rfl
set_option maxRecDepth 100000 in
theorem ccheck_used (b : Nat) (w : World) (h0 : w.cell? ⟨b, 0, none⟩ = some (.pointer (some ⟨b, 0, none⟩))) :
    Calls Try.prog 58 #[.pointer (some ⟨b, 0, none⟩)] w fun e w' => e = .returned (.tuple #[]) ∧ w' = w := by
  obtain ⟨j, hj, _⟩ := bd_info
  go_enter Try.func58, Try.ntmps58
  go_wp2
  rw [Lib.run_neq_ptr_same w _ Try.underlying89 hj]
  go_wp2
  go_end0
  exact ⟨rfl, rfl⟩
set_option maxRecDepth 100000 in
theorem ccheck_new (b : Nat) (w : World) (h0 : w.cell? ⟨b, 0, none⟩ = some (.pointer none)) (hsh : w.shape? b = some (92, 2)) (hfz : w.frozen? ⟨b, 0, none⟩ = false) :
    Calls Try.prog 58 #[.pointer (some ⟨b, 0, none⟩)] w fun e w' => e = .returned (.tuple #[]) ∧ w' = w.setCell ⟨b, 0, none⟩ (.pointer (some ⟨b, 0, none⟩)) := by
  obtain ⟨j, hj, hjs⟩ := bd_info
  go_enter Try.func58, Try.ntmps58
  go_wp2
  rw [Lib.run_to_unsafe w ⟨b, 0, none⟩ Try.underlying89 Try.underlying135 hj (by rw [hjs]; decide) hsh (Nat.zero_lt_succ 1)]
  simp only [Result.andThen]
  rw [Oper.upon_value]
  go_wp2
  rw [run_callFunc_extern Try.func75 (by kernel_rfl) (by kernel_rfl) (by kernel_rfl) (e := Extern.AbiNoEscape.same) (by kernel_rfl)]
  rw [Lib.run_noEscape]
  simp only [Result.andThen]
  rw [Oper.upon_value]
  go_wp2
  rw [Lib.run_from_unsafe w ⟨b, 0, none⟩ Try.underlying135 Try.underlying89 hj hsh bd_lies]
  simp only [Result.andThen]
  rw [Oper.upon_value]
  go_wp2
  go_end0
  exact ⟨rfl, rfl⟩

/-- What is no row of bytes and isn't block b stays. -/
def Rest (b : Nat) (w w' : World) : Prop := ∀ k cs T fr, w.heap[k]? = some (.cells cs T fr) → k ≠ b → T ≠ 5 → w'.heap[k]? = w.heap[k]?
theorem Rest.then {b : Nat} {w w1 w2 : World} (h : Rest b w w1) (k : Rest b w1 w2) : Rest b w w2 := fun i cs T fr hi hne hT => by
  have h1 := h i cs T fr hi hne hT
  rw [k i cs T fr (h1.trans hi) hne hT, h1]
theorem Rest.cell (b : Nat) (w : World) (j : Nat) (v : Value) : Rest b w (w.setCell ⟨b, j, none⟩ v) := fun k _ _ _ _ hne _ => Below.heap_setCell _ _ _ _ hne

theorem ccheck_any (B b : Nat) (bs : List Value) (w : World) (h : Lib.IsBuilder 92 5 B b bs w) :
    Calls Try.prog 58 #[.pointer (some ⟨b, 0, none⟩)] w fun e w' => e = .returned (.tuple #[]) ∧ Lib.BuilderAt 92 5 B b (.pointer (some ⟨b, 0, none⟩)) bs w' ∧ Below B w w' ∧ Rest b w w' := by
  rcases h with h | h
  · refine (ccheck_new b w h.cell0 h.shape h.frozen0).mono ?_
    rintro e w' ⟨rfl, rfl⟩
    exact ⟨rfl, h.used _, (Below.refl B w).setCell (p := ⟨b, 0, none⟩) h.1 _, Rest.cell b w 0 _⟩
  · refine (ccheck_used b w h.cell0).mono ?_
    rintro e w' ⟨rfl, rfl⟩
    exact ⟨rfl, h, Below.refl B _, fun _ _ _ _ _ _ _ => rfl⟩

set_option maxHeartbeats 1000000 in
set_option maxRecDepth 100000 in
theorem wstr_any (B b : Nat) (bs : List Value) (s : ByteArray) (w : World) (h : Lib.IsBuilder 92 5 B b bs w) (hlen : bs.length + s.size ≤ 140737488355328) (hBw : B ≤ w.heap.size) :
    Calls Try.prog 35 #[.pointer (some ⟨b, 0, none⟩), .string s] w fun e w' => e = .returned (.tuple #[.int .i64 s.size, .nilIface]) ∧ Lib.IsBuilder 92 5 B b (bs ++ Lib.strCells s) w' ∧ Below B w w' ∧ Rest b w w' := by
  have X := builder_Extra_169
  obtain ⟨i0, hi, hz0, hz1, hz2⟩ := info_parts X.infoByte
  have C := ccheck_any B b bs w h
  go_enter Try.func35, Try.ntmps35
  go_wp2_with (go_at_call 58; (with_reducible refine C.mono ?_))
  rintro e w1 ⟨rfl, h1, hb1, hr1⟩
  obtain ⟨hB, v, hbk, hown, hne⟩ := h1
  have c0 : w1.cell? ⟨b, 0, none⟩ = some (.pointer (some ⟨b, 0, none⟩)) := by rw [Lib.cell_of_heap hbk]; rfl
  have c1 : w1.cell? ⟨b, 1, none⟩ = some v := by rw [Lib.cell_of_heap hbk]; rfl
  go_wp2_with (at_builtin; refine Lib.wpList_append_own_string _ rfl _ _ 90 9 rfl B 5 i0 Try.underlying90 Try.underlying9 hi hz0 hz1 hz2 _ _ _ rfl hown s rfl ?c3 ?c4 ?c5 ?_)
  case c3 => unfold maxLen; omega
  case c4 => omega
  case c5 => have := hb1.size; omega
  intro v' w2 hown' hgrow _
  have hlt : b < w1.heap.size := by
    rcases Nat.lt_or_ge b w1.heap.size with h' | h'
    · exact h'
    · simp [Array.getElem?_eq_none h'] at hbk
  have hb2 : w2.heap[b]? = some (.cells #[.pointer (some ⟨b, 0, none⟩), v] 92 (0, 0)) := by
    rw [hgrow.block b hlt (fun e => hne e.symm)]
    exact hbk
  have d0 : w2.cell? ⟨b, 0, none⟩ = some (.pointer (some ⟨b, 0, none⟩)) := by rw [Lib.cell_of_heap hb2]; rfl
  have d1 : w2.cell? ⟨b, 1, none⟩ = some v := by rw [Lib.cell_of_heap hb2]; rfl
  have f1 : w2.frozen? ⟨b, 1, none⟩ = false := Lib.frozen_of_heap hb2 1
  have hr2 : Rest b w1 w2 := fun k cs T fr hk hkb hT => by
    have hkl : k < w1.heap.size := by
      rcases Nat.lt_or_ge k w1.heap.size with h' | h'
      · exact h'
      · simp [Array.getElem?_eq_none h'] at hk
    exact hgrow.block k hkl (fun e => Lib.ownBlock_ne hown hk hT e.symm)
  obtain ⟨ao, n', cap, rfl⟩ : ∃ ao n' cap, v' = .slice ao n' cap := by
    rcases hown'.2 with ⟨hv, _⟩ | ⟨g, cap, cur, hv, _⟩
    · exact ⟨_, _, _, hv⟩
    · exact ⟨_, _, _, hv⟩
  go_wp2
  go_ret2
  refine ⟨rfl, Or.inr ?_, ?_, (hr1.then hr2).then (Rest.cell b w2 1 _)⟩
  · exact Lib.BuilderAt.put (T := 92) (e := 5) hB hb2 (bs' := bs ++ Lib.strCells s) (by simpa [Lib.strCells_length] using hown') X.neB5
  · exact (hb1.grown hgrow (by have := hb1.size; omega) (fun k hk => (hown.lt k hk).1)).setCell (p := ⟨b, 1, none⟩) hB _
end Go.Proofs.Ytfpgfclmmdihjaa

/- What Print gives, of the program and of the document. -/
namespace Go.Proofs.Ytfpgfclmmdihjaa
open Go.RowKit Tre Nam Cod

theorem strCells_app (a b : ByteArray) : Lib.strCells (a ++ b) = Lib.strCells a ++ Lib.strCells b := by
  unfold Lib.strCells; rw [← List.map_append]; congr 1
theorem back_L (x : ByteArray) : (⟨(L x).toArray⟩ : ByteArray) = x := by cases x; simp [L]
theorem headOf (l : List Pl) (n : Nat) (h : l.length ≤ 1000) : (bytesOf l.length).size ≤ 10 := bytesOf_le _ (by omega) (by omega)
theorem catL_take (l : List Pl) (k : Nat) (h : k < l.length) : catL (l.take (k + 1)) = catL (l.take k) ++ plBytes l[k] := by
  rw [List.take_succ_eq_append_getElem h, catL_snoc]
theorem take_le {l : List Pl} (hf : ∀ p ∈ l, Fit p) (k : Nat) : (catL (l.take k)).size ≤ 46 * l.length := by
  have h := catL_le (l.take k) (fun p hp => hf p (List.mem_of_mem_take hp))
  have : (l.take k).length ≤ l.length := by rw [List.length_take]; omega
  omega
theorem builder_new (w : World) : Lib.IsBuilder 92 5 w.heap.size w.heap.size [] (w.alloc (.cells #[.pointer none, .slice none 0 0] 92)) :=
  Or.inl ⟨Nat.le_refl _, _, heap_alloc_new w _, World.ownsRow_nil _ _ _ _, by simp [Value.ownBlock]⟩
theorem builder_below {B b : Nat} {bs : List Value} {w w' : World} (h : Lib.IsBuilder 92 5 B b bs w) (hb : Below w.heap.size w w') : Lib.IsBuilder 92 5 B b bs w' := by
  have key : ∀ p, Lib.BuilderAt 92 5 B b p bs w → Lib.BuilderAt 92 5 B b p bs w' := fun p h => by
    have hlt := h.lt
    obtain ⟨hB, v, hbk, hown, hne⟩ := h
    refine ⟨hB, v, (hb.block b hlt).trans hbk, hown.kept (row := none) ⟨hb.os, hb.tape, hb.output, hb.size, fun k hk _ => hb.block k hk⟩ ?_, hne⟩
    cases hv : v.ownBlock <;> simp
  rcases h with h | h
  · exact Or.inl (key _ h)
  · exact Or.inr (key _ h)
theorem PlIn.rest {w w' : World} {b k : Nat} {p : Pl} (h : PlIn w k p) (hr : Rest b w w') (hne : k ≠ b) : PlIn w' k p := (hr k _ _ _ h hne (by decide)).trans h

set_option maxRecDepth 100000 in
set_option maxHeartbeats 4000000 in
theorem print_any (A : Option Addr) (cap : Nat) (l : List Pl) (w : World) (hl : l.length ≤ 1000) (hf : ∀ p ∈ l, Fit p) (hT : Tr w A l) :
    Calls Try.prog 59 #[.slice A l.length cap] w fun e w' => e = .returned (.string (treeBytes l)) ∧ Below w.heap.size w w' := by
  have cn := fun w => num_any (l.length : Int) w (by omega) (by omega)
  have hh := headOf l 0 hl
  have hT0 : treeBytes l = bytesOf l.length ++ catL l := rfl
  have HT0 := Lib.hid hT0
  generalize bytesOf (l.length : Int) = H at *
  have CN := Lib.hid cn
  clear hT0 cn
  go_enter Try.func59, Try.ntmps59
  go_wp2_with fail
  have hb0 := builder_new w
  have hB0 := below_alloc (Below.refl w.heap.size w) (.cells #[.pointer none, .slice none 0 0] 92)
  have hlt0 : w.heap.size < (w.alloc (.cells #[.pointer none, .slice none 0 0] 92)).heap.size := by simp
  generalize w.alloc (.cells #[.pointer none, .slice none 0 0] 92) = W0 at *
  refine (CN.out _).mono ?_
  rintro e w1 ⟨rfl, hb1⟩
  have hbd := builder_below hb0 hb1
  have hB1 := below_then hB0 hb1
  have hlt1 := Nat.lt_of_lt_of_le hlt0 hb1.size
  clear hb0 hB0 hb1 hlt0
  go_wp2_with fail
  refine (wstr_any _ _ _ H _ hbd (by simp; omega) (Nat.le_of_lt hlt1)).mono ?_
  rintro e w2 ⟨rfl, hbd2, hB2', hr2⟩
  have hB2 := hB1.trans hB2'
  have hlt2 : w.heap.size < w2.heap.size := by rcases hbd2 with h | h <;> exact h.lt
  clear hbd hB1 hlt1 CN hB2' hr2
  have e0 : [] ++ Lib.strCells H = Lib.strCells (H ++ catL (l.take 0)) := by simp [catL]; rw [bempty]
  rw [e0] at hbd2
  clear e0
  go_wp2
  go_loopw [12] (fun x wr => ∃ k : Nat, k ≤ l.length ∧ x = .int .i64 k ∧ Lib.IsBuilder 92 5 w.heap.size w.heap.size (Lib.strCells (H ++ catL (l.take k))) wr ∧ Below w.heap.size w wr ∧ w.heap.size < wr.heap.size) (fun x _ => l.length - (intOf x).toNat)
  case atStart => exact ⟨0, Nat.zero_le _, rfl, hbd2, hB2, hlt2⟩
  case round =>
    clear hbd2 hB2 hlt2
    obtain ⟨k, hk, rfl, hbd, hnx, hsz⟩ := hrel
    have htl := take_le hf k
    by_cases hlt : k < l.length
    · obtain ⟨bb, off, hAe, hbw, hc⟩ := hT (by omega)
      have hbr := Nat.lt_of_lt_of_le hbw hnx.size
      have hat := (hc k hlt).below hnx hbw
      have hft := hf _ (List.getElem_mem hlt)
      have hcat := catL_take l k hlt
      obtain ⟨p, hp⟩ : ∃ p, l[k] = p := ⟨_, rfl⟩
      rw [hp] at hat hft hcat
      obtain ⟨q0, q1, q2⟩ := hat
      have hcat2 : H ++ catL (l.take (k + 1)) = (H ++ catL (l.take k)) ++ (bytesOf p.n ++ bytesOf p.u ++ textOf p.s) := by rw [hcat, ByteArray.append_assoc]; rfl
      have z := plBytes_le hft
      unfold plBytes at z
      have n1 := fun w => num_any p.n w hft.n1 hft.n2
      have n2 := fun w => num_any p.u w hft.u1 hft.u2
      have n3 := fun w => text_any p.s w (by have := hft.s; omega)
      have hXs : (H ++ catL (l.take k)).size = H.size + (catL (l.take k)).size := ByteArray.size_append
      generalize catL (l.take k) = T at *
      generalize H ++ T = X at *
      generalize bytesOf p.n = x1 at *
      generalize bytesOf p.u = x2 at *
      generalize textOf p.s = x3 at *
      simp only [ByteArray.size_append] at z
      have y1 : ¬ 9223372036854775807 < x1.size + x2.size := by omega
      have y2 : ¬ 9223372036854775807 < x1.size + x2.size + x3.size := by omega
      have HC := Lib.hid hcat2
      have N1 := Lib.hid n1
      have N2 := Lib.hid n2
      have N3 := Lib.hid n3
      have HF := Lib.hid hf
      clear hcat hcat2 n1 n2 n3 hc hf hp hft
      subst hAe
      go_wp2
      have hO := PlIn.new wr p
      have hbd := builder_below hbd (below_alloc (Below.refl _ wr) (.cells #[.int .i64 p.n, .int .i64 p.u, .string p.s] 115))
      have hnx := below_alloc hnx (.cells #[.int .i64 p.n, .int .i64 p.u, .string p.s] 115)
      have hsz1 : w.heap.size < (wr.alloc (.cells #[.int .i64 p.n, .int .i64 p.u, .string p.s] 115)).heap.size := by simp; omega
      have hpb : wr.heap.size ≠ w.heap.size := by omega
      generalize wr.alloc (.cells #[.int .i64 p.n, .int .i64 p.u, .string p.s] 115) = W at *
      generalize wr.heap.size = pb at *
      have hO : PlIn W.drew pb p := hO
      have hbd : Lib.IsBuilder 92 5 w.heap.size w.heap.size (Lib.strCells X) W.drew := hbd
      have hN : Below w.heap.size w W.drew := hnx.drew
      have hL : w.heap.size < W.drew.heap.size := hsz1
      clear hnx hsz1 q0 q1 q2 hsz
      go_region_held3 (fun w' => w'.cell? ⟨pb, 0, none⟩ = some (.int .i64 p.n) ∧ w'.cell? ⟨pb, 1, none⟩ = some (.int .i64 p.u) ∧ w'.cell? ⟨pb, 2, none⟩ = some (.string p.s)) (first | exact hO.cells) (first | (go_at_call 27; (with_reducible refine (N1.out _).mono ?_); rintro e w3 ⟨rfl, hb3⟩; have hO := hO.below hb3; have hbd := builder_below hbd hb3; have hN := below_then hN hb3; have hL := Nat.lt_of_lt_of_le hL hb3.size) | (go_at_call 27; (with_reducible refine (N2.out _).mono ?_); rintro e w3 ⟨rfl, hb3⟩; have hO := hO.below hb3; have hbd := builder_below hbd hb3; have hN := below_then hN hb3; have hL := Nat.lt_of_lt_of_le hL hb3.size) | (go_at_call 76; (with_reducible refine (N3.out _).mono ?_); rintro e w3 ⟨rfl, hb3⟩; have hO := hO.below hb3; have hbd := builder_below hbd hb3; have hN := below_then hN hb3; have hL := Nat.lt_of_lt_of_le hL hb3.size) | (go_at_call 35; (with_reducible refine (wstr_any _ _ _ _ _ hbd (by simp [Lib.strCells_length, ByteArray.size_append]; omega) (Nat.le_of_lt hL)).mono ?_); rintro e w4 ⟨rfl, hbd4, hN4, hr4⟩; have hO := hO.rest hr4 hpb; have hN := hN.trans hN4))
      all_goals
        go_wp2
        go_roundw
        case rel => exact ⟨k + 1, by omega, by go_num, by rw [HC.out, strCells_app]; exact hbd4, hN, by have := hbd4; rcases this with h | h <;> exact h.lt⟩
        case measure => simp [intOf]; omega
    · obtain rfl : k = l.length := by omega
      have HB := Lib.hid hbd
      rw [List.take_length] at hbd
      have C := builder_String_any w.heap.size w.heap.size (L (H ++ catL l)) wr hbd (Nat.le_of_lt hsz)
      have he : (⟨(L (H ++ catL l)).toArray⟩ : ByteArray) = treeBytes l := by rw [HT0.out]; exact back_L _
      rw [he] at C
      have HC := Lib.hid C
      clear C he hbd HT0
      go_wp2_with (go_at_call 37; (with_reducible refine HC.out.mono ?_); rintro e w5 ⟨rfl, hb5⟩)
      go_ret
      exact ⟨rfl, hnx.trans hb5⟩

set_option maxHeartbeats 4000000 in
theorem refPrint_any (A : Option Addr) (cap : Nat) (l : List Pl) (w : World) (hl : l.length ≤ 1000) (hf : ∀ p ∈ l, Fit p) (hT : Tr w A l) :
    Calls Try.prog 61 #[.slice A l.length cap] w fun e w' => e = .returned (.string (treeBytes l)) ∧ Below w.heap.size w w' := by
  have cn := fun w => refNum_any (l.length : Int) w (by omega) (by omega)
  have hh := headOf l 0 hl
  have hT0 : treeBytes l = bytesOf l.length ++ catL l := rfl
  have HT0 := Lib.hid hT0
  generalize bytesOf (l.length : Int) = H at *
  have CN := Lib.hid cn
  clear hT0 cn
  go_enter Try.func61, Try.ntmps61
  go_wp2_with (go_at_call 38; (with_reducible refine (CN.out _).mono ?_); rintro e w1 ⟨rfl, hb1⟩)
  go_loopw [3, 4] (fun v x wr => ∃ k : Nat, k ≤ l.length ∧ x = .int .i64 k ∧ v = .string (H ++ catL (l.take k)) ∧ Below w.heap.size w wr) (fun _ x _ => l.length - (intOf x).toNat)
  case atStart => exact ⟨0, Nat.zero_le _, rfl, by simp [catL]; rw [bempty], hb1⟩
  case round =>
    obtain ⟨k, hk, rfl, rfl, hnx⟩ := hrel
    have htl := take_le hf k
    by_cases hlt : k < l.length
    · obtain ⟨bb, off, hAe, hbw, hc⟩ := hT (by omega)
      have hbr := Nat.lt_of_lt_of_le hbw hnx.size
      have hat := (hc k hlt).below hnx hbw
      have hft := hf _ (List.getElem_mem hlt)
      have hcat := catL_take l k hlt
      obtain ⟨p, hp⟩ : ∃ p, l[k] = p := ⟨_, rfl⟩
      rw [hp] at hat hft hcat
      obtain ⟨q0, q1, q2⟩ := hat
      have hcat2 : H ++ catL (l.take (k + 1)) = (H ++ catL (l.take k)) ++ bytesOf p.n ++ bytesOf p.u ++ textOf p.s := by rw [hcat]; unfold plBytes; simp only [ByteArray.append_assoc]
      have z := plBytes_le hft
      unfold plBytes at z
      have n1 := fun w => refNum_any p.n w hft.n1 hft.n2
      have n2 := fun w => refNum_any p.u w hft.u1 hft.u2
      have n3 := fun w => refText_any p.s w (by have := hft.s; omega)
      have hXs : (H ++ catL (l.take k)).size = H.size + (catL (l.take k)).size := ByteArray.size_append
      generalize catL (l.take k) = T at *
      generalize H ++ T = X at *
      generalize bytesOf p.n = x1 at *
      generalize bytesOf p.u = x2 at *
      generalize textOf p.s = x3 at *
      simp only [ByteArray.size_append] at z
      have HC := Lib.hid hcat2
      have k0 := cell_regrown q0
      have k1 := cell_regrown q1
      have k2 := cell_regrown q2
      have N1 := Lib.hid n1
      have N2 := Lib.hid n2
      have N3 := Lib.hid n3
      have HF := Lib.hid hf
      clear hcat hcat2 n1 n2 n3 hc hf hp hft q0 q1 q2
      subst hAe
      have y0 : X.size ≤ 47000 := by omega
      have y1 : x1.size ≤ 46 := by omega
      have y2 : x2.size ≤ 46 := by omega
      have y3 : x3.size ≤ 46 := by omega
      have d1 : ∀ d os, Calls Try.prog 38 #[.int .i64 p.n] (Sort.grow (redrawn wr d) os) fun e w'' => e = .returned (.string x1) ∧ ∃ p : Regrown, w'' = Sort.grow (redrawn wr p.d) p.os := fun d os => Calls.regrown_of (N1.out _)
      have d2 : ∀ d os, Calls Try.prog 38 #[.int .i64 p.u] (Sort.grow (redrawn wr d) os) fun e w'' => e = .returned (.string x2) ∧ ∃ p : Regrown, w'' = Sort.grow (redrawn wr p.d) p.os := fun d os => Calls.regrown_of (N2.out _)
      have d3 : ∀ d os, Calls Try.prog 77 #[.string p.s] (Sort.grow (redrawn wr d) os) fun e w'' => e = .returned (.string x3) ∧ ∃ p : Regrown, w'' = Sort.grow (redrawn wr p.d) p.os := fun d os => Calls.regrown_of (N3.out _)
      go_wp2
      refine wp_region_quiet_below (by kernel_rfl) (by kernel_rfl) ?_
      repeat (go_big_quiet_step ((with_reducible (first | exact d1 _ _ | exact d2 _ _ | exact d3 _ _))))
      refine wpQuiet_nil ?_
      intro _ hw'
      obtain ⟨⟨dq, osq⟩, hw''⟩ := hw'
      subst hw''
      go_wp2
      go_roundw
      case rel => exact ⟨k + 1, by omega, by go_num, by rw [HC.out], below_then hnx (below_regrown wr dq osq)⟩
      case measure => simp [intOf]; omega
    · obtain rfl : k = l.length := by omega
      rw [List.take_length]
      go_wp2
      go_ret
      exact ⟨by rw [HT0.out]; rfl, hnx⟩
end Go.Proofs.Ytfpgfclmmdihjaa

/- The document's Print. -/
namespace Go.Proofs.Ytfpgfclmmdihjaa
open Go.RowKit Tre Cod Pst

/-- Operations' bytes, one behind the other. -/
def catM (l : List Mv) : ByteArray := l.foldl (fun s m => s ++ m.bytes) ⟨#[]⟩
theorem catM_snoc (l : List Mv) (m : Mv) : catM (l ++ [m]) = catM l ++ m.bytes := by unfold catM; rw [List.foldl_append]; rfl
theorem catM_next {l : List Mv} {k : Nat} {m : Mv} (h : k < l.length) (hm : l[k] = m) : catM (l.take (k + 1)) = catM (l.take k) ++ m.bytes := by
  rw [List.take_succ_eq_append_getElem h, catM_snoc, hm]
theorem catM_le : ∀ (l : List Mv) (k : Nat), (∀ m ∈ l, m.ok) → (catM (l.take k)).size ≤ 86 * l.length
  | l, 0, _ => by show (ByteArray.mk #[]).size ≤ _; exact Nat.zero_le _
  | l, k + 1, h => by
    by_cases hk : k < l.length
    · have h1 : ∀ j, j ≤ l.length → (catM (l.take j)).size ≤ 86 * j := by
        intro j
        induction j with
        | zero => intro _; exact Nat.zero_le _
        | succ j ih =>
          intro hj
          rw [catM_next (by omega) rfl, ByteArray.size_append]
          have := ih (by omega)
          have := bytes_le (h l[j] (List.getElem_mem _))
          omega
      have := h1 (k + 1) hk
      omega
    · have e : l.take (k + 1) = l.take k := by rw [List.take_of_length_le (by omega), List.take_of_length_le (by omega)]
      rw [e]; exact catM_le l k h
def headV (q : Pv) : ByteArray := treeBytes q.base ++ bytesOf q.t ++ bytesOf q.ops.length
def pastBytes (q : Pv) : ByteArray := headV q ++ catM q.ops

set_option maxRecDepth 100000 in
set_option maxHeartbeats 4000000 in
theorem pastRefPrint_any (x : Pw) (w : World) (hx : PastOk w x) (hl : x.base.length ≤ 1000) (hl2 : x.ops.length ≤ 1000) (hf : ∀ p ∈ x.base, Fit p) (ht : i64 x.t) (ho : ∀ m ∈ x.ops, m.ok) (hts : (treeBytes x.base).size ≤ 100000) :
    Calls Try.prog 39 #[.agg #[.slice x.bA x.base.length x.bc, .int .i64 x.t, .slice x.oA x.ops.length x.oc, .slice x.uA x.us.length x.uc, .slice x.wA x.now.length x.wc]] w fun e w' => e = .returned (.string (pastBytes x.v)) ∧ Below w.heap.size w w' := by
  obtain ⟨bA, bc, base, t, oA, oc, ops, uA, uc, us, wA, wc, now⟩ := x
  simp only at hl hl2 hf ht ho hts
  have hxo := hx.o
  have hxb := hx.b
  simp only at hxo hxb
  clear hx
  have hv : pastBytes (⟨bA, bc, base, t, oA, oc, ops, uA, uc, us, wA, wc, now⟩ : Pw).v = (treeBytes base ++ bytesOf t ++ bytesOf ops.length) ++ catM (ops.take ops.length) := by rw [List.take_length]; rfl
  rw [hv]
  clear hv
  have hP : pwE.In (w.alloc (.cells #[.slice bA base.length bc, .int .i64 t, .slice oA ops.length oc, .slice uA us.length uc, .slice wA now.length wc] 27)) w.heap.size (⟨bA, bc, base, t, oA, oc, ops, uA, uc, us, wA, wc, now⟩ : Pw) := El.In.new (E := pwE) w (⟨bA, bc, base, t, oA, oc, ops, uA, uc, us, wA, wc, now⟩ : Pw) #[.slice bA base.length bc, .int .i64 t, .slice oA ops.length oc, .slice uA us.length uc, .slice wA now.length wc] rfl
  have hB := below_alloc (Below.refl w.heap.size w) (.cells #[.slice bA base.length bc, .int .i64 t, .slice oA ops.length oc, .slice uA us.length uc, .slice wA now.length wc] 27)
  have hxo := hxo.below hB
  have hxb := hxb.below hB
  have hcat := fun k => catM_le ops k ho
  have z1 := bytesOf_le t ht.1 ht.2
  have z2 := bytesOf_le ops.length (by omega) (by omega)
  have C1 := fun w (hT : SlV plE w bA bc base) => refPrint_any bA bc base w hl hf (plSl.1 hT.1)
  have C2 := fun w => refNum_any t w ht.1 ht.2
  have C3 := fun w => refNum_any ops.length w (by omega) (by omega)
  generalize treeBytes base = x1 at *
  generalize bytesOf t = x2 at *
  generalize bytesOf ops.length = x3 at *
  have HC1 := Lib.hid C1
  have HC2 := Lib.hid C2
  have HC3 := Lib.hid C3
  clear C1 C2 C3
  go_enter Try.func39, Try.ntmps39
  go_wp2_with fail
  generalize w.alloc (.cells #[.slice bA base.length bc, .int .i64 t, .slice oA ops.length oc, .slice uA us.length uc, .slice wA now.length wc] 27) = W at *
  have hBs := hB.size
  obtain ⟨n0, h0⟩ : ∃ n, w.heap.size = n := ⟨_, rfl⟩
  rw [h0] at hP ⊢
  clear h0
  obtain ⟨p0, p1, p2, p3, p4⟩ := pwIn5 hP
  have k0 := cell_regrown p0
  have k1 := cell_regrown p1
  have k2 := cell_regrown p2
  clear p0 p1 p2 p3 p4
  have d1 : ∀ d os, Calls Try.prog 61 #[.slice bA base.length bc] (Sort.grow (redrawn W d) os) fun e w'' => e = .returned (.string x1) ∧ ∃ p : Regrown, w'' = Sort.grow (redrawn W p.d) p.os := fun d os => Calls.regrown_of (HC1.out _ (hxb.below (below_regrown W d os)))
  have d2 : ∀ d os, Calls Try.prog 38 #[.int .i64 t] (Sort.grow (redrawn W d) os) fun e w'' => e = .returned (.string x2) ∧ ∃ p : Regrown, w'' = Sort.grow (redrawn W p.d) p.os := fun d os => Calls.regrown_of (HC2.out _)
  have d3 : ∀ d os, Calls Try.prog 38 #[.int .i64 ops.length] (Sort.grow (redrawn W d) os) fun e w'' => e = .returned (.string x3) ∧ ∃ p : Regrown, w'' = Sort.grow (redrawn W p.d) p.os := fun d os => Calls.regrown_of (HC3.out _)
  refine wp_region_quiet_below (by kernel_rfl) (by kernel_rfl) ?_
  repeat (go_big_quiet_step ((with_reducible (first | exact d1 _ _ | exact d2 _ _ | exact d3 _ _))))
  refine wpQuiet_nil ?_
  intro _ hw'
  obtain ⟨⟨dq, osq⟩, hw''⟩ := hw'
  subst hw''
  have hq := below_regrown W dq osq
  generalize Sort.grow (redrawn W dq) osq = W1 at *
  clear d1 d2 d3 k0 k1 k2
  have hP1 := hP.below hq
  have hxo1 := hxo.below hq
  have hB1 := hB.trans (hq.mono hBs)
  go_wp2_with fail
  obtain ⟨H, hH⟩ : ∃ H, x1 ++ x2 ++ x3 = H := ⟨_, rfl⟩
  have hHs : H.size ≤ 100020 := by rw [← hH, ByteArray.size_append, ByteArray.size_append]; omega
  have HH := Lib.hid hH
  clear hH
  have hn0 := hP1.lt
  go_loopw [3, 4] (fun s y wr => ∃ k : Nat, k ≤ ops.length ∧ y = .int .i64 k ∧ s = .string (H ++ catM (ops.take k)) ∧ Below W1.heap.size W1 wr) (fun _ y _ => ops.length - (intOf y).toNat)
  case atStart =>
    refine ⟨0, Nat.zero_le _, rfl, ?_, Below.refl _ _⟩
    rw [← HH.out]
    congr 1
    apply L_inj; rw [L_app]; simp [L, catM]
  case round =>
    obtain ⟨k, hk, rfl, rfl, hnx⟩ := hrel
    obtain ⟨p0, p1, p2, p3, p4⟩ := pwIn5 (hP1.below hnx)
    have hck := hcat k
    by_cases hkl : k < ops.length
    · obtain ⟨b, off, hoA, hbw, hc⟩ := hxo1.1 (by omega)
      have hat : opE.At wr b (off + k * 7) ops[k] := (hc k hkl).below hnx hbw
      have hnext := catM_next hkl rfl
      have hmo := ho ops[k] (List.getElem_mem _)
      obtain ⟨mk, hmk⟩ : ∃ mk, ops[k] = mk := ⟨_, rfl⟩
      rw [hmk] at hat hnext hmo
      have hml := bytes_le hmo
      have hwd := opB_wide hmo
      have CP := fun w => opRefPrint_any mk.C mk.D mk.I mk.M mk.K mk.U mk.s w hwd.1 (by omega)
      have hby : printOf mk.C mk.D mk.I mk.M mk.K mk.U mk.s = mk.bytes := rfl
      rw [hby] at CP
      have HN := Lib.hid hnext
      have HCP := Lib.hid CP
      clear hnext CP hby hc hmk hwd hmo
      generalize catM (ops.take k) = ck at *
      generalize mk.bytes = mb at *
      subst hoA
      go_wp2_with (first | (refine El.load opRow rfl _ rfl b (off + k * 7) rfl mk hat #[.int .i64 mk.C, .int .i64 mk.D, .int .i64 mk.I, .int .i64 mk.M, .int .i64 mk.K, .int .i64 mk.U, .string mk.s] rfl ?_) | (go_at_call 62; (with_reducible refine (HCP.out _).mono ?_); rintro e w3 ⟨rfl, hb3⟩))
      go_roundw
      case rel => exact ⟨k + 1, by omega, by go_num, by rw [HN.out, ByteArray.append_assoc], below_then hnx hb3⟩
      case measure => simp [intOf]; omega
    · obtain rfl : k = ops.length := by omega
      go_wp2
      go_ret
      refine ⟨?_, hB1.trans (hnx.mono (by have := hB1.size; omega))⟩
      rw [HH.out]; rfl
end Go.Proofs.Ytfpgfclmmdihjaa

/- Print of the program. -/
namespace Go.Proofs.Ytfpgfclmmdihjaa
open Go.RowKit Tre Cod Pst Nam

theorem El.In.low {α : Type} {E : El α} {w w' : World} {b B : Nat} {x : α} (h : E.In w b x) (hb : Below B w w') (hlt : b < B) : E.In w' b x := (hb.block b hlt).trans h

set_option maxRecDepth 100000 in
set_option maxHeartbeats 4000000 in
theorem pPrint_any (x : Pw) (w : World) (hx : PastOk w x) (hl : x.base.length ≤ 1000) (hl2 : x.ops.length ≤ 1000) (hf : ∀ p ∈ x.base, Fit p) (ht : i64 x.t) (ho : ∀ m ∈ x.ops, m.ok) (hts : (treeBytes x.base).size ≤ 100000) :
    Calls Try.prog 36 #[.agg #[.slice x.bA x.base.length x.bc, .int .i64 x.t, .slice x.oA x.ops.length x.oc, .slice x.uA x.us.length x.uc, .slice x.wA x.now.length x.wc]] w fun e w' => e = .returned (.string (pastBytes x.v)) ∧ Below w.heap.size w w' := by
  obtain ⟨bA, bc, base, t, oA, oc, ops, uA, uc, us, wA, wc, now⟩ := x
  simp only at hl hl2 hf ht ho hts
  have hv : pastBytes (⟨bA, bc, base, t, oA, oc, ops, uA, uc, us, wA, wc, now⟩ : Pw).v = (treeBytes base ++ bytesOf t ++ bytesOf ops.length) ++ catM ops := rfl
  rw [hv]
  clear hv
  have hP : pwE.In ((w.alloc (.cells #[.slice bA base.length bc, .int .i64 t, .slice oA ops.length oc, .slice uA us.length uc, .slice wA now.length wc] 27)).alloc (.cells #[.pointer none, .slice none 0 0] 92)) w.heap.size (⟨bA, bc, base, t, oA, oc, ops, uA, uc, us, wA, wc, now⟩ : Pw) := (El.In.new (E := pwE) w (⟨bA, bc, base, t, oA, oc, ops, uA, uc, us, wA, wc, now⟩ : Pw) _ rfl).alloc _
  have hB := below_alloc (below_alloc (Below.refl w.heap.size w) (.cells #[.slice bA base.length bc, .int .i64 t, .slice oA ops.length oc, .slice uA us.length uc, .slice wA now.length wc] 27)) (.cells #[.pointer none, .slice none 0 0] 92)
  have hbd := builder_new (w.alloc (.cells #[.slice bA base.length bc, .int .i64 t, .slice oA ops.length oc, .slice uA us.length uc, .slice wA now.length wc] 27))
  have hlt : (w.alloc (.cells #[.slice bA base.length bc, .int .i64 t, .slice oA ops.length oc, .slice uA us.length uc, .slice wA now.length wc] 27)).heap.size < ((w.alloc (.cells #[.slice bA base.length bc, .int .i64 t, .slice oA ops.length oc, .slice uA us.length uc, .slice wA now.length wc] 27)).alloc (.cells #[.pointer none, .slice none 0 0] 92)).heap.size := by simp
  rw [alloc_size] at hbd hlt
  have HL := Lib.hid hx
  clear hx
  have hcat := fun k => catM_le ops k ho
  have z1 := bytesOf_le t ht.1 ht.2
  have z2 := bytesOf_le ops.length (by omega) (by omega)
  have N1 := Lib.hid (fun w (h : SlV plE w bA bc base) => print_any bA bc base w hl hf (plSl.1 h.1))
  have N2 := Lib.hid (fun w => num_any t w ht.1 ht.2)
  have N3 := Lib.hid (fun w => num_any (ops.length : Int) w (by omega) (by omega))
  generalize treeBytes base = x1 at *
  generalize bytesOf t = x2 at *
  generalize bytesOf (ops.length : Int) = x3 at *
  go_enter Try.func36, Try.ntmps36
  go_wp2_with fail
  generalize ((w.alloc (.cells #[.slice bA base.length bc, .int .i64 t, .slice oA ops.length oc, .slice uA us.length uc, .slice wA now.length wc] 27)).alloc (.cells #[.pointer none, .slice none 0 0] 92)) = W at *
  obtain ⟨n1, h1⟩ : ∃ n, w.heap.size + 1 = n := ⟨_, rfl⟩
  rw [h1] at hbd hlt ⊢
  obtain ⟨n0, h0⟩ : ∃ n, w.heap.size = n := ⟨_, rfl⟩
  rw [h0] at hP ⊢
  have HN := Lib.hid (show w.heap.size ≤ n1 ∧ n0 < n1 by omega)
  clear h0 h1
  have y1 : ¬ 9223372036854775807 < x1.size + x2.size := by omega
  have y2 : ¬ 9223372036854775807 < x1.size + x2.size + x3.size := by omega
  have hXs : (x1 ++ x2 ++ x3).size = x1.size + x2.size + x3.size := by rw [ByteArray.size_append, ByteArray.size_append]
  obtain ⟨H, hH⟩ : ∃ H, x1 ++ x2 ++ x3 = H := ⟨_, rfl⟩
  have hHs : H.size ≤ 100020 := by rw [← hH, hXs]; omega
  have HH := Lib.hid hH
  clear hXs hH
  replace hP : pwE.In W.drew n0 (⟨bA, bc, base, t, oA, oc, ops, uA, uc, us, wA, wc, now⟩ : Pw) := hP
  replace hB : Below w.heap.size w W.drew := hB.drew
  replace hbd : Lib.IsBuilder 92 5 n1 n1 [] W.drew := hbd
  replace hlt : n1 < W.drew.heap.size := hlt
  have hxb := (HL.out.below hB).b
  simp only at hxb
  go_region_held3 (fun w' => w'.cell? ⟨n0, 0, none⟩ = some (.slice bA base.length bc) ∧ w'.cell? ⟨n0, 1, none⟩ = some (.int .i64 t) ∧ w'.cell? ⟨n0, 2, none⟩ = some (.slice oA ops.length oc)) (with_reducible exact ⟨(pwIn5 hP).1, (pwIn5 hP).2.1, (pwIn5 hP).2.2.1⟩) (first | (go_at_call 59; (with_reducible refine (N1.out _ hxb).mono ?_); rintro e w3 ⟨rfl, hb3⟩; have hP := hP.below hb3; have hbd := builder_below hbd hb3; have hB := hB.trans (hb3.mono hB.size); have hxb := hxb.below hb3; have hlt := Nat.lt_of_lt_of_le hlt hb3.size) | (go_at_call 27; (with_reducible refine (N2.out _).mono ?_); rintro e w3 ⟨rfl, hb3⟩; have hP := hP.below hb3; have hbd := builder_below hbd hb3; have hB := hB.trans (hb3.mono hB.size); have hxb := hxb.below hb3; have hlt := Nat.lt_of_lt_of_le hlt hb3.size) | (go_at_call 27; (with_reducible refine (N3.out _).mono ?_); rintro e w3 ⟨rfl, hb3⟩; have hP := hP.below hb3; have hbd := builder_below hbd hb3; have hB := hB.trans (hb3.mono hB.size); have hxb := hxb.below hb3; have hlt := Nat.lt_of_lt_of_le hlt hb3.size) | (go_at_call 35; (with_reducible refine (wstr_any _ _ _ _ _ hbd (by simp [Lib.strCells_length, ByteArray.size_append]; omega) (Nat.le_of_lt hlt)).mono ?_); rintro e w4 ⟨rfl, hbd4, hN4, hr4⟩; have hP := hP.low hN4 HN.out.2; have hB := hB.trans (hN4.mono HN.out.1)))
  have p2 := (pwIn5 hP).2.2.1
  simp only at p2
  have e1 : H ++ catM (ops.take 0) = H := by apply L_inj; rw [L_app]; simp [L, catM]
  have e0 : [] ++ Lib.strCells (x1 ++ x2 ++ x3) = Lib.strCells (H ++ catM (ops.take 0)) := by rw [e1, HH.out, List.nil_append]
  rw [e0] at hbd4
  clear e0 e1
  have hlt4 : n1 < w4.heap.size := by rcases hbd4 with h | h <;> exact h.lt
  go_wp2_with fail
  clear p2
  go_loopw [22] (fun x wr => ∃ k : Nat, k ≤ ops.length ∧ x = .int .i64 k ∧ Lib.IsBuilder 92 5 n1 n1 (Lib.strCells (H ++ catM (ops.take k))) wr ∧ Below w.heap.size w wr ∧ n1 < wr.heap.size) (fun x _ => ops.length - (intOf x).toNat)
  case atStart => exact ⟨0, Nat.zero_le _, rfl, hbd4, hB, hlt4⟩
  case round =>
    clear hbd4 hlt4 hP hB
    obtain ⟨k, hk, rfl, hbd, hB, hsz⟩ := hrel
    have hck := hcat k
    by_cases hkl : k < ops.length
    · have hxo := (HL.out.below hB).o
      simp only at hxo
      obtain ⟨b, off, hoA, hbw, hc⟩ := hxo.1 (by omega)
      have hat : opE.At wr b (off + k * 7) ops[k] := hc k hkl
      have hnext := catM_next hkl rfl
      have hmo := ho ops[k] (List.getElem_mem _)
      obtain ⟨mk, hmk⟩ : ∃ mk, ops[k] = mk := ⟨_, rfl⟩
      rw [hmk] at hat hnext hmo
      have hml := bytes_le hmo
      have hwd := opB_wide hmo
      have CP := fun w => opPrint_any mk.C mk.D mk.I mk.M mk.K mk.U mk.s w hwd.1 (by omega)
      have hby : printOf mk.C mk.D mk.I mk.M mk.K mk.U mk.s = mk.bytes := rfl
      rw [hby] at CP
      have HNX := Lib.hid hnext
      have HCP := Lib.hid CP
      have HO := Lib.hid ho
      clear hnext CP hby hc hmk hwd hmo hxo ho
      generalize catM (ops.take k) = ck at *
      generalize mk.bytes = mb at *
      subst hoA
      go_wp2_with (refine El.load opRow rfl _ rfl b (off + k * 7) rfl mk hat #[.int .i64 mk.C, .int .i64 mk.D, .int .i64 mk.I, .int .i64 mk.M, .int .i64 mk.K, .int .i64 mk.U, .string mk.s] rfl ?_)
      refine (HCP.out _).mono ?_
      rintro e w3 ⟨rfl, hb3⟩
      have hbd3 := builder_below (builder_below hbd (below_alloc (Below.refl _ wr) (.cells #[.int .i64 mk.C, .int .i64 mk.D, .int .i64 mk.I, .int .i64 mk.M, .int .i64 mk.K, .int .i64 mk.U, .string mk.s] 48))) hb3
      have hB3 := below_then (below_alloc hB (.cells #[.int .i64 mk.C, .int .i64 mk.D, .int .i64 mk.I, .int .i64 mk.M, .int .i64 mk.K, .int .i64 mk.U, .string mk.s] 48)) hb3
      have hlt3 : n1 < w3.heap.size := by rcases hbd3 with h | h <;> exact h.lt
      go_wp2_with fail
      refine (wstr_any _ _ _ _ _ hbd3 (by simp [Lib.strCells_length, ByteArray.size_append]; omega) (Nat.le_of_lt hlt3)).mono ?_
      rintro e w4 ⟨rfl, hbd4, hN4, hr4⟩
      have hlt4 : n1 < w4.heap.size := by rcases hbd4 with h | h <;> exact h.lt
      go_wp2_with fail
      go_roundw
      case rel => exact ⟨k + 1, by omega, by go_num, by rw [HNX.out, ← ByteArray.append_assoc, strCells_app]; exact hbd4, hB3.trans (hN4.mono HN.out.1), hlt4⟩
      case measure => simp [intOf]; omega
    · obtain rfl : k = ops.length := by omega
      rw [List.take_length] at hbd
      have C := builder_String_any n1 n1 (L (H ++ catM ops)) wr hbd (Nat.le_of_lt hsz)
      have he : (⟨(L (H ++ catM ops)).toArray⟩ : ByteArray) = H ++ catM ops := back_L _
      rw [he, ← HH.out] at C
      have HC := Lib.hid C
      clear C he hbd
      go_wp2_with (go_at_call 37; (with_reducible refine HC.out.mono ?_); rintro e w5 ⟨rfl, hb5⟩)
      go_ret
      exact ⟨rfl, hB.trans (hb5.mono HN.out.1)⟩
end Go.Proofs.Ytfpgfclmmdihjaa

/- The document's Add. -/
namespace Go.Proofs.Ytfpgfclmmdihjaa
open Go.RowKit Tre Cod Pst

/-- What stays while the new list of operations is built. -/
structure InsK (W0 : World) (n0 n1 n2 B : Nat) (x : Pw) (m : Mv) (A1 A3 : Option Addr) (L1 L3 : List Mv) (W : World) : Prop where
  P : pwE.In W n0 x
  O : opE.In W n1 m
  R : pwE.In W n2 Pw.zero
  o1 : opE.SlB B W A1 L1
  o3 : opE.SlB B W A3 L3
  bel : Below W0.heap.size W0 W
  sz : B ≤ W.heap.size
  lt : n0 < B ∧ n1 < B ∧ n2 < B ∧ W0.heap.size ≤ B
theorem InsK.grown {W0 W W' : World} {n0 n1 n2 B : Nat} {x : Pw} {m : Mv} {A1 A3 : Option Addr} {L1 L3 : List Mv} {row : Option Nat} (h : InsK W0 n0 n1 n2 B x m A1 A3 L1 L3 W) (hg : W.grownBy W' row) (hrow : ∀ k, row = some k → B ≤ k) : InsK W0 n0 n1 n2 B x m A1 A3 L1 L3 W' := by
  obtain ⟨l0, l1, l2, l3⟩ := h.lt
  exact ⟨h.P.keep hg (fun e => by have := hrow _ e.symm; omega), h.O.keep hg (fun e => by have := hrow _ e.symm; omega), h.R.keep hg (fun e => by have := hrow _ e.symm; omega), h.o1.keep hg hrow, h.o3.keep hg hrow, h.bel.grown hg h.bel.size (fun k e => by have := hrow k e; omega), Nat.le_trans h.sz hg.size, h.lt⟩
theorem InsK.alloc {W0 W : World} {n0 n1 n2 B : Nat} {x : Pw} {m : Mv} {A1 A3 : Option Addr} {L1 L3 : List Mv} (h : InsK W0 n0 n1 n2 B x m A1 A3 L1 L3 W) (o : Obj) : InsK W0 n0 n1 n2 B x m A1 A3 L1 L3 (W.alloc o) :=
  h.grown (World.grownBy_alloc W o none) (fun k e => by cases e)
/-- What the region reads. -/
def InsS (n0 n1 : Nat) (A : Option Addr) (len c : Nat) (m : Mv) (w : World) : Prop := w.cell? ⟨n0, 2, none⟩ = some (.slice A len c) ∧ (w.cell? ⟨n1, 0, none⟩ = some (.int .i64 m.C) ∧ w.cell? ⟨n1, 1, none⟩ = some (.int .i64 m.D) ∧ w.cell? ⟨n1, 2, none⟩ = some (.int .i64 m.I) ∧ w.cell? ⟨n1, 3, none⟩ = some (.int .i64 m.M) ∧ w.cell? ⟨n1, 4, none⟩ = some (.int .i64 m.K) ∧ w.cell? ⟨n1, 5, none⟩ = some (.int .i64 m.U) ∧ w.cell? ⟨n1, 6, none⟩ = some (.string m.s))
theorem InsK.s {W0 W : World} {n0 n1 n2 B : Nat} {x : Pw} {m : Mv} {A1 A3 : Option Addr} {L1 L3 : List Mv} (h : InsK W0 n0 n1 n2 B x m A1 A3 L1 L3 W) : InsS n0 n1 x.oA x.ops.length x.oc m W := ⟨(pwIn5 h.P).2.2.1, opIn7 h.O⟩
theorem addV_late {q : Pv} {m : Mv} (h : m.C ≤ q.t) : addV q m = (q, false) := by unfold addV; rw [if_pos h]
theorem addV_same {q : Pv} {m : Mv} (h : ¬ m.C ≤ q.t) (hh : has Mv.C Mv.D q.ops m = true) : addV q m = (q, false) := by unfold addV; rw [if_neg h, if_pos hh]
theorem addV_new {q : Pv} {m : Mv} (h : ¬ m.C ≤ q.t) (hh : has Mv.C Mv.D q.ops m = false) : addV q m = ({ q with ops := insL Mv.C Mv.D q.ops m, us := (foldL q.base (mvs (insL Mv.C Mv.D q.ops m))).2, now := (foldL q.base (mvs (insL Mv.C Mv.D q.ops m))).1 }, true) := by
  unfold addV; rw [if_neg h, hh]; rfl
theorem insL_eq {l : List Mv} {m : Mv} {k : Nat} (h : k = pos Mv.C Mv.D l m) : insL Mv.C Mv.D l m = (l.take k ++ [m]) ++ l.drop k := by unfold insL; rw [← h]

end Go.Proofs.Ytfpgfclmmdihjaa

/- The document's Settle. -/
namespace Go.Proofs.Ytfpgfclmmdihjaa
open Go.RowKit Tre Cod Pst

def SetS (n0 : Nat) (bA : Option Addr) (bl bc : Nat) (A : Option Addr) (len c : Nat) (w : World) : Prop := w.cell? ⟨n0, 0, none⟩ = some (.slice bA bl bc) ∧ w.cell? ⟨n0, 2, none⟩ = some (.slice A len c)
theorem settleV_late {q : Pv} {t : Int} (h : t ≤ q.t) : settleV q t = q := by unfold settleV; rw [if_pos h]
theorem settleV_new {q : Pv} {t : Int} (h : ¬ t ≤ q.t) {k : Nat} (hk : k = upto Mv.C q.ops t) : settleV q t =
    ⟨(foldL q.base (mvs (q.ops.take k))).1, t, q.ops.drop k, (foldL (foldL q.base (mvs (q.ops.take k))).1 (mvs (q.ops.drop k))).2, (foldL (foldL q.base (mvs (q.ops.take k))).1 (mvs (q.ops.drop k))).1⟩ := by
  subst hk; unfold settleV; rw [if_neg h]

end Go.Proofs.Ytfpgfclmmdihjaa

/- Of PastPlays: the document's Add and Settle at known lists; a past's bytes are few; what number n waits for along a path. -/
namespace Go.Proofs.Ytfpgfclmmdihjaa
open Go.RowKit Tre Cod Pst Nam

theorem tree_bytes {l : List Pl} (h : treeB l = true) : (treeBytes l).size ≤ 100000 := by
  have h1 := tree_len h
  have h2 := catL_le l (tree_fit h)
  unfold treeBytes
  rw [ByteArray.size_append]
  have h3 := bytesOf_le l.length (by omega) (by omega)
  omega

section
variable {P : Program} {ops : Array Oper} {Q : Exit → Act → World → Prop} {md : Region.Mode} {S : World → Prop} {n : Nat}

theorem anyG_first2 {i : Nat} {oi : Oper} {v : Value} (hi : ops[i]? = some oi) (hin : i ≠ n) (hsel : ∀ (j : Nat) (o : Oper) cs b, ops[j]? = some o → o.op ≠ .select cs b)
    (hQ : ∀ c a w, Q (.panic c) (a.put oi.dst v) w → Q (.panic c) a w) (ms : List Nat) (hm : ∀ x ∈ n :: ms, ∃ y ∈ i :: ms, waitsB md ops x y = true) :
    ∀ (fuel : Nat) (listed : Array Bool) (a : Act) (w : World),
      (∀ j oj, ops[j]? = some oj → j ≠ i → listed.getD j true = false → (∀ e ∈ oj.after, Region.binds md e = true → e.on ≠ i) → oi.apart ops oj = true) →
      i ∈ Region.ready md ops listed → YieldsIf P ops S oi v a → S w → listed.getD n true = false → (∀ y ∈ ms, listed.getD y false = false) →
      anyG P md ops Q S n fuel (listed.setIfInBounds i true) (a.put oi.dst v) w → anyG P md ops Q S n (fuel + 1) listed a w := by
  intro fuel
  induction fuel with
  | zero =>
    intro listed a w _ hr hy hTw hn _ H
    refine ⟨fun h => (by rw [h] at hr; cases hr), fun j hj => ?_⟩
    by_cases hji : j = i
    · subst hji; exact hy.wpOp hi hTw ⟨fun h => hTw, H⟩
    · have h0 := ready_mono hj hji
      rw [H.1] at h0
      cases h0
  | succ fuel ih =>
    intro listed a w hfree hr hy hTw hn hms H
    refine ⟨fun h => (by rw [h] at hr; cases hr), fun j hj => ?_⟩
    by_cases hji : j = i
    · subst hji; exact hy.wpOp hi hTw ⟨fun h => hTw, H⟩
    · have hunf := getD_false (mem_ready.1 hr).1
      have hjm : ∀ x ∈ n :: ms, j ≠ x := fun x hx e => by
        subst e
        obtain ⟨y, hy1, hy2⟩ := hm j hx
        have h4 := waits_spec hy2 hj
        rcases List.mem_cons.1 hy1 with rfl | hy1
        · rw [hunf] at h4; cases h4
        · rw [hms y hy1] at h4; cases h4
      have h1 := H.2 j (ready_mono hj hji)
      obtain ⟨hjun, oj, hoj, hall⟩ := mem_ready.1 hj
      have hnot : ∀ e ∈ oj.after, Region.binds md e = true → e.on ≠ i := fun e he hb heq => by
        have h2 := hall e he hb
        rw [heq, hunf] at h2; cases h2
      have h2 := wpOp_putIf hoj (hfree j oj hoj hji hjun hnot) (fun cs b => hsel i oi cs b hi) (fun cs b => hsel j oj cs b hoj) hQ hy h1
      refine wpOp_mono (fun b u h3 => ?_) h2
      have hn2 : (listed.setIfInBounds j true).getD n true = false := by rw [getD_set_ne true (hjm n (by simp))]; exact hn
      have hSu : S u := h3.2.1 (by
        rw [Array.setIfInBounds_comm _ _ (Ne.symm hji), getD_set_ne true hin]; exact hn2)
      refine ⟨fun _ => hSu, ih (listed.setIfInBounds j true) b u (fun k ok hk hki hku hno => hfree k ok hk hki ?_ hno) (ready_mono hr (Ne.symm hji)) h3.1 hSu hn2 (fun y hy => by rw [getD_set_ne false (hjm y (by simp [hy]))]; exact hms y hy) ?_⟩
      · by_cases hjk : j = k
        · subst hjk; exact hjun
        · rw [getD_set_ne true hjk] at hku; exact hku
      · rw [Array.setIfInBounds_comm _ _ hji]
        exact h3.2.2
/-- What yields in whatever world meets S, and for what number n waits by way of ms. -/
theorem anyG_path {i : Nat} {oi : Oper} {v : Value} {fuel : Nat} {listed : Array Bool} {a : Act} {w : World} (ms : List Nat) (hi : ops.toList[i]? = some oi)
    (hl : (n :: ms).all (fun x => (i :: ms).any fun y => waitsB md ops x y) = true) (hin : (i == n || listed.getD n true || ms.any (fun y => listed.getD y false)) = false) (hs : Region.noSelect ops = true) (hf : Region.free md ops listed i = true) (hr : (Region.ready md ops listed).contains i = true)
    (hQ : ∀ c a w, Q (.panic c) (a.put oi.dst v) w → Q (.panic c) a w) (hy : YieldsIf P ops S oi v a) (hS : S w)
    (h : anyG P md ops Q S n fuel (listed.setIfInBounds i true) (a.put oi.dst v) w) : anyG P md ops Q S n (fuel + 1) listed a w := by
  have hi : ops[i]? = some oi := by rw [← Array.getElem?_toList]; exact hi
  rw [Bool.or_eq_false_iff, Bool.or_eq_false_iff] at hin
  refine anyG_first2 hi (by simpa using hin.1.1) (Region.noSelect_spec hs) hQ ms (fun x hx => ?_) fuel listed a w (Region.free_spec hi hf) (by simpa using hr) hy hS hin.1.2 (fun y hy => ?_) h
  · rw [List.all_eq_true] at hl
    have := hl x hx
    rw [List.any_eq_true] at this
    exact this
  · have := hin.2
    rw [List.any_eq_false] at this
    simpa using this y hy
end
end Go.Proofs.Ytfpgfclmmdihjaa

/- PastBack is proved: a past is read from its bytes as it was. Conditions: none. -/
namespace Go.Proofs.Ytfpgfclmmdihjaa
open Go.ChangeShapes Go.WideShapes Go.ChangeAt Go.RowKit Go.Deep Nam Cod Tre Pst

theorem catM_app : ∀ (b a : List Mv), catM (a ++ b) = catM a ++ catM b
  | [], a => by
    rw [List.append_nil]
    apply L_inj; rw [L_app]
    show _ = L (catM a) ++ L (ByteArray.mk #[])
    simp [L]
  | m :: b, a => by
    have e : a ++ m :: b = (a ++ [m]) ++ b := by rw [List.append_assoc]; rfl
    have e2 : m :: b = [m] ++ b := rfl
    have h0 : catM [m] = m.bytes := by
      have h := catM_snoc [] m
      rw [List.nil_append] at h
      rw [h]
      apply L_inj; rw [L_app]
      show L (ByteArray.mk #[]) ++ _ = _
      simp [L]
    rw [e, catM_app b (a ++ [m]), catM_snoc, e2, catM_app b [m], h0, ByteArray.append_assoc]

/-- Where a past's operation number k stands. -/
def posV (V : Pv) (k : Nat) : Nat := (headV V).size + (catM (V.ops.take k)).size
theorem past_there (V : Pv) (Z : ByteArray) (hI : PInv V) (hl : V.ops.length ≤ 60) : ∃ p1 p2, isTree (pastBytes V ++ Z) 0 false = some (V.base, p1) ∧ p1 ≤ (pastBytes V ++ Z).size ∧ isCount (pastBytes V ++ Z) p1 false 1099511627776 = some (V.t, p2) ∧ p2 ≤ (pastBytes V ++ Z).size ∧
    isCount (pastBytes V ++ Z) p2 false 4096 = some ((V.ops.length : Int), posV V 0) ∧ (∀ k (h : k < V.ops.length), isOp (pastBytes V ++ Z) (posV V k) false = some (V.ops[k], posV V (k + 1))) ∧ (∀ k, k ≤ V.ops.length → posV V k ≤ (pastBytes V ++ Z).size) ∧ posV V V.ops.length = (pastBytes V).size := by
  have hbl := tree_len hI.tree
  have ht0 := hI.t0
  have ht1 := hI.t1
  have hend : posV V V.ops.length = (pastBytes V).size := by unfold posV pastBytes; rw [List.take_length, ByteArray.size_append]
  have hsz : (pastBytes V ++ Z).size = (pastBytes V).size + Z.size := ByteArray.size_append
  have hsp : (pastBytes V).size = (treeBytes V.base).size + (bytesOf V.t).size + (bytesOf V.ops.length).size + (catM V.ops).size := by
    unfold pastBytes headV; simp only [ByteArray.size_append]
  have e1 : pastBytes V ++ Z = treeBytes V.base ++ (bytesOf V.t ++ (bytesOf V.ops.length ++ (catM V.ops ++ Z))) := by unfold pastBytes headV; simp only [ByteArray.append_assoc]
  have e2 : pastBytes V ++ Z = (treeBytes V.base ++ bytesOf V.t) ++ (bytesOf V.ops.length ++ (catM V.ops ++ Z)) := by rw [e1]; simp only [ByteArray.append_assoc]
  have h1 := tree_there ⟨#[]⟩ (bytesOf V.t ++ (bytesOf V.ops.length ++ (catM V.ops ++ Z))) V.base hI.tree (by omega)
  rw [empty_b, ← e1] at h1
  have h0 : (ByteArray.mk #[]).size = 0 := rfl
  rw [h0, Nat.zero_add] at h1
  have h2 := count_there (treeBytes V.base) (bytesOf V.ops.length ++ (catM V.ops ++ Z)) V.t 1099511627776 ht0 ht1 (by omega)
  rw [← e1] at h2
  have h3 := count_there (treeBytes V.base ++ bytesOf V.t) (catM V.ops ++ Z) V.ops.length 4096 (by omega) (by omega) (by omega)
  rw [← e2, ByteArray.size_append] at h3
  refine ⟨_, _, h1, by omega, h2, by omega, ?_, fun k hk => ?_, fun k hk => ?_, hend⟩
  · rw [h3]
    have : posV V 0 = (treeBytes V.base).size + (bytesOf V.t).size + (bytesOf V.ops.length).size := by
      unfold posV headV
      simp only [ByteArray.size_append]
      rw [List.take_zero]
      show _ + (ByteArray.mk #[]).size = _
      rw [h0]; rfl
    rw [this]
  · have hc : catM V.ops = catM (V.ops.take k) ++ (V.ops[k].bytes ++ catM (V.ops.drop (k + 1))) := by
      have h := catM_app (V.ops.drop (k + 1)) (V.ops.take (k + 1))
      rw [List.take_append_drop, catM_next hk rfl, ByteArray.append_assoc] at h
      exact h
    have h4 := op_there (headV V ++ catM (V.ops.take k)) (catM (V.ops.drop (k + 1)) ++ Z) V.ops[k].C V.ops[k].D V.ops[k].I V.ops[k].M V.ops[k].K V.ops[k].U V.ops[k].s (hI.ok _ (List.getElem_mem hk))
    have e3 : pastBytes V ++ Z = (headV V ++ catM (V.ops.take k)) ++ (printOf V.ops[k].C V.ops[k].D V.ops[k].I V.ops[k].M V.ops[k].K V.ops[k].U V.ops[k].s ++ (catM (V.ops.drop (k + 1)) ++ Z)) := by
      unfold pastBytes
      rw [hc]
      unfold Mv.bytes
      simp only [ByteArray.append_assoc]
    rw [← e3, ByteArray.size_append] at h4
    unfold posV
    rw [h4, catM_next hk rfl, ByteArray.size_append, Nat.add_assoc]
    rfl
  · have hc := catM_app (V.ops.drop k) (V.ops.take k)
    rw [List.take_append_drop] at hc
    have h5 : (catM V.ops).size = (catM (V.ops.take k)).size + (catM (V.ops.drop k)).size := by rw [hc, ByteArray.size_append]
    have h6 : (headV V).size = (treeBytes V.base).size + (bytesOf V.t).size + (bytesOf V.ops.length).size := by unfold headV; simp only [ByteArray.size_append]
    unfold posV
    omega

end Go.Proofs.Ytfpgfclmmdihjaa

/- Gifts merged and wanted, counts read, snapshots, chunks: as values. No call in it. -/
namespace Go.Proofs.Ytfpgfclmmdihjaa
open Go.RowKit Nam Cod Tre Pst

def newG (a b : Gf) : Bool := decide (b.i < a.i) || (decide (a.i = b.i) && (decide (a.t = 0) || (decide (b.t ≠ 0) && decide (b.c ≤ a.c))))
/-- Does a report take a gift's place? -/
def outG (g : Gf) (r : Rp) : Bool := decide (r.d = g.d) && (decide (g.i < r.i) || (decide (r.i = g.i) && (decide (r.m = 1) || (decide (g.t ≠ 0) && decide (g.c < r.k)))))
def wantedG (g : Gf) (l : List Rp) : Bool := !(l.any (outG g))
/-- Merged: ahead of the first that isn't of a lesser device, or in its place. -/
def mergeG : List Gf → Gf → List Gf
  | [], r => [r]
  | x :: l, r => if x.d < r.d then x :: mergeG l r else if x.d = r.d then (if newG r x = true then r :: l else x :: l) else r :: x :: l
/-- How many are of lesser devices, at the front. -/
def cutG : List Gf → Int → Nat
  | [], _ => 0
  | x :: l, d => if x.d < d then cutG l d + 1 else 0
theorem cutG_le : ∀ (l : List Gf) (d : Int), cutG l d ≤ l.length
  | [], _ => Nat.le_refl _
  | x :: l, d => by
    unfold cutG
    split
    · rw [List.length_cons]; have := cutG_le l d; omega
    · exact Nat.zero_le _
theorem cutG_lt : ∀ (l : List Gf) (d : Int) (j : Nat) (h : j < l.length), j < cutG l d → l[j].d < d
  | [], _, j, h, _ => absurd h (Nat.not_lt_zero j)
  | x :: l, d, j, h, hc => by
    unfold cutG at hc
    split at hc
    · rename_i hx
      cases j with
      | zero => exact hx
      | succ j => exact cutG_lt l d j (by rw [List.length_cons] at h; omega) (by omega)
    · omega
theorem cutG_at : ∀ (l : List Gf) (d : Int) (h : cutG l d < l.length), ¬ l[cutG l d].d < d
  | [], _, h => absurd h (Nat.not_lt_zero _)
  | x :: l, d, h => by
    by_cases hx : x.d < d
    · have e : cutG (x :: l) d = cutG l d + 1 := if_pos hx
      simp only [e, List.getElem_cons_succ]
      exact cutG_at l d (by rw [e, List.length_cons] at h; omega)
    · have e : cutG (x :: l) d = 0 := if_neg hx
      simp only [e, List.getElem_cons_zero]
      exact hx
theorem mergeG_new : ∀ (l : List Gf) (r : Gf), (∀ h : cutG l r.d < l.length, l[cutG l r.d].d ≠ r.d) → mergeG l r = l.take (cutG l r.d) ++ [r] ++ l.drop (cutG l r.d)
  | [], r, _ => rfl
  | x :: l, r, h => by
    unfold mergeG
    by_cases hx : x.d < r.d
    · have e : cutG (x :: l) r.d = cutG l r.d + 1 := if_pos hx
      rw [if_pos hx, e, mergeG_new l r (fun h2 => by
        have := h (by rw [e, List.length_cons]; omega)
        simp only [e, List.getElem_cons_succ] at this
        exact this)]
      rfl
    · have e : cutG (x :: l) r.d = 0 := if_neg hx
      have hne : x.d ≠ r.d := by
        have := h (by rw [e, List.length_cons]; omega)
        simp only [e, List.getElem_cons_zero] at this
        exact this
      rw [if_neg hx, if_neg hne, e]; rfl
theorem mergeG_old : ∀ (l : List Gf) (r : Gf) (h : cutG l r.d < l.length), l[cutG l r.d].d = r.d → mergeG l r = if newG r l[cutG l r.d] = true then l.set (cutG l r.d) r else l
  | [], _, h, _ => absurd h (Nat.not_lt_zero _)
  | x :: l, r, h, hd => by
    unfold mergeG
    by_cases hx : x.d < r.d
    · have e : cutG (x :: l) r.d = cutG l r.d + 1 := if_pos hx
      simp only [e, List.getElem_cons_succ] at hd ⊢
      rw [if_pos hx, mergeG_old l r (by rw [e, List.length_cons] at h; omega) hd, List.set_cons_succ]
      split <;> rfl
    · have e : cutG (x :: l) r.d = 0 := if_neg hx
      simp only [e, List.getElem_cons_zero] at hd ⊢
      rw [if_neg hx, if_pos hd, List.set_cons_zero]
theorem mergeG_len (l : List Gf) (r : Gf) : (mergeG l r).length ≤ l.length + 1 := by
  induction l with
  | nil => exact Nat.le_refl _
  | cons x l ih =>
    unfold mergeG
    split
    · rw [List.length_cons, List.length_cons]; omega
    · split
      · split
        · rw [List.length_cons, List.length_cons]; omega
        · rw [List.length_cons]; omega
      · rw [List.length_cons, List.length_cons]; omega

/-- Rising devices. -/
def RisG : List Gf → Prop
  | [] => True
  | x :: l => (∀ y ∈ l, x.d < y.d) ∧ RisG l
theorem mergeG_mem : ∀ (l : List Gf) (r y : Gf), y ∈ mergeG l r → y = r ∨ y ∈ l
  | [], r, y, h => by
    have h : y ∈ [r] := h
    rw [List.mem_singleton] at h; exact Or.inl h
  | x :: l, r, y, h => by
    unfold mergeG at h
    split at h
    · rcases List.mem_cons.1 h with h | h
      · exact Or.inr (List.mem_cons.2 (Or.inl h))
      · rcases mergeG_mem l r y h with h | h
        · exact Or.inl h
        · exact Or.inr (List.mem_cons.2 (Or.inr h))
    · split at h
      · split at h
        · rcases List.mem_cons.1 h with h | h
          · exact Or.inl h
          · exact Or.inr (List.mem_cons.2 (Or.inr h))
        · exact Or.inr h
      · rcases List.mem_cons.1 h with h | h
        · exact Or.inl h
        · exact Or.inr h
theorem mergeG_ris : ∀ (l : List Gf) (r : Gf), RisG l → RisG (mergeG l r)
  | [], _, _ => ⟨(fun y h => by cases h), trivial⟩
  | x :: l, r, h => by
    unfold mergeG
    split
    · rename_i hx
      refine ⟨fun y hy => ?_, mergeG_ris l r h.2⟩
      rcases mergeG_mem l r y hy with rfl | hy
      · exact hx
      · exact h.1 y hy
    · rename_i hx
      split
      · rename_i he
        split
        · exact ⟨fun y hy => by rw [← he]; exact h.1 y hy, h.2⟩
        · exact h
      · rename_i he
        refine ⟨fun y hy => ?_, h⟩
        rcases List.mem_cons.1 hy with rfl | hy
        · omega
        · have := h.1 y hy; omega

theorem cutG_next {l : List Gf} {d : Int} {k : Nat} (hk : k ≤ cutG l d) (h : k < l.length) (hd : l[k].d < d) : k + 1 ≤ cutG l d := by
  rcases Nat.lt_or_ge k (cutG l d) with h1 | h1
  · exact h1
  · obtain rfl : k = cutG l d := by omega
    exact absurd hd (cutG_at l d h)
theorem cutG_here {l : List Gf} {d : Int} {k : Nat} (hk : k ≤ cutG l d) (h : k = l.length ∨ ∃ h : k < l.length, d ≤ l[k].d) : k = cutG l d := by
  rcases Nat.lt_or_ge k (cutG l d) with h1 | h1
  · rcases h with h | ⟨h, h2⟩
    · have := cutG_le l d; omega
    · have := cutG_lt l d k h h1; omega
  · omega
def foldG (l : List Gf) : List Gf := l.foldl mergeG []
theorem foldG_snoc (l : List Gf) (r : Gf) : foldG (l ++ [r]) = mergeG (foldG l) r := by
  unfold foldG; rw [List.foldl_append]; rfl
theorem foldG_next (l : List Gf) (k : Nat) (h : k < l.length) : foldG (l.take (k + 1)) = mergeG (foldG (l.take k)) l[k] := by
  rw [List.take_succ_eq_append_getElem h, foldG_snoc]
theorem foldG_len (l : List Gf) : ∀ k, (foldG (l.take k)).length ≤ k
  | 0 => by rw [List.take_zero]; exact Nat.le_refl _
  | k + 1 => by
    by_cases h : k < l.length
    · rw [foldG_next l k h]
      have h1 := mergeG_len (foldG (l.take k)) l[k]
      have h2 := foldG_len l k
      omega
    · rw [List.take_of_length_le (by omega)]
      have h2 := foldG_len l k
      rw [List.take_of_length_le (by omega)] at h2
      omega
theorem foldG_ris (l : List Gf) : ∀ k, RisG (foldG (l.take k))
  | 0 => by rw [List.take_zero]; exact trivial
  | k + 1 => by
    by_cases h : k < l.length
    · rw [foldG_next l k h]; exact mergeG_ris _ _ (foldG_ris l k)
    · rw [List.take_of_length_le (by omega)]
      have h2 := foldG_ris l k
      rw [List.take_of_length_le (by omega)] at h2
      exact h2

/-- A count's bytes; what is read. -/
def in64G (n : Int) : Bool := decide (-9223372036854775808 ≤ n ∧ n ≤ 9223372036854775807)
theorem in64G_iff {n : Int} : in64G n = true ↔ i64 n := by unfold in64G i64; exact decide_eq_true_iff
def cnBytes (c : Cn) : ByteArray := bytesOf c.d ++ bytesOf c.i ++ bytesOf c.n
def cnRaw (c : Cn) : Bool := in64G c.d && (in64G c.i && in64G c.n)
theorem cnRaw_iff {c : Cn} : cnRaw c = true ↔ i64 c.d ∧ i64 c.i ∧ i64 c.n := by
  unfold cnRaw
  simp only [Bool.and_eq_true, in64G_iff]
def isCn (s : ByteArray) (p : Nat) (bad : Bool) : Option (Cn × Nat) :=
  (isNum s p bad).bind fun a => (isNum s a.2 false).bind fun b => (isNum s b.2 false).bind fun c => some (⟨a.1, b.1, c.1⟩, c.2)
theorem cn_there (A Z : ByteArray) (c : Cn) (h : cnRaw c = true) : isCn (A ++ (cnBytes c ++ Z)) A.size false = some (c, A.size + (cnBytes c).size) := by
  obtain ⟨g1, g2, g3⟩ := cnRaw_iff.1 h
  obtain ⟨d, i, n⟩ := c
  dsimp only at g1 g2 g3
  obtain ⟨X, hX⟩ : ∃ X, A ++ (cnBytes ⟨d, i, n⟩ ++ Z) = X := ⟨_, rfl⟩
  have h1 := num_atR X A (bytesOf i ++ (bytesOf n ++ Z)) d A.size (by rw [← hX]; unfold cnBytes; simp only [ByteArray.append_assoc]) rfl g1
  have h2 := num_atR X (A ++ bytesOf d) (bytesOf n ++ Z) i (A.size + (bytesOf d).size) (by rw [← hX]; unfold cnBytes; simp only [ByteArray.append_assoc]) (by rw [ByteArray.size_append]) g2
  have h3 := num_atR X (A ++ bytesOf d ++ bytesOf i) Z n (A.size + (bytesOf d).size + (bytesOf i).size) (by rw [← hX]; unfold cnBytes; simp only [ByteArray.append_assoc]) (by simp only [ByteArray.size_append]) g3
  rw [hX]
  unfold isCn
  rw [h1, Option.bind_some]
  dsimp only
  rw [h2, Option.bind_some]
  dsimp only
  rw [h3, Option.bind_some]
  dsimp only
  unfold cnBytes
  simp only [ByteArray.size_append, Nat.add_assoc]
theorem isCn_some {s : ByteArray} {p : Nat} {bad : Bool} {c : Cn} {q : Nat} (h : isCn s p bad = some (c, q)) : ∃ q1 q2, isNum s p bad = some (c.d, q1) ∧ isNum s q1 false = some (c.i, q2) ∧ isNum s q2 false = some (c.n, q) := by
  unfold isCn at h
  simp only [Option.bind_eq_some_iff] at h
  obtain ⟨a, ha, b, hb, c, hc, h⟩ := h
  injection h with h
  injection h with h1 h2
  subst h1 h2
  exact ⟨_, _, ha, hb, hc⟩
theorem cn_bytes {s : ByteArray} {p : Nat} {bad : Bool} {c : Cn} {q : Nat} (h : isCn s p bad = some (c, q)) : cnRaw c = true ∧ (L s).drop p = L (cnBytes c) ++ (L s).drop q := by
  obtain ⟨q1, q2, h1, h2, h3⟩ := isCn_some h
  refine ⟨cnRaw_iff.2 ⟨(isNum_some h1).2.2.2.2, (isNum_some h2).2.2.2.2, (isNum_some h3).2.2.2.2⟩, ?_⟩
  rw [num_bytesR h1, num_bytesR h2, num_bytesR h3]
  unfold cnBytes
  simp only [L_app, List.append_assoc]
def cnK : Kd Cn where
  ok := cnRaw
  b := cnBytes
  is := isCn
  there := cn_there
  back h := cn_bytes h
/-- May a count be, whatever stands ahead of it? -/
def cnB (c : Cn) : Bool := decide (0 ≤ c.d ∧ c.d < 12 ∧ 1 ≤ c.i ∧ 0 ≤ c.n)
/-- The first k may be. -/
def goodC (l : List Cn) (k : Nat) : Prop := ∀ j (h : j < l.length), j < k → cnB l[j] = true ∧ (0 < j → (l.getD (j - 1) zeroCn).d < l[j].d)
def cnsB (l : List Cn) : Bool := decide (∀ j : Fin l.length, cnB l[j] = true ∧ (0 < j.val → (l.getD (j.val - 1) zeroCn).d < l[j].d))
theorem cnsB_iff {l : List Cn} : cnsB l = true ↔ goodC l l.length := by
  unfold cnsB goodC
  rw [decide_eq_true_iff]
  exact ⟨fun h j hj _ => h ⟨j, hj⟩, fun h j => h j.1 j.2 j.2⟩
theorem goodC_next {l : List Cn} {k : Nat} (h : goodC l k) (hk : k < l.length) (h1 : cnB l[k] = true) (h2 : 0 < k → (l.getD (k - 1) zeroCn).d < l[k].d) : goodC l (k + 1) := fun j hj hjk => by
  by_cases e : j < k
  · exact h j hj e
  · obtain rfl : j = k := by omega
    exact ⟨h1, h2⟩
def isCns (s : ByteArray) (p : Nat) (bad : Bool) : Option (List Cn × Nat) := (cnK.isPart 12 s p bad).bind fun a => if cnsB a.1 = true then some a else none
theorem cns_there (A Z : ByteArray) {l : List Cn} (h : cnsB l = true) (hr : ∀ c ∈ l, cnRaw c = true) (hl : l.length ≤ 12) : isCns (A ++ (cnK.part l ++ Z)) A.size false = some (l, A.size + (cnK.part l).size) := by
  have h1 := cnK.part_there 12 (by decide) l A Z (by omega) hr
  unfold isCns
  rw [h1, Option.bind_some, if_pos h]

/-- A snapshot: a place, a clock, a past, counts. -/
structure Sn where
  pos : Int
  clock : Int
  p : Pv
  l : List Cn
def snBytes (x : Sn) : ByteArray := bytesOf x.pos ++ bytesOf x.clock ++ pastBytes x.p ++ cnK.part x.l
/-- The past that stands there. -/
def pastOf (base : List Pl) (t : Int) (o : List Mv) : Pv := ⟨base, t, o, (foldL base (mvs o)).2, (foldL base (mvs o)).1⟩
/-- Operations by rising moments, with counters above t. -/
def opsB (l : List Mv) (t : Int) : Bool := decide (∀ j : Fin l.length, t < l[j].C ∧ (0 < j.val → befB (l.getD (j.val - 1) zeroMv).C (l.getD (j.val - 1) zeroMv).D l[j].C l[j].D = true))
def isPast (s : ByteArray) (p : Nat) (bad : Bool) : Option (Pv × Nat) :=
  (isTree s p bad).bind fun a => (isCount s a.2 false 1099511627776).bind fun t => (opK.isPart 4096 s t.2 false).bind fun o => if opsB o.1 t.1 = true then some (pastOf a.1 t.1 o.1, o.2) else none
def isSnap (s : ByteArray) : Option Sn :=
  (isNum s 0 false).bind fun a => (isNum s a.2 false).bind fun b => (isPast s b.2 false).bind fun c => (isCns s c.2 false).bind fun d =>
    if d.2 = s.size ∧ (0 ≤ a.1 ∧ a.1 ≤ 1099511627776) ∧ 0 ≤ b.1 ∧ b.1 ≤ 1099511627776 then some ⟨a.1, b.1, c.1, d.1⟩ else none

theorem catM_cat : ∀ l : List Mv, catM l = opK.cat l
  | [] => rfl
  | m :: l => by
    have e : m :: l = [m] ++ l := rfl
    have h0 : catM [m] = m.bytes := by
      have h := catM_snoc [] m
      rw [List.nil_append] at h
      rw [h]
      apply L_inj; rw [L_app]
      show L (ByteArray.mk #[]) ++ _ = _
      simp [L]
    rw [e, catM_app l [m], h0, catM_cat l]
    rfl
theorem opsB_of {q : Pv} (h : PInv q) : opsB q.ops q.t = true := by
  unfold opsB
  rw [decide_eq_true_iff]
  intro j
  refine ⟨h.gt _ (List.getElem_mem _), fun h0 => ?_⟩
  have hr := h.ris
  unfold Ris at hr
  have := List.pairwise_iff_getElem.1 hr (j.1 - 1) j.1 (by omega) j.2 (by omega)
  rw [List.getD_eq_getElem?_getD, List.getElem?_eq_getElem (show j.1 - 1 < q.ops.length by omega), bef_iff]
  exact decide_eq_true this
theorem part_thereP {α : Type} (K : Kd α) (most : Int) (l : List α) (A Z : ByteArray) (hl : (l.length : Int) ≤ most) (hl2 : l.length ≤ 100000) (h : ∀ x ∈ l, K.ok x = true) : K.isPart most (A ++ (K.part l ++ Z)) A.size false = some (l, A.size + (K.part l).size) := by
  have h1 := num_atR (A ++ (K.part l ++ Z)) A (K.cat l ++ Z) l.length A.size (by unfold Kd.part; simp only [ByteArray.append_assoc]) rfl (by unfold i64; omega)
  have h2 : isCount (A ++ (K.part l ++ Z)) A.size false most = some ((l.length : Int), A.size + (bytesOf l.length).size) := by
    unfold isCount; rw [h1]; dsimp only; rw [if_pos (by omega)]
  unfold Kd.isPart
  rw [h2, Option.bind_some]
  have h3 := K.l_there l (A ++ bytesOf l.length) Z h
  rw [ByteArray.append_assoc, ByteArray.size_append] at h3
  rw [show A ++ (K.part l ++ Z) = A ++ (bytesOf l.length ++ (K.cat l ++ Z)) by unfold Kd.part; simp only [ByteArray.append_assoc]]
  dsimp only
  rw [show ((l.length : Int)).toNat = l.length from rfl, h3]
  unfold Kd.part
  rw [ByteArray.size_append, Nat.add_assoc]
theorem past_is (A Z : ByteArray) {q : Pv} (h : PInv q) (hl : q.ops.length ≤ 1000) : isPast (A ++ (pastBytes q ++ Z)) A.size false = some (q, A.size + (pastBytes q).size) := by
  have hbl := tree_len h.tree
  have hb : pastBytes q = treeBytes q.base ++ (bytesOf q.t ++ opK.part q.ops) := by unfold pastBytes headV Kd.part; rw [catM_cat]; simp only [ByteArray.append_assoc]
  have h1 := tree_there A ((bytesOf q.t ++ opK.part q.ops) ++ Z) q.base h.tree (by omega)
  have e1 : A ++ (pastBytes q ++ Z) = A ++ (treeBytes q.base ++ ((bytesOf q.t ++ opK.part q.ops) ++ Z)) := by rw [hb]; simp only [ByteArray.append_assoc]
  have h2 := count_there (A ++ treeBytes q.base) (opK.part q.ops ++ Z) q.t 1099511627776 h.t0 h.t1 (by have := h.t1; omega)
  have e2 : A ++ (pastBytes q ++ Z) = (A ++ treeBytes q.base) ++ (bytesOf q.t ++ (opK.part q.ops ++ Z)) := by rw [hb]; simp only [ByteArray.append_assoc]
  have h3 := part_thereP opK 4096 q.ops (A ++ treeBytes q.base ++ bytesOf q.t) Z (by omega) (by omega) (fun x hx => h.ok x hx)
  have e3 : A ++ (pastBytes q ++ Z) = (A ++ treeBytes q.base ++ bytesOf q.t) ++ (opK.part q.ops ++ Z) := by rw [hb]; simp only [ByteArray.append_assoc]
  rw [← e1] at h1
  rw [← e2] at h2
  rw [← e3] at h3
  unfold isPast
  rw [h1, Option.bind_some]
  dsimp only
  rw [ByteArray.size_append] at h2
  rw [h2, Option.bind_some]
  dsimp only
  simp only [ByteArray.size_append] at h3
  rw [h3, Option.bind_some]
  dsimp only
  rw [if_pos (opsB_of h)]
  have e : pastOf q.base q.t q.ops = q := by
    unfold pastOf
    rw [← h.un, ← h.nw]
  rw [e, hb]
  simp only [ByteArray.size_append, Nat.add_assoc]
theorem snap_at (x : Sn) (Z : ByteArray) (h : PInv x.p) (hl : x.p.ops.length ≤ 1000) (h1 : i64 x.pos) (h2 : i64 x.clock) (hc : cnsB x.l = true) (hr : ∀ c ∈ x.l, cnRaw c = true) (hcl : x.l.length ≤ 12) : isSnap (snBytes x ++ Z) = if (snBytes x).size = (snBytes x ++ Z).size ∧ (0 ≤ x.pos ∧ x.pos ≤ 1099511627776) ∧ 0 ≤ x.clock ∧ x.clock ≤ 1099511627776 then some x else none := by
  obtain ⟨pos, clock, q, l⟩ := x
  dsimp only at h hl h1 h2 hc hr hcl
  obtain ⟨X, hX⟩ : ∃ X, snBytes ⟨pos, clock, q, l⟩ ++ Z = X := ⟨_, rfl⟩
  have n1 := num_atR X ⟨#[]⟩ (bytesOf clock ++ (pastBytes q ++ (cnK.part l ++ Z))) pos 0 (by rw [← hX, empty_b]; unfold snBytes; simp only [ByteArray.append_assoc]) rfl h1
  have n2 := num_atR X (bytesOf pos) (pastBytes q ++ (cnK.part l ++ Z)) clock (bytesOf pos).size (by rw [← hX]; unfold snBytes; simp only [ByteArray.append_assoc]) rfl h2
  have n3 := past_is (bytesOf pos ++ bytesOf clock) (cnK.part l ++ Z) h hl
  have n4 := cns_there (bytesOf pos ++ bytesOf clock ++ pastBytes q) Z hc hr hcl
  have e3 : (bytesOf pos ++ bytesOf clock) ++ (pastBytes q ++ (cnK.part l ++ Z)) = X := by rw [← hX]; unfold snBytes; simp only [ByteArray.append_assoc]
  have e4 : (bytesOf pos ++ bytesOf clock ++ pastBytes q) ++ (cnK.part l ++ Z) = X := by rw [← hX]; unfold snBytes; simp only [ByteArray.append_assoc]
  rw [e3] at n3
  rw [e4] at n4
  have hsz : (snBytes ⟨pos, clock, q, l⟩).size = (bytesOf pos).size + (bytesOf clock).size + (pastBytes q).size + (cnK.part l).size := by unfold snBytes; simp only [ByteArray.size_append]
  simp only [ByteArray.size_append] at n3 n4
  rw [hX]
  unfold isSnap
  rw [Nat.zero_add] at n1
  rw [n1, Option.bind_some]
  dsimp only
  rw [n2, Option.bind_some]
  dsimp only
  rw [n3, Option.bind_some]
  dsimp only
  rw [n4, Option.bind_some]
  dsimp only
  rw [hsz]
/-- The past that stands behind the two numbers. -/
def isSnapP (s : ByteArray) : Option (Pv × Nat) := (isNum s 0 false).bind fun a => (isNum s a.2 false).bind fun b => isPast s b.2 false
theorem snap_past (x : Sn) (Z : ByteArray) (h : PInv x.p) (hl : x.p.ops.length ≤ 1000) (h1 : i64 x.pos) (h2 : i64 x.clock) : ∃ q, isSnapP (snBytes x ++ Z) = some (x.p, q) := by
  obtain ⟨pos, clock, q, l⟩ := x
  dsimp only at h hl h1 h2
  obtain ⟨X, hX⟩ : ∃ X, snBytes ⟨pos, clock, q, l⟩ ++ Z = X := ⟨_, rfl⟩
  have n1 := num_atR X ⟨#[]⟩ (bytesOf clock ++ (pastBytes q ++ (cnK.part l ++ Z))) pos 0 (by rw [← hX, empty_b]; unfold snBytes; simp only [ByteArray.append_assoc]) rfl h1
  have n2 := num_atR X (bytesOf pos) (pastBytes q ++ (cnK.part l ++ Z)) clock (bytesOf pos).size (by rw [← hX]; unfold snBytes; simp only [ByteArray.append_assoc]) rfl h2
  have n3 := past_is (bytesOf pos ++ bytesOf clock) (cnK.part l ++ Z) h hl
  have e3 : (bytesOf pos ++ bytesOf clock) ++ (pastBytes q ++ (cnK.part l ++ Z)) = X := by rw [← hX]; unfold snBytes; simp only [ByteArray.append_assoc]
  rw [e3] at n3
  simp only [ByteArray.size_append] at n3
  rw [hX]
  unfold isSnapP
  rw [Nat.zero_add] at n1
  rw [n1, Option.bind_some]
  dsimp only
  rw [n2, Option.bind_some]
  dsimp only
  exact ⟨_, n3⟩
theorem snap_few (x : Sn) (Z : ByteArray) (h : PInv x.p) (hl : x.p.ops.length ≤ 800) (h1 : i64 x.pos) (h2 : i64 x.clock) : ∀ V q, isSnapP (snBytes x ++ Z) = some (V, q) → V.ops.length ≤ 800 := fun V q hv => by
  obtain ⟨q2, h3⟩ := snap_past x Z h (by omega) h1 h2
  rw [h3] at hv
  injection hv with hv
  injection hv with e1 _
  rw [← e1]; exact hl
theorem snap_is (x : Sn) (h : PInv x.p) (hl : x.p.ops.length ≤ 1000) (h1 : 0 ≤ x.pos ∧ x.pos ≤ 1099511627776) (h2 : 0 ≤ x.clock ∧ x.clock ≤ 1099511627776) (hc : cnsB x.l = true) (hr : ∀ c ∈ x.l, cnRaw c = true) (hcl : x.l.length ≤ 12) : isSnap (snBytes x) = some x := by
  have e := snap_at x ⟨#[]⟩ h hl (by unfold i64; omega) (by unfold i64; omega) hc hr hcl
  have e2 : snBytes x ++ ⟨#[]⟩ = snBytes x := L_inj (by rw [L_app]; simp [L])
  rw [e2, if_pos ⟨rfl, h1, h2⟩] at e
  exact e
theorem snap_more (x : Sn) (Z : ByteArray) (hZ : 0 < Z.size) (h : PInv x.p) (hl : x.p.ops.length ≤ 1000) (h1 : i64 x.pos) (h2 : i64 x.clock) (hc : cnsB x.l = true) (hr : ∀ c ∈ x.l, cnRaw c = true) (hcl : x.l.length ≤ 12) : isSnap (snBytes x ++ Z) = none := by
  rw [snap_at x Z h hl h1 h2 hc hr hcl, if_neg]
  rintro ⟨e, _⟩
  rw [ByteArray.size_append] at e
  omega

/-- How many chunks of a size n bytes have. -/
def chunksV (n : Nat) (z : Int) : Int := if z < 1 then 0 else max 1 (((n : Int) + z - 1) / z)
def cutV (s : ByteArray) (z i : Int) (r : Rp) : Gf × Bool := if 0 ≤ i ∧ i < chunksV s.size z then (⟨r.d, r.i, i, chunksV s.size z, s.extract (i.toNat * z.toNat) (min s.size ((i.toNat + 1) * z.toNat))⟩, true) else (zeroGf, false)
end Go.Proofs.Ytfpgfclmmdihjaa
