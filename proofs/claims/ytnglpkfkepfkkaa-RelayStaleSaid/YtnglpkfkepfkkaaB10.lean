/- Texts laid one behind the other: Aw. -/
import Derived.Test.YtnglpkfkepfkkaaB09
/- Of law 19: awake. Written by XAw.gen.py. -/
namespace Go.Proofs.Ytnglpkfkepfkkaa
open Go.RowKit Nam Cod Pln

theorem three_of19 {α : Type} : ∀ {l : List α}, l.length = 3 → ∃ a b c, l = [a, b, c]
  | [a, b, c], _ => ⟨a, b, c, rfl⟩
  | [], h => by cases h
  | [_], h => by cases h
  | [_, _], h => by cases h
  | _ :: _ :: _ :: _ :: t, h => by simp at h
def PlS19 (n1 m : Nat) (w : World) : Prop := pnE.In w n1 (pl19 m)
def SlA19 (n1 n2 m : Nat) (z : Rlw) (w : World) : Prop := pnE.In w n1 (pl19 m) ∧ ryE.In w n2 z
def MergeA19 (F : Rlw → Rlw → Nat → Nat → Nat → Act) (R : Rlw → Rlw → Nat → Nat → Nat → World → Prop) : Exit → Act → World → Prop
  | .normal, a, w => ∃ x y n k l, a = F x y n k l ∧ R x y n k l w
  | _, _, _ => False
theorem wp_mergeA19 {P : Program} {c : Code} {Q : Exit → Act → World → Prop} {a : Act} {w : World} (R : Rlw → Rlw → Nat → Nat → Nat → World → Prop) {F : Rlw → Rlw → Nat → Nat → Nat → Act} (h : c.wp P (MergeA19 F R) a w) (k : ∀ x y n i j w, R x y n i j w → Q .normal (F x y n i j) w) : c.wp P Q a w :=
  Code.wp_mono (fun e a w h => by
    cases e with
    | normal => obtain ⟨x, y, n, i, j, rfl, hr⟩ := h; exact k x y n i j w hr
    | _ => exact h.elim) h
def MergeB19 (F : Rlw → Nat → Nat → Act) (R : Rlw → Nat → Nat → World → Prop) : Exit → Act → World → Prop
  | .normal, a, w => ∃ x n k, a = F x n k ∧ R x n k w
  | _, _, _ => False
theorem wp_mergeB19 {P : Program} {c : Code} {Q : Exit → Act → World → Prop} {a : Act} {w : World} (R : Rlw → Nat → Nat → World → Prop) {F : Rlw → Nat → Nat → Act} (h : c.wp P (MergeB19 F R) a w) (k : ∀ x n i w, R x n i w → Q .normal (F x n i) w) : c.wp P Q a w :=
  Code.wp_mono (fun e a w h => by
    cases e with
    | normal => obtain ⟨x, n, i, rfl, hr⟩ := h; exact k x n i w hr
    | _ => exact h.elim) h
theorem step_alloc_ry {ops : Array Oper} {o : Oper} {a : Act} {w : World} {K : Act → World → Prop} {Q : Exit → Act → World → Prop} {E : Prop} (hgd : o.guard = none) (ho : o.op = .alloc 48)
    (h : K (a.put o.dst (.pointer (some ⟨w.heap.size, 0, none⟩))) (w.alloc (.cells #[.int .i64 0, .int .i64 0, .int .i64 0, .int .i64 0, .int .i64 0, .int .i64 0, .slice none 0 0, .int .i64 0, .int .i64 0, .slice none 0 0, .slice none 0 0, .slice none 0 0, .slice none 0 0, .slice none 0 0, .slice none 0 0, .int .i64 0, .slice none 0 0, .slice none 0 0, .slice none 0 0, .slice none 0 0, .int .i64 0, .int .i64 0, .int .i64 0, .int .i64 0, .slice none 0 0, .int .i64 0] 48))) : if Region.wanted o (yielded ops a.tmps) = true then Oper.wp Try.prog o a w K Q else E := by
  have hw : Region.wanted o (yielded ops a.tmps) = true := by simp [Region.wanted, hgd]
  rw [if_pos hw]
  have hR := st_zero19
  cases hq : Try.prog.info? 48 with
  | none => simp [hq] at hR
  | some inf =>
    have hinf : inf.zero = some (.agg #[.int .i64 0, .int .i64 0, .int .i64 0, .int .i64 0, .int .i64 0, .int .i64 0, .slice none 0 0, .int .i64 0, .int .i64 0, .slice none 0 0, .slice none 0 0, .slice none 0 0, .slice none 0 0, .slice none 0 0, .slice none 0 0, .int .i64 0, .slice none 0 0, .slice none 0 0, .slice none 0 0, .slice none 0 0, .int .i64 0, .int .i64 0, .int .i64 0, .int .i64 0, .slice none 0 0, .int .i64 0]) := by simpa [hq] using hR
    have hv : (Instr.alloc 48 true (.tuple #[])).run Try.prog w = .ok (.pointer (some ⟨w.heap.size, 0, none⟩)) (w.alloc (.cells #[.int .i64 0, .int .i64 0, .int .i64 0, .int .i64 0, .int .i64 0, .int .i64 0, .slice none 0 0, .int .i64 0, .int .i64 0, .slice none 0 0, .slice none 0 0, .slice none 0 0, .slice none 0 0, .slice none 0 0, .slice none 0 0, .int .i64 0, .slice none 0 0, .slice none 0 0, .slice none 0 0, .slice none 0 0, .int .i64 0, .int .i64 0, .int .i64 0, .int .i64 0, .slice none 0 0, .int .i64 0] 48)) := by
      simp [Instr.alloc, zeroValue, typeInfo, hq, hinf, newVar, newRow, newObj, Value.cells]
      rfl
    unfold Oper.wp execOp
    simp only [ho, hv, Sem.run_bind, Sem.run_pure, Result.andThen_ok]
    exact h
set_option maxRecDepth 100000 in
set_option maxHeartbeats 40000000 in
theorem awake19_any (H : RelayCalls) (w : World) : Calls Try.prog 6 #[] w fun e w' => e = .returned (.bool true) ∧ Below w.heap.size w w' := by
  go_enter Try.func6, Try.ntmps6
  go_wp2_with fail
  refine (some19_any w).mono ?_
  rintro e w1 ⟨m, rfl, hT, hB⟩
  have hP : pnE.In (w1.alloc (.cells #[.slice (some ⟨m, 0, none⟩) 4 4, .int .i64 2, .int .i64 2, .int .i64 2, .int .i64 20, .int .i64 2, .int .i64 32, .int .i64 4, .int .i64 16] 33)) w1.heap.size (pl19 m) := El.In.new (E := pnE) w1 (pl19 m) _ rfl
  have hal := below_alloc (Below.refl w1.heap.size w1) (.cells #[.slice (some ⟨m, 0, none⟩) 4 4, .int .i64 2, .int .i64 2, .int .i64 2, .int .i64 20, .int .i64 2, .int .i64 32, .int .i64 4, .int .i64 16] 33)
  replace hT := hT.below hal
  replace hB := below_then hB hal
  clear hal
  go_upto_region 2 with fail
  generalize w1.alloc (.cells #[.slice (some ⟨m, 0, none⟩) 4 4, .int .i64 2, .int .i64 2, .int .i64 2, .int .i64 20, .int .i64 2, .int .i64 32, .int .i64 4, .int .i64 16] 33) = W at *
  generalize w1.heap.size = n1 at *
  apply wp_mergeA19 (fun x z kk n6 n9 w' => z.v = X1_19 ∧ (w.heap.size ≤ kk ∧ n1 < kk ∧ m < kk) ∧ ryE.In w' kk z ∧ z.ok w' ∧ pnE.In w' n1 (pl19 m) ∧ inE.Sl w' (some ⟨m, 0, none⟩) [-1, 0, 1, 1] ∧ Below w.heap.size w w')
  · refine region_anyG (S := PlS19 n1 m) 16 (by kernel_rfl) ?_
    have hd : Below W.heap.size W W.drew := (Below.refl _ _).drew
    replace hP : pnE.In W.drew n1 (pl19 m) := hP
    replace hT := hT.below hd
    replace hB := hB.drew
    clear hd
    generalize W.drew = V0 at *
    have hS : PlS19 n1 m V0 := hP
    have CT1 := Lib.hid (fun (x : Rlw) (n6 n9 : Nat) (V : World) (hT : inE.Sl V (some ⟨m, 0, none⟩) [-1, 0, 1, 1]) (hx : x.ok V) (h6 : SlV opE V (some ⟨n6, 0, none⟩) 3 [o19 1 2, o19 2 2, o19 3 2]) (h9 : SlV rpE V (some ⟨n9, 0, none⟩) 2 [r19 2, r19 3]) (hv : x.v = newR19 P19.u 1) => (takeAt19 H m x ⟨some ⟨n6, 0, none⟩, 3, some ⟨n9, 0, none⟩, 2, none, 0, none, 0, f1_19⟩ V 0 (by omega) hT hx ⟨h6, h9, SlV.nil _ _, SlV.nil _ _⟩ hv new19_r ft1_19 (show f1_19.s ≤ 1073741824 by decide) take1_19 : Calls Try.prog 9 #[.agg #[.slice (some ⟨m, 0, none⟩) 4 4, .int .i64 2, .int .i64 2, .int .i64 2, .int .i64 20, .int .i64 2, .int .i64 32, .int .i64 4, .int .i64 16], .agg #[.int .i64 x.node, .int .i64 x.boot, .int .i64 x.above, .int .i64 x.st.s, .int .i64 x.st.t, .int .i64 x.st.p, .slice x.eA x.st.es.length x.ec, .int .i64 x.q.f, .int .i64 x.q.g, .slice x.qA x.q.os.length x.qc, .slice x.kA x.ks.length x.kc, .slice x.rA x.rs.length x.rc, .slice x.gA x.gs.length x.gc, .slice none 0 0, .slice none 0 0, .int .i64 0, .slice none 0 0, .slice none 0 0, .slice none 0 0, .slice none 0 0, .int .i64 0, .int .i64 0, .int .i64 0, .int .i64 0, .slice none 0 0, .int .i64 0], .agg #[.int .i64 2, .int .i64 1, .int .i64 1, .int .i64 1, .slice (some ⟨n6, 0, none⟩) 3 3, .int .i64 0, .slice (some ⟨n9, 0, none⟩) 2 2, .int .i64 0, .slice none 0 0, .int .i64 0, .int .i64 0, .int .i64 0, .int .i64 0, .slice none 0 0]] V fun e w' => ∃ z : Rlw, e = .returned (.tuple #[.agg (ryE.c z).toArray, .int .i64 0]) ∧ z.ok w' ∧ z.v = X1_19 ∧ Below V.heap.size V w'))
    refine anyG_take (i := 0) (v := .agg #[.slice (some ⟨m, 0, none⟩) 4 4, .int .i64 2, .int .i64 2, .int .i64 2, .int .i64 20, .int .i64 2, .int .i64 32, .int .i64 4, .int .i64 16]) rfl (by kernel_rfl) (by kernel_rfl) (by kernel_rfl) (by kernel_rfl) (by kernel_rfl) (fun _ _ _ h => h) (Or.inl ⟨by rfl, fun w' hSw => El.exec_loadK pnRow (.tmp 1) rfl rfl hSw.at _ rfl⟩) hS ?_
    try simp only [Act.put, List.setIfInBounds_toArray, List.set_cons_zero, List.set_cons_succ]
    refine anyG_take (i := 1) (v := .agg #[.slice (some ⟨m, 0, none⟩) 4 4, .int .i64 2, .int .i64 2, .int .i64 2, .int .i64 20, .int .i64 2, .int .i64 32, .int .i64 4, .int .i64 16]) rfl (by kernel_rfl) (by kernel_rfl) (by kernel_rfl) (by kernel_rfl) (by kernel_rfl) (fun _ _ _ h => h) (Or.inl ⟨by rfl, fun w' hSw => El.exec_loadK pnRow (.tmp 1) rfl rfl hSw.at _ rfl⟩) hS ?_
    try simp only [Act.put, List.setIfInBounds_toArray, List.set_cons_zero, List.set_cons_succ]
    refine anyG_plain (i := 7) (v := .agg #[.int .i64 2, .int .i64 1, .int .i64 0, .int .i64 0, .int .i64 1, .int .i64 0, .int .i64 0, .int .i64 0, .int .i64 0]) rfl (by kernel_rfl) (by kernel_rfl) (by kernel_rfl) (by kernel_rfl) (fun _ _ _ h => h) (Or.inl ⟨by rfl, fun w' => by (go_simp; try rfl)⟩) (fun _ => hS) ?_
    try simp only [Act.put, List.setIfInBounds_toArray, List.set_cons_zero, List.set_cons_succ]
    refine anyG_plain (i := 8) (v := .agg #[.int .i64 3, .int .i64 1, .int .i64 0, .int .i64 0, .int .i64 1, .int .i64 0, .int .i64 0, .int .i64 0, .int .i64 0]) rfl (by kernel_rfl) (by kernel_rfl) (by kernel_rfl) (by kernel_rfl) (fun _ _ _ h => h) (Or.inl ⟨by rfl, fun w' => by (go_simp; try rfl)⟩) (fun _ => hS) ?_
    try simp only [Act.put, List.setIfInBounds_toArray, List.set_cons_zero, List.set_cons_succ]
    generalize V0 = V at *
    repeat' (first
      | (skip
         replace hz1 := hz1
         replace hZ := hZ
         refine anyG_step (rs := [16]) (by kernel_rfl) (by simp) ?_
         refine AllG.last (n := 16) rfl (fun K hK => ?_)
         refine El.step_store ryRow rfl _ _ rfl nA z1 (ryE.c z1).toArray rfl rfl rfl Rlw.zero hZ ?_
         refine hK.out _ _ ?_
         try simp only [Act.put, List.setIfInBounds_toArray, List.set_cons_zero, List.set_cons_succ]
         clear hK hS
         refine anyG_plain_after (i := 17) (v := .int .i64 0) rfl (by kernel_rfl) (by kernel_rfl) (by kernel_rfl) (by kernel_rfl) (fun _ _ _ h => h) (Or.inl ⟨by rfl, fun w' => by (go_simp; try rfl)⟩) (by kernel_rfl) ?_
         try simp only [Act.put, List.setIfInBounds_toArray, List.set_cons_zero, List.set_cons_succ]
         refine anyG_done (by kernel_rfl) ?_ _
         have hgr := by_row V nA (ryE.c z1).toArray
         exact ⟨x0, z1, nA, n6, n9, rfl, hvz1, ⟨hnW, hn1A, hmA⟩, hZ.set z1 (ryE.c z1).toArray rfl, hz1.keepB hZ hgr, hP.keep hgr (fun e => by have := Option.some.inj e; omega), inSl_keep19 hT (by omega) hgr, below_setRow hB hnW _⟩)
      | (skip
         replace hz1 := hz1
         refine anyG_step (rs := [15]) (by kernel_rfl) (by simp) ?_
         refine AllG.cons rfl (fun K hK => ?_) AllG.nil
         have hZ : ryE.In (V.alloc (.cells #[.int .i64 0, .int .i64 0, .int .i64 0, .int .i64 0, .int .i64 0, .int .i64 0, .slice none 0 0, .int .i64 0, .int .i64 0, .slice none 0 0, .slice none 0 0, .slice none 0 0, .slice none 0 0, .slice none 0 0, .slice none 0 0, .int .i64 0, .slice none 0 0, .slice none 0 0, .slice none 0 0, .slice none 0 0, .int .i64 0, .int .i64 0, .int .i64 0, .int .i64 0, .slice none 0 0, .int .i64 0] 48)) V.heap.size Rlw.zero := El.In.new (E := ryE) V Rlw.zero _ rfl
         have hal := below_alloc (Below.refl V.heap.size V) (.cells #[.int .i64 0, .int .i64 0, .int .i64 0, .int .i64 0, .int .i64 0, .int .i64 0, .slice none 0 0, .int .i64 0, .int .i64 0, .slice none 0 0, .slice none 0 0, .slice none 0 0, .slice none 0 0, .slice none 0 0, .slice none 0 0, .int .i64 0, .slice none 0 0, .slice none 0 0, .slice none 0 0, .slice none 0 0, .int .i64 0, .int .i64 0, .int .i64 0, .int .i64 0, .slice none 0 0, .int .i64 0] 48)
         have hnW : w.heap.size ≤ V.heap.size := hB.size
         have hn1A : n1 < V.heap.size := hP.lt
         have hmA : m < V.heap.size := inSl_lt19 hT (by decide)
         replace hP := hP.below hal; replace hT := hT.below hal; replace hB := below_then hB hal; replace hx0 := hx0.below hal; replace h6 := SlV.below h6 hal; replace h9 := SlV.below h9 hal; replace hz1 := hz1.below hal
         clear hal
         refine step_alloc_ry rfl rfl ?_
         refine hK.out _ _ (hP : PlS19 n1 m (V.alloc (.cells #[.int .i64 0, .int .i64 0, .int .i64 0, .int .i64 0, .int .i64 0, .int .i64 0, .slice none 0 0, .int .i64 0, .int .i64 0, .slice none 0 0, .slice none 0 0, .slice none 0 0, .slice none 0 0, .slice none 0 0, .slice none 0 0, .int .i64 0, .slice none 0 0, .slice none 0 0, .slice none 0 0, .slice none 0 0, .int .i64 0, .int .i64 0, .int .i64 0, .int .i64 0, .slice none 0 0, .int .i64 0] 48))) ?_
         try simp only [Act.put, List.setIfInBounds_toArray, List.set_cons_zero, List.set_cons_succ]
         clear hK hS
         generalize V.heap.size = nA at *
         generalize V.alloc (.cells #[.int .i64 0, .int .i64 0, .int .i64 0, .int .i64 0, .int .i64 0, .int .i64 0, .slice none 0 0, .int .i64 0, .int .i64 0, .slice none 0 0, .slice none 0 0, .slice none 0 0, .slice none 0 0, .slice none 0 0, .slice none 0 0, .int .i64 0, .slice none 0 0, .slice none 0 0, .slice none 0 0, .slice none 0 0, .int .i64 0, .int .i64 0, .int .i64 0, .int .i64 0, .slice none 0 0, .int .i64 0] 48) = V at *
         have hS : PlS19 n1 m V := hP)
      | (skip
         replace h6 := h6
         replace h9 := h9
         replace hZ := hZ
         replace k10 := k10
         refine anyG_step (rs := [11]) (by kernel_rfl) (by simp) ?_
         refine AllG.cons rfl (fun K hK => ?_) AllG.nil
         go_simp
         refine (CT1.out x0 n6 n9 V hT hx0 h6 h9 hvx0).mono ?_
         rintro e V ⟨z1, rfl, hz1, hvz1, hb⟩
         replace hP := hP.below hb; replace hT := hT.below hb; replace hB := below_then hB hb; replace hx0 := hx0.below hb; replace h6 := SlV.below h6 hb; replace h9 := SlV.below h9 hb; replace hZ := hZ.below hb
         clear hb
         try go_wp2_with fail
         refine hK.out _ _ (hP : PlS19 n1 m V) ?_
         try simp only [Act.put, List.setIfInBounds_toArray, List.set_cons_zero, List.set_cons_succ]
         clear hK hS
         have hS : PlS19 n1 m V := hP
         refine anyG_plain (i := 12) (v := .tuple #[.agg (ryE.c z1).toArray, .int .i64 0]) rfl (by kernel_rfl) (by kernel_rfl) (by kernel_rfl) (by kernel_rfl) (fun _ _ _ h => h) (Or.inl ⟨by rfl, fun w' => by (go_simp; try rfl)⟩) (fun _ => hS) ?_
         try simp only [Act.put, List.setIfInBounds_toArray, List.set_cons_zero, List.set_cons_succ]
         refine anyG_plain (i := 13) (v := .agg (ryE.c z1).toArray) rfl (by kernel_rfl) (by kernel_rfl) (by kernel_rfl) (by kernel_rfl) (fun _ _ _ h => h) (Or.inl ⟨by rfl, fun w' => by (go_simp; try rfl)⟩) (fun _ => hS) ?_
         try simp only [Act.put, List.setIfInBounds_toArray, List.set_cons_zero, List.set_cons_succ]
         refine anyG_plain (i := 14) (v := .int .i64 0) rfl (by kernel_rfl) (by kernel_rfl) (by kernel_rfl) (by kernel_rfl) (fun _ _ _ h => h) (Or.inl ⟨by rfl, fun w' => by (go_simp; try rfl)⟩) (fun _ => hS) ?_
         try simp only [Act.put, List.setIfInBounds_toArray, List.set_cons_zero, List.set_cons_succ]
         skip)
      | (skip
         replace h6 := h6
         replace h9 := h9
         replace hZ := hZ
         refine anyG_plain (i := 10) (v := .agg #[.int .i64 2, .int .i64 1, .int .i64 1, .int .i64 1, .slice (some ⟨n6, 0, none⟩) 3 3, .int .i64 0, .slice (some ⟨n9, 0, none⟩) 2 2, .int .i64 0, .slice none 0 0, .int .i64 0, .int .i64 0, .int .i64 0, .int .i64 0, .slice none 0 0]) rfl (by kernel_rfl) (by kernel_rfl) (by kernel_rfl) (by kernel_rfl) (fun _ _ _ h => h) (Or.inl ⟨by rfl, fun w' => by go_simp⟩) (fun _ => hS) ?_
         try simp only [Act.put, List.setIfInBounds_toArray, List.set_cons_zero, List.set_cons_succ]
         have k10 := trivial
         refine anyG_step (rs := [11]) (by kernel_rfl) (by simp) ?_
         refine AllG.cons rfl (fun K hK => ?_) AllG.nil
         go_simp
         refine (CT1.out x0 n6 n9 V hT hx0 h6 h9 hvx0).mono ?_
         rintro e V ⟨z1, rfl, hz1, hvz1, hb⟩
         replace hP := hP.below hb; replace hT := hT.below hb; replace hB := below_then hB hb; replace hx0 := hx0.below hb; replace h6 := SlV.below h6 hb; replace h9 := SlV.below h9 hb; replace hZ := hZ.below hb
         clear hb
         try go_wp2_with fail
         refine hK.out _ _ (hP : PlS19 n1 m V) ?_
         try simp only [Act.put, List.setIfInBounds_toArray, List.set_cons_zero, List.set_cons_succ]
         clear hK hS
         have hS : PlS19 n1 m V := hP
         refine anyG_plain (i := 12) (v := .tuple #[.agg (ryE.c z1).toArray, .int .i64 0]) rfl (by kernel_rfl) (by kernel_rfl) (by kernel_rfl) (by kernel_rfl) (fun _ _ _ h => h) (Or.inl ⟨by rfl, fun w' => by (go_simp; try rfl)⟩) (fun _ => hS) ?_
         try simp only [Act.put, List.setIfInBounds_toArray, List.set_cons_zero, List.set_cons_succ]
         refine anyG_plain (i := 13) (v := .agg (ryE.c z1).toArray) rfl (by kernel_rfl) (by kernel_rfl) (by kernel_rfl) (by kernel_rfl) (fun _ _ _ h => h) (Or.inl ⟨by rfl, fun w' => by (go_simp; try rfl)⟩) (fun _ => hS) ?_
         try simp only [Act.put, List.setIfInBounds_toArray, List.set_cons_zero, List.set_cons_succ]
         refine anyG_plain (i := 14) (v := .int .i64 0) rfl (by kernel_rfl) (by kernel_rfl) (by kernel_rfl) (by kernel_rfl) (fun _ _ _ h => h) (Or.inl ⟨by rfl, fun w' => by (go_simp; try rfl)⟩) (fun _ => hS) ?_
         try simp only [Act.put, List.setIfInBounds_toArray, List.set_cons_zero, List.set_cons_succ]
         skip)
      | (skip
         replace h6 := h6
         replace h9 := h9
         refine anyG_plain (i := 10) (v := .agg #[.int .i64 2, .int .i64 1, .int .i64 1, .int .i64 1, .slice (some ⟨n6, 0, none⟩) 3 3, .int .i64 0, .slice (some ⟨n9, 0, none⟩) 2 2, .int .i64 0, .slice none 0 0, .int .i64 0, .int .i64 0, .int .i64 0, .int .i64 0, .slice none 0 0]) rfl (by kernel_rfl) (by kernel_rfl) (by kernel_rfl) (by kernel_rfl) (fun _ _ _ h => h) (Or.inl ⟨by rfl, fun w' => by go_simp⟩) (fun _ => hS) ?_
         try simp only [Act.put, List.setIfInBounds_toArray, List.set_cons_zero, List.set_cons_succ]
         have k10 := trivial
         refine anyG_step (rs := [11, 15]) (by kernel_rfl) (by simp) ?_
         refine AllG.cons rfl (fun K hK => ?_) (AllG.cons rfl (fun K hK => ?_) AllG.nil)
         focus
           go_simp
           refine (CT1.out x0 n6 n9 V hT hx0 h6 h9 hvx0).mono ?_
           rintro e V ⟨z1, rfl, hz1, hvz1, hb⟩
           replace hP := hP.below hb; replace hT := hT.below hb; replace hB := below_then hB hb; replace hx0 := hx0.below hb; replace h6 := SlV.below h6 hb; replace h9 := SlV.below h9 hb
           clear hb
           try go_wp2_with fail
           refine hK.out _ _ (hP : PlS19 n1 m V) ?_
           try simp only [Act.put, List.setIfInBounds_toArray, List.set_cons_zero, List.set_cons_succ]
           clear hK hS
           have hS : PlS19 n1 m V := hP
           refine anyG_plain (i := 12) (v := .tuple #[.agg (ryE.c z1).toArray, .int .i64 0]) rfl (by kernel_rfl) (by kernel_rfl) (by kernel_rfl) (by kernel_rfl) (fun _ _ _ h => h) (Or.inl ⟨by rfl, fun w' => by (go_simp; try rfl)⟩) (fun _ => hS) ?_
           try simp only [Act.put, List.setIfInBounds_toArray, List.set_cons_zero, List.set_cons_succ]
           refine anyG_plain (i := 13) (v := .agg (ryE.c z1).toArray) rfl (by kernel_rfl) (by kernel_rfl) (by kernel_rfl) (by kernel_rfl) (fun _ _ _ h => h) (Or.inl ⟨by rfl, fun w' => by (go_simp; try rfl)⟩) (fun _ => hS) ?_
           try simp only [Act.put, List.setIfInBounds_toArray, List.set_cons_zero, List.set_cons_succ]
           refine anyG_plain (i := 14) (v := .int .i64 0) rfl (by kernel_rfl) (by kernel_rfl) (by kernel_rfl) (by kernel_rfl) (fun _ _ _ h => h) (Or.inl ⟨by rfl, fun w' => by (go_simp; try rfl)⟩) (fun _ => hS) ?_
           try simp only [Act.put, List.setIfInBounds_toArray, List.set_cons_zero, List.set_cons_succ]
         rotate_left
         focus
           have hZ : ryE.In (V.alloc (.cells #[.int .i64 0, .int .i64 0, .int .i64 0, .int .i64 0, .int .i64 0, .int .i64 0, .slice none 0 0, .int .i64 0, .int .i64 0, .slice none 0 0, .slice none 0 0, .slice none 0 0, .slice none 0 0, .slice none 0 0, .slice none 0 0, .int .i64 0, .slice none 0 0, .slice none 0 0, .slice none 0 0, .slice none 0 0, .int .i64 0, .int .i64 0, .int .i64 0, .int .i64 0, .slice none 0 0, .int .i64 0] 48)) V.heap.size Rlw.zero := El.In.new (E := ryE) V Rlw.zero _ rfl
           have hal := below_alloc (Below.refl V.heap.size V) (.cells #[.int .i64 0, .int .i64 0, .int .i64 0, .int .i64 0, .int .i64 0, .int .i64 0, .slice none 0 0, .int .i64 0, .int .i64 0, .slice none 0 0, .slice none 0 0, .slice none 0 0, .slice none 0 0, .slice none 0 0, .slice none 0 0, .int .i64 0, .slice none 0 0, .slice none 0 0, .slice none 0 0, .slice none 0 0, .int .i64 0, .int .i64 0, .int .i64 0, .int .i64 0, .slice none 0 0, .int .i64 0] 48)
           have hnW : w.heap.size ≤ V.heap.size := hB.size
           have hn1A : n1 < V.heap.size := hP.lt
           have hmA : m < V.heap.size := inSl_lt19 hT (by decide)
           replace hP := hP.below hal; replace hT := hT.below hal; replace hB := below_then hB hal; replace hx0 := hx0.below hal; replace h6 := SlV.below h6 hal; replace h9 := SlV.below h9 hal
           clear hal
           refine step_alloc_ry rfl rfl ?_
           refine hK.out _ _ (hP : PlS19 n1 m (V.alloc (.cells #[.int .i64 0, .int .i64 0, .int .i64 0, .int .i64 0, .int .i64 0, .int .i64 0, .slice none 0 0, .int .i64 0, .int .i64 0, .slice none 0 0, .slice none 0 0, .slice none 0 0, .slice none 0 0, .slice none 0 0, .slice none 0 0, .int .i64 0, .slice none 0 0, .slice none 0 0, .slice none 0 0, .slice none 0 0, .int .i64 0, .int .i64 0, .int .i64 0, .int .i64 0, .slice none 0 0, .int .i64 0] 48))) ?_
           try simp only [Act.put, List.setIfInBounds_toArray, List.set_cons_zero, List.set_cons_succ]
           clear hK hS
           generalize V.heap.size = nA at *
           generalize V.alloc (.cells #[.int .i64 0, .int .i64 0, .int .i64 0, .int .i64 0, .int .i64 0, .int .i64 0, .slice none 0 0, .int .i64 0, .int .i64 0, .slice none 0 0, .slice none 0 0, .slice none 0 0, .slice none 0 0, .slice none 0 0, .slice none 0 0, .int .i64 0, .slice none 0 0, .slice none 0 0, .slice none 0 0, .slice none 0 0, .int .i64 0, .int .i64 0, .int .i64 0, .int .i64 0, .slice none 0 0, .int .i64 0] 48) = V at *
           have hS : PlS19 n1 m V := hP
         rotate_left)
      | (skip
         replace h6 := h6
         replace hZ := hZ
         refine anyG_step (rs := [9]) (by kernel_rfl) (by simp) ?_
         refine AllG.cons rfl (fun K hK => ?_) AllG.nil
         have h9 : SlV rpE (V.alloc (.cells #[.int .i64 2, .int .i64 1, .int .i64 0, .int .i64 0, .int .i64 1, .int .i64 0, .int .i64 0, .int .i64 0, .int .i64 0, .int .i64 3, .int .i64 1, .int .i64 0, .int .i64 0, .int .i64 1, .int .i64 0, .int .i64 0, .int .i64 0, .int .i64 0] 59)) (some ⟨V.heap.size, 0, none⟩) 2 [r19 2, r19 3] := ⟨El.Sl.row (E := rpE) V [r19 2, r19 3] #[.int .i64 2, .int .i64 1, .int .i64 0, .int .i64 0, .int .i64 1, .int .i64 0, .int .i64 0, .int .i64 0, .int .i64 0, .int .i64 3, .int .i64 1, .int .i64 0, .int .i64 0, .int .i64 1, .int .i64 0, .int .i64 0, .int .i64 0, .int .i64 0] rfl, (fun e => by cases e), Nat.le_refl _⟩
         have hal := below_alloc (Below.refl V.heap.size V) (.cells #[.int .i64 2, .int .i64 1, .int .i64 0, .int .i64 0, .int .i64 1, .int .i64 0, .int .i64 0, .int .i64 0, .int .i64 0, .int .i64 3, .int .i64 1, .int .i64 0, .int .i64 0, .int .i64 1, .int .i64 0, .int .i64 0, .int .i64 0, .int .i64 0] 59)
         replace hP := hP.below hal; replace hT := hT.below hal; replace hB := below_then hB hal; replace hx0 := hx0.below hal; replace h6 := SlV.below h6 hal; replace hZ := hZ.below hal
         clear hal
         go_simp
         refine hK.out _ _ (hP : PlS19 n1 m (V.alloc (.cells #[.int .i64 2, .int .i64 1, .int .i64 0, .int .i64 0, .int .i64 1, .int .i64 0, .int .i64 0, .int .i64 0, .int .i64 0, .int .i64 3, .int .i64 1, .int .i64 0, .int .i64 0, .int .i64 1, .int .i64 0, .int .i64 0, .int .i64 0, .int .i64 0] 59))) ?_
         try simp only [Act.put, List.setIfInBounds_toArray, List.set_cons_zero, List.set_cons_succ]
         clear hK hS
         generalize V.heap.size = n9 at *
         generalize V.alloc (.cells #[.int .i64 2, .int .i64 1, .int .i64 0, .int .i64 0, .int .i64 1, .int .i64 0, .int .i64 0, .int .i64 0, .int .i64 0, .int .i64 3, .int .i64 1, .int .i64 0, .int .i64 0, .int .i64 1, .int .i64 0, .int .i64 0, .int .i64 0, .int .i64 0] 59) = V at *
         have hS : PlS19 n1 m V := hP)
      | (skip
         replace h6 := h6
         refine anyG_step (rs := [9, 15]) (by kernel_rfl) (by simp) ?_
         refine AllG.cons rfl (fun K hK => ?_) (AllG.cons rfl (fun K hK => ?_) AllG.nil)
         focus
           have h9 : SlV rpE (V.alloc (.cells #[.int .i64 2, .int .i64 1, .int .i64 0, .int .i64 0, .int .i64 1, .int .i64 0, .int .i64 0, .int .i64 0, .int .i64 0, .int .i64 3, .int .i64 1, .int .i64 0, .int .i64 0, .int .i64 1, .int .i64 0, .int .i64 0, .int .i64 0, .int .i64 0] 59)) (some ⟨V.heap.size, 0, none⟩) 2 [r19 2, r19 3] := ⟨El.Sl.row (E := rpE) V [r19 2, r19 3] #[.int .i64 2, .int .i64 1, .int .i64 0, .int .i64 0, .int .i64 1, .int .i64 0, .int .i64 0, .int .i64 0, .int .i64 0, .int .i64 3, .int .i64 1, .int .i64 0, .int .i64 0, .int .i64 1, .int .i64 0, .int .i64 0, .int .i64 0, .int .i64 0] rfl, (fun e => by cases e), Nat.le_refl _⟩
           have hal := below_alloc (Below.refl V.heap.size V) (.cells #[.int .i64 2, .int .i64 1, .int .i64 0, .int .i64 0, .int .i64 1, .int .i64 0, .int .i64 0, .int .i64 0, .int .i64 0, .int .i64 3, .int .i64 1, .int .i64 0, .int .i64 0, .int .i64 1, .int .i64 0, .int .i64 0, .int .i64 0, .int .i64 0] 59)
           replace hP := hP.below hal; replace hT := hT.below hal; replace hB := below_then hB hal; replace hx0 := hx0.below hal; replace h6 := SlV.below h6 hal
           clear hal
           go_simp
           refine hK.out _ _ (hP : PlS19 n1 m (V.alloc (.cells #[.int .i64 2, .int .i64 1, .int .i64 0, .int .i64 0, .int .i64 1, .int .i64 0, .int .i64 0, .int .i64 0, .int .i64 0, .int .i64 3, .int .i64 1, .int .i64 0, .int .i64 0, .int .i64 1, .int .i64 0, .int .i64 0, .int .i64 0, .int .i64 0] 59))) ?_
           try simp only [Act.put, List.setIfInBounds_toArray, List.set_cons_zero, List.set_cons_succ]
           clear hK hS
           generalize V.heap.size = n9 at *
           generalize V.alloc (.cells #[.int .i64 2, .int .i64 1, .int .i64 0, .int .i64 0, .int .i64 1, .int .i64 0, .int .i64 0, .int .i64 0, .int .i64 0, .int .i64 3, .int .i64 1, .int .i64 0, .int .i64 0, .int .i64 1, .int .i64 0, .int .i64 0, .int .i64 0, .int .i64 0] 59) = V at *
           have hS : PlS19 n1 m V := hP
         rotate_left
         focus
           have hZ : ryE.In (V.alloc (.cells #[.int .i64 0, .int .i64 0, .int .i64 0, .int .i64 0, .int .i64 0, .int .i64 0, .slice none 0 0, .int .i64 0, .int .i64 0, .slice none 0 0, .slice none 0 0, .slice none 0 0, .slice none 0 0, .slice none 0 0, .slice none 0 0, .int .i64 0, .slice none 0 0, .slice none 0 0, .slice none 0 0, .slice none 0 0, .int .i64 0, .int .i64 0, .int .i64 0, .int .i64 0, .slice none 0 0, .int .i64 0] 48)) V.heap.size Rlw.zero := El.In.new (E := ryE) V Rlw.zero _ rfl
           have hal := below_alloc (Below.refl V.heap.size V) (.cells #[.int .i64 0, .int .i64 0, .int .i64 0, .int .i64 0, .int .i64 0, .int .i64 0, .slice none 0 0, .int .i64 0, .int .i64 0, .slice none 0 0, .slice none 0 0, .slice none 0 0, .slice none 0 0, .slice none 0 0, .slice none 0 0, .int .i64 0, .slice none 0 0, .slice none 0 0, .slice none 0 0, .slice none 0 0, .int .i64 0, .int .i64 0, .int .i64 0, .int .i64 0, .slice none 0 0, .int .i64 0] 48)
           have hnW : w.heap.size ≤ V.heap.size := hB.size
           have hn1A : n1 < V.heap.size := hP.lt
           have hmA : m < V.heap.size := inSl_lt19 hT (by decide)
           replace hP := hP.below hal; replace hT := hT.below hal; replace hB := below_then hB hal; replace hx0 := hx0.below hal; replace h6 := SlV.below h6 hal
           clear hal
           refine step_alloc_ry rfl rfl ?_
           refine hK.out _ _ (hP : PlS19 n1 m (V.alloc (.cells #[.int .i64 0, .int .i64 0, .int .i64 0, .int .i64 0, .int .i64 0, .int .i64 0, .slice none 0 0, .int .i64 0, .int .i64 0, .slice none 0 0, .slice none 0 0, .slice none 0 0, .slice none 0 0, .slice none 0 0, .slice none 0 0, .int .i64 0, .slice none 0 0, .slice none 0 0, .slice none 0 0, .slice none 0 0, .int .i64 0, .int .i64 0, .int .i64 0, .int .i64 0, .slice none 0 0, .int .i64 0] 48))) ?_
           try simp only [Act.put, List.setIfInBounds_toArray, List.set_cons_zero, List.set_cons_succ]
           clear hK hS
           generalize V.heap.size = nA at *
           generalize V.alloc (.cells #[.int .i64 0, .int .i64 0, .int .i64 0, .int .i64 0, .int .i64 0, .int .i64 0, .slice none 0 0, .int .i64 0, .int .i64 0, .slice none 0 0, .slice none 0 0, .slice none 0 0, .slice none 0 0, .slice none 0 0, .slice none 0 0, .int .i64 0, .slice none 0 0, .slice none 0 0, .slice none 0 0, .slice none 0 0, .int .i64 0, .int .i64 0, .int .i64 0, .int .i64 0, .slice none 0 0, .int .i64 0] 48) = V at *
           have hS : PlS19 n1 m V := hP
         rotate_left)
      | (skip
         replace k5 := k5
         replace h9 := h9
         replace hZ := hZ
         refine anyG_step (rs := [6]) (by kernel_rfl) (by simp) ?_
         refine AllG.cons rfl (fun K hK => ?_) AllG.nil
         have h6 : SlV opE (V.alloc (.cells #[.int .i64 1, .int .i64 2, .int .i64 1, .int .i64 1, .int .i64 2, .int .i64 0, .string ⟨#[97]⟩, .int .i64 2, .int .i64 2, .int .i64 1, .int .i64 2, .int .i64 2, .int .i64 0, .string ⟨#[97]⟩, .int .i64 3, .int .i64 2, .int .i64 1, .int .i64 3, .int .i64 2, .int .i64 0, .string ⟨#[97]⟩] 64)) (some ⟨V.heap.size, 0, none⟩) 3 [o19 1 2, o19 2 2, o19 3 2] := ⟨El.Sl.row (E := opE) V [o19 1 2, o19 2 2, o19 3 2] #[.int .i64 1, .int .i64 2, .int .i64 1, .int .i64 1, .int .i64 2, .int .i64 0, .string ⟨#[97]⟩, .int .i64 2, .int .i64 2, .int .i64 1, .int .i64 2, .int .i64 2, .int .i64 0, .string ⟨#[97]⟩, .int .i64 3, .int .i64 2, .int .i64 1, .int .i64 3, .int .i64 2, .int .i64 0, .string ⟨#[97]⟩] rfl, (fun e => by cases e), Nat.le_refl _⟩
         have hal := below_alloc (Below.refl V.heap.size V) (.cells #[.int .i64 1, .int .i64 2, .int .i64 1, .int .i64 1, .int .i64 2, .int .i64 0, .string ⟨#[97]⟩, .int .i64 2, .int .i64 2, .int .i64 1, .int .i64 2, .int .i64 2, .int .i64 0, .string ⟨#[97]⟩, .int .i64 3, .int .i64 2, .int .i64 1, .int .i64 3, .int .i64 2, .int .i64 0, .string ⟨#[97]⟩] 64)
         replace hP := hP.below hal; replace hT := hT.below hal; replace hB := below_then hB hal; replace hx0 := hx0.below hal; replace h9 := SlV.below h9 hal; replace hZ := hZ.below hal
         clear hal
         go_simp
         refine hK.out _ _ (hP : PlS19 n1 m (V.alloc (.cells #[.int .i64 1, .int .i64 2, .int .i64 1, .int .i64 1, .int .i64 2, .int .i64 0, .string ⟨#[97]⟩, .int .i64 2, .int .i64 2, .int .i64 1, .int .i64 2, .int .i64 2, .int .i64 0, .string ⟨#[97]⟩, .int .i64 3, .int .i64 2, .int .i64 1, .int .i64 3, .int .i64 2, .int .i64 0, .string ⟨#[97]⟩] 64))) ?_
         try simp only [Act.put, List.setIfInBounds_toArray, List.set_cons_zero, List.set_cons_succ]
         clear hK hS
         generalize V.heap.size = n6 at *
         generalize V.alloc (.cells #[.int .i64 1, .int .i64 2, .int .i64 1, .int .i64 1, .int .i64 2, .int .i64 0, .string ⟨#[97]⟩, .int .i64 2, .int .i64 2, .int .i64 1, .int .i64 2, .int .i64 2, .int .i64 0, .string ⟨#[97]⟩, .int .i64 3, .int .i64 2, .int .i64 1, .int .i64 3, .int .i64 2, .int .i64 0, .string ⟨#[97]⟩] 64) = V at *
         have hS : PlS19 n1 m V := hP)
      | (skip
         replace k5 := k5
         replace h9 := h9
         refine anyG_step (rs := [6, 15]) (by kernel_rfl) (by simp) ?_
         refine AllG.cons rfl (fun K hK => ?_) (AllG.cons rfl (fun K hK => ?_) AllG.nil)
         focus
           have h6 : SlV opE (V.alloc (.cells #[.int .i64 1, .int .i64 2, .int .i64 1, .int .i64 1, .int .i64 2, .int .i64 0, .string ⟨#[97]⟩, .int .i64 2, .int .i64 2, .int .i64 1, .int .i64 2, .int .i64 2, .int .i64 0, .string ⟨#[97]⟩, .int .i64 3, .int .i64 2, .int .i64 1, .int .i64 3, .int .i64 2, .int .i64 0, .string ⟨#[97]⟩] 64)) (some ⟨V.heap.size, 0, none⟩) 3 [o19 1 2, o19 2 2, o19 3 2] := ⟨El.Sl.row (E := opE) V [o19 1 2, o19 2 2, o19 3 2] #[.int .i64 1, .int .i64 2, .int .i64 1, .int .i64 1, .int .i64 2, .int .i64 0, .string ⟨#[97]⟩, .int .i64 2, .int .i64 2, .int .i64 1, .int .i64 2, .int .i64 2, .int .i64 0, .string ⟨#[97]⟩, .int .i64 3, .int .i64 2, .int .i64 1, .int .i64 3, .int .i64 2, .int .i64 0, .string ⟨#[97]⟩] rfl, (fun e => by cases e), Nat.le_refl _⟩
           have hal := below_alloc (Below.refl V.heap.size V) (.cells #[.int .i64 1, .int .i64 2, .int .i64 1, .int .i64 1, .int .i64 2, .int .i64 0, .string ⟨#[97]⟩, .int .i64 2, .int .i64 2, .int .i64 1, .int .i64 2, .int .i64 2, .int .i64 0, .string ⟨#[97]⟩, .int .i64 3, .int .i64 2, .int .i64 1, .int .i64 3, .int .i64 2, .int .i64 0, .string ⟨#[97]⟩] 64)
           replace hP := hP.below hal; replace hT := hT.below hal; replace hB := below_then hB hal; replace hx0 := hx0.below hal; replace h9 := SlV.below h9 hal
           clear hal
           go_simp
           refine hK.out _ _ (hP : PlS19 n1 m (V.alloc (.cells #[.int .i64 1, .int .i64 2, .int .i64 1, .int .i64 1, .int .i64 2, .int .i64 0, .string ⟨#[97]⟩, .int .i64 2, .int .i64 2, .int .i64 1, .int .i64 2, .int .i64 2, .int .i64 0, .string ⟨#[97]⟩, .int .i64 3, .int .i64 2, .int .i64 1, .int .i64 3, .int .i64 2, .int .i64 0, .string ⟨#[97]⟩] 64))) ?_
           try simp only [Act.put, List.setIfInBounds_toArray, List.set_cons_zero, List.set_cons_succ]
           clear hK hS
           generalize V.heap.size = n6 at *
           generalize V.alloc (.cells #[.int .i64 1, .int .i64 2, .int .i64 1, .int .i64 1, .int .i64 2, .int .i64 0, .string ⟨#[97]⟩, .int .i64 2, .int .i64 2, .int .i64 1, .int .i64 2, .int .i64 2, .int .i64 0, .string ⟨#[97]⟩, .int .i64 3, .int .i64 2, .int .i64 1, .int .i64 3, .int .i64 2, .int .i64 0, .string ⟨#[97]⟩] 64) = V at *
           have hS : PlS19 n1 m V := hP
         rotate_left
         focus
           have hZ : ryE.In (V.alloc (.cells #[.int .i64 0, .int .i64 0, .int .i64 0, .int .i64 0, .int .i64 0, .int .i64 0, .slice none 0 0, .int .i64 0, .int .i64 0, .slice none 0 0, .slice none 0 0, .slice none 0 0, .slice none 0 0, .slice none 0 0, .slice none 0 0, .int .i64 0, .slice none 0 0, .slice none 0 0, .slice none 0 0, .slice none 0 0, .int .i64 0, .int .i64 0, .int .i64 0, .int .i64 0, .slice none 0 0, .int .i64 0] 48)) V.heap.size Rlw.zero := El.In.new (E := ryE) V Rlw.zero _ rfl
           have hal := below_alloc (Below.refl V.heap.size V) (.cells #[.int .i64 0, .int .i64 0, .int .i64 0, .int .i64 0, .int .i64 0, .int .i64 0, .slice none 0 0, .int .i64 0, .int .i64 0, .slice none 0 0, .slice none 0 0, .slice none 0 0, .slice none 0 0, .slice none 0 0, .slice none 0 0, .int .i64 0, .slice none 0 0, .slice none 0 0, .slice none 0 0, .slice none 0 0, .int .i64 0, .int .i64 0, .int .i64 0, .int .i64 0, .slice none 0 0, .int .i64 0] 48)
           have hnW : w.heap.size ≤ V.heap.size := hB.size
           have hn1A : n1 < V.heap.size := hP.lt
           have hmA : m < V.heap.size := inSl_lt19 hT (by decide)
           replace hP := hP.below hal; replace hT := hT.below hal; replace hB := below_then hB hal; replace hx0 := hx0.below hal; replace h9 := SlV.below h9 hal
           clear hal
           refine step_alloc_ry rfl rfl ?_
           refine hK.out _ _ (hP : PlS19 n1 m (V.alloc (.cells #[.int .i64 0, .int .i64 0, .int .i64 0, .int .i64 0, .int .i64 0, .int .i64 0, .slice none 0 0, .int .i64 0, .int .i64 0, .slice none 0 0, .slice none 0 0, .slice none 0 0, .slice none 0 0, .slice none 0 0, .slice none 0 0, .int .i64 0, .slice none 0 0, .slice none 0 0, .slice none 0 0, .slice none 0 0, .int .i64 0, .int .i64 0, .int .i64 0, .int .i64 0, .slice none 0 0, .int .i64 0] 48))) ?_
           try simp only [Act.put, List.setIfInBounds_toArray, List.set_cons_zero, List.set_cons_succ]
           clear hK hS
           generalize V.heap.size = nA at *
           generalize V.alloc (.cells #[.int .i64 0, .int .i64 0, .int .i64 0, .int .i64 0, .int .i64 0, .int .i64 0, .slice none 0 0, .int .i64 0, .int .i64 0, .slice none 0 0, .slice none 0 0, .slice none 0 0, .slice none 0 0, .slice none 0 0, .slice none 0 0, .int .i64 0, .slice none 0 0, .slice none 0 0, .slice none 0 0, .slice none 0 0, .int .i64 0, .int .i64 0, .int .i64 0, .int .i64 0, .slice none 0 0, .int .i64 0] 48) = V at *
           have hS : PlS19 n1 m V := hP
         rotate_left)
      | (skip
         replace k5 := k5
         replace hZ := hZ
         refine anyG_step (rs := [6, 9]) (by kernel_rfl) (by simp) ?_
         refine AllG.cons rfl (fun K hK => ?_) (AllG.cons rfl (fun K hK => ?_) AllG.nil)
         focus
           have h6 : SlV opE (V.alloc (.cells #[.int .i64 1, .int .i64 2, .int .i64 1, .int .i64 1, .int .i64 2, .int .i64 0, .string ⟨#[97]⟩, .int .i64 2, .int .i64 2, .int .i64 1, .int .i64 2, .int .i64 2, .int .i64 0, .string ⟨#[97]⟩, .int .i64 3, .int .i64 2, .int .i64 1, .int .i64 3, .int .i64 2, .int .i64 0, .string ⟨#[97]⟩] 64)) (some ⟨V.heap.size, 0, none⟩) 3 [o19 1 2, o19 2 2, o19 3 2] := ⟨El.Sl.row (E := opE) V [o19 1 2, o19 2 2, o19 3 2] #[.int .i64 1, .int .i64 2, .int .i64 1, .int .i64 1, .int .i64 2, .int .i64 0, .string ⟨#[97]⟩, .int .i64 2, .int .i64 2, .int .i64 1, .int .i64 2, .int .i64 2, .int .i64 0, .string ⟨#[97]⟩, .int .i64 3, .int .i64 2, .int .i64 1, .int .i64 3, .int .i64 2, .int .i64 0, .string ⟨#[97]⟩] rfl, (fun e => by cases e), Nat.le_refl _⟩
           have hal := below_alloc (Below.refl V.heap.size V) (.cells #[.int .i64 1, .int .i64 2, .int .i64 1, .int .i64 1, .int .i64 2, .int .i64 0, .string ⟨#[97]⟩, .int .i64 2, .int .i64 2, .int .i64 1, .int .i64 2, .int .i64 2, .int .i64 0, .string ⟨#[97]⟩, .int .i64 3, .int .i64 2, .int .i64 1, .int .i64 3, .int .i64 2, .int .i64 0, .string ⟨#[97]⟩] 64)
           replace hP := hP.below hal; replace hT := hT.below hal; replace hB := below_then hB hal; replace hx0 := hx0.below hal; replace hZ := hZ.below hal
           clear hal
           go_simp
           refine hK.out _ _ (hP : PlS19 n1 m (V.alloc (.cells #[.int .i64 1, .int .i64 2, .int .i64 1, .int .i64 1, .int .i64 2, .int .i64 0, .string ⟨#[97]⟩, .int .i64 2, .int .i64 2, .int .i64 1, .int .i64 2, .int .i64 2, .int .i64 0, .string ⟨#[97]⟩, .int .i64 3, .int .i64 2, .int .i64 1, .int .i64 3, .int .i64 2, .int .i64 0, .string ⟨#[97]⟩] 64))) ?_
           try simp only [Act.put, List.setIfInBounds_toArray, List.set_cons_zero, List.set_cons_succ]
           clear hK hS
           generalize V.heap.size = n6 at *
           generalize V.alloc (.cells #[.int .i64 1, .int .i64 2, .int .i64 1, .int .i64 1, .int .i64 2, .int .i64 0, .string ⟨#[97]⟩, .int .i64 2, .int .i64 2, .int .i64 1, .int .i64 2, .int .i64 2, .int .i64 0, .string ⟨#[97]⟩, .int .i64 3, .int .i64 2, .int .i64 1, .int .i64 3, .int .i64 2, .int .i64 0, .string ⟨#[97]⟩] 64) = V at *
           have hS : PlS19 n1 m V := hP
         rotate_left
         focus
           have h9 : SlV rpE (V.alloc (.cells #[.int .i64 2, .int .i64 1, .int .i64 0, .int .i64 0, .int .i64 1, .int .i64 0, .int .i64 0, .int .i64 0, .int .i64 0, .int .i64 3, .int .i64 1, .int .i64 0, .int .i64 0, .int .i64 1, .int .i64 0, .int .i64 0, .int .i64 0, .int .i64 0] 59)) (some ⟨V.heap.size, 0, none⟩) 2 [r19 2, r19 3] := ⟨El.Sl.row (E := rpE) V [r19 2, r19 3] #[.int .i64 2, .int .i64 1, .int .i64 0, .int .i64 0, .int .i64 1, .int .i64 0, .int .i64 0, .int .i64 0, .int .i64 0, .int .i64 3, .int .i64 1, .int .i64 0, .int .i64 0, .int .i64 1, .int .i64 0, .int .i64 0, .int .i64 0, .int .i64 0] rfl, (fun e => by cases e), Nat.le_refl _⟩
           have hal := below_alloc (Below.refl V.heap.size V) (.cells #[.int .i64 2, .int .i64 1, .int .i64 0, .int .i64 0, .int .i64 1, .int .i64 0, .int .i64 0, .int .i64 0, .int .i64 0, .int .i64 3, .int .i64 1, .int .i64 0, .int .i64 0, .int .i64 1, .int .i64 0, .int .i64 0, .int .i64 0, .int .i64 0] 59)
           replace hP := hP.below hal; replace hT := hT.below hal; replace hB := below_then hB hal; replace hx0 := hx0.below hal; replace hZ := hZ.below hal
           clear hal
           go_simp
           refine hK.out _ _ (hP : PlS19 n1 m (V.alloc (.cells #[.int .i64 2, .int .i64 1, .int .i64 0, .int .i64 0, .int .i64 1, .int .i64 0, .int .i64 0, .int .i64 0, .int .i64 0, .int .i64 3, .int .i64 1, .int .i64 0, .int .i64 0, .int .i64 1, .int .i64 0, .int .i64 0, .int .i64 0, .int .i64 0] 59))) ?_
           try simp only [Act.put, List.setIfInBounds_toArray, List.set_cons_zero, List.set_cons_succ]
           clear hK hS
           generalize V.heap.size = n9 at *
           generalize V.alloc (.cells #[.int .i64 2, .int .i64 1, .int .i64 0, .int .i64 0, .int .i64 1, .int .i64 0, .int .i64 0, .int .i64 0, .int .i64 0, .int .i64 3, .int .i64 1, .int .i64 0, .int .i64 0, .int .i64 1, .int .i64 0, .int .i64 0, .int .i64 0, .int .i64 0] 59) = V at *
           have hS : PlS19 n1 m V := hP
         rotate_left)
      | (skip
         replace k5 := k5
         refine anyG_step (rs := [6, 9, 15]) (by kernel_rfl) (by simp) ?_
         refine AllG.cons rfl (fun K hK => ?_) (AllG.cons rfl (fun K hK => ?_) (AllG.cons rfl (fun K hK => ?_) AllG.nil))
         focus
           have h6 : SlV opE (V.alloc (.cells #[.int .i64 1, .int .i64 2, .int .i64 1, .int .i64 1, .int .i64 2, .int .i64 0, .string ⟨#[97]⟩, .int .i64 2, .int .i64 2, .int .i64 1, .int .i64 2, .int .i64 2, .int .i64 0, .string ⟨#[97]⟩, .int .i64 3, .int .i64 2, .int .i64 1, .int .i64 3, .int .i64 2, .int .i64 0, .string ⟨#[97]⟩] 64)) (some ⟨V.heap.size, 0, none⟩) 3 [o19 1 2, o19 2 2, o19 3 2] := ⟨El.Sl.row (E := opE) V [o19 1 2, o19 2 2, o19 3 2] #[.int .i64 1, .int .i64 2, .int .i64 1, .int .i64 1, .int .i64 2, .int .i64 0, .string ⟨#[97]⟩, .int .i64 2, .int .i64 2, .int .i64 1, .int .i64 2, .int .i64 2, .int .i64 0, .string ⟨#[97]⟩, .int .i64 3, .int .i64 2, .int .i64 1, .int .i64 3, .int .i64 2, .int .i64 0, .string ⟨#[97]⟩] rfl, (fun e => by cases e), Nat.le_refl _⟩
           have hal := below_alloc (Below.refl V.heap.size V) (.cells #[.int .i64 1, .int .i64 2, .int .i64 1, .int .i64 1, .int .i64 2, .int .i64 0, .string ⟨#[97]⟩, .int .i64 2, .int .i64 2, .int .i64 1, .int .i64 2, .int .i64 2, .int .i64 0, .string ⟨#[97]⟩, .int .i64 3, .int .i64 2, .int .i64 1, .int .i64 3, .int .i64 2, .int .i64 0, .string ⟨#[97]⟩] 64)
           replace hP := hP.below hal; replace hT := hT.below hal; replace hB := below_then hB hal; replace hx0 := hx0.below hal
           clear hal
           go_simp
           refine hK.out _ _ (hP : PlS19 n1 m (V.alloc (.cells #[.int .i64 1, .int .i64 2, .int .i64 1, .int .i64 1, .int .i64 2, .int .i64 0, .string ⟨#[97]⟩, .int .i64 2, .int .i64 2, .int .i64 1, .int .i64 2, .int .i64 2, .int .i64 0, .string ⟨#[97]⟩, .int .i64 3, .int .i64 2, .int .i64 1, .int .i64 3, .int .i64 2, .int .i64 0, .string ⟨#[97]⟩] 64))) ?_
           try simp only [Act.put, List.setIfInBounds_toArray, List.set_cons_zero, List.set_cons_succ]
           clear hK hS
           generalize V.heap.size = n6 at *
           generalize V.alloc (.cells #[.int .i64 1, .int .i64 2, .int .i64 1, .int .i64 1, .int .i64 2, .int .i64 0, .string ⟨#[97]⟩, .int .i64 2, .int .i64 2, .int .i64 1, .int .i64 2, .int .i64 2, .int .i64 0, .string ⟨#[97]⟩, .int .i64 3, .int .i64 2, .int .i64 1, .int .i64 3, .int .i64 2, .int .i64 0, .string ⟨#[97]⟩] 64) = V at *
           have hS : PlS19 n1 m V := hP
         rotate_left
         focus
           have h9 : SlV rpE (V.alloc (.cells #[.int .i64 2, .int .i64 1, .int .i64 0, .int .i64 0, .int .i64 1, .int .i64 0, .int .i64 0, .int .i64 0, .int .i64 0, .int .i64 3, .int .i64 1, .int .i64 0, .int .i64 0, .int .i64 1, .int .i64 0, .int .i64 0, .int .i64 0, .int .i64 0] 59)) (some ⟨V.heap.size, 0, none⟩) 2 [r19 2, r19 3] := ⟨El.Sl.row (E := rpE) V [r19 2, r19 3] #[.int .i64 2, .int .i64 1, .int .i64 0, .int .i64 0, .int .i64 1, .int .i64 0, .int .i64 0, .int .i64 0, .int .i64 0, .int .i64 3, .int .i64 1, .int .i64 0, .int .i64 0, .int .i64 1, .int .i64 0, .int .i64 0, .int .i64 0, .int .i64 0] rfl, (fun e => by cases e), Nat.le_refl _⟩
           have hal := below_alloc (Below.refl V.heap.size V) (.cells #[.int .i64 2, .int .i64 1, .int .i64 0, .int .i64 0, .int .i64 1, .int .i64 0, .int .i64 0, .int .i64 0, .int .i64 0, .int .i64 3, .int .i64 1, .int .i64 0, .int .i64 0, .int .i64 1, .int .i64 0, .int .i64 0, .int .i64 0, .int .i64 0] 59)
           replace hP := hP.below hal; replace hT := hT.below hal; replace hB := below_then hB hal; replace hx0 := hx0.below hal
           clear hal
           go_simp
           refine hK.out _ _ (hP : PlS19 n1 m (V.alloc (.cells #[.int .i64 2, .int .i64 1, .int .i64 0, .int .i64 0, .int .i64 1, .int .i64 0, .int .i64 0, .int .i64 0, .int .i64 0, .int .i64 3, .int .i64 1, .int .i64 0, .int .i64 0, .int .i64 1, .int .i64 0, .int .i64 0, .int .i64 0, .int .i64 0] 59))) ?_
           try simp only [Act.put, List.setIfInBounds_toArray, List.set_cons_zero, List.set_cons_succ]
           clear hK hS
           generalize V.heap.size = n9 at *
           generalize V.alloc (.cells #[.int .i64 2, .int .i64 1, .int .i64 0, .int .i64 0, .int .i64 1, .int .i64 0, .int .i64 0, .int .i64 0, .int .i64 0, .int .i64 3, .int .i64 1, .int .i64 0, .int .i64 0, .int .i64 1, .int .i64 0, .int .i64 0, .int .i64 0, .int .i64 0] 59) = V at *
           have hS : PlS19 n1 m V := hP
         rotate_left
         focus
           have hZ : ryE.In (V.alloc (.cells #[.int .i64 0, .int .i64 0, .int .i64 0, .int .i64 0, .int .i64 0, .int .i64 0, .slice none 0 0, .int .i64 0, .int .i64 0, .slice none 0 0, .slice none 0 0, .slice none 0 0, .slice none 0 0, .slice none 0 0, .slice none 0 0, .int .i64 0, .slice none 0 0, .slice none 0 0, .slice none 0 0, .slice none 0 0, .int .i64 0, .int .i64 0, .int .i64 0, .int .i64 0, .slice none 0 0, .int .i64 0] 48)) V.heap.size Rlw.zero := El.In.new (E := ryE) V Rlw.zero _ rfl
           have hal := below_alloc (Below.refl V.heap.size V) (.cells #[.int .i64 0, .int .i64 0, .int .i64 0, .int .i64 0, .int .i64 0, .int .i64 0, .slice none 0 0, .int .i64 0, .int .i64 0, .slice none 0 0, .slice none 0 0, .slice none 0 0, .slice none 0 0, .slice none 0 0, .slice none 0 0, .int .i64 0, .slice none 0 0, .slice none 0 0, .slice none 0 0, .slice none 0 0, .int .i64 0, .int .i64 0, .int .i64 0, .int .i64 0, .slice none 0 0, .int .i64 0] 48)
           have hnW : w.heap.size ≤ V.heap.size := hB.size
           have hn1A : n1 < V.heap.size := hP.lt
           have hmA : m < V.heap.size := inSl_lt19 hT (by decide)
           replace hP := hP.below hal; replace hT := hT.below hal; replace hB := below_then hB hal; replace hx0 := hx0.below hal
           clear hal
           refine step_alloc_ry rfl rfl ?_
           refine hK.out _ _ (hP : PlS19 n1 m (V.alloc (.cells #[.int .i64 0, .int .i64 0, .int .i64 0, .int .i64 0, .int .i64 0, .int .i64 0, .slice none 0 0, .int .i64 0, .int .i64 0, .slice none 0 0, .slice none 0 0, .slice none 0 0, .slice none 0 0, .slice none 0 0, .slice none 0 0, .int .i64 0, .slice none 0 0, .slice none 0 0, .slice none 0 0, .slice none 0 0, .int .i64 0, .int .i64 0, .int .i64 0, .int .i64 0, .slice none 0 0, .int .i64 0] 48))) ?_
           try simp only [Act.put, List.setIfInBounds_toArray, List.set_cons_zero, List.set_cons_succ]
           clear hK hS
           generalize V.heap.size = nA at *
           generalize V.alloc (.cells #[.int .i64 0, .int .i64 0, .int .i64 0, .int .i64 0, .int .i64 0, .int .i64 0, .slice none 0 0, .int .i64 0, .int .i64 0, .slice none 0 0, .slice none 0 0, .slice none 0 0, .slice none 0 0, .slice none 0 0, .slice none 0 0, .int .i64 0, .slice none 0 0, .slice none 0 0, .slice none 0 0, .slice none 0 0, .int .i64 0, .int .i64 0, .int .i64 0, .int .i64 0, .slice none 0 0, .int .i64 0] 48) = V at *
           have hS : PlS19 n1 m V := hP
         rotate_left)
      | (skip
         replace k4 := k4
         replace h9 := h9
         replace hZ := hZ
         refine anyG_step (rs := [5]) (by kernel_rfl) (by simp) ?_
         refine AllG.cons rfl (fun K hK => ?_) AllG.nil
         go_simp
         refine (op19_any 3 2 _).mono ?_
         rintro e V ⟨rfl, hb⟩
         replace hP := hP.below hb; replace hT := hT.below hb; replace hB := below_then hB hb; replace hx0 := hx0.below hb; replace h9 := SlV.below h9 hb; replace hZ := hZ.below hb
         clear hb
         try go_wp2_with fail
         refine hK.out _ _ (hP : PlS19 n1 m V) ?_
         try simp only [Act.put, List.setIfInBounds_toArray, List.set_cons_zero, List.set_cons_succ]
         clear hK hS
         have hS : PlS19 n1 m V := hP
         have k5 := trivial)
      | (skip
         replace k4 := k4
         replace h9 := h9
         refine anyG_step (rs := [5, 15]) (by kernel_rfl) (by simp) ?_
         refine AllG.cons rfl (fun K hK => ?_) (AllG.cons rfl (fun K hK => ?_) AllG.nil)
         focus
           go_simp
           refine (op19_any 3 2 _).mono ?_
           rintro e V ⟨rfl, hb⟩
           replace hP := hP.below hb; replace hT := hT.below hb; replace hB := below_then hB hb; replace hx0 := hx0.below hb; replace h9 := SlV.below h9 hb
           clear hb
           try go_wp2_with fail
           refine hK.out _ _ (hP : PlS19 n1 m V) ?_
           try simp only [Act.put, List.setIfInBounds_toArray, List.set_cons_zero, List.set_cons_succ]
           clear hK hS
           have hS : PlS19 n1 m V := hP
           have k5 := trivial
         rotate_left
         focus
           have hZ : ryE.In (V.alloc (.cells #[.int .i64 0, .int .i64 0, .int .i64 0, .int .i64 0, .int .i64 0, .int .i64 0, .slice none 0 0, .int .i64 0, .int .i64 0, .slice none 0 0, .slice none 0 0, .slice none 0 0, .slice none 0 0, .slice none 0 0, .slice none 0 0, .int .i64 0, .slice none 0 0, .slice none 0 0, .slice none 0 0, .slice none 0 0, .int .i64 0, .int .i64 0, .int .i64 0, .int .i64 0, .slice none 0 0, .int .i64 0] 48)) V.heap.size Rlw.zero := El.In.new (E := ryE) V Rlw.zero _ rfl
           have hal := below_alloc (Below.refl V.heap.size V) (.cells #[.int .i64 0, .int .i64 0, .int .i64 0, .int .i64 0, .int .i64 0, .int .i64 0, .slice none 0 0, .int .i64 0, .int .i64 0, .slice none 0 0, .slice none 0 0, .slice none 0 0, .slice none 0 0, .slice none 0 0, .slice none 0 0, .int .i64 0, .slice none 0 0, .slice none 0 0, .slice none 0 0, .slice none 0 0, .int .i64 0, .int .i64 0, .int .i64 0, .int .i64 0, .slice none 0 0, .int .i64 0] 48)
           have hnW : w.heap.size ≤ V.heap.size := hB.size
           have hn1A : n1 < V.heap.size := hP.lt
           have hmA : m < V.heap.size := inSl_lt19 hT (by decide)
           replace hP := hP.below hal; replace hT := hT.below hal; replace hB := below_then hB hal; replace hx0 := hx0.below hal; replace h9 := SlV.below h9 hal
           clear hal
           refine step_alloc_ry rfl rfl ?_
           refine hK.out _ _ (hP : PlS19 n1 m (V.alloc (.cells #[.int .i64 0, .int .i64 0, .int .i64 0, .int .i64 0, .int .i64 0, .int .i64 0, .slice none 0 0, .int .i64 0, .int .i64 0, .slice none 0 0, .slice none 0 0, .slice none 0 0, .slice none 0 0, .slice none 0 0, .slice none 0 0, .int .i64 0, .slice none 0 0, .slice none 0 0, .slice none 0 0, .slice none 0 0, .int .i64 0, .int .i64 0, .int .i64 0, .int .i64 0, .slice none 0 0, .int .i64 0] 48))) ?_
           try simp only [Act.put, List.setIfInBounds_toArray, List.set_cons_zero, List.set_cons_succ]
           clear hK hS
           generalize V.heap.size = nA at *
           generalize V.alloc (.cells #[.int .i64 0, .int .i64 0, .int .i64 0, .int .i64 0, .int .i64 0, .int .i64 0, .slice none 0 0, .int .i64 0, .int .i64 0, .slice none 0 0, .slice none 0 0, .slice none 0 0, .slice none 0 0, .slice none 0 0, .slice none 0 0, .int .i64 0, .slice none 0 0, .slice none 0 0, .slice none 0 0, .slice none 0 0, .int .i64 0, .int .i64 0, .int .i64 0, .int .i64 0, .slice none 0 0, .int .i64 0] 48) = V at *
           have hS : PlS19 n1 m V := hP
         rotate_left)
      | (skip
         replace k4 := k4
         replace hZ := hZ
         refine anyG_step (rs := [5, 9]) (by kernel_rfl) (by simp) ?_
         refine AllG.cons rfl (fun K hK => ?_) (AllG.cons rfl (fun K hK => ?_) AllG.nil)
         focus
           go_simp
           refine (op19_any 3 2 _).mono ?_
           rintro e V ⟨rfl, hb⟩
           replace hP := hP.below hb; replace hT := hT.below hb; replace hB := below_then hB hb; replace hx0 := hx0.below hb; replace hZ := hZ.below hb
           clear hb
           try go_wp2_with fail
           refine hK.out _ _ (hP : PlS19 n1 m V) ?_
           try simp only [Act.put, List.setIfInBounds_toArray, List.set_cons_zero, List.set_cons_succ]
           clear hK hS
           have hS : PlS19 n1 m V := hP
           have k5 := trivial
         rotate_left
         focus
           have h9 : SlV rpE (V.alloc (.cells #[.int .i64 2, .int .i64 1, .int .i64 0, .int .i64 0, .int .i64 1, .int .i64 0, .int .i64 0, .int .i64 0, .int .i64 0, .int .i64 3, .int .i64 1, .int .i64 0, .int .i64 0, .int .i64 1, .int .i64 0, .int .i64 0, .int .i64 0, .int .i64 0] 59)) (some ⟨V.heap.size, 0, none⟩) 2 [r19 2, r19 3] := ⟨El.Sl.row (E := rpE) V [r19 2, r19 3] #[.int .i64 2, .int .i64 1, .int .i64 0, .int .i64 0, .int .i64 1, .int .i64 0, .int .i64 0, .int .i64 0, .int .i64 0, .int .i64 3, .int .i64 1, .int .i64 0, .int .i64 0, .int .i64 1, .int .i64 0, .int .i64 0, .int .i64 0, .int .i64 0] rfl, (fun e => by cases e), Nat.le_refl _⟩
           have hal := below_alloc (Below.refl V.heap.size V) (.cells #[.int .i64 2, .int .i64 1, .int .i64 0, .int .i64 0, .int .i64 1, .int .i64 0, .int .i64 0, .int .i64 0, .int .i64 0, .int .i64 3, .int .i64 1, .int .i64 0, .int .i64 0, .int .i64 1, .int .i64 0, .int .i64 0, .int .i64 0, .int .i64 0] 59)
           replace hP := hP.below hal; replace hT := hT.below hal; replace hB := below_then hB hal; replace hx0 := hx0.below hal; replace hZ := hZ.below hal
           clear hal
           go_simp
           refine hK.out _ _ (hP : PlS19 n1 m (V.alloc (.cells #[.int .i64 2, .int .i64 1, .int .i64 0, .int .i64 0, .int .i64 1, .int .i64 0, .int .i64 0, .int .i64 0, .int .i64 0, .int .i64 3, .int .i64 1, .int .i64 0, .int .i64 0, .int .i64 1, .int .i64 0, .int .i64 0, .int .i64 0, .int .i64 0] 59))) ?_
           try simp only [Act.put, List.setIfInBounds_toArray, List.set_cons_zero, List.set_cons_succ]
           clear hK hS
           generalize V.heap.size = n9 at *
           generalize V.alloc (.cells #[.int .i64 2, .int .i64 1, .int .i64 0, .int .i64 0, .int .i64 1, .int .i64 0, .int .i64 0, .int .i64 0, .int .i64 0, .int .i64 3, .int .i64 1, .int .i64 0, .int .i64 0, .int .i64 1, .int .i64 0, .int .i64 0, .int .i64 0, .int .i64 0] 59) = V at *
           have hS : PlS19 n1 m V := hP
         rotate_left)
      | (skip
         replace k4 := k4
         refine anyG_step (rs := [5, 9, 15]) (by kernel_rfl) (by simp) ?_
         refine AllG.cons rfl (fun K hK => ?_) (AllG.cons rfl (fun K hK => ?_) (AllG.cons rfl (fun K hK => ?_) AllG.nil))
         focus
           go_simp
           refine (op19_any 3 2 _).mono ?_
           rintro e V ⟨rfl, hb⟩
           replace hP := hP.below hb; replace hT := hT.below hb; replace hB := below_then hB hb; replace hx0 := hx0.below hb
           clear hb
           try go_wp2_with fail
           refine hK.out _ _ (hP : PlS19 n1 m V) ?_
           try simp only [Act.put, List.setIfInBounds_toArray, List.set_cons_zero, List.set_cons_succ]
           clear hK hS
           have hS : PlS19 n1 m V := hP
           have k5 := trivial
         rotate_left
         focus
           have h9 : SlV rpE (V.alloc (.cells #[.int .i64 2, .int .i64 1, .int .i64 0, .int .i64 0, .int .i64 1, .int .i64 0, .int .i64 0, .int .i64 0, .int .i64 0, .int .i64 3, .int .i64 1, .int .i64 0, .int .i64 0, .int .i64 1, .int .i64 0, .int .i64 0, .int .i64 0, .int .i64 0] 59)) (some ⟨V.heap.size, 0, none⟩) 2 [r19 2, r19 3] := ⟨El.Sl.row (E := rpE) V [r19 2, r19 3] #[.int .i64 2, .int .i64 1, .int .i64 0, .int .i64 0, .int .i64 1, .int .i64 0, .int .i64 0, .int .i64 0, .int .i64 0, .int .i64 3, .int .i64 1, .int .i64 0, .int .i64 0, .int .i64 1, .int .i64 0, .int .i64 0, .int .i64 0, .int .i64 0] rfl, (fun e => by cases e), Nat.le_refl _⟩
           have hal := below_alloc (Below.refl V.heap.size V) (.cells #[.int .i64 2, .int .i64 1, .int .i64 0, .int .i64 0, .int .i64 1, .int .i64 0, .int .i64 0, .int .i64 0, .int .i64 0, .int .i64 3, .int .i64 1, .int .i64 0, .int .i64 0, .int .i64 1, .int .i64 0, .int .i64 0, .int .i64 0, .int .i64 0] 59)
           replace hP := hP.below hal; replace hT := hT.below hal; replace hB := below_then hB hal; replace hx0 := hx0.below hal
           clear hal
           go_simp
           refine hK.out _ _ (hP : PlS19 n1 m (V.alloc (.cells #[.int .i64 2, .int .i64 1, .int .i64 0, .int .i64 0, .int .i64 1, .int .i64 0, .int .i64 0, .int .i64 0, .int .i64 0, .int .i64 3, .int .i64 1, .int .i64 0, .int .i64 0, .int .i64 1, .int .i64 0, .int .i64 0, .int .i64 0, .int .i64 0] 59))) ?_
           try simp only [Act.put, List.setIfInBounds_toArray, List.set_cons_zero, List.set_cons_succ]
           clear hK hS
           generalize V.heap.size = n9 at *
           generalize V.alloc (.cells #[.int .i64 2, .int .i64 1, .int .i64 0, .int .i64 0, .int .i64 1, .int .i64 0, .int .i64 0, .int .i64 0, .int .i64 0, .int .i64 3, .int .i64 1, .int .i64 0, .int .i64 0, .int .i64 1, .int .i64 0, .int .i64 0, .int .i64 0, .int .i64 0] 59) = V at *
           have hS : PlS19 n1 m V := hP
         rotate_left
         focus
           have hZ : ryE.In (V.alloc (.cells #[.int .i64 0, .int .i64 0, .int .i64 0, .int .i64 0, .int .i64 0, .int .i64 0, .slice none 0 0, .int .i64 0, .int .i64 0, .slice none 0 0, .slice none 0 0, .slice none 0 0, .slice none 0 0, .slice none 0 0, .slice none 0 0, .int .i64 0, .slice none 0 0, .slice none 0 0, .slice none 0 0, .slice none 0 0, .int .i64 0, .int .i64 0, .int .i64 0, .int .i64 0, .slice none 0 0, .int .i64 0] 48)) V.heap.size Rlw.zero := El.In.new (E := ryE) V Rlw.zero _ rfl
           have hal := below_alloc (Below.refl V.heap.size V) (.cells #[.int .i64 0, .int .i64 0, .int .i64 0, .int .i64 0, .int .i64 0, .int .i64 0, .slice none 0 0, .int .i64 0, .int .i64 0, .slice none 0 0, .slice none 0 0, .slice none 0 0, .slice none 0 0, .slice none 0 0, .slice none 0 0, .int .i64 0, .slice none 0 0, .slice none 0 0, .slice none 0 0, .slice none 0 0, .int .i64 0, .int .i64 0, .int .i64 0, .int .i64 0, .slice none 0 0, .int .i64 0] 48)
           have hnW : w.heap.size ≤ V.heap.size := hB.size
           have hn1A : n1 < V.heap.size := hP.lt
           have hmA : m < V.heap.size := inSl_lt19 hT (by decide)
           replace hP := hP.below hal; replace hT := hT.below hal; replace hB := below_then hB hal; replace hx0 := hx0.below hal
           clear hal
           refine step_alloc_ry rfl rfl ?_
           refine hK.out _ _ (hP : PlS19 n1 m (V.alloc (.cells #[.int .i64 0, .int .i64 0, .int .i64 0, .int .i64 0, .int .i64 0, .int .i64 0, .slice none 0 0, .int .i64 0, .int .i64 0, .slice none 0 0, .slice none 0 0, .slice none 0 0, .slice none 0 0, .slice none 0 0, .slice none 0 0, .int .i64 0, .slice none 0 0, .slice none 0 0, .slice none 0 0, .slice none 0 0, .int .i64 0, .int .i64 0, .int .i64 0, .int .i64 0, .slice none 0 0, .int .i64 0] 48))) ?_
           try simp only [Act.put, List.setIfInBounds_toArray, List.set_cons_zero, List.set_cons_succ]
           clear hK hS
           generalize V.heap.size = nA at *
           generalize V.alloc (.cells #[.int .i64 0, .int .i64 0, .int .i64 0, .int .i64 0, .int .i64 0, .int .i64 0, .slice none 0 0, .int .i64 0, .int .i64 0, .slice none 0 0, .slice none 0 0, .slice none 0 0, .slice none 0 0, .slice none 0 0, .slice none 0 0, .int .i64 0, .slice none 0 0, .slice none 0 0, .slice none 0 0, .slice none 0 0, .int .i64 0, .int .i64 0, .int .i64 0, .int .i64 0, .slice none 0 0, .int .i64 0] 48) = V at *
           have hS : PlS19 n1 m V := hP
         rotate_left)
      | (skip
         replace k3 := k3
         replace h9 := h9
         replace hZ := hZ
         refine anyG_step (rs := [4]) (by kernel_rfl) (by simp) ?_
         refine AllG.cons rfl (fun K hK => ?_) AllG.nil
         go_simp
         refine (op19_any 2 2 _).mono ?_
         rintro e V ⟨rfl, hb⟩
         replace hP := hP.below hb; replace hT := hT.below hb; replace hB := below_then hB hb; replace hx0 := hx0.below hb; replace h9 := SlV.below h9 hb; replace hZ := hZ.below hb
         clear hb
         try go_wp2_with fail
         refine hK.out _ _ (hP : PlS19 n1 m V) ?_
         try simp only [Act.put, List.setIfInBounds_toArray, List.set_cons_zero, List.set_cons_succ]
         clear hK hS
         have hS : PlS19 n1 m V := hP
         have k4 := trivial)
      | (skip
         replace k3 := k3
         replace h9 := h9
         refine anyG_step (rs := [4, 15]) (by kernel_rfl) (by simp) ?_
         refine AllG.cons rfl (fun K hK => ?_) (AllG.cons rfl (fun K hK => ?_) AllG.nil)
         focus
           go_simp
           refine (op19_any 2 2 _).mono ?_
           rintro e V ⟨rfl, hb⟩
           replace hP := hP.below hb; replace hT := hT.below hb; replace hB := below_then hB hb; replace hx0 := hx0.below hb; replace h9 := SlV.below h9 hb
           clear hb
           try go_wp2_with fail
           refine hK.out _ _ (hP : PlS19 n1 m V) ?_
           try simp only [Act.put, List.setIfInBounds_toArray, List.set_cons_zero, List.set_cons_succ]
           clear hK hS
           have hS : PlS19 n1 m V := hP
           have k4 := trivial
         rotate_left
         focus
           have hZ : ryE.In (V.alloc (.cells #[.int .i64 0, .int .i64 0, .int .i64 0, .int .i64 0, .int .i64 0, .int .i64 0, .slice none 0 0, .int .i64 0, .int .i64 0, .slice none 0 0, .slice none 0 0, .slice none 0 0, .slice none 0 0, .slice none 0 0, .slice none 0 0, .int .i64 0, .slice none 0 0, .slice none 0 0, .slice none 0 0, .slice none 0 0, .int .i64 0, .int .i64 0, .int .i64 0, .int .i64 0, .slice none 0 0, .int .i64 0] 48)) V.heap.size Rlw.zero := El.In.new (E := ryE) V Rlw.zero _ rfl
           have hal := below_alloc (Below.refl V.heap.size V) (.cells #[.int .i64 0, .int .i64 0, .int .i64 0, .int .i64 0, .int .i64 0, .int .i64 0, .slice none 0 0, .int .i64 0, .int .i64 0, .slice none 0 0, .slice none 0 0, .slice none 0 0, .slice none 0 0, .slice none 0 0, .slice none 0 0, .int .i64 0, .slice none 0 0, .slice none 0 0, .slice none 0 0, .slice none 0 0, .int .i64 0, .int .i64 0, .int .i64 0, .int .i64 0, .slice none 0 0, .int .i64 0] 48)
           have hnW : w.heap.size ≤ V.heap.size := hB.size
           have hn1A : n1 < V.heap.size := hP.lt
           have hmA : m < V.heap.size := inSl_lt19 hT (by decide)
           replace hP := hP.below hal; replace hT := hT.below hal; replace hB := below_then hB hal; replace hx0 := hx0.below hal; replace h9 := SlV.below h9 hal
           clear hal
           refine step_alloc_ry rfl rfl ?_
           refine hK.out _ _ (hP : PlS19 n1 m (V.alloc (.cells #[.int .i64 0, .int .i64 0, .int .i64 0, .int .i64 0, .int .i64 0, .int .i64 0, .slice none 0 0, .int .i64 0, .int .i64 0, .slice none 0 0, .slice none 0 0, .slice none 0 0, .slice none 0 0, .slice none 0 0, .slice none 0 0, .int .i64 0, .slice none 0 0, .slice none 0 0, .slice none 0 0, .slice none 0 0, .int .i64 0, .int .i64 0, .int .i64 0, .int .i64 0, .slice none 0 0, .int .i64 0] 48))) ?_
           try simp only [Act.put, List.setIfInBounds_toArray, List.set_cons_zero, List.set_cons_succ]
           clear hK hS
           generalize V.heap.size = nA at *
           generalize V.alloc (.cells #[.int .i64 0, .int .i64 0, .int .i64 0, .int .i64 0, .int .i64 0, .int .i64 0, .slice none 0 0, .int .i64 0, .int .i64 0, .slice none 0 0, .slice none 0 0, .slice none 0 0, .slice none 0 0, .slice none 0 0, .slice none 0 0, .int .i64 0, .slice none 0 0, .slice none 0 0, .slice none 0 0, .slice none 0 0, .int .i64 0, .int .i64 0, .int .i64 0, .int .i64 0, .slice none 0 0, .int .i64 0] 48) = V at *
           have hS : PlS19 n1 m V := hP
         rotate_left)
      | (skip
         replace k3 := k3
         replace hZ := hZ
         refine anyG_step (rs := [4, 9]) (by kernel_rfl) (by simp) ?_
         refine AllG.cons rfl (fun K hK => ?_) (AllG.cons rfl (fun K hK => ?_) AllG.nil)
         focus
           go_simp
           refine (op19_any 2 2 _).mono ?_
           rintro e V ⟨rfl, hb⟩
           replace hP := hP.below hb; replace hT := hT.below hb; replace hB := below_then hB hb; replace hx0 := hx0.below hb; replace hZ := hZ.below hb
           clear hb
           try go_wp2_with fail
           refine hK.out _ _ (hP : PlS19 n1 m V) ?_
           try simp only [Act.put, List.setIfInBounds_toArray, List.set_cons_zero, List.set_cons_succ]
           clear hK hS
           have hS : PlS19 n1 m V := hP
           have k4 := trivial
         rotate_left
         focus
           have h9 : SlV rpE (V.alloc (.cells #[.int .i64 2, .int .i64 1, .int .i64 0, .int .i64 0, .int .i64 1, .int .i64 0, .int .i64 0, .int .i64 0, .int .i64 0, .int .i64 3, .int .i64 1, .int .i64 0, .int .i64 0, .int .i64 1, .int .i64 0, .int .i64 0, .int .i64 0, .int .i64 0] 59)) (some ⟨V.heap.size, 0, none⟩) 2 [r19 2, r19 3] := ⟨El.Sl.row (E := rpE) V [r19 2, r19 3] #[.int .i64 2, .int .i64 1, .int .i64 0, .int .i64 0, .int .i64 1, .int .i64 0, .int .i64 0, .int .i64 0, .int .i64 0, .int .i64 3, .int .i64 1, .int .i64 0, .int .i64 0, .int .i64 1, .int .i64 0, .int .i64 0, .int .i64 0, .int .i64 0] rfl, (fun e => by cases e), Nat.le_refl _⟩
           have hal := below_alloc (Below.refl V.heap.size V) (.cells #[.int .i64 2, .int .i64 1, .int .i64 0, .int .i64 0, .int .i64 1, .int .i64 0, .int .i64 0, .int .i64 0, .int .i64 0, .int .i64 3, .int .i64 1, .int .i64 0, .int .i64 0, .int .i64 1, .int .i64 0, .int .i64 0, .int .i64 0, .int .i64 0] 59)
           replace hP := hP.below hal; replace hT := hT.below hal; replace hB := below_then hB hal; replace hx0 := hx0.below hal; replace hZ := hZ.below hal
           clear hal
           go_simp
           refine hK.out _ _ (hP : PlS19 n1 m (V.alloc (.cells #[.int .i64 2, .int .i64 1, .int .i64 0, .int .i64 0, .int .i64 1, .int .i64 0, .int .i64 0, .int .i64 0, .int .i64 0, .int .i64 3, .int .i64 1, .int .i64 0, .int .i64 0, .int .i64 1, .int .i64 0, .int .i64 0, .int .i64 0, .int .i64 0] 59))) ?_
           try simp only [Act.put, List.setIfInBounds_toArray, List.set_cons_zero, List.set_cons_succ]
           clear hK hS
           generalize V.heap.size = n9 at *
           generalize V.alloc (.cells #[.int .i64 2, .int .i64 1, .int .i64 0, .int .i64 0, .int .i64 1, .int .i64 0, .int .i64 0, .int .i64 0, .int .i64 0, .int .i64 3, .int .i64 1, .int .i64 0, .int .i64 0, .int .i64 1, .int .i64 0, .int .i64 0, .int .i64 0, .int .i64 0] 59) = V at *
           have hS : PlS19 n1 m V := hP
         rotate_left)
      | (skip
         replace k3 := k3
         refine anyG_step (rs := [4, 9, 15]) (by kernel_rfl) (by simp) ?_
         refine AllG.cons rfl (fun K hK => ?_) (AllG.cons rfl (fun K hK => ?_) (AllG.cons rfl (fun K hK => ?_) AllG.nil))
         focus
           go_simp
           refine (op19_any 2 2 _).mono ?_
           rintro e V ⟨rfl, hb⟩
           replace hP := hP.below hb; replace hT := hT.below hb; replace hB := below_then hB hb; replace hx0 := hx0.below hb
           clear hb
           try go_wp2_with fail
           refine hK.out _ _ (hP : PlS19 n1 m V) ?_
           try simp only [Act.put, List.setIfInBounds_toArray, List.set_cons_zero, List.set_cons_succ]
           clear hK hS
           have hS : PlS19 n1 m V := hP
           have k4 := trivial
         rotate_left
         focus
           have h9 : SlV rpE (V.alloc (.cells #[.int .i64 2, .int .i64 1, .int .i64 0, .int .i64 0, .int .i64 1, .int .i64 0, .int .i64 0, .int .i64 0, .int .i64 0, .int .i64 3, .int .i64 1, .int .i64 0, .int .i64 0, .int .i64 1, .int .i64 0, .int .i64 0, .int .i64 0, .int .i64 0] 59)) (some ⟨V.heap.size, 0, none⟩) 2 [r19 2, r19 3] := ⟨El.Sl.row (E := rpE) V [r19 2, r19 3] #[.int .i64 2, .int .i64 1, .int .i64 0, .int .i64 0, .int .i64 1, .int .i64 0, .int .i64 0, .int .i64 0, .int .i64 0, .int .i64 3, .int .i64 1, .int .i64 0, .int .i64 0, .int .i64 1, .int .i64 0, .int .i64 0, .int .i64 0, .int .i64 0] rfl, (fun e => by cases e), Nat.le_refl _⟩
           have hal := below_alloc (Below.refl V.heap.size V) (.cells #[.int .i64 2, .int .i64 1, .int .i64 0, .int .i64 0, .int .i64 1, .int .i64 0, .int .i64 0, .int .i64 0, .int .i64 0, .int .i64 3, .int .i64 1, .int .i64 0, .int .i64 0, .int .i64 1, .int .i64 0, .int .i64 0, .int .i64 0, .int .i64 0] 59)
           replace hP := hP.below hal; replace hT := hT.below hal; replace hB := below_then hB hal; replace hx0 := hx0.below hal
           clear hal
           go_simp
           refine hK.out _ _ (hP : PlS19 n1 m (V.alloc (.cells #[.int .i64 2, .int .i64 1, .int .i64 0, .int .i64 0, .int .i64 1, .int .i64 0, .int .i64 0, .int .i64 0, .int .i64 0, .int .i64 3, .int .i64 1, .int .i64 0, .int .i64 0, .int .i64 1, .int .i64 0, .int .i64 0, .int .i64 0, .int .i64 0] 59))) ?_
           try simp only [Act.put, List.setIfInBounds_toArray, List.set_cons_zero, List.set_cons_succ]
           clear hK hS
           generalize V.heap.size = n9 at *
           generalize V.alloc (.cells #[.int .i64 2, .int .i64 1, .int .i64 0, .int .i64 0, .int .i64 1, .int .i64 0, .int .i64 0, .int .i64 0, .int .i64 0, .int .i64 3, .int .i64 1, .int .i64 0, .int .i64 0, .int .i64 1, .int .i64 0, .int .i64 0, .int .i64 0, .int .i64 0] 59) = V at *
           have hS : PlS19 n1 m V := hP
         rotate_left
         focus
           have hZ : ryE.In (V.alloc (.cells #[.int .i64 0, .int .i64 0, .int .i64 0, .int .i64 0, .int .i64 0, .int .i64 0, .slice none 0 0, .int .i64 0, .int .i64 0, .slice none 0 0, .slice none 0 0, .slice none 0 0, .slice none 0 0, .slice none 0 0, .slice none 0 0, .int .i64 0, .slice none 0 0, .slice none 0 0, .slice none 0 0, .slice none 0 0, .int .i64 0, .int .i64 0, .int .i64 0, .int .i64 0, .slice none 0 0, .int .i64 0] 48)) V.heap.size Rlw.zero := El.In.new (E := ryE) V Rlw.zero _ rfl
           have hal := below_alloc (Below.refl V.heap.size V) (.cells #[.int .i64 0, .int .i64 0, .int .i64 0, .int .i64 0, .int .i64 0, .int .i64 0, .slice none 0 0, .int .i64 0, .int .i64 0, .slice none 0 0, .slice none 0 0, .slice none 0 0, .slice none 0 0, .slice none 0 0, .slice none 0 0, .int .i64 0, .slice none 0 0, .slice none 0 0, .slice none 0 0, .slice none 0 0, .int .i64 0, .int .i64 0, .int .i64 0, .int .i64 0, .slice none 0 0, .int .i64 0] 48)
           have hnW : w.heap.size ≤ V.heap.size := hB.size
           have hn1A : n1 < V.heap.size := hP.lt
           have hmA : m < V.heap.size := inSl_lt19 hT (by decide)
           replace hP := hP.below hal; replace hT := hT.below hal; replace hB := below_then hB hal; replace hx0 := hx0.below hal
           clear hal
           refine step_alloc_ry rfl rfl ?_
           refine hK.out _ _ (hP : PlS19 n1 m (V.alloc (.cells #[.int .i64 0, .int .i64 0, .int .i64 0, .int .i64 0, .int .i64 0, .int .i64 0, .slice none 0 0, .int .i64 0, .int .i64 0, .slice none 0 0, .slice none 0 0, .slice none 0 0, .slice none 0 0, .slice none 0 0, .slice none 0 0, .int .i64 0, .slice none 0 0, .slice none 0 0, .slice none 0 0, .slice none 0 0, .int .i64 0, .int .i64 0, .int .i64 0, .int .i64 0, .slice none 0 0, .int .i64 0] 48))) ?_
           try simp only [Act.put, List.setIfInBounds_toArray, List.set_cons_zero, List.set_cons_succ]
           clear hK hS
           generalize V.heap.size = nA at *
           generalize V.alloc (.cells #[.int .i64 0, .int .i64 0, .int .i64 0, .int .i64 0, .int .i64 0, .int .i64 0, .slice none 0 0, .int .i64 0, .int .i64 0, .slice none 0 0, .slice none 0 0, .slice none 0 0, .slice none 0 0, .slice none 0 0, .slice none 0 0, .int .i64 0, .slice none 0 0, .slice none 0 0, .slice none 0 0, .slice none 0 0, .int .i64 0, .int .i64 0, .int .i64 0, .int .i64 0, .slice none 0 0, .int .i64 0] 48) = V at *
           have hS : PlS19 n1 m V := hP
         rotate_left)
      | (skip
         replace hx0 := hx0
         replace h9 := h9
         replace hZ := hZ
         refine anyG_step (rs := [3]) (by kernel_rfl) (by simp) ?_
         refine AllG.cons rfl (fun K hK => ?_) AllG.nil
         go_simp
         refine (op19_any 1 2 _).mono ?_
         rintro e V ⟨rfl, hb⟩
         replace hP := hP.below hb; replace hT := hT.below hb; replace hB := below_then hB hb; replace hx0 := hx0.below hb; replace h9 := SlV.below h9 hb; replace hZ := hZ.below hb
         clear hb
         try go_wp2_with fail
         refine hK.out _ _ (hP : PlS19 n1 m V) ?_
         try simp only [Act.put, List.setIfInBounds_toArray, List.set_cons_zero, List.set_cons_succ]
         clear hK hS
         have hS : PlS19 n1 m V := hP
         have k3 := trivial)
      | (skip
         replace hx0 := hx0
         replace h9 := h9
         refine anyG_step (rs := [3, 15]) (by kernel_rfl) (by simp) ?_
         refine AllG.cons rfl (fun K hK => ?_) (AllG.cons rfl (fun K hK => ?_) AllG.nil)
         focus
           go_simp
           refine (op19_any 1 2 _).mono ?_
           rintro e V ⟨rfl, hb⟩
           replace hP := hP.below hb; replace hT := hT.below hb; replace hB := below_then hB hb; replace hx0 := hx0.below hb; replace h9 := SlV.below h9 hb
           clear hb
           try go_wp2_with fail
           refine hK.out _ _ (hP : PlS19 n1 m V) ?_
           try simp only [Act.put, List.setIfInBounds_toArray, List.set_cons_zero, List.set_cons_succ]
           clear hK hS
           have hS : PlS19 n1 m V := hP
           have k3 := trivial
         rotate_left
         focus
           have hZ : ryE.In (V.alloc (.cells #[.int .i64 0, .int .i64 0, .int .i64 0, .int .i64 0, .int .i64 0, .int .i64 0, .slice none 0 0, .int .i64 0, .int .i64 0, .slice none 0 0, .slice none 0 0, .slice none 0 0, .slice none 0 0, .slice none 0 0, .slice none 0 0, .int .i64 0, .slice none 0 0, .slice none 0 0, .slice none 0 0, .slice none 0 0, .int .i64 0, .int .i64 0, .int .i64 0, .int .i64 0, .slice none 0 0, .int .i64 0] 48)) V.heap.size Rlw.zero := El.In.new (E := ryE) V Rlw.zero _ rfl
           have hal := below_alloc (Below.refl V.heap.size V) (.cells #[.int .i64 0, .int .i64 0, .int .i64 0, .int .i64 0, .int .i64 0, .int .i64 0, .slice none 0 0, .int .i64 0, .int .i64 0, .slice none 0 0, .slice none 0 0, .slice none 0 0, .slice none 0 0, .slice none 0 0, .slice none 0 0, .int .i64 0, .slice none 0 0, .slice none 0 0, .slice none 0 0, .slice none 0 0, .int .i64 0, .int .i64 0, .int .i64 0, .int .i64 0, .slice none 0 0, .int .i64 0] 48)
           have hnW : w.heap.size ≤ V.heap.size := hB.size
           have hn1A : n1 < V.heap.size := hP.lt
           have hmA : m < V.heap.size := inSl_lt19 hT (by decide)
           replace hP := hP.below hal; replace hT := hT.below hal; replace hB := below_then hB hal; replace hx0 := hx0.below hal; replace h9 := SlV.below h9 hal
           clear hal
           refine step_alloc_ry rfl rfl ?_
           refine hK.out _ _ (hP : PlS19 n1 m (V.alloc (.cells #[.int .i64 0, .int .i64 0, .int .i64 0, .int .i64 0, .int .i64 0, .int .i64 0, .slice none 0 0, .int .i64 0, .int .i64 0, .slice none 0 0, .slice none 0 0, .slice none 0 0, .slice none 0 0, .slice none 0 0, .slice none 0 0, .int .i64 0, .slice none 0 0, .slice none 0 0, .slice none 0 0, .slice none 0 0, .int .i64 0, .int .i64 0, .int .i64 0, .int .i64 0, .slice none 0 0, .int .i64 0] 48))) ?_
           try simp only [Act.put, List.setIfInBounds_toArray, List.set_cons_zero, List.set_cons_succ]
           clear hK hS
           generalize V.heap.size = nA at *
           generalize V.alloc (.cells #[.int .i64 0, .int .i64 0, .int .i64 0, .int .i64 0, .int .i64 0, .int .i64 0, .slice none 0 0, .int .i64 0, .int .i64 0, .slice none 0 0, .slice none 0 0, .slice none 0 0, .slice none 0 0, .slice none 0 0, .slice none 0 0, .int .i64 0, .slice none 0 0, .slice none 0 0, .slice none 0 0, .slice none 0 0, .int .i64 0, .int .i64 0, .int .i64 0, .int .i64 0, .slice none 0 0, .int .i64 0] 48) = V at *
           have hS : PlS19 n1 m V := hP
         rotate_left)
      | (skip
         replace hx0 := hx0
         replace hZ := hZ
         refine anyG_step (rs := [3, 9]) (by kernel_rfl) (by simp) ?_
         refine AllG.cons rfl (fun K hK => ?_) (AllG.cons rfl (fun K hK => ?_) AllG.nil)
         focus
           go_simp
           refine (op19_any 1 2 _).mono ?_
           rintro e V ⟨rfl, hb⟩
           replace hP := hP.below hb; replace hT := hT.below hb; replace hB := below_then hB hb; replace hx0 := hx0.below hb; replace hZ := hZ.below hb
           clear hb
           try go_wp2_with fail
           refine hK.out _ _ (hP : PlS19 n1 m V) ?_
           try simp only [Act.put, List.setIfInBounds_toArray, List.set_cons_zero, List.set_cons_succ]
           clear hK hS
           have hS : PlS19 n1 m V := hP
           have k3 := trivial
         rotate_left
         focus
           have h9 : SlV rpE (V.alloc (.cells #[.int .i64 2, .int .i64 1, .int .i64 0, .int .i64 0, .int .i64 1, .int .i64 0, .int .i64 0, .int .i64 0, .int .i64 0, .int .i64 3, .int .i64 1, .int .i64 0, .int .i64 0, .int .i64 1, .int .i64 0, .int .i64 0, .int .i64 0, .int .i64 0] 59)) (some ⟨V.heap.size, 0, none⟩) 2 [r19 2, r19 3] := ⟨El.Sl.row (E := rpE) V [r19 2, r19 3] #[.int .i64 2, .int .i64 1, .int .i64 0, .int .i64 0, .int .i64 1, .int .i64 0, .int .i64 0, .int .i64 0, .int .i64 0, .int .i64 3, .int .i64 1, .int .i64 0, .int .i64 0, .int .i64 1, .int .i64 0, .int .i64 0, .int .i64 0, .int .i64 0] rfl, (fun e => by cases e), Nat.le_refl _⟩
           have hal := below_alloc (Below.refl V.heap.size V) (.cells #[.int .i64 2, .int .i64 1, .int .i64 0, .int .i64 0, .int .i64 1, .int .i64 0, .int .i64 0, .int .i64 0, .int .i64 0, .int .i64 3, .int .i64 1, .int .i64 0, .int .i64 0, .int .i64 1, .int .i64 0, .int .i64 0, .int .i64 0, .int .i64 0] 59)
           replace hP := hP.below hal; replace hT := hT.below hal; replace hB := below_then hB hal; replace hx0 := hx0.below hal; replace hZ := hZ.below hal
           clear hal
           go_simp
           refine hK.out _ _ (hP : PlS19 n1 m (V.alloc (.cells #[.int .i64 2, .int .i64 1, .int .i64 0, .int .i64 0, .int .i64 1, .int .i64 0, .int .i64 0, .int .i64 0, .int .i64 0, .int .i64 3, .int .i64 1, .int .i64 0, .int .i64 0, .int .i64 1, .int .i64 0, .int .i64 0, .int .i64 0, .int .i64 0] 59))) ?_
           try simp only [Act.put, List.setIfInBounds_toArray, List.set_cons_zero, List.set_cons_succ]
           clear hK hS
           generalize V.heap.size = n9 at *
           generalize V.alloc (.cells #[.int .i64 2, .int .i64 1, .int .i64 0, .int .i64 0, .int .i64 1, .int .i64 0, .int .i64 0, .int .i64 0, .int .i64 0, .int .i64 3, .int .i64 1, .int .i64 0, .int .i64 0, .int .i64 1, .int .i64 0, .int .i64 0, .int .i64 0, .int .i64 0] 59) = V at *
           have hS : PlS19 n1 m V := hP
         rotate_left)
      | (skip
         replace hx0 := hx0
         refine anyG_step (rs := [3, 9, 15]) (by kernel_rfl) (by simp) ?_
         refine AllG.cons rfl (fun K hK => ?_) (AllG.cons rfl (fun K hK => ?_) (AllG.cons rfl (fun K hK => ?_) AllG.nil))
         focus
           go_simp
           refine (op19_any 1 2 _).mono ?_
           rintro e V ⟨rfl, hb⟩
           replace hP := hP.below hb; replace hT := hT.below hb; replace hB := below_then hB hb; replace hx0 := hx0.below hb
           clear hb
           try go_wp2_with fail
           refine hK.out _ _ (hP : PlS19 n1 m V) ?_
           try simp only [Act.put, List.setIfInBounds_toArray, List.set_cons_zero, List.set_cons_succ]
           clear hK hS
           have hS : PlS19 n1 m V := hP
           have k3 := trivial
         rotate_left
         focus
           have h9 : SlV rpE (V.alloc (.cells #[.int .i64 2, .int .i64 1, .int .i64 0, .int .i64 0, .int .i64 1, .int .i64 0, .int .i64 0, .int .i64 0, .int .i64 0, .int .i64 3, .int .i64 1, .int .i64 0, .int .i64 0, .int .i64 1, .int .i64 0, .int .i64 0, .int .i64 0, .int .i64 0] 59)) (some ⟨V.heap.size, 0, none⟩) 2 [r19 2, r19 3] := ⟨El.Sl.row (E := rpE) V [r19 2, r19 3] #[.int .i64 2, .int .i64 1, .int .i64 0, .int .i64 0, .int .i64 1, .int .i64 0, .int .i64 0, .int .i64 0, .int .i64 0, .int .i64 3, .int .i64 1, .int .i64 0, .int .i64 0, .int .i64 1, .int .i64 0, .int .i64 0, .int .i64 0, .int .i64 0] rfl, (fun e => by cases e), Nat.le_refl _⟩
           have hal := below_alloc (Below.refl V.heap.size V) (.cells #[.int .i64 2, .int .i64 1, .int .i64 0, .int .i64 0, .int .i64 1, .int .i64 0, .int .i64 0, .int .i64 0, .int .i64 0, .int .i64 3, .int .i64 1, .int .i64 0, .int .i64 0, .int .i64 1, .int .i64 0, .int .i64 0, .int .i64 0, .int .i64 0] 59)
           replace hP := hP.below hal; replace hT := hT.below hal; replace hB := below_then hB hal; replace hx0 := hx0.below hal
           clear hal
           go_simp
           refine hK.out _ _ (hP : PlS19 n1 m (V.alloc (.cells #[.int .i64 2, .int .i64 1, .int .i64 0, .int .i64 0, .int .i64 1, .int .i64 0, .int .i64 0, .int .i64 0, .int .i64 0, .int .i64 3, .int .i64 1, .int .i64 0, .int .i64 0, .int .i64 1, .int .i64 0, .int .i64 0, .int .i64 0, .int .i64 0] 59))) ?_
           try simp only [Act.put, List.setIfInBounds_toArray, List.set_cons_zero, List.set_cons_succ]
           clear hK hS
           generalize V.heap.size = n9 at *
           generalize V.alloc (.cells #[.int .i64 2, .int .i64 1, .int .i64 0, .int .i64 0, .int .i64 1, .int .i64 0, .int .i64 0, .int .i64 0, .int .i64 0, .int .i64 3, .int .i64 1, .int .i64 0, .int .i64 0, .int .i64 1, .int .i64 0, .int .i64 0, .int .i64 0, .int .i64 0] 59) = V at *
           have hS : PlS19 n1 m V := hP
         rotate_left
         focus
           have hZ : ryE.In (V.alloc (.cells #[.int .i64 0, .int .i64 0, .int .i64 0, .int .i64 0, .int .i64 0, .int .i64 0, .slice none 0 0, .int .i64 0, .int .i64 0, .slice none 0 0, .slice none 0 0, .slice none 0 0, .slice none 0 0, .slice none 0 0, .slice none 0 0, .int .i64 0, .slice none 0 0, .slice none 0 0, .slice none 0 0, .slice none 0 0, .int .i64 0, .int .i64 0, .int .i64 0, .int .i64 0, .slice none 0 0, .int .i64 0] 48)) V.heap.size Rlw.zero := El.In.new (E := ryE) V Rlw.zero _ rfl
           have hal := below_alloc (Below.refl V.heap.size V) (.cells #[.int .i64 0, .int .i64 0, .int .i64 0, .int .i64 0, .int .i64 0, .int .i64 0, .slice none 0 0, .int .i64 0, .int .i64 0, .slice none 0 0, .slice none 0 0, .slice none 0 0, .slice none 0 0, .slice none 0 0, .slice none 0 0, .int .i64 0, .slice none 0 0, .slice none 0 0, .slice none 0 0, .slice none 0 0, .int .i64 0, .int .i64 0, .int .i64 0, .int .i64 0, .slice none 0 0, .int .i64 0] 48)
           have hnW : w.heap.size ≤ V.heap.size := hB.size
           have hn1A : n1 < V.heap.size := hP.lt
           have hmA : m < V.heap.size := inSl_lt19 hT (by decide)
           replace hP := hP.below hal; replace hT := hT.below hal; replace hB := below_then hB hal; replace hx0 := hx0.below hal
           clear hal
           refine step_alloc_ry rfl rfl ?_
           refine hK.out _ _ (hP : PlS19 n1 m (V.alloc (.cells #[.int .i64 0, .int .i64 0, .int .i64 0, .int .i64 0, .int .i64 0, .int .i64 0, .slice none 0 0, .int .i64 0, .int .i64 0, .slice none 0 0, .slice none 0 0, .slice none 0 0, .slice none 0 0, .slice none 0 0, .slice none 0 0, .int .i64 0, .slice none 0 0, .slice none 0 0, .slice none 0 0, .slice none 0 0, .int .i64 0, .int .i64 0, .int .i64 0, .int .i64 0, .slice none 0 0, .int .i64 0] 48))) ?_
           try simp only [Act.put, List.setIfInBounds_toArray, List.set_cons_zero, List.set_cons_succ]
           clear hK hS
           generalize V.heap.size = nA at *
           generalize V.alloc (.cells #[.int .i64 0, .int .i64 0, .int .i64 0, .int .i64 0, .int .i64 0, .int .i64 0, .slice none 0 0, .int .i64 0, .int .i64 0, .slice none 0 0, .slice none 0 0, .slice none 0 0, .slice none 0 0, .slice none 0 0, .slice none 0 0, .int .i64 0, .slice none 0 0, .slice none 0 0, .slice none 0 0, .slice none 0 0, .int .i64 0, .int .i64 0, .int .i64 0, .int .i64 0, .slice none 0 0, .int .i64 0] 48) = V at *
           have hS : PlS19 n1 m V := hP
         rotate_left)
      | (skip
         replace h9 := h9
         replace hZ := hZ
         refine anyG_step (rs := [2]) (by kernel_rfl) (by simp) ?_
         refine AllG.cons rfl (fun K hK => ?_) AllG.nil
         go_simp
         refine (newAt19 H m _ hT).mono ?_
         rintro e V ⟨x0, rfl, hx0, hvx0, hb⟩
         replace hP := hP.below hb; replace hT := hT.below hb; replace hB := below_then hB hb; replace h9 := SlV.below h9 hb; replace hZ := hZ.below hb
         clear hb
         try go_wp2_with fail
         refine hK.out _ _ (hP : PlS19 n1 m V) ?_
         try simp only [Act.put, List.setIfInBounds_toArray, List.set_cons_zero, List.set_cons_succ]
         clear hK hS
         have hS : PlS19 n1 m V := hP)
      | (skip
         replace h9 := h9
         refine anyG_step (rs := [2, 15]) (by kernel_rfl) (by simp) ?_
         refine AllG.cons rfl (fun K hK => ?_) (AllG.cons rfl (fun K hK => ?_) AllG.nil)
         focus
           go_simp
           refine (newAt19 H m _ hT).mono ?_
           rintro e V ⟨x0, rfl, hx0, hvx0, hb⟩
           replace hP := hP.below hb; replace hT := hT.below hb; replace hB := below_then hB hb; replace h9 := SlV.below h9 hb
           clear hb
           try go_wp2_with fail
           refine hK.out _ _ (hP : PlS19 n1 m V) ?_
           try simp only [Act.put, List.setIfInBounds_toArray, List.set_cons_zero, List.set_cons_succ]
           clear hK hS
           have hS : PlS19 n1 m V := hP
         rotate_left
         focus
           have hZ : ryE.In (V.alloc (.cells #[.int .i64 0, .int .i64 0, .int .i64 0, .int .i64 0, .int .i64 0, .int .i64 0, .slice none 0 0, .int .i64 0, .int .i64 0, .slice none 0 0, .slice none 0 0, .slice none 0 0, .slice none 0 0, .slice none 0 0, .slice none 0 0, .int .i64 0, .slice none 0 0, .slice none 0 0, .slice none 0 0, .slice none 0 0, .int .i64 0, .int .i64 0, .int .i64 0, .int .i64 0, .slice none 0 0, .int .i64 0] 48)) V.heap.size Rlw.zero := El.In.new (E := ryE) V Rlw.zero _ rfl
           have hal := below_alloc (Below.refl V.heap.size V) (.cells #[.int .i64 0, .int .i64 0, .int .i64 0, .int .i64 0, .int .i64 0, .int .i64 0, .slice none 0 0, .int .i64 0, .int .i64 0, .slice none 0 0, .slice none 0 0, .slice none 0 0, .slice none 0 0, .slice none 0 0, .slice none 0 0, .int .i64 0, .slice none 0 0, .slice none 0 0, .slice none 0 0, .slice none 0 0, .int .i64 0, .int .i64 0, .int .i64 0, .int .i64 0, .slice none 0 0, .int .i64 0] 48)
           have hnW : w.heap.size ≤ V.heap.size := hB.size
           have hn1A : n1 < V.heap.size := hP.lt
           have hmA : m < V.heap.size := inSl_lt19 hT (by decide)
           replace hP := hP.below hal; replace hT := hT.below hal; replace hB := below_then hB hal; replace h9 := SlV.below h9 hal
           clear hal
           refine step_alloc_ry rfl rfl ?_
           refine hK.out _ _ (hP : PlS19 n1 m (V.alloc (.cells #[.int .i64 0, .int .i64 0, .int .i64 0, .int .i64 0, .int .i64 0, .int .i64 0, .slice none 0 0, .int .i64 0, .int .i64 0, .slice none 0 0, .slice none 0 0, .slice none 0 0, .slice none 0 0, .slice none 0 0, .slice none 0 0, .int .i64 0, .slice none 0 0, .slice none 0 0, .slice none 0 0, .slice none 0 0, .int .i64 0, .int .i64 0, .int .i64 0, .int .i64 0, .slice none 0 0, .int .i64 0] 48))) ?_
           try simp only [Act.put, List.setIfInBounds_toArray, List.set_cons_zero, List.set_cons_succ]
           clear hK hS
           generalize V.heap.size = nA at *
           generalize V.alloc (.cells #[.int .i64 0, .int .i64 0, .int .i64 0, .int .i64 0, .int .i64 0, .int .i64 0, .slice none 0 0, .int .i64 0, .int .i64 0, .slice none 0 0, .slice none 0 0, .slice none 0 0, .slice none 0 0, .slice none 0 0, .slice none 0 0, .int .i64 0, .slice none 0 0, .slice none 0 0, .slice none 0 0, .slice none 0 0, .int .i64 0, .int .i64 0, .int .i64 0, .int .i64 0, .slice none 0 0, .int .i64 0] 48) = V at *
           have hS : PlS19 n1 m V := hP
         rotate_left)
      | (skip
         replace hZ := hZ
         refine anyG_step (rs := [2, 9]) (by kernel_rfl) (by simp) ?_
         refine AllG.cons rfl (fun K hK => ?_) (AllG.cons rfl (fun K hK => ?_) AllG.nil)
         focus
           go_simp
           refine (newAt19 H m _ hT).mono ?_
           rintro e V ⟨x0, rfl, hx0, hvx0, hb⟩
           replace hP := hP.below hb; replace hT := hT.below hb; replace hB := below_then hB hb; replace hZ := hZ.below hb
           clear hb
           try go_wp2_with fail
           refine hK.out _ _ (hP : PlS19 n1 m V) ?_
           try simp only [Act.put, List.setIfInBounds_toArray, List.set_cons_zero, List.set_cons_succ]
           clear hK hS
           have hS : PlS19 n1 m V := hP
         rotate_left
         focus
           have h9 : SlV rpE (V.alloc (.cells #[.int .i64 2, .int .i64 1, .int .i64 0, .int .i64 0, .int .i64 1, .int .i64 0, .int .i64 0, .int .i64 0, .int .i64 0, .int .i64 3, .int .i64 1, .int .i64 0, .int .i64 0, .int .i64 1, .int .i64 0, .int .i64 0, .int .i64 0, .int .i64 0] 59)) (some ⟨V.heap.size, 0, none⟩) 2 [r19 2, r19 3] := ⟨El.Sl.row (E := rpE) V [r19 2, r19 3] #[.int .i64 2, .int .i64 1, .int .i64 0, .int .i64 0, .int .i64 1, .int .i64 0, .int .i64 0, .int .i64 0, .int .i64 0, .int .i64 3, .int .i64 1, .int .i64 0, .int .i64 0, .int .i64 1, .int .i64 0, .int .i64 0, .int .i64 0, .int .i64 0] rfl, (fun e => by cases e), Nat.le_refl _⟩
           have hal := below_alloc (Below.refl V.heap.size V) (.cells #[.int .i64 2, .int .i64 1, .int .i64 0, .int .i64 0, .int .i64 1, .int .i64 0, .int .i64 0, .int .i64 0, .int .i64 0, .int .i64 3, .int .i64 1, .int .i64 0, .int .i64 0, .int .i64 1, .int .i64 0, .int .i64 0, .int .i64 0, .int .i64 0] 59)
           replace hP := hP.below hal; replace hT := hT.below hal; replace hB := below_then hB hal; replace hZ := hZ.below hal
           clear hal
           go_simp
           refine hK.out _ _ (hP : PlS19 n1 m (V.alloc (.cells #[.int .i64 2, .int .i64 1, .int .i64 0, .int .i64 0, .int .i64 1, .int .i64 0, .int .i64 0, .int .i64 0, .int .i64 0, .int .i64 3, .int .i64 1, .int .i64 0, .int .i64 0, .int .i64 1, .int .i64 0, .int .i64 0, .int .i64 0, .int .i64 0] 59))) ?_
           try simp only [Act.put, List.setIfInBounds_toArray, List.set_cons_zero, List.set_cons_succ]
           clear hK hS
           generalize V.heap.size = n9 at *
           generalize V.alloc (.cells #[.int .i64 2, .int .i64 1, .int .i64 0, .int .i64 0, .int .i64 1, .int .i64 0, .int .i64 0, .int .i64 0, .int .i64 0, .int .i64 3, .int .i64 1, .int .i64 0, .int .i64 0, .int .i64 1, .int .i64 0, .int .i64 0, .int .i64 0, .int .i64 0] 59) = V at *
           have hS : PlS19 n1 m V := hP
         rotate_left)
      | (skip
         refine anyG_step (rs := [2, 9, 15]) (by kernel_rfl) (by simp) ?_
         refine AllG.cons rfl (fun K hK => ?_) (AllG.cons rfl (fun K hK => ?_) (AllG.cons rfl (fun K hK => ?_) AllG.nil))
         focus
           go_simp
           refine (newAt19 H m _ hT).mono ?_
           rintro e V ⟨x0, rfl, hx0, hvx0, hb⟩
           replace hP := hP.below hb; replace hT := hT.below hb; replace hB := below_then hB hb
           clear hb
           try go_wp2_with fail
           refine hK.out _ _ (hP : PlS19 n1 m V) ?_
           try simp only [Act.put, List.setIfInBounds_toArray, List.set_cons_zero, List.set_cons_succ]
           clear hK hS
           have hS : PlS19 n1 m V := hP
         rotate_left
         focus
           have h9 : SlV rpE (V.alloc (.cells #[.int .i64 2, .int .i64 1, .int .i64 0, .int .i64 0, .int .i64 1, .int .i64 0, .int .i64 0, .int .i64 0, .int .i64 0, .int .i64 3, .int .i64 1, .int .i64 0, .int .i64 0, .int .i64 1, .int .i64 0, .int .i64 0, .int .i64 0, .int .i64 0] 59)) (some ⟨V.heap.size, 0, none⟩) 2 [r19 2, r19 3] := ⟨El.Sl.row (E := rpE) V [r19 2, r19 3] #[.int .i64 2, .int .i64 1, .int .i64 0, .int .i64 0, .int .i64 1, .int .i64 0, .int .i64 0, .int .i64 0, .int .i64 0, .int .i64 3, .int .i64 1, .int .i64 0, .int .i64 0, .int .i64 1, .int .i64 0, .int .i64 0, .int .i64 0, .int .i64 0] rfl, (fun e => by cases e), Nat.le_refl _⟩
           have hal := below_alloc (Below.refl V.heap.size V) (.cells #[.int .i64 2, .int .i64 1, .int .i64 0, .int .i64 0, .int .i64 1, .int .i64 0, .int .i64 0, .int .i64 0, .int .i64 0, .int .i64 3, .int .i64 1, .int .i64 0, .int .i64 0, .int .i64 1, .int .i64 0, .int .i64 0, .int .i64 0, .int .i64 0] 59)
           replace hP := hP.below hal; replace hT := hT.below hal; replace hB := below_then hB hal
           clear hal
           go_simp
           refine hK.out _ _ (hP : PlS19 n1 m (V.alloc (.cells #[.int .i64 2, .int .i64 1, .int .i64 0, .int .i64 0, .int .i64 1, .int .i64 0, .int .i64 0, .int .i64 0, .int .i64 0, .int .i64 3, .int .i64 1, .int .i64 0, .int .i64 0, .int .i64 1, .int .i64 0, .int .i64 0, .int .i64 0, .int .i64 0] 59))) ?_
           try simp only [Act.put, List.setIfInBounds_toArray, List.set_cons_zero, List.set_cons_succ]
           clear hK hS
           generalize V.heap.size = n9 at *
           generalize V.alloc (.cells #[.int .i64 2, .int .i64 1, .int .i64 0, .int .i64 0, .int .i64 1, .int .i64 0, .int .i64 0, .int .i64 0, .int .i64 0, .int .i64 3, .int .i64 1, .int .i64 0, .int .i64 0, .int .i64 1, .int .i64 0, .int .i64 0, .int .i64 0, .int .i64 0] 59) = V at *
           have hS : PlS19 n1 m V := hP
         rotate_left
         focus
           have hZ : ryE.In (V.alloc (.cells #[.int .i64 0, .int .i64 0, .int .i64 0, .int .i64 0, .int .i64 0, .int .i64 0, .slice none 0 0, .int .i64 0, .int .i64 0, .slice none 0 0, .slice none 0 0, .slice none 0 0, .slice none 0 0, .slice none 0 0, .slice none 0 0, .int .i64 0, .slice none 0 0, .slice none 0 0, .slice none 0 0, .slice none 0 0, .int .i64 0, .int .i64 0, .int .i64 0, .int .i64 0, .slice none 0 0, .int .i64 0] 48)) V.heap.size Rlw.zero := El.In.new (E := ryE) V Rlw.zero _ rfl
           have hal := below_alloc (Below.refl V.heap.size V) (.cells #[.int .i64 0, .int .i64 0, .int .i64 0, .int .i64 0, .int .i64 0, .int .i64 0, .slice none 0 0, .int .i64 0, .int .i64 0, .slice none 0 0, .slice none 0 0, .slice none 0 0, .slice none 0 0, .slice none 0 0, .slice none 0 0, .int .i64 0, .slice none 0 0, .slice none 0 0, .slice none 0 0, .slice none 0 0, .int .i64 0, .int .i64 0, .int .i64 0, .int .i64 0, .slice none 0 0, .int .i64 0] 48)
           have hnW : w.heap.size ≤ V.heap.size := hB.size
           have hn1A : n1 < V.heap.size := hP.lt
           have hmA : m < V.heap.size := inSl_lt19 hT (by decide)
           replace hP := hP.below hal; replace hT := hT.below hal; replace hB := below_then hB hal
           clear hal
           refine step_alloc_ry rfl rfl ?_
           refine hK.out _ _ (hP : PlS19 n1 m (V.alloc (.cells #[.int .i64 0, .int .i64 0, .int .i64 0, .int .i64 0, .int .i64 0, .int .i64 0, .slice none 0 0, .int .i64 0, .int .i64 0, .slice none 0 0, .slice none 0 0, .slice none 0 0, .slice none 0 0, .slice none 0 0, .slice none 0 0, .int .i64 0, .slice none 0 0, .slice none 0 0, .slice none 0 0, .slice none 0 0, .int .i64 0, .int .i64 0, .int .i64 0, .int .i64 0, .slice none 0 0, .int .i64 0] 48))) ?_
           try simp only [Act.put, List.setIfInBounds_toArray, List.set_cons_zero, List.set_cons_succ]
           clear hK hS
           generalize V.heap.size = nA at *
           generalize V.alloc (.cells #[.int .i64 0, .int .i64 0, .int .i64 0, .int .i64 0, .int .i64 0, .int .i64 0, .slice none 0 0, .int .i64 0, .int .i64 0, .slice none 0 0, .slice none 0 0, .slice none 0 0, .slice none 0 0, .slice none 0 0, .slice none 0 0, .int .i64 0, .slice none 0 0, .slice none 0 0, .slice none 0 0, .slice none 0 0, .int .i64 0, .int .i64 0, .int .i64 0, .int .i64 0, .slice none 0 0, .int .i64 0] 48) = V at *
           have hS : PlS19 n1 m V := hP
         rotate_left))
  rintro x0 z n2 n6 n9 w2 ⟨hvz, ⟨hnw, hn12, hm2⟩, hE, hz, hP, hT, hB⟩
  have HVZ := Lib.hid hvz
  clear hvz
  go_upto_region 3 with fail
  apply wp_mergeB19 (fun z2 n4 n7 w' => z2.v = X2_19 ∧ ryE.In w' n2 z2 ∧ z2.ok w' ∧ pnE.In w' n1 (pl19 m) ∧ inE.Sl w' (some ⟨m, 0, none⟩) [-1, 0, 1, 1] ∧ Below w.heap.size w w')
  · refine region_anyG (S := SlA19 n1 n2 m z) 13 (by kernel_rfl) ?_
    have hd : Below w2.heap.size w2 w2.drew := (Below.refl _ _).drew
    replace hP : pnE.In w2.drew n1 (pl19 m) := hP
    replace hE : ryE.In w2.drew n2 z := hE
    replace hz := hz.below hd
    replace hT := hT.below hd
    replace hB := hB.drew
    clear hd
    generalize w2.drew = V0 at *
    have hS : SlA19 n1 n2 m z V0 := ⟨hP, hE⟩
    have CT2 := Lib.hid (fun (n4 n7 : Nat) (V : World) (hT : inE.Sl V (some ⟨m, 0, none⟩) [-1, 0, 1, 1]) (hz : z.ok V) (h4 : SlV enE V (some ⟨n4, 0, none⟩) 1 [⟨1, 0, 0, o19 1 2⟩]) (h7 : SlV gfE V (some ⟨n7, 0, none⟩) 2 [g19 3 2 1, g19 9 1 0]) => (takeAt19 H m z ⟨none, 0, none, 0, some ⟨n4, 0, none⟩, 1, some ⟨n7, 0, none⟩, 2, f2_19⟩ V 1 (by omega) hT hz ⟨SlV.nil _ _, SlV.nil _ _, h4, h7⟩ HVZ.out X1_r ft2_19 (show f2_19.s ≤ 1073741824 by decide) take2_19 : Calls Try.prog 9 #[.agg #[.slice (some ⟨m, 0, none⟩) 4 4, .int .i64 2, .int .i64 2, .int .i64 2, .int .i64 20, .int .i64 2, .int .i64 32, .int .i64 4, .int .i64 16], .agg #[.int .i64 z.node, .int .i64 z.boot, .int .i64 z.above, .int .i64 z.st.s, .int .i64 z.st.t, .int .i64 z.st.p, .slice z.eA z.st.es.length z.ec, .int .i64 z.q.f, .int .i64 z.q.g, .slice z.qA z.q.os.length z.qc, .slice z.kA z.ks.length z.kc, .slice z.rA z.rs.length z.rc, .slice z.gA z.gs.length z.gc, .slice none 0 0, .slice none 0 0, .int .i64 0, .slice none 0 0, .slice none 0 0, .slice none 0 0, .slice none 0 0, .int .i64 0, .int .i64 0, .int .i64 0, .int .i64 0, .slice none 0 0, .int .i64 0], .agg #[.int .i64 0, .int .i64 1, .int .i64 1, .int .i64 0, .slice none 0 0, .int .i64 0, .slice none 0 0, .int .i64 1, .slice (some ⟨n4, 0, none⟩) 1 1, .int .i64 1, .int .i64 9, .int .i64 0, .int .i64 0, .slice (some ⟨n7, 0, none⟩) 2 2]] V fun e w' => ∃ z : Rlw, e = .returned (.tuple #[.agg (ryE.c z).toArray, .int .i64 0]) ∧ z.ok w' ∧ z.v = X2_19 ∧ Below V.heap.size V w'))
    refine anyG_take (i := 0) (v := .agg #[.slice (some ⟨m, 0, none⟩) 4 4, .int .i64 2, .int .i64 2, .int .i64 2, .int .i64 20, .int .i64 2, .int .i64 32, .int .i64 4, .int .i64 16]) rfl (by kernel_rfl) (by kernel_rfl) (by kernel_rfl) (by kernel_rfl) (by kernel_rfl) (fun _ _ _ h => h) (Or.inl ⟨by rfl, fun w' hSw => El.exec_loadK pnRow (.tmp 1) rfl rfl hSw.1.at _ rfl⟩) hS ?_
    try simp only [Act.put, List.setIfInBounds_toArray, List.set_cons_zero, List.set_cons_succ]
    refine anyG_take (i := 1) (v := .agg #[.int .i64 z.node, .int .i64 z.boot, .int .i64 z.above, .int .i64 z.st.s, .int .i64 z.st.t, .int .i64 z.st.p, .slice z.eA z.st.es.length z.ec, .int .i64 z.q.f, .int .i64 z.q.g, .slice z.qA z.q.os.length z.qc, .slice z.kA z.ks.length z.kc, .slice z.rA z.rs.length z.rc, .slice z.gA z.gs.length z.gc, .slice none 0 0, .slice none 0 0, .int .i64 0, .slice none 0 0, .slice none 0 0, .slice none 0 0, .slice none 0 0, .int .i64 0, .int .i64 0, .int .i64 0, .int .i64 0, .slice none 0 0, .int .i64 0]) rfl (by kernel_rfl) (by kernel_rfl) (by kernel_rfl) (by kernel_rfl) (by kernel_rfl) (fun _ _ _ h => h) (Or.inl ⟨by rfl, fun w' hSw => El.exec_loadK ryRow (.tmp 2) rfl rfl hSw.2.at _ rfl⟩) hS ?_
    try simp only [Act.put, List.setIfInBounds_toArray, List.set_cons_zero, List.set_cons_succ]
    refine anyG_plain (i := 5) (v := .agg #[.int .i64 3, .int .i64 2, .int .i64 0, .int .i64 1, .string ⟨#[]⟩]) rfl (by kernel_rfl) (by kernel_rfl) (by kernel_rfl) (by kernel_rfl) (fun _ _ _ h => h) (Or.inl ⟨by rfl, fun w' => by (go_simp; try rfl)⟩) (fun _ => hS) ?_
    try simp only [Act.put, List.setIfInBounds_toArray, List.set_cons_zero, List.set_cons_succ]
    refine anyG_plain (i := 6) (v := .agg #[.int .i64 9, .int .i64 1, .int .i64 0, .int .i64 0, .string ⟨#[]⟩]) rfl (by kernel_rfl) (by kernel_rfl) (by kernel_rfl) (by kernel_rfl) (fun _ _ _ h => h) (Or.inl ⟨by rfl, fun w' => by (go_simp; try rfl)⟩) (fun _ => hS) ?_
    try simp only [Act.put, List.setIfInBounds_toArray, List.set_cons_zero, List.set_cons_succ]
    generalize V0 = V at *
    repeat' (first
      | (skip
         replace h4 := h4
         replace h7 := h7
         refine anyG_plain (i := 8) (v := .agg #[.int .i64 0, .int .i64 1, .int .i64 1, .int .i64 0, .slice none 0 0, .int .i64 0, .slice none 0 0, .int .i64 1, .slice (some ⟨n4, 0, none⟩) 1 1, .int .i64 1, .int .i64 9, .int .i64 0, .int .i64 0, .slice (some ⟨n7, 0, none⟩) 2 2]) rfl (by kernel_rfl) (by kernel_rfl) (by kernel_rfl) (by kernel_rfl) (fun _ _ _ h => h) (Or.inl ⟨by rfl, fun w' => by (go_simp; try rfl)⟩) (fun _ => hS) ?_
         try simp only [Act.put, List.setIfInBounds_toArray, List.set_cons_zero, List.set_cons_succ]
         refine anyG_step (rs := [9]) (by kernel_rfl) (by simp) ?_
         refine AllG.cons rfl (fun K hK => ?_) AllG.nil
         go_simp
         refine (CT2.out n4 n7 V hT hz h4 h7).mono ?_
         rintro e V ⟨z2, rfl, hz2, hvz2, hb⟩
         replace hP := hP.below hb; replace hE := hE.below hb; replace hT := hT.below hb; replace hz := hz.below hb; replace hB := below_then hB hb; replace h4 := SlV.below h4 hb; replace h7 := SlV.below h7 hb
         clear hb
         try go_wp2_with fail
         refine hK.out _ _ (⟨hP, hE⟩ : SlA19 n1 n2 m z V) ?_
         try simp only [Act.put, List.setIfInBounds_toArray, List.set_cons_zero, List.set_cons_succ]
         clear hK hS
         have hS : SlA19 n1 n2 m z V := ⟨hP, hE⟩
         refine anyG_plain (i := 10) (v := .tuple #[.agg (ryE.c z2).toArray, .int .i64 0]) rfl (by kernel_rfl) (by kernel_rfl) (by kernel_rfl) (by kernel_rfl) (fun _ _ _ h => h) (Or.inl ⟨by rfl, fun w' => by (go_simp; try rfl)⟩) (fun _ => hS) ?_
         try simp only [Act.put, List.setIfInBounds_toArray, List.set_cons_zero, List.set_cons_succ]
         refine anyG_plain (i := 11) (v := .agg (ryE.c z2).toArray) rfl (by kernel_rfl) (by kernel_rfl) (by kernel_rfl) (by kernel_rfl) (fun _ _ _ h => h) (Or.inl ⟨by rfl, fun w' => by (go_simp; try rfl)⟩) (fun _ => hS) ?_
         try simp only [Act.put, List.setIfInBounds_toArray, List.set_cons_zero, List.set_cons_succ]
         refine anyG_plain (i := 12) (v := .int .i64 0) rfl (by kernel_rfl) (by kernel_rfl) (by kernel_rfl) (by kernel_rfl) (fun _ _ _ h => h) (Or.inl ⟨by rfl, fun w' => by (go_simp; try rfl)⟩) (fun _ => hS) ?_
         try simp only [Act.put, List.setIfInBounds_toArray, List.set_cons_zero, List.set_cons_succ]
         refine anyG_step (rs := [13]) (by kernel_rfl) (by simp) ?_
         refine AllG.last (n := 13) rfl (fun K hK => ?_)
         refine El.step_store ryRow rfl _ _ rfl n2 z2 (ryE.c z2).toArray rfl rfl rfl z hE ?_
         refine hK.out _ _ ?_
         try simp only [Act.put, List.setIfInBounds_toArray, List.set_cons_zero, List.set_cons_succ]
         clear hK hS
         refine anyG_plain_after (i := 14) (v := .int .i64 0) rfl (by kernel_rfl) (by kernel_rfl) (by kernel_rfl) (by kernel_rfl) (fun _ _ _ h => h) (Or.inl ⟨by rfl, fun w' => by (go_simp; try rfl)⟩) (by kernel_rfl) ?_
         try simp only [Act.put, List.setIfInBounds_toArray, List.set_cons_zero, List.set_cons_succ]
         refine anyG_done (by kernel_rfl) ?_ _
         have hgr := by_row V n2 (ryE.c z2).toArray
         exact ⟨z2, n4, n7, rfl, hvz2, hE.set z2 (ryE.c z2).toArray rfl, hz2.keepB hE hgr, hP.keep hgr (fun e => by have := Option.some.inj e; omega), inSl_keep19 hT (by omega) hgr, below_setRow hB hnw _⟩)
      | (skip
         replace h4 := h4
         refine anyG_step (rs := [7]) (by kernel_rfl) (by simp) ?_
         refine AllG.cons rfl (fun K hK => ?_) AllG.nil
         have h7 : SlV gfE (V.alloc (.cells #[.int .i64 3, .int .i64 2, .int .i64 0, .int .i64 1, .string ⟨#[]⟩, .int .i64 9, .int .i64 1, .int .i64 0, .int .i64 0, .string ⟨#[]⟩] 57)) (some ⟨V.heap.size, 0, none⟩) 2 [g19 3 2 1, g19 9 1 0] := ⟨El.Sl.row (E := gfE) V [g19 3 2 1, g19 9 1 0] #[.int .i64 3, .int .i64 2, .int .i64 0, .int .i64 1, .string ⟨#[]⟩, .int .i64 9, .int .i64 1, .int .i64 0, .int .i64 0, .string ⟨#[]⟩] rfl, (fun e => by cases e), Nat.le_refl _⟩
         have hal := below_alloc (Below.refl V.heap.size V) (.cells #[.int .i64 3, .int .i64 2, .int .i64 0, .int .i64 1, .string ⟨#[]⟩, .int .i64 9, .int .i64 1, .int .i64 0, .int .i64 0, .string ⟨#[]⟩] 57)
         replace hP := hP.below hal; replace hE := hE.below hal; replace hT := hT.below hal; replace hz := hz.below hal; replace hB := below_then hB hal; replace h4 := SlV.below h4 hal
         clear hal
         go_simp
         refine hK.out _ _ (⟨hP, hE⟩ : SlA19 n1 n2 m z (V.alloc (.cells #[.int .i64 3, .int .i64 2, .int .i64 0, .int .i64 1, .string ⟨#[]⟩, .int .i64 9, .int .i64 1, .int .i64 0, .int .i64 0, .string ⟨#[]⟩] 57))) ?_
         try simp only [Act.put, List.setIfInBounds_toArray, List.set_cons_zero, List.set_cons_succ]
         clear hK hS
         generalize V.heap.size = n7 at *
         generalize V.alloc (.cells #[.int .i64 3, .int .i64 2, .int .i64 0, .int .i64 1, .string ⟨#[]⟩, .int .i64 9, .int .i64 1, .int .i64 0, .int .i64 0, .string ⟨#[]⟩] 57) = V at *
         have hS : SlA19 n1 n2 m z V := ⟨hP, hE⟩)
      | (skip
         replace k2 := k2
         replace h7 := h7
         refine anyG_step (rs := [4]) (by kernel_rfl) (by simp) ?_
         refine AllG.cons rfl (fun K hK => ?_) AllG.nil
         have h4 : SlV enE (V.alloc (.cells #[.int .i64 1, .int .i64 0, .int .i64 0, .int .i64 1, .int .i64 2, .int .i64 1, .int .i64 1, .int .i64 2, .int .i64 0, .string ⟨#[97]⟩] 67)) (some ⟨V.heap.size, 0, none⟩) 1 [⟨1, 0, 0, o19 1 2⟩] := ⟨El.Sl.row (E := enE) V [⟨1, 0, 0, o19 1 2⟩] #[.int .i64 1, .int .i64 0, .int .i64 0, .int .i64 1, .int .i64 2, .int .i64 1, .int .i64 1, .int .i64 2, .int .i64 0, .string ⟨#[97]⟩] rfl, (fun e => by cases e), Nat.le_refl _⟩
         have hal := below_alloc (Below.refl V.heap.size V) (.cells #[.int .i64 1, .int .i64 0, .int .i64 0, .int .i64 1, .int .i64 2, .int .i64 1, .int .i64 1, .int .i64 2, .int .i64 0, .string ⟨#[97]⟩] 67)
         replace hP := hP.below hal; replace hE := hE.below hal; replace hT := hT.below hal; replace hz := hz.below hal; replace hB := below_then hB hal; replace h7 := SlV.below h7 hal
         clear hal
         go_simp
         refine hK.out _ _ (⟨hP, hE⟩ : SlA19 n1 n2 m z (V.alloc (.cells #[.int .i64 1, .int .i64 0, .int .i64 0, .int .i64 1, .int .i64 2, .int .i64 1, .int .i64 1, .int .i64 2, .int .i64 0, .string ⟨#[97]⟩] 67))) ?_
         try simp only [Act.put, List.setIfInBounds_toArray, List.set_cons_zero, List.set_cons_succ]
         clear hK hS
         generalize V.heap.size = n4 at *
         generalize V.alloc (.cells #[.int .i64 1, .int .i64 0, .int .i64 0, .int .i64 1, .int .i64 2, .int .i64 1, .int .i64 1, .int .i64 2, .int .i64 0, .string ⟨#[97]⟩] 67) = V at *
         have hS : SlA19 n1 n2 m z V := ⟨hP, hE⟩)
      | (skip
         replace k2 := k2
         refine anyG_step (rs := [4, 7]) (by kernel_rfl) (by simp) ?_
         refine AllG.cons rfl (fun K hK => ?_) (AllG.cons rfl (fun K hK => ?_) AllG.nil)
         focus
           have h4 : SlV enE (V.alloc (.cells #[.int .i64 1, .int .i64 0, .int .i64 0, .int .i64 1, .int .i64 2, .int .i64 1, .int .i64 1, .int .i64 2, .int .i64 0, .string ⟨#[97]⟩] 67)) (some ⟨V.heap.size, 0, none⟩) 1 [⟨1, 0, 0, o19 1 2⟩] := ⟨El.Sl.row (E := enE) V [⟨1, 0, 0, o19 1 2⟩] #[.int .i64 1, .int .i64 0, .int .i64 0, .int .i64 1, .int .i64 2, .int .i64 1, .int .i64 1, .int .i64 2, .int .i64 0, .string ⟨#[97]⟩] rfl, (fun e => by cases e), Nat.le_refl _⟩
           have hal := below_alloc (Below.refl V.heap.size V) (.cells #[.int .i64 1, .int .i64 0, .int .i64 0, .int .i64 1, .int .i64 2, .int .i64 1, .int .i64 1, .int .i64 2, .int .i64 0, .string ⟨#[97]⟩] 67)
           replace hP := hP.below hal; replace hE := hE.below hal; replace hT := hT.below hal; replace hz := hz.below hal; replace hB := below_then hB hal
           clear hal
           go_simp
           refine hK.out _ _ (⟨hP, hE⟩ : SlA19 n1 n2 m z (V.alloc (.cells #[.int .i64 1, .int .i64 0, .int .i64 0, .int .i64 1, .int .i64 2, .int .i64 1, .int .i64 1, .int .i64 2, .int .i64 0, .string ⟨#[97]⟩] 67))) ?_
           try simp only [Act.put, List.setIfInBounds_toArray, List.set_cons_zero, List.set_cons_succ]
           clear hK hS
           generalize V.heap.size = n4 at *
           generalize V.alloc (.cells #[.int .i64 1, .int .i64 0, .int .i64 0, .int .i64 1, .int .i64 2, .int .i64 1, .int .i64 1, .int .i64 2, .int .i64 0, .string ⟨#[97]⟩] 67) = V at *
           have hS : SlA19 n1 n2 m z V := ⟨hP, hE⟩
         rotate_left
         focus
           have h7 : SlV gfE (V.alloc (.cells #[.int .i64 3, .int .i64 2, .int .i64 0, .int .i64 1, .string ⟨#[]⟩, .int .i64 9, .int .i64 1, .int .i64 0, .int .i64 0, .string ⟨#[]⟩] 57)) (some ⟨V.heap.size, 0, none⟩) 2 [g19 3 2 1, g19 9 1 0] := ⟨El.Sl.row (E := gfE) V [g19 3 2 1, g19 9 1 0] #[.int .i64 3, .int .i64 2, .int .i64 0, .int .i64 1, .string ⟨#[]⟩, .int .i64 9, .int .i64 1, .int .i64 0, .int .i64 0, .string ⟨#[]⟩] rfl, (fun e => by cases e), Nat.le_refl _⟩
           have hal := below_alloc (Below.refl V.heap.size V) (.cells #[.int .i64 3, .int .i64 2, .int .i64 0, .int .i64 1, .string ⟨#[]⟩, .int .i64 9, .int .i64 1, .int .i64 0, .int .i64 0, .string ⟨#[]⟩] 57)
           replace hP := hP.below hal; replace hE := hE.below hal; replace hT := hT.below hal; replace hz := hz.below hal; replace hB := below_then hB hal
           clear hal
           go_simp
           refine hK.out _ _ (⟨hP, hE⟩ : SlA19 n1 n2 m z (V.alloc (.cells #[.int .i64 3, .int .i64 2, .int .i64 0, .int .i64 1, .string ⟨#[]⟩, .int .i64 9, .int .i64 1, .int .i64 0, .int .i64 0, .string ⟨#[]⟩] 57))) ?_
           try simp only [Act.put, List.setIfInBounds_toArray, List.set_cons_zero, List.set_cons_succ]
           clear hK hS
           generalize V.heap.size = n7 at *
           generalize V.alloc (.cells #[.int .i64 3, .int .i64 2, .int .i64 0, .int .i64 1, .string ⟨#[]⟩, .int .i64 9, .int .i64 1, .int .i64 0, .int .i64 0, .string ⟨#[]⟩] 57) = V at *
           have hS : SlA19 n1 n2 m z V := ⟨hP, hE⟩
         rotate_left)
      | (skip
         replace h7 := h7
         refine anyG_step (rs := [2]) (by kernel_rfl) (by simp) ?_
         refine AllG.cons rfl (fun K hK => ?_) AllG.nil
         go_simp
         refine (op19_any 1 2 _).mono ?_
         rintro e V ⟨rfl, hb⟩
         replace hP := hP.below hb; replace hE := hE.below hb; replace hT := hT.below hb; replace hz := hz.below hb; replace hB := below_then hB hb; replace h7 := SlV.below h7 hb
         clear hb
         try go_wp2_with fail
         refine hK.out _ _ (⟨hP, hE⟩ : SlA19 n1 n2 m z V) ?_
         try simp only [Act.put, List.setIfInBounds_toArray, List.set_cons_zero, List.set_cons_succ]
         clear hK hS
         have hS : SlA19 n1 n2 m z V := ⟨hP, hE⟩
         have k2 := trivial
         refine anyG_plain (i := 3) (v := .agg #[.int .i64 1, .int .i64 0, .int .i64 0, .int .i64 1, .int .i64 2, .int .i64 1, .int .i64 1, .int .i64 2, .int .i64 0, .string ⟨#[97]⟩]) rfl (by kernel_rfl) (by kernel_rfl) (by kernel_rfl) (by kernel_rfl) (fun _ _ _ h => h) (Or.inl ⟨by rfl, fun w' => by (go_simp; try rfl)⟩) (fun _ => hS) ?_
         try simp only [Act.put, List.setIfInBounds_toArray, List.set_cons_zero, List.set_cons_succ]
         skip)
      | (skip
         refine anyG_step (rs := [2, 7]) (by kernel_rfl) (by simp) ?_
         refine AllG.cons rfl (fun K hK => ?_) (AllG.cons rfl (fun K hK => ?_) AllG.nil)
         focus
           go_simp
           refine (op19_any 1 2 _).mono ?_
           rintro e V ⟨rfl, hb⟩
           replace hP := hP.below hb; replace hE := hE.below hb; replace hT := hT.below hb; replace hz := hz.below hb; replace hB := below_then hB hb
           clear hb
           try go_wp2_with fail
           refine hK.out _ _ (⟨hP, hE⟩ : SlA19 n1 n2 m z V) ?_
           try simp only [Act.put, List.setIfInBounds_toArray, List.set_cons_zero, List.set_cons_succ]
           clear hK hS
           have hS : SlA19 n1 n2 m z V := ⟨hP, hE⟩
           have k2 := trivial
           refine anyG_plain (i := 3) (v := .agg #[.int .i64 1, .int .i64 0, .int .i64 0, .int .i64 1, .int .i64 2, .int .i64 1, .int .i64 1, .int .i64 2, .int .i64 0, .string ⟨#[97]⟩]) rfl (by kernel_rfl) (by kernel_rfl) (by kernel_rfl) (by kernel_rfl) (fun _ _ _ h => h) (Or.inl ⟨by rfl, fun w' => by (go_simp; try rfl)⟩) (fun _ => hS) ?_
           try simp only [Act.put, List.setIfInBounds_toArray, List.set_cons_zero, List.set_cons_succ]
         rotate_left
         focus
           have h7 : SlV gfE (V.alloc (.cells #[.int .i64 3, .int .i64 2, .int .i64 0, .int .i64 1, .string ⟨#[]⟩, .int .i64 9, .int .i64 1, .int .i64 0, .int .i64 0, .string ⟨#[]⟩] 57)) (some ⟨V.heap.size, 0, none⟩) 2 [g19 3 2 1, g19 9 1 0] := ⟨El.Sl.row (E := gfE) V [g19 3 2 1, g19 9 1 0] #[.int .i64 3, .int .i64 2, .int .i64 0, .int .i64 1, .string ⟨#[]⟩, .int .i64 9, .int .i64 1, .int .i64 0, .int .i64 0, .string ⟨#[]⟩] rfl, (fun e => by cases e), Nat.le_refl _⟩
           have hal := below_alloc (Below.refl V.heap.size V) (.cells #[.int .i64 3, .int .i64 2, .int .i64 0, .int .i64 1, .string ⟨#[]⟩, .int .i64 9, .int .i64 1, .int .i64 0, .int .i64 0, .string ⟨#[]⟩] 57)
           replace hP := hP.below hal; replace hE := hE.below hal; replace hT := hT.below hal; replace hz := hz.below hal; replace hB := below_then hB hal
           clear hal
           go_simp
           refine hK.out _ _ (⟨hP, hE⟩ : SlA19 n1 n2 m z (V.alloc (.cells #[.int .i64 3, .int .i64 2, .int .i64 0, .int .i64 1, .string ⟨#[]⟩, .int .i64 9, .int .i64 1, .int .i64 0, .int .i64 0, .string ⟨#[]⟩] 57))) ?_
           try simp only [Act.put, List.setIfInBounds_toArray, List.set_cons_zero, List.set_cons_succ]
           clear hK hS
           generalize V.heap.size = n7 at *
           generalize V.alloc (.cells #[.int .i64 3, .int .i64 2, .int .i64 0, .int .i64 1, .string ⟨#[]⟩, .int .i64 9, .int .i64 1, .int .i64 0, .int .i64 0, .string ⟨#[]⟩] 57) = V at *
           have hS : SlA19 n1 n2 m z V := ⟨hP, hE⟩
         rotate_left))
  rintro z2 n4 n7 w3 ⟨hvz2, hE, hz2, hP, hT, hB⟩
  have HV2 := Lib.hid hvz2
  clear hvz2
  have CT := Lib.hid (fun (wx : World) (hT : inE.Sl wx (some ⟨m, 0, none⟩) [-1, 0, 1, 1]) (hx : z2.ok wx) => (takeAt19 H m z2 ⟨none, 0, none, 0, none, 0, none, 0, f3_19⟩ wx 2 (by omega) hT hx ⟨SlV.nil _ _, SlV.nil _ _, SlV.nil _ _, SlV.nil _ _⟩ HV2.out X2_r ft3_19 (show f3_19.s ≤ 1073741824 by decide) take3_19 : Calls Try.prog 9 #[.agg #[.slice (some ⟨m, 0, none⟩) 4 4, .int .i64 2, .int .i64 2, .int .i64 2, .int .i64 20, .int .i64 2, .int .i64 32, .int .i64 4, .int .i64 16], .agg #[.int .i64 z2.node, .int .i64 z2.boot, .int .i64 z2.above, .int .i64 z2.st.s, .int .i64 z2.st.t, .int .i64 z2.st.p, .slice z2.eA z2.st.es.length z2.ec, .int .i64 z2.q.f, .int .i64 z2.q.g, .slice z2.qA z2.q.os.length z2.qc, .slice z2.kA z2.ks.length z2.kc, .slice z2.rA z2.rs.length z2.rc, .slice z2.gA z2.gs.length z2.gc, .slice none 0 0, .slice none 0 0, .int .i64 0, .slice none 0 0, .slice none 0 0, .slice none 0 0, .slice none 0 0, .int .i64 0, .int .i64 0, .int .i64 0, .int .i64 0, .slice none 0 0, .int .i64 0], .agg #[.int .i64 3, .int .i64 2, .int .i64 0, .int .i64 0, .slice none 0 0, .int .i64 0, .slice none 0 0, .int .i64 0, .slice none 0 0, .int .i64 0, .int .i64 0, .int .i64 0, .int .i64 0, .slice none 0 0]] wx fun e w' => ∃ z : Rlw, e = .returned (.tuple #[.agg #[.int .i64 z.node, .int .i64 z.boot, .int .i64 z.above, .int .i64 z.st.s, .int .i64 z.st.t, .int .i64 z.st.p, .slice z.eA z.st.es.length z.ec, .int .i64 z.q.f, .int .i64 z.q.g, .slice z.qA z.q.os.length z.qc, .slice z.kA z.ks.length z.kc, .slice z.rA z.rs.length z.rc, .slice z.gA z.gs.length z.gc, .slice none 0 0, .slice none 0 0, .int .i64 0, .slice none 0 0, .slice none 0 0, .slice none 0 0, .slice none 0 0, .int .i64 0, .int .i64 0, .int .i64 0, .int .i64 0, .slice none 0 0, .int .i64 0], .int .i64 1]) ∧ z.ok w' ∧ z.v = X2_19 ∧ Below wx.heap.size wx w'))
  go_upto_region 4 with fail
  go_wp2_with (first | (refine El.load pnRow rfl _ rfl n1 0 rfl (pl19 m) hP.at #[.slice (some ⟨m, 0, none⟩) 4 4, .int .i64 2, .int .i64 2, .int .i64 2, .int .i64 20, .int .i64 2, .int .i64 32, .int .i64 4, .int .i64 16] rfl ?_) | (refine El.load ryRow rfl _ rfl n2 0 rfl z2 hE.at #[.int .i64 z2.node, .int .i64 z2.boot, .int .i64 z2.above, .int .i64 z2.st.s, .int .i64 z2.st.t, .int .i64 z2.st.p, .slice z2.eA z2.st.es.length z2.ec, .int .i64 z2.q.f, .int .i64 z2.q.g, .slice z2.qA z2.q.os.length z2.qc, .slice z2.kA z2.ks.length z2.kc, .slice z2.rA z2.rs.length z2.rc, .slice z2.gA z2.gs.length z2.gc, .slice none 0 0, .slice none 0 0, .int .i64 0, .slice none 0 0, .slice none 0 0, .slice none 0 0, .slice none 0 0, .int .i64 0, .int .i64 0, .int .i64 0, .int .i64 0, .slice none 0 0, .int .i64 0] rfl ?_) | fail)
  refine (CT.out _ hT hz2).mono ?_
  rintro e w4 ⟨z3, rfl, _, _, hb4⟩
  replace hP := hP.below hb4
  replace hT := hT.below hb4
  replace hE := hE.below hb4
  replace hz2 := hz2.below hb4
  replace hB := below_then hB hb4
  clear hb4 CT HVZ hz
  have hZ4 : ryE.In (w4.alloc (.cells #[.int .i64 0, .int .i64 0, .int .i64 0, .int .i64 0, .int .i64 0, .int .i64 0, .slice none 0 0, .int .i64 0, .int .i64 0, .slice none 0 0, .slice none 0 0, .slice none 0 0, .slice none 0 0, .slice none 0 0, .slice none 0 0, .int .i64 0, .slice none 0 0, .slice none 0 0, .slice none 0 0, .slice none 0 0, .int .i64 0, .int .i64 0, .int .i64 0, .int .i64 0, .slice none 0 0, .int .i64 0] 48)) w4.heap.size Rlw.zero := El.In.new (E := ryE) w4 Rlw.zero _ rfl
  have hdn := below_setRow (below_alloc (Below.refl w4.heap.size w4) (.cells #[.int .i64 0, .int .i64 0, .int .i64 0, .int .i64 0, .int .i64 0, .int .i64 0, .slice none 0 0, .int .i64 0, .int .i64 0, .slice none 0 0, .slice none 0 0, .slice none 0 0, .slice none 0 0, .slice none 0 0, .slice none 0 0, .int .i64 0, .slice none 0 0, .slice none 0 0, .slice none 0 0, .slice none 0 0, .int .i64 0, .int .i64 0, .int .i64 0, .int .i64 0, .slice none 0 0, .int .i64 0] 48)) (Nat.le_refl _) #[.int .i64 z3.node, .int .i64 z3.boot, .int .i64 z3.above, .int .i64 z3.st.s, .int .i64 z3.st.t, .int .i64 z3.st.p, .slice z3.eA z3.st.es.length z3.ec, .int .i64 z3.q.f, .int .i64 z3.q.g, .slice z3.qA z3.q.os.length z3.qc, .slice z3.kA z3.ks.length z3.kc, .slice z3.rA z3.rs.length z3.rc, .slice z3.gA z3.gs.length z3.gc, .slice none 0 0, .slice none 0 0, .int .i64 0, .slice none 0 0, .slice none 0 0, .slice none 0 0, .slice none 0 0, .int .i64 0, .int .i64 0, .int .i64 0, .int .i64 0, .slice none 0 0, .int .i64 0]
  go_upto_region 5 with (first | (refine wpList_alloc_ry rfl rfl ?_) | (refine El.store ryRow rfl _ _ rfl w4.heap.size z3 #[.int .i64 z3.node, .int .i64 z3.boot, .int .i64 z3.above, .int .i64 z3.st.s, .int .i64 z3.st.t, .int .i64 z3.st.p, .slice z3.eA z3.st.es.length z3.ec, .int .i64 z3.q.f, .int .i64 z3.q.g, .slice z3.qA z3.q.os.length z3.qc, .slice z3.kA z3.ks.length z3.kc, .slice z3.rA z3.rs.length z3.rc, .slice z3.gA z3.gs.length z3.gc, .slice none 0 0, .slice none 0 0, .int .i64 0, .slice none 0 0, .slice none 0 0, .slice none 0 0, .slice none 0 0, .int .i64 0, .int .i64 0, .int .i64 0, .int .i64 0, .slice none 0 0, .int .i64 0] rfl rfl rfl Rlw.zero hZ4 ?_) | fail)
  replace hP := hP.below hdn
  replace hT := hT.below hdn
  replace hE := hE.below hdn
  replace hz2 := hz2.below hdn
  replace hB := below_then hB hdn
  clear hdn hZ4
  generalize (w4.alloc (.cells #[.int .i64 0, .int .i64 0, .int .i64 0, .int .i64 0, .int .i64 0, .int .i64 0, .slice none 0 0, .int .i64 0, .int .i64 0, .slice none 0 0, .slice none 0 0, .slice none 0 0, .slice none 0 0, .slice none 0 0, .slice none 0 0, .int .i64 0, .slice none 0 0, .slice none 0 0, .slice none 0 0, .slice none 0 0, .int .i64 0, .int .i64 0, .int .i64 0, .int .i64 0, .slice none 0 0, .int .i64 0] 48)).setRow w4.heap.size #[.int .i64 z3.node, .int .i64 z3.boot, .int .i64 z3.above, .int .i64 z3.st.s, .int .i64 z3.st.t, .int .i64 z3.st.p, .slice z3.eA z3.st.es.length z3.ec, .int .i64 z3.q.f, .int .i64 z3.q.g, .slice z3.qA z3.q.os.length z3.qc, .slice z3.kA z3.ks.length z3.kc, .slice z3.rA z3.rs.length z3.rc, .slice z3.gA z3.gs.length z3.gc, .slice none 0 0, .slice none 0 0, .int .i64 0, .slice none 0 0, .slice none 0 0, .slice none 0 0, .slice none 0 0, .int .i64 0, .int .i64 0, .int .i64 0, .int .i64 0, .slice none 0 0, .int .i64 0] = V5 at *
  generalize w4.heap.size = n5 at *
  try simp only [List.append_eq, List.cons_append, List.nil_append]
  go_wp2_with (first | (refine El.load pnRow rfl _ rfl n1 0 rfl (pl19 m) hP.at #[.slice (some ⟨m, 0, none⟩) 4 4, .int .i64 2, .int .i64 2, .int .i64 2, .int .i64 20, .int .i64 2, .int .i64 32, .int .i64 4, .int .i64 16] rfl ?_) | (refine El.load ryRow rfl _ rfl n2 0 rfl z2 hE.at #[.int .i64 z2.node, .int .i64 z2.boot, .int .i64 z2.above, .int .i64 z2.st.s, .int .i64 z2.st.t, .int .i64 z2.st.p, .slice z2.eA z2.st.es.length z2.ec, .int .i64 z2.q.f, .int .i64 z2.q.g, .slice z2.qA z2.q.os.length z2.qc, .slice z2.kA z2.ks.length z2.kc, .slice z2.rA z2.rs.length z2.rc, .slice z2.gA z2.gs.length z2.gc, .slice none 0 0, .slice none 0 0, .int .i64 0, .slice none 0 0, .slice none 0 0, .slice none 0 0, .slice none 0 0, .int .i64 0, .int .i64 0, .int .i64 0, .int .i64 0, .slice none 0 0, .int .i64 0] rfl ?_) | fail)
  refine (H.frames (pl19 m) z2 _ 0 2 P19_r (by omega) (by rw [HV2.out]; exact X2_r) hT hz2).mono ?_
  rintro e w6 ⟨AF, cF, L, rfl, hFs, hLv, hb6⟩
  replace hP := hP.below hb6
  replace hT := hT.below hb6
  replace hE := hE.below hb6
  replace hz2 := hz2.below hb6
  replace hB := below_then hB hb6
  clear hb6 hP hT
  obtain ⟨G0, G1, G2, hG, ⟨g01, g02, g03⟩, ⟨g11, g12, g13, g14⟩, g21⟩ := X2_f
  have hLv2 : L.map Fw.x = [G0, G1, G2] := by
    have h : L.map Fw.x = framesR P19 0 z2.v := hLv
    rw [HV2.out, hG] at h; exact h
  obtain ⟨F0, F1, F2, rfl⟩ := three_of19 (show L.length = 3 by
    have h := congrArg List.length hLv2
    rw [List.length_map] at h; exact h)
  have e0 : F0.x = G0 := by
    have h2 := congrArg (·[0]?) hLv2
    simpa using h2
  have e1 : F1.x = G1 := by
    have h2 := congrArg (·[1]?) hLv2
    simpa using h2
  have e2 : F2.x = G2 := by
    have h2 := congrArg (·[2]?) hLv2
    simpa using h2
  obtain ⟨bF, oF, eF, _, hcF⟩ := hFs.s.1 (by show 0 < 3; omega)
  have a0 : frE.At w6 bF oF F0 := by
    have h := hcF 0 (by show 0 < 3; omega)
    rw [Nat.zero_mul, Nat.add_zero] at h
    exact h
  have a1 : frE.At w6 bF (oF + 14) F1 := by
    have h := hcF 1 (by show 1 < 3; omega)
    rw [Nat.one_mul] at h
    exact h
  have a2 : frE.At w6 bF (oF + 28) F2 := hcF 2 (by show 2 < 3; omega)
  have t1 : w6.cell? ⟨bF, oF + 1, none⟩ = some (.int .i64 0) := by
    have h : w6.cell? ⟨bF, oF + 1, none⟩ = some (.int .i64 F0.x.b) := a0 1 _ rfl
    rw [e0, g01] at h; exact h
  have t2 : w6.cell? ⟨bF, oF + 4, none⟩ = some (.slice F0.oA 1 F0.oc) := by
    have h : w6.cell? ⟨bF, oF + 4, none⟩ = some (.slice F0.oA F0.x.os.length F0.oc) := a0 4 _ rfl
    rw [e0, g02] at h; exact h
  have t3 : w6.cell? ⟨bF, oF + 5, none⟩ = some (.int .i64 1) := by
    have h : w6.cell? ⟨bF, oF + 5, none⟩ = some (.int .i64 F0.x.pos) := a0 5 _ rfl
    rw [e0, g03] at h; exact h
  have t4 : w6.cell? ⟨bF, oF + 14 + 9, none⟩ = some (.int .i64 2) := by
    have h : w6.cell? ⟨bF, oF + 14 + 9, none⟩ = some (.int .i64 F1.x.ack) := a1 9 _ rfl
    rw [e1, g11] at h; exact h
  have t5 : w6.cell? ⟨bF, oF + 14 + 10, none⟩ = some (.int .i64 3) := by
    have h : w6.cell? ⟨bF, oF + 14 + 10, none⟩ = some (.int .i64 F1.x.grant) := a1 10 _ rfl
    rw [e1, g12] at h; exact h
  have t6 : w6.cell? ⟨bF, oF + 14 + 8, none⟩ = some (.slice F1.eA 1 F1.ec) := by
    have h : w6.cell? ⟨bF, oF + 14 + 8, none⟩ = some (.slice F1.eA F1.x.es.length F1.ec) := a1 8 _ rfl
    rw [e1, g13] at h; exact h
  have t7 : w6.cell? ⟨bF, oF + 14 + 13, none⟩ = some (.slice F1.gA 0 F1.gc) := by
    have h : w6.cell? ⟨bF, oF + 14 + 13, none⟩ = some (.slice F1.gA F1.x.gs.length F1.gc) := a1 13 _ rfl
    rw [e1, g14] at h; exact h
  have t8 : w6.cell? ⟨bF, oF + 28 + 13, none⟩ = some (.slice F2.gA 1 F2.gc) := by
    have h : w6.cell? ⟨bF, oF + 28 + 13, none⟩ = some (.slice F2.gA F2.x.gs.length F2.gc) := a2 13 _ rfl
    rw [e2, g21] at h; exact h
  have hks : z2.ks = [⟨2, 2, 0, 1⟩, ⟨3, 0, 0, 0⟩] := (congrArg Rlv.ks HV2.out).trans X2_k
  obtain ⟨bk, ok, eK, _, hck⟩ := hz2.k.1 (by rw [hks]; decide)
  have k1 : w6.cell? ⟨bk, ok + 1, none⟩ = some (.int .i64 2) := by
    have h := hck 0 (by rw [hks]; decide)
    rw [Nat.zero_mul, Nat.add_zero] at h
    simp only [hks, List.getElem_cons_zero] at h
    exact h 1 _ rfl
  have c9 : w6.cell? ⟨n2, 9, none⟩ = some (.slice z2.qA 1 z2.qc) := by
    have h : w6.cell? ⟨n2, 9, none⟩ = some (.slice z2.qA z2.q.os.length z2.qc) := hE.cell 9
    rw [show z2.q.os.length = 1 from (congrArg (fun v => v.q.os.length) HV2.out).trans X2_q] at h; exact h
  have c10 : w6.cell? ⟨n2, 10, none⟩ = some (.slice (some ⟨bk, ok, none⟩) 2 z2.kc) := by
    have h : w6.cell? ⟨n2, 10, none⟩ = some (.slice z2.kA z2.ks.length z2.kc) := hE.cell 10
    rw [hks, eK] at h; exact h
  have c11 : w6.cell? ⟨n2, 11, none⟩ = some (.slice z2.rA 1 z2.rc) := by
    have h : w6.cell? ⟨n2, 11, none⟩ = some (.slice z2.rA z2.rs.length z2.rc) := hE.cell 11
    rw [show z2.rs.length = 1 from (congrArg (fun v => v.rs.length) HV2.out).trans X2_rs] at h; exact h
  have c12 : w6.cell? ⟨n2, 12, none⟩ = some (.slice z2.gA 1 z2.gc) := by
    have h : w6.cell? ⟨n2, 12, none⟩ = some (.slice z2.gA z2.gs.length z2.gc) := hE.cell 12
    rw [show z2.gs.length = 1 from (congrArg (fun v => v.gs.length) HV2.out).trans X2_gs] at h; exact h
  have x0 : ∀ w, (Instr.indexAt 22 (.slice (some ⟨bF, oF, none⟩) 3 cF) (.int .i64 0)).run Try.prog w = .ok (.pointer (some ⟨bF, oF, none⟩)) w := fun w => by go_simp
  have x1 : ∀ w, (Instr.indexAt 22 (.slice (some ⟨bF, oF, none⟩) 3 cF) (.int .i64 1)).run Try.prog w = .ok (.pointer (some ⟨bF, oF + 14, none⟩)) w := fun w => by go_simp
  have x2 : ∀ w, (Instr.indexAt 22 (.slice (some ⟨bF, oF, none⟩) 3 cF) (.int .i64 2)).run Try.prog w = .ok (.pointer (some ⟨bF, oF + 28, none⟩)) w := fun w => by go_simp
  have xk : ∀ w, (Instr.indexAt 39 (.slice (some ⟨bk, ok, none⟩) 2 z2.kc) (.int .i64 0)).run Try.prog w = .ok (.pointer (some ⟨bk, ok, none⟩)) w := fun w => by go_simp
  have CK := Lib.hid (fun (wx : World) (h : z2.ok wx) => (show Calls Try.prog 14 #[.agg #[.int .i64 z2.node, .int .i64 z2.boot, .int .i64 z2.above, .int .i64 z2.st.s, .int .i64 z2.st.t, .int .i64 z2.st.p, .slice z2.eA z2.st.es.length z2.ec, .int .i64 z2.q.f, .int .i64 z2.q.g, .slice z2.qA z2.q.os.length z2.qc, .slice z2.kA z2.ks.length z2.kc, .slice z2.rA z2.rs.length z2.rc, .slice z2.gA z2.gs.length z2.gc, .slice none 0 0, .slice none 0 0, .int .i64 0, .slice none 0 0, .slice none 0 0, .slice none 0 0, .slice none 0 0, .int .i64 0, .int .i64 0, .int .i64 0, .int .i64 0, .slice none 0 0, .int .i64 0], .int .i64 3] wx fun e w' => e = .returned (.int .i64 1) ∧ Below wx.heap.size wx w' from (H.kid z2 3 wx (by rw [hks]; decide) h).mono fun e w' h2 => ⟨by rw [h2.1, hks, ← X2_k, X2_kid], h2.2⟩))
  subst eF
  clear e0 e1 e2 a0 a1 a2 hcF hFs hLv hLv2 hG g01 g02 g03 g11 g12 g13 g14 g21 hks hck eK
  go_wp2_with (first | (refine El.load_ifK ryRow (by rfl) _ rfl n2 0 rfl z2 hE.at #[.int .i64 z2.node, .int .i64 z2.boot, .int .i64 z2.above, .int .i64 z2.st.s, .int .i64 z2.st.t, .int .i64 z2.st.p, .slice z2.eA z2.st.es.length z2.ec, .int .i64 z2.q.f, .int .i64 z2.q.g, .slice z2.qA z2.q.os.length z2.qc, .slice z2.kA z2.ks.length z2.kc, .slice z2.rA z2.rs.length z2.rc, .slice z2.gA z2.gs.length z2.gc, .slice none 0 0, .slice none 0 0, .int .i64 0, .slice none 0 0, .slice none 0 0, .slice none 0 0, .slice none 0 0, .int .i64 0, .int .i64 0, .int .i64 0, .int .i64 0, .slice none 0 0, .int .i64 0] rfl ?_) | fail)
  refine (CK.out _ hz2).mono ?_
  rintro e w7 ⟨rfl, hb7⟩
  go_wp2_with fail
  go_ret
  exact ⟨rfl, below_then hB hb7⟩
end Go.Proofs.Ytnglpkfkepfkkaa
