/- Texts laid one behind the other: Wd, We, Wf, Wg, Wh, Vk, Wi, Wr, Re, Rl, Ro. -/
import Derived.Test.YtdcjffajmckleaaGreatDoorD05
import Derived.Deep.RegionHeld3
import Derived.Deep.CutRange
/- A past in new memory. -/
namespace Go.Proofs.YtdcjffajmckleaaGreatDoor
open Go.RowKit Tre Cod Pst

section
variable {P : Program} {ops : Array Oper} {Q : Exit → Act → World → Prop} {md : Region.Mode} {S : World → Prop} {n : Nat}
/-- An operation behind number n: nothing is asked. -/
theorem AllG.after {fuel : Nat} {listed : Array Bool} {a : Act} {w : World} {i : Nat} {o : Oper} {rs : List Nat} (ho : ops.toList[i]? = some o) (hn : (listed.setIfInBounds i true).getD n true = true)
    (h : ∀ K : Act → World → Prop, RowKit.Hid (∀ b v, anyG P md ops Q S n fuel (listed.setIfInBounds i true) b v → K b v) → if Region.wanted o (yielded ops a.tmps) = true then Oper.wp P o a w K Q else K (a.put o.dst undef) w)
    (hs : AllG P md ops Q S n fuel listed a w rs) : AllG P md ops Q S n fuel listed a w (i :: rs) := fun j hj => by
  rcases List.mem_cons.1 hj with rfl | hj
  · exact wpOp_step (by rw [← Array.getElem?_toList]; exact ho) (fun K hK => h K (Lib.hid fun b v hW => hK b v ⟨fun e => (by rw [hn] at e; cases e), hW⟩))
  · exact hs j hj
theorem anyG_plain_after {i : Nat} {oi : Oper} {v : Value} {fuel : Nat} {listed : Array Bool} {a : Act} {w : World} (hi : ops.toList[i]? = some oi)
    (hin : (i == n) = false) (hs : Region.noSelect ops = true) (hf : Region.free md ops listed i = true) (hr : (Region.ready md ops listed).contains i = true)
    (hQ : ∀ c a w, Q (.panic c) (a.put oi.dst v) w → Q (.panic c) a w) (hy : Yields P ops oi v a) (hn : listed.getD n true = true)
    (h : anyG P md ops Q S n fuel (listed.setIfInBounds i true) (a.put oi.dst v) w) : anyG P md ops Q S n (fuel + 1) listed a w :=
  anyG_plain hi hin hs hf hr hQ hy (fun e => by rw [hn] at e; cases e) h
end

/-- Its slices are the call's own. -/
structure PFrs (B : Nat) (y : Pw) : Prop where
  b : Frs B y.bA
  o : Frs B y.oA
  u : Frs B y.uA
  w : Frs B y.wA
theorem PFrs.mono {B C : Nat} {y : Pw} (h : PFrs C y) (hb : B ≤ C) : PFrs B y := ⟨h.b.mono hb, h.o.mono hb, h.u.mono hb, h.w.mono hb⟩
/-- A block ahead of them is written: they stay. -/
theorem PastOk.keep {w w' : World} {y : Pw} {B b : Nat} (h : PastOk w y) (hf : PFrs B y) (hg : w.grownBy w' (some b)) (hb : b < B) : PastOk w' y :=
  ⟨h.b.keep hf.b hg hb, h.o.keep hf.o hg hb, h.u.keep hf.u hg hb, h.w.keep hf.w hg hb⟩
def Two (n0 i j : Nat) (u v : Value) (w : World) : Prop := w.cell? ⟨n0, i, none⟩ = some u ∧ w.cell? ⟨n0, j, none⟩ = some v

set_option maxRecDepth 100000 in
set_option maxHeartbeats 4000000 in
theorem psame_any (x : Pw) (w : World) (hx : PastOk w x) (hl1 : x.base.length ≤ 50000) (hl2 : x.ops.length ≤ 50000) (hl3 : x.us.length ≤ 50000) (hl4 : x.now.length ≤ 50000) :
    Calls Tryz.prog 50 #[.agg #[.slice x.bA x.base.length x.bc, .int .i64 x.t, .slice x.oA x.ops.length x.oc, .slice x.uA x.us.length x.uc, .slice x.wA x.now.length x.wc]] w fun e w' => ∃ y : Pw, e = .returned (.agg #[.slice y.bA y.base.length y.bc, .int .i64 y.t, .slice y.oA y.ops.length y.oc, .slice y.uA y.us.length y.uc, .slice y.wA y.now.length y.wc]) ∧ PastOk w' y ∧ y.v = x.v ∧ PFrs w.heap.size y ∧ Below w.heap.size w w' := by
  obtain ⟨bA, bc, base, t, oA, oc, ops, uA, uc, us, wA, wc, now⟩ := x
  simp only at hl1 hl2 hl3 hl4
  have hP : pwE.In ((w.alloc (.cells #[.slice bA base.length bc, .int .i64 t, .slice oA ops.length oc, .slice uA us.length uc, .slice wA now.length wc] 40)).alloc (.cells #[.slice none 0 0, .int .i64 0, .slice none 0 0, .slice none 0 0, .slice none 0 0] 40)) w.heap.size (⟨bA, bc, base, t, oA, oc, ops, uA, uc, us, wA, wc, now⟩ : Pw) := (El.In.new (E := pwE) w (⟨bA, bc, base, t, oA, oc, ops, uA, uc, us, wA, wc, now⟩ : Pw) _ rfl).alloc _
  have hR : pwE.In ((w.alloc (.cells #[.slice bA base.length bc, .int .i64 t, .slice oA ops.length oc, .slice uA us.length uc, .slice wA now.length wc] 40)).alloc (.cells #[.slice none 0 0, .int .i64 0, .slice none 0 0, .slice none 0 0, .slice none 0 0] 40)) (w.heap.size + 1) Pw.zero := by
    have h := El.In.new (E := pwE) (w.alloc (.cells #[.slice bA base.length bc, .int .i64 t, .slice oA ops.length oc, .slice uA us.length uc, .slice wA now.length wc] 40)) Pw.zero #[.slice none 0 0, .int .i64 0, .slice none 0 0, .slice none 0 0, .slice none 0 0] rfl
    rw [alloc_size] at h; exact h
  have hB := below_alloc (below_alloc (Below.refl w.heap.size w) (.cells #[.slice bA base.length bc, .int .i64 t, .slice oA ops.length oc, .slice uA us.length uc, .slice wA now.length wc] 40)) (.cells #[.slice none 0 0, .int .i64 0, .slice none 0 0, .slice none 0 0, .slice none 0 0] 40)
  have hx0 := hx.below hB
  have HL := Lib.hid hx
  clear hx
  go_enter Tryz.func50, Tryz.ntmps50
  go_wp2_with fail
  replace hP := hP
  refine region_anyG (S := Two w.heap.size 0 2 (.slice bA base.length bc) (.slice oA ops.length oc)) 7 (by kernel_rfl) ?_
  replace hx0 := hx0.below (Below.refl _ _).drew
  replace hB := hB.drew
  replace hP : pwE.In ((w.alloc (.cells #[.slice bA base.length bc, .int .i64 t, .slice oA ops.length oc, .slice uA us.length uc, .slice wA now.length wc] 40)).alloc (.cells #[.slice none 0 0, .int .i64 0, .slice none 0 0, .slice none 0 0, .slice none 0 0] 40)).drew w.heap.size (⟨bA, bc, base, t, oA, oc, ops, uA, uc, us, wA, wc, now⟩ : Pw) := hP
  replace hR : pwE.In ((w.alloc (.cells #[.slice bA base.length bc, .int .i64 t, .slice oA ops.length oc, .slice uA us.length uc, .slice wA now.length wc] 40)).alloc (.cells #[.slice none 0 0, .int .i64 0, .slice none 0 0, .slice none 0 0, .slice none 0 0] 40)).drew (w.heap.size + 1) Pw.zero := hR
  generalize ((w.alloc (.cells #[.slice bA base.length bc, .int .i64 t, .slice oA ops.length oc, .slice uA us.length uc, .slice wA now.length wc] 40)).alloc (.cells #[.slice none 0 0, .int .i64 0, .slice none 0 0, .slice none 0 0, .slice none 0 0] 40)).drew = W at *
  obtain ⟨n1, h1⟩ : ∃ n, w.heap.size + 1 = n := ⟨_, rfl⟩
  rw [h1] at hR ⊢
  obtain ⟨n0, h0⟩ : ∃ n, w.heap.size = n := ⟨_, rfl⟩
  have HN := Lib.hid (show w.heap.size ≤ n0 ∧ n1 = n0 + 1 by omega)
  have hn10 : n1 ≠ n0 := by omega
  rw [h0] at hP ⊢
  clear h0 h1
  obtain ⟨hxb, hxo, hxu, hxw⟩ := hx0
  simp only at hxb hxo hxu hxw
  have hS : Two n0 0 2 (.slice bA base.length bc) (.slice oA ops.length oc) W := ⟨(pwIn5 hP).1, (pwIn5 hP).2.2.1⟩
  refine anyG_take (i := 0) (v := .pointer (some ⟨n0, 0, none⟩)) rfl (by kernel_rfl) (by kernel_rfl) (by kernel_rfl) (by kernel_rfl) (by kernel_rfl) (fun _ _ _ h => h) (Or.inl ⟨by rfl, fun w' hSw => by (obtain ⟨s0, s1⟩ := hSw; go_simp)⟩) hS ?_
  try simp only [Act.put, List.setIfInBounds_toArray, List.set_cons_zero, List.set_cons_succ]
  refine anyG_take (i := 1) (v := .slice bA base.length bc) rfl (by kernel_rfl) (by kernel_rfl) (by kernel_rfl) (by kernel_rfl) (by kernel_rfl) (fun _ _ _ h => h) (Or.inl ⟨by rfl, fun w' hSw => by (obtain ⟨s0, s1⟩ := hSw; go_simp)⟩) hS ?_
  try simp only [Act.put, List.setIfInBounds_toArray, List.set_cons_zero, List.set_cons_succ]
  refine anyG_take (i := 3) (v := .pointer (some ⟨n0, 2, none⟩)) rfl (by kernel_rfl) (by kernel_rfl) (by kernel_rfl) (by kernel_rfl) (by kernel_rfl) (fun _ _ _ h => h) (Or.inl ⟨by rfl, fun w' hSw => by (obtain ⟨s0, s1⟩ := hSw; go_simp)⟩) hS ?_
  try simp only [Act.put, List.setIfInBounds_toArray, List.set_cons_zero, List.set_cons_succ]
  refine anyG_take (i := 4) (v := .slice oA ops.length oc) rfl (by kernel_rfl) (by kernel_rfl) (by kernel_rfl) (by kernel_rfl) (by kernel_rfl) (fun _ _ _ h => h) (Or.inl ⟨by rfl, fun w' hSw => by (obtain ⟨s0, s1⟩ := hSw; go_simp)⟩) hS ?_
  try simp only [Act.put, List.setIfInBounds_toArray, List.set_cons_zero, List.set_cons_succ]
  refine anyG_step (rs := [2]) (by kernel_rfl) (by simp) ?_
  refine AllG.cons rfl (fun K hK => ?_) AllG.nil
  have C1 := clonePl_any bA bc base W hl1 hxb
  go_simp
  refine C1.mono ?_
  rintro e W1 ⟨A1, c1, rfl, hS1, hf1, hb1⟩
  clear C1
  have hP1 := hP.below hb1
  have hR1 := hR.below hb1
  replace hxo := hxo.below hb1
  replace hxu := hxu.below hb1
  replace hxw := hxw.below hb1
  clear hS
  have hS : Two n0 0 2 (.slice bA base.length bc) (.slice oA ops.length oc) W1 := ⟨(pwIn5 hP1).1, (pwIn5 hP1).2.2.1⟩
  try go_wp2_with fail
  refine hK.out _ _ hS ?_
  try simp only [Act.put, List.setIfInBounds_toArray, List.set_cons_zero, List.set_cons_succ]
  refine anyG_plain (i := 6) (v := .pointer (some ⟨n0, 0, none⟩)) rfl (by kernel_rfl) (by kernel_rfl) (by kernel_rfl) (by kernel_rfl) (fun _ _ _ h => h) (Or.inl ⟨by rfl, fun w' => by go_simp⟩) (fun _ => hS) ?_
  try simp only [Act.put, List.setIfInBounds_toArray, List.set_cons_zero, List.set_cons_succ]
  refine anyG_step (rs := [5]) (by kernel_rfl) (by simp) ?_
  refine AllG.cons rfl (fun K hK => ?_) AllG.nil
  have C2 := cloneOp_any oA oc ops W1 hl2 hxo
  go_simp
  refine C2.mono ?_
  rintro e W2 ⟨A2, c2, rfl, hS2, hf2, hb2⟩
  clear C2
  have hP2 := hP1.below hb2
  have hR2 := hR1.below hb2
  replace hxu := hxu.below hb2
  replace hxw := hxw.below hb2
  replace hS1 := hS1.below hb2
  have hB2 := hB.trans ((below_then hb1 hb2).mono (by have := hB.size; omega))
  have hl0 := hP.lt
  have hl1' := hP1.lt
  have hwW : w.heap.size ≤ W.heap.size ∧ w.heap.size ≤ W1.heap.size := ⟨hB.size, by have := hB.size; have := hb1.size; omega⟩
  have hlW : n1 < W.heap.size ∧ n1 < W1.heap.size := ⟨hR.lt, hR1.lt⟩
  clear hS
  have hS : Two n0 0 2 (.slice bA base.length bc) (.slice oA ops.length oc) W2 := ⟨(pwIn5 hP2).1, (pwIn5 hP2).2.2.1⟩
  try go_wp2_with fail
  refine hK.out _ _ hS ?_
  try simp only [Act.put, List.setIfInBounds_toArray, List.set_cons_zero, List.set_cons_succ]
  refine anyG_step (rs := [7]) (by kernel_rfl) (by simp) ?_
  refine AllG.last (n := 7) rfl (fun K hK => ?_)
  obtain ⟨q0, q1, q2, q3, q4⟩ := pwIn5 hP2
  have qf := hP2.frozen
  go_simp
  refine hK.out _ _ ?_
  try simp only [Act.put, List.setIfInBounds_toArray, List.set_cons_zero, List.set_cons_succ]
  clear q0 q1 q2 q3 q4 qf hS hK
  have hP3 := hP2.put ⟨A1, c1, base, t, oA, oc, ops, uA, uc, us, wA, wc, now⟩ 0 (.slice A1 base.length c1) rfl
  have hg3 := by_cell W2 n0 0 (.slice A1 base.length c1)
  have hR3 := hR2.other n0 0 (.slice A1 base.length c1) hn10
  refine anyG_plain_after (i := 8) (v := .pointer (some ⟨n0, 2, none⟩)) rfl (by kernel_rfl) (by kernel_rfl) (by kernel_rfl) (by kernel_rfl) (fun _ _ _ h => h) (Or.inl ⟨by rfl, fun w' => by go_simp⟩) (by kernel_rfl) ?_
  try simp only [Act.put, List.setIfInBounds_toArray, List.set_cons_zero, List.set_cons_succ]
  refine anyG_step (rs := [9]) (by kernel_rfl) (by simp) ?_
  refine AllG.after rfl (by kernel_rfl) (fun K hK => ?_) AllG.nil
  obtain ⟨q0, q1, q2, q3, q4⟩ := pwIn5 hP3
  have qf := hP3.frozen
  go_simp
  refine hK.out _ _ ?_
  try simp only [Act.put, List.setIfInBounds_toArray, List.set_cons_zero, List.set_cons_succ]
  clear q0 q1 q2 q3 q4 qf hK
  refine anyG_done (by kernel_rfl) ?_ _
  have hP4 := hP3.put ⟨A1, c1, base, t, A2, c2, ops, uA, uc, us, wA, wc, now⟩ 2 (.slice A2 ops.length c2) rfl
  have hg4 := by_cell2 hg3 2 (.slice A2 ops.length c2)
  have hR4 := hR3.other n0 2 (.slice A2 ops.length c2) hn10
  have hB4 := hB2.grown hg4 hB2.size (fun j e => by have := Option.some.inj e; have := HN.out; omega)
  have hS41 := hS1.keep hf1 hg4 hl0
  have hS42 := hS2.keep hf2 hg4 hl1'
  generalize (W2.setCell ⟨n0, 0, none⟩ (.slice A1 base.length c1)).setCell ⟨n0, 2, none⟩ (.slice A2 ops.length c2) = V at *
  clear hg3 hg4 hP3 hR3 hxb hxo hxu hxw hP2 hR2 hP1 hR1 hP hR hS1 hS2 hB2 hB hb1 hb2
  obtain ⟨hxb, hxo, hxu, hxw⟩ := HL.out.below hB4
  simp only at hxb hxo hxu hxw
  have hl0w := hP4.lt
  have hl1w := hR4.lt
  go_wp2_with fail
  refine region_anyG (S := Two n0 3 4 (.slice uA us.length uc) (.slice wA now.length wc)) 7 (by kernel_rfl) ?_
  replace hP : pwE.In V.drew n0 ⟨A1, c1, base, t, A2, c2, ops, uA, uc, us, wA, wc, now⟩ := hP4
  replace hR : pwE.In V.drew n1 Pw.zero := hR4
  replace hxu : SlV unE V.drew uA uc us := hxu
  replace hxw : SlV plE V.drew wA wc now := hxw
  replace hS41 : SlV plE V.drew A1 c1 base := hS41
  replace hS42 : SlV opE V.drew A2 c2 ops := hS42
  replace hB := hB4.drew
  replace hl0w : n0 < V.drew.heap.size := hl0w
  replace hl1w : n1 < V.drew.heap.size := hl1w
  clear hP4 hR4 hB4 hxb hxo
  generalize V.drew = V at *
  have hS : Two n0 3 4 (.slice uA us.length uc) (.slice wA now.length wc) V := ⟨(pwIn5 hP).2.2.2.1, (pwIn5 hP).2.2.2.2⟩
  refine anyG_take (i := 0) (v := .pointer (some ⟨n0, 3, none⟩)) rfl (by kernel_rfl) (by kernel_rfl) (by kernel_rfl) (by kernel_rfl) (by kernel_rfl) (fun _ _ _ h => h) (Or.inl ⟨by rfl, fun w' hSw => by (obtain ⟨s0, s1⟩ := hSw; go_simp)⟩) hS ?_
  try simp only [Act.put, List.setIfInBounds_toArray, List.set_cons_zero, List.set_cons_succ]
  refine anyG_take (i := 1) (v := .slice uA us.length uc) rfl (by kernel_rfl) (by kernel_rfl) (by kernel_rfl) (by kernel_rfl) (by kernel_rfl) (fun _ _ _ h => h) (Or.inl ⟨by rfl, fun w' hSw => by (obtain ⟨s0, s1⟩ := hSw; go_simp)⟩) hS ?_
  try simp only [Act.put, List.setIfInBounds_toArray, List.set_cons_zero, List.set_cons_succ]
  refine anyG_take (i := 3) (v := .pointer (some ⟨n0, 4, none⟩)) rfl (by kernel_rfl) (by kernel_rfl) (by kernel_rfl) (by kernel_rfl) (by kernel_rfl) (fun _ _ _ h => h) (Or.inl ⟨by rfl, fun w' hSw => by (obtain ⟨s0, s1⟩ := hSw; go_simp)⟩) hS ?_
  try simp only [Act.put, List.setIfInBounds_toArray, List.set_cons_zero, List.set_cons_succ]
  refine anyG_take (i := 4) (v := .slice wA now.length wc) rfl (by kernel_rfl) (by kernel_rfl) (by kernel_rfl) (by kernel_rfl) (by kernel_rfl) (fun _ _ _ h => h) (Or.inl ⟨by rfl, fun w' hSw => by (obtain ⟨s0, s1⟩ := hSw; go_simp)⟩) hS ?_
  try simp only [Act.put, List.setIfInBounds_toArray, List.set_cons_zero, List.set_cons_succ]
  refine anyG_step (rs := [2]) (by kernel_rfl) (by simp) ?_
  refine AllG.cons rfl (fun K hK => ?_) AllG.nil
  have C3 := cloneUn_any uA uc us V hl3 hxu
  go_simp
  refine C3.mono ?_
  rintro e W5 ⟨A3, c3, rfl, hS3, hf3, hb5⟩
  clear C3
  have hP5 := hP.below hb5
  have hR5 := hR.below hb5
  replace hxw := hxw.below hb5
  replace hS41 := hS41.below hb5
  replace hS42 := hS42.below hb5
  clear hS
  have hS : Two n0 3 4 (.slice uA us.length uc) (.slice wA now.length wc) W5 := ⟨(pwIn5 hP5).2.2.2.1, (pwIn5 hP5).2.2.2.2⟩
  try go_wp2_with fail
  refine hK.out _ _ hS ?_
  try simp only [Act.put, List.setIfInBounds_toArray, List.set_cons_zero, List.set_cons_succ]
  refine anyG_plain (i := 6) (v := .pointer (some ⟨n0, 3, none⟩)) rfl (by kernel_rfl) (by kernel_rfl) (by kernel_rfl) (by kernel_rfl) (fun _ _ _ h => h) (Or.inl ⟨by rfl, fun w' => by go_simp⟩) (fun _ => hS) ?_
  try simp only [Act.put, List.setIfInBounds_toArray, List.set_cons_zero, List.set_cons_succ]
  refine anyG_step (rs := [5]) (by kernel_rfl) (by simp) ?_
  refine AllG.cons rfl (fun K hK => ?_) AllG.nil
  have C4 := clonePl_any wA wc now W5 hl4 hxw
  go_simp
  refine C4.mono ?_
  rintro e W6 ⟨A4, c4, rfl, hS4, hf4, hb6⟩
  clear C4
  have hP6 := hP5.below hb6
  have hR6 := hR5.below hb6
  replace hS41 := hS41.below hb6
  replace hS42 := hS42.below hb6
  replace hS3 := hS3.below hb6
  have hB6 := hB.trans ((below_then hb5 hb6).mono (by have := hB.size; omega))
  have hl5 := hP5.lt
  have hl51 := hR5.lt
  clear hS
  have hS : Two n0 3 4 (.slice uA us.length uc) (.slice wA now.length wc) W6 := ⟨(pwIn5 hP6).2.2.2.1, (pwIn5 hP6).2.2.2.2⟩
  try go_wp2_with fail
  refine hK.out _ _ hS ?_
  try simp only [Act.put, List.setIfInBounds_toArray, List.set_cons_zero, List.set_cons_succ]
  refine anyG_step (rs := [7]) (by kernel_rfl) (by simp) ?_
  refine AllG.last (n := 7) rfl (fun K hK => ?_)
  obtain ⟨q0, q1, q2, q3, q4⟩ := pwIn5 hP6
  have qf := hP6.frozen
  go_simp
  refine hK.out _ _ ?_
  try simp only [Act.put, List.setIfInBounds_toArray, List.set_cons_zero, List.set_cons_succ]
  clear q0 q1 q2 q3 q4 qf hS hK
  have hP7 := hP6.put ⟨A1, c1, base, t, A2, c2, ops, A3, c3, us, wA, wc, now⟩ 3 (.slice A3 us.length c3) rfl
  have hg7 := by_cell W6 n0 3 (.slice A3 us.length c3)
  have hR7 := hR6.other n0 3 (.slice A3 us.length c3) hn10
  refine anyG_plain_after (i := 8) (v := .pointer (some ⟨n0, 4, none⟩)) rfl (by kernel_rfl) (by kernel_rfl) (by kernel_rfl) (by kernel_rfl) (fun _ _ _ h => h) (Or.inl ⟨by rfl, fun w' => by go_simp⟩) (by kernel_rfl) ?_
  try simp only [Act.put, List.setIfInBounds_toArray, List.set_cons_zero, List.set_cons_succ]
  refine anyG_step (rs := [9]) (by kernel_rfl) (by simp) ?_
  refine AllG.after rfl (by kernel_rfl) (fun K hK => ?_) AllG.nil
  obtain ⟨q0, q1, q2, q3, q4⟩ := pwIn5 hP7
  have qf := hP7.frozen
  go_simp
  refine hK.out _ _ ?_
  try simp only [Act.put, List.setIfInBounds_toArray, List.set_cons_zero, List.set_cons_succ]
  clear q0 q1 q2 q3 q4 qf hK
  refine anyG_done (by kernel_rfl) ?_ _
  have hP8 := hP7.put ⟨A1, c1, base, t, A2, c2, ops, A3, c3, us, A4, c4, now⟩ 4 (.slice A4 now.length c4) rfl
  have hg8 := by_cell2 hg7 4 (.slice A4 now.length c4)
  have hR8 := hR7.other n0 4 (.slice A4 now.length c4) hn10
  have hB8 := hB6.grown hg8 hB6.size (fun j e => by have := Option.some.inj e; have := HN.out; omega)
  have hf1' : Frs W.heap.size A1 := hf1
  have h81 : SlV plE ((W6.setCell ⟨n0, 3, none⟩ (.slice A3 us.length c3)).setCell ⟨n0, 4, none⟩ (.slice A4 now.length c4)) A1 c1 base := hS41.keep hf1 hg8 hl0
  have h82 := hS42.keep hf2 hg8 hl1'
  have h83 := hS3.keep hf3 hg8 hl0w
  have h84 := hS4.keep hf4 hg8 hl5
  have hlz : n1 < W.heap.size ∧ n1 < W1.heap.size := by
    refine ⟨?_, ?_⟩
    · exact hlW.1
    · exact hlW.2
  generalize (W6.setCell ⟨n0, 3, none⟩ (.slice A3 us.length c3)).setCell ⟨n0, 4, none⟩ (.slice A4 now.length c4) = V8 at *
  clear hg7 hg8 hP7 hR7
  have HW := Lib.hid (show w.heap.size ≤ W.heap.size ∧ w.heap.size ≤ W1.heap.size ∧ w.heap.size ≤ V.heap.size ∧ w.heap.size ≤ W5.heap.size from ⟨hwW.1, hwW.2, hB.size, by have := hB.size; have := hb5.size; omega⟩)
  go_wp2_with (first | (refine El.load pwRow rfl _ rfl n0 0 rfl ⟨A1, c1, base, t, A2, c2, ops, A3, c3, us, A4, c4, now⟩ hP8.at #[.slice A1 base.length c1, .int .i64 t, .slice A2 ops.length c2, .slice A3 us.length c3, .slice A4 now.length c4] rfl ?_) | (refine El.store pwRow rfl _ _ rfl n1 ⟨A1, c1, base, t, A2, c2, ops, A3, c3, us, A4, c4, now⟩ #[.slice A1 base.length c1, .int .i64 t, .slice A2 ops.length c2, .slice A3 us.length c3, .slice A4 now.length c4] rfl rfl rfl Pw.zero hR8 ?_))
  refine El.ret1 pwRow (hR8.set ⟨A1, c1, base, t, A2, c2, ops, A3, c3, us, A4, c4, now⟩ #[.slice A1 base.length c1, .int .i64 t, .slice A2 ops.length c2, .slice A3 us.length c3, .slice A4 now.length c4] rfl) rfl rfl rfl #[.slice A1 base.length c1, .int .i64 t, .slice A2 ops.length c2, .slice A3 us.length c3, .slice A4 now.length c4] rfl ?_
  have hw1 : w.heap.size ≤ n1 := by have := HN.out; omega
  have hgz := by_row V8 n1 #[.slice A1 base.length c1, .int .i64 t, .slice A2 ops.length c2, .slice A3 us.length c3, .slice A4 now.length c4]
  exact ⟨⟨A1, c1, base, t, A2, c2, ops, A3, c3, us, A4, c4, now⟩, rfl, ⟨h81.keep hf1 hgz hlz.1, h82.keep hf2 hgz hlz.2, h83.keep hf3 hgz hl1w, h84.keep hf4 hgz hl51⟩, rfl, ⟨hf1.mono HW.out.1, hf2.mono HW.out.2.1, hf3.mono HW.out.2.2.1, hf4.mono HW.out.2.2.2⟩, below_setRow hB8 hw1 _⟩
end Go.Proofs.YtdcjffajmckleaaGreatDoor

/- Moves undone from the last one on. -/
namespace Go.Proofs.YtdcjffajmckleaaGreatDoor
open Go.RowKit Tre Cod Pst

theorem undo_at {base : List Pl} (hs : Sorted base) (o : List Mv) (j : Nat) (h : j < o.length) :
    ∃ u, (foldL base (mvs o)).2[j]? = some u ∧ backL (fold1 base o (j + 1)) o[j].K u = fold1 base o j := by
  have hm : j < (mvs o).length := by rw [mvs_len]; exact h
  have e : (mvs o)[j]'hm = mvPl o[j] := List.getElem_map mvPl
  refine ⟨_, foldL_un base (mvs o) j hm, ?_⟩
  have h2 := foldL_undo hs (mvs o) j hm
  unfold fold1
  rw [← mvs_take, ← mvs_take]
  rw [e] at h2 ⊢
  exact h2

set_option maxRecDepth 100000 in
set_option maxHeartbeats 4000000 in
theorem undone_any (A : Option Addr) (c : Nat) (base now : List Pl) (O : Option Addr) (oc : Nat) (o : List Mv) (U : Option Addr) (uc : Nat) (us : List Un) (w : World) (hl : base.length + o.length ≤ 890) (hs : Sorted base)
    (hnow : now = (foldL base (mvs o)).1) (hus : us = (foldL base (mvs o)).2) (hT : SlV plE w A c now) (hO : opE.Sl w O o) (hU : unE.Sl w U us) :
    Calls Tryz.prog 53 #[.slice A now.length c, .slice O o.length oc, .slice U us.length uc] w fun e w' => ∃ A' c', e = .returned (.slice A' base.length c') ∧ SlV plE w' A' c' base ∧ Below w.heap.size w w' := by
  have hul : us.length = o.length := by rw [hus, foldL_len, mvs_len]
  have hUN := fun j h => undo_at hs o j h
  rw [← hus] at hUN
  have hn0 : now = fold1 base o o.length := by rw [fold1_all]; exact hnow
  have HUN := Lib.hid hUN
  have HUL := Lib.hid hul
  clear hnow hus hUN hul
  subst hn0
  go_enter Tryz.func53, Tryz.ntmps53
  go_wp2
  go_loopw [0, 7] (fun x y wr => ∃ (k : Nat) (z : Int) (A' : Option Addr) (c' : Nat), k ≤ o.length ∧ z + 1 = k ∧ y = .int .i64 z ∧ x = .slice A' (fold1 base o k).length c' ∧ SlV plE wr A' c' (fold1 base o k) ∧ Below w.heap.size w wr) (fun _ y _ => (intOf y + 1).toNat)
  case atStart => exact ⟨o.length, (o.length : Int) - 1, A, c, Nat.le_refl _, by omega, by go_num, rfl, hT, Below.refl _ _⟩
  case round =>
    clear hT
    obtain ⟨k, z, A', c', hk, hz, rfl, rfl, hS, hB⟩ := hrel
    by_cases hpos : 0 ≤ z
    · obtain ⟨j, rfl⟩ : ∃ j : Nat, z = j := ⟨z.toNat, by omega⟩
      obtain rfl : k = j + 1 := by omega
      obtain ⟨b, off, rfl, hbw, hc⟩ := hO (by omega)
      obtain ⟨b2, off2, rfl, hbw2, hc2⟩ := hU (by rw [HUL.out]; omega)
      have hju : j < us.length := by rw [HUL.out]; omega
      have hat : opE.At wr b (off + j * 7) _ := (hc j (by omega)).below hB hbw
      have hat2 : unE.At wr b2 (off2 + j * 5) _ := (hc2 j hju).below hB hbw2
      obtain ⟨u, hu, hback⟩ := HUN.out j (by omega)
      have hu2 : us[j] = u := by rw [List.getElem?_eq_getElem hju] at hu; exact Option.some.inj hu
      obtain ⟨m, hm⟩ : ∃ m, o[j] = m := ⟨_, rfl⟩
      rw [hm] at hat hback
      rw [hu2] at hat2
      have hl1 := fold1_len base o (j + 1)
      have hs1 := fold1_sorted hs o (j + 1)
      have CB := fun (wx : World) (hx : Below wr.heap.size wr wx) => back_any A' c' (fold1 base o (j + 1)) m u wx (by omega) hs1 (hS.below hx)
      rw [hback] at CB
      have HCB := Lib.hid CB
      have hbw' : b < wr.heap.size := Nat.lt_of_lt_of_le hbw hB.size
      have hbw2' : b2 < wr.heap.size := Nat.lt_of_lt_of_le hbw2 hB.size
      have HB := Lib.hid hB
      have hjl : j < o.length := by omega
      clear CB hback hl1 hs1 hc hc2 hm hu hu2 hS hz
      generalize fold1 base o (j + 1) = T1 at *
      go_wp2_with fail
      replace hat : opE.At wr.drew b (off + j * 7) m := hat
      replace hat2 : unE.At wr.drew b2 (off2 + j * 5) u := hat2
      have hdr : Below wr.heap.size wr wr.drew := (Below.refl _ wr).drew
      go_region_held3 (fun w' => (w'.cell? ⟨b, off + j * 7, none⟩ = some (.int .i64 m.C) ∧ w'.cell? ⟨b, off + j * 7 + 1, none⟩ = some (.int .i64 m.D) ∧ w'.cell? ⟨b, off + j * 7 + 2, none⟩ = some (.int .i64 m.I) ∧ w'.cell? ⟨b, off + j * 7 + 3, none⟩ = some (.int .i64 m.M) ∧ w'.cell? ⟨b, off + j * 7 + 4, none⟩ = some (.int .i64 m.K) ∧ w'.cell? ⟨b, off + j * 7 + 5, none⟩ = some (.int .i64 m.U) ∧ w'.cell? ⟨b, off + j * 7 + 6, none⟩ = some (.string m.s)) ∧ (w'.cell? ⟨b2, off2 + j * 5, none⟩ = some (.int .i64 u.was.n) ∧ w'.cell? ⟨b2, off2 + j * 5 + 1, none⟩ = some (.int .i64 u.was.u) ∧ w'.cell? ⟨b2, off2 + j * 5 + 2, none⟩ = some (.string u.was.s) ∧ w'.cell? ⟨b2, off2 + j * 5 + 3, none⟩ = some (.bool u.had) ∧ w'.cell? ⟨b2, off2 + j * 5 + 4, none⟩ = some (.bool u.did))) (with_reducible first | exact ⟨opAt hat, unAt hat2⟩ | exact ⟨opAt hat5, unAt hat25⟩) (first | (go_at_call 86; (with_reducible refine (HCB.out _ hdr).mono ?_); rintro e w5 ⟨A5, c5, rfl, hS5, hf5, hb5⟩; have hat5 := hat.below hb5 hbw'; have hat25 := hat2.below hb5 hbw2'))
      all_goals
        go_wp2
        go_roundw
        case rel =>
          exact ⟨j, (j : Int) - 1, A5, c5, by omega, by omega, by go_num, rfl, hS5, below_then HB.out (below_then hdr hb5)⟩
        case measure => simp [intOf]
    · obtain rfl : z = -1 := by omega
      obtain rfl : k = 0 := by omega
      rw [fold1_zero] at hS ⊢
      go_wp2
      go_ret
      exact ⟨A', c', rfl, hS, hB⟩
end Go.Proofs.YtdcjffajmckleaaGreatDoor

/- Add of the program: what comes too late, or a second time. -/
namespace Go.Proofs.YtdcjffajmckleaaGreatDoor
open Go.RowKit Tre Cod Pst

set_option maxRecDepth 100000 in
set_option maxHeartbeats 4000000 in
theorem pAdd_late (x : Pw) (m : Mv) (w : World) (hx : PastOk w x) (hI : PInv x.v) (hl : x.ops.length ≤ 200) (h : has Mv.C Mv.D x.ops m = true ∨ (has Mv.C Mv.D x.ops m = false ∧ m.C ≤ x.t)) :
    Calls Tryz.prog 25 #[.agg #[.slice x.bA x.base.length x.bc, .int .i64 x.t, .slice x.oA x.ops.length x.oc, .slice x.uA x.us.length x.uc, .slice x.wA x.now.length x.wc], .agg #[.int .i64 m.C, .int .i64 m.D, .int .i64 m.I, .int .i64 m.M, .int .i64 m.K, .int .i64 m.U, .string m.s]] w fun e w' => ∃ y : Pw, e = .returned (.tuple #[.agg #[.slice y.bA y.base.length y.bc, .int .i64 y.t, .slice y.oA y.ops.length y.oc, .slice y.uA y.us.length y.uc, .slice y.wA y.now.length y.wc], .bool (addV x.v m).2]) ∧ PastOk w' y ∧ y.v = (addV x.v m).1 ∧ Below w.heap.size w w' := by
  have ha : addV x.v m = (x.v, false) := by
    rcases h with h | h
    · by_cases h1 : m.C ≤ x.t
      · exact addV_late' h1
      · exact addV_same' h1 h
    · exact addV_late' h.2
  have hl1 : x.base.length ≤ 62 := tree_len hI.tree
  have hl4 : x.now.length ≤ 62 := tree_len hI.ntree
  have hl3 : x.us.length = x.ops.length := hI.ulen
  have hI' : Ris Mv.C Mv.D x.ops := hI.ris
  rw [ha]
  obtain ⟨bA, bc, base, t, oA, oc, ops, uA, uc, us, wA, wc, now⟩ := x
  simp only at hl h hl1 hl3 hl4 hI'
  have HU := Lib.hid hl3
  clear ha hl3 hI
  rcases h with h | ⟨h, ht⟩
  · skip
    have hP : pwE.In (((w.alloc (.cells #[.slice bA base.length bc, .int .i64 t, .slice oA ops.length oc, .slice uA us.length uc, .slice wA now.length wc] 40)).alloc (.cells #[.int .i64 m.C, .int .i64 m.D, .int .i64 m.I, .int .i64 m.M, .int .i64 m.K, .int .i64 m.U, .string m.s] 55)).alloc (.cells #[.slice none 0 0, .int .i64 0, .slice none 0 0, .slice none 0 0, .slice none 0 0] 40)) w.heap.size (⟨bA, bc, base, t, oA, oc, ops, uA, uc, us, wA, wc, now⟩ : Pw) := ((El.In.new (E := pwE) w (⟨bA, bc, base, t, oA, oc, ops, uA, uc, us, wA, wc, now⟩ : Pw) _ rfl).alloc _).alloc _
    have hO : opE.In (((w.alloc (.cells #[.slice bA base.length bc, .int .i64 t, .slice oA ops.length oc, .slice uA us.length uc, .slice wA now.length wc] 40)).alloc (.cells #[.int .i64 m.C, .int .i64 m.D, .int .i64 m.I, .int .i64 m.M, .int .i64 m.K, .int .i64 m.U, .string m.s] 55)).alloc (.cells #[.slice none 0 0, .int .i64 0, .slice none 0 0, .slice none 0 0, .slice none 0 0] 40)) (w.heap.size + 1) m := by
      have h := (El.In.new (E := opE) (w.alloc (.cells #[.slice bA base.length bc, .int .i64 t, .slice oA ops.length oc, .slice uA us.length uc, .slice wA now.length wc] 40)) m #[.int .i64 m.C, .int .i64 m.D, .int .i64 m.I, .int .i64 m.M, .int .i64 m.K, .int .i64 m.U, .string m.s] rfl).alloc (.cells #[.slice none 0 0, .int .i64 0, .slice none 0 0, .slice none 0 0, .slice none 0 0] 40)
      rw [alloc_size] at h; exact h
    have hR : pwE.In (((w.alloc (.cells #[.slice bA base.length bc, .int .i64 t, .slice oA ops.length oc, .slice uA us.length uc, .slice wA now.length wc] 40)).alloc (.cells #[.int .i64 m.C, .int .i64 m.D, .int .i64 m.I, .int .i64 m.M, .int .i64 m.K, .int .i64 m.U, .string m.s] 55)).alloc (.cells #[.slice none 0 0, .int .i64 0, .slice none 0 0, .slice none 0 0, .slice none 0 0] 40)) (w.heap.size + 2) Pw.zero := by
      have h := El.In.new (E := pwE) ((w.alloc (.cells #[.slice bA base.length bc, .int .i64 t, .slice oA ops.length oc, .slice uA us.length uc, .slice wA now.length wc] 40)).alloc (.cells #[.int .i64 m.C, .int .i64 m.D, .int .i64 m.I, .int .i64 m.M, .int .i64 m.K, .int .i64 m.U, .string m.s] 55)) Pw.zero #[.slice none 0 0, .int .i64 0, .slice none 0 0, .slice none 0 0, .slice none 0 0] rfl
      rw [alloc_size, alloc_size] at h; exact h
    have hB := below_alloc (below_alloc (below_alloc (Below.refl w.heap.size w) (.cells #[.slice bA base.length bc, .int .i64 t, .slice oA ops.length oc, .slice uA us.length uc, .slice wA now.length wc] 40)) (.cells #[.int .i64 m.C, .int .i64 m.D, .int .i64 m.I, .int .i64 m.M, .int .i64 m.K, .int .i64 m.U, .string m.s] 55)) (.cells #[.slice none 0 0, .int .i64 0, .slice none 0 0, .slice none 0 0, .slice none 0 0] 40)
    have HL := Lib.hid hx
    have hx0 := hx.below hB
    have CF := pfind_any oA oc ops m (((w.alloc (.cells #[.slice bA base.length bc, .int .i64 t, .slice oA ops.length oc, .slice uA us.length uc, .slice wA now.length wc] 40)).alloc (.cells #[.int .i64 m.C, .int .i64 m.D, .int .i64 m.I, .int .i64 m.M, .int .i64 m.K, .int .i64 m.U, .string m.s] 55)).alloc (.cells #[.slice none 0 0, .int .i64 0, .slice none 0 0, .slice none 0 0, .slice none 0 0] 40)) hI' (by omega) hx0.o.1
    clear hx hx0
    go_enter Tryz.func25, Tryz.ntmps25
    go_wp2_with fail
    generalize ((w.alloc (.cells #[.slice bA base.length bc, .int .i64 t, .slice oA ops.length oc, .slice uA us.length uc, .slice wA now.length wc] 40)).alloc (.cells #[.int .i64 m.C, .int .i64 m.D, .int .i64 m.I, .int .i64 m.M, .int .i64 m.K, .int .i64 m.U, .string m.s] 55)).alloc (.cells #[.slice none 0 0, .int .i64 0, .slice none 0 0, .slice none 0 0, .slice none 0 0] 40) = W at *
    obtain ⟨n2, h2⟩ : ∃ n, w.heap.size + 2 = n := ⟨_, rfl⟩
    obtain ⟨n1, h1⟩ : ∃ n, w.heap.size + 1 = n := ⟨_, rfl⟩
    obtain ⟨n0, h0⟩ : ∃ n, w.heap.size = n := ⟨_, rfl⟩
    have HN := Lib.hid (show w.heap.size ≤ n0 ∧ n1 = n0 + 1 ∧ n2 = n0 + 2 by omega)
    have hn20 : n2 ≠ n0 := by omega
    try rw [show w.heap.size + 1 + 1 = n2 by omega]
    rw [h2] at hR
    rw [h1] at hO ⊢
    rw [h0] at hP ⊢
    try rw [h2]
    clear h0 h1 h2
    refine CF.mono ?_
    rintro e W1 ⟨rfl, hb⟩
    clear CF
    replace hP := hP.below hb
    replace hO := hO.below hb
    replace hR := hR.below hb
    replace hB := hB.trans (hb.mono (by have := hB.size; omega))
    clear hb
    obtain ⟨p0, p1, p2, p3, p4⟩ := pwIn5 hP
    obtain ⟨o0, o1, o2, o3, o4, o5, o6⟩ := opIn7 hO
    rw [h]
    clear p0 p1 p2 p3 p4 o0 o1 o2 o3 o4 o5 o6
    have hx1 := HL.out.below hB
    have CS := psame_any (⟨bA, bc, base, t, oA, oc, ops, uA, uc, us, wA, wc, now⟩ : Pw) W1 hx1 (by simp only; omega) (by simp only; omega) (by simp only; rw [HU.out]; omega) (by simp only; omega)
    simp only at CS
    have HCS := Lib.hid CS
    clear CS
    go_wp2_with (first | (refine El.load pwRow rfl _ rfl n0 0 rfl (⟨bA, bc, base, t, oA, oc, ops, uA, uc, us, wA, wc, now⟩ : Pw) hP.at #[.slice bA base.length bc, .int .i64 t, .slice oA ops.length oc, .slice uA us.length uc, .slice wA now.length wc] rfl ?_) | (go_at_call 50; (with_reducible refine HCS.out.mono ?_); rintro e W2 ⟨y, rfl, hy, hyv, hyf, hb2⟩; have hR2 := hR.below hb2) | (refine El.store pwRow rfl _ _ rfl n2 y #[.slice y.bA y.base.length y.bc, .int .i64 y.t, .slice y.oA y.ops.length y.oc, .slice y.uA y.us.length y.uc, .slice y.wA y.now.length y.wc] rfl rfl rfl Pw.zero hR2 ?_))
    refine El.ret2 pwRow (v := .bool false) (hR2.set y #[.slice y.bA y.base.length y.bc, .int .i64 y.t, .slice y.oA y.ops.length y.oc, .slice y.uA y.us.length y.uc, .slice y.wA y.now.length y.wc] rfl) rfl rfl rfl rfl #[.slice y.bA y.base.length y.bc, .int .i64 y.t, .slice y.oA y.ops.length y.oc, .slice y.uA y.us.length y.uc, .slice y.wA y.now.length y.wc] rfl ?_
    have hw2 : w.heap.size ≤ n2 := by have := HN.out; omega
    have hB2 := hB.trans (hb2.mono (by have := hB.size; omega))
    have hl2 := hR.lt
    exact ⟨y, rfl, hy.keep hyf (by_row _ _ _) hl2, hyv, below_setRow hB2 hw2 _⟩
  · skip
    have hP : pwE.In (((w.alloc (.cells #[.slice bA base.length bc, .int .i64 t, .slice oA ops.length oc, .slice uA us.length uc, .slice wA now.length wc] 40)).alloc (.cells #[.int .i64 m.C, .int .i64 m.D, .int .i64 m.I, .int .i64 m.M, .int .i64 m.K, .int .i64 m.U, .string m.s] 55)).alloc (.cells #[.slice none 0 0, .int .i64 0, .slice none 0 0, .slice none 0 0, .slice none 0 0] 40)) w.heap.size (⟨bA, bc, base, t, oA, oc, ops, uA, uc, us, wA, wc, now⟩ : Pw) := ((El.In.new (E := pwE) w (⟨bA, bc, base, t, oA, oc, ops, uA, uc, us, wA, wc, now⟩ : Pw) _ rfl).alloc _).alloc _
    have hO : opE.In (((w.alloc (.cells #[.slice bA base.length bc, .int .i64 t, .slice oA ops.length oc, .slice uA us.length uc, .slice wA now.length wc] 40)).alloc (.cells #[.int .i64 m.C, .int .i64 m.D, .int .i64 m.I, .int .i64 m.M, .int .i64 m.K, .int .i64 m.U, .string m.s] 55)).alloc (.cells #[.slice none 0 0, .int .i64 0, .slice none 0 0, .slice none 0 0, .slice none 0 0] 40)) (w.heap.size + 1) m := by
      have h := (El.In.new (E := opE) (w.alloc (.cells #[.slice bA base.length bc, .int .i64 t, .slice oA ops.length oc, .slice uA us.length uc, .slice wA now.length wc] 40)) m #[.int .i64 m.C, .int .i64 m.D, .int .i64 m.I, .int .i64 m.M, .int .i64 m.K, .int .i64 m.U, .string m.s] rfl).alloc (.cells #[.slice none 0 0, .int .i64 0, .slice none 0 0, .slice none 0 0, .slice none 0 0] 40)
      rw [alloc_size] at h; exact h
    have hR : pwE.In (((w.alloc (.cells #[.slice bA base.length bc, .int .i64 t, .slice oA ops.length oc, .slice uA us.length uc, .slice wA now.length wc] 40)).alloc (.cells #[.int .i64 m.C, .int .i64 m.D, .int .i64 m.I, .int .i64 m.M, .int .i64 m.K, .int .i64 m.U, .string m.s] 55)).alloc (.cells #[.slice none 0 0, .int .i64 0, .slice none 0 0, .slice none 0 0, .slice none 0 0] 40)) (w.heap.size + 2) Pw.zero := by
      have h := El.In.new (E := pwE) ((w.alloc (.cells #[.slice bA base.length bc, .int .i64 t, .slice oA ops.length oc, .slice uA us.length uc, .slice wA now.length wc] 40)).alloc (.cells #[.int .i64 m.C, .int .i64 m.D, .int .i64 m.I, .int .i64 m.M, .int .i64 m.K, .int .i64 m.U, .string m.s] 55)) Pw.zero #[.slice none 0 0, .int .i64 0, .slice none 0 0, .slice none 0 0, .slice none 0 0] rfl
      rw [alloc_size, alloc_size] at h; exact h
    have hB := below_alloc (below_alloc (below_alloc (Below.refl w.heap.size w) (.cells #[.slice bA base.length bc, .int .i64 t, .slice oA ops.length oc, .slice uA us.length uc, .slice wA now.length wc] 40)) (.cells #[.int .i64 m.C, .int .i64 m.D, .int .i64 m.I, .int .i64 m.M, .int .i64 m.K, .int .i64 m.U, .string m.s] 55)) (.cells #[.slice none 0 0, .int .i64 0, .slice none 0 0, .slice none 0 0, .slice none 0 0] 40)
    have HL := Lib.hid hx
    have hx0 := hx.below hB
    have CF := pfind_any oA oc ops m (((w.alloc (.cells #[.slice bA base.length bc, .int .i64 t, .slice oA ops.length oc, .slice uA us.length uc, .slice wA now.length wc] 40)).alloc (.cells #[.int .i64 m.C, .int .i64 m.D, .int .i64 m.I, .int .i64 m.M, .int .i64 m.K, .int .i64 m.U, .string m.s] 55)).alloc (.cells #[.slice none 0 0, .int .i64 0, .slice none 0 0, .slice none 0 0, .slice none 0 0] 40)) hI' (by omega) hx0.o.1
    clear hx hx0
    go_enter Tryz.func25, Tryz.ntmps25
    go_wp2_with fail
    generalize ((w.alloc (.cells #[.slice bA base.length bc, .int .i64 t, .slice oA ops.length oc, .slice uA us.length uc, .slice wA now.length wc] 40)).alloc (.cells #[.int .i64 m.C, .int .i64 m.D, .int .i64 m.I, .int .i64 m.M, .int .i64 m.K, .int .i64 m.U, .string m.s] 55)).alloc (.cells #[.slice none 0 0, .int .i64 0, .slice none 0 0, .slice none 0 0, .slice none 0 0] 40) = W at *
    obtain ⟨n2, h2⟩ : ∃ n, w.heap.size + 2 = n := ⟨_, rfl⟩
    obtain ⟨n1, h1⟩ : ∃ n, w.heap.size + 1 = n := ⟨_, rfl⟩
    obtain ⟨n0, h0⟩ : ∃ n, w.heap.size = n := ⟨_, rfl⟩
    have HN := Lib.hid (show w.heap.size ≤ n0 ∧ n1 = n0 + 1 ∧ n2 = n0 + 2 by omega)
    have hn20 : n2 ≠ n0 := by omega
    try rw [show w.heap.size + 1 + 1 = n2 by omega]
    rw [h2] at hR
    rw [h1] at hO ⊢
    rw [h0] at hP ⊢
    try rw [h2]
    clear h0 h1 h2
    refine CF.mono ?_
    rintro e W1 ⟨rfl, hb⟩
    clear CF
    replace hP := hP.below hb
    replace hO := hO.below hb
    replace hR := hR.below hb
    replace hB := hB.trans (hb.mono (by have := hB.size; omega))
    clear hb
    obtain ⟨p0, p1, p2, p3, p4⟩ := pwIn5 hP
    obtain ⟨o0, o1, o2, o3, o4, o5, o6⟩ := opIn7 hO
    rw [h]
    have hx1 := HL.out.below hB
    have CS := psame_any (⟨bA, bc, base, t, oA, oc, ops, uA, uc, us, wA, wc, now⟩ : Pw) W1 hx1 (by simp only; omega) (by simp only; omega) (by simp only; rw [HU.out]; omega) (by simp only; omega)
    simp only at CS
    have HCS := Lib.hid CS
    clear CS
    go_wp2_with (first | (refine El.load pwRow rfl _ rfl n0 0 rfl (⟨bA, bc, base, t, oA, oc, ops, uA, uc, us, wA, wc, now⟩ : Pw) hP.at #[.slice bA base.length bc, .int .i64 t, .slice oA ops.length oc, .slice uA us.length uc, .slice wA now.length wc] rfl ?_) | (go_at_call 50; (with_reducible refine HCS.out.mono ?_); rintro e W2 ⟨y, rfl, hy, hyv, hyf, hb2⟩; have hR2 := hR.below hb2) | (refine El.store pwRow rfl _ _ rfl n2 y #[.slice y.bA y.base.length y.bc, .int .i64 y.t, .slice y.oA y.ops.length y.oc, .slice y.uA y.us.length y.uc, .slice y.wA y.now.length y.wc] rfl rfl rfl Pw.zero hR2 ?_))
    refine El.ret2 pwRow (v := .bool false) (hR2.set y #[.slice y.bA y.base.length y.bc, .int .i64 y.t, .slice y.oA y.ops.length y.oc, .slice y.uA y.us.length y.uc, .slice y.wA y.now.length y.wc] rfl) rfl rfl rfl rfl #[.slice y.bA y.base.length y.bc, .int .i64 y.t, .slice y.oA y.ops.length y.oc, .slice y.uA y.us.length y.uc, .slice y.wA y.now.length y.wc] rfl ?_
    have hw2 : w.heap.size ≤ n2 := by have := HN.out; omega
    have hB2 := hB.trans (hb2.mono (by have := hB.size; omega))
    have hl2 := hR.lt
    exact ⟨y, rfl, hy.keep hyf (by_row _ _ _) hl2, hyv, below_setRow hB2 hw2 _⟩
end Go.Proofs.YtdcjffajmckleaaGreatDoor

/- Add of the program: an operation put in. -/
namespace Go.Proofs.YtdcjffajmckleaaGreatDoor
open Go.RowKit Tre Cod Pst

/-- A past written cell by cell. -/
theorem pw_put {w : World} {b : Nat} {x : Pw} (h : pwE.In w b x) (y : Pw) :
    pwE.In (((((w.setCell ⟨b, 0, none⟩ (.slice y.bA y.base.length y.bc)).setCell ⟨b, 1, none⟩ (.int .i64 y.t)).setCell ⟨b, 2, none⟩ (.slice y.oA y.ops.length y.oc)).setCell ⟨b, 3, none⟩ (.slice y.uA y.us.length y.uc)).setCell ⟨b, 4, none⟩ (.slice y.wA y.now.length y.wc)) b y ∧
    w.grownBy (((((w.setCell ⟨b, 0, none⟩ (.slice y.bA y.base.length y.bc)).setCell ⟨b, 1, none⟩ (.int .i64 y.t)).setCell ⟨b, 2, none⟩ (.slice y.oA y.ops.length y.oc)).setCell ⟨b, 3, none⟩ (.slice y.uA y.us.length y.uc)).setCell ⟨b, 4, none⟩ (.slice y.wA y.now.length y.wc)) (some b) := by
  refine ⟨?_, by_cell2 (by_cell2 (by_cell2 (by_cell2 (by_cell w b 0 _) 1 _) 2 _) 3 _) 4 _⟩
  have h1 := h.put ⟨y.bA, y.bc, y.base, x.t, x.oA, x.oc, x.ops, x.uA, x.uc, x.us, x.wA, x.wc, x.now⟩ 0 (.slice y.bA y.base.length y.bc) rfl
  have h2 := h1.put ⟨y.bA, y.bc, y.base, y.t, x.oA, x.oc, x.ops, x.uA, x.uc, x.us, x.wA, x.wc, x.now⟩ 1 (.int .i64 y.t) rfl
  have h3 := h2.put ⟨y.bA, y.bc, y.base, y.t, y.oA, y.oc, y.ops, x.uA, x.uc, x.us, x.wA, x.wc, x.now⟩ 2 (.slice y.oA y.ops.length y.oc) rfl
  have h4 := h3.put ⟨y.bA, y.bc, y.base, y.t, y.oA, y.oc, y.ops, y.uA, y.uc, y.us, x.wA, x.wc, x.now⟩ 3 (.slice y.uA y.us.length y.uc) rfl
  exact h4.put y 4 (.slice y.wA y.now.length y.wc) rfl
def pick3 {α : Type} (a b c : α) (j : Nat) : α := match j with
  | 0 => a
  | 1 => b
  | _ => c


set_option maxRecDepth 100000 in
set_option maxHeartbeats 4000000 in
theorem pAdd_new (x : Pw) (m : Mv) (w : World) (hx : PastOk w x) (hI : PInv x.v) (hl : x.ops.length ≤ 200) (h : has Mv.C Mv.D x.ops m = false) (ht : ¬ m.C ≤ x.t) :
    Calls Tryz.prog 25 #[.agg #[.slice x.bA x.base.length x.bc, .int .i64 x.t, .slice x.oA x.ops.length x.oc, .slice x.uA x.us.length x.uc, .slice x.wA x.now.length x.wc], .agg #[.int .i64 m.C, .int .i64 m.D, .int .i64 m.I, .int .i64 m.M, .int .i64 m.K, .int .i64 m.U, .string m.s]] w fun e w' => ∃ y : Pw, e = .returned (.tuple #[.agg #[.slice y.bA y.base.length y.bc, .int .i64 y.t, .slice y.oA y.ops.length y.oc, .slice y.uA y.us.length y.uc, .slice y.wA y.now.length y.wc], .bool true]) ∧ PastOk w' y ∧ y.v = (addV x.v m).1 ∧ Below w.heap.size w w' := by
  have ha := addV_new' (q := x.v) ht h
  have hae := hI.add_eq m _ rfl
  have hl1 : x.base.length ≤ 62 := tree_len hI.tree
  have hl4 : x.now.length ≤ 62 := tree_len hI.ntree
  have hl3 : x.us.length = x.ops.length := hI.ulen
  have hI' : Ris Mv.C Mv.D x.ops := hI.ris
  have hbs : Sorted x.base := (treeB_facts hI.tree).2.1
  have hpl := pos_le (c := Mv.C) (d := Mv.D) x.ops m
  obtain ⟨bA, bc, base, t, oA, oc, ops, uA, uc, us, wA, wc, now⟩ := x
  simp only at hl h ht hl1 hl3 hl4 hI' hbs hpl
  simp only [Pw.v] at ha hae
  have HU := Lib.hid hl3
  have HA := Lib.hid ha
  have HE := Lib.hid hae
  clear ha hae hl3 hI
  have hP : pwE.In (((w.alloc (.cells #[.slice bA base.length bc, .int .i64 t, .slice oA ops.length oc, .slice uA us.length uc, .slice wA now.length wc] 40)).alloc (.cells #[.int .i64 m.C, .int .i64 m.D, .int .i64 m.I, .int .i64 m.M, .int .i64 m.K, .int .i64 m.U, .string m.s] 55)).alloc (.cells #[.slice none 0 0, .int .i64 0, .slice none 0 0, .slice none 0 0, .slice none 0 0] 40)) w.heap.size (⟨bA, bc, base, t, oA, oc, ops, uA, uc, us, wA, wc, now⟩ : Pw) := ((El.In.new (E := pwE) w (⟨bA, bc, base, t, oA, oc, ops, uA, uc, us, wA, wc, now⟩ : Pw) _ rfl).alloc _).alloc _
  have hO : opE.In (((w.alloc (.cells #[.slice bA base.length bc, .int .i64 t, .slice oA ops.length oc, .slice uA us.length uc, .slice wA now.length wc] 40)).alloc (.cells #[.int .i64 m.C, .int .i64 m.D, .int .i64 m.I, .int .i64 m.M, .int .i64 m.K, .int .i64 m.U, .string m.s] 55)).alloc (.cells #[.slice none 0 0, .int .i64 0, .slice none 0 0, .slice none 0 0, .slice none 0 0] 40)) (w.heap.size + 1) m := by
    have h := (El.In.new (E := opE) (w.alloc (.cells #[.slice bA base.length bc, .int .i64 t, .slice oA ops.length oc, .slice uA us.length uc, .slice wA now.length wc] 40)) m #[.int .i64 m.C, .int .i64 m.D, .int .i64 m.I, .int .i64 m.M, .int .i64 m.K, .int .i64 m.U, .string m.s] rfl).alloc (.cells #[.slice none 0 0, .int .i64 0, .slice none 0 0, .slice none 0 0, .slice none 0 0] 40)
    rw [alloc_size] at h; exact h
  have hR : pwE.In (((w.alloc (.cells #[.slice bA base.length bc, .int .i64 t, .slice oA ops.length oc, .slice uA us.length uc, .slice wA now.length wc] 40)).alloc (.cells #[.int .i64 m.C, .int .i64 m.D, .int .i64 m.I, .int .i64 m.M, .int .i64 m.K, .int .i64 m.U, .string m.s] 55)).alloc (.cells #[.slice none 0 0, .int .i64 0, .slice none 0 0, .slice none 0 0, .slice none 0 0] 40)) (w.heap.size + 2) Pw.zero := by
    have h := El.In.new (E := pwE) ((w.alloc (.cells #[.slice bA base.length bc, .int .i64 t, .slice oA ops.length oc, .slice uA us.length uc, .slice wA now.length wc] 40)).alloc (.cells #[.int .i64 m.C, .int .i64 m.D, .int .i64 m.I, .int .i64 m.M, .int .i64 m.K, .int .i64 m.U, .string m.s] 55)) Pw.zero #[.slice none 0 0, .int .i64 0, .slice none 0 0, .slice none 0 0, .slice none 0 0] rfl
    rw [alloc_size, alloc_size] at h; exact h
  have hB := below_alloc (below_alloc (below_alloc (Below.refl w.heap.size w) (.cells #[.slice bA base.length bc, .int .i64 t, .slice oA ops.length oc, .slice uA us.length uc, .slice wA now.length wc] 40)) (.cells #[.int .i64 m.C, .int .i64 m.D, .int .i64 m.I, .int .i64 m.M, .int .i64 m.K, .int .i64 m.U, .string m.s] 55)) (.cells #[.slice none 0 0, .int .i64 0, .slice none 0 0, .slice none 0 0, .slice none 0 0] 40)
  have HL := Lib.hid hx
  have hx0 := hx.below hB
  have CF := pfind_any oA oc ops m (((w.alloc (.cells #[.slice bA base.length bc, .int .i64 t, .slice oA ops.length oc, .slice uA us.length uc, .slice wA now.length wc] 40)).alloc (.cells #[.int .i64 m.C, .int .i64 m.D, .int .i64 m.I, .int .i64 m.M, .int .i64 m.K, .int .i64 m.U, .string m.s] 55)).alloc (.cells #[.slice none 0 0, .int .i64 0, .slice none 0 0, .slice none 0 0, .slice none 0 0] 40)) hI' (by omega) hx0.o.1
  clear hx hx0
  go_enter Tryz.func25, Tryz.ntmps25
  go_wp2_with fail
  generalize ((w.alloc (.cells #[.slice bA base.length bc, .int .i64 t, .slice oA ops.length oc, .slice uA us.length uc, .slice wA now.length wc] 40)).alloc (.cells #[.int .i64 m.C, .int .i64 m.D, .int .i64 m.I, .int .i64 m.M, .int .i64 m.K, .int .i64 m.U, .string m.s] 55)).alloc (.cells #[.slice none 0 0, .int .i64 0, .slice none 0 0, .slice none 0 0, .slice none 0 0] 40) = W at *
  obtain ⟨n2, h2⟩ : ∃ n, w.heap.size + 2 = n := ⟨_, rfl⟩
  obtain ⟨n1, h1⟩ : ∃ n, w.heap.size + 1 = n := ⟨_, rfl⟩
  obtain ⟨n0, h0⟩ : ∃ n, w.heap.size = n := ⟨_, rfl⟩
  have HN := Lib.hid (show w.heap.size ≤ n0 ∧ n1 = n0 + 1 ∧ n2 = n0 + 2 by omega)
  have hn20 : n2 ≠ n0 := by omega
  try rw [show w.heap.size + 1 + 1 = n2 by omega]
  rw [h2] at hR
  rw [h1] at hO ⊢
  rw [h0] at hP ⊢
  try rw [h2]
  clear h0 h1 h2
  refine CF.mono ?_
  rintro e W1 ⟨rfl, hb⟩
  clear CF
  replace hP := hP.below hb
  replace hO := hO.below hb
  replace hR := hR.below hb
  replace hB := hB.trans (hb.mono (by have := hB.size; omega))
  clear hb
  obtain ⟨p0, p1, p2, p3, p4⟩ := pwIn5 hP
  obtain ⟨o0, o1, o2, o3, o4, o5, o6⟩ := opIn7 hO
  rw [h]
  obtain ⟨k, hk⟩ : ∃ k, pos Mv.C Mv.D ops m = k := ⟨_, rfl⟩
  rw [hk] at hpl ⊢
  have HK := Lib.hid hk
  clear hk h
  have hE := even_any (⟨bA, bc, base, t, oA, oc, ops, uA, uc, us, wA, wc, now⟩ : Pw) W1 HU.out
  simp only at hE
  have HEV := Lib.hid hE
  clear hE
  go_wp2_with (first | (go_at_call 49; (with_reducible refine HEV.out.mono ?_); rintro e W2 ⟨rfl, hb2⟩))
  clear HEV p0 p1 p2 p3 p4 o0 o1 o2 o3 o4 o5 o6
  replace hP : pwE.In W2 n0 (⟨bA, bc, base, t, oA, oc, ops, uA, uc, us, wA, wc, now⟩ : Pw) := hP.below hb2
  replace hO : opE.In W2 n1 m := hO.below hb2
  replace hR : pwE.In W2 n2 Pw.zero := hR.below hb2
  replace hB : Below w.heap.size w W2 := hB.trans (hb2.mono (by have := hB.size; omega))
  clear hb2
  -- region 4: the operations, one more among them
  have hx2 := HL.out.below hB
  have hxo := hx2.o
  simp only at hxo
  obtain ⟨A3, hA3⟩ : ∃ A3 : Option Addr, (if oc = k then oA else Option.map (fun x => x.add (k * 7)) oA) = A3 := ⟨_, rfl⟩
  have ht1 := hxo.1.take k
  have ht3 := hxo.1.drop (tz := k) hxo.2.2 hA3
  have hz3 : A3 = none → oc - k = 0 := El.drop_none hxo.2.1 hA3
  have e1 : (ops.take k).length = k := by rw [List.length_take]; omega
  have e3 : (ops.drop k).length = ops.length - k := List.length_drop
  have hkc : k ≤ oc := Nat.le_trans hpl hxo.2.2
  have i0 : (0 : Int) ≤ (k : Int) := by omega
  have i1 : (k : Int) ≤ (oc : Int) := by omega
  have i2 : (k : Int) ≤ (ops.length : Int) := by omega
  have hae := HE.out
  rw [HK.out] at hae
  have HE1 := Lib.hid e1
  have HE3 := Lib.hid e3
  generalize hL1 : ops.take k = L1 at *
  generalize hL3 : ops.drop k = L3 at *
  obtain ⟨u1, u2, u3, u4, u5, u6⟩ := hae
  have hb1s : Sorted (foldL base (mvs L1)).1 := foldL_sorted hbs _
  have hb1l : (foldL base (mvs L1)).1.length ≤ 262 := by have := foldL_len1 base (mvs L1); rw [mvs_len, HE1.out] at this; omega
  generalize (foldL base (mvs L1)).1 = b1 at *
  have hul : (us.take k).length = k := by rw [List.length_take, HU.out]; omega
  have hul3 : (us.drop k).length = us.length - k := List.length_drop
  obtain ⟨L, hL⟩ : ∃ L, insL Mv.C Mv.D ops m = L := ⟨_, rfl⟩
  have hLL : L = L1 ++ ([m] ++ L3) := by rw [← hL, u6]
  have hLl : L.length = ops.length + 1 := by rw [hLL, List.length_append, List.length_append, HE1.out, HE3.out]; simp only [List.length_singleton]; omega
  have hLd : L.drop k = [m] ++ L3 := by rw [hLL, ← HE1.out]; exact List.drop_left
  have hna := HA.out
  rw [hL] at hna u4 u5
  rw [u4, u5] at hna
  have HNA := Lib.hid hna
  have HLL := Lib.hid hLL
  have HLl := Lib.hid hLl
  have HLd := Lib.hid hLd
  have HU2 := Lib.hid u2
  have HU3 := Lib.hid u3
  have HUL := Lib.hid hul
  have HUL3 := Lib.hid hul3
  have HL3 := Lib.hid hL3
  have hUS3 : ∃ us3, us.drop k = us3 := ⟨_, rfl⟩
  clear u1 u2 u3 u4 u5 u6 hul hul3 hLL hLl hLd hna hL e1 e3 hL1 hL3 HE HA
  obtain ⟨us1, hUS1⟩ : ∃ us1, us.take k = us1 := ⟨_, rfl⟩
  rw [hUS1] at HNA HUL
  have HUS1 := Lib.hid hUS1
  clear hUS1
  have hl2 : n2 < W2.heap.size := hR.lt
  obtain ⟨us3, hUS3⟩ := hUS3
  rw [hUS3] at HU2 HUL3
  have HUS3 := Lib.hid hUS3
  clear hUS3
  -- the world in which the lists are put together
  have hBw : Below W2.heap.size W2 ((W2.alloc (.cells #[.int .i64 m.C, .int .i64 m.D, .int .i64 m.I, .int .i64 m.M, .int .i64 m.K, .int .i64 m.U, .string m.s] 55)).alloc (.cells #[.slice oA k oc, .slice (some ⟨W2.heap.size, 0, none⟩) 1 1, .slice A3 (ops.length - k) (oc - k)] 31)).drew := (below_alloc (below_alloc (Below.refl _ _) _) _).drew
  have hone : opE.Sl ((W2.alloc (.cells #[.int .i64 m.C, .int .i64 m.D, .int .i64 m.I, .int .i64 m.M, .int .i64 m.K, .int .i64 m.U, .string m.s] 55)).alloc (.cells #[.slice oA k oc, .slice (some ⟨W2.heap.size, 0, none⟩) 1 1, .slice A3 (ops.length - k) (oc - k)] 31)).drew (some ⟨W2.heap.size, 0, none⟩) [m] := ((El.In.new (E := opE) W2 m #[.int .i64 m.C, .int .i64 m.D, .int .i64 m.I, .int .i64 m.M, .int .i64 m.K, .int .i64 m.U, .string m.s] rfl).alloc _).sl
  have CC := concatOp_any (W2.heap.size + 1) (pick3 L1 [m] L3) (pick3 oA (some ⟨W2.heap.size, 0, none⟩) A3) (pick3 oc 1 (oc - k)) ((W2.alloc (.cells #[.int .i64 m.C, .int .i64 m.D, .int .i64 m.I, .int .i64 m.M, .int .i64 m.K, .int .i64 m.U, .string m.s] 55)).alloc (.cells #[.slice oA k oc, .slice (some ⟨W2.heap.size, 0, none⟩) 1 1, .slice A3 (ops.length - k) (oc - k)] 31)).drew
    (fun j hj => by
      match j, hj with
      | 0, _ => show _ = some (Value.slice oA L1.length oc); rw [HE1.out]; go_simp
      | 1, _ => show _ = some (Value.slice (some ⟨W2.heap.size, 0, none⟩) 1 1); go_simp
      | 2, _ => show _ = some (Value.slice A3 L3.length (oc - k)); rw [HE3.out]; go_simp)
    (fun j hj => by
      match j, hj with
      | 0, _ => exact ht1.below hBw
      | 1, _ => exact hone
      | 2, _ => exact ht3.below hBw)
    (fun j hj => by
      match j, hj with
      | 0, _ => exact hxo.2.1
      | 1, _ => intro e; cases e
      | 2, _ => exact hz3)
    (by show ((([] ++ L1) ++ [m]) ++ L3).length ≤ 1000; simp only [List.length_append, List.length_nil, List.length_singleton, HE1.out, HE3.out]; omega)
    (by simp)
  have ecat : catE (pick3 L1 [m] L3) 3 = L := by
    show (([] ++ L1) ++ [m]) ++ L3 = L
    rw [HLL.out, List.nil_append, List.append_assoc]
  rw [ecat] at CC
  have HCC := Lib.hid CC
  clear CC ecat hone
  have hPa : pwE.In (W2.alloc (.cells #[.int .i64 m.C, .int .i64 m.D, .int .i64 m.I, .int .i64 m.M, .int .i64 m.K, .int .i64 m.U, .string m.s] 55)).drew n0 (⟨bA, bc, base, t, oA, oc, ops, uA, uc, us, wA, wc, now⟩ : Pw) := hP.alloc (.cells #[.int .i64 m.C, .int .i64 m.D, .int .i64 m.I, .int .i64 m.M, .int .i64 m.K, .int .i64 m.U, .string m.s] 55)
  have hOa : opE.In (W2.alloc (.cells #[.int .i64 m.C, .int .i64 m.D, .int .i64 m.I, .int .i64 m.M, .int .i64 m.K, .int .i64 m.U, .string m.s] 55)).drew n1 m := hO.alloc (.cells #[.int .i64 m.C, .int .i64 m.D, .int .i64 m.I, .int .i64 m.M, .int .i64 m.K, .int .i64 m.U, .string m.s] 55)
  have hPb : pwE.In ((W2.alloc (.cells #[.int .i64 m.C, .int .i64 m.D, .int .i64 m.I, .int .i64 m.M, .int .i64 m.K, .int .i64 m.U, .string m.s] 55)).alloc (.cells #[.slice oA k oc, .slice (some ⟨W2.heap.size, 0, none⟩) 1 1, .slice A3 (ops.length - k) (oc - k)] 31)).drew n0 (⟨bA, bc, base, t, oA, oc, ops, uA, uc, us, wA, wc, now⟩ : Pw) := (hP.alloc (.cells #[.int .i64 m.C, .int .i64 m.D, .int .i64 m.I, .int .i64 m.M, .int .i64 m.K, .int .i64 m.U, .string m.s] 55)).alloc (.cells #[.slice oA k oc, .slice (some ⟨W2.heap.size, 0, none⟩) 1 1, .slice A3 (ops.length - k) (oc - k)] 31)
  have hOb : opE.In ((W2.alloc (.cells #[.int .i64 m.C, .int .i64 m.D, .int .i64 m.I, .int .i64 m.M, .int .i64 m.K, .int .i64 m.U, .string m.s] 55)).alloc (.cells #[.slice oA k oc, .slice (some ⟨W2.heap.size, 0, none⟩) 1 1, .slice A3 (ops.length - k) (oc - k)] 31)).drew n1 m := (hO.alloc (.cells #[.int .i64 m.C, .int .i64 m.D, .int .i64 m.I, .int .i64 m.M, .int .i64 m.K, .int .i64 m.U, .string m.s] 55)).alloc (.cells #[.slice oA k oc, .slice (some ⟨W2.heap.size, 0, none⟩) 1 1, .slice A3 (ops.length - k) (oc - k)] 31)
  have hP0 := hP
  have hO0 := hO
  replace hP : pwE.In W2.drew n0 (⟨bA, bc, base, t, oA, oc, ops, uA, uc, us, wA, wc, now⟩ : Pw) := hP
  replace hO : opE.In W2.drew n1 m := hO
  go_region_held3 (fun w' => w'.cell? ⟨n0, 2, none⟩ = some (.slice oA ops.length oc) ∧ (w'.cell? ⟨n1, 0, none⟩ = some (.int .i64 m.C) ∧ w'.cell? ⟨n1, 1, none⟩ = some (.int .i64 m.D) ∧ w'.cell? ⟨n1, 2, none⟩ = some (.int .i64 m.I) ∧ w'.cell? ⟨n1, 3, none⟩ = some (.int .i64 m.M) ∧ w'.cell? ⟨n1, 4, none⟩ = some (.int .i64 m.K) ∧ w'.cell? ⟨n1, 5, none⟩ = some (.int .i64 m.U) ∧ w'.cell? ⟨n1, 6, none⟩ = some (.string m.s))) (with_reducible first | exact ⟨(pwIn5 hP).2.2.1, opIn7 hO⟩ | exact ⟨(pwIn5 hPa).2.2.1, opIn7 hOa⟩ | exact ⟨(pwIn5 hPb).2.2.1, opIn7 hOb⟩ | exact ⟨(pwIn5 hP4).2.2.1, opIn7 hO4⟩) (first | (go_at_call 51; (with_reducible refine HCC.out.mono ?_); rintro e W4 ⟨A8, c8, rfl, hS8, hf8, hb8⟩; have hb48 := hBw.trans (hb8.mono hBw.size); have hP4 := hP0.below hb48; have hO4 := hO0.below hb48))
  replace hR := hR.below hb48
  replace hB := hB.trans (hb48.mono hB.size)
  replace hP := hP4
  have hf80 : Frs W2.heap.size A8 := hf8.mono (by have := hBw.size; exact this)
  clear hP0 hO0 hPa hOa hPb hOb hO4 hO hP4 HCC hBw ht1 ht3 hb8 hxo hx2
  go_wp2_with fail
  -- region 5: undone, and done again
  have hx4 := HL.out.below hB
  have hxo := hx4.o
  have hxu := hx4.u
  have hxw := hx4.w
  simp only at hxo hxu hxw
  obtain ⟨U3, hU3⟩ : ∃ U3 : Option Addr, (if uc = k then uA else Option.map (fun x => x.add (k * 5)) uA) = U3 := ⟨_, rfl⟩
  obtain ⟨A9, hA9⟩ : ∃ A9 : Option Addr, (if c8 = k then A8 else Option.map (fun x => x.add (k * 7)) A8) = A9 := ⟨_, rfl⟩
  have ht3 := hxo.1.drop (tz := k) hxo.2.2 hA3
  have htu := hxu.1.drop (tz := k) hxu.2.2 hU3
  have ht9 := hS8.1.drop (tz := k) hS8.2.2 hA9
  rw [HL3.out] at ht3
  rw [HUS3.out] at htu
  have e9 : (L.drop k).length = L.length - k := List.length_drop
  rw [HLd.out] at ht9 e9
  have hld9 : ([m] ++ L3).length = 1 + L3.length := by rw [List.length_append, List.length_singleton]
  have hld8 : b1.length + ([m] ++ L3).length ≤ 900 := by rw [hld9, HE3.out]; omega
  generalize hLD : [m] ++ L3 = LD at *
  have j1 : (k : Int) ≤ (c8 : Int) := by have := hS8.2.2; have := HLl.out; omega
  have j2 : (k : Int) ≤ (L.length : Int) := by have := HLl.out; omega
  have j3 : (k : Int) ≤ (us.length : Int) := by have := HU.out; omega
  have j4 : (k : Int) ≤ (uc : Int) := by have := hxu.2.2; omega
  have CU := undone_any wA wc b1 now A3 (oc - k) L3 U3 (uc - k) us3 W4.drew (by have := HE3.out; omega) hb1s HU3.out HU2.out hxw ht3 htu
  rw [HE3.out, HUL3.out] at CU
  have CG : ∀ (A5 : Option Addr) (c5 : Nat) (W5 : World), SlV plE W5 A5 c5 b1 → opE.Sl W5 A9 LD → _ := fun A5 c5 W5 h1 h2 => mvFold_any A5 c5 b1 A9 (c8 - k) LD W5 hld8 hb1s h1 h2
  rw [e9] at CG
  have HCU := Lib.hid CU
  have HCG := Lib.hid CG
  have HLB := Lib.hid (show (foldL b1 (mvs LD)).2.length = LD.length ∧ LD.length ≤ 500 by rw [foldL_len, mvs_len, hld9, HE3.out]; omega)
  generalize (foldL b1 (mvs LD)).1 = now2 at *
  generalize (foldL b1 (mvs LD)).2 = us2 at *
  have HE9 := Lib.hid e9
  clear CU CG e9 hld9 hld8 hxo hxu hxw hx4 ht3 htu hLD
  have hP0 := hP
  have hR0 := hR
  have hS80 := hS8
  replace hP : pwE.In W4.drew n0 (⟨bA, bc, base, t, oA, oc, ops, uA, uc, us, wA, wc, now⟩ : Pw) := hP
  replace hR : pwE.In W4.drew n2 Pw.zero := hR
  replace hS8 : SlV opE W4.drew A8 c8 L := hS8
  replace ht9 : opE.Sl W4.drew A9 LD := ht9
  have hd4 : Below W4.heap.size W4 W4.drew := (Below.refl _ _).drew
  go_region_held3 (fun w' => w'.cell? ⟨n0, 4, none⟩ = some (.slice wA now.length wc) ∧ w'.cell? ⟨n0, 2, none⟩ = some (.slice oA ops.length oc) ∧ w'.cell? ⟨n0, 3, none⟩ = some (.slice uA us.length uc)) (with_reducible first | exact ⟨(pwIn5 hP).2.2.2.2, (pwIn5 hP).2.2.1, (pwIn5 hP).2.2.2.1⟩ | exact ⟨(pwIn5 hP6).2.2.2.2, (pwIn5 hP6).2.2.1, (pwIn5 hP6).2.2.2.1⟩ | exact ⟨(pwIn5 hP5).2.2.2.2, (pwIn5 hP5).2.2.1, (pwIn5 hP5).2.2.2.1⟩) (first | (go_at_call 53; (with_reducible refine HCU.out.mono ?_); rintro e W5 ⟨A5, c5, rfl, hS5, hb5⟩; have hP5 := hP.below hb5; have ht5 := ht9.below hb5) | (go_at_call 52; (with_reducible refine (HCG.out _ _ _ hS5 ht5).mono ?_); rintro e W6 ⟨A6, c6, U6, uc6, rfl, hS6, hU6, hf6, hfu6, hb6⟩; have hb46 := hd4.trans ((below_then hb5 hb6).mono hd4.size); have hP6 := hP0.below hb46))
  have hB6 := hB.trans (hb46.mono hB.size)
  have hP6' := hP6
  have hR6 : pwE.In W6 n2 Pw.zero := hR0.below hb46
  have hS86 := hS80.below hb46
  have hl25 : n2 < W5.heap.size := by have := hR.lt; have := hb5.size; omega
  have hx6 := HL.out.below hB6
  have hxb := hx6.b
  have hxu := hx6.u
  simp only at hxb hxu
  have htu := hxu.1.take k
  rw [HUS1.out] at htu
  have hl82 := hl2
  have hsz86 : W2.heap.size ≤ W6.heap.size := by have := hb48.size; have := hb46.size; omega
  obtain ⟨US, hUS⟩ : ∃ US, us1 ++ us2 = US := ⟨_, rfl⟩
  rw [hUS] at HNA
  have hus2 : us2.length ≤ 500 := by
    have := HLB.out
    omega
  have C1 := fun (wx : World) (h : SlV plE wx bA bc base) => clonePl_any bA bc base wx (by omega) h
  have C2 : ∀ (sb : Nat) (wx : World), wx.cell? ⟨sb, 0, none⟩ = some (.slice uA k uc) → wx.cell? ⟨sb, 1, none⟩ = some (.slice U6 us2.length uc6) → Below W6.heap.size W6 wx → sb < wx.heap.size →
      Calls Tryz.prog 55 #[.slice (some ⟨sb, 0, none⟩) 2 2] wx fun e w' => ∃ A' cap', e = .returned (.slice A' US.length cap') ∧ SlV unE w' A' cap' US ∧ Frs wx.heap.size A' ∧ Below wx.heap.size wx w' := fun sb wx q0 q1 hb hsb => by
    have h := concatUn_any sb (pick3 us1 us2 us2) (pick3 uA U6 U6) (pick3 uc uc6 uc6) wx
      (fun j hj => by
        match j, hj with
        | 0, _ => show _ = some (Value.slice uA us1.length uc); rw [HUL.out]; exact q0
        | 1, _ => exact q1)
      (fun j hj => by
        match j, hj with
        | 0, _ => exact htu.below hb
        | 1, _ => exact hU6.1.below hb)
      (fun j hj => by
        match j, hj with
        | 0, _ => exact hxu.2.1
        | 1, _ => exact hU6.2.1)
      (by show (([] ++ us1) ++ us2).length ≤ 1000; simp only [List.length_append, List.length_nil, HUL.out]; omega) hsb
    have e : catE (pick3 us1 us2 us2) 2 = US := by
      show ([] ++ us1) ++ us2 = US
      rw [List.nil_append]; exact hUS
    rw [e] at h
    exact h
  have HC1 := Lib.hid C1
  have HC2 := Lib.hid C2
  clear C1 C2 hus2 hUS
  have k0 : (k : Int) ≤ (uc : Int) := j4
  have hd6 : Below W6.heap.size W6 W6.drew := (Below.refl _ _).drew
  have hd6a : Below W6.heap.size W6 (W6.alloc (.cells #[.slice uA k uc, .slice U6 us2.length uc6] 38)).drew := (below_alloc (Below.refl _ _) _).drew
  have hxb0 : SlV plE W6.drew bA bc base := hxb
  have hxba := hxb.below hd6a
  have hP0 := hP6'
  have hPd : pwE.In W6.drew n0 (⟨bA, bc, base, t, oA, oc, ops, uA, uc, us, wA, wc, now⟩ : Pw) := hP6'
  have hPa : pwE.In (W6.alloc (.cells #[.slice uA k uc, .slice U6 us2.length uc6] 38)).drew n0 (⟨bA, bc, base, t, oA, oc, ops, uA, uc, us, wA, wc, now⟩ : Pw) := hP6'.below hd6a
  have hn02 : some n0 ≠ some n2 := fun e => hn20 (Option.some.inj e).symm
  clear hP hR hP6 hP5 hS8 ht9 ht5 hb5 hb6 hd4 hxb hxu hx6 hP6' HCU HCG
  go_wp2_with fail
  go_region_held3 (fun w' => w'.cell? ⟨n0, 0, none⟩ = some (.slice bA base.length bc) ∧ w'.cell? ⟨n0, 1, none⟩ = some (.int .i64 t) ∧ w'.cell? ⟨n0, 3, none⟩ = some (.slice uA us.length uc)) (with_reducible first | exact ⟨(pwIn5 hPd).1, (pwIn5 hPd).2.1, (pwIn5 hPd).2.2.2.1⟩ | exact ⟨(pwIn5 hPa).1, (pwIn5 hPa).2.1, (pwIn5 hPa).2.2.2.1⟩ | exact ⟨(pwIn5 hP7).1, (pwIn5 hP7).2.1, (pwIn5 hP7).2.2.2.1⟩ | exact ⟨(pwIn5 hP7a).1, (pwIn5 hP7a).2.1, (pwIn5 hP7a).2.2.2.1⟩ | exact ⟨(pwIn5 hP8).1, (pwIn5 hP8).2.1, (pwIn5 hP8).2.2.2.1⟩ | exact ⟨(pwIn5 (hP8.keep (pw_put hR8 ⟨A7, c7, base, t, A8, c8, L, A10, c10, US, A6, c6, now2⟩).2 hn02)).1, (pwIn5 (hP8.keep (pw_put hR8 ⟨A7, c7, base, t, A8, c8, L, A10, c10, US, A6, c6, now2⟩).2 hn02)).2.1, (pwIn5 (hP8.keep (pw_put hR8 ⟨A7, c7, base, t, A8, c8, L, A10, c10, US, A6, c6, now2⟩).2 hn02)).2.2.2.1⟩) (first | (go_at_call 54; (with_reducible first | refine (HC1.out _ hxb0).mono ?_ | refine (HC1.out _ hxba).mono ?_); rintro e w7 ⟨A7, c7, rfl, hS7, hf7, hb7⟩; have hb67 : Below W6.heap.size W6 w7 := (by first | exact hd6.trans (hb7.mono hd6.size) | exact hd6a.trans (hb7.mono hd6a.size)); have hf7' : Frs W6.heap.size A7 := hf7.mono (by first | exact hd6.size | exact hd6a.size); have hP7 := hP0.below hb67; have hP7a := hP7.alloc (.cells #[.slice uA k uc, .slice U6 us2.length uc6] 38)) | (go_at_call 55; first | (have z0 : (w7.alloc (.cells #[.slice uA k uc, .slice U6 us2.length uc6] 38)).cell? ⟨w7.heap.size, 0, none⟩ = some (.slice uA k uc) := (by go_simp); have z1 : (w7.alloc (.cells #[.slice uA k uc, .slice U6 us2.length uc6] 38)).cell? ⟨w7.heap.size, 1, none⟩ = some (.slice U6 us2.length uc6) := (by go_simp); with_reducible refine (HC2.out _ _ z0 z1 (hb67.alloc hb67.size (.cells #[.slice uA k uc, .slice U6 us2.length uc6] 38)) (by rw [alloc_size]; exact Nat.lt_succ_self _)).mono ?_) | (have z0 : w7.cell? ⟨W6.heap.size, 0, none⟩ = some (.slice uA k uc) := (by rw [(bcell hb7).1 _ _ (by simp)]; go_simp); have z1 : w7.cell? ⟨W6.heap.size, 1, none⟩ = some (.slice U6 us2.length uc6) := (by rw [(bcell hb7).1 _ _ (by simp)]; go_simp); with_reducible refine (HC2.out _ _ z0 z1 hb67 (by have := hb7.size; simp at this; omega)).mono ?_)); rintro e w8 ⟨A10, c10, rfl, hS10, hf10, hb8⟩; have hb78 : Below w7.heap.size w7 w8 := (by first | exact hb8 | exact (below_alloc (Below.refl w7.heap.size w7) (.cells #[.slice uA k uc, .slice U6 us2.length uc6] 38)).trans (hb8.mono (by simp))); have hf10' : Frs w7.heap.size A10 := hf10.mono (by first | exact Nat.le_refl _ | simp); have hb68 := hb67.trans (hb78.mono hb67.size); have hP8 := hP0.below hb68; have hR8 := hR6.below hb68; obtain ⟨r0, r1, r2, r3, r4⟩ := pwIn5 hR8; have rf := hR8.frozen)
  all_goals
    have hz := pw_put hR8 ⟨A7, c7, base, t, A8, c8, L, A10, c10, US, A6, c6, now2⟩
    go_wp2
    refine El.ret2 pwRow (v := .bool true) hz.1 rfl rfl rfl rfl #[.slice A7 base.length c7, .int .i64 t, .slice A8 L.length c8, .slice A10 US.length c10, .slice A6 now2.length c6] rfl ?_
    have h6 := hR6.lt
    have h7 := hb67.size
    have hB8 := hB6.trans (hb68.mono hB6.size)
    exact ⟨⟨A7, c7, base, t, A8, c8, L, A10, c10, US, A6, c6, now2⟩, rfl, ⟨(hS7.below hb78).keep hf7' hz.2 h6, (hS86.below hb68).keep hf80 hz.2 hl82, hS10.keep hf10' hz.2 (by omega), (hS6.below hb68).keep hf6 hz.2 hl25⟩, by show _ = (addV ⟨base, t, ops, us, now⟩ m).1; rw [HNA.out]; rfl, hB8.grown hz.2 hB8.size (fun j e => by have := Option.some.inj e; have := HN.out; omega)⟩
end Go.Proofs.YtdcjffajmckleaaGreatDoor

/- Settle of the program. -/
namespace Go.Proofs.YtdcjffajmckleaaGreatDoor
open Go.RowKit Tre Cod Pst

set_option maxRecDepth 100000 in
set_option maxHeartbeats 4000000 in
theorem pSettle_late (x : Pw) (s : Int) (w : World) (hx : PastOk w x) (hI : PInv x.v) (hl : x.ops.length ≤ 200) (h : s ≤ x.t) :
    Calls Tryz.prog 63 #[.agg #[.slice x.bA x.base.length x.bc, .int .i64 x.t, .slice x.oA x.ops.length x.oc, .slice x.uA x.us.length x.uc, .slice x.wA x.now.length x.wc], .int .i64 s] w fun e w' => ∃ y : Pw, e = .returned (.agg #[.slice y.bA y.base.length y.bc, .int .i64 y.t, .slice y.oA y.ops.length y.oc, .slice y.uA y.us.length y.uc, .slice y.wA y.now.length y.wc]) ∧ PastOk w' y ∧ y.v = settleV x.v s ∧ Below w.heap.size w w' := by
  have ha : settleV x.v s = x.v := settleV_late' h
  have hl1 : x.base.length ≤ 62 := tree_len hI.tree
  have hl4 : x.now.length ≤ 62 := tree_len hI.ntree
  have hl3 : x.us.length = x.ops.length := hI.ulen
  rw [ha]
  obtain ⟨bA, bc, base, t, oA, oc, ops, uA, uc, us, wA, wc, now⟩ := x
  simp only at hl h hl1 hl3 hl4
  have HU := Lib.hid hl3
  clear ha hl3 hI
  have hP : pwE.In (((w.alloc (.cells #[.slice bA base.length bc, .int .i64 t, .slice oA ops.length oc, .slice uA us.length uc, .slice wA now.length wc] 40)).alloc (.cells #[.int .i64 s] 3)).alloc (.cells #[.slice none 0 0, .int .i64 0, .slice none 0 0, .slice none 0 0, .slice none 0 0] 40)) w.heap.size (⟨bA, bc, base, t, oA, oc, ops, uA, uc, us, wA, wc, now⟩ : Pw) := ((El.In.new (E := pwE) w (⟨bA, bc, base, t, oA, oc, ops, uA, uc, us, wA, wc, now⟩ : Pw) _ rfl).alloc _).alloc _
  have hO : (((w.alloc (.cells #[.slice bA base.length bc, .int .i64 t, .slice oA ops.length oc, .slice uA us.length uc, .slice wA now.length wc] 40)).alloc (.cells #[.int .i64 s] 3)).alloc (.cells #[.slice none 0 0, .int .i64 0, .slice none 0 0, .slice none 0 0, .slice none 0 0] 40)).cell? ⟨w.heap.size + 1, 0, none⟩ = some (.int .i64 s) := by go_simp
  have hR : pwE.In (((w.alloc (.cells #[.slice bA base.length bc, .int .i64 t, .slice oA ops.length oc, .slice uA us.length uc, .slice wA now.length wc] 40)).alloc (.cells #[.int .i64 s] 3)).alloc (.cells #[.slice none 0 0, .int .i64 0, .slice none 0 0, .slice none 0 0, .slice none 0 0] 40)) (w.heap.size + 2) Pw.zero := by
    have h := El.In.new (E := pwE) ((w.alloc (.cells #[.slice bA base.length bc, .int .i64 t, .slice oA ops.length oc, .slice uA us.length uc, .slice wA now.length wc] 40)).alloc (.cells #[.int .i64 s] 3)) Pw.zero #[.slice none 0 0, .int .i64 0, .slice none 0 0, .slice none 0 0, .slice none 0 0] rfl
    rw [alloc_size, alloc_size] at h; exact h
  have hB := below_alloc (below_alloc (below_alloc (Below.refl w.heap.size w) (.cells #[.slice bA base.length bc, .int .i64 t, .slice oA ops.length oc, .slice uA us.length uc, .slice wA now.length wc] 40)) (.cells #[.int .i64 s] 3)) (.cells #[.slice none 0 0, .int .i64 0, .slice none 0 0, .slice none 0 0, .slice none 0 0] 40)
  have hsz : (((w.alloc (.cells #[.slice bA base.length bc, .int .i64 t, .slice oA ops.length oc, .slice uA us.length uc, .slice wA now.length wc] 40)).alloc (.cells #[.int .i64 s] 3)).alloc (.cells #[.slice none 0 0, .int .i64 0, .slice none 0 0, .slice none 0 0, .slice none 0 0] 40)).heap.size = w.heap.size + 3 := by rw [alloc_size, alloc_size, alloc_size]
  have HL := Lib.hid hx
  clear hx
  go_enter Tryz.func63, Tryz.ntmps63
  go_wp2_with (first | (refine El.load pwRow rfl _ rfl w.heap.size 0 rfl (⟨bA, bc, base, t, oA, oc, ops, uA, uc, us, wA, wc, now⟩ : Pw) hP.at #[.slice bA base.length bc, .int .i64 t, .slice oA ops.length oc, .slice uA us.length uc, .slice wA now.length wc] rfl ?_) | fail)
  generalize ((w.alloc (.cells #[.slice bA base.length bc, .int .i64 t, .slice oA ops.length oc, .slice uA us.length uc, .slice wA now.length wc] 40)).alloc (.cells #[.int .i64 s] 3)).alloc (.cells #[.slice none 0 0, .int .i64 0, .slice none 0 0, .slice none 0 0, .slice none 0 0] 40) = W at *
  obtain ⟨n2, h2⟩ : ∃ n, w.heap.size + 2 = n := ⟨_, rfl⟩
  obtain ⟨n1, h1⟩ : ∃ n, w.heap.size + 1 = n := ⟨_, rfl⟩
  obtain ⟨n0, h0⟩ : ∃ n, w.heap.size = n := ⟨_, rfl⟩
  have HN := Lib.hid (show w.heap.size ≤ n0 ∧ n1 = n0 + 1 ∧ n2 = n0 + 2 by omega)
  have hn20 : n2 ≠ n0 := by omega
  try rw [show w.heap.size + 1 + 1 = n2 by omega]
  rw [h2] at hR
  rw [h1] at hO ⊢
  rw [h0] at hP ⊢
  try rw [h2]
  have hl1n : n1 < W.heap.size := by omega
  clear h0 h1 h2
  have hx1 := HL.out.below hB
  have CS := psame_any (⟨bA, bc, base, t, oA, oc, ops, uA, uc, us, wA, wc, now⟩ : Pw) W hx1 (by simp only; omega) (by simp only; omega) (by simp only; rw [HU.out]; omega) (by simp only; omega)
  simp only at CS
  refine CS.mono ?_
  rintro e W2 ⟨y, rfl, hy, hyv, hyf, hb2⟩
  have hR2 := hR.below hb2
  go_wp2_with (first | (refine El.store pwRow rfl _ _ rfl n2 y #[.slice y.bA y.base.length y.bc, .int .i64 y.t, .slice y.oA y.ops.length y.oc, .slice y.uA y.us.length y.uc, .slice y.wA y.now.length y.wc] rfl rfl rfl Pw.zero hR2 ?_))
  refine El.ret1 pwRow (hR2.set y #[.slice y.bA y.base.length y.bc, .int .i64 y.t, .slice y.oA y.ops.length y.oc, .slice y.uA y.us.length y.uc, .slice y.wA y.now.length y.wc] rfl) rfl rfl rfl #[.slice y.bA y.base.length y.bc, .int .i64 y.t, .slice y.oA y.ops.length y.oc, .slice y.uA y.us.length y.uc, .slice y.wA y.now.length y.wc] rfl ?_
  have hw2 : w.heap.size ≤ n2 := by have := HN.out; omega
  have hB2 := hB.trans (hb2.mono (by have := hB.size; omega))
  have hl2 := hR.lt
  exact ⟨y, rfl, hy.keep hyf (by_row _ _ _) hl2, hyv, below_setRow hB2 hw2 _⟩

set_option maxRecDepth 100000 in
set_option maxHeartbeats 4000000 in
theorem pSettle_new (x : Pw) (s : Int) (w : World) (hx : PastOk w x) (hI : PInv x.v) (hl : x.ops.length ≤ 200) (h : ¬ s ≤ x.t) :
    Calls Tryz.prog 63 #[.agg #[.slice x.bA x.base.length x.bc, .int .i64 x.t, .slice x.oA x.ops.length x.oc, .slice x.uA x.us.length x.uc, .slice x.wA x.now.length x.wc], .int .i64 s] w fun e w' => ∃ y : Pw, e = .returned (.agg #[.slice y.bA y.base.length y.bc, .int .i64 y.t, .slice y.oA y.ops.length y.oc, .slice y.uA y.us.length y.uc, .slice y.wA y.now.length y.wc]) ∧ PastOk w' y ∧ y.v = settleV x.v s ∧ Below w.heap.size w w' := by
  have ha : settleV x.v s = _ := hI.settle_eq h
  have hl1 : x.base.length ≤ 62 := tree_len hI.tree
  have hl4 : x.now.length ≤ 62 := tree_len hI.ntree
  have hl3 : x.us.length = x.ops.length := hI.ulen
  have hI' : Ris Mv.C Mv.D x.ops := hI.ris
  have hbs : Sorted x.base := (treeB_facts hI.tree).2.1
  obtain ⟨bA, bc, base, t, oA, oc, ops, uA, uc, us, wA, wc, now⟩ := x
  simp only at hl h hl1 hl3 hl4 hI' hbs
  simp only [Pw.v] at ha
  have HU := Lib.hid hl3
  have HA := Lib.hid ha
  clear ha hl3 hI
  have hP : pwE.In (((w.alloc (.cells #[.slice bA base.length bc, .int .i64 t, .slice oA ops.length oc, .slice uA us.length uc, .slice wA now.length wc] 40)).alloc (.cells #[.int .i64 s] 3)).alloc (.cells #[.slice none 0 0, .int .i64 0, .slice none 0 0, .slice none 0 0, .slice none 0 0] 40)) w.heap.size (⟨bA, bc, base, t, oA, oc, ops, uA, uc, us, wA, wc, now⟩ : Pw) := ((El.In.new (E := pwE) w (⟨bA, bc, base, t, oA, oc, ops, uA, uc, us, wA, wc, now⟩ : Pw) _ rfl).alloc _).alloc _
  have hO : (((w.alloc (.cells #[.slice bA base.length bc, .int .i64 t, .slice oA ops.length oc, .slice uA us.length uc, .slice wA now.length wc] 40)).alloc (.cells #[.int .i64 s] 3)).alloc (.cells #[.slice none 0 0, .int .i64 0, .slice none 0 0, .slice none 0 0, .slice none 0 0] 40)).cell? ⟨w.heap.size + 1, 0, none⟩ = some (.int .i64 s) := by go_simp
  have hR : pwE.In (((w.alloc (.cells #[.slice bA base.length bc, .int .i64 t, .slice oA ops.length oc, .slice uA us.length uc, .slice wA now.length wc] 40)).alloc (.cells #[.int .i64 s] 3)).alloc (.cells #[.slice none 0 0, .int .i64 0, .slice none 0 0, .slice none 0 0, .slice none 0 0] 40)) (w.heap.size + 2) Pw.zero := by
    have h := El.In.new (E := pwE) ((w.alloc (.cells #[.slice bA base.length bc, .int .i64 t, .slice oA ops.length oc, .slice uA us.length uc, .slice wA now.length wc] 40)).alloc (.cells #[.int .i64 s] 3)) Pw.zero #[.slice none 0 0, .int .i64 0, .slice none 0 0, .slice none 0 0, .slice none 0 0] rfl
    rw [alloc_size, alloc_size] at h; exact h
  have hB := below_alloc (below_alloc (below_alloc (Below.refl w.heap.size w) (.cells #[.slice bA base.length bc, .int .i64 t, .slice oA ops.length oc, .slice uA us.length uc, .slice wA now.length wc] 40)) (.cells #[.int .i64 s] 3)) (.cells #[.slice none 0 0, .int .i64 0, .slice none 0 0, .slice none 0 0, .slice none 0 0] 40)
  have hsz : (((w.alloc (.cells #[.slice bA base.length bc, .int .i64 t, .slice oA ops.length oc, .slice uA us.length uc, .slice wA now.length wc] 40)).alloc (.cells #[.int .i64 s] 3)).alloc (.cells #[.slice none 0 0, .int .i64 0, .slice none 0 0, .slice none 0 0, .slice none 0 0] 40)).heap.size = w.heap.size + 3 := by rw [alloc_size, alloc_size, alloc_size]
  have HL := Lib.hid hx
  clear hx
  have hE := even_any (⟨bA, bc, base, t, oA, oc, ops, uA, uc, us, wA, wc, now⟩ : Pw) (((w.alloc (.cells #[.slice bA base.length bc, .int .i64 t, .slice oA ops.length oc, .slice uA us.length uc, .slice wA now.length wc] 40)).alloc (.cells #[.int .i64 s] 3)).alloc (.cells #[.slice none 0 0, .int .i64 0, .slice none 0 0, .slice none 0 0, .slice none 0 0] 40)) HU.out
  simp only at hE
  go_enter Tryz.func63, Tryz.ntmps63
  go_wp2_with fail
  generalize ((w.alloc (.cells #[.slice bA base.length bc, .int .i64 t, .slice oA ops.length oc, .slice uA us.length uc, .slice wA now.length wc] 40)).alloc (.cells #[.int .i64 s] 3)).alloc (.cells #[.slice none 0 0, .int .i64 0, .slice none 0 0, .slice none 0 0, .slice none 0 0] 40) = W at *
  obtain ⟨n2, h2⟩ : ∃ n, w.heap.size + 2 = n := ⟨_, rfl⟩
  obtain ⟨n1, h1⟩ : ∃ n, w.heap.size + 1 = n := ⟨_, rfl⟩
  obtain ⟨n0, h0⟩ : ∃ n, w.heap.size = n := ⟨_, rfl⟩
  have HN := Lib.hid (show w.heap.size ≤ n0 ∧ n1 = n0 + 1 ∧ n2 = n0 + 2 by omega)
  have hn20 : n2 ≠ n0 := by omega
  try rw [show w.heap.size + 1 + 1 = n2 by omega]
  rw [h2] at hR
  rw [h1] at hO ⊢
  rw [h0] at hP ⊢
  try rw [h2]
  have hl1n : n1 < W.heap.size := by omega
  clear h0 h1 h2
  refine hE.mono ?_
  rintro e W2 ⟨rfl, hb2⟩
  clear hE
  replace hP := hP.below hb2
  replace hR := hR.below hb2
  have hO2 : W2.cell? ⟨n1, 0, none⟩ = some (.int .i64 s) := by rw [(bcell hb2).1 _ _ hl1n]; exact hO
  replace hB := hB.trans (hb2.mono (by have := hB.size; omega))
  have hl1m : n1 < W2.heap.size := by have := hb2.size; omega
  clear hb2 hO hl1n hsz
  have hxo := (HL.out.below hB).o
  simp only at hxo
  have hl0 := hP.lt
  have CS := search2_any ops.length n0 n1 (fun i => if h : i < ops.length then decide (s < ops[i].C) else true) W2 (by omega)
    (fun i j hij hj hpi => by
      rw [dif_pos (show i < ops.length by omega)] at hpi
      rw [dif_pos hj]
      have := ris_c hI' (show i < ops.length by omega) hj hij
      rw [decide_eq_true_iff] at hpi ⊢; omega)
    (fun i w' hi hb => by
      have := upOne_any i (⟨bA, bc, base, t, oA, oc, ops, uA, uc, us, wA, wc, now⟩ : Pw) s n0 n1 w' (hP.below hb) (by rw [(bcell hb).1 _ _ hl1m]; exact hO2) (hxo.1.below hb) hi (by simp only; omega)
      rw [dif_pos hi]; exact this)
  obtain ⟨p0, p1, p2, p3, p4⟩ := pwIn5 hP
  go_wp2_with fail
  clear p0 p1 p2 p3 p4
  refine CS.mono ?_
  rintro e W3 ⟨k, rfl, hk, hlo, hhi, hb3⟩
  clear CS
  have hup : k = upto Mv.C ops s := upto_eq hk (fun i hi hik => by have := hlo i hik; rw [dif_pos hi] at this; have := of_decide_eq_false this; omega) (fun hi => by have := hhi k (Nat.le_refl _) hi; rw [dif_pos hi] at this; exact of_decide_eq_true this)
  have hna := HA.out
  rw [← hup] at hna
  have HNA := Lib.hid hna
  replace hP := hP.below hb3
  replace hR := hR.below hb3
  have hO3 : W3.cell? ⟨n1, 0, none⟩ = some (.int .i64 s) := by rw [(bcell hb3).1 _ _ hl1m]; exact hO2
  replace hB := hB.trans (hb3.mono (by have := hB.size; omega))
  have hl2n : n2 < W3.heap.size := hR.lt
  replace hl1m : n1 < W3.heap.size := by have := hb3.size; omega
  clear hb3 hO2 hlo hhi hna HA hup hl0 hxo
  go_wp2_with fail
  have hx3 := HL.out.below hB
  have hxb := hx3.b
  have hxo := hx3.o
  have hxu := hx3.u
  have hxw := hx3.w
  simp only at hxb hxo hxu hxw
  obtain ⟨A3, hA3⟩ : ∃ A3 : Option Addr, (if oc = k then oA else Option.map (fun x => x.add (k * 7)) oA) = A3 := ⟨_, rfl⟩
  obtain ⟨U3, hU3⟩ : ∃ U3 : Option Addr, (if uc = k then uA else Option.map (fun x => x.add (k * 5)) uA) = U3 := ⟨_, rfl⟩
  have ht1 := hxo.1.take k
  have ht3 := hxo.1.drop (tz := k) hxo.2.2 hA3
  have htu := hxu.1.drop (tz := k) hxu.2.2 hU3
  have e1 : (ops.take k).length = k := by rw [List.length_take]; omega
  have e3 : (ops.drop k).length = ops.length - k := List.length_drop
  have eu : (us.drop k).length = us.length - k := List.length_drop
  have hv3 : SlV opE W3 A3 (oc - k) (ops.drop k) := ⟨ht3, El.drop_none hxo.2.1 hA3, by rw [e3]; have := hxo.2.2; omega⟩
  have hvu : SlV unE W3 U3 (uc - k) (us.drop k) := ⟨htu, El.drop_none hxu.2.1 hU3, by rw [eu]; have := hxu.2.2; omega⟩
  have hkc : k ≤ oc := Nat.le_trans hk hxo.2.2
  have i0 : (0 : Int) ≤ (k : Int) := by omega
  have i1 : (k : Int) ≤ (oc : Int) := by omega
  have i2 : (k : Int) ≤ (ops.length : Int) := by omega
  have i3 : (k : Int) ≤ (us.length : Int) := by have := HU.out; omega
  have i4 : (k : Int) ≤ (uc : Int) := by have := hxu.2.2; have := HU.out; omega
  have CF := mvFold_any bA bc base oA oc (ops.take k) W3.drew (by rw [e1]; omega) hbs hxb ht1
  rw [e1] at CF
  have HCF := Lib.hid CF
  have HE3 := Lib.hid e3
  have HEU := Lib.hid eu
  clear CF ht1 ht3 htu hxb hxo hxu e1 e3 eu hx3
  generalize hL3 : ops.drop k = L3 at *
  generalize hus3 : us.drop k = us3 at *
  generalize (foldL base (mvs (ops.take k))).1 = b4 at *
  generalize (foldL base (mvs (ops.take k))).2 = u4 at *
  clear hL3 hus3
  have hP0 := hP
  have hPd : pwE.In W3.drew n0 (⟨bA, bc, base, t, oA, oc, ops, uA, uc, us, wA, wc, now⟩ : Pw) := hP
  have hd3 : Below W3.heap.size W3 W3.drew := (Below.refl _ _).drew
  go_region_held3 (fun w' => w'.cell? ⟨n0, 0, none⟩ = some (.slice bA base.length bc) ∧ w'.cell? ⟨n0, 2, none⟩ = some (.slice oA ops.length oc)) (with_reducible first | exact ⟨(pwIn5 hPd).1, (pwIn5 hPd).2.2.1⟩ | exact ⟨(pwIn5 hP4).1, (pwIn5 hP4).2.2.1⟩) (first | (go_at_call 52; (with_reducible refine HCF.out.mono ?_); rintro e W4 ⟨A4, c4, U4, uc4, rfl, hS4, hU4, hf4, hfu4, hb4⟩; have hb34 := hd3.trans (hb4.mono hd3.size); have hP4 := hP0.below hb34))
  replace hR := hR.below hb34
  replace hB := hB.trans (hb34.mono hB.size)
  have hO4 : W4.cell? ⟨n1, 0, none⟩ = some (.int .i64 s) := by rw [(bcell hb34).1 _ _ hl1m]; exact hO3
  have hl2 : n2 < W3.heap.size := by have := hb34.size; exact hl2n
  have hl1m4 : n1 < W4.heap.size := by have := hb34.size; omega
  replace hv3 := hv3.below hb34
  replace hvu := hvu.below hb34
  replace hxw := hxw.below hb34
  clear hP hP0 hPd hd3 hU4 hfu4 hO3 HCF hb4
  have hl24 : n2 < W4.heap.size := hR.lt
  have C1 := fun (wx : World) (h : SlV opE wx A3 (oc - k) L3) => cloneOp_any A3 (oc - k) L3 wx (by have := HE3.out; omega) h
  have C2 := fun (wx : World) (h : SlV unE wx U3 (uc - k) us3) => cloneUn_any U3 (uc - k) us3 wx (by have := HEU.out; have := HU.out; omega) h
  have C3 := fun (wx : World) (h : SlV plE wx wA wc now) => clonePl_any wA wc now wx (by omega) h
  rw [show (#[Value.slice A3 L3.length (oc - k)] : Array Value) = #[Value.slice A3 (ops.length - k) (oc - k)] by rw [HE3.out]] at C1
  rw [show (#[Value.slice U3 us3.length (uc - k)] : Array Value) = #[Value.slice U3 (us.length - k) (uc - k)] by rw [HEU.out]] at C2
  have HC1 := Lib.hid C1
  have HC2 := Lib.hid C2
  have HC3 := Lib.hid C3
  clear C1 C2 C3
  have hv30 : SlV opE W4.drew A3 (oc - k) L3 := hv3
  have hd4 : Below W4.heap.size W4 W4.drew := (Below.refl _ _).drew
  have hPd : pwE.In W4.drew n0 (⟨bA, bc, base, t, oA, oc, ops, uA, uc, us, wA, wc, now⟩ : Pw) := hP4
  have hOd : W4.drew.cell? ⟨n1, 0, none⟩ = some (.int .i64 s) := hO4
  have hn02 : some n0 ≠ some n2 := fun e => hn20 (Option.some.inj e).symm
  have hn12 : some n1 ≠ some n2 := fun e => by have := Option.some.inj e; have := HN.out; omega
  go_wp2_with fail
  go_region_held3 (fun w' => w'.cell? ⟨n1, 0, none⟩ = some (.int .i64 s) ∧ w'.cell? ⟨n0, 2, none⟩ = some (.slice oA ops.length oc) ∧ w'.cell? ⟨n0, 3, none⟩ = some (.slice uA us.length uc) ∧ w'.cell? ⟨n0, 4, none⟩ = some (.slice wA now.length wc)) (with_reducible first | exact ⟨hOd, (pwIn5 hPd).2.2.1, (pwIn5 hPd).2.2.2.1, (pwIn5 hPd).2.2.2.2⟩ | exact ⟨hO5, (pwIn5 hP5).2.2.1, (pwIn5 hP5).2.2.2.1, (pwIn5 hP5).2.2.2.2⟩ | exact ⟨hO6, (pwIn5 hP6).2.2.1, (pwIn5 hP6).2.2.2.1, (pwIn5 hP6).2.2.2.2⟩ | exact ⟨hO7, (pwIn5 hP7).2.2.1, (pwIn5 hP7).2.2.2.1, (pwIn5 hP7).2.2.2.2⟩ | exact ⟨hOz, (pwIn5 (hP7.keep (pw_put hR7 ⟨A4, c4, b4, s, A5, c5, L3, A6, c6, us3, A7, c7, now⟩).2 hn02)).2.2.1, (pwIn5 (hP7.keep (pw_put hR7 ⟨A4, c4, b4, s, A5, c5, L3, A6, c6, us3, A7, c7, now⟩).2 hn02)).2.2.2.1, (pwIn5 (hP7.keep (pw_put hR7 ⟨A4, c4, b4, s, A5, c5, L3, A6, c6, us3, A7, c7, now⟩).2 hn02)).2.2.2.2⟩) (first | (go_at_call 59; (with_reducible refine (HC1.out _ hv30).mono ?_); rintro e W5 ⟨A5, c5, rfl, hS5, hf5, hb5⟩; have hb45 := hd4.trans (hb5.mono hd4.size); have hP5 := hP4.below hb45; have hO5 : W5.cell? ⟨n1, 0, none⟩ = some (.int .i64 s) := (by rw [(bcell hb45).1 _ _ hl1m4]; exact hO4); have hvu5 := hvu.below hb45; have hxw5 := hxw.below hb45) | (go_at_call 82; (with_reducible refine (HC2.out _ hvu5).mono ?_); rintro e W6 ⟨A6, c6, rfl, hS6, hf6, hb6⟩; have hb46 := hb45.trans (hb6.mono hb45.size); have hP6 := hP4.below hb46; have hO6 : W6.cell? ⟨n1, 0, none⟩ = some (.int .i64 s) := (by rw [(bcell hb46).1 _ _ hl1m4]; exact hO4); have hxw6 := hxw5.below hb6) | (go_at_call 54; (with_reducible refine (HC3.out _ hxw6).mono ?_); rintro e W7 ⟨A7, c7, rfl, hS7, hf7, hb7⟩; have hb47 := hb46.trans (hb7.mono hb46.size); have hP7 := hP4.below hb47; have hO7 : W7.cell? ⟨n1, 0, none⟩ = some (.int .i64 s) := (by rw [(bcell hb47).1 _ _ hl1m4]; exact hO4); have hR7 := hR.below hb47; have hOz := (pw_put hR7 ⟨A4, c4, b4, s, A5, c5, L3, A6, c6, us3, A7, c7, now⟩).2.cell hO7 hn12; obtain ⟨r0, r1, r2, r3, r4⟩ := pwIn5 hR7; have rf := hR7.frozen))
  have hz := pw_put hR7 ⟨A4, c4, b4, s, A5, c5, L3, A6, c6, us3, A7, c7, now⟩
  go_wp2
  refine El.ret1 pwRow hz.1 rfl rfl rfl #[.slice A4 b4.length c4, .int .i64 s, .slice A5 L3.length c5, .slice A6 us3.length c6, .slice A7 now.length c7] rfl ?_
  have g5 := hb45.size
  have g6 := hb46.size
  have hB7 := hB.trans (hb47.mono hB.size)
  exact ⟨⟨A4, c4, b4, s, A5, c5, L3, A6, c6, us3, A7, c7, now⟩, rfl, ⟨(hS4.below hb47).keep hf4 hz.2 hl2, (hS5.below (below_then hb6 hb7)).keep hf5 hz.2 hl24, (hS6.below hb7).keep hf6 hz.2 (by omega), hS7.keep hf7 hz.2 (by omega)⟩, by show _ = settleV ⟨base, t, ops, us, now⟩ s; rw [HNA.out]; rfl, hB7.grown hz.2 hB7.size (fun j e => by have := Option.some.inj e; have := HN.out; omega)⟩

theorem pSettle_any (x : Pw) (s : Int) (w : World) (hx : PastOk w x) (hI : PInv x.v) (hl : x.ops.length ≤ 200) :
    Calls Tryz.prog 63 #[.agg #[.slice x.bA x.base.length x.bc, .int .i64 x.t, .slice x.oA x.ops.length x.oc, .slice x.uA x.us.length x.uc, .slice x.wA x.now.length x.wc], .int .i64 s] w fun e w' => ∃ y : Pw, e = .returned (.agg #[.slice y.bA y.base.length y.bc, .int .i64 y.t, .slice y.oA y.ops.length y.oc, .slice y.uA y.us.length y.uc, .slice y.wA y.now.length y.wc]) ∧ PastOk w' y ∧ y.v = settleV x.v s ∧ Below w.heap.size w w' := by
  by_cases h : s ≤ x.t
  · exact pSettle_late x s w hx hI hl h
  · exact pSettle_new x s w hx hI hl h
theorem pAdd_any (x : Pw) (m : Mv) (w : World) (hx : PastOk w x) (hI : PInv x.v) (hl : x.ops.length ≤ 200) :
    Calls Tryz.prog 25 #[.agg #[.slice x.bA x.base.length x.bc, .int .i64 x.t, .slice x.oA x.ops.length x.oc, .slice x.uA x.us.length x.uc, .slice x.wA x.now.length x.wc], .agg #[.int .i64 m.C, .int .i64 m.D, .int .i64 m.I, .int .i64 m.M, .int .i64 m.K, .int .i64 m.U, .string m.s]] w fun e w' => ∃ y : Pw, e = .returned (.tuple #[.agg #[.slice y.bA y.base.length y.bc, .int .i64 y.t, .slice y.oA y.ops.length y.oc, .slice y.uA y.us.length y.uc, .slice y.wA y.now.length y.wc], .bool (addV x.v m).2]) ∧ PastOk w' y ∧ y.v = (addV x.v m).1 ∧ Below w.heap.size w w' := by
  by_cases h : m.C ≤ x.t
  · cases hh : has Mv.C Mv.D x.ops m
    · exact pAdd_late x m w hx hI hl (Or.inr ⟨hh, h⟩)
    · exact pAdd_late x m w hx hI hl (Or.inl hh)
  · cases hh : has Mv.C Mv.D x.ops m
    · have e : (addV x.v m).2 = true := by rw [addV_new' (q := x.v) h hh]
      rw [e]
      exact pAdd_new x m w hx hI hl hh h
    · exact pAdd_late x m w hx hI hl (Or.inl hh)
end Go.Proofs.YtdcjffajmckleaaGreatDoor

/- The document's Own and Of. -/
namespace Go.Proofs.YtdcjffajmckleaaGreatDoor
open Go.RowKit Tre Cod Pst

/-- How many of the first k are so. -/
def cntO (p : Mv → Bool) (l : List Mv) (k : Nat) : Nat := ((l.take k).filter p).length
theorem cntO_next {p : Mv → Bool} {l : List Mv} {k : Nat} {x : Mv} (h : k < l.length) (hx : l[k] = x) : cntO p l (k + 1) = cntO p l k + (if p x then 1 else 0) := by
  unfold cntO
  rw [List.take_succ_eq_append_getElem h, List.filter_append, List.length_append, hx]
  congr 1
  cases hp : p x <;> simp [hp]
theorem cntO_all (p : Mv → Bool) (l : List Mv) : cntO p l l.length = (l.filter p).length := by unfold cntO; rw [List.take_length]
theorem cntO_le (p : Mv → Bool) (l : List Mv) (k : Nat) : cntO p l k ≤ l.length := by
  unfold cntO
  have h1 := List.length_filter_le p (l.take k)
  have h2 : (l.take k).length ≤ l.length := by rw [List.length_take]; omega
  omega

end Go.Proofs.YtdcjffajmckleaaGreatDoor

/- Own, Of and count of the program. -/
namespace Go.Proofs.YtdcjffajmckleaaGreatDoor
open Go.RowKit Tre Cod Pst

theorem ownOne_any (m : Mv) (d i : Int) (b1 b2 : Nat) (w : World) (h1 : w.cell? ⟨b1, 0, none⟩ = some (.int .i64 d)) (h2 : w.cell? ⟨b2, 0, none⟩ = some (.int .i64 i)) (l1 : b1 < w.heap.size) (l2 : b2 < w.heap.size) :
    Calls Tryz.prog 72 #[.agg #[.int .i64 m.C, .int .i64 m.D, .int .i64 m.I, .int .i64 m.M, .int .i64 m.K, .int .i64 m.U, .string m.s], .pointer (some ⟨b1, 0, none⟩), .pointer (some ⟨b2, 0, none⟩)] w fun e w' => e = .returned (.bool (decide (m.D = d ∧ m.I = i))) ∧ Below w.heap.size w w' := by
  have n1 : b1 ≠ w.heap.size := by omega
  have n2 : b2 ≠ w.heap.size := by omega
  by_cases e1 : m.D = d
  · by_cases e2 : m.I = i
    · rw [decide_eq_true ⟨e1, e2⟩]
      go_enter Tryz.func72, Tryz.ntmps72
      go_wp2
      go_ret
      exact ⟨rfl, below_alloc (Below.refl _ _) _⟩
    · rw [decide_eq_false (fun h => e2 h.2)]
      have e2 : (m.I == i) = false := beq_eq_false_iff_ne.2 e2
      go_enter Tryz.func72, Tryz.ntmps72
      go_wp2
      go_ret
      exact ⟨rfl, below_alloc (Below.refl _ _) _⟩
  · rw [decide_eq_false (fun h => e1 h.1)]
    have e1 : (m.D == d) = false := beq_eq_false_iff_ne.2 e1
    go_enter Tryz.func72, Tryz.ntmps72
    go_wp2
    go_ret
    exact ⟨rfl, below_alloc (Below.refl _ _) _⟩
set_option maxRecDepth 100000 in
set_option maxHeartbeats 1000000 in
theorem countOwn_any (A : Option Addr) (c : Nat) (l : List Mv) (p : Mv → Bool) (b1 b2 : Nat) (w : World) (hT : opE.Sl w A l) (hl : l.length ≤ 50000)
    (HF : ∀ (m : Mv) (w' : World), Below w.heap.size w w' → Calls Tryz.prog 72 #[.agg #[.int .i64 m.C, .int .i64 m.D, .int .i64 m.I, .int .i64 m.M, .int .i64 m.K, .int .i64 m.U, .string m.s], .pointer (some ⟨b1, 0, none⟩), .pointer (some ⟨b2, 0, none⟩)] w' fun e w'' => e = .returned (.bool (p m)) ∧ Below w'.heap.size w' w'') :
    Calls Tryz.prog 71 #[.slice A l.length c, .func (.func 72) #[] #[.pointer (some ⟨b1, 0, none⟩), .pointer (some ⟨b2, 0, none⟩)]] w fun e w' => e = .returned (.int .i64 ((l.filter p).length)) ∧ Below w.heap.size w w' := by
  rw [← cntO_all]
  have HCF := Lib.hid HF
  clear HF
  go_enter Tryz.func71, Tryz.ntmps71
  go_wp2
  go_loopw [5, 10] (fun x y wr => ∃ k : Nat, k ≤ l.length ∧ y = .int .i64 k ∧ x = .int .i64 (cntO p l k) ∧ Below w.heap.size w wr) (fun _ y _ => l.length - (intOf y).toNat)
  case atStart => exact ⟨0, Nat.zero_le _, rfl, rfl, Below.refl _ _⟩
  case round =>
    obtain ⟨k, hk, rfl, rfl, hnx⟩ := hrel
    have hcl := cntO_le p l k
    by_cases hkl : k < l.length
    · obtain ⟨b, off, rfl, hbw, hc⟩ := hT (by omega)
      have hat : opE.At wr b (off + k * 7) l[k] := (hc k hkl).below hnx hbw
      obtain ⟨mk, hmk⟩ : ∃ mk, l[k] = mk := ⟨_, rfl⟩
      rw [hmk] at hat
      have hnext := cntO_next (p := p) hkl hmk
      have hI : opE.In ((wr.alloc (.cells #[.int .i64 0, .int .i64 0, .int .i64 0, .int .i64 0, .int .i64 0, .int .i64 0, .string ⟨#[]⟩] 55)).setRow wr.heap.size #[.int .i64 mk.C, .int .i64 mk.D, .int .i64 mk.I, .int .i64 mk.M, .int .i64 mk.K, .int .i64 mk.U, .string mk.s]) wr.heap.size mk := (El.In.new (E := opE) wr zeroMv #[.int .i64 0, .int .i64 0, .int .i64 0, .int .i64 0, .int .i64 0, .int .i64 0, .string ⟨#[]⟩] rfl).set mk #[.int .i64 mk.C, .int .i64 mk.D, .int .i64 mk.I, .int .i64 mk.M, .int .i64 mk.K, .int .i64 mk.U, .string mk.s] rfl
      have hb1 : Below wr.heap.size wr ((wr.alloc (.cells #[.int .i64 0, .int .i64 0, .int .i64 0, .int .i64 0, .int .i64 0, .int .i64 0, .string ⟨#[]⟩] 55)).setRow wr.heap.size #[.int .i64 mk.C, .int .i64 mk.D, .int .i64 mk.I, .int .i64 mk.M, .int .i64 mk.K, .int .i64 mk.U, .string mk.s]) := below_setRow (below_alloc (Below.refl _ _) _) (Nat.le_refl _) _
      have hF := HCF.out mk _ (below_then hnx hb1)
      have HI := Lib.hid hI
      have HCM := Lib.hid hF
      have hz : opE.In (wr.alloc (.cells #[.int .i64 0, .int .i64 0, .int .i64 0, .int .i64 0, .int .i64 0, .int .i64 0, .string ⟨#[]⟩] 55)) wr.heap.size zeroMv := El.In.new (E := opE) wr zeroMv #[.int .i64 0, .int .i64 0, .int .i64 0, .int .i64 0, .int .i64 0, .int .i64 0, .string ⟨#[]⟩] rfl
      have HN := Lib.hid hnext
      clear hnext hc hmk hI hF
      generalize hcn : cntO p l k = cn at *
      clear hcn
      cases hp : p mk
      · rw [hp] at HCM HN
        go_wp2_with (first | (refine El.load opRow rfl _ rfl b (off + k * 7) rfl mk hat #[.int .i64 mk.C, .int .i64 mk.D, .int .i64 mk.I, .int .i64 mk.M, .int .i64 mk.K, .int .i64 mk.U, .string mk.s] rfl ?_) | (refine El.store opRow rfl _ _ rfl wr.heap.size mk #[.int .i64 mk.C, .int .i64 mk.D, .int .i64 mk.I, .int .i64 mk.M, .int .i64 mk.K, .int .i64 mk.U, .string mk.s] rfl rfl rfl zeroMv hz ?_) | (refine El.load opRow rfl _ rfl wr.heap.size 0 rfl mk HI.out.at #[.int .i64 mk.C, .int .i64 mk.D, .int .i64 mk.I, .int .i64 mk.M, .int .i64 mk.K, .int .i64 mk.U, .string mk.s] rfl ?_) | (go_at_call 72; (with_reducible refine HCM.out.mono ?_); rintro e w3 ⟨rfl, hb3⟩))
        go_roundw
        case rel => exact ⟨k + 1, by omega, by go_num, by rw [HN.out]; go_num, below_then hnx (below_then hb1 hb3)⟩
        case measure => simp [intOf]; omega
      · rw [hp] at HCM HN
        go_wp2_with (first | (refine El.load opRow rfl _ rfl b (off + k * 7) rfl mk hat #[.int .i64 mk.C, .int .i64 mk.D, .int .i64 mk.I, .int .i64 mk.M, .int .i64 mk.K, .int .i64 mk.U, .string mk.s] rfl ?_) | (refine El.store opRow rfl _ _ rfl wr.heap.size mk #[.int .i64 mk.C, .int .i64 mk.D, .int .i64 mk.I, .int .i64 mk.M, .int .i64 mk.K, .int .i64 mk.U, .string mk.s] rfl rfl rfl zeroMv hz ?_) | (refine El.load opRow rfl _ rfl wr.heap.size 0 rfl mk HI.out.at #[.int .i64 mk.C, .int .i64 mk.D, .int .i64 mk.I, .int .i64 mk.M, .int .i64 mk.K, .int .i64 mk.U, .string mk.s] rfl ?_) | (go_at_call 72; (with_reducible refine HCM.out.mono ?_); rintro e w3 ⟨rfl, hb3⟩))
        go_roundw
        case rel => exact ⟨k + 1, by omega, by go_num, by rw [HN.out]; go_num, below_then hnx (below_then hb1 hb3)⟩
        case measure => simp [intOf]; omega
    · obtain rfl : k = l.length := by omega
      go_wp2
      go_ret
      exact ⟨rfl, hnx⟩
set_option maxRecDepth 100000 in
theorem pOwn_any (x : Pw) (d i : Int) (w : World) (hx : PastOk w x) (hl : x.ops.length ≤ 50000) :
    Calls Tryz.prog 45 #[.agg #[.slice x.bA x.base.length x.bc, .int .i64 x.t, .slice x.oA x.ops.length x.oc, .slice x.uA x.us.length x.uc, .slice x.wA x.now.length x.wc], .int .i64 d, .int .i64 i] w fun e w' => e = .returned (.int .i64 (ownV x.v d i)) ∧ Below w.heap.size w w' := by
  obtain ⟨bA, bc, base, t, oA, oc, ops, uA, uc, us, wA, wc, now⟩ := x
  simp only at hl
  have hB := below_alloc (below_alloc (below_alloc (Below.refl w.heap.size w) (.cells #[.slice bA base.length bc, .int .i64 t, .slice oA ops.length oc, .slice uA us.length uc, .slice wA now.length wc] 40)) (.cells #[.int .i64 d] 3)) (.cells #[.int .i64 i] 3)
  have hxo := hx.o.below hB
  simp only at hxo
  have hs : (((w.alloc (.cells #[.slice bA base.length bc, .int .i64 t, .slice oA ops.length oc, .slice uA us.length uc, .slice wA now.length wc] 40)).alloc (.cells #[.int .i64 d] 3)).alloc (.cells #[.int .i64 i] 3)).heap.size = w.heap.size + 3 := by rw [alloc_size, alloc_size, alloc_size]
  have q1 : (((w.alloc (.cells #[.slice bA base.length bc, .int .i64 t, .slice oA ops.length oc, .slice uA us.length uc, .slice wA now.length wc] 40)).alloc (.cells #[.int .i64 d] 3)).alloc (.cells #[.int .i64 i] 3)).cell? ⟨w.heap.size + 1, 0, none⟩ = some (.int .i64 d) := by go_simp
  have q2 : (((w.alloc (.cells #[.slice bA base.length bc, .int .i64 t, .slice oA ops.length oc, .slice uA us.length uc, .slice wA now.length wc] 40)).alloc (.cells #[.int .i64 d] 3)).alloc (.cells #[.int .i64 i] 3)).cell? ⟨w.heap.size + 2, 0, none⟩ = some (.int .i64 i) := by go_simp
  have C := countOwn_any oA oc ops (fun m => decide (m.D = d ∧ m.I = i)) (w.heap.size + 1) (w.heap.size + 2) _ hxo.1 hl (fun m w' hb => ownOne_any m d i _ _ w' (by rw [(bcell hb).1 _ _ (by omega)]; exact q1) (by rw [(bcell hb).1 _ _ (by omega)]; exact q2) (by have := hb.size; omega) (by have := hb.size; omega))
  have hv : ownV (⟨bA, bc, base, t, oA, oc, ops, uA, uc, us, wA, wc, now⟩ : Pw).v d i = (ops.filter fun m => decide (m.D = d ∧ m.I = i)).length := rfl
  rw [hv]
  generalize (ops.filter fun m => decide (m.D = d ∧ m.I = i)).length = N at *
  have HC := Lib.hid C
  clear C hx
  go_enter Tryz.func45, Tryz.ntmps45
  go_wp2_with (go_at_call 71; (with_reducible refine HC.out.mono ?_); rintro e w3 ⟨rfl, hb3⟩)
  go_ret
  exact ⟨rfl, below_then hB hb3⟩
end Go.Proofs.YtdcjffajmckleaaGreatDoor

/- The law's example; what a past's block leaves of pasts. -/
namespace Go.Proofs.YtdcjffajmckleaaGreatDoor
open Go.RowKit Tre Cod Pst Nam

theorem two_int {w : World} {n o : Nat} {x : Pw} {a b : Int} (h : pwE.In w n x) (h1 : w.cell? ⟨n, o, none⟩ = some (.int .i64 a)) (h2 : w.cell? ⟨n, o + 1, none⟩ = some (.int .i64 b)) : False := by
  rw [h.cell] at h1 h2
  match o, h1, h2 with
  | 0, h1, _ => exact absurd (Option.some.inj h1) (by intro e; cases e)
  | 1, _, h2 => exact absurd (Option.some.inj h2) (by intro e; cases e)
  | 2, h1, _ => exact absurd (Option.some.inj h1) (by intro e; cases e)
  | 3, h1, _ => exact absurd (Option.some.inj h1) (by intro e; cases e)
  | 4, h1, _ => exact absurd (Option.some.inj h1) (by intro e; cases e)
  | o + 5, h1, _ => exact absurd h1 (by intro e; cases e)
theorem SlV.off {α : Type} {E : El α} {w w' : World} {A : Option Addr} {c n : Nat} {l : List α} {x : Pw} (h : SlV E w A c l) (hp : pwE.In w n x) (hg : w.grownBy w' (some n)) (hi : ∀ y : α, ∃ a b : Int, (E.c y)[0]? = some (.int .i64 a) ∧ (E.c y)[1]? = some (.int .i64 b)) : SlV E w' A c l := by
  refine ⟨?_, h.2⟩
  intro h0
  obtain ⟨b, off, e, hl, hc⟩ := h.1 h0
  refine ⟨b, off, e, Nat.lt_of_lt_of_le hl hg.size, fun i hi2 => (hc i hi2).grown hg fun e2 => ?_⟩
  have e3 := Option.some.inj e2
  subst e3
  obtain ⟨a1, a2, h1, h2⟩ := hi l[0]
  have g1 := hc 0 h0 0 _ h1
  have g2 := hc 0 h0 1 _ h2
  exact two_int hp g1 g2
/-- A past's own block is written: other pasts stay. -/
theorem PastOk.off {w w' : World} {n : Nat} {x y : Pw} (h : PastOk w y) (hp : pwE.In w n x) (hg : w.grownBy w' (some n)) : PastOk w' y :=
  ⟨h.b.off hp hg fun p => ⟨p.n, p.u, rfl, rfl⟩, h.o.off hp hg fun m => ⟨m.C, m.D, rfl, rfl⟩, h.u.off hp hg fun u => ⟨u.was.n, u.was.u, rfl, rfl⟩, h.w.off hp hg fun p => ⟨p.n, p.u, rfl, rfl⟩⟩

end Go.Proofs.YtdcjffajmckleaaGreatDoor

/- What the calls answer at states that are known; the law's awake. -/
namespace Go.Proofs.YtdcjffajmckleaaGreatDoor
open Go.RowKit Nam Cod Tre Pst Pln

def P18 : Pn := ⟨[-1, 0, 0], 2, 3, 2, 20, 2, 32, 4, 16⟩
theorem some18_any (w : World) : Calls Tryz.prog 7 #[] w fun e w' => ∃ n : Nat, e = .returned (.agg #[.slice (some ⟨n, 0, none⟩) 3 3, .int .i64 2, .int .i64 3, .int .i64 2, .int .i64 20, .int .i64 2, .int .i64 32, .int .i64 4, .int .i64 16]) ∧ inE.Sl w' (some ⟨n, 0, none⟩) [-1, 0, 0] ∧ Below w.heap.size w w' := by
  go_enter Tryz.func7, Tryz.ntmps7
  have hP : pnE.In ((w.alloc (.cells #[.slice (some ⟨w.heap.size + 1, 0, none⟩) 3 3, .int .i64 2, .int .i64 3, .int .i64 2, .int .i64 20, .int .i64 2, .int .i64 32, .int .i64 4, .int .i64 16] 26)).alloc (.cells #[.int .i64 (-1), .int .i64 0, .int .i64 0] 3)) w.heap.size (⟨some ⟨w.heap.size + 1, 0, none⟩, 3, P18⟩ : Pnw) := (El.In.new (E := pnE) w (⟨some ⟨w.heap.size + 1, 0, none⟩, 3, P18⟩ : Pnw) #[.slice (some ⟨w.heap.size + 1, 0, none⟩) 3 3, .int .i64 2, .int .i64 3, .int .i64 2, .int .i64 20, .int .i64 2, .int .i64 32, .int .i64 4, .int .i64 16] rfl).alloc _
  have hT : inE.Sl ((w.alloc (.cells #[.slice (some ⟨w.heap.size + 1, 0, none⟩) 3 3, .int .i64 2, .int .i64 3, .int .i64 2, .int .i64 20, .int .i64 2, .int .i64 32, .int .i64 4, .int .i64 16] 26)).alloc (.cells #[.int .i64 (-1), .int .i64 0, .int .i64 0] 3)) (some ⟨w.heap.size + 1, 0, none⟩) [-1, 0, 0] := by
    have h := El.Sl.row (E := inE) (w.alloc (.cells #[.slice (some ⟨w.heap.size + 1, 0, none⟩) 3 3, .int .i64 2, .int .i64 3, .int .i64 2, .int .i64 20, .int .i64 2, .int .i64 32, .int .i64 4, .int .i64 16] 26)) [-1, 0, 0] #[.int .i64 (-1), .int .i64 0, .int .i64 0] rfl
    rw [alloc_size] at h; exact h
  have hB := below_alloc (below_alloc (Below.refl w.heap.size w) (.cells #[.slice (some ⟨w.heap.size + 1, 0, none⟩) 3 3, .int .i64 2, .int .i64 3, .int .i64 2, .int .i64 20, .int .i64 2, .int .i64 32, .int .i64 4, .int .i64 16] 26)) (.cells #[.int .i64 (-1), .int .i64 0, .int .i64 0] 3)
  go_wp2_with fail
  refine El.ret1 pnRow hP rfl rfl rfl _ rfl ?_
  exact ⟨_, rfl, hT, hB⟩

theorem st_zero18 : (Tryz.prog.info? 44).map (·.zero) = some (some (.agg #[.int .i64 0, .int .i64 0, .int .i64 0, .int .i64 0, .int .i64 0, .int .i64 0, .slice none 0 0, .int .i64 0, .int .i64 0, .slice none 0 0, .slice none 0 0, .slice none 0 0, .slice none 0 0, .slice none 0 0, .slice none 0 0, .int .i64 0, .slice none 0 0, .slice none 0 0, .slice none 0 0, .slice none 0 0, .int .i64 0, .int .i64 0, .int .i64 0, .int .i64 0, .slice none 0 0, .int .i64 0])) := by kernel_rfl
/-- A state laid, in one step. -/
theorem wpList_alloc_dv {ops : Array Oper} {rest : List Oper} {o : Oper} {a : Act} {w : World} {Q : Exit → Act → World → Prop} (hgd : o.guard = none) (ho : o.op = .alloc 44)
    (h : wpList Tryz.prog ops Q rest (a.put o.dst (.pointer (some ⟨w.heap.size, 0, none⟩))) (w.alloc (.cells #[.int .i64 0, .int .i64 0, .int .i64 0, .int .i64 0, .int .i64 0, .int .i64 0, .slice none 0 0, .int .i64 0, .int .i64 0, .slice none 0 0, .slice none 0 0, .slice none 0 0, .slice none 0 0, .slice none 0 0, .slice none 0 0, .int .i64 0, .slice none 0 0, .slice none 0 0, .slice none 0 0, .slice none 0 0, .int .i64 0, .int .i64 0, .int .i64 0, .int .i64 0, .slice none 0 0, .int .i64 0] 44))) : wpList Tryz.prog ops Q (o :: rest) a w :=
  wpList_plain hgd fun _ hK => by
    have hR := st_zero18
    cases hq : Tryz.prog.info? 44 with
    | none => simp [hq] at hR
    | some inf =>
      have hinf : inf.zero = some (.agg #[.int .i64 0, .int .i64 0, .int .i64 0, .int .i64 0, .int .i64 0, .int .i64 0, .slice none 0 0, .int .i64 0, .int .i64 0, .slice none 0 0, .slice none 0 0, .slice none 0 0, .slice none 0 0, .slice none 0 0, .slice none 0 0, .int .i64 0, .slice none 0 0, .slice none 0 0, .slice none 0 0, .slice none 0 0, .int .i64 0, .int .i64 0, .int .i64 0, .int .i64 0, .slice none 0 0, .int .i64 0]) := by simpa [hq] using hR
      have hv : (Instr.alloc 44 true (.tuple #[])).run Tryz.prog w = .ok (.pointer (some ⟨w.heap.size, 0, none⟩)) (w.alloc (.cells #[.int .i64 0, .int .i64 0, .int .i64 0, .int .i64 0, .int .i64 0, .int .i64 0, .slice none 0 0, .int .i64 0, .int .i64 0, .slice none 0 0, .slice none 0 0, .slice none 0 0, .slice none 0 0, .slice none 0 0, .slice none 0 0, .int .i64 0, .slice none 0 0, .slice none 0 0, .slice none 0 0, .slice none 0 0, .int .i64 0, .int .i64 0, .int .i64 0, .int .i64 0, .slice none 0 0, .int .i64 0] 44)) := by
        simp [Instr.alloc, zeroValue, typeInfo, hq, hinf, newVar, newRow, newObj, Value.cells]
        rfl
      unfold Oper.wp execOp
      simp only [ho, hv, Sem.run_bind, Sem.run_pure, Result.andThen_ok]
      exact hK _ _ h
def pl18 (m : Nat) (q : Int) : Pnw := ⟨some ⟨m, 0, none⟩, 3, ⟨[-1, 0, 0], q, 3, 2, 20, 2, 32, 4, 16⟩⟩
theorem pl18_d (m : Nat) {q : Int} (hq : 0 ≤ q ∧ q ≤ 1000) : PlD (pl18 m q).p 1 0 where
  up := ⟨by omega, rfl, by omega, by omega⟩
  l := by show 3 ≤ 12; omega
  q := hq
  b := by show (0 : Int) ≤ 2 ∧ (2 : Int) ≤ 1000; omega
  i := by show (0 : Int) ≤ 16 ∧ (16 : Int) ≤ 64; omega
theorem editAt (H : DeviceCalls) (m : Nat) (q : Int) (hq : 0 ≤ q ∧ q ≤ 1000) (x : Dw) (k u : Int) (s : ByteArray) (w : World) (hT : inE.Sl w (some ⟨m, 0, none⟩) [-1, 0, 0]) (hx : x.ok w) {X Z : Dv} {n : Int} (hv : x.v = X) (hr : DvR X) (hn : X.node = 1) (hk : i64 k) (hu : i64 u) (hs : s.size ≤ 9223372036854775807) (he : editD q 16 X k u s = (Z, n)) :
    Calls Tryz.prog 9 #[.agg #[.slice (some ⟨m, 0, none⟩) 3 3, .int .i64 q, .int .i64 3, .int .i64 2, .int .i64 20, .int .i64 2, .int .i64 32, .int .i64 4, .int .i64 16], .agg #[.int .i64 x.node, .int .i64 x.boot, .int .i64 x.above, .int .i64 x.pos, .int .i64 x.y.t, .int .i64 x.pos, .slice none 0 0, .int .i64 x.q.f, .int .i64 x.q.g, .slice x.qA x.q.os.length x.qc, .slice none 0 0, .slice none 0 0, .slice none 0 0, .slice none 0 0, .slice x.y.bA x.y.base.length x.y.bc, .int .i64 x.y.t, .slice x.y.oA x.y.ops.length x.y.oc, .slice x.y.uA x.y.us.length x.y.uc, .slice x.y.wA x.y.now.length x.y.wc, .slice x.cA x.l.length x.cc, .int .i64 x.inc, .int .i64 x.mode, .int .i64 x.clock, .int .i64 x.sent, .slice x.pA 0 x.pc, .int .i64 x.late], .agg #[.int .i64 k, .int .i64 u, .string s]] w fun e w' => ∃ z : Dw, e = .returned (.tuple #[.agg #[.int .i64 z.node, .int .i64 z.boot, .int .i64 z.above, .int .i64 z.pos, .int .i64 z.y.t, .int .i64 z.pos, .slice none 0 0, .int .i64 z.q.f, .int .i64 z.q.g, .slice z.qA z.q.os.length z.qc, .slice none 0 0, .slice none 0 0, .slice none 0 0, .slice none 0 0, .slice z.y.bA z.y.base.length z.y.bc, .int .i64 z.y.t, .slice z.y.oA z.y.ops.length z.y.oc, .slice z.y.uA z.y.us.length z.y.uc, .slice z.y.wA z.y.now.length z.y.wc, .slice z.cA z.l.length z.cc, .int .i64 z.inc, .int .i64 z.mode, .int .i64 z.clock, .int .i64 z.sent, .slice z.pA 0 z.pc, .int .i64 z.late], .int .i64 n]) ∧ z.ok w' ∧ z.v = Z ∧ Below w.heap.size w w' := by
  subst hv
  have h := H.edit (pl18 m q) x ⟨k, u, s⟩ w 0 (by rw [show x.node = 1 from hn]; exact pl18_d m hq) hr hk hu hs hT hx
  refine h.mono ?_
  rintro e w' ⟨z, n', rfl, hz, he', hb⟩
  have he2 : editD q 16 x.v k u s = (z.v, n') := he'
  rw [he] at he2
  injection he2 with h1 h2
  subst h2
  exact ⟨z, rfl, hz, h1.symm, hb⟩
theorem takeAt (H : DeviceCalls) (m : Nat) (q : Int) (hq : 0 ≤ q ∧ q ≤ 1000) (x : Dw) (f : Fw) (w : World) (hT : inE.Sl w (some ⟨m, 0, none⟩) [-1, 0, 0]) (hx : x.ok w) (hf : f.ok w) {X Z : Dv} {n : Int} (hv : x.v = X) (hr : DvR X) (hn : X.node = 1) (hfd : FrD f.x) (he : takeD 0 X f.x = (Z, n)) :
    Calls Tryz.prog 13 #[.agg #[.slice (some ⟨m, 0, none⟩) 3 3, .int .i64 q, .int .i64 3, .int .i64 2, .int .i64 20, .int .i64 2, .int .i64 32, .int .i64 4, .int .i64 16], .agg #[.int .i64 x.node, .int .i64 x.boot, .int .i64 x.above, .int .i64 x.pos, .int .i64 x.y.t, .int .i64 x.pos, .slice none 0 0, .int .i64 x.q.f, .int .i64 x.q.g, .slice x.qA x.q.os.length x.qc, .slice none 0 0, .slice none 0 0, .slice none 0 0, .slice none 0 0, .slice x.y.bA x.y.base.length x.y.bc, .int .i64 x.y.t, .slice x.y.oA x.y.ops.length x.y.oc, .slice x.y.uA x.y.us.length x.y.uc, .slice x.y.wA x.y.now.length x.y.wc, .slice x.cA x.l.length x.cc, .int .i64 x.inc, .int .i64 x.mode, .int .i64 x.clock, .int .i64 x.sent, .slice x.pA 0 x.pc, .int .i64 x.late], .agg #[.int .i64 f.x.a, .int .i64 f.x.b, .int .i64 f.x.boot, .int .i64 f.x.first, .slice f.oA f.x.os.length f.oc, .int .i64 f.x.pos, .slice f.rA f.x.rs.length f.rc, .int .i64 f.x.start, .slice f.eA f.x.es.length f.ec, .int .i64 f.x.ack, .int .i64 f.x.grant, .int .i64 f.x.s, .int .i64 f.x.t, .slice f.gA f.x.gs.length f.gc]] w fun e w' => ∃ z : Dw, e = .returned (.tuple #[.agg #[.int .i64 z.node, .int .i64 z.boot, .int .i64 z.above, .int .i64 z.pos, .int .i64 z.y.t, .int .i64 z.pos, .slice none 0 0, .int .i64 z.q.f, .int .i64 z.q.g, .slice z.qA z.q.os.length z.qc, .slice none 0 0, .slice none 0 0, .slice none 0 0, .slice none 0 0, .slice z.y.bA z.y.base.length z.y.bc, .int .i64 z.y.t, .slice z.y.oA z.y.ops.length z.y.oc, .slice z.y.uA z.y.us.length z.y.uc, .slice z.y.wA z.y.now.length z.y.wc, .slice z.cA z.l.length z.cc, .int .i64 z.inc, .int .i64 z.mode, .int .i64 z.clock, .int .i64 z.sent, .slice z.pA 0 z.pc, .int .i64 z.late], .int .i64 n]) ∧ z.ok w' ∧ z.v = Z ∧ Below w.heap.size w w' := by
  subst hv
  have h := H.take (pl18 m q) x f w 0 (by rw [show x.node = 1 from hn]; exact pl18_d m hq) hr hfd hT hx hf
  refine h.mono ?_
  rintro e w' ⟨z, n', rfl, hz, he', hb⟩
  rw [he] at he'
  injection he' with h1 h2
  subst h2
  exact ⟨z, rfl, hz, h1.symm, hb⟩
theorem readAt (H : DeviceCalls) (x : Dw) (w : World) (hx : x.ok w) {X : Dv} (hv : x.v = X) (hr : DvR X) (hm : X.mode = 1) {n : Nat} (hn : (showV X.y.now).length = n) :
    Calls Tryz.prog 15 #[.agg #[.int .i64 x.node, .int .i64 x.boot, .int .i64 x.above, .int .i64 x.pos, .int .i64 x.y.t, .int .i64 x.pos, .slice none 0 0, .int .i64 x.q.f, .int .i64 x.q.g, .slice x.qA x.q.os.length x.qc, .slice none 0 0, .slice none 0 0, .slice none 0 0, .slice none 0 0, .slice x.y.bA x.y.base.length x.y.bc, .int .i64 x.y.t, .slice x.y.oA x.y.ops.length x.y.oc, .slice x.y.uA x.y.us.length x.y.uc, .slice x.y.wA x.y.now.length x.y.wc, .slice x.cA x.l.length x.cc, .int .i64 x.inc, .int .i64 x.mode, .int .i64 x.clock, .int .i64 x.sent, .slice x.pA 0 x.pc, .int .i64 x.late]] w fun e w' => ∃ (A : Option Addr) (c : Nat), e = .returned (.tuple #[.slice A n c, .bool true]) ∧ SlV seE w' A c (showV X.y.now) ∧ Below w.heap.size w w' := by
  subst hv
  refine (H.read x w hr hx).mono ?_
  rintro e w' ⟨A, c, l, b, rfl, hS, h, hb⟩
  rcases h with ⟨_, rfl, rfl⟩ | ⟨h, _, _⟩
  · exact ⟨A, c, by rw [← hn]; rfl, hS, hb⟩
  · exact absurd hm h
theorem leaveAt (H : DeviceCalls) (x : Dw) (w : World) (hx : x.ok w) {X : Dv} (hv : x.v = X) (hr : DvR X) :
    Calls Tryz.prog 20 #[.agg #[.int .i64 x.node, .int .i64 x.boot, .int .i64 x.above, .int .i64 x.pos, .int .i64 x.y.t, .int .i64 x.pos, .slice none 0 0, .int .i64 x.q.f, .int .i64 x.q.g, .slice x.qA x.q.os.length x.qc, .slice none 0 0, .slice none 0 0, .slice none 0 0, .slice none 0 0, .slice x.y.bA x.y.base.length x.y.bc, .int .i64 x.y.t, .slice x.y.oA x.y.ops.length x.y.oc, .slice x.y.uA x.y.us.length x.y.uc, .slice x.y.wA x.y.now.length x.y.wc, .slice x.cA x.l.length x.cc, .int .i64 x.inc, .int .i64 x.mode, .int .i64 x.clock, .int .i64 x.sent, .slice x.pA 0 x.pc, .int .i64 x.late]] w fun e w' => ∃ z : Dw, e = .returned (.agg #[.int .i64 z.node, .int .i64 z.boot, .int .i64 z.above, .int .i64 z.pos, .int .i64 z.y.t, .int .i64 z.pos, .slice none 0 0, .int .i64 z.q.f, .int .i64 z.q.g, .slice z.qA z.q.os.length z.qc, .slice none 0 0, .slice none 0 0, .slice none 0 0, .slice none 0 0, .slice z.y.bA z.y.base.length z.y.bc, .int .i64 z.y.t, .slice z.y.oA z.y.ops.length z.y.oc, .slice z.y.uA z.y.us.length z.y.uc, .slice z.y.wA z.y.now.length z.y.wc, .slice z.cA z.l.length z.cc, .int .i64 z.inc, .int .i64 z.mode, .int .i64 z.clock, .int .i64 z.sent, .slice z.pA 0 z.pc, .int .i64 z.late]) ∧ z.ok w' ∧ z.v = leaveD X ∧ Below w.heap.size w w' := by
  subst hv
  exact H.leave x w hr hx
theorem frameAt (H : DeviceCalls) (m : Nat) (q : Int) (hq : 0 ≤ q ∧ q ≤ 1000) (x : Dw) (beat : Int) (hb : i64 beat) (w : World) (hT : inE.Sl w (some ⟨m, 0, none⟩) [-1, 0, 0]) (hx : x.ok w) {X : Dv} (hv : x.v = X) (hr : DvR X) (hn : X.node = 1) :
    Calls Tryz.prog 19 #[.agg #[.slice (some ⟨m, 0, none⟩) 3 3, .int .i64 q, .int .i64 3, .int .i64 2, .int .i64 20, .int .i64 2, .int .i64 32, .int .i64 4, .int .i64 16], .agg #[.int .i64 x.node, .int .i64 x.boot, .int .i64 x.above, .int .i64 x.pos, .int .i64 x.y.t, .int .i64 x.pos, .slice none 0 0, .int .i64 x.q.f, .int .i64 x.q.g, .slice x.qA x.q.os.length x.qc, .slice none 0 0, .slice none 0 0, .slice none 0 0, .slice none 0 0, .slice x.y.bA x.y.base.length x.y.bc, .int .i64 x.y.t, .slice x.y.oA x.y.ops.length x.y.oc, .slice x.y.uA x.y.us.length x.y.uc, .slice x.y.wA x.y.now.length x.y.wc, .slice x.cA x.l.length x.cc, .int .i64 x.inc, .int .i64 x.mode, .int .i64 x.clock, .int .i64 x.sent, .slice x.pA 0 x.pc, .int .i64 x.late], .int .i64 beat] w fun e w' => ∃ f : Fw, e = .returned (.agg #[.int .i64 f.x.a, .int .i64 f.x.b, .int .i64 f.x.boot, .int .i64 f.x.first, .slice f.oA f.x.os.length f.oc, .int .i64 f.x.pos, .slice f.rA f.x.rs.length f.rc, .int .i64 f.x.start, .slice f.eA f.x.es.length f.ec, .int .i64 f.x.ack, .int .i64 f.x.grant, .int .i64 f.x.s, .int .i64 f.x.t, .slice f.gA f.x.gs.length f.gc]) ∧ f.ok w' ∧ f.x = frameD 0 2 X beat ∧ Below w.heap.size w w' := by
  subst hv
  exact H.frame (pl18 m q) x beat w 0 (by rw [show x.node = 1 from hn]; exact pl18_d m hq) hr hb hT hx
theorem vectorAt (H : DeviceCalls) (x : Dw) (w : World) (hx : x.ok w) {X : Dv} (hv : x.v = X) (hr : DvR X) {n : Nat} (hn : (vectorD X).length = n) :
    Calls Tryz.prog 14 #[.agg #[.int .i64 x.node, .int .i64 x.boot, .int .i64 x.above, .int .i64 x.pos, .int .i64 x.y.t, .int .i64 x.pos, .slice none 0 0, .int .i64 x.q.f, .int .i64 x.q.g, .slice x.qA x.q.os.length x.qc, .slice none 0 0, .slice none 0 0, .slice none 0 0, .slice none 0 0, .slice x.y.bA x.y.base.length x.y.bc, .int .i64 x.y.t, .slice x.y.oA x.y.ops.length x.y.oc, .slice x.y.uA x.y.us.length x.y.uc, .slice x.y.wA x.y.now.length x.y.wc, .slice x.cA x.l.length x.cc, .int .i64 x.inc, .int .i64 x.mode, .int .i64 x.clock, .int .i64 x.sent, .slice x.pA 0 x.pc, .int .i64 x.late]] w fun e w' => ∃ (A : Option Addr) (c : Nat), e = .returned (.slice A n c) ∧ SlV cnE w' A c (vectorD X) ∧ Below w.heap.size w w' := by
  subst hv
  refine (H.vector x w hr hx).mono ?_
  rintro e w' ⟨A, c, rfl, hS, hb⟩
  exact ⟨A, c, by rw [← hn], hS, hb⟩
theorem newAt (H : DeviceCalls) (w : World) : Calls Tryz.prog 8 #[.int .i64 1] w fun e w' => ∃ z : Dw, e = .returned (.agg #[.int .i64 z.node, .int .i64 z.boot, .int .i64 z.above, .int .i64 z.pos, .int .i64 z.y.t, .int .i64 z.pos, .slice none 0 0, .int .i64 z.q.f, .int .i64 z.q.g, .slice z.qA z.q.os.length z.qc, .slice none 0 0, .slice none 0 0, .slice none 0 0, .slice none 0 0, .slice z.y.bA z.y.base.length z.y.bc, .int .i64 z.y.t, .slice z.y.oA z.y.ops.length z.y.oc, .slice z.y.uA z.y.us.length z.y.uc, .slice z.y.wA z.y.now.length z.y.wc, .slice z.cA z.l.length z.cc, .int .i64 z.inc, .int .i64 z.mode, .int .i64 z.clock, .int .i64 z.sent, .slice z.pA 0 z.pc, .int .i64 z.late]) ∧ z.ok w' ∧ z.v = newD 1 ∧ Below w.heap.size w w' :=
  H.new 1 w (by omega)
def PnS (n m : Nat) (q : Int) (w : World) : Prop := w.cell? ⟨n, 0, none⟩ = some (.slice (some ⟨m, 0, none⟩) 3 3) ∧ w.cell? ⟨n, 1, none⟩ = some (.int .i64 q) ∧ w.cell? ⟨n, 2, none⟩ = some (.int .i64 3) ∧ w.cell? ⟨n, 3, none⟩ = some (.int .i64 2) ∧ w.cell? ⟨n, 4, none⟩ = some (.int .i64 20) ∧ w.cell? ⟨n, 5, none⟩ = some (.int .i64 2) ∧ w.cell? ⟨n, 6, none⟩ = some (.int .i64 32) ∧ w.cell? ⟨n, 7, none⟩ = some (.int .i64 4) ∧ w.cell? ⟨n, 8, none⟩ = some (.int .i64 16)
theorem pnS_of {n m : Nat} {q : Int} {w : World} (h : pnE.In w n (pl18 m q)) : PnS n m q w := pnIn9 h
/-- A state laid, as a step of a region that draws. -/
theorem step_alloc_dv {ops : Array Oper} {o : Oper} {a : Act} {w : World} {K : Act → World → Prop} {Q : Exit → Act → World → Prop} {E : Prop} (hgd : o.guard = none) (ho : o.op = .alloc 44)
    (h : K (a.put o.dst (.pointer (some ⟨w.heap.size, 0, none⟩))) (w.alloc (.cells #[.int .i64 0, .int .i64 0, .int .i64 0, .int .i64 0, .int .i64 0, .int .i64 0, .slice none 0 0, .int .i64 0, .int .i64 0, .slice none 0 0, .slice none 0 0, .slice none 0 0, .slice none 0 0, .slice none 0 0, .slice none 0 0, .int .i64 0, .slice none 0 0, .slice none 0 0, .slice none 0 0, .slice none 0 0, .int .i64 0, .int .i64 0, .int .i64 0, .int .i64 0, .slice none 0 0, .int .i64 0] 44))) : if Region.wanted o (yielded ops a.tmps) = true then Oper.wp Tryz.prog o a w K Q else E := by
  have hw : Region.wanted o (yielded ops a.tmps) = true := by simp [Region.wanted, hgd]
  rw [if_pos hw]
  have hR := st_zero18
  cases hq : Tryz.prog.info? 44 with
  | none => simp [hq] at hR
  | some inf =>
    have hinf : inf.zero = some (.agg #[.int .i64 0, .int .i64 0, .int .i64 0, .int .i64 0, .int .i64 0, .int .i64 0, .slice none 0 0, .int .i64 0, .int .i64 0, .slice none 0 0, .slice none 0 0, .slice none 0 0, .slice none 0 0, .slice none 0 0, .slice none 0 0, .int .i64 0, .slice none 0 0, .slice none 0 0, .slice none 0 0, .slice none 0 0, .int .i64 0, .int .i64 0, .int .i64 0, .int .i64 0, .slice none 0 0, .int .i64 0]) := by simpa [hq] using hR
    have hv : (Instr.alloc 44 true (.tuple #[])).run Tryz.prog w = .ok (.pointer (some ⟨w.heap.size, 0, none⟩)) (w.alloc (.cells #[.int .i64 0, .int .i64 0, .int .i64 0, .int .i64 0, .int .i64 0, .int .i64 0, .slice none 0 0, .int .i64 0, .int .i64 0, .slice none 0 0, .slice none 0 0, .slice none 0 0, .slice none 0 0, .slice none 0 0, .slice none 0 0, .int .i64 0, .slice none 0 0, .slice none 0 0, .slice none 0 0, .slice none 0 0, .int .i64 0, .int .i64 0, .int .i64 0, .int .i64 0, .slice none 0 0, .int .i64 0] 44)) := by
      simp [Instr.alloc, zeroValue, typeInfo, hq, hinf, newVar, newRow, newObj, Value.cells]
      rfl
    unfold Oper.wp execOp
    simp only [ho, hv, Sem.run_bind, Sem.run_pure, Result.andThen_ok]
    exact h
theorem slOne18 {α : Type} {E : El α} (w : World) (x : α) (cs : Array Value) (hc : cs = (E.c x).toArray) : SlV E (w.alloc (.cells cs E.e)) (some ⟨w.heap.size, 0, none⟩) 1 [x] :=
  ⟨(El.In.new (E := E) w x _ hc).sl, (fun e => by cases e), Nat.le_refl _⟩
theorem inSl_lt {w : World} {m : Nat} {l : List Int} (h : inE.Sl w (some ⟨m, 0, none⟩) l) (h0 : 0 < l.length) : m < w.heap.size := by
  obtain ⟨b, off, e, hb, _⟩ := h h0
  injection e with e
  injection e with e
  omega
theorem inSl_keep {w w' : World} {m n : Nat} {l : List Int} (h : inE.Sl w (some ⟨m, 0, none⟩) l) (hne : m ≠ n) (hg : w.grownBy w' (some n)) : inE.Sl w' (some ⟨m, 0, none⟩) l := h.keep hg (fun a e e2 => by
  have e1 := Option.some.inj e
  subst e1
  exact hne (Option.some.inj e2))
end Go.Proofs.YtdcjffajmckleaaGreatDoor

/- A struct loaded whole by a guarded operation. -/
namespace Go.Proofs.YtdcjffajmckleaaGreatDoor
open Go.RowKit Nam Cod Tre Pst Pln

theorem El.load_if {α : Type} {E : El α} {P : Program} (R : El.Row E P) {ops : Array Oper} {rest : List Oper} {o : Oper} {a : Act} {w : World} {Q : Exit → Act → World → Prop} (hw : Region.wanted o (yielded ops a.tmps) = true) (x : Operand) (ho : o.op = .load E.e x)
    (b off : Nat) (hx : a.eval x = .pointer (some ⟨b, off, none⟩)) (p : α) (hg : E.At w b off p) (cs : Array Value) (hc : cs = (E.c p).toArray)
    (h : wpList P ops Q rest (a.put o.dst (.agg cs)) w) : wpList P ops Q (o :: rest) a w :=
  BigFrame.wpList_want hw fun _ hK => El.wp_load R x ho b off hx p hg cs hc (hK _ _ h)
end Go.Proofs.YtdcjffajmckleaaGreatDoor

/- The law DeviceFollows: its first loop. -/
namespace Go.Proofs.YtdcjffajmckleaaGreatDoor
open Go.RowKit Nam Cod Tre Pst Pln

/-- A list stays where another block is written. -/
theorem SlV.keepY {α : Type} {E : El α} {w w' : World} {A : Option Addr} {c : Nat} {l : List α} {row : Option Nat} (h : SlV E w A c l) (hA : ∀ a, A = some a → l ≠ [] → some a.block ≠ row) (hg : w.grownBy w' row) : SlV E w' A c l := by
  refine ⟨fun h0 => ?_, h.2⟩
  obtain ⟨b1, off, e, hl, hc⟩ := h.1 h0
  have hne : some b1 ≠ row := hA _ e (fun e0 => by rw [e0] at h0; exact absurd h0 (Nat.lt_irrefl _))
  exact ⟨b1, off, e, Nat.lt_of_lt_of_le hl hg.size, fun i hi => (hc i hi).grown hg hne⟩
theorem SlV.lts {α : Type} {E : El α} {w : World} {A : Option Addr} {c : Nat} {l : List α} (h : SlV E w A c l) (a : Addr) (e : A = some a) (h0 : l ≠ []) : a.block < w.heap.size := by
  obtain ⟨b1, off, e2, hl, _⟩ := h.1 (List.length_pos_iff.2 h0)
  rw [e] at e2
  obtain rfl := Option.some.inj e2
  exact hl
/-- A past's lists lie off a row. -/
def OfP (row : Option Nat) (y : Pw) : Prop := ∀ a, ((y.bA = some a ∧ y.base ≠ []) ∨ (y.oA = some a ∧ y.ops ≠ []) ∨ (y.uA = some a ∧ y.us ≠ []) ∨ (y.wA = some a ∧ y.now ≠ [])) → some a.block ≠ row
theorem PastOk.keepO {w w' : World} {y : Pw} {row : Option Nat} (h : PastOk w y) (ho : OfP row y) (hg : w.grownBy w' row) : PastOk w' y :=
  ⟨h.b.keepY (fun a e h0 => ho a (Or.inl ⟨e, h0⟩)) hg, h.o.keepY (fun a e h0 => ho a (Or.inr (Or.inl ⟨e, h0⟩))) hg, h.u.keepY (fun a e h0 => ho a (Or.inr (Or.inr (Or.inl ⟨e, h0⟩)))) hg, h.w.keepY (fun a e h0 => ho a (Or.inr (Or.inr (Or.inr ⟨e, h0⟩)))) hg⟩
theorem OfP.none (y : Pw) : OfP none y := fun a _ e => by cases e
theorem OfP.new {x y : Pw} {row : Option Nat} {n : Nat} (h : OfP row x) (hr : ∀ g, row = some g → g < n) (hn : Nr n x y) : OfP row y := by
  obtain ⟨⟨b1, b2⟩, n2, n3, n4⟩ := hn
  have hf : ∀ {A : Option Addr} {a : Addr}, Frs n A → A = some a → some a.block ≠ row := fun hF e e2 => by
    have h1 := hF _ e
    have h2 := hr _ e2.symm
    omega
  rintro a (⟨e, h0⟩ | ⟨e, h0⟩ | ⟨e, h0⟩ | ⟨e, h0⟩)
  · exact h a (Or.inl ⟨by rw [← b1]; exact e, by rw [← b2]; exact h0⟩)
  · rcases n2 with ⟨e1, e2⟩ | hF
    · exact h a (Or.inr (Or.inl ⟨by rw [← e1]; exact e, by rw [← e2]; exact h0⟩))
    · exact hf hF e
  · rcases n3 with ⟨e1, e2⟩ | hF
    · exact h a (Or.inr (Or.inr (Or.inl ⟨by rw [← e1]; exact e, by rw [← e2]; exact h0⟩)))
    · exact hf hF e
  · rcases n4 with ⟨e1, e2⟩ | hF
    · exact h a (Or.inr (Or.inr (Or.inr ⟨by rw [← e1]; exact e, by rw [← e2]; exact h0⟩)))
    · exact hf hF e
theorem OfP.app {w : World} {y : Pw} {row row' : Option Nat} (h : OfP row y) (hy : PastOk w y) (hr : row' = row ∨ row' = some w.heap.size) : OfP row' y := by
  rcases hr with rfl | rfl
  · exact h
  · rintro a ha e
    have h2 : a.block < w.heap.size := by
      rcases ha with ⟨e, h0⟩ | ⟨e, h0⟩ | ⟨e, h0⟩ | ⟨e, h0⟩
      · exact hy.b.lts a e h0
      · exact hy.o.lts a e h0
      · exact hy.u.lts a e h0
      · exact hy.w.lts a e h0
    have := Option.some.inj e
    omega
def foMs (l : List Mv) : List Mv := l.mapIdx fun i m => foM m i
theorem foMs_len (l : List Mv) : (foMs l).length = l.length := by unfold foMs; rw [List.length_mapIdx]
theorem foMs_next {l : List Mv} {k : Nat} (h : k < l.length) : foMs (l.take (k + 1)) = foMs (l.take k) ++ [foM l[k] k] := by
  unfold foMs
  rw [List.take_succ_eq_append_getElem h, List.mapIdx_concat, List.length_take, Nat.min_eq_left (Nat.le_of_lt h)]
theorem FoL.nil : FoL [] where
  len := Nat.zero_le _
  at' i hi := absurd hi (Nat.not_lt_zero _)
  ok m hm := by cases hm
theorem FoL.next {l : List Mv} {k : Nat} (h : k < l.length) (hl : l.length ≤ 30) (hf : FoL (foMs (l.take k))) (ho : (foM l[k] k).ok) : FoL (foMs (l.take (k + 1))) := by
  have hlen : (foMs (l.take k)).length = k := by rw [foMs_len, List.length_take, Nat.min_eq_left (Nat.le_of_lt h)]
  rw [foMs_next h]
  refine ⟨by rw [List.length_append, hlen, List.length_singleton]; omega, fun i hi => ?_, fun m hm => ?_⟩
  · rcases Nat.lt_or_ge i k with h1 | h1
    · rw [List.getElem_append_left (by rw [hlen]; exact h1)]
      exact hf.at' i (by rw [hlen]; exact h1)
    · rw [List.length_append, hlen, List.length_singleton] at hi
      obtain rfl : i = k := by omega
      rw [List.getElem_append_right (by rw [hlen]; exact Nat.le_refl _)]
      simp only [hlen, Nat.sub_self, List.getElem_cons_zero]
      exact ⟨rfl, rfl, rfl, rfl⟩
  · rcases List.mem_append.1 hm with h1 | h1
    · exact hf.ok m h1
    · rw [List.mem_singleton] at h1; rw [h1]; exact ho
end Go.Proofs.YtdcjffajmckleaaGreatDoor
