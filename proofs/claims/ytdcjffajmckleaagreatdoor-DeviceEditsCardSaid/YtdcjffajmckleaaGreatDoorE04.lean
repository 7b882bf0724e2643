/- Texts laid one behind the other: Wc, Wd, We, Wf, Wg, Wh, Vk, Wi, Wr, Tf, Tg, Vl, Vi, Xe, Pa, Pb, Pj, Rf, Rg, Rj. -/
import Derived.Test.YtdcjffajmckleaaGreatDoorE03
import Derived.Deep.RegionHeld3
import Derived.Lib.Builder
import Derived.Lib.AppendStr
import Derived.Lib.MinMax
import Derived.Deep.CutRange
import Derived.Lib.QuietBelow
import Derived.BigQuiet
/- Where an operation of a moment stands, and whether it does; a past in new memory; whether each has its undo. -/
namespace Go.Proofs.YtdcjffajmckleaaGreatDoor
open Go.RowKit Tre Cod Pst

set_option maxRecDepth 100000 in
set_option maxHeartbeats 1000000 in
theorem pfind_any (A : Option Addr) (c : Nat) (l : List Mv) (m : Mv) (w : World) (hr : Ris Mv.C Mv.D l) (hl : l.length ≤ 1000) (hT : opE.Sl w A l) :
    Calls Tryz.prog 48 #[.slice A l.length c, .agg #[.int .i64 m.C, .int .i64 m.D]] w fun e w' => e = .returned (.tuple #[.int .i64 (pos Mv.C Mv.D l m), .bool (has Mv.C Mv.D l m)]) ∧ Below w.heap.size w w' := by
  have hB := below_alloc (below_alloc (Below.refl w.heap.size w) (.cells #[.slice A l.length c] 31)) (.cells #[.int .i64 m.C, .int .i64 m.D] 53)
  have hTW := hT.below hB
  have c1 : ((w.alloc (.cells #[.slice A l.length c] 31)).alloc (.cells #[.int .i64 m.C, .int .i64 m.D] 53)).cell? ⟨w.heap.size, 0, none⟩ = some (.slice A l.length c) := by go_simp
  have c2 : ((w.alloc (.cells #[.slice A l.length c] 31)).alloc (.cells #[.int .i64 m.C, .int .i64 m.D] 53)).cell? ⟨w.heap.size + 1, 0, none⟩ = some (.int .i64 m.C) := by go_simp
  have c3 : ((w.alloc (.cells #[.slice A l.length c] 31)).alloc (.cells #[.int .i64 m.C, .int .i64 m.D] 53)).cell? ⟨w.heap.size + 1, 1, none⟩ = some (.int .i64 m.D) := by go_simp
  have hsz : ((w.alloc (.cells #[.slice A l.length c] 31)).alloc (.cells #[.int .i64 m.C, .int .i64 m.D] 53)).heap.size = w.heap.size + 1 + 1 := by rw [alloc_size, alloc_size]
  go_enter Tryz.func48, Tryz.ntmps48
  go_wp2_with fail
  generalize ((w.alloc (.cells #[.slice A l.length c] 31)).alloc (.cells #[.int .i64 m.C, .int .i64 m.D] 53)) = W at *
  obtain ⟨n1, h1⟩ : ∃ n, w.heap.size + 1 = n := ⟨_, rfl⟩
  rw [h1] at c2 c3 ⊢
  obtain ⟨n0, h0⟩ : ∃ n, w.heap.size = n := ⟨_, rfl⟩
  rw [h0] at c1 ⊢
  have hn0 : n0 < W.heap.size := by omega
  have hn1 : n1 < W.heap.size := by omega
  have CS := search1_any l.length n0 n1 (fun i => if h : i < l.length then !befB l[i].C l[i].D m.C m.D else true) W hl
    (fun i j hij hj hpi => by
      rw [dif_pos (show i < l.length by omega)] at hpi
      rw [dif_pos hj]
      by_cases e : i = j
      · subst e; exact hpi
      · have h3 := ris_get hr (show i < l.length by omega) hj (by omega)
        rw [bef_iff] at hpi ⊢
        rw [Bool.not_eq_true', decide_eq_false_iff_not] at hpi ⊢
        exact fun h4 => hpi (bef_trans h3 h4))
    (fun i w' hi hb => by
      have := findAt_any i A c l m.C m.D n0 n1 w' (by rw [(bcell hb).1 _ _ hn0]; exact c1) (by rw [(bcell hb).1 _ _ hn1]; exact c2) (by rw [(bcell hb).1 _ _ hn1]; exact c3) (hTW.below hb) hi hl
      rw [dif_pos hi]; exact this)
  refine CS.mono ?_
  rintro e w1 ⟨k, rfl, hk, hlo, hhi, hb1⟩
  have hpos : k = pos Mv.C Mv.D l m := find_pos hr hk (fun i h hik => by have := hlo i hik; rw [dif_pos h] at this; simpa using this) (fun i h hki => by have := hhi i hki h; rw [dif_pos h] at this; simpa using this)
  have d1 : w1.cell? ⟨n0, 0, none⟩ = some (.slice A l.length c) := by rw [(bcell hb1).1 _ _ hn0]; exact c1
  have d2 : w1.cell? ⟨n1, 0, none⟩ = some (.int .i64 m.C) := by rw [(bcell hb1).1 _ _ hn1]; exact c2
  have d3 : w1.cell? ⟨n1, 1, none⟩ = some (.int .i64 m.D) := by rw [(bcell hb1).1 _ _ hn1]; exact c3
  have hT1 := hTW.below hb1
  have hB1 := hB.trans (hb1.mono (by omega))
  clear CS hlo hhi c1 c2 c3 hTW hB
  by_cases hkl : k < l.length
  · obtain ⟨b, off, rfl, hbw, hc⟩ := hT1 (by omega)
    have hat : opE.At w1 b (off + k * 7) _ := hc k hkl
    obtain ⟨x, hx⟩ : ∃ x, l[k] = x := ⟨_, rfl⟩
    rw [hx] at hat
    have hh := has_at hpos hkl hx
    obtain ⟨t0, t1, t2, t3, t4, t5, t6⟩ := opAt hat
    have HP := Lib.hid hpos
    have HH := Lib.hid hh
    clear hc hat hx t2 t3 t4 t5 t6 hpos hh hr hT hl
    by_cases hs : x.C = m.C ∧ x.D = m.D
    · obtain ⟨e1, e2⟩ := hs
      go_wp2_with fail
      go_region
      all_goals go_wp2
      all_goals go_ret2
      all_goals exact ⟨by rw [← HP.out, HH.out, decide_eq_true ⟨e1, e2⟩]; rfl, hB1.drew⟩
    · have hun : (x.C == m.C) = false ∨ (x.C = m.C ∧ (x.D == m.D) = false) := by
        by_cases e : x.C = m.C
        · right; exact ⟨e, beq_eq_false_iff_ne.2 fun e2 => hs ⟨e, e2⟩⟩
        · left; exact beq_eq_false_iff_ne.2 e
      have HS := Lib.hid hs
      clear hs
      rcases hun with hun | ⟨hun1, hun⟩
      all_goals
        go_wp2_with fail
        go_region
        all_goals go_wp2
        all_goals go_ret2
        all_goals exact ⟨by rw [← HP.out, HH.out, decide_eq_false HS.out]; rfl, hB1.drew⟩
  · obtain rfl : k = l.length := by omega
    have HP := Lib.hid hpos
    have HH := Lib.hid (has_end hpos.symm)
    clear hpos hr hT hl
    go_wp2_with fail
    go_region
    all_goals go_wp2
    all_goals go_ret2
    all_goals exact ⟨by rw [← HP.out, HH.out]; rfl, hB1.drew⟩

theorem even_any (x : Pw) (w : World) (h : x.us.length = x.ops.length) :
    Calls Tryz.prog 49 #[.agg #[.slice x.bA x.base.length x.bc, .int .i64 x.t, .slice x.oA x.ops.length x.oc, .slice x.uA x.us.length x.uc, .slice x.wA x.now.length x.wc]] w fun e w' => e = .returned (.bool true) ∧ Below w.heap.size w w' := by
  obtain ⟨bA, bc, base, t, oA, oc, ops, uA, uc, us, wA, wc, now⟩ := x
  simp only at h
  go_enter Tryz.func49, Tryz.ntmps49
  go_wp2
  go_ret
  exact ⟨by simp [h], below_alloc (Below.refl _ _) _⟩
end Go.Proofs.YtdcjffajmckleaaGreatDoor

/- A past in new memory. -/
namespace Go.Proofs.YtdcjffajmckleaaGreatDoor
open Go.RowKit Tre Cod Pst

section
variable {P : Program} {ops : Array Oper} {Q : Exit → Act → World → Prop} {md : Region.Mode} {S : World → Prop} {n : Nat}
/-- An operation behind number n: nothing is asked. -/
theorem AllG.after {fuel : Nat} {listed : Array Bool} {a : Act} {w : World} {i : Nat} {o : Oper} {rs : List Nat} (ho : ops.toList[i]? = some o) (hn : (listed.setIfInBounds i true).getD n true = true)
    (h : ∀ K : Act → World → Prop, RowKit.Hid (∀ b v, anyG P md ops Q S n fuel (listed.setIfInBounds i true) b v → K b v) → if Region.wanted o (yielded ops a.tmps) = true then Oper.wp P o a w K Q else K (a.put o.dst undef) w)
    (hs : AllG P md ops Q S n fuel listed a w rs) : AllG P md ops Q S n fuel listed a w (i :: rs) := fun j hj => by
  rcases List.mem_cons.1 hj with rfl | hj
  · exact wpOp_step (by rw [← Array.getElem?_toList]; exact ho) (fun K hK => h K (Lib.hid fun b v hW => hK b v ⟨fun e => (by rw [hn] at e; cases e), hW⟩))
  · exact hs j hj
theorem anyG_plain_after {i : Nat} {oi : Oper} {v : Value} {fuel : Nat} {listed : Array Bool} {a : Act} {w : World} (hi : ops.toList[i]? = some oi)
    (hin : (i == n) = false) (hs : Region.noSelect ops = true) (hf : Region.free md ops listed i = true) (hr : (Region.ready md ops listed).contains i = true)
    (hQ : ∀ c a w, Q (.panic c) (a.put oi.dst v) w → Q (.panic c) a w) (hy : Yields P ops oi v a) (hn : listed.getD n true = true)
    (h : anyG P md ops Q S n fuel (listed.setIfInBounds i true) (a.put oi.dst v) w) : anyG P md ops Q S n (fuel + 1) listed a w :=
  anyG_plain hi hin hs hf hr hQ hy (fun e => by rw [hn] at e; cases e) h
end

/-- Its slices are the call's own. -/
structure PFrs (B : Nat) (y : Pw) : Prop where
  b : Frs B y.bA
  o : Frs B y.oA
  u : Frs B y.uA
  w : Frs B y.wA
theorem PFrs.mono {B C : Nat} {y : Pw} (h : PFrs C y) (hb : B ≤ C) : PFrs B y := ⟨h.b.mono hb, h.o.mono hb, h.u.mono hb, h.w.mono hb⟩
/-- A block ahead of them is written: they stay. -/
theorem PastOk.keep {w w' : World} {y : Pw} {B b : Nat} (h : PastOk w y) (hf : PFrs B y) (hg : w.grownBy w' (some b)) (hb : b < B) : PastOk w' y :=
  ⟨h.b.keep hf.b hg hb, h.o.keep hf.o hg hb, h.u.keep hf.u hg hb, h.w.keep hf.w hg hb⟩
def Two (n0 i j : Nat) (u v : Value) (w : World) : Prop := w.cell? ⟨n0, i, none⟩ = some u ∧ w.cell? ⟨n0, j, none⟩ = some v

set_option maxRecDepth 100000 in
set_option maxHeartbeats 4000000 in
theorem psame_any (x : Pw) (w : World) (hx : PastOk w x) (hl1 : x.base.length ≤ 50000) (hl2 : x.ops.length ≤ 50000) (hl3 : x.us.length ≤ 50000) (hl4 : x.now.length ≤ 50000) :
    Calls Tryz.prog 50 #[.agg #[.slice x.bA x.base.length x.bc, .int .i64 x.t, .slice x.oA x.ops.length x.oc, .slice x.uA x.us.length x.uc, .slice x.wA x.now.length x.wc]] w fun e w' => ∃ y : Pw, e = .returned (.agg #[.slice y.bA y.base.length y.bc, .int .i64 y.t, .slice y.oA y.ops.length y.oc, .slice y.uA y.us.length y.uc, .slice y.wA y.now.length y.wc]) ∧ PastOk w' y ∧ y.v = x.v ∧ PFrs w.heap.size y ∧ Below w.heap.size w w' := by
  obtain ⟨bA, bc, base, t, oA, oc, ops, uA, uc, us, wA, wc, now⟩ := x
  simp only at hl1 hl2 hl3 hl4
  have hP : pwE.In ((w.alloc (.cells #[.slice bA base.length bc, .int .i64 t, .slice oA ops.length oc, .slice uA us.length uc, .slice wA now.length wc] 40)).alloc (.cells #[.slice none 0 0, .int .i64 0, .slice none 0 0, .slice none 0 0, .slice none 0 0] 40)) w.heap.size (⟨bA, bc, base, t, oA, oc, ops, uA, uc, us, wA, wc, now⟩ : Pw) := (El.In.new (E := pwE) w (⟨bA, bc, base, t, oA, oc, ops, uA, uc, us, wA, wc, now⟩ : Pw) _ rfl).alloc _
  have hR : pwE.In ((w.alloc (.cells #[.slice bA base.length bc, .int .i64 t, .slice oA ops.length oc, .slice uA us.length uc, .slice wA now.length wc] 40)).alloc (.cells #[.slice none 0 0, .int .i64 0, .slice none 0 0, .slice none 0 0, .slice none 0 0] 40)) (w.heap.size + 1) Pw.zero := by
    have h := El.In.new (E := pwE) (w.alloc (.cells #[.slice bA base.length bc, .int .i64 t, .slice oA ops.length oc, .slice uA us.length uc, .slice wA now.length wc] 40)) Pw.zero #[.slice none 0 0, .int .i64 0, .slice none 0 0, .slice none 0 0, .slice none 0 0] rfl
    rw [alloc_size] at h; exact h
  have hB := below_alloc (below_alloc (Below.refl w.heap.size w) (.cells #[.slice bA base.length bc, .int .i64 t, .slice oA ops.length oc, .slice uA us.length uc, .slice wA now.length wc] 40)) (.cells #[.slice none 0 0, .int .i64 0, .slice none 0 0, .slice none 0 0, .slice none 0 0] 40)
  have hx0 := hx.below hB
  have HL := Lib.hid hx
  clear hx
  go_enter Tryz.func50, Tryz.ntmps50
  go_wp2_with fail
  replace hP := hP
  refine region_anyG (S := Two w.heap.size 0 2 (.slice bA base.length bc) (.slice oA ops.length oc)) 7 (by kernel_rfl) ?_
  replace hx0 := hx0.below (Below.refl _ _).drew
  replace hB := hB.drew
  replace hP : pwE.In ((w.alloc (.cells #[.slice bA base.length bc, .int .i64 t, .slice oA ops.length oc, .slice uA us.length uc, .slice wA now.length wc] 40)).alloc (.cells #[.slice none 0 0, .int .i64 0, .slice none 0 0, .slice none 0 0, .slice none 0 0] 40)).drew w.heap.size (⟨bA, bc, base, t, oA, oc, ops, uA, uc, us, wA, wc, now⟩ : Pw) := hP
  replace hR : pwE.In ((w.alloc (.cells #[.slice bA base.length bc, .int .i64 t, .slice oA ops.length oc, .slice uA us.length uc, .slice wA now.length wc] 40)).alloc (.cells #[.slice none 0 0, .int .i64 0, .slice none 0 0, .slice none 0 0, .slice none 0 0] 40)).drew (w.heap.size + 1) Pw.zero := hR
  generalize ((w.alloc (.cells #[.slice bA base.length bc, .int .i64 t, .slice oA ops.length oc, .slice uA us.length uc, .slice wA now.length wc] 40)).alloc (.cells #[.slice none 0 0, .int .i64 0, .slice none 0 0, .slice none 0 0, .slice none 0 0] 40)).drew = W at *
  obtain ⟨n1, h1⟩ : ∃ n, w.heap.size + 1 = n := ⟨_, rfl⟩
  rw [h1] at hR ⊢
  obtain ⟨n0, h0⟩ : ∃ n, w.heap.size = n := ⟨_, rfl⟩
  have HN := Lib.hid (show w.heap.size ≤ n0 ∧ n1 = n0 + 1 by omega)
  have hn10 : n1 ≠ n0 := by omega
  rw [h0] at hP ⊢
  clear h0 h1
  obtain ⟨hxb, hxo, hxu, hxw⟩ := hx0
  simp only at hxb hxo hxu hxw
  have hS : Two n0 0 2 (.slice bA base.length bc) (.slice oA ops.length oc) W := ⟨(pwIn5 hP).1, (pwIn5 hP).2.2.1⟩
  refine anyG_take (i := 0) (v := .pointer (some ⟨n0, 0, none⟩)) rfl (by kernel_rfl) (by kernel_rfl) (by kernel_rfl) (by kernel_rfl) (by kernel_rfl) (fun _ _ _ h => h) (Or.inl ⟨by rfl, fun w' hSw => by (obtain ⟨s0, s1⟩ := hSw; go_simp)⟩) hS ?_
  try simp only [Act.put, List.setIfInBounds_toArray, List.set_cons_zero, List.set_cons_succ]
  refine anyG_take (i := 1) (v := .slice bA base.length bc) rfl (by kernel_rfl) (by kernel_rfl) (by kernel_rfl) (by kernel_rfl) (by kernel_rfl) (fun _ _ _ h => h) (Or.inl ⟨by rfl, fun w' hSw => by (obtain ⟨s0, s1⟩ := hSw; go_simp)⟩) hS ?_
  try simp only [Act.put, List.setIfInBounds_toArray, List.set_cons_zero, List.set_cons_succ]
  refine anyG_take (i := 3) (v := .pointer (some ⟨n0, 2, none⟩)) rfl (by kernel_rfl) (by kernel_rfl) (by kernel_rfl) (by kernel_rfl) (by kernel_rfl) (fun _ _ _ h => h) (Or.inl ⟨by rfl, fun w' hSw => by (obtain ⟨s0, s1⟩ := hSw; go_simp)⟩) hS ?_
  try simp only [Act.put, List.setIfInBounds_toArray, List.set_cons_zero, List.set_cons_succ]
  refine anyG_take (i := 4) (v := .slice oA ops.length oc) rfl (by kernel_rfl) (by kernel_rfl) (by kernel_rfl) (by kernel_rfl) (by kernel_rfl) (fun _ _ _ h => h) (Or.inl ⟨by rfl, fun w' hSw => by (obtain ⟨s0, s1⟩ := hSw; go_simp)⟩) hS ?_
  try simp only [Act.put, List.setIfInBounds_toArray, List.set_cons_zero, List.set_cons_succ]
  refine anyG_step (rs := [2]) (by kernel_rfl) (by simp) ?_
  refine AllG.cons rfl (fun K hK => ?_) AllG.nil
  have C1 := clonePl_any bA bc base W hl1 hxb
  go_simp
  refine C1.mono ?_
  rintro e W1 ⟨A1, c1, rfl, hS1, hf1, hb1⟩
  clear C1
  have hP1 := hP.below hb1
  have hR1 := hR.below hb1
  replace hxo := hxo.below hb1
  replace hxu := hxu.below hb1
  replace hxw := hxw.below hb1
  clear hS
  have hS : Two n0 0 2 (.slice bA base.length bc) (.slice oA ops.length oc) W1 := ⟨(pwIn5 hP1).1, (pwIn5 hP1).2.2.1⟩
  try go_wp2_with fail
  refine hK.out _ _ hS ?_
  try simp only [Act.put, List.setIfInBounds_toArray, List.set_cons_zero, List.set_cons_succ]
  refine anyG_plain (i := 6) (v := .pointer (some ⟨n0, 0, none⟩)) rfl (by kernel_rfl) (by kernel_rfl) (by kernel_rfl) (by kernel_rfl) (fun _ _ _ h => h) (Or.inl ⟨by rfl, fun w' => by go_simp⟩) (fun _ => hS) ?_
  try simp only [Act.put, List.setIfInBounds_toArray, List.set_cons_zero, List.set_cons_succ]
  refine anyG_step (rs := [5]) (by kernel_rfl) (by simp) ?_
  refine AllG.cons rfl (fun K hK => ?_) AllG.nil
  have C2 := cloneOp_any oA oc ops W1 hl2 hxo
  go_simp
  refine C2.mono ?_
  rintro e W2 ⟨A2, c2, rfl, hS2, hf2, hb2⟩
  clear C2
  have hP2 := hP1.below hb2
  have hR2 := hR1.below hb2
  replace hxu := hxu.below hb2
  replace hxw := hxw.below hb2
  replace hS1 := hS1.below hb2
  have hB2 := hB.trans ((below_then hb1 hb2).mono (by have := hB.size; omega))
  have hl0 := hP.lt
  have hl1' := hP1.lt
  have hwW : w.heap.size ≤ W.heap.size ∧ w.heap.size ≤ W1.heap.size := ⟨hB.size, by have := hB.size; have := hb1.size; omega⟩
  have hlW : n1 < W.heap.size ∧ n1 < W1.heap.size := ⟨hR.lt, hR1.lt⟩
  clear hS
  have hS : Two n0 0 2 (.slice bA base.length bc) (.slice oA ops.length oc) W2 := ⟨(pwIn5 hP2).1, (pwIn5 hP2).2.2.1⟩
  try go_wp2_with fail
  refine hK.out _ _ hS ?_
  try simp only [Act.put, List.setIfInBounds_toArray, List.set_cons_zero, List.set_cons_succ]
  refine anyG_step (rs := [7]) (by kernel_rfl) (by simp) ?_
  refine AllG.last (n := 7) rfl (fun K hK => ?_)
  obtain ⟨q0, q1, q2, q3, q4⟩ := pwIn5 hP2
  have qf := hP2.frozen
  go_simp
  refine hK.out _ _ ?_
  try simp only [Act.put, List.setIfInBounds_toArray, List.set_cons_zero, List.set_cons_succ]
  clear q0 q1 q2 q3 q4 qf hS hK
  have hP3 := hP2.put ⟨A1, c1, base, t, oA, oc, ops, uA, uc, us, wA, wc, now⟩ 0 (.slice A1 base.length c1) rfl
  have hg3 := by_cell W2 n0 0 (.slice A1 base.length c1)
  have hR3 := hR2.other n0 0 (.slice A1 base.length c1) hn10
  refine anyG_plain_after (i := 8) (v := .pointer (some ⟨n0, 2, none⟩)) rfl (by kernel_rfl) (by kernel_rfl) (by kernel_rfl) (by kernel_rfl) (fun _ _ _ h => h) (Or.inl ⟨by rfl, fun w' => by go_simp⟩) (by kernel_rfl) ?_
  try simp only [Act.put, List.setIfInBounds_toArray, List.set_cons_zero, List.set_cons_succ]
  refine anyG_step (rs := [9]) (by kernel_rfl) (by simp) ?_
  refine AllG.after rfl (by kernel_rfl) (fun K hK => ?_) AllG.nil
  obtain ⟨q0, q1, q2, q3, q4⟩ := pwIn5 hP3
  have qf := hP3.frozen
  go_simp
  refine hK.out _ _ ?_
  try simp only [Act.put, List.setIfInBounds_toArray, List.set_cons_zero, List.set_cons_succ]
  clear q0 q1 q2 q3 q4 qf hK
  refine anyG_done (by kernel_rfl) ?_ _
  have hP4 := hP3.put ⟨A1, c1, base, t, A2, c2, ops, uA, uc, us, wA, wc, now⟩ 2 (.slice A2 ops.length c2) rfl
  have hg4 := by_cell2 hg3 2 (.slice A2 ops.length c2)
  have hR4 := hR3.other n0 2 (.slice A2 ops.length c2) hn10
  have hB4 := hB2.grown hg4 hB2.size (fun j e => by have := Option.some.inj e; have := HN.out; omega)
  have hS41 := hS1.keep hf1 hg4 hl0
  have hS42 := hS2.keep hf2 hg4 hl1'
  generalize (W2.setCell ⟨n0, 0, none⟩ (.slice A1 base.length c1)).setCell ⟨n0, 2, none⟩ (.slice A2 ops.length c2) = V at *
  clear hg3 hg4 hP3 hR3 hxb hxo hxu hxw hP2 hR2 hP1 hR1 hP hR hS1 hS2 hB2 hB hb1 hb2
  obtain ⟨hxb, hxo, hxu, hxw⟩ := HL.out.below hB4
  simp only at hxb hxo hxu hxw
  have hl0w := hP4.lt
  have hl1w := hR4.lt
  go_wp2_with fail
  refine region_anyG (S := Two n0 3 4 (.slice uA us.length uc) (.slice wA now.length wc)) 7 (by kernel_rfl) ?_
  replace hP : pwE.In V.drew n0 ⟨A1, c1, base, t, A2, c2, ops, uA, uc, us, wA, wc, now⟩ := hP4
  replace hR : pwE.In V.drew n1 Pw.zero := hR4
  replace hxu : SlV unE V.drew uA uc us := hxu
  replace hxw : SlV plE V.drew wA wc now := hxw
  replace hS41 : SlV plE V.drew A1 c1 base := hS41
  replace hS42 : SlV opE V.drew A2 c2 ops := hS42
  replace hB := hB4.drew
  replace hl0w : n0 < V.drew.heap.size := hl0w
  replace hl1w : n1 < V.drew.heap.size := hl1w
  clear hP4 hR4 hB4 hxb hxo
  generalize V.drew = V at *
  have hS : Two n0 3 4 (.slice uA us.length uc) (.slice wA now.length wc) V := ⟨(pwIn5 hP).2.2.2.1, (pwIn5 hP).2.2.2.2⟩
  refine anyG_take (i := 0) (v := .pointer (some ⟨n0, 3, none⟩)) rfl (by kernel_rfl) (by kernel_rfl) (by kernel_rfl) (by kernel_rfl) (by kernel_rfl) (fun _ _ _ h => h) (Or.inl ⟨by rfl, fun w' hSw => by (obtain ⟨s0, s1⟩ := hSw; go_simp)⟩) hS ?_
  try simp only [Act.put, List.setIfInBounds_toArray, List.set_cons_zero, List.set_cons_succ]
  refine anyG_take (i := 1) (v := .slice uA us.length uc) rfl (by kernel_rfl) (by kernel_rfl) (by kernel_rfl) (by kernel_rfl) (by kernel_rfl) (fun _ _ _ h => h) (Or.inl ⟨by rfl, fun w' hSw => by (obtain ⟨s0, s1⟩ := hSw; go_simp)⟩) hS ?_
  try simp only [Act.put, List.setIfInBounds_toArray, List.set_cons_zero, List.set_cons_succ]
  refine anyG_take (i := 3) (v := .pointer (some ⟨n0, 4, none⟩)) rfl (by kernel_rfl) (by kernel_rfl) (by kernel_rfl) (by kernel_rfl) (by kernel_rfl) (fun _ _ _ h => h) (Or.inl ⟨by rfl, fun w' hSw => by (obtain ⟨s0, s1⟩ := hSw; go_simp)⟩) hS ?_
  try simp only [Act.put, List.setIfInBounds_toArray, List.set_cons_zero, List.set_cons_succ]
  refine anyG_take (i := 4) (v := .slice wA now.length wc) rfl (by kernel_rfl) (by kernel_rfl) (by kernel_rfl) (by kernel_rfl) (by kernel_rfl) (fun _ _ _ h => h) (Or.inl ⟨by rfl, fun w' hSw => by (obtain ⟨s0, s1⟩ := hSw; go_simp)⟩) hS ?_
  try simp only [Act.put, List.setIfInBounds_toArray, List.set_cons_zero, List.set_cons_succ]
  refine anyG_step (rs := [2]) (by kernel_rfl) (by simp) ?_
  refine AllG.cons rfl (fun K hK => ?_) AllG.nil
  have C3 := cloneUn_any uA uc us V hl3 hxu
  go_simp
  refine C3.mono ?_
  rintro e W5 ⟨A3, c3, rfl, hS3, hf3, hb5⟩
  clear C3
  have hP5 := hP.below hb5
  have hR5 := hR.below hb5
  replace hxw := hxw.below hb5
  replace hS41 := hS41.below hb5
  replace hS42 := hS42.below hb5
  clear hS
  have hS : Two n0 3 4 (.slice uA us.length uc) (.slice wA now.length wc) W5 := ⟨(pwIn5 hP5).2.2.2.1, (pwIn5 hP5).2.2.2.2⟩
  try go_wp2_with fail
  refine hK.out _ _ hS ?_
  try simp only [Act.put, List.setIfInBounds_toArray, List.set_cons_zero, List.set_cons_succ]
  refine anyG_plain (i := 6) (v := .pointer (some ⟨n0, 3, none⟩)) rfl (by kernel_rfl) (by kernel_rfl) (by kernel_rfl) (by kernel_rfl) (fun _ _ _ h => h) (Or.inl ⟨by rfl, fun w' => by go_simp⟩) (fun _ => hS) ?_
  try simp only [Act.put, List.setIfInBounds_toArray, List.set_cons_zero, List.set_cons_succ]
  refine anyG_step (rs := [5]) (by kernel_rfl) (by simp) ?_
  refine AllG.cons rfl (fun K hK => ?_) AllG.nil
  have C4 := clonePl_any wA wc now W5 hl4 hxw
  go_simp
  refine C4.mono ?_
  rintro e W6 ⟨A4, c4, rfl, hS4, hf4, hb6⟩
  clear C4
  have hP6 := hP5.below hb6
  have hR6 := hR5.below hb6
  replace hS41 := hS41.below hb6
  replace hS42 := hS42.below hb6
  replace hS3 := hS3.below hb6
  have hB6 := hB.trans ((below_then hb5 hb6).mono (by have := hB.size; omega))
  have hl5 := hP5.lt
  have hl51 := hR5.lt
  clear hS
  have hS : Two n0 3 4 (.slice uA us.length uc) (.slice wA now.length wc) W6 := ⟨(pwIn5 hP6).2.2.2.1, (pwIn5 hP6).2.2.2.2⟩
  try go_wp2_with fail
  refine hK.out _ _ hS ?_
  try simp only [Act.put, List.setIfInBounds_toArray, List.set_cons_zero, List.set_cons_succ]
  refine anyG_step (rs := [7]) (by kernel_rfl) (by simp) ?_
  refine AllG.last (n := 7) rfl (fun K hK => ?_)
  obtain ⟨q0, q1, q2, q3, q4⟩ := pwIn5 hP6
  have qf := hP6.frozen
  go_simp
  refine hK.out _ _ ?_
  try simp only [Act.put, List.setIfInBounds_toArray, List.set_cons_zero, List.set_cons_succ]
  clear q0 q1 q2 q3 q4 qf hS hK
  have hP7 := hP6.put ⟨A1, c1, base, t, A2, c2, ops, A3, c3, us, wA, wc, now⟩ 3 (.slice A3 us.length c3) rfl
  have hg7 := by_cell W6 n0 3 (.slice A3 us.length c3)
  have hR7 := hR6.other n0 3 (.slice A3 us.length c3) hn10
  refine anyG_plain_after (i := 8) (v := .pointer (some ⟨n0, 4, none⟩)) rfl (by kernel_rfl) (by kernel_rfl) (by kernel_rfl) (by kernel_rfl) (fun _ _ _ h => h) (Or.inl ⟨by rfl, fun w' => by go_simp⟩) (by kernel_rfl) ?_
  try simp only [Act.put, List.setIfInBounds_toArray, List.set_cons_zero, List.set_cons_succ]
  refine anyG_step (rs := [9]) (by kernel_rfl) (by simp) ?_
  refine AllG.after rfl (by kernel_rfl) (fun K hK => ?_) AllG.nil
  obtain ⟨q0, q1, q2, q3, q4⟩ := pwIn5 hP7
  have qf := hP7.frozen
  go_simp
  refine hK.out _ _ ?_
  try simp only [Act.put, List.setIfInBounds_toArray, List.set_cons_zero, List.set_cons_succ]
  clear q0 q1 q2 q3 q4 qf hK
  refine anyG_done (by kernel_rfl) ?_ _
  have hP8 := hP7.put ⟨A1, c1, base, t, A2, c2, ops, A3, c3, us, A4, c4, now⟩ 4 (.slice A4 now.length c4) rfl
  have hg8 := by_cell2 hg7 4 (.slice A4 now.length c4)
  have hR8 := hR7.other n0 4 (.slice A4 now.length c4) hn10
  have hB8 := hB6.grown hg8 hB6.size (fun j e => by have := Option.some.inj e; have := HN.out; omega)
  have hf1' : Frs W.heap.size A1 := hf1
  have h81 : SlV plE ((W6.setCell ⟨n0, 3, none⟩ (.slice A3 us.length c3)).setCell ⟨n0, 4, none⟩ (.slice A4 now.length c4)) A1 c1 base := hS41.keep hf1 hg8 hl0
  have h82 := hS42.keep hf2 hg8 hl1'
  have h83 := hS3.keep hf3 hg8 hl0w
  have h84 := hS4.keep hf4 hg8 hl5
  have hlz : n1 < W.heap.size ∧ n1 < W1.heap.size := by
    refine ⟨?_, ?_⟩
    · exact hlW.1
    · exact hlW.2
  generalize (W6.setCell ⟨n0, 3, none⟩ (.slice A3 us.length c3)).setCell ⟨n0, 4, none⟩ (.slice A4 now.length c4) = V8 at *
  clear hg7 hg8 hP7 hR7
  have HW := Lib.hid (show w.heap.size ≤ W.heap.size ∧ w.heap.size ≤ W1.heap.size ∧ w.heap.size ≤ V.heap.size ∧ w.heap.size ≤ W5.heap.size from ⟨hwW.1, hwW.2, hB.size, by have := hB.size; have := hb5.size; omega⟩)
  go_wp2_with (first | (refine El.load pwRow rfl _ rfl n0 0 rfl ⟨A1, c1, base, t, A2, c2, ops, A3, c3, us, A4, c4, now⟩ hP8.at #[.slice A1 base.length c1, .int .i64 t, .slice A2 ops.length c2, .slice A3 us.length c3, .slice A4 now.length c4] rfl ?_) | (refine El.store pwRow rfl _ _ rfl n1 ⟨A1, c1, base, t, A2, c2, ops, A3, c3, us, A4, c4, now⟩ #[.slice A1 base.length c1, .int .i64 t, .slice A2 ops.length c2, .slice A3 us.length c3, .slice A4 now.length c4] rfl rfl rfl Pw.zero hR8 ?_))
  refine El.ret1 pwRow (hR8.set ⟨A1, c1, base, t, A2, c2, ops, A3, c3, us, A4, c4, now⟩ #[.slice A1 base.length c1, .int .i64 t, .slice A2 ops.length c2, .slice A3 us.length c3, .slice A4 now.length c4] rfl) rfl rfl rfl #[.slice A1 base.length c1, .int .i64 t, .slice A2 ops.length c2, .slice A3 us.length c3, .slice A4 now.length c4] rfl ?_
  have hw1 : w.heap.size ≤ n1 := by have := HN.out; omega
  have hgz := by_row V8 n1 #[.slice A1 base.length c1, .int .i64 t, .slice A2 ops.length c2, .slice A3 us.length c3, .slice A4 now.length c4]
  exact ⟨⟨A1, c1, base, t, A2, c2, ops, A3, c3, us, A4, c4, now⟩, rfl, ⟨h81.keep hf1 hgz hlz.1, h82.keep hf2 hgz hlz.2, h83.keep hf3 hgz hl1w, h84.keep hf4 hgz hl51⟩, rfl, ⟨hf1.mono HW.out.1, hf2.mono HW.out.2.1, hf3.mono HW.out.2.2.1, hf4.mono HW.out.2.2.2⟩, below_setRow hB8 hw1 _⟩
end Go.Proofs.YtdcjffajmckleaaGreatDoor

/- Moves undone from the last one on. -/
namespace Go.Proofs.YtdcjffajmckleaaGreatDoor
open Go.RowKit Tre Cod Pst

theorem undo_at {base : List Pl} (hs : Sorted base) (o : List Mv) (j : Nat) (h : j < o.length) :
    ∃ u, (foldL base (mvs o)).2[j]? = some u ∧ backL (fold1 base o (j + 1)) o[j].K u = fold1 base o j := by
  have hm : j < (mvs o).length := by rw [mvs_len]; exact h
  have e : (mvs o)[j]'hm = mvPl o[j] := List.getElem_map mvPl
  refine ⟨_, foldL_un base (mvs o) j hm, ?_⟩
  have h2 := foldL_undo hs (mvs o) j hm
  unfold fold1
  rw [← mvs_take, ← mvs_take]
  rw [e] at h2 ⊢
  exact h2

set_option maxRecDepth 100000 in
set_option maxHeartbeats 4000000 in
theorem undone_any (A : Option Addr) (c : Nat) (base now : List Pl) (O : Option Addr) (oc : Nat) (o : List Mv) (U : Option Addr) (uc : Nat) (us : List Un) (w : World) (hl : base.length + o.length ≤ 890) (hs : Sorted base)
    (hnow : now = (foldL base (mvs o)).1) (hus : us = (foldL base (mvs o)).2) (hT : SlV plE w A c now) (hO : opE.Sl w O o) (hU : unE.Sl w U us) :
    Calls Tryz.prog 53 #[.slice A now.length c, .slice O o.length oc, .slice U us.length uc] w fun e w' => ∃ A' c', e = .returned (.slice A' base.length c') ∧ SlV plE w' A' c' base ∧ Below w.heap.size w w' := by
  have hul : us.length = o.length := by rw [hus, foldL_len, mvs_len]
  have hUN := fun j h => undo_at hs o j h
  rw [← hus] at hUN
  have hn0 : now = fold1 base o o.length := by rw [fold1_all]; exact hnow
  have HUN := Lib.hid hUN
  have HUL := Lib.hid hul
  clear hnow hus hUN hul
  subst hn0
  go_enter Tryz.func53, Tryz.ntmps53
  go_wp2
  go_loopw [0, 7] (fun x y wr => ∃ (k : Nat) (z : Int) (A' : Option Addr) (c' : Nat), k ≤ o.length ∧ z + 1 = k ∧ y = .int .i64 z ∧ x = .slice A' (fold1 base o k).length c' ∧ SlV plE wr A' c' (fold1 base o k) ∧ Below w.heap.size w wr) (fun _ y _ => (intOf y + 1).toNat)
  case atStart => exact ⟨o.length, (o.length : Int) - 1, A, c, Nat.le_refl _, by omega, by go_num, rfl, hT, Below.refl _ _⟩
  case round =>
    clear hT
    obtain ⟨k, z, A', c', hk, hz, rfl, rfl, hS, hB⟩ := hrel
    by_cases hpos : 0 ≤ z
    · obtain ⟨j, rfl⟩ : ∃ j : Nat, z = j := ⟨z.toNat, by omega⟩
      obtain rfl : k = j + 1 := by omega
      obtain ⟨b, off, rfl, hbw, hc⟩ := hO (by omega)
      obtain ⟨b2, off2, rfl, hbw2, hc2⟩ := hU (by rw [HUL.out]; omega)
      have hju : j < us.length := by rw [HUL.out]; omega
      have hat : opE.At wr b (off + j * 7) _ := (hc j (by omega)).below hB hbw
      have hat2 : unE.At wr b2 (off2 + j * 5) _ := (hc2 j hju).below hB hbw2
      obtain ⟨u, hu, hback⟩ := HUN.out j (by omega)
      have hu2 : us[j] = u := by rw [List.getElem?_eq_getElem hju] at hu; exact Option.some.inj hu
      obtain ⟨m, hm⟩ : ∃ m, o[j] = m := ⟨_, rfl⟩
      rw [hm] at hat hback
      rw [hu2] at hat2
      have hl1 := fold1_len base o (j + 1)
      have hs1 := fold1_sorted hs o (j + 1)
      have CB := fun (wx : World) (hx : Below wr.heap.size wr wx) => back_any A' c' (fold1 base o (j + 1)) m u wx (by omega) hs1 (hS.below hx)
      rw [hback] at CB
      have HCB := Lib.hid CB
      have hbw' : b < wr.heap.size := Nat.lt_of_lt_of_le hbw hB.size
      have hbw2' : b2 < wr.heap.size := Nat.lt_of_lt_of_le hbw2 hB.size
      have HB := Lib.hid hB
      have hjl : j < o.length := by omega
      clear CB hback hl1 hs1 hc hc2 hm hu hu2 hS hz
      generalize fold1 base o (j + 1) = T1 at *
      go_wp2_with fail
      replace hat : opE.At wr.drew b (off + j * 7) m := hat
      replace hat2 : unE.At wr.drew b2 (off2 + j * 5) u := hat2
      have hdr : Below wr.heap.size wr wr.drew := (Below.refl _ wr).drew
      go_region_held3 (fun w' => (w'.cell? ⟨b, off + j * 7, none⟩ = some (.int .i64 m.C) ∧ w'.cell? ⟨b, off + j * 7 + 1, none⟩ = some (.int .i64 m.D) ∧ w'.cell? ⟨b, off + j * 7 + 2, none⟩ = some (.int .i64 m.I) ∧ w'.cell? ⟨b, off + j * 7 + 3, none⟩ = some (.int .i64 m.M) ∧ w'.cell? ⟨b, off + j * 7 + 4, none⟩ = some (.int .i64 m.K) ∧ w'.cell? ⟨b, off + j * 7 + 5, none⟩ = some (.int .i64 m.U) ∧ w'.cell? ⟨b, off + j * 7 + 6, none⟩ = some (.string m.s)) ∧ (w'.cell? ⟨b2, off2 + j * 5, none⟩ = some (.int .i64 u.was.n) ∧ w'.cell? ⟨b2, off2 + j * 5 + 1, none⟩ = some (.int .i64 u.was.u) ∧ w'.cell? ⟨b2, off2 + j * 5 + 2, none⟩ = some (.string u.was.s) ∧ w'.cell? ⟨b2, off2 + j * 5 + 3, none⟩ = some (.bool u.had) ∧ w'.cell? ⟨b2, off2 + j * 5 + 4, none⟩ = some (.bool u.did))) (with_reducible first | exact ⟨opAt hat, unAt hat2⟩ | exact ⟨opAt hat5, unAt hat25⟩) (first | (go_at_call 86; (with_reducible refine (HCB.out _ hdr).mono ?_); rintro e w5 ⟨A5, c5, rfl, hS5, hf5, hb5⟩; have hat5 := hat.below hb5 hbw'; have hat25 := hat2.below hb5 hbw2'))
      all_goals
        go_wp2
        go_roundw
        case rel =>
          exact ⟨j, (j : Int) - 1, A5, c5, by omega, by omega, by go_num, rfl, hS5, below_then HB.out (below_then hdr hb5)⟩
        case measure => simp [intOf]
    · obtain rfl : z = -1 := by omega
      obtain rfl : k = 0 := by omega
      rw [fold1_zero] at hS ⊢
      go_wp2
      go_ret
      exact ⟨A', c', rfl, hS, hB⟩
end Go.Proofs.YtdcjffajmckleaaGreatDoor

/- Add of the program: what comes too late, or a second time. -/
namespace Go.Proofs.YtdcjffajmckleaaGreatDoor
open Go.RowKit Tre Cod Pst

set_option maxRecDepth 100000 in
set_option maxHeartbeats 4000000 in
theorem pAdd_late (x : Pw) (m : Mv) (w : World) (hx : PastOk w x) (hI : PInv x.v) (hl : x.ops.length ≤ 200) (h : has Mv.C Mv.D x.ops m = true ∨ (has Mv.C Mv.D x.ops m = false ∧ m.C ≤ x.t)) :
    Calls Tryz.prog 25 #[.agg #[.slice x.bA x.base.length x.bc, .int .i64 x.t, .slice x.oA x.ops.length x.oc, .slice x.uA x.us.length x.uc, .slice x.wA x.now.length x.wc], .agg #[.int .i64 m.C, .int .i64 m.D, .int .i64 m.I, .int .i64 m.M, .int .i64 m.K, .int .i64 m.U, .string m.s]] w fun e w' => ∃ y : Pw, e = .returned (.tuple #[.agg #[.slice y.bA y.base.length y.bc, .int .i64 y.t, .slice y.oA y.ops.length y.oc, .slice y.uA y.us.length y.uc, .slice y.wA y.now.length y.wc], .bool (addV x.v m).2]) ∧ PastOk w' y ∧ y.v = (addV x.v m).1 ∧ Below w.heap.size w w' := by
  have ha : addV x.v m = (x.v, false) := by
    rcases h with h | h
    · by_cases h1 : m.C ≤ x.t
      · exact addV_late' h1
      · exact addV_same' h1 h
    · exact addV_late' h.2
  have hl1 : x.base.length ≤ 62 := tree_len hI.tree
  have hl4 : x.now.length ≤ 62 := tree_len hI.ntree
  have hl3 : x.us.length = x.ops.length := hI.ulen
  have hI' : Ris Mv.C Mv.D x.ops := hI.ris
  rw [ha]
  obtain ⟨bA, bc, base, t, oA, oc, ops, uA, uc, us, wA, wc, now⟩ := x
  simp only at hl h hl1 hl3 hl4 hI'
  have HU := Lib.hid hl3
  clear ha hl3 hI
  rcases h with h | ⟨h, ht⟩
  · skip
    have hP : pwE.In (((w.alloc (.cells #[.slice bA base.length bc, .int .i64 t, .slice oA ops.length oc, .slice uA us.length uc, .slice wA now.length wc] 40)).alloc (.cells #[.int .i64 m.C, .int .i64 m.D, .int .i64 m.I, .int .i64 m.M, .int .i64 m.K, .int .i64 m.U, .string m.s] 55)).alloc (.cells #[.slice none 0 0, .int .i64 0, .slice none 0 0, .slice none 0 0, .slice none 0 0] 40)) w.heap.size (⟨bA, bc, base, t, oA, oc, ops, uA, uc, us, wA, wc, now⟩ : Pw) := ((El.In.new (E := pwE) w (⟨bA, bc, base, t, oA, oc, ops, uA, uc, us, wA, wc, now⟩ : Pw) _ rfl).alloc _).alloc _
    have hO : opE.In (((w.alloc (.cells #[.slice bA base.length bc, .int .i64 t, .slice oA ops.length oc, .slice uA us.length uc, .slice wA now.length wc] 40)).alloc (.cells #[.int .i64 m.C, .int .i64 m.D, .int .i64 m.I, .int .i64 m.M, .int .i64 m.K, .int .i64 m.U, .string m.s] 55)).alloc (.cells #[.slice none 0 0, .int .i64 0, .slice none 0 0, .slice none 0 0, .slice none 0 0] 40)) (w.heap.size + 1) m := by
      have h := (El.In.new (E := opE) (w.alloc (.cells #[.slice bA base.length bc, .int .i64 t, .slice oA ops.length oc, .slice uA us.length uc, .slice wA now.length wc] 40)) m #[.int .i64 m.C, .int .i64 m.D, .int .i64 m.I, .int .i64 m.M, .int .i64 m.K, .int .i64 m.U, .string m.s] rfl).alloc (.cells #[.slice none 0 0, .int .i64 0, .slice none 0 0, .slice none 0 0, .slice none 0 0] 40)
      rw [alloc_size] at h; exact h
    have hR : pwE.In (((w.alloc (.cells #[.slice bA base.length bc, .int .i64 t, .slice oA ops.length oc, .slice uA us.length uc, .slice wA now.length wc] 40)).alloc (.cells #[.int .i64 m.C, .int .i64 m.D, .int .i64 m.I, .int .i64 m.M, .int .i64 m.K, .int .i64 m.U, .string m.s] 55)).alloc (.cells #[.slice none 0 0, .int .i64 0, .slice none 0 0, .slice none 0 0, .slice none 0 0] 40)) (w.heap.size + 2) Pw.zero := by
      have h := El.In.new (E := pwE) ((w.alloc (.cells #[.slice bA base.length bc, .int .i64 t, .slice oA ops.length oc, .slice uA us.length uc, .slice wA now.length wc] 40)).alloc (.cells #[.int .i64 m.C, .int .i64 m.D, .int .i64 m.I, .int .i64 m.M, .int .i64 m.K, .int .i64 m.U, .string m.s] 55)) Pw.zero #[.slice none 0 0, .int .i64 0, .slice none 0 0, .slice none 0 0, .slice none 0 0] rfl
      rw [alloc_size, alloc_size] at h; exact h
    have hB := below_alloc (below_alloc (below_alloc (Below.refl w.heap.size w) (.cells #[.slice bA base.length bc, .int .i64 t, .slice oA ops.length oc, .slice uA us.length uc, .slice wA now.length wc] 40)) (.cells #[.int .i64 m.C, .int .i64 m.D, .int .i64 m.I, .int .i64 m.M, .int .i64 m.K, .int .i64 m.U, .string m.s] 55)) (.cells #[.slice none 0 0, .int .i64 0, .slice none 0 0, .slice none 0 0, .slice none 0 0] 40)
    have HL := Lib.hid hx
    have hx0 := hx.below hB
    have CF := pfind_any oA oc ops m (((w.alloc (.cells #[.slice bA base.length bc, .int .i64 t, .slice oA ops.length oc, .slice uA us.length uc, .slice wA now.length wc] 40)).alloc (.cells #[.int .i64 m.C, .int .i64 m.D, .int .i64 m.I, .int .i64 m.M, .int .i64 m.K, .int .i64 m.U, .string m.s] 55)).alloc (.cells #[.slice none 0 0, .int .i64 0, .slice none 0 0, .slice none 0 0, .slice none 0 0] 40)) hI' (by omega) hx0.o.1
    clear hx hx0
    go_enter Tryz.func25, Tryz.ntmps25
    go_wp2_with fail
    generalize ((w.alloc (.cells #[.slice bA base.length bc, .int .i64 t, .slice oA ops.length oc, .slice uA us.length uc, .slice wA now.length wc] 40)).alloc (.cells #[.int .i64 m.C, .int .i64 m.D, .int .i64 m.I, .int .i64 m.M, .int .i64 m.K, .int .i64 m.U, .string m.s] 55)).alloc (.cells #[.slice none 0 0, .int .i64 0, .slice none 0 0, .slice none 0 0, .slice none 0 0] 40) = W at *
    obtain ⟨n2, h2⟩ : ∃ n, w.heap.size + 2 = n := ⟨_, rfl⟩
    obtain ⟨n1, h1⟩ : ∃ n, w.heap.size + 1 = n := ⟨_, rfl⟩
    obtain ⟨n0, h0⟩ : ∃ n, w.heap.size = n := ⟨_, rfl⟩
    have HN := Lib.hid (show w.heap.size ≤ n0 ∧ n1 = n0 + 1 ∧ n2 = n0 + 2 by omega)
    have hn20 : n2 ≠ n0 := by omega
    try rw [show w.heap.size + 1 + 1 = n2 by omega]
    rw [h2] at hR
    rw [h1] at hO ⊢
    rw [h0] at hP ⊢
    try rw [h2]
    clear h0 h1 h2
    refine CF.mono ?_
    rintro e W1 ⟨rfl, hb⟩
    clear CF
    replace hP := hP.below hb
    replace hO := hO.below hb
    replace hR := hR.below hb
    replace hB := hB.trans (hb.mono (by have := hB.size; omega))
    clear hb
    obtain ⟨p0, p1, p2, p3, p4⟩ := pwIn5 hP
    obtain ⟨o0, o1, o2, o3, o4, o5, o6⟩ := opIn7 hO
    rw [h]
    clear p0 p1 p2 p3 p4 o0 o1 o2 o3 o4 o5 o6
    have hx1 := HL.out.below hB
    have CS := psame_any (⟨bA, bc, base, t, oA, oc, ops, uA, uc, us, wA, wc, now⟩ : Pw) W1 hx1 (by simp only; omega) (by simp only; omega) (by simp only; rw [HU.out]; omega) (by simp only; omega)
    simp only at CS
    have HCS := Lib.hid CS
    clear CS
    go_wp2_with (first | (refine El.load pwRow rfl _ rfl n0 0 rfl (⟨bA, bc, base, t, oA, oc, ops, uA, uc, us, wA, wc, now⟩ : Pw) hP.at #[.slice bA base.length bc, .int .i64 t, .slice oA ops.length oc, .slice uA us.length uc, .slice wA now.length wc] rfl ?_) | (go_at_call 50; (with_reducible refine HCS.out.mono ?_); rintro e W2 ⟨y, rfl, hy, hyv, hyf, hb2⟩; have hR2 := hR.below hb2) | (refine El.store pwRow rfl _ _ rfl n2 y #[.slice y.bA y.base.length y.bc, .int .i64 y.t, .slice y.oA y.ops.length y.oc, .slice y.uA y.us.length y.uc, .slice y.wA y.now.length y.wc] rfl rfl rfl Pw.zero hR2 ?_))
    refine El.ret2 pwRow (v := .bool false) (hR2.set y #[.slice y.bA y.base.length y.bc, .int .i64 y.t, .slice y.oA y.ops.length y.oc, .slice y.uA y.us.length y.uc, .slice y.wA y.now.length y.wc] rfl) rfl rfl rfl rfl #[.slice y.bA y.base.length y.bc, .int .i64 y.t, .slice y.oA y.ops.length y.oc, .slice y.uA y.us.length y.uc, .slice y.wA y.now.length y.wc] rfl ?_
    have hw2 : w.heap.size ≤ n2 := by have := HN.out; omega
    have hB2 := hB.trans (hb2.mono (by have := hB.size; omega))
    have hl2 := hR.lt
    exact ⟨y, rfl, hy.keep hyf (by_row _ _ _) hl2, hyv, below_setRow hB2 hw2 _⟩
  · skip
    have hP : pwE.In (((w.alloc (.cells #[.slice bA base.length bc, .int .i64 t, .slice oA ops.length oc, .slice uA us.length uc, .slice wA now.length wc] 40)).alloc (.cells #[.int .i64 m.C, .int .i64 m.D, .int .i64 m.I, .int .i64 m.M, .int .i64 m.K, .int .i64 m.U, .string m.s] 55)).alloc (.cells #[.slice none 0 0, .int .i64 0, .slice none 0 0, .slice none 0 0, .slice none 0 0] 40)) w.heap.size (⟨bA, bc, base, t, oA, oc, ops, uA, uc, us, wA, wc, now⟩ : Pw) := ((El.In.new (E := pwE) w (⟨bA, bc, base, t, oA, oc, ops, uA, uc, us, wA, wc, now⟩ : Pw) _ rfl).alloc _).alloc _
    have hO : opE.In (((w.alloc (.cells #[.slice bA base.length bc, .int .i64 t, .slice oA ops.length oc, .slice uA us.length uc, .slice wA now.length wc] 40)).alloc (.cells #[.int .i64 m.C, .int .i64 m.D, .int .i64 m.I, .int .i64 m.M, .int .i64 m.K, .int .i64 m.U, .string m.s] 55)).alloc (.cells #[.slice none 0 0, .int .i64 0, .slice none 0 0, .slice none 0 0, .slice none 0 0] 40)) (w.heap.size + 1) m := by
      have h := (El.In.new (E := opE) (w.alloc (.cells #[.slice bA base.length bc, .int .i64 t, .slice oA ops.length oc, .slice uA us.length uc, .slice wA now.length wc] 40)) m #[.int .i64 m.C, .int .i64 m.D, .int .i64 m.I, .int .i64 m.M, .int .i64 m.K, .int .i64 m.U, .string m.s] rfl).alloc (.cells #[.slice none 0 0, .int .i64 0, .slice none 0 0, .slice none 0 0, .slice none 0 0] 40)
      rw [alloc_size] at h; exact h
    have hR : pwE.In (((w.alloc (.cells #[.slice bA base.length bc, .int .i64 t, .slice oA ops.length oc, .slice uA us.length uc, .slice wA now.length wc] 40)).alloc (.cells #[.int .i64 m.C, .int .i64 m.D, .int .i64 m.I, .int .i64 m.M, .int .i64 m.K, .int .i64 m.U, .string m.s] 55)).alloc (.cells #[.slice none 0 0, .int .i64 0, .slice none 0 0, .slice none 0 0, .slice none 0 0] 40)) (w.heap.size + 2) Pw.zero := by
      have h := El.In.new (E := pwE) ((w.alloc (.cells #[.slice bA base.length bc, .int .i64 t, .slice oA ops.length oc, .slice uA us.length uc, .slice wA now.length wc] 40)).alloc (.cells #[.int .i64 m.C, .int .i64 m.D, .int .i64 m.I, .int .i64 m.M, .int .i64 m.K, .int .i64 m.U, .string m.s] 55)) Pw.zero #[.slice none 0 0, .int .i64 0, .slice none 0 0, .slice none 0 0, .slice none 0 0] rfl
      rw [alloc_size, alloc_size] at h; exact h
    have hB := below_alloc (below_alloc (below_alloc (Below.refl w.heap.size w) (.cells #[.slice bA base.length bc, .int .i64 t, .slice oA ops.length oc, .slice uA us.length uc, .slice wA now.length wc] 40)) (.cells #[.int .i64 m.C, .int .i64 m.D, .int .i64 m.I, .int .i64 m.M, .int .i64 m.K, .int .i64 m.U, .string m.s] 55)) (.cells #[.slice none 0 0, .int .i64 0, .slice none 0 0, .slice none 0 0, .slice none 0 0] 40)
    have HL := Lib.hid hx
    have hx0 := hx.below hB
    have CF := pfind_any oA oc ops m (((w.alloc (.cells #[.slice bA base.length bc, .int .i64 t, .slice oA ops.length oc, .slice uA us.length uc, .slice wA now.length wc] 40)).alloc (.cells #[.int .i64 m.C, .int .i64 m.D, .int .i64 m.I, .int .i64 m.M, .int .i64 m.K, .int .i64 m.U, .string m.s] 55)).alloc (.cells #[.slice none 0 0, .int .i64 0, .slice none 0 0, .slice none 0 0, .slice none 0 0] 40)) hI' (by omega) hx0.o.1
    clear hx hx0
    go_enter Tryz.func25, Tryz.ntmps25
    go_wp2_with fail
    generalize ((w.alloc (.cells #[.slice bA base.length bc, .int .i64 t, .slice oA ops.length oc, .slice uA us.length uc, .slice wA now.length wc] 40)).alloc (.cells #[.int .i64 m.C, .int .i64 m.D, .int .i64 m.I, .int .i64 m.M, .int .i64 m.K, .int .i64 m.U, .string m.s] 55)).alloc (.cells #[.slice none 0 0, .int .i64 0, .slice none 0 0, .slice none 0 0, .slice none 0 0] 40) = W at *
    obtain ⟨n2, h2⟩ : ∃ n, w.heap.size + 2 = n := ⟨_, rfl⟩
    obtain ⟨n1, h1⟩ : ∃ n, w.heap.size + 1 = n := ⟨_, rfl⟩
    obtain ⟨n0, h0⟩ : ∃ n, w.heap.size = n := ⟨_, rfl⟩
    have HN := Lib.hid (show w.heap.size ≤ n0 ∧ n1 = n0 + 1 ∧ n2 = n0 + 2 by omega)
    have hn20 : n2 ≠ n0 := by omega
    try rw [show w.heap.size + 1 + 1 = n2 by omega]
    rw [h2] at hR
    rw [h1] at hO ⊢
    rw [h0] at hP ⊢
    try rw [h2]
    clear h0 h1 h2
    refine CF.mono ?_
    rintro e W1 ⟨rfl, hb⟩
    clear CF
    replace hP := hP.below hb
    replace hO := hO.below hb
    replace hR := hR.below hb
    replace hB := hB.trans (hb.mono (by have := hB.size; omega))
    clear hb
    obtain ⟨p0, p1, p2, p3, p4⟩ := pwIn5 hP
    obtain ⟨o0, o1, o2, o3, o4, o5, o6⟩ := opIn7 hO
    rw [h]
    have hx1 := HL.out.below hB
    have CS := psame_any (⟨bA, bc, base, t, oA, oc, ops, uA, uc, us, wA, wc, now⟩ : Pw) W1 hx1 (by simp only; omega) (by simp only; omega) (by simp only; rw [HU.out]; omega) (by simp only; omega)
    simp only at CS
    have HCS := Lib.hid CS
    clear CS
    go_wp2_with (first | (refine El.load pwRow rfl _ rfl n0 0 rfl (⟨bA, bc, base, t, oA, oc, ops, uA, uc, us, wA, wc, now⟩ : Pw) hP.at #[.slice bA base.length bc, .int .i64 t, .slice oA ops.length oc, .slice uA us.length uc, .slice wA now.length wc] rfl ?_) | (go_at_call 50; (with_reducible refine HCS.out.mono ?_); rintro e W2 ⟨y, rfl, hy, hyv, hyf, hb2⟩; have hR2 := hR.below hb2) | (refine El.store pwRow rfl _ _ rfl n2 y #[.slice y.bA y.base.length y.bc, .int .i64 y.t, .slice y.oA y.ops.length y.oc, .slice y.uA y.us.length y.uc, .slice y.wA y.now.length y.wc] rfl rfl rfl Pw.zero hR2 ?_))
    refine El.ret2 pwRow (v := .bool false) (hR2.set y #[.slice y.bA y.base.length y.bc, .int .i64 y.t, .slice y.oA y.ops.length y.oc, .slice y.uA y.us.length y.uc, .slice y.wA y.now.length y.wc] rfl) rfl rfl rfl rfl #[.slice y.bA y.base.length y.bc, .int .i64 y.t, .slice y.oA y.ops.length y.oc, .slice y.uA y.us.length y.uc, .slice y.wA y.now.length y.wc] rfl ?_
    have hw2 : w.heap.size ≤ n2 := by have := HN.out; omega
    have hB2 := hB.trans (hb2.mono (by have := hB.size; omega))
    have hl2 := hR.lt
    exact ⟨y, rfl, hy.keep hyf (by_row _ _ _) hl2, hyv, below_setRow hB2 hw2 _⟩
end Go.Proofs.YtdcjffajmckleaaGreatDoor

/- Add of the program: an operation put in. -/
namespace Go.Proofs.YtdcjffajmckleaaGreatDoor
open Go.RowKit Tre Cod Pst

/-- A past written cell by cell. -/
theorem pw_put {w : World} {b : Nat} {x : Pw} (h : pwE.In w b x) (y : Pw) :
    pwE.In (((((w.setCell ⟨b, 0, none⟩ (.slice y.bA y.base.length y.bc)).setCell ⟨b, 1, none⟩ (.int .i64 y.t)).setCell ⟨b, 2, none⟩ (.slice y.oA y.ops.length y.oc)).setCell ⟨b, 3, none⟩ (.slice y.uA y.us.length y.uc)).setCell ⟨b, 4, none⟩ (.slice y.wA y.now.length y.wc)) b y ∧
    w.grownBy (((((w.setCell ⟨b, 0, none⟩ (.slice y.bA y.base.length y.bc)).setCell ⟨b, 1, none⟩ (.int .i64 y.t)).setCell ⟨b, 2, none⟩ (.slice y.oA y.ops.length y.oc)).setCell ⟨b, 3, none⟩ (.slice y.uA y.us.length y.uc)).setCell ⟨b, 4, none⟩ (.slice y.wA y.now.length y.wc)) (some b) := by
  refine ⟨?_, by_cell2 (by_cell2 (by_cell2 (by_cell2 (by_cell w b 0 _) 1 _) 2 _) 3 _) 4 _⟩
  have h1 := h.put ⟨y.bA, y.bc, y.base, x.t, x.oA, x.oc, x.ops, x.uA, x.uc, x.us, x.wA, x.wc, x.now⟩ 0 (.slice y.bA y.base.length y.bc) rfl
  have h2 := h1.put ⟨y.bA, y.bc, y.base, y.t, x.oA, x.oc, x.ops, x.uA, x.uc, x.us, x.wA, x.wc, x.now⟩ 1 (.int .i64 y.t) rfl
  have h3 := h2.put ⟨y.bA, y.bc, y.base, y.t, y.oA, y.oc, y.ops, x.uA, x.uc, x.us, x.wA, x.wc, x.now⟩ 2 (.slice y.oA y.ops.length y.oc) rfl
  have h4 := h3.put ⟨y.bA, y.bc, y.base, y.t, y.oA, y.oc, y.ops, y.uA, y.uc, y.us, x.wA, x.wc, x.now⟩ 3 (.slice y.uA y.us.length y.uc) rfl
  exact h4.put y 4 (.slice y.wA y.now.length y.wc) rfl
def pick3 {α : Type} (a b c : α) (j : Nat) : α := match j with
  | 0 => a
  | 1 => b
  | _ => c


set_option maxRecDepth 100000 in
set_option maxHeartbeats 4000000 in
theorem pAdd_new (x : Pw) (m : Mv) (w : World) (hx : PastOk w x) (hI : PInv x.v) (hl : x.ops.length ≤ 200) (h : has Mv.C Mv.D x.ops m = false) (ht : ¬ m.C ≤ x.t) :
    Calls Tryz.prog 25 #[.agg #[.slice x.bA x.base.length x.bc, .int .i64 x.t, .slice x.oA x.ops.length x.oc, .slice x.uA x.us.length x.uc, .slice x.wA x.now.length x.wc], .agg #[.int .i64 m.C, .int .i64 m.D, .int .i64 m.I, .int .i64 m.M, .int .i64 m.K, .int .i64 m.U, .string m.s]] w fun e w' => ∃ y : Pw, e = .returned (.tuple #[.agg #[.slice y.bA y.base.length y.bc, .int .i64 y.t, .slice y.oA y.ops.length y.oc, .slice y.uA y.us.length y.uc, .slice y.wA y.now.length y.wc], .bool true]) ∧ PastOk w' y ∧ y.v = (addV x.v m).1 ∧ Below w.heap.size w w' := by
  have ha := addV_new' (q := x.v) ht h
  have hae := hI.add_eq m _ rfl
  have hl1 : x.base.length ≤ 62 := tree_len hI.tree
  have hl4 : x.now.length ≤ 62 := tree_len hI.ntree
  have hl3 : x.us.length = x.ops.length := hI.ulen
  have hI' : Ris Mv.C Mv.D x.ops := hI.ris
  have hbs : Sorted x.base := (treeB_facts hI.tree).2.1
  have hpl := pos_le (c := Mv.C) (d := Mv.D) x.ops m
  obtain ⟨bA, bc, base, t, oA, oc, ops, uA, uc, us, wA, wc, now⟩ := x
  simp only at hl h ht hl1 hl3 hl4 hI' hbs hpl
  simp only [Pw.v] at ha hae
  have HU := Lib.hid hl3
  have HA := Lib.hid ha
  have HE := Lib.hid hae
  clear ha hae hl3 hI
  have hP : pwE.In (((w.alloc (.cells #[.slice bA base.length bc, .int .i64 t, .slice oA ops.length oc, .slice uA us.length uc, .slice wA now.length wc] 40)).alloc (.cells #[.int .i64 m.C, .int .i64 m.D, .int .i64 m.I, .int .i64 m.M, .int .i64 m.K, .int .i64 m.U, .string m.s] 55)).alloc (.cells #[.slice none 0 0, .int .i64 0, .slice none 0 0, .slice none 0 0, .slice none 0 0] 40)) w.heap.size (⟨bA, bc, base, t, oA, oc, ops, uA, uc, us, wA, wc, now⟩ : Pw) := ((El.In.new (E := pwE) w (⟨bA, bc, base, t, oA, oc, ops, uA, uc, us, wA, wc, now⟩ : Pw) _ rfl).alloc _).alloc _
  have hO : opE.In (((w.alloc (.cells #[.slice bA base.length bc, .int .i64 t, .slice oA ops.length oc, .slice uA us.length uc, .slice wA now.length wc] 40)).alloc (.cells #[.int .i64 m.C, .int .i64 m.D, .int .i64 m.I, .int .i64 m.M, .int .i64 m.K, .int .i64 m.U, .string m.s] 55)).alloc (.cells #[.slice none 0 0, .int .i64 0, .slice none 0 0, .slice none 0 0, .slice none 0 0] 40)) (w.heap.size + 1) m := by
    have h := (El.In.new (E := opE) (w.alloc (.cells #[.slice bA base.length bc, .int .i64 t, .slice oA ops.length oc, .slice uA us.length uc, .slice wA now.length wc] 40)) m #[.int .i64 m.C, .int .i64 m.D, .int .i64 m.I, .int .i64 m.M, .int .i64 m.K, .int .i64 m.U, .string m.s] rfl).alloc (.cells #[.slice none 0 0, .int .i64 0, .slice none 0 0, .slice none 0 0, .slice none 0 0] 40)
    rw [alloc_size] at h; exact h
  have hR : pwE.In (((w.alloc (.cells #[.slice bA base.length bc, .int .i64 t, .slice oA ops.length oc, .slice uA us.length uc, .slice wA now.length wc] 40)).alloc (.cells #[.int .i64 m.C, .int .i64 m.D, .int .i64 m.I, .int .i64 m.M, .int .i64 m.K, .int .i64 m.U, .string m.s] 55)).alloc (.cells #[.slice none 0 0, .int .i64 0, .slice none 0 0, .slice none 0 0, .slice none 0 0] 40)) (w.heap.size + 2) Pw.zero := by
    have h := El.In.new (E := pwE) ((w.alloc (.cells #[.slice bA base.length bc, .int .i64 t, .slice oA ops.length oc, .slice uA us.length uc, .slice wA now.length wc] 40)).alloc (.cells #[.int .i64 m.C, .int .i64 m.D, .int .i64 m.I, .int .i64 m.M, .int .i64 m.K, .int .i64 m.U, .string m.s] 55)) Pw.zero #[.slice none 0 0, .int .i64 0, .slice none 0 0, .slice none 0 0, .slice none 0 0] rfl
    rw [alloc_size, alloc_size] at h; exact h
  have hB := below_alloc (below_alloc (below_alloc (Below.refl w.heap.size w) (.cells #[.slice bA base.length bc, .int .i64 t, .slice oA ops.length oc, .slice uA us.length uc, .slice wA now.length wc] 40)) (.cells #[.int .i64 m.C, .int .i64 m.D, .int .i64 m.I, .int .i64 m.M, .int .i64 m.K, .int .i64 m.U, .string m.s] 55)) (.cells #[.slice none 0 0, .int .i64 0, .slice none 0 0, .slice none 0 0, .slice none 0 0] 40)
  have HL := Lib.hid hx
  have hx0 := hx.below hB
  have CF := pfind_any oA oc ops m (((w.alloc (.cells #[.slice bA base.length bc, .int .i64 t, .slice oA ops.length oc, .slice uA us.length uc, .slice wA now.length wc] 40)).alloc (.cells #[.int .i64 m.C, .int .i64 m.D, .int .i64 m.I, .int .i64 m.M, .int .i64 m.K, .int .i64 m.U, .string m.s] 55)).alloc (.cells #[.slice none 0 0, .int .i64 0, .slice none 0 0, .slice none 0 0, .slice none 0 0] 40)) hI' (by omega) hx0.o.1
  clear hx hx0
  go_enter Tryz.func25, Tryz.ntmps25
  go_wp2_with fail
  generalize ((w.alloc (.cells #[.slice bA base.length bc, .int .i64 t, .slice oA ops.length oc, .slice uA us.length uc, .slice wA now.length wc] 40)).alloc (.cells #[.int .i64 m.C, .int .i64 m.D, .int .i64 m.I, .int .i64 m.M, .int .i64 m.K, .int .i64 m.U, .string m.s] 55)).alloc (.cells #[.slice none 0 0, .int .i64 0, .slice none 0 0, .slice none 0 0, .slice none 0 0] 40) = W at *
  obtain ⟨n2, h2⟩ : ∃ n, w.heap.size + 2 = n := ⟨_, rfl⟩
  obtain ⟨n1, h1⟩ : ∃ n, w.heap.size + 1 = n := ⟨_, rfl⟩
  obtain ⟨n0, h0⟩ : ∃ n, w.heap.size = n := ⟨_, rfl⟩
  have HN := Lib.hid (show w.heap.size ≤ n0 ∧ n1 = n0 + 1 ∧ n2 = n0 + 2 by omega)
  have hn20 : n2 ≠ n0 := by omega
  try rw [show w.heap.size + 1 + 1 = n2 by omega]
  rw [h2] at hR
  rw [h1] at hO ⊢
  rw [h0] at hP ⊢
  try rw [h2]
  clear h0 h1 h2
  refine CF.mono ?_
  rintro e W1 ⟨rfl, hb⟩
  clear CF
  replace hP := hP.below hb
  replace hO := hO.below hb
  replace hR := hR.below hb
  replace hB := hB.trans (hb.mono (by have := hB.size; omega))
  clear hb
  obtain ⟨p0, p1, p2, p3, p4⟩ := pwIn5 hP
  obtain ⟨o0, o1, o2, o3, o4, o5, o6⟩ := opIn7 hO
  rw [h]
  obtain ⟨k, hk⟩ : ∃ k, pos Mv.C Mv.D ops m = k := ⟨_, rfl⟩
  rw [hk] at hpl ⊢
  have HK := Lib.hid hk
  clear hk h
  have hE := even_any (⟨bA, bc, base, t, oA, oc, ops, uA, uc, us, wA, wc, now⟩ : Pw) W1 HU.out
  simp only at hE
  have HEV := Lib.hid hE
  clear hE
  go_wp2_with (first | (go_at_call 49; (with_reducible refine HEV.out.mono ?_); rintro e W2 ⟨rfl, hb2⟩))
  clear HEV p0 p1 p2 p3 p4 o0 o1 o2 o3 o4 o5 o6
  replace hP : pwE.In W2 n0 (⟨bA, bc, base, t, oA, oc, ops, uA, uc, us, wA, wc, now⟩ : Pw) := hP.below hb2
  replace hO : opE.In W2 n1 m := hO.below hb2
  replace hR : pwE.In W2 n2 Pw.zero := hR.below hb2
  replace hB : Below w.heap.size w W2 := hB.trans (hb2.mono (by have := hB.size; omega))
  clear hb2
  -- region 4: the operations, one more among them
  have hx2 := HL.out.below hB
  have hxo := hx2.o
  simp only at hxo
  obtain ⟨A3, hA3⟩ : ∃ A3 : Option Addr, (if oc = k then oA else Option.map (fun x => x.add (k * 7)) oA) = A3 := ⟨_, rfl⟩
  have ht1 := hxo.1.take k
  have ht3 := hxo.1.drop (tz := k) hxo.2.2 hA3
  have hz3 : A3 = none → oc - k = 0 := El.drop_none hxo.2.1 hA3
  have e1 : (ops.take k).length = k := by rw [List.length_take]; omega
  have e3 : (ops.drop k).length = ops.length - k := List.length_drop
  have hkc : k ≤ oc := Nat.le_trans hpl hxo.2.2
  have i0 : (0 : Int) ≤ (k : Int) := by omega
  have i1 : (k : Int) ≤ (oc : Int) := by omega
  have i2 : (k : Int) ≤ (ops.length : Int) := by omega
  have hae := HE.out
  rw [HK.out] at hae
  have HE1 := Lib.hid e1
  have HE3 := Lib.hid e3
  generalize hL1 : ops.take k = L1 at *
  generalize hL3 : ops.drop k = L3 at *
  obtain ⟨u1, u2, u3, u4, u5, u6⟩ := hae
  have hb1s : Sorted (foldL base (mvs L1)).1 := foldL_sorted hbs _
  have hb1l : (foldL base (mvs L1)).1.length ≤ 262 := by have := foldL_len1 base (mvs L1); rw [mvs_len, HE1.out] at this; omega
  generalize (foldL base (mvs L1)).1 = b1 at *
  have hul : (us.take k).length = k := by rw [List.length_take, HU.out]; omega
  have hul3 : (us.drop k).length = us.length - k := List.length_drop
  obtain ⟨L, hL⟩ : ∃ L, insL Mv.C Mv.D ops m = L := ⟨_, rfl⟩
  have hLL : L = L1 ++ ([m] ++ L3) := by rw [← hL, u6]
  have hLl : L.length = ops.length + 1 := by rw [hLL, List.length_append, List.length_append, HE1.out, HE3.out]; simp only [List.length_singleton]; omega
  have hLd : L.drop k = [m] ++ L3 := by rw [hLL, ← HE1.out]; exact List.drop_left
  have hna := HA.out
  rw [hL] at hna u4 u5
  rw [u4, u5] at hna
  have HNA := Lib.hid hna
  have HLL := Lib.hid hLL
  have HLl := Lib.hid hLl
  have HLd := Lib.hid hLd
  have HU2 := Lib.hid u2
  have HU3 := Lib.hid u3
  have HUL := Lib.hid hul
  have HUL3 := Lib.hid hul3
  have HL3 := Lib.hid hL3
  have hUS3 : ∃ us3, us.drop k = us3 := ⟨_, rfl⟩
  clear u1 u2 u3 u4 u5 u6 hul hul3 hLL hLl hLd hna hL e1 e3 hL1 hL3 HE HA
  obtain ⟨us1, hUS1⟩ : ∃ us1, us.take k = us1 := ⟨_, rfl⟩
  rw [hUS1] at HNA HUL
  have HUS1 := Lib.hid hUS1
  clear hUS1
  have hl2 : n2 < W2.heap.size := hR.lt
  obtain ⟨us3, hUS3⟩ := hUS3
  rw [hUS3] at HU2 HUL3
  have HUS3 := Lib.hid hUS3
  clear hUS3
  -- the world in which the lists are put together
  have hBw : Below W2.heap.size W2 ((W2.alloc (.cells #[.int .i64 m.C, .int .i64 m.D, .int .i64 m.I, .int .i64 m.M, .int .i64 m.K, .int .i64 m.U, .string m.s] 55)).alloc (.cells #[.slice oA k oc, .slice (some ⟨W2.heap.size, 0, none⟩) 1 1, .slice A3 (ops.length - k) (oc - k)] 31)).drew := (below_alloc (below_alloc (Below.refl _ _) _) _).drew
  have hone : opE.Sl ((W2.alloc (.cells #[.int .i64 m.C, .int .i64 m.D, .int .i64 m.I, .int .i64 m.M, .int .i64 m.K, .int .i64 m.U, .string m.s] 55)).alloc (.cells #[.slice oA k oc, .slice (some ⟨W2.heap.size, 0, none⟩) 1 1, .slice A3 (ops.length - k) (oc - k)] 31)).drew (some ⟨W2.heap.size, 0, none⟩) [m] := ((El.In.new (E := opE) W2 m #[.int .i64 m.C, .int .i64 m.D, .int .i64 m.I, .int .i64 m.M, .int .i64 m.K, .int .i64 m.U, .string m.s] rfl).alloc _).sl
  have CC := concatOp_any (W2.heap.size + 1) (pick3 L1 [m] L3) (pick3 oA (some ⟨W2.heap.size, 0, none⟩) A3) (pick3 oc 1 (oc - k)) ((W2.alloc (.cells #[.int .i64 m.C, .int .i64 m.D, .int .i64 m.I, .int .i64 m.M, .int .i64 m.K, .int .i64 m.U, .string m.s] 55)).alloc (.cells #[.slice oA k oc, .slice (some ⟨W2.heap.size, 0, none⟩) 1 1, .slice A3 (ops.length - k) (oc - k)] 31)).drew
    (fun j hj => by
      match j, hj with
      | 0, _ => show _ = some (Value.slice oA L1.length oc); rw [HE1.out]; go_simp
      | 1, _ => show _ = some (Value.slice (some ⟨W2.heap.size, 0, none⟩) 1 1); go_simp
      | 2, _ => show _ = some (Value.slice A3 L3.length (oc - k)); rw [HE3.out]; go_simp)
    (fun j hj => by
      match j, hj with
      | 0, _ => exact ht1.below hBw
      | 1, _ => exact hone
      | 2, _ => exact ht3.below hBw)
    (fun j hj => by
      match j, hj with
      | 0, _ => exact hxo.2.1
      | 1, _ => intro e; cases e
      | 2, _ => exact hz3)
    (by show ((([] ++ L1) ++ [m]) ++ L3).length ≤ 1000; simp only [List.length_append, List.length_nil, List.length_singleton, HE1.out, HE3.out]; omega)
    (by simp)
  have ecat : catE (pick3 L1 [m] L3) 3 = L := by
    show (([] ++ L1) ++ [m]) ++ L3 = L
    rw [HLL.out, List.nil_append, List.append_assoc]
  rw [ecat] at CC
  have HCC := Lib.hid CC
  clear CC ecat hone
  have hPa : pwE.In (W2.alloc (.cells #[.int .i64 m.C, .int .i64 m.D, .int .i64 m.I, .int .i64 m.M, .int .i64 m.K, .int .i64 m.U, .string m.s] 55)).drew n0 (⟨bA, bc, base, t, oA, oc, ops, uA, uc, us, wA, wc, now⟩ : Pw) := hP.alloc (.cells #[.int .i64 m.C, .int .i64 m.D, .int .i64 m.I, .int .i64 m.M, .int .i64 m.K, .int .i64 m.U, .string m.s] 55)
  have hOa : opE.In (W2.alloc (.cells #[.int .i64 m.C, .int .i64 m.D, .int .i64 m.I, .int .i64 m.M, .int .i64 m.K, .int .i64 m.U, .string m.s] 55)).drew n1 m := hO.alloc (.cells #[.int .i64 m.C, .int .i64 m.D, .int .i64 m.I, .int .i64 m.M, .int .i64 m.K, .int .i64 m.U, .string m.s] 55)
  have hPb : pwE.In ((W2.alloc (.cells #[.int .i64 m.C, .int .i64 m.D, .int .i64 m.I, .int .i64 m.M, .int .i64 m.K, .int .i64 m.U, .string m.s] 55)).alloc (.cells #[.slice oA k oc, .slice (some ⟨W2.heap.size, 0, none⟩) 1 1, .slice A3 (ops.length - k) (oc - k)] 31)).drew n0 (⟨bA, bc, base, t, oA, oc, ops, uA, uc, us, wA, wc, now⟩ : Pw) := (hP.alloc (.cells #[.int .i64 m.C, .int .i64 m.D, .int .i64 m.I, .int .i64 m.M, .int .i64 m.K, .int .i64 m.U, .string m.s] 55)).alloc (.cells #[.slice oA k oc, .slice (some ⟨W2.heap.size, 0, none⟩) 1 1, .slice A3 (ops.length - k) (oc - k)] 31)
  have hOb : opE.In ((W2.alloc (.cells #[.int .i64 m.C, .int .i64 m.D, .int .i64 m.I, .int .i64 m.M, .int .i64 m.K, .int .i64 m.U, .string m.s] 55)).alloc (.cells #[.slice oA k oc, .slice (some ⟨W2.heap.size, 0, none⟩) 1 1, .slice A3 (ops.length - k) (oc - k)] 31)).drew n1 m := (hO.alloc (.cells #[.int .i64 m.C, .int .i64 m.D, .int .i64 m.I, .int .i64 m.M, .int .i64 m.K, .int .i64 m.U, .string m.s] 55)).alloc (.cells #[.slice oA k oc, .slice (some ⟨W2.heap.size, 0, none⟩) 1 1, .slice A3 (ops.length - k) (oc - k)] 31)
  have hP0 := hP
  have hO0 := hO
  replace hP : pwE.In W2.drew n0 (⟨bA, bc, base, t, oA, oc, ops, uA, uc, us, wA, wc, now⟩ : Pw) := hP
  replace hO : opE.In W2.drew n1 m := hO
  go_region_held3 (fun w' => w'.cell? ⟨n0, 2, none⟩ = some (.slice oA ops.length oc) ∧ (w'.cell? ⟨n1, 0, none⟩ = some (.int .i64 m.C) ∧ w'.cell? ⟨n1, 1, none⟩ = some (.int .i64 m.D) ∧ w'.cell? ⟨n1, 2, none⟩ = some (.int .i64 m.I) ∧ w'.cell? ⟨n1, 3, none⟩ = some (.int .i64 m.M) ∧ w'.cell? ⟨n1, 4, none⟩ = some (.int .i64 m.K) ∧ w'.cell? ⟨n1, 5, none⟩ = some (.int .i64 m.U) ∧ w'.cell? ⟨n1, 6, none⟩ = some (.string m.s))) (with_reducible first | exact ⟨(pwIn5 hP).2.2.1, opIn7 hO⟩ | exact ⟨(pwIn5 hPa).2.2.1, opIn7 hOa⟩ | exact ⟨(pwIn5 hPb).2.2.1, opIn7 hOb⟩ | exact ⟨(pwIn5 hP4).2.2.1, opIn7 hO4⟩) (first | (go_at_call 51; (with_reducible refine HCC.out.mono ?_); rintro e W4 ⟨A8, c8, rfl, hS8, hf8, hb8⟩; have hb48 := hBw.trans (hb8.mono hBw.size); have hP4 := hP0.below hb48; have hO4 := hO0.below hb48))
  replace hR := hR.below hb48
  replace hB := hB.trans (hb48.mono hB.size)
  replace hP := hP4
  have hf80 : Frs W2.heap.size A8 := hf8.mono (by have := hBw.size; exact this)
  clear hP0 hO0 hPa hOa hPb hOb hO4 hO hP4 HCC hBw ht1 ht3 hb8 hxo hx2
  go_wp2_with fail
  -- region 5: undone, and done again
  have hx4 := HL.out.below hB
  have hxo := hx4.o
  have hxu := hx4.u
  have hxw := hx4.w
  simp only at hxo hxu hxw
  obtain ⟨U3, hU3⟩ : ∃ U3 : Option Addr, (if uc = k then uA else Option.map (fun x => x.add (k * 5)) uA) = U3 := ⟨_, rfl⟩
  obtain ⟨A9, hA9⟩ : ∃ A9 : Option Addr, (if c8 = k then A8 else Option.map (fun x => x.add (k * 7)) A8) = A9 := ⟨_, rfl⟩
  have ht3 := hxo.1.drop (tz := k) hxo.2.2 hA3
  have htu := hxu.1.drop (tz := k) hxu.2.2 hU3
  have ht9 := hS8.1.drop (tz := k) hS8.2.2 hA9
  rw [HL3.out] at ht3
  rw [HUS3.out] at htu
  have e9 : (L.drop k).length = L.length - k := List.length_drop
  rw [HLd.out] at ht9 e9
  have hld9 : ([m] ++ L3).length = 1 + L3.length := by rw [List.length_append, List.length_singleton]
  have hld8 : b1.length + ([m] ++ L3).length ≤ 900 := by rw [hld9, HE3.out]; omega
  generalize hLD : [m] ++ L3 = LD at *
  have j1 : (k : Int) ≤ (c8 : Int) := by have := hS8.2.2; have := HLl.out; omega
  have j2 : (k : Int) ≤ (L.length : Int) := by have := HLl.out; omega
  have j3 : (k : Int) ≤ (us.length : Int) := by have := HU.out; omega
  have j4 : (k : Int) ≤ (uc : Int) := by have := hxu.2.2; omega
  have CU := undone_any wA wc b1 now A3 (oc - k) L3 U3 (uc - k) us3 W4.drew (by have := HE3.out; omega) hb1s HU3.out HU2.out hxw ht3 htu
  rw [HE3.out, HUL3.out] at CU
  have CG : ∀ (A5 : Option Addr) (c5 : Nat) (W5 : World), SlV plE W5 A5 c5 b1 → opE.Sl W5 A9 LD → _ := fun A5 c5 W5 h1 h2 => mvFold_any A5 c5 b1 A9 (c8 - k) LD W5 hld8 hb1s h1 h2
  rw [e9] at CG
  have HCU := Lib.hid CU
  have HCG := Lib.hid CG
  have HLB := Lib.hid (show (foldL b1 (mvs LD)).2.length = LD.length ∧ LD.length ≤ 500 by rw [foldL_len, mvs_len, hld9, HE3.out]; omega)
  generalize (foldL b1 (mvs LD)).1 = now2 at *
  generalize (foldL b1 (mvs LD)).2 = us2 at *
  have HE9 := Lib.hid e9
  clear CU CG e9 hld9 hld8 hxo hxu hxw hx4 ht3 htu hLD
  have hP0 := hP
  have hR0 := hR
  have hS80 := hS8
  replace hP : pwE.In W4.drew n0 (⟨bA, bc, base, t, oA, oc, ops, uA, uc, us, wA, wc, now⟩ : Pw) := hP
  replace hR : pwE.In W4.drew n2 Pw.zero := hR
  replace hS8 : SlV opE W4.drew A8 c8 L := hS8
  replace ht9 : opE.Sl W4.drew A9 LD := ht9
  have hd4 : Below W4.heap.size W4 W4.drew := (Below.refl _ _).drew
  go_region_held3 (fun w' => w'.cell? ⟨n0, 4, none⟩ = some (.slice wA now.length wc) ∧ w'.cell? ⟨n0, 2, none⟩ = some (.slice oA ops.length oc) ∧ w'.cell? ⟨n0, 3, none⟩ = some (.slice uA us.length uc)) (with_reducible first | exact ⟨(pwIn5 hP).2.2.2.2, (pwIn5 hP).2.2.1, (pwIn5 hP).2.2.2.1⟩ | exact ⟨(pwIn5 hP6).2.2.2.2, (pwIn5 hP6).2.2.1, (pwIn5 hP6).2.2.2.1⟩ | exact ⟨(pwIn5 hP5).2.2.2.2, (pwIn5 hP5).2.2.1, (pwIn5 hP5).2.2.2.1⟩) (first | (go_at_call 53; (with_reducible refine HCU.out.mono ?_); rintro e W5 ⟨A5, c5, rfl, hS5, hb5⟩; have hP5 := hP.below hb5; have ht5 := ht9.below hb5) | (go_at_call 52; (with_reducible refine (HCG.out _ _ _ hS5 ht5).mono ?_); rintro e W6 ⟨A6, c6, U6, uc6, rfl, hS6, hU6, hf6, hfu6, hb6⟩; have hb46 := hd4.trans ((below_then hb5 hb6).mono hd4.size); have hP6 := hP0.below hb46))
  have hB6 := hB.trans (hb46.mono hB.size)
  have hP6' := hP6
  have hR6 : pwE.In W6 n2 Pw.zero := hR0.below hb46
  have hS86 := hS80.below hb46
  have hl25 : n2 < W5.heap.size := by have := hR.lt; have := hb5.size; omega
  have hx6 := HL.out.below hB6
  have hxb := hx6.b
  have hxu := hx6.u
  simp only at hxb hxu
  have htu := hxu.1.take k
  rw [HUS1.out] at htu
  have hl82 := hl2
  have hsz86 : W2.heap.size ≤ W6.heap.size := by have := hb48.size; have := hb46.size; omega
  obtain ⟨US, hUS⟩ : ∃ US, us1 ++ us2 = US := ⟨_, rfl⟩
  rw [hUS] at HNA
  have hus2 : us2.length ≤ 500 := by
    have := HLB.out
    omega
  have C1 := fun (wx : World) (h : SlV plE wx bA bc base) => clonePl_any bA bc base wx (by omega) h
  have C2 : ∀ (sb : Nat) (wx : World), wx.cell? ⟨sb, 0, none⟩ = some (.slice uA k uc) → wx.cell? ⟨sb, 1, none⟩ = some (.slice U6 us2.length uc6) → Below W6.heap.size W6 wx → sb < wx.heap.size →
      Calls Tryz.prog 55 #[.slice (some ⟨sb, 0, none⟩) 2 2] wx fun e w' => ∃ A' cap', e = .returned (.slice A' US.length cap') ∧ SlV unE w' A' cap' US ∧ Frs wx.heap.size A' ∧ Below wx.heap.size wx w' := fun sb wx q0 q1 hb hsb => by
    have h := concatUn_any sb (pick3 us1 us2 us2) (pick3 uA U6 U6) (pick3 uc uc6 uc6) wx
      (fun j hj => by
        match j, hj with
        | 0, _ => show _ = some (Value.slice uA us1.length uc); rw [HUL.out]; exact q0
        | 1, _ => exact q1)
      (fun j hj => by
        match j, hj with
        | 0, _ => exact htu.below hb
        | 1, _ => exact hU6.1.below hb)
      (fun j hj => by
        match j, hj with
        | 0, _ => exact hxu.2.1
        | 1, _ => exact hU6.2.1)
      (by show (([] ++ us1) ++ us2).length ≤ 1000; simp only [List.length_append, List.length_nil, HUL.out]; omega) hsb
    have e : catE (pick3 us1 us2 us2) 2 = US := by
      show ([] ++ us1) ++ us2 = US
      rw [List.nil_append]; exact hUS
    rw [e] at h
    exact h
  have HC1 := Lib.hid C1
  have HC2 := Lib.hid C2
  clear C1 C2 hus2 hUS
  have k0 : (k : Int) ≤ (uc : Int) := j4
  have hd6 : Below W6.heap.size W6 W6.drew := (Below.refl _ _).drew
  have hd6a : Below W6.heap.size W6 (W6.alloc (.cells #[.slice uA k uc, .slice U6 us2.length uc6] 38)).drew := (below_alloc (Below.refl _ _) _).drew
  have hxb0 : SlV plE W6.drew bA bc base := hxb
  have hxba := hxb.below hd6a
  have hP0 := hP6'
  have hPd : pwE.In W6.drew n0 (⟨bA, bc, base, t, oA, oc, ops, uA, uc, us, wA, wc, now⟩ : Pw) := hP6'
  have hPa : pwE.In (W6.alloc (.cells #[.slice uA k uc, .slice U6 us2.length uc6] 38)).drew n0 (⟨bA, bc, base, t, oA, oc, ops, uA, uc, us, wA, wc, now⟩ : Pw) := hP6'.below hd6a
  have hn02 : some n0 ≠ some n2 := fun e => hn20 (Option.some.inj e).symm
  clear hP hR hP6 hP5 hS8 ht9 ht5 hb5 hb6 hd4 hxb hxu hx6 hP6' HCU HCG
  go_wp2_with fail
  go_region_held3 (fun w' => w'.cell? ⟨n0, 0, none⟩ = some (.slice bA base.length bc) ∧ w'.cell? ⟨n0, 1, none⟩ = some (.int .i64 t) ∧ w'.cell? ⟨n0, 3, none⟩ = some (.slice uA us.length uc)) (with_reducible first | exact ⟨(pwIn5 hPd).1, (pwIn5 hPd).2.1, (pwIn5 hPd).2.2.2.1⟩ | exact ⟨(pwIn5 hPa).1, (pwIn5 hPa).2.1, (pwIn5 hPa).2.2.2.1⟩ | exact ⟨(pwIn5 hP7).1, (pwIn5 hP7).2.1, (pwIn5 hP7).2.2.2.1⟩ | exact ⟨(pwIn5 hP7a).1, (pwIn5 hP7a).2.1, (pwIn5 hP7a).2.2.2.1⟩ | exact ⟨(pwIn5 hP8).1, (pwIn5 hP8).2.1, (pwIn5 hP8).2.2.2.1⟩ | exact ⟨(pwIn5 (hP8.keep (pw_put hR8 ⟨A7, c7, base, t, A8, c8, L, A10, c10, US, A6, c6, now2⟩).2 hn02)).1, (pwIn5 (hP8.keep (pw_put hR8 ⟨A7, c7, base, t, A8, c8, L, A10, c10, US, A6, c6, now2⟩).2 hn02)).2.1, (pwIn5 (hP8.keep (pw_put hR8 ⟨A7, c7, base, t, A8, c8, L, A10, c10, US, A6, c6, now2⟩).2 hn02)).2.2.2.1⟩) (first | (go_at_call 54; (with_reducible first | refine (HC1.out _ hxb0).mono ?_ | refine (HC1.out _ hxba).mono ?_); rintro e w7 ⟨A7, c7, rfl, hS7, hf7, hb7⟩; have hb67 : Below W6.heap.size W6 w7 := (by first | exact hd6.trans (hb7.mono hd6.size) | exact hd6a.trans (hb7.mono hd6a.size)); have hf7' : Frs W6.heap.size A7 := hf7.mono (by first | exact hd6.size | exact hd6a.size); have hP7 := hP0.below hb67; have hP7a := hP7.alloc (.cells #[.slice uA k uc, .slice U6 us2.length uc6] 38)) | (go_at_call 55; first | (have z0 : (w7.alloc (.cells #[.slice uA k uc, .slice U6 us2.length uc6] 38)).cell? ⟨w7.heap.size, 0, none⟩ = some (.slice uA k uc) := (by go_simp); have z1 : (w7.alloc (.cells #[.slice uA k uc, .slice U6 us2.length uc6] 38)).cell? ⟨w7.heap.size, 1, none⟩ = some (.slice U6 us2.length uc6) := (by go_simp); with_reducible refine (HC2.out _ _ z0 z1 (hb67.alloc hb67.size (.cells #[.slice uA k uc, .slice U6 us2.length uc6] 38)) (by rw [alloc_size]; exact Nat.lt_succ_self _)).mono ?_) | (have z0 : w7.cell? ⟨W6.heap.size, 0, none⟩ = some (.slice uA k uc) := (by rw [(bcell hb7).1 _ _ (by simp)]; go_simp); have z1 : w7.cell? ⟨W6.heap.size, 1, none⟩ = some (.slice U6 us2.length uc6) := (by rw [(bcell hb7).1 _ _ (by simp)]; go_simp); with_reducible refine (HC2.out _ _ z0 z1 hb67 (by have := hb7.size; simp at this; omega)).mono ?_)); rintro e w8 ⟨A10, c10, rfl, hS10, hf10, hb8⟩; have hb78 : Below w7.heap.size w7 w8 := (by first | exact hb8 | exact (below_alloc (Below.refl w7.heap.size w7) (.cells #[.slice uA k uc, .slice U6 us2.length uc6] 38)).trans (hb8.mono (by simp))); have hf10' : Frs w7.heap.size A10 := hf10.mono (by first | exact Nat.le_refl _ | simp); have hb68 := hb67.trans (hb78.mono hb67.size); have hP8 := hP0.below hb68; have hR8 := hR6.below hb68; obtain ⟨r0, r1, r2, r3, r4⟩ := pwIn5 hR8; have rf := hR8.frozen)
  all_goals
    have hz := pw_put hR8 ⟨A7, c7, base, t, A8, c8, L, A10, c10, US, A6, c6, now2⟩
    go_wp2
    refine El.ret2 pwRow (v := .bool true) hz.1 rfl rfl rfl rfl #[.slice A7 base.length c7, .int .i64 t, .slice A8 L.length c8, .slice A10 US.length c10, .slice A6 now2.length c6] rfl ?_
    have h6 := hR6.lt
    have h7 := hb67.size
    have hB8 := hB6.trans (hb68.mono hB6.size)
    exact ⟨⟨A7, c7, base, t, A8, c8, L, A10, c10, US, A6, c6, now2⟩, rfl, ⟨(hS7.below hb78).keep hf7' hz.2 h6, (hS86.below hb68).keep hf80 hz.2 hl82, hS10.keep hf10' hz.2 (by omega), (hS6.below hb68).keep hf6 hz.2 hl25⟩, by show _ = (addV ⟨base, t, ops, us, now⟩ m).1; rw [HNA.out]; rfl, hB8.grown hz.2 hB8.size (fun j e => by have := Option.some.inj e; have := HN.out; omega)⟩
end Go.Proofs.YtdcjffajmckleaaGreatDoor

/- Settle of the program. -/
namespace Go.Proofs.YtdcjffajmckleaaGreatDoor
open Go.RowKit Tre Cod Pst

set_option maxRecDepth 100000 in
set_option maxHeartbeats 4000000 in
theorem pSettle_late (x : Pw) (s : Int) (w : World) (hx : PastOk w x) (hI : PInv x.v) (hl : x.ops.length ≤ 200) (h : s ≤ x.t) :
    Calls Tryz.prog 63 #[.agg #[.slice x.bA x.base.length x.bc, .int .i64 x.t, .slice x.oA x.ops.length x.oc, .slice x.uA x.us.length x.uc, .slice x.wA x.now.length x.wc], .int .i64 s] w fun e w' => ∃ y : Pw, e = .returned (.agg #[.slice y.bA y.base.length y.bc, .int .i64 y.t, .slice y.oA y.ops.length y.oc, .slice y.uA y.us.length y.uc, .slice y.wA y.now.length y.wc]) ∧ PastOk w' y ∧ y.v = settleV x.v s ∧ Below w.heap.size w w' := by
  have ha : settleV x.v s = x.v := settleV_late' h
  have hl1 : x.base.length ≤ 62 := tree_len hI.tree
  have hl4 : x.now.length ≤ 62 := tree_len hI.ntree
  have hl3 : x.us.length = x.ops.length := hI.ulen
  rw [ha]
  obtain ⟨bA, bc, base, t, oA, oc, ops, uA, uc, us, wA, wc, now⟩ := x
  simp only at hl h hl1 hl3 hl4
  have HU := Lib.hid hl3
  clear ha hl3 hI
  have hP : pwE.In (((w.alloc (.cells #[.slice bA base.length bc, .int .i64 t, .slice oA ops.length oc, .slice uA us.length uc, .slice wA now.length wc] 40)).alloc (.cells #[.int .i64 s] 3)).alloc (.cells #[.slice none 0 0, .int .i64 0, .slice none 0 0, .slice none 0 0, .slice none 0 0] 40)) w.heap.size (⟨bA, bc, base, t, oA, oc, ops, uA, uc, us, wA, wc, now⟩ : Pw) := ((El.In.new (E := pwE) w (⟨bA, bc, base, t, oA, oc, ops, uA, uc, us, wA, wc, now⟩ : Pw) _ rfl).alloc _).alloc _
  have hO : (((w.alloc (.cells #[.slice bA base.length bc, .int .i64 t, .slice oA ops.length oc, .slice uA us.length uc, .slice wA now.length wc] 40)).alloc (.cells #[.int .i64 s] 3)).alloc (.cells #[.slice none 0 0, .int .i64 0, .slice none 0 0, .slice none 0 0, .slice none 0 0] 40)).cell? ⟨w.heap.size + 1, 0, none⟩ = some (.int .i64 s) := by go_simp
  have hR : pwE.In (((w.alloc (.cells #[.slice bA base.length bc, .int .i64 t, .slice oA ops.length oc, .slice uA us.length uc, .slice wA now.length wc] 40)).alloc (.cells #[.int .i64 s] 3)).alloc (.cells #[.slice none 0 0, .int .i64 0, .slice none 0 0, .slice none 0 0, .slice none 0 0] 40)) (w.heap.size + 2) Pw.zero := by
    have h := El.In.new (E := pwE) ((w.alloc (.cells #[.slice bA base.length bc, .int .i64 t, .slice oA ops.length oc, .slice uA us.length uc, .slice wA now.length wc] 40)).alloc (.cells #[.int .i64 s] 3)) Pw.zero #[.slice none 0 0, .int .i64 0, .slice none 0 0, .slice none 0 0, .slice none 0 0] rfl
    rw [alloc_size, alloc_size] at h; exact h
  have hB := below_alloc (below_alloc (below_alloc (Below.refl w.heap.size w) (.cells #[.slice bA base.length bc, .int .i64 t, .slice oA ops.length oc, .slice uA us.length uc, .slice wA now.length wc] 40)) (.cells #[.int .i64 s] 3)) (.cells #[.slice none 0 0, .int .i64 0, .slice none 0 0, .slice none 0 0, .slice none 0 0] 40)
  have hsz : (((w.alloc (.cells #[.slice bA base.length bc, .int .i64 t, .slice oA ops.length oc, .slice uA us.length uc, .slice wA now.length wc] 40)).alloc (.cells #[.int .i64 s] 3)).alloc (.cells #[.slice none 0 0, .int .i64 0, .slice none 0 0, .slice none 0 0, .slice none 0 0] 40)).heap.size = w.heap.size + 3 := by rw [alloc_size, alloc_size, alloc_size]
  have HL := Lib.hid hx
  clear hx
  go_enter Tryz.func63, Tryz.ntmps63
  go_wp2_with (first | (refine El.load pwRow rfl _ rfl w.heap.size 0 rfl (⟨bA, bc, base, t, oA, oc, ops, uA, uc, us, wA, wc, now⟩ : Pw) hP.at #[.slice bA base.length bc, .int .i64 t, .slice oA ops.length oc, .slice uA us.length uc, .slice wA now.length wc] rfl ?_) | fail)
  generalize ((w.alloc (.cells #[.slice bA base.length bc, .int .i64 t, .slice oA ops.length oc, .slice uA us.length uc, .slice wA now.length wc] 40)).alloc (.cells #[.int .i64 s] 3)).alloc (.cells #[.slice none 0 0, .int .i64 0, .slice none 0 0, .slice none 0 0, .slice none 0 0] 40) = W at *
  obtain ⟨n2, h2⟩ : ∃ n, w.heap.size + 2 = n := ⟨_, rfl⟩
  obtain ⟨n1, h1⟩ : ∃ n, w.heap.size + 1 = n := ⟨_, rfl⟩
  obtain ⟨n0, h0⟩ : ∃ n, w.heap.size = n := ⟨_, rfl⟩
  have HN := Lib.hid (show w.heap.size ≤ n0 ∧ n1 = n0 + 1 ∧ n2 = n0 + 2 by omega)
  have hn20 : n2 ≠ n0 := by omega
  try rw [show w.heap.size + 1 + 1 = n2 by omega]
  rw [h2] at hR
  rw [h1] at hO ⊢
  rw [h0] at hP ⊢
  try rw [h2]
  have hl1n : n1 < W.heap.size := by omega
  clear h0 h1 h2
  have hx1 := HL.out.below hB
  have CS := psame_any (⟨bA, bc, base, t, oA, oc, ops, uA, uc, us, wA, wc, now⟩ : Pw) W hx1 (by simp only; omega) (by simp only; omega) (by simp only; rw [HU.out]; omega) (by simp only; omega)
  simp only at CS
  refine CS.mono ?_
  rintro e W2 ⟨y, rfl, hy, hyv, hyf, hb2⟩
  have hR2 := hR.below hb2
  go_wp2_with (first | (refine El.store pwRow rfl _ _ rfl n2 y #[.slice y.bA y.base.length y.bc, .int .i64 y.t, .slice y.oA y.ops.length y.oc, .slice y.uA y.us.length y.uc, .slice y.wA y.now.length y.wc] rfl rfl rfl Pw.zero hR2 ?_))
  refine El.ret1 pwRow (hR2.set y #[.slice y.bA y.base.length y.bc, .int .i64 y.t, .slice y.oA y.ops.length y.oc, .slice y.uA y.us.length y.uc, .slice y.wA y.now.length y.wc] rfl) rfl rfl rfl #[.slice y.bA y.base.length y.bc, .int .i64 y.t, .slice y.oA y.ops.length y.oc, .slice y.uA y.us.length y.uc, .slice y.wA y.now.length y.wc] rfl ?_
  have hw2 : w.heap.size ≤ n2 := by have := HN.out; omega
  have hB2 := hB.trans (hb2.mono (by have := hB.size; omega))
  have hl2 := hR.lt
  exact ⟨y, rfl, hy.keep hyf (by_row _ _ _) hl2, hyv, below_setRow hB2 hw2 _⟩

set_option maxRecDepth 100000 in
set_option maxHeartbeats 4000000 in
theorem pSettle_new (x : Pw) (s : Int) (w : World) (hx : PastOk w x) (hI : PInv x.v) (hl : x.ops.length ≤ 200) (h : ¬ s ≤ x.t) :
    Calls Tryz.prog 63 #[.agg #[.slice x.bA x.base.length x.bc, .int .i64 x.t, .slice x.oA x.ops.length x.oc, .slice x.uA x.us.length x.uc, .slice x.wA x.now.length x.wc], .int .i64 s] w fun e w' => ∃ y : Pw, e = .returned (.agg #[.slice y.bA y.base.length y.bc, .int .i64 y.t, .slice y.oA y.ops.length y.oc, .slice y.uA y.us.length y.uc, .slice y.wA y.now.length y.wc]) ∧ PastOk w' y ∧ y.v = settleV x.v s ∧ Below w.heap.size w w' := by
  have ha : settleV x.v s = _ := hI.settle_eq h
  have hl1 : x.base.length ≤ 62 := tree_len hI.tree
  have hl4 : x.now.length ≤ 62 := tree_len hI.ntree
  have hl3 : x.us.length = x.ops.length := hI.ulen
  have hI' : Ris Mv.C Mv.D x.ops := hI.ris
  have hbs : Sorted x.base := (treeB_facts hI.tree).2.1
  obtain ⟨bA, bc, base, t, oA, oc, ops, uA, uc, us, wA, wc, now⟩ := x
  simp only at hl h hl1 hl3 hl4 hI' hbs
  simp only [Pw.v] at ha
  have HU := Lib.hid hl3
  have HA := Lib.hid ha
  clear ha hl3 hI
  have hP : pwE.In (((w.alloc (.cells #[.slice bA base.length bc, .int .i64 t, .slice oA ops.length oc, .slice uA us.length uc, .slice wA now.length wc] 40)).alloc (.cells #[.int .i64 s] 3)).alloc (.cells #[.slice none 0 0, .int .i64 0, .slice none 0 0, .slice none 0 0, .slice none 0 0] 40)) w.heap.size (⟨bA, bc, base, t, oA, oc, ops, uA, uc, us, wA, wc, now⟩ : Pw) := ((El.In.new (E := pwE) w (⟨bA, bc, base, t, oA, oc, ops, uA, uc, us, wA, wc, now⟩ : Pw) _ rfl).alloc _).alloc _
  have hO : (((w.alloc (.cells #[.slice bA base.length bc, .int .i64 t, .slice oA ops.length oc, .slice uA us.length uc, .slice wA now.length wc] 40)).alloc (.cells #[.int .i64 s] 3)).alloc (.cells #[.slice none 0 0, .int .i64 0, .slice none 0 0, .slice none 0 0, .slice none 0 0] 40)).cell? ⟨w.heap.size + 1, 0, none⟩ = some (.int .i64 s) := by go_simp
  have hR : pwE.In (((w.alloc (.cells #[.slice bA base.length bc, .int .i64 t, .slice oA ops.length oc, .slice uA us.length uc, .slice wA now.length wc] 40)).alloc (.cells #[.int .i64 s] 3)).alloc (.cells #[.slice none 0 0, .int .i64 0, .slice none 0 0, .slice none 0 0, .slice none 0 0] 40)) (w.heap.size + 2) Pw.zero := by
    have h := El.In.new (E := pwE) ((w.alloc (.cells #[.slice bA base.length bc, .int .i64 t, .slice oA ops.length oc, .slice uA us.length uc, .slice wA now.length wc] 40)).alloc (.cells #[.int .i64 s] 3)) Pw.zero #[.slice none 0 0, .int .i64 0, .slice none 0 0, .slice none 0 0, .slice none 0 0] rfl
    rw [alloc_size, alloc_size] at h; exact h
  have hB := below_alloc (below_alloc (below_alloc (Below.refl w.heap.size w) (.cells #[.slice bA base.length bc, .int .i64 t, .slice oA ops.length oc, .slice uA us.length uc, .slice wA now.length wc] 40)) (.cells #[.int .i64 s] 3)) (.cells #[.slice none 0 0, .int .i64 0, .slice none 0 0, .slice none 0 0, .slice none 0 0] 40)
  have hsz : (((w.alloc (.cells #[.slice bA base.length bc, .int .i64 t, .slice oA ops.length oc, .slice uA us.length uc, .slice wA now.length wc] 40)).alloc (.cells #[.int .i64 s] 3)).alloc (.cells #[.slice none 0 0, .int .i64 0, .slice none 0 0, .slice none 0 0, .slice none 0 0] 40)).heap.size = w.heap.size + 3 := by rw [alloc_size, alloc_size, alloc_size]
  have HL := Lib.hid hx
  clear hx
  have hE := even_any (⟨bA, bc, base, t, oA, oc, ops, uA, uc, us, wA, wc, now⟩ : Pw) (((w.alloc (.cells #[.slice bA base.length bc, .int .i64 t, .slice oA ops.length oc, .slice uA us.length uc, .slice wA now.length wc] 40)).alloc (.cells #[.int .i64 s] 3)).alloc (.cells #[.slice none 0 0, .int .i64 0, .slice none 0 0, .slice none 0 0, .slice none 0 0] 40)) HU.out
  simp only at hE
  go_enter Tryz.func63, Tryz.ntmps63
  go_wp2_with fail
  generalize ((w.alloc (.cells #[.slice bA base.length bc, .int .i64 t, .slice oA ops.length oc, .slice uA us.length uc, .slice wA now.length wc] 40)).alloc (.cells #[.int .i64 s] 3)).alloc (.cells #[.slice none 0 0, .int .i64 0, .slice none 0 0, .slice none 0 0, .slice none 0 0] 40) = W at *
  obtain ⟨n2, h2⟩ : ∃ n, w.heap.size + 2 = n := ⟨_, rfl⟩
  obtain ⟨n1, h1⟩ : ∃ n, w.heap.size + 1 = n := ⟨_, rfl⟩
  obtain ⟨n0, h0⟩ : ∃ n, w.heap.size = n := ⟨_, rfl⟩
  have HN := Lib.hid (show w.heap.size ≤ n0 ∧ n1 = n0 + 1 ∧ n2 = n0 + 2 by omega)
  have hn20 : n2 ≠ n0 := by omega
  try rw [show w.heap.size + 1 + 1 = n2 by omega]
  rw [h2] at hR
  rw [h1] at hO ⊢
  rw [h0] at hP ⊢
  try rw [h2]
  have hl1n : n1 < W.heap.size := by omega
  clear h0 h1 h2
  refine hE.mono ?_
  rintro e W2 ⟨rfl, hb2⟩
  clear hE
  replace hP := hP.below hb2
  replace hR := hR.below hb2
  have hO2 : W2.cell? ⟨n1, 0, none⟩ = some (.int .i64 s) := by rw [(bcell hb2).1 _ _ hl1n]; exact hO
  replace hB := hB.trans (hb2.mono (by have := hB.size; omega))
  have hl1m : n1 < W2.heap.size := by have := hb2.size; omega
  clear hb2 hO hl1n hsz
  have hxo := (HL.out.below hB).o
  simp only at hxo
  have hl0 := hP.lt
  have CS := search2_any ops.length n0 n1 (fun i => if h : i < ops.length then decide (s < ops[i].C) else true) W2 (by omega)
    (fun i j hij hj hpi => by
      rw [dif_pos (show i < ops.length by omega)] at hpi
      rw [dif_pos hj]
      have := ris_c hI' (show i < ops.length by omega) hj hij
      rw [decide_eq_true_iff] at hpi ⊢; omega)
    (fun i w' hi hb => by
      have := upOne_any i (⟨bA, bc, base, t, oA, oc, ops, uA, uc, us, wA, wc, now⟩ : Pw) s n0 n1 w' (hP.below hb) (by rw [(bcell hb).1 _ _ hl1m]; exact hO2) (hxo.1.below hb) hi (by simp only; omega)
      rw [dif_pos hi]; exact this)
  obtain ⟨p0, p1, p2, p3, p4⟩ := pwIn5 hP
  go_wp2_with fail
  clear p0 p1 p2 p3 p4
  refine CS.mono ?_
  rintro e W3 ⟨k, rfl, hk, hlo, hhi, hb3⟩
  clear CS
  have hup : k = upto Mv.C ops s := upto_eq hk (fun i hi hik => by have := hlo i hik; rw [dif_pos hi] at this; have := of_decide_eq_false this; omega) (fun hi => by have := hhi k (Nat.le_refl _) hi; rw [dif_pos hi] at this; exact of_decide_eq_true this)
  have hna := HA.out
  rw [← hup] at hna
  have HNA := Lib.hid hna
  replace hP := hP.below hb3
  replace hR := hR.below hb3
  have hO3 : W3.cell? ⟨n1, 0, none⟩ = some (.int .i64 s) := by rw [(bcell hb3).1 _ _ hl1m]; exact hO2
  replace hB := hB.trans (hb3.mono (by have := hB.size; omega))
  have hl2n : n2 < W3.heap.size := hR.lt
  replace hl1m : n1 < W3.heap.size := by have := hb3.size; omega
  clear hb3 hO2 hlo hhi hna HA hup hl0 hxo
  go_wp2_with fail
  have hx3 := HL.out.below hB
  have hxb := hx3.b
  have hxo := hx3.o
  have hxu := hx3.u
  have hxw := hx3.w
  simp only at hxb hxo hxu hxw
  obtain ⟨A3, hA3⟩ : ∃ A3 : Option Addr, (if oc = k then oA else Option.map (fun x => x.add (k * 7)) oA) = A3 := ⟨_, rfl⟩
  obtain ⟨U3, hU3⟩ : ∃ U3 : Option Addr, (if uc = k then uA else Option.map (fun x => x.add (k * 5)) uA) = U3 := ⟨_, rfl⟩
  have ht1 := hxo.1.take k
  have ht3 := hxo.1.drop (tz := k) hxo.2.2 hA3
  have htu := hxu.1.drop (tz := k) hxu.2.2 hU3
  have e1 : (ops.take k).length = k := by rw [List.length_take]; omega
  have e3 : (ops.drop k).length = ops.length - k := List.length_drop
  have eu : (us.drop k).length = us.length - k := List.length_drop
  have hv3 : SlV opE W3 A3 (oc - k) (ops.drop k) := ⟨ht3, El.drop_none hxo.2.1 hA3, by rw [e3]; have := hxo.2.2; omega⟩
  have hvu : SlV unE W3 U3 (uc - k) (us.drop k) := ⟨htu, El.drop_none hxu.2.1 hU3, by rw [eu]; have := hxu.2.2; omega⟩
  have hkc : k ≤ oc := Nat.le_trans hk hxo.2.2
  have i0 : (0 : Int) ≤ (k : Int) := by omega
  have i1 : (k : Int) ≤ (oc : Int) := by omega
  have i2 : (k : Int) ≤ (ops.length : Int) := by omega
  have i3 : (k : Int) ≤ (us.length : Int) := by have := HU.out; omega
  have i4 : (k : Int) ≤ (uc : Int) := by have := hxu.2.2; have := HU.out; omega
  have CF := mvFold_any bA bc base oA oc (ops.take k) W3.drew (by rw [e1]; omega) hbs hxb ht1
  rw [e1] at CF
  have HCF := Lib.hid CF
  have HE3 := Lib.hid e3
  have HEU := Lib.hid eu
  clear CF ht1 ht3 htu hxb hxo hxu e1 e3 eu hx3
  generalize hL3 : ops.drop k = L3 at *
  generalize hus3 : us.drop k = us3 at *
  generalize (foldL base (mvs (ops.take k))).1 = b4 at *
  generalize (foldL base (mvs (ops.take k))).2 = u4 at *
  clear hL3 hus3
  have hP0 := hP
  have hPd : pwE.In W3.drew n0 (⟨bA, bc, base, t, oA, oc, ops, uA, uc, us, wA, wc, now⟩ : Pw) := hP
  have hd3 : Below W3.heap.size W3 W3.drew := (Below.refl _ _).drew
  go_region_held3 (fun w' => w'.cell? ⟨n0, 0, none⟩ = some (.slice bA base.length bc) ∧ w'.cell? ⟨n0, 2, none⟩ = some (.slice oA ops.length oc)) (with_reducible first | exact ⟨(pwIn5 hPd).1, (pwIn5 hPd).2.2.1⟩ | exact ⟨(pwIn5 hP4).1, (pwIn5 hP4).2.2.1⟩) (first | (go_at_call 52; (with_reducible refine HCF.out.mono ?_); rintro e W4 ⟨A4, c4, U4, uc4, rfl, hS4, hU4, hf4, hfu4, hb4⟩; have hb34 := hd3.trans (hb4.mono hd3.size); have hP4 := hP0.below hb34))
  replace hR := hR.below hb34
  replace hB := hB.trans (hb34.mono hB.size)
  have hO4 : W4.cell? ⟨n1, 0, none⟩ = some (.int .i64 s) := by rw [(bcell hb34).1 _ _ hl1m]; exact hO3
  have hl2 : n2 < W3.heap.size := by have := hb34.size; exact hl2n
  have hl1m4 : n1 < W4.heap.size := by have := hb34.size; omega
  replace hv3 := hv3.below hb34
  replace hvu := hvu.below hb34
  replace hxw := hxw.below hb34
  clear hP hP0 hPd hd3 hU4 hfu4 hO3 HCF hb4
  have hl24 : n2 < W4.heap.size := hR.lt
  have C1 := fun (wx : World) (h : SlV opE wx A3 (oc - k) L3) => cloneOp_any A3 (oc - k) L3 wx (by have := HE3.out; omega) h
  have C2 := fun (wx : World) (h : SlV unE wx U3 (uc - k) us3) => cloneUn_any U3 (uc - k) us3 wx (by have := HEU.out; have := HU.out; omega) h
  have C3 := fun (wx : World) (h : SlV plE wx wA wc now) => clonePl_any wA wc now wx (by omega) h
  rw [show (#[Value.slice A3 L3.length (oc - k)] : Array Value) = #[Value.slice A3 (ops.length - k) (oc - k)] by rw [HE3.out]] at C1
  rw [show (#[Value.slice U3 us3.length (uc - k)] : Array Value) = #[Value.slice U3 (us.length - k) (uc - k)] by rw [HEU.out]] at C2
  have HC1 := Lib.hid C1
  have HC2 := Lib.hid C2
  have HC3 := Lib.hid C3
  clear C1 C2 C3
  have hv30 : SlV opE W4.drew A3 (oc - k) L3 := hv3
  have hd4 : Below W4.heap.size W4 W4.drew := (Below.refl _ _).drew
  have hPd : pwE.In W4.drew n0 (⟨bA, bc, base, t, oA, oc, ops, uA, uc, us, wA, wc, now⟩ : Pw) := hP4
  have hOd : W4.drew.cell? ⟨n1, 0, none⟩ = some (.int .i64 s) := hO4
  have hn02 : some n0 ≠ some n2 := fun e => hn20 (Option.some.inj e).symm
  have hn12 : some n1 ≠ some n2 := fun e => by have := Option.some.inj e; have := HN.out; omega
  go_wp2_with fail
  go_region_held3 (fun w' => w'.cell? ⟨n1, 0, none⟩ = some (.int .i64 s) ∧ w'.cell? ⟨n0, 2, none⟩ = some (.slice oA ops.length oc) ∧ w'.cell? ⟨n0, 3, none⟩ = some (.slice uA us.length uc) ∧ w'.cell? ⟨n0, 4, none⟩ = some (.slice wA now.length wc)) (with_reducible first | exact ⟨hOd, (pwIn5 hPd).2.2.1, (pwIn5 hPd).2.2.2.1, (pwIn5 hPd).2.2.2.2⟩ | exact ⟨hO5, (pwIn5 hP5).2.2.1, (pwIn5 hP5).2.2.2.1, (pwIn5 hP5).2.2.2.2⟩ | exact ⟨hO6, (pwIn5 hP6).2.2.1, (pwIn5 hP6).2.2.2.1, (pwIn5 hP6).2.2.2.2⟩ | exact ⟨hO7, (pwIn5 hP7).2.2.1, (pwIn5 hP7).2.2.2.1, (pwIn5 hP7).2.2.2.2⟩ | exact ⟨hOz, (pwIn5 (hP7.keep (pw_put hR7 ⟨A4, c4, b4, s, A5, c5, L3, A6, c6, us3, A7, c7, now⟩).2 hn02)).2.2.1, (pwIn5 (hP7.keep (pw_put hR7 ⟨A4, c4, b4, s, A5, c5, L3, A6, c6, us3, A7, c7, now⟩).2 hn02)).2.2.2.1, (pwIn5 (hP7.keep (pw_put hR7 ⟨A4, c4, b4, s, A5, c5, L3, A6, c6, us3, A7, c7, now⟩).2 hn02)).2.2.2.2⟩) (first | (go_at_call 59; (with_reducible refine (HC1.out _ hv30).mono ?_); rintro e W5 ⟨A5, c5, rfl, hS5, hf5, hb5⟩; have hb45 := hd4.trans (hb5.mono hd4.size); have hP5 := hP4.below hb45; have hO5 : W5.cell? ⟨n1, 0, none⟩ = some (.int .i64 s) := (by rw [(bcell hb45).1 _ _ hl1m4]; exact hO4); have hvu5 := hvu.below hb45; have hxw5 := hxw.below hb45) | (go_at_call 82; (with_reducible refine (HC2.out _ hvu5).mono ?_); rintro e W6 ⟨A6, c6, rfl, hS6, hf6, hb6⟩; have hb46 := hb45.trans (hb6.mono hb45.size); have hP6 := hP4.below hb46; have hO6 : W6.cell? ⟨n1, 0, none⟩ = some (.int .i64 s) := (by rw [(bcell hb46).1 _ _ hl1m4]; exact hO4); have hxw6 := hxw5.below hb6) | (go_at_call 54; (with_reducible refine (HC3.out _ hxw6).mono ?_); rintro e W7 ⟨A7, c7, rfl, hS7, hf7, hb7⟩; have hb47 := hb46.trans (hb7.mono hb46.size); have hP7 := hP4.below hb47; have hO7 : W7.cell? ⟨n1, 0, none⟩ = some (.int .i64 s) := (by rw [(bcell hb47).1 _ _ hl1m4]; exact hO4); have hR7 := hR.below hb47; have hOz := (pw_put hR7 ⟨A4, c4, b4, s, A5, c5, L3, A6, c6, us3, A7, c7, now⟩).2.cell hO7 hn12; obtain ⟨r0, r1, r2, r3, r4⟩ := pwIn5 hR7; have rf := hR7.frozen))
  have hz := pw_put hR7 ⟨A4, c4, b4, s, A5, c5, L3, A6, c6, us3, A7, c7, now⟩
  go_wp2
  refine El.ret1 pwRow hz.1 rfl rfl rfl #[.slice A4 b4.length c4, .int .i64 s, .slice A5 L3.length c5, .slice A6 us3.length c6, .slice A7 now.length c7] rfl ?_
  have g5 := hb45.size
  have g6 := hb46.size
  have hB7 := hB.trans (hb47.mono hB.size)
  exact ⟨⟨A4, c4, b4, s, A5, c5, L3, A6, c6, us3, A7, c7, now⟩, rfl, ⟨(hS4.below hb47).keep hf4 hz.2 hl2, (hS5.below (below_then hb6 hb7)).keep hf5 hz.2 hl24, (hS6.below hb7).keep hf6 hz.2 (by omega), hS7.keep hf7 hz.2 (by omega)⟩, by show _ = settleV ⟨base, t, ops, us, now⟩ s; rw [HNA.out]; rfl, hB7.grown hz.2 hB7.size (fun j e => by have := Option.some.inj e; have := HN.out; omega)⟩

theorem pSettle_any (x : Pw) (s : Int) (w : World) (hx : PastOk w x) (hI : PInv x.v) (hl : x.ops.length ≤ 200) :
    Calls Tryz.prog 63 #[.agg #[.slice x.bA x.base.length x.bc, .int .i64 x.t, .slice x.oA x.ops.length x.oc, .slice x.uA x.us.length x.uc, .slice x.wA x.now.length x.wc], .int .i64 s] w fun e w' => ∃ y : Pw, e = .returned (.agg #[.slice y.bA y.base.length y.bc, .int .i64 y.t, .slice y.oA y.ops.length y.oc, .slice y.uA y.us.length y.uc, .slice y.wA y.now.length y.wc]) ∧ PastOk w' y ∧ y.v = settleV x.v s ∧ Below w.heap.size w w' := by
  by_cases h : s ≤ x.t
  · exact pSettle_late x s w hx hI hl h
  · exact pSettle_new x s w hx hI hl h
theorem pAdd_any (x : Pw) (m : Mv) (w : World) (hx : PastOk w x) (hI : PInv x.v) (hl : x.ops.length ≤ 200) :
    Calls Tryz.prog 25 #[.agg #[.slice x.bA x.base.length x.bc, .int .i64 x.t, .slice x.oA x.ops.length x.oc, .slice x.uA x.us.length x.uc, .slice x.wA x.now.length x.wc], .agg #[.int .i64 m.C, .int .i64 m.D, .int .i64 m.I, .int .i64 m.M, .int .i64 m.K, .int .i64 m.U, .string m.s]] w fun e w' => ∃ y : Pw, e = .returned (.tuple #[.agg #[.slice y.bA y.base.length y.bc, .int .i64 y.t, .slice y.oA y.ops.length y.oc, .slice y.uA y.us.length y.uc, .slice y.wA y.now.length y.wc], .bool (addV x.v m).2]) ∧ PastOk w' y ∧ y.v = (addV x.v m).1 ∧ Below w.heap.size w w' := by
  by_cases h : m.C ≤ x.t
  · cases hh : has Mv.C Mv.D x.ops m
    · exact pAdd_late x m w hx hI hl (Or.inr ⟨hh, h⟩)
    · exact pAdd_late x m w hx hI hl (Or.inl hh)
  · cases hh : has Mv.C Mv.D x.ops m
    · have e : (addV x.v m).2 = true := by rw [addV_new' (q := x.v) h hh]
      rw [e]
      exact pAdd_new x m w hx hI hl hh h
    · exact pAdd_late x m w hx hI hl (Or.inl hh)
end Go.Proofs.YtdcjffajmckleaaGreatDoor

/- The document's Own and Of. -/
namespace Go.Proofs.YtdcjffajmckleaaGreatDoor
open Go.RowKit Tre Cod Pst

/-- How many of the first k are so. -/
def cntO (p : Mv → Bool) (l : List Mv) (k : Nat) : Nat := ((l.take k).filter p).length
theorem cntO_next {p : Mv → Bool} {l : List Mv} {k : Nat} {x : Mv} (h : k < l.length) (hx : l[k] = x) : cntO p l (k + 1) = cntO p l k + (if p x then 1 else 0) := by
  unfold cntO
  rw [List.take_succ_eq_append_getElem h, List.filter_append, List.length_append, hx]
  congr 1
  cases hp : p x <;> simp [hp]
theorem cntO_all (p : Mv → Bool) (l : List Mv) : cntO p l l.length = (l.filter p).length := by unfold cntO; rw [List.take_length]
theorem cntO_le (p : Mv → Bool) (l : List Mv) (k : Nat) : cntO p l k ≤ l.length := by
  unfold cntO
  have h1 := List.length_filter_le p (l.take k)
  have h2 : (l.take k).length ≤ l.length := by rw [List.length_take]; omega
  omega

end Go.Proofs.YtdcjffajmckleaaGreatDoor

/- Own, Of and count of the program. -/
namespace Go.Proofs.YtdcjffajmckleaaGreatDoor
open Go.RowKit Tre Cod Pst

theorem ownOne_any (m : Mv) (d i : Int) (b1 b2 : Nat) (w : World) (h1 : w.cell? ⟨b1, 0, none⟩ = some (.int .i64 d)) (h2 : w.cell? ⟨b2, 0, none⟩ = some (.int .i64 i)) (l1 : b1 < w.heap.size) (l2 : b2 < w.heap.size) :
    Calls Tryz.prog 72 #[.agg #[.int .i64 m.C, .int .i64 m.D, .int .i64 m.I, .int .i64 m.M, .int .i64 m.K, .int .i64 m.U, .string m.s], .pointer (some ⟨b1, 0, none⟩), .pointer (some ⟨b2, 0, none⟩)] w fun e w' => e = .returned (.bool (decide (m.D = d ∧ m.I = i))) ∧ Below w.heap.size w w' := by
  have n1 : b1 ≠ w.heap.size := by omega
  have n2 : b2 ≠ w.heap.size := by omega
  by_cases e1 : m.D = d
  · by_cases e2 : m.I = i
    · rw [decide_eq_true ⟨e1, e2⟩]
      go_enter Tryz.func72, Tryz.ntmps72
      go_wp2
      go_ret
      exact ⟨rfl, below_alloc (Below.refl _ _) _⟩
    · rw [decide_eq_false (fun h => e2 h.2)]
      have e2 : (m.I == i) = false := beq_eq_false_iff_ne.2 e2
      go_enter Tryz.func72, Tryz.ntmps72
      go_wp2
      go_ret
      exact ⟨rfl, below_alloc (Below.refl _ _) _⟩
  · rw [decide_eq_false (fun h => e1 h.1)]
    have e1 : (m.D == d) = false := beq_eq_false_iff_ne.2 e1
    go_enter Tryz.func72, Tryz.ntmps72
    go_wp2
    go_ret
    exact ⟨rfl, below_alloc (Below.refl _ _) _⟩
set_option maxRecDepth 100000 in
set_option maxHeartbeats 1000000 in
theorem countOwn_any (A : Option Addr) (c : Nat) (l : List Mv) (p : Mv → Bool) (b1 b2 : Nat) (w : World) (hT : opE.Sl w A l) (hl : l.length ≤ 50000)
    (HF : ∀ (m : Mv) (w' : World), Below w.heap.size w w' → Calls Tryz.prog 72 #[.agg #[.int .i64 m.C, .int .i64 m.D, .int .i64 m.I, .int .i64 m.M, .int .i64 m.K, .int .i64 m.U, .string m.s], .pointer (some ⟨b1, 0, none⟩), .pointer (some ⟨b2, 0, none⟩)] w' fun e w'' => e = .returned (.bool (p m)) ∧ Below w'.heap.size w' w'') :
    Calls Tryz.prog 71 #[.slice A l.length c, .func (.func 72) #[] #[.pointer (some ⟨b1, 0, none⟩), .pointer (some ⟨b2, 0, none⟩)]] w fun e w' => e = .returned (.int .i64 ((l.filter p).length)) ∧ Below w.heap.size w w' := by
  rw [← cntO_all]
  have HCF := Lib.hid HF
  clear HF
  go_enter Tryz.func71, Tryz.ntmps71
  go_wp2
  go_loopw [5, 10] (fun x y wr => ∃ k : Nat, k ≤ l.length ∧ y = .int .i64 k ∧ x = .int .i64 (cntO p l k) ∧ Below w.heap.size w wr) (fun _ y _ => l.length - (intOf y).toNat)
  case atStart => exact ⟨0, Nat.zero_le _, rfl, rfl, Below.refl _ _⟩
  case round =>
    obtain ⟨k, hk, rfl, rfl, hnx⟩ := hrel
    have hcl := cntO_le p l k
    by_cases hkl : k < l.length
    · obtain ⟨b, off, rfl, hbw, hc⟩ := hT (by omega)
      have hat : opE.At wr b (off + k * 7) l[k] := (hc k hkl).below hnx hbw
      obtain ⟨mk, hmk⟩ : ∃ mk, l[k] = mk := ⟨_, rfl⟩
      rw [hmk] at hat
      have hnext := cntO_next (p := p) hkl hmk
      have hI : opE.In ((wr.alloc (.cells #[.int .i64 0, .int .i64 0, .int .i64 0, .int .i64 0, .int .i64 0, .int .i64 0, .string ⟨#[]⟩] 55)).setRow wr.heap.size #[.int .i64 mk.C, .int .i64 mk.D, .int .i64 mk.I, .int .i64 mk.M, .int .i64 mk.K, .int .i64 mk.U, .string mk.s]) wr.heap.size mk := (El.In.new (E := opE) wr zeroMv #[.int .i64 0, .int .i64 0, .int .i64 0, .int .i64 0, .int .i64 0, .int .i64 0, .string ⟨#[]⟩] rfl).set mk #[.int .i64 mk.C, .int .i64 mk.D, .int .i64 mk.I, .int .i64 mk.M, .int .i64 mk.K, .int .i64 mk.U, .string mk.s] rfl
      have hb1 : Below wr.heap.size wr ((wr.alloc (.cells #[.int .i64 0, .int .i64 0, .int .i64 0, .int .i64 0, .int .i64 0, .int .i64 0, .string ⟨#[]⟩] 55)).setRow wr.heap.size #[.int .i64 mk.C, .int .i64 mk.D, .int .i64 mk.I, .int .i64 mk.M, .int .i64 mk.K, .int .i64 mk.U, .string mk.s]) := below_setRow (below_alloc (Below.refl _ _) _) (Nat.le_refl _) _
      have hF := HCF.out mk _ (below_then hnx hb1)
      have HI := Lib.hid hI
      have HCM := Lib.hid hF
      have hz : opE.In (wr.alloc (.cells #[.int .i64 0, .int .i64 0, .int .i64 0, .int .i64 0, .int .i64 0, .int .i64 0, .string ⟨#[]⟩] 55)) wr.heap.size zeroMv := El.In.new (E := opE) wr zeroMv #[.int .i64 0, .int .i64 0, .int .i64 0, .int .i64 0, .int .i64 0, .int .i64 0, .string ⟨#[]⟩] rfl
      have HN := Lib.hid hnext
      clear hnext hc hmk hI hF
      generalize hcn : cntO p l k = cn at *
      clear hcn
      cases hp : p mk
      · rw [hp] at HCM HN
        go_wp2_with (first | (refine El.load opRow rfl _ rfl b (off + k * 7) rfl mk hat #[.int .i64 mk.C, .int .i64 mk.D, .int .i64 mk.I, .int .i64 mk.M, .int .i64 mk.K, .int .i64 mk.U, .string mk.s] rfl ?_) | (refine El.store opRow rfl _ _ rfl wr.heap.size mk #[.int .i64 mk.C, .int .i64 mk.D, .int .i64 mk.I, .int .i64 mk.M, .int .i64 mk.K, .int .i64 mk.U, .string mk.s] rfl rfl rfl zeroMv hz ?_) | (refine El.load opRow rfl _ rfl wr.heap.size 0 rfl mk HI.out.at #[.int .i64 mk.C, .int .i64 mk.D, .int .i64 mk.I, .int .i64 mk.M, .int .i64 mk.K, .int .i64 mk.U, .string mk.s] rfl ?_) | (go_at_call 72; (with_reducible refine HCM.out.mono ?_); rintro e w3 ⟨rfl, hb3⟩))
        go_roundw
        case rel => exact ⟨k + 1, by omega, by go_num, by rw [HN.out]; go_num, below_then hnx (below_then hb1 hb3)⟩
        case measure => simp [intOf]; omega
      · rw [hp] at HCM HN
        go_wp2_with (first | (refine El.load opRow rfl _ rfl b (off + k * 7) rfl mk hat #[.int .i64 mk.C, .int .i64 mk.D, .int .i64 mk.I, .int .i64 mk.M, .int .i64 mk.K, .int .i64 mk.U, .string mk.s] rfl ?_) | (refine El.store opRow rfl _ _ rfl wr.heap.size mk #[.int .i64 mk.C, .int .i64 mk.D, .int .i64 mk.I, .int .i64 mk.M, .int .i64 mk.K, .int .i64 mk.U, .string mk.s] rfl rfl rfl zeroMv hz ?_) | (refine El.load opRow rfl _ rfl wr.heap.size 0 rfl mk HI.out.at #[.int .i64 mk.C, .int .i64 mk.D, .int .i64 mk.I, .int .i64 mk.M, .int .i64 mk.K, .int .i64 mk.U, .string mk.s] rfl ?_) | (go_at_call 72; (with_reducible refine HCM.out.mono ?_); rintro e w3 ⟨rfl, hb3⟩))
        go_roundw
        case rel => exact ⟨k + 1, by omega, by go_num, by rw [HN.out]; go_num, below_then hnx (below_then hb1 hb3)⟩
        case measure => simp [intOf]; omega
    · obtain rfl : k = l.length := by omega
      go_wp2
      go_ret
      exact ⟨rfl, hnx⟩
set_option maxRecDepth 100000 in
theorem pOwn_any (x : Pw) (d i : Int) (w : World) (hx : PastOk w x) (hl : x.ops.length ≤ 50000) :
    Calls Tryz.prog 45 #[.agg #[.slice x.bA x.base.length x.bc, .int .i64 x.t, .slice x.oA x.ops.length x.oc, .slice x.uA x.us.length x.uc, .slice x.wA x.now.length x.wc], .int .i64 d, .int .i64 i] w fun e w' => e = .returned (.int .i64 (ownV x.v d i)) ∧ Below w.heap.size w w' := by
  obtain ⟨bA, bc, base, t, oA, oc, ops, uA, uc, us, wA, wc, now⟩ := x
  simp only at hl
  have hB := below_alloc (below_alloc (below_alloc (Below.refl w.heap.size w) (.cells #[.slice bA base.length bc, .int .i64 t, .slice oA ops.length oc, .slice uA us.length uc, .slice wA now.length wc] 40)) (.cells #[.int .i64 d] 3)) (.cells #[.int .i64 i] 3)
  have hxo := hx.o.below hB
  simp only at hxo
  have hs : (((w.alloc (.cells #[.slice bA base.length bc, .int .i64 t, .slice oA ops.length oc, .slice uA us.length uc, .slice wA now.length wc] 40)).alloc (.cells #[.int .i64 d] 3)).alloc (.cells #[.int .i64 i] 3)).heap.size = w.heap.size + 3 := by rw [alloc_size, alloc_size, alloc_size]
  have q1 : (((w.alloc (.cells #[.slice bA base.length bc, .int .i64 t, .slice oA ops.length oc, .slice uA us.length uc, .slice wA now.length wc] 40)).alloc (.cells #[.int .i64 d] 3)).alloc (.cells #[.int .i64 i] 3)).cell? ⟨w.heap.size + 1, 0, none⟩ = some (.int .i64 d) := by go_simp
  have q2 : (((w.alloc (.cells #[.slice bA base.length bc, .int .i64 t, .slice oA ops.length oc, .slice uA us.length uc, .slice wA now.length wc] 40)).alloc (.cells #[.int .i64 d] 3)).alloc (.cells #[.int .i64 i] 3)).cell? ⟨w.heap.size + 2, 0, none⟩ = some (.int .i64 i) := by go_simp
  have C := countOwn_any oA oc ops (fun m => decide (m.D = d ∧ m.I = i)) (w.heap.size + 1) (w.heap.size + 2) _ hxo.1 hl (fun m w' hb => ownOne_any m d i _ _ w' (by rw [(bcell hb).1 _ _ (by omega)]; exact q1) (by rw [(bcell hb).1 _ _ (by omega)]; exact q2) (by have := hb.size; omega) (by have := hb.size; omega))
  have hv : ownV (⟨bA, bc, base, t, oA, oc, ops, uA, uc, us, wA, wc, now⟩ : Pw).v d i = (ops.filter fun m => decide (m.D = d ∧ m.I = i)).length := rfl
  rw [hv]
  generalize (ops.filter fun m => decide (m.D = d ∧ m.I = i)).length = N at *
  have HC := Lib.hid C
  clear C hx
  go_enter Tryz.func45, Tryz.ntmps45
  go_wp2_with (go_at_call 71; (with_reducible refine HC.out.mono ?_); rintro e w3 ⟨rfl, hb3⟩)
  go_ret
  exact ⟨rfl, below_then hB hb3⟩
end Go.Proofs.YtdcjffajmckleaaGreatDoor

/- The law's example; what a past's block leaves of pasts. -/
namespace Go.Proofs.YtdcjffajmckleaaGreatDoor
open Go.RowKit Tre Cod Pst Nam

theorem two_int {w : World} {n o : Nat} {x : Pw} {a b : Int} (h : pwE.In w n x) (h1 : w.cell? ⟨n, o, none⟩ = some (.int .i64 a)) (h2 : w.cell? ⟨n, o + 1, none⟩ = some (.int .i64 b)) : False := by
  rw [h.cell] at h1 h2
  match o, h1, h2 with
  | 0, h1, _ => exact absurd (Option.some.inj h1) (by intro e; cases e)
  | 1, _, h2 => exact absurd (Option.some.inj h2) (by intro e; cases e)
  | 2, h1, _ => exact absurd (Option.some.inj h1) (by intro e; cases e)
  | 3, h1, _ => exact absurd (Option.some.inj h1) (by intro e; cases e)
  | 4, h1, _ => exact absurd (Option.some.inj h1) (by intro e; cases e)
  | o + 5, h1, _ => exact absurd h1 (by intro e; cases e)
theorem SlV.off {α : Type} {E : El α} {w w' : World} {A : Option Addr} {c n : Nat} {l : List α} {x : Pw} (h : SlV E w A c l) (hp : pwE.In w n x) (hg : w.grownBy w' (some n)) (hi : ∀ y : α, ∃ a b : Int, (E.c y)[0]? = some (.int .i64 a) ∧ (E.c y)[1]? = some (.int .i64 b)) : SlV E w' A c l := by
  refine ⟨?_, h.2⟩
  intro h0
  obtain ⟨b, off, e, hl, hc⟩ := h.1 h0
  refine ⟨b, off, e, Nat.lt_of_lt_of_le hl hg.size, fun i hi2 => (hc i hi2).grown hg fun e2 => ?_⟩
  have e3 := Option.some.inj e2
  subst e3
  obtain ⟨a1, a2, h1, h2⟩ := hi l[0]
  have g1 := hc 0 h0 0 _ h1
  have g2 := hc 0 h0 1 _ h2
  exact two_int hp g1 g2
/-- A past's own block is written: other pasts stay. -/
theorem PastOk.off {w w' : World} {n : Nat} {x y : Pw} (h : PastOk w y) (hp : pwE.In w n x) (hg : w.grownBy w' (some n)) : PastOk w' y :=
  ⟨h.b.off hp hg fun p => ⟨p.n, p.u, rfl, rfl⟩, h.o.off hp hg fun m => ⟨m.C, m.D, rfl, rfl⟩, h.u.off hp hg fun u => ⟨u.was.n, u.was.u, rfl, rfl⟩, h.w.off hp hg fun p => ⟨p.n, p.u, rfl, rfl⟩⟩

end Go.Proofs.YtdcjffajmckleaaGreatDoor

/- The library's Builder: what WriteString does with one of the call's own. -/
namespace Go.Proofs.YtdcjffajmckleaaGreatDoor
open Go.RowKit
/-- What is no row of bytes and isn't block b stays. -/
def Rest (b : Nat) (w w' : World) : Prop := ∀ k cs T fr, w.heap[k]? = some (.cells cs T fr) → k ≠ b → T ≠ 5 → w'.heap[k]? = w.heap[k]?
theorem Rest.then {b : Nat} {w w1 w2 : World} (h : Rest b w w1) (k : Rest b w1 w2) : Rest b w w2 := fun i cs T fr hi hne hT => by
  have h1 := h i cs T fr hi hne hT
  rw [k i cs T fr (h1.trans hi) hne hT, h1]
theorem Rest.cell (b : Nat) (w : World) (j : Nat) (v : Value) : Rest b w (w.setCell ⟨b, j, none⟩ v) := fun k _ _ _ _ hne _ => Below.heap_setCell _ _ _ _ hne

end Go.Proofs.YtdcjffajmckleaaGreatDoor

/- What Print gives, of the program and of the document. -/
namespace Go.Proofs.YtdcjffajmckleaaGreatDoor
open Go.RowKit Tre Nam Cod
theorem headOf (l : List Pl) (n : Nat) (h : l.length ≤ 1000) : (bytesOf l.length).size ≤ 10 := bytesOf_le _ (by omega) (by omega)
theorem catL_take (l : List Pl) (k : Nat) (h : k < l.length) : catL (l.take (k + 1)) = catL (l.take k) ++ plBytes l[k] := by
  rw [List.take_succ_eq_append_getElem h, catL_snoc]
theorem take_le {l : List Pl} (hf : ∀ p ∈ l, Fit p) (k : Nat) : (catL (l.take k)).size ≤ 46 * l.length := by
  have h := catL_le (l.take k) (fun p hp => hf p (List.mem_of_mem_take hp))
  have : (l.take k).length ≤ l.length := by rw [List.length_take]; omega
  omega
theorem PlIn.rest {w w' : World} {b k : Nat} {p : Pl} (h : PlIn w k p) (hr : Rest b w w') (hne : k ≠ b) : PlIn w' k p := (hr k _ _ _ h hne (by decide)).trans h

set_option maxHeartbeats 4000000 in
theorem refPrint_any (A : Option Addr) (cap : Nat) (l : List Pl) (w : World) (hl : l.length ≤ 1000) (hf : ∀ p ∈ l, Fit p) (hT : Tr w A l) :
    Calls Tryz.prog 88 #[.slice A l.length cap] w fun e w' => e = .returned (.string (treeBytes l)) ∧ Below w.heap.size w w' := by
  have cn := fun w => refNum_any (l.length : Int) w (by omega) (by omega)
  have hh := headOf l 0 hl
  have hT0 : treeBytes l = bytesOf l.length ++ catL l := rfl
  have HT0 := Lib.hid hT0
  generalize bytesOf (l.length : Int) = H at *
  have CN := Lib.hid cn
  clear hT0 cn
  go_enter Tryz.func88, Tryz.ntmps88
  go_wp2_with (go_at_call 56; (with_reducible refine (CN.out _).mono ?_); rintro e w1 ⟨rfl, hb1⟩)
  go_loopw [3, 4] (fun v x wr => ∃ k : Nat, k ≤ l.length ∧ x = .int .i64 k ∧ v = .string (H ++ catL (l.take k)) ∧ Below w.heap.size w wr) (fun _ x _ => l.length - (intOf x).toNat)
  case atStart => exact ⟨0, Nat.zero_le _, rfl, by simp [catL]; rw [bempty], hb1⟩
  case round =>
    obtain ⟨k, hk, rfl, rfl, hnx⟩ := hrel
    have htl := take_le hf k
    by_cases hlt : k < l.length
    · obtain ⟨bb, off, hAe, hbw, hc⟩ := hT (by omega)
      have hbr := Nat.lt_of_lt_of_le hbw hnx.size
      have hat := (hc k hlt).below hnx hbw
      have hft := hf _ (List.getElem_mem hlt)
      have hcat := catL_take l k hlt
      obtain ⟨p, hp⟩ : ∃ p, l[k] = p := ⟨_, rfl⟩
      rw [hp] at hat hft hcat
      obtain ⟨q0, q1, q2⟩ := hat
      have hcat2 : H ++ catL (l.take (k + 1)) = (H ++ catL (l.take k)) ++ bytesOf p.n ++ bytesOf p.u ++ textOf p.s := by rw [hcat]; unfold plBytes; simp only [ByteArray.append_assoc]
      have z := plBytes_le hft
      unfold plBytes at z
      have n1 := fun w => refNum_any p.n w hft.n1 hft.n2
      have n2 := fun w => refNum_any p.u w hft.u1 hft.u2
      have n3 := fun w => refText_any p.s w (by have := hft.s; omega)
      have hXs : (H ++ catL (l.take k)).size = H.size + (catL (l.take k)).size := ByteArray.size_append
      generalize catL (l.take k) = T at *
      generalize H ++ T = X at *
      generalize bytesOf p.n = x1 at *
      generalize bytesOf p.u = x2 at *
      generalize textOf p.s = x3 at *
      simp only [ByteArray.size_append] at z
      have HC := Lib.hid hcat2
      have k0 := cell_regrown q0
      have k1 := cell_regrown q1
      have k2 := cell_regrown q2
      have N1 := Lib.hid n1
      have N2 := Lib.hid n2
      have N3 := Lib.hid n3
      have HF := Lib.hid hf
      clear hcat hcat2 n1 n2 n3 hc hf hp hft q0 q1 q2
      subst hAe
      have y0 : X.size ≤ 47000 := by omega
      have y1 : x1.size ≤ 46 := by omega
      have y2 : x2.size ≤ 46 := by omega
      have y3 : x3.size ≤ 46 := by omega
      have d1 : ∀ d os, Calls Tryz.prog 56 #[.int .i64 p.n] (Sort.grow (redrawn wr d) os) fun e w'' => e = .returned (.string x1) ∧ ∃ p : Regrown, w'' = Sort.grow (redrawn wr p.d) p.os := fun d os => Calls.regrown_of (N1.out _)
      have d2 : ∀ d os, Calls Tryz.prog 56 #[.int .i64 p.u] (Sort.grow (redrawn wr d) os) fun e w'' => e = .returned (.string x2) ∧ ∃ p : Regrown, w'' = Sort.grow (redrawn wr p.d) p.os := fun d os => Calls.regrown_of (N2.out _)
      have d3 : ∀ d os, Calls Tryz.prog 108 #[.string p.s] (Sort.grow (redrawn wr d) os) fun e w'' => e = .returned (.string x3) ∧ ∃ p : Regrown, w'' = Sort.grow (redrawn wr p.d) p.os := fun d os => Calls.regrown_of (N3.out _)
      go_wp2
      refine wp_region_quiet_below (by kernel_rfl) (by kernel_rfl) ?_
      repeat (go_big_quiet_step ((with_reducible (first | exact d1 _ _ | exact d2 _ _ | exact d3 _ _))))
      refine wpQuiet_nil ?_
      intro _ hw'
      obtain ⟨⟨dq, osq⟩, hw''⟩ := hw'
      subst hw''
      go_wp2
      go_roundw
      case rel => exact ⟨k + 1, by omega, by go_num, by rw [HC.out], below_then hnx (below_regrown wr dq osq)⟩
      case measure => simp [intOf]; omega
    · obtain rfl : k = l.length := by omega
      rw [List.take_length]
      go_wp2
      go_ret
      exact ⟨by rw [HT0.out]; rfl, hnx⟩
end Go.Proofs.YtdcjffajmckleaaGreatDoor

/- The document's Print. -/
namespace Go.Proofs.YtdcjffajmckleaaGreatDoor
open Go.RowKit Tre Cod Pst

/-- Operations' bytes, one behind the other. -/
def catM (l : List Mv) : ByteArray := l.foldl (fun s m => s ++ m.bytes) ⟨#[]⟩
theorem catM_snoc (l : List Mv) (m : Mv) : catM (l ++ [m]) = catM l ++ m.bytes := by unfold catM; rw [List.foldl_append]; rfl
theorem catM_next {l : List Mv} {k : Nat} {m : Mv} (h : k < l.length) (hm : l[k] = m) : catM (l.take (k + 1)) = catM (l.take k) ++ m.bytes := by
  rw [List.take_succ_eq_append_getElem h, catM_snoc, hm]
theorem catM_le : ∀ (l : List Mv) (k : Nat), (∀ m ∈ l, m.ok) → (catM (l.take k)).size ≤ 86 * l.length
  | l, 0, _ => by show (ByteArray.mk #[]).size ≤ _; exact Nat.zero_le _
  | l, k + 1, h => by
    by_cases hk : k < l.length
    · have h1 : ∀ j, j ≤ l.length → (catM (l.take j)).size ≤ 86 * j := by
        intro j
        induction j with
        | zero => intro _; exact Nat.zero_le _
        | succ j ih =>
          intro hj
          rw [catM_next (by omega) rfl, ByteArray.size_append]
          have := ih (by omega)
          have := bytes_le (h l[j] (List.getElem_mem _))
          omega
      have := h1 (k + 1) hk
      omega
    · have e : l.take (k + 1) = l.take k := by rw [List.take_of_length_le (by omega), List.take_of_length_le (by omega)]
      rw [e]; exact catM_le l k h
def headV (q : Pv) : ByteArray := treeBytes q.base ++ bytesOf q.t ++ bytesOf q.ops.length
def pastBytes (q : Pv) : ByteArray := headV q ++ catM q.ops

set_option maxRecDepth 100000 in
set_option maxHeartbeats 4000000 in
theorem pastRefPrint_any (x : Pw) (w : World) (hx : PastOk w x) (hl : x.base.length ≤ 1000) (hl2 : x.ops.length ≤ 1000) (hf : ∀ p ∈ x.base, Fit p) (ht : i64 x.t) (ho : ∀ m ∈ x.ops, m.ok) (hts : (treeBytes x.base).size ≤ 100000) :
    Calls Tryz.prog 57 #[.agg #[.slice x.bA x.base.length x.bc, .int .i64 x.t, .slice x.oA x.ops.length x.oc, .slice x.uA x.us.length x.uc, .slice x.wA x.now.length x.wc]] w fun e w' => e = .returned (.string (pastBytes x.v)) ∧ Below w.heap.size w w' := by
  obtain ⟨bA, bc, base, t, oA, oc, ops, uA, uc, us, wA, wc, now⟩ := x
  simp only at hl hl2 hf ht ho hts
  have hxo := hx.o
  have hxb := hx.b
  simp only at hxo hxb
  clear hx
  have hv : pastBytes (⟨bA, bc, base, t, oA, oc, ops, uA, uc, us, wA, wc, now⟩ : Pw).v = (treeBytes base ++ bytesOf t ++ bytesOf ops.length) ++ catM (ops.take ops.length) := by rw [List.take_length]; rfl
  rw [hv]
  clear hv
  have hP : pwE.In (w.alloc (.cells #[.slice bA base.length bc, .int .i64 t, .slice oA ops.length oc, .slice uA us.length uc, .slice wA now.length wc] 40)) w.heap.size (⟨bA, bc, base, t, oA, oc, ops, uA, uc, us, wA, wc, now⟩ : Pw) := El.In.new (E := pwE) w (⟨bA, bc, base, t, oA, oc, ops, uA, uc, us, wA, wc, now⟩ : Pw) #[.slice bA base.length bc, .int .i64 t, .slice oA ops.length oc, .slice uA us.length uc, .slice wA now.length wc] rfl
  have hB := below_alloc (Below.refl w.heap.size w) (.cells #[.slice bA base.length bc, .int .i64 t, .slice oA ops.length oc, .slice uA us.length uc, .slice wA now.length wc] 40)
  have hxo := hxo.below hB
  have hxb := hxb.below hB
  have hcat := fun k => catM_le ops k ho
  have z1 := bytesOf_le t ht.1 ht.2
  have z2 := bytesOf_le ops.length (by omega) (by omega)
  have C1 := fun w (hT : SlV plE w bA bc base) => refPrint_any bA bc base w hl hf (plSl.1 hT.1)
  have C2 := fun w => refNum_any t w ht.1 ht.2
  have C3 := fun w => refNum_any ops.length w (by omega) (by omega)
  generalize treeBytes base = x1 at *
  generalize bytesOf t = x2 at *
  generalize bytesOf ops.length = x3 at *
  have HC1 := Lib.hid C1
  have HC2 := Lib.hid C2
  have HC3 := Lib.hid C3
  clear C1 C2 C3
  go_enter Tryz.func57, Tryz.ntmps57
  go_wp2_with fail
  generalize w.alloc (.cells #[.slice bA base.length bc, .int .i64 t, .slice oA ops.length oc, .slice uA us.length uc, .slice wA now.length wc] 40) = W at *
  have hBs := hB.size
  obtain ⟨n0, h0⟩ : ∃ n, w.heap.size = n := ⟨_, rfl⟩
  rw [h0] at hP ⊢
  clear h0
  obtain ⟨p0, p1, p2, p3, p4⟩ := pwIn5 hP
  have k0 := cell_regrown p0
  have k1 := cell_regrown p1
  have k2 := cell_regrown p2
  clear p0 p1 p2 p3 p4
  have d1 : ∀ d os, Calls Tryz.prog 88 #[.slice bA base.length bc] (Sort.grow (redrawn W d) os) fun e w'' => e = .returned (.string x1) ∧ ∃ p : Regrown, w'' = Sort.grow (redrawn W p.d) p.os := fun d os => Calls.regrown_of (HC1.out _ (hxb.below (below_regrown W d os)))
  have d2 : ∀ d os, Calls Tryz.prog 56 #[.int .i64 t] (Sort.grow (redrawn W d) os) fun e w'' => e = .returned (.string x2) ∧ ∃ p : Regrown, w'' = Sort.grow (redrawn W p.d) p.os := fun d os => Calls.regrown_of (HC2.out _)
  have d3 : ∀ d os, Calls Tryz.prog 56 #[.int .i64 ops.length] (Sort.grow (redrawn W d) os) fun e w'' => e = .returned (.string x3) ∧ ∃ p : Regrown, w'' = Sort.grow (redrawn W p.d) p.os := fun d os => Calls.regrown_of (HC3.out _)
  refine wp_region_quiet_below (by kernel_rfl) (by kernel_rfl) ?_
  repeat (go_big_quiet_step ((with_reducible (first | exact d1 _ _ | exact d2 _ _ | exact d3 _ _))))
  refine wpQuiet_nil ?_
  intro _ hw'
  obtain ⟨⟨dq, osq⟩, hw''⟩ := hw'
  subst hw''
  have hq := below_regrown W dq osq
  generalize Sort.grow (redrawn W dq) osq = W1 at *
  clear d1 d2 d3 k0 k1 k2
  have hP1 := hP.below hq
  have hxo1 := hxo.below hq
  have hB1 := hB.trans (hq.mono hBs)
  go_wp2_with fail
  obtain ⟨H, hH⟩ : ∃ H, x1 ++ x2 ++ x3 = H := ⟨_, rfl⟩
  have hHs : H.size ≤ 100020 := by rw [← hH, ByteArray.size_append, ByteArray.size_append]; omega
  have HH := Lib.hid hH
  clear hH
  have hn0 := hP1.lt
  go_loopw [3, 4] (fun s y wr => ∃ k : Nat, k ≤ ops.length ∧ y = .int .i64 k ∧ s = .string (H ++ catM (ops.take k)) ∧ Below W1.heap.size W1 wr) (fun _ y _ => ops.length - (intOf y).toNat)
  case atStart =>
    refine ⟨0, Nat.zero_le _, rfl, ?_, Below.refl _ _⟩
    rw [← HH.out]
    congr 1
    apply L_inj; rw [L_app]; simp [L, catM]
  case round =>
    obtain ⟨k, hk, rfl, rfl, hnx⟩ := hrel
    obtain ⟨p0, p1, p2, p3, p4⟩ := pwIn5 (hP1.below hnx)
    have hck := hcat k
    by_cases hkl : k < ops.length
    · obtain ⟨b, off, hoA, hbw, hc⟩ := hxo1.1 (by omega)
      have hat : opE.At wr b (off + k * 7) ops[k] := (hc k hkl).below hnx hbw
      have hnext := catM_next hkl rfl
      have hmo := ho ops[k] (List.getElem_mem _)
      obtain ⟨mk, hmk⟩ : ∃ mk, ops[k] = mk := ⟨_, rfl⟩
      rw [hmk] at hat hnext hmo
      have hml := bytes_le hmo
      have hwd := opB_wide hmo
      have CP := fun w => opRefPrint_any mk.C mk.D mk.I mk.M mk.K mk.U mk.s w hwd.1 (by omega)
      have hby : printOf mk.C mk.D mk.I mk.M mk.K mk.U mk.s = mk.bytes := rfl
      rw [hby] at CP
      have HN := Lib.hid hnext
      have HCP := Lib.hid CP
      clear hnext CP hby hc hmk hwd hmo
      generalize catM (ops.take k) = ck at *
      generalize mk.bytes = mb at *
      subst hoA
      go_wp2_with (first | (refine El.load opRow rfl _ rfl b (off + k * 7) rfl mk hat #[.int .i64 mk.C, .int .i64 mk.D, .int .i64 mk.I, .int .i64 mk.M, .int .i64 mk.K, .int .i64 mk.U, .string mk.s] rfl ?_) | (go_at_call 89; (with_reducible refine (HCP.out _).mono ?_); rintro e w3 ⟨rfl, hb3⟩))
      go_roundw
      case rel => exact ⟨k + 1, by omega, by go_num, by rw [HN.out, ByteArray.append_assoc], below_then hnx hb3⟩
      case measure => simp [intOf]; omega
    · obtain rfl : k = ops.length := by omega
      go_wp2
      go_ret
      refine ⟨?_, hB1.trans (hnx.mono (by have := hB1.size; omega))⟩
      rw [HH.out]; rfl
end Go.Proofs.YtdcjffajmckleaaGreatDoor

/- The document's Add. -/
namespace Go.Proofs.YtdcjffajmckleaaGreatDoor
open Go.RowKit Tre Cod Pst

/-- What stays while the new list of operations is built. -/
structure InsK (W0 : World) (n0 n1 n2 B : Nat) (x : Pw) (m : Mv) (A1 A3 : Option Addr) (L1 L3 : List Mv) (W : World) : Prop where
  P : pwE.In W n0 x
  O : opE.In W n1 m
  R : pwE.In W n2 Pw.zero
  o1 : opE.SlB B W A1 L1
  o3 : opE.SlB B W A3 L3
  bel : Below W0.heap.size W0 W
  sz : B ≤ W.heap.size
  lt : n0 < B ∧ n1 < B ∧ n2 < B ∧ W0.heap.size ≤ B
theorem InsK.grown {W0 W W' : World} {n0 n1 n2 B : Nat} {x : Pw} {m : Mv} {A1 A3 : Option Addr} {L1 L3 : List Mv} {row : Option Nat} (h : InsK W0 n0 n1 n2 B x m A1 A3 L1 L3 W) (hg : W.grownBy W' row) (hrow : ∀ k, row = some k → B ≤ k) : InsK W0 n0 n1 n2 B x m A1 A3 L1 L3 W' := by
  obtain ⟨l0, l1, l2, l3⟩ := h.lt
  exact ⟨h.P.keep hg (fun e => by have := hrow _ e.symm; omega), h.O.keep hg (fun e => by have := hrow _ e.symm; omega), h.R.keep hg (fun e => by have := hrow _ e.symm; omega), h.o1.keep hg hrow, h.o3.keep hg hrow, h.bel.grown hg h.bel.size (fun k e => by have := hrow k e; omega), Nat.le_trans h.sz hg.size, h.lt⟩
theorem InsK.alloc {W0 W : World} {n0 n1 n2 B : Nat} {x : Pw} {m : Mv} {A1 A3 : Option Addr} {L1 L3 : List Mv} (h : InsK W0 n0 n1 n2 B x m A1 A3 L1 L3 W) (o : Obj) : InsK W0 n0 n1 n2 B x m A1 A3 L1 L3 (W.alloc o) :=
  h.grown (World.grownBy_alloc W o none) (fun k e => by cases e)
/-- What the region reads. -/
def InsS (n0 n1 : Nat) (A : Option Addr) (len c : Nat) (m : Mv) (w : World) : Prop := w.cell? ⟨n0, 2, none⟩ = some (.slice A len c) ∧ (w.cell? ⟨n1, 0, none⟩ = some (.int .i64 m.C) ∧ w.cell? ⟨n1, 1, none⟩ = some (.int .i64 m.D) ∧ w.cell? ⟨n1, 2, none⟩ = some (.int .i64 m.I) ∧ w.cell? ⟨n1, 3, none⟩ = some (.int .i64 m.M) ∧ w.cell? ⟨n1, 4, none⟩ = some (.int .i64 m.K) ∧ w.cell? ⟨n1, 5, none⟩ = some (.int .i64 m.U) ∧ w.cell? ⟨n1, 6, none⟩ = some (.string m.s))
theorem InsK.s {W0 W : World} {n0 n1 n2 B : Nat} {x : Pw} {m : Mv} {A1 A3 : Option Addr} {L1 L3 : List Mv} (h : InsK W0 n0 n1 n2 B x m A1 A3 L1 L3 W) : InsS n0 n1 x.oA x.ops.length x.oc m W := ⟨(pwIn5 h.P).2.2.1, opIn7 h.O⟩
end Go.Proofs.YtdcjffajmckleaaGreatDoor

/- Of PastPlays: the document's Add and Settle at known lists; a past's bytes are few; what number n waits for along a path. -/
namespace Go.Proofs.YtdcjffajmckleaaGreatDoor
open Go.RowKit Tre Cod Pst Nam
theorem tree_bytes {l : List Pl} (h : treeB l = true) : (treeBytes l).size ≤ 100000 := by
  have h1 := tree_len h
  have h2 := catL_le l (tree_fit h)
  unfold treeBytes
  rw [ByteArray.size_append]
  have h3 := bytesOf_le l.length (by omega) (by omega)
  omega

section
variable {P : Program} {ops : Array Oper} {Q : Exit → Act → World → Prop} {md : Region.Mode} {S : World → Prop} {n : Nat}
end
end Go.Proofs.YtdcjffajmckleaaGreatDoor

/- Gifts merged and wanted, counts read, snapshots, chunks: as values. No call in it. -/
namespace Go.Proofs.YtdcjffajmckleaaGreatDoor
open Go.RowKit Nam Cod Tre Pst
/-- A count's bytes; what is read. -/
def in64G (n : Int) : Bool := decide (-9223372036854775808 ≤ n ∧ n ≤ 9223372036854775807)
theorem in64G_iff {n : Int} : in64G n = true ↔ i64 n := by unfold in64G i64; exact decide_eq_true_iff
def cnBytes (c : Cn) : ByteArray := bytesOf c.d ++ bytesOf c.i ++ bytesOf c.n
def cnRaw (c : Cn) : Bool := in64G c.d && (in64G c.i && in64G c.n)
theorem cnRaw_iff {c : Cn} : cnRaw c = true ↔ i64 c.d ∧ i64 c.i ∧ i64 c.n := by
  unfold cnRaw
  simp only [Bool.and_eq_true, in64G_iff]
def isCn (s : ByteArray) (p : Nat) (bad : Bool) : Option (Cn × Nat) :=
  (isNum s p bad).bind fun a => (isNum s a.2 false).bind fun b => (isNum s b.2 false).bind fun c => some (⟨a.1, b.1, c.1⟩, c.2)
theorem cn_there (A Z : ByteArray) (c : Cn) (h : cnRaw c = true) : isCn (A ++ (cnBytes c ++ Z)) A.size false = some (c, A.size + (cnBytes c).size) := by
  obtain ⟨g1, g2, g3⟩ := cnRaw_iff.1 h
  obtain ⟨d, i, n⟩ := c
  dsimp only at g1 g2 g3
  obtain ⟨X, hX⟩ : ∃ X, A ++ (cnBytes ⟨d, i, n⟩ ++ Z) = X := ⟨_, rfl⟩
  have h1 := num_atR X A (bytesOf i ++ (bytesOf n ++ Z)) d A.size (by rw [← hX]; unfold cnBytes; simp only [ByteArray.append_assoc]) rfl g1
  have h2 := num_atR X (A ++ bytesOf d) (bytesOf n ++ Z) i (A.size + (bytesOf d).size) (by rw [← hX]; unfold cnBytes; simp only [ByteArray.append_assoc]) (by rw [ByteArray.size_append]) g2
  have h3 := num_atR X (A ++ bytesOf d ++ bytesOf i) Z n (A.size + (bytesOf d).size + (bytesOf i).size) (by rw [← hX]; unfold cnBytes; simp only [ByteArray.append_assoc]) (by simp only [ByteArray.size_append]) g3
  rw [hX]
  unfold isCn
  rw [h1, Option.bind_some]
  dsimp only
  rw [h2, Option.bind_some]
  dsimp only
  rw [h3, Option.bind_some]
  dsimp only
  unfold cnBytes
  simp only [ByteArray.size_append, Nat.add_assoc]
theorem isCn_some {s : ByteArray} {p : Nat} {bad : Bool} {c : Cn} {q : Nat} (h : isCn s p bad = some (c, q)) : ∃ q1 q2, isNum s p bad = some (c.d, q1) ∧ isNum s q1 false = some (c.i, q2) ∧ isNum s q2 false = some (c.n, q) := by
  unfold isCn at h
  simp only [Option.bind_eq_some_iff] at h
  obtain ⟨a, ha, b, hb, c, hc, h⟩ := h
  injection h with h
  injection h with h1 h2
  subst h1 h2
  exact ⟨_, _, ha, hb, hc⟩
theorem cn_bytes {s : ByteArray} {p : Nat} {bad : Bool} {c : Cn} {q : Nat} (h : isCn s p bad = some (c, q)) : cnRaw c = true ∧ (L s).drop p = L (cnBytes c) ++ (L s).drop q := by
  obtain ⟨q1, q2, h1, h2, h3⟩ := isCn_some h
  refine ⟨cnRaw_iff.2 ⟨(isNum_some h1).2.2.2.2, (isNum_some h2).2.2.2.2, (isNum_some h3).2.2.2.2⟩, ?_⟩
  rw [num_bytesR h1, num_bytesR h2, num_bytesR h3]
  unfold cnBytes
  simp only [L_app, List.append_assoc]
def cnK : Kd Cn where
  ok := cnRaw
  b := cnBytes
  is := isCn
  there := cn_there
  back h := cn_bytes h
/-- A snapshot: a place, a clock, a past, counts. -/
structure Sn where
  pos : Int
  clock : Int
  p : Pv
  l : List Cn
def snBytes (x : Sn) : ByteArray := bytesOf x.pos ++ bytesOf x.clock ++ pastBytes x.p ++ cnK.part x.l
end Go.Proofs.YtdcjffajmckleaaGreatDoor

/- Gifts and states in memory; what the program's functions shall answer (GiftCalls); the document's Newer, Wanted. -/
namespace Go.Proofs.YtdcjffajmckleaaGreatDoor
open Go.RowKit Nam Cod Tre Pst

/-- A state as Thaw makes it: all but its stream's place, its clock, its past and its counts is zero. -/
structure Sw where
  pos : Int
  clock : Int
  y : Pw
  cA : Option Addr
  cc : Nat
  l : List Cn
def Sw.v (x : Sw) : Sn := ⟨x.pos, x.clock, x.y.v, x.l⟩
def Sw.zero : Sw := ⟨0, 0, Pw.zero, none, 0, []⟩
structure Sw.ok (x : Sw) (w : World) : Prop where
  p : PastOk w x.y
  c : SlV cnE w x.cA x.cc x.l
theorem Sw.ok.below {x : Sw} {W w : World} (h : x.ok W) (hb : Below W.heap.size W w) : x.ok w := ⟨h.p.below hb, SlV.below h.c hb⟩
theorem Sw.ok.zero (w : World) : Sw.zero.ok w := ⟨PastOk.zero w, SlV.nil _ _⟩
def CnW (c : Cn) : Prop := i64 c.d ∧ i64 c.i ∧ i64 c.n
end Go.Proofs.YtdcjffajmckleaaGreatDoor

/- The document's Freeze. -/
namespace Go.Proofs.YtdcjffajmckleaaGreatDoor
open Go.RowKit Nam Cod Tre Pst

theorem cnBytes_le {c : Cn} (h : CnW c) : (cnBytes c).size ≤ 30 := by
  have b1 := bytesOf_le10 h.1
  have b2 := bytesOf_le10 h.2.1
  have b3 := bytesOf_le10 h.2.2
  unfold cnBytes
  simp only [ByteArray.size_append]
  omega
theorem cnCat_le {l : List Cn} (h : ∀ c ∈ l, CnW c) (k : Nat) : (cnK.cat (l.take k)).size ≤ 30 * l.length := by
  have h1 := cnK.cat_take_le l k
  have h2 := cnK.cat_le 30 l (fun x hx => cnBytes_le (h x hx))
  omega
theorem past_le {q : Pv} (h : PInv q) (hl : q.ops.length ≤ 60) : (pastBytes q).size ≤ 200000 := by
  have h1 := tree_bytes h.tree
  have b1 := bytesOf_le10 (n := q.t) (by have := h.t0; have := h.t1; unfold i64; omega)
  have b2 := bytesOf_le10 (n := (q.ops.length : Int)) (by unfold i64; omega)
  have h3 := catM_le q.ops q.ops.length h.ok
  rw [List.take_length] at h3
  unfold pastBytes headV
  simp only [ByteArray.size_append]
  omega
theorem cnIdxF {A : Option Addr} {b off len cap k : Nat} (hA : A = some ⟨b, off, none⟩) (h : k < len) : ∀ w, (Instr.indexAt 41 (.slice A len cap) (.int .i64 k)).run Tryz.prog w = .ok (.pointer (some ⟨b, off + k * 3, none⟩)) w := fun w => by
  subst hA
  have h2 : (k : Int) < (len : Int) := by omega
  go_simp
set_option maxRecDepth 100000 in
set_option maxHeartbeats 8000000 in
theorem refFreeze_any (pos clock : Int) (y : Pw) (A : Option Addr) (c : Nat) (l : List Cn) (w : World) (h1 : i64 pos) (h2 : i64 clock) (hI : PInv y.v) (hl60 : y.ops.length ≤ 60) (hok : PastOk w y) (hl : l.length ≤ 1000) (hw : ∀ c ∈ l, CnW c) (hT : cnE.Sl w A l) : Calls Tryz.prog 29 #[.int .i64 pos, .int .i64 clock, .agg #[.slice y.bA y.base.length y.bc, .int .i64 y.t, .slice y.oA y.ops.length y.oc, .slice y.uA y.us.length y.uc, .slice y.wA y.now.length y.wc], .slice A l.length c] w fun e w' => e = .returned (.string (snBytes ⟨pos, clock, y.v, l⟩)) ∧ Below w.heap.size w w' := by
  have HT := Lib.hid hT
  have HW := Lib.hid hw
  have hP : pwE.In (w.alloc (.cells #[.slice y.bA y.base.length y.bc, .int .i64 y.t, .slice y.oA y.ops.length y.oc, .slice y.uA y.us.length y.uc, .slice y.wA y.now.length y.wc] 40)) w.heap.size y := El.In.new (E := pwE) w y _ rfl
  have hB := below_alloc (Below.refl w.heap.size w) (.cells #[.slice y.bA y.base.length y.bc, .int .i64 y.t, .slice y.oA y.ops.length y.oc, .slice y.uA y.us.length y.uc, .slice y.wA y.now.length y.wc] 40)
  have C1 := Lib.hid (fun wx => refNum_any pos wx h1.1 h1.2)
  have C2 := Lib.hid (fun wx => refNum_any clock wx h2.1 h2.2)
  have C4 := Lib.hid (fun wx => refNum_any (l.length : Int) wx (by omega) (by omega))
  have C3 := Lib.hid (fun wx (hb : Below w.heap.size w wx) => pastRefPrint_any y wx (hok.below hb) (by have := tree_len hI.tree; exact Nat.le_trans this (by decide)) (by omega) (tree_fit hI.tree) (by have := hI.t0; have := hI.t1; show i64 y.v.t; unfold i64; omega) hI.ok (tree_bytes hI.tree))
  have z1 := bytesOf_le10 h1
  have z2 := bytesOf_le10 h2
  have z4 := bytesOf_le10 (n := (l.length : Int)) (by unfold i64; omega)
  have z3 := past_le hI hl60
  have HV := Lib.hid (show snBytes ⟨pos, clock, y.v, l⟩ = bytesOf pos ++ bytesOf clock ++ pastBytes y.v ++ bytesOf l.length ++ cnK.cat l by unfold snBytes Kd.part; simp only [ByteArray.append_assoc])
  have HC := Lib.hid (cnCat_le hw)
  generalize pastBytes y.v = x3 at *
  generalize bytesOf pos = x1 at *
  generalize bytesOf clock = x2 at *
  generalize bytesOf (l.length : Int) = x4 at *
  have y1 : ¬ 9223372036854775807 < x1.size + x2.size := by omega
  have y2 : ¬ 9223372036854775807 < x1.size + x2.size + x3.size := by omega
  have y3 : ¬ 9223372036854775807 < x1.size + x2.size + x3.size + x4.size := by omega
  clear hI hok hw hT
  go_enter Tryz.func29, Tryz.ntmps29
  go_upto_region 1 with fail
  generalize w.alloc (.cells #[.slice y.bA y.base.length y.bc, .int .i64 y.t, .slice y.oA y.ops.length y.oc, .slice y.uA y.us.length y.uc, .slice y.wA y.now.length y.wc] 40) = W at *
  obtain ⟨n1, hn1⟩ : ∃ n, w.heap.size = n := ⟨_, rfl⟩
  rw [hn1] at hP ⊢
  clear hn1
  replace hP : pwE.In W.drew n1 y := hP
  replace hB := hB.drew
  go_region_held3 (fun w' => w'.cell? ⟨n1, 0, none⟩ = some (.slice y.bA y.base.length y.bc) ∧ w'.cell? ⟨n1, 1, none⟩ = some (.int .i64 y.t) ∧ w'.cell? ⟨n1, 2, none⟩ = some (.slice y.oA y.ops.length y.oc) ∧ w'.cell? ⟨n1, 3, none⟩ = some (.slice y.uA y.us.length y.uc) ∧ w'.cell? ⟨n1, 4, none⟩ = some (.slice y.wA y.now.length y.wc)) (with_reducible exact pwIn5 hP) (first | (go_at_call 56; (with_reducible first | refine (C1.out _).mono ?_ | refine (C2.out _).mono ?_ | refine (C4.out _).mono ?_); rintro e w3 ⟨rfl, hb3⟩; have hP := hP.below hb3; have hB := below_then hB hb3) | (go_at_call 57; (with_reducible refine (C3.out _ hB).mono ?_); rintro e w3 ⟨rfl, hb3⟩; have hP := hP.below hb3; have hB := below_then hB hb3))
  all_goals
    clear hP C1 C2 C3 C4 y1 y2 y3
    have hZ0 : (x1 ++ x2 ++ x3 ++ x4).size ≤ 300000 := by simp only [ByteArray.size_append]; omega
    generalize x1 ++ x2 ++ x3 ++ x4 = N at *
    clear z1 z2 z3 z4
    have HST := Lib.hid (show N = N ++ cnK.cat (l.take 0) by rw [List.take_zero]; exact L_inj (by rw [L_app]; show L N = L N ++ L ⟨#[]⟩; simp [L]))
    go_wp2_with fail
    go_loopw [9, 10] (fun v i wr => ∃ k : Nat, k ≤ l.length ∧ i = .int .i64 k ∧ v = .string (N ++ cnK.cat (l.take k)) ∧ Below w.heap.size w wr) (fun _ i _ => l.length - (intOf i).toNat)
    case atStart => exact ⟨0, Nat.zero_le _, rfl, by rw [← HST.out], hB⟩
    case round =>
      clear hB
      obtain ⟨k, hk, rfl, rfl, hB⟩ := hrel
      by_cases hkl : k < l.length
      · obtain ⟨b, off, eA, hbw, hc⟩ := HT.out (by omega)
        have hx := cnIdxF (cap := c) eA hkl
        have hat : cnE.At wr b (off + k * 3) l[k] := (hc k hkl).below hB hbw
        have hbr := Nat.lt_of_lt_of_le hbw hB.size
        have hzk := HC.out k
        have HNX := Lib.hid (show N ++ cnK.cat (l.take (k + 1)) = N ++ cnK.cat (l.take k) ++ cnBytes l[k] by rw [cnK.cat_next l k hkl, ByteArray.append_assoc]; rfl)
        obtain ⟨i1, i2, i3⟩ := HW.out l[k] (List.getElem_mem _)
        generalize l[k] = x at *
        have hss : (N ++ cnK.cat (l.take k)).size = N.size + (cnK.cat (l.take k)).size := ByteArray.size_append
        generalize N ++ cnK.cat (l.take k) = Z at *
        have D1 := Lib.hid (fun wx => refNum_any x.d wx i1.1 i1.2)
        have D2 := Lib.hid (fun wx => refNum_any x.i wx i2.1 i2.2)
        have D3 := Lib.hid (fun wx => refNum_any x.n wx i3.1 i3.2)
        have z1 := bytesOf_le10 i1
        have z2 := bytesOf_le10 i2
        have z3 := bytesOf_le10 i3
        have HX := Lib.hid (show cnBytes x = bytesOf x.d ++ bytesOf x.i ++ bytesOf x.n from rfl)
        generalize cnBytes x = Bx at *
        generalize bytesOf x.d = x1 at *
        generalize bytesOf x.i = x2 at *
        generalize bytesOf x.n = x3 at *
        have HNV := Lib.hid (show N ++ cnK.cat (l.take (k + 1)) = Z ++ x1 ++ x2 ++ x3 by rw [HNX.out, HX.out]; simp only [ByteArray.append_assoc])
        have y1 : ¬ 9223372036854775807 < Z.size + x1.size := by omega
        have y2 : ¬ 9223372036854775807 < Z.size + x1.size + x2.size := by omega
        have y3 : ¬ 9223372036854775807 < Z.size + x1.size + x2.size + x3.size := by omega
        clear hc eA i1 i2 i3 hss hzk HNX HX z1 z2 z3
        go_upto_region 5 with fail
        replace hat : cnE.At wr.drew b (off + k * 3) x := hat
        replace hB := hB.drew
        replace hbr : b < wr.drew.heap.size := hbr
        go_region_held3 (fun w' => w'.cell? ⟨b, off + k * 3, none⟩ = some (.int .i64 x.d) ∧ w'.cell? ⟨b, off + k * 3 + 1, none⟩ = some (.int .i64 x.i) ∧ w'.cell? ⟨b, off + k * 3 + 2, none⟩ = some (.int .i64 x.n)) (with_reducible exact cnAt3 hat) (first | (go_at_call 56; (with_reducible first | refine (D1.out _).mono ?_ | refine (D2.out _).mono ?_ | refine (D3.out _).mono ?_); rintro e w3 ⟨rfl, hb3⟩; have hat := hat.below hb3 hbr; have hbr := Nat.lt_of_lt_of_le hbr hb3.size; have hB := below_then hB hb3))
        all_goals
          clear hat hbr y1 y2 y3 D1 D2 D3 hx
          go_wp2_with fail
          exact ⟨⟨k + 1, by omega, by go_num, by rw [HNV.out], hB⟩, by simp [intOf]; omega⟩
      · obtain rfl : k = l.length := by omega
        rw [List.take_length, ← HV.out]
        go_wp2_with fail
        go_ret
        exact ⟨rfl, hB⟩
end Go.Proofs.YtdcjffajmckleaaGreatDoor

/- A region's order, held operation by operation: for regions whose order the kernel can't reckon in one piece. No program in it. -/
namespace Go.Proofs.YtdcjffajmckleaaGreatDoor
open Go.RowKit

/-- The first k of n are listed. -/
def litB (k n : Nat) : Array Bool := ((List.range n).map fun i => decide (i < k)).toArray
theorem litB_next {k n : Nat} (h : k < n) : (litB k n).setIfInBounds k true = litB (k + 1) n := by
  unfold litB
  rw [List.setIfInBounds_toArray]
  congr 1
  apply List.ext_getElem
  · simp
  · intro i h1 h2
    rw [List.getElem_set]
    simp only [List.getElem_map, List.getElem_range]
    by_cases e : k = i
    · subst e; simp
    · rw [if_neg e]
      rw [Bool.eq_iff_iff, decide_eq_true_iff, decide_eq_true_iff]
      omega
theorem litB_zero (n : Nat) : Array.replicate n false = litB 0 n := by
  unfold litB
  apply Array.ext
  · simp
  · intro i h1 h2
    simp
def lexP (md : Region.Mode) (ops : Array Oper) (n k : Nat) : Bool := (Region.ready md ops (litB k n)).contains k && Region.free md ops (litB k n) k
theorem lexFrom_of {md : Region.Mode} {ops : Array Oper} {n : Nat} (h0 : Region.lexFrom md ops 0 n (litB n n) = true) (h : ∀ k, k < n → lexP md ops n k = true) : ∀ f k, k + f = n → Region.lexFrom md ops f k (litB k n) = true
  | 0, k, e => by
    obtain rfl : k = n := by omega
    exact h0
  | f + 1, k, e => by
    have h1 := h k (by omega)
    unfold lexP at h1
    rw [Region.lexFrom, h1, litB_next (by omega), Bool.true_and]
    exact lexFrom_of h0 h f (k + 1) (by omega)
theorem lexB_of {md : Region.Mode} {ops : Array Oper} (n m : Nat) (hn : ops.size = n) (hs : Region.noSelect ops = true) (h0 : Region.lexFrom md ops 0 n (litB n n) = true) (hm : n ≤ m * 8)
    (h : ∀ c, c < m → (List.range 8).all (fun j => decide (n ≤ c * 8 + j) || lexP md ops n (c * 8 + j)) = true) : Region.lexB md ops = true := by
  unfold Region.lexB
  rw [hs, Bool.true_and, hn, litB_zero]
  refine lexFrom_of h0 (fun k hk => ?_) n 0 (by omega)
  have h1 := List.all_eq_true.1 (h (k / 8) (by omega)) (k % 8) (List.mem_range.2 (by omega))
  rw [show k / 8 * 8 + k % 8 = k by omega, decide_eq_false (by omega), Bool.false_or] at h1
  exact h1
end Go.Proofs.YtdcjffajmckleaaGreatDoor

/- Devices, as values: behind edits; leaving. -/
namespace Go.Proofs.YtdcjffajmckleaaGreatDoor
open Go.RowKit Nam Cod Tre Pst Pln

theorem Dv.same {x z : Dv} (h0 : x.node = z.node) (h1 : x.boot = z.boot) (h2 : x.above = z.above) (h3 : x.pos = z.pos) (h4 : x.q = z.q) (h5 : x.y = z.y) (h6 : x.l = z.l) (h7 : x.inc = z.inc) (h8 : x.mode = z.mode) (h9 : x.clock = z.clock) (h10 : x.sent = z.sent) (h11 : x.late = z.late) : x = z := by
  cases x; cases z
  simp_all
/-- Behind k edits, and nothing else. -/
structure EdI (x : Dv) (k : Nat) : Prop where
  r : DvR x
  node : x.node = 1
  mode : x.mode = 1
  inc : x.inc = 1
  pos : x.pos = 0
  above : x.above = 0
  yt : x.y.t = 0
  qf : x.q.f = 1
  qg : x.q.g = 0
  l : x.l = []
  clock : x.clock ≤ k
  sent : x.sent ≤ k
  ops : x.y.ops.length ≤ k
  late : x.late = 0
theorem EdI.new : EdI (newD 1) 0 where
  r := newD_r (by omega)
  node := rfl
  mode := rfl
  inc := rfl
  pos := rfl
  above := rfl
  yt := rfl
  qf := rfl
  qg := rfl
  l := rfl
  clock := Int.le_refl _
  sent := Int.le_refl _
  ops := Nat.le_refl _
  late := rfl
theorem EdI.next {x : Dv} {k : Nat} (h : EdI x k) (hk : k < 50) {quota : Int} (hq : quota ≤ 50) (n u : Int) (s : ByteArray) : EdI (editD quota 16 x n u s).1 (k + 1) := by
  have hc := h.clock
  have hs := h.sent
  have ho := h.ops
  have hr := editD_r (ids := 16) (k := n) (u := u) (s := s) h.r hq (by omega) (by omega) (by omega)
  rcases editD_cases quota 16 x n u s with ⟨_, e⟩ | ⟨_, _, _, _, _, e⟩
  · rw [e]
    exact { r := h.r, node := h.node, mode := h.mode, inc := h.inc, pos := h.pos, above := h.above, yt := h.yt, qf := h.qf, qg := h.qg, l := h.l, clock := by omega, sent := by omega, ops := by omega, late := h.late }
  · rw [e] at hr ⊢
    exact
      { r := hr
        node := h.node
        mode := h.mode
        inc := h.inc
        pos := h.pos
        above := h.above
        yt := by
          show (addV x.y (editO x n u s)).1.t = 0
          have h3 := h.yt
          unfold addV
          split
          · exact h3
          · split <;> exact h3
        qf := h.qf
        qg := h.qg
        l := h.l
        clock := by show x.clock + 1 ≤ ((k + 1 : Nat) : Int); omega
        sent := by show x.sent + 1 ≤ ((k + 1 : Nat) : Int); omega
        ops := by have := addV_len x.y (editO x n u s); show (addV x.y (editO x n u s)).1.ops.length ≤ k + 1; omega
        late := h.late }
end Go.Proofs.YtdcjffajmckleaaGreatDoor

/- Devices, as values: edits up to a quota. -/
namespace Go.Proofs.YtdcjffajmckleaaGreatDoor
open Go.RowKit Nam Cod Tre Pst Pln

/-- Behind n edits that were taken. -/
structure EdN (x : Dv) (k n : Nat) : Prop where
  i : EdI x k
  nk : n ≤ k
  sent : x.sent = n
  clock : x.clock = n
  len : x.q.os.length = n
  ops : x.y.ops = x.q.os
  all : ∀ o ∈ x.q.os, o.C ≤ n ∧ o.D = 1 ∧ o.I = 1
theorem EdN.new : EdN (newD 1) 0 0 where
  i := EdI.new
  nk := Nat.le_refl _
  sent := rfl
  clock := rfl
  len := rfl
  ops := rfl
  all := fun o h => by cases h
/-- What the law calls bad. -/
def badE (n u : Int) (s : ByteArray) : Bool := decide (n < 2) || (decide (16 ≤ n) || (decide (u < 0) || (decide (16 ≤ u) || (decide (u = n) || !opB 1 0 1 1 2 0 s))))
theorem bad_arg (n u : Int) (s : ByteArray) : badE n u s = !argD 16 n u s := by
  have h1 : opB 1 0 1 1 2 0 s = isName (L s) := by
    unfold opB
    rw [show atB 1 0 = true from by decide, show cntB 1 = true from by decide, show mvB 2 0 = true from by decide]
    rfl
  have h2 : placeB n u s = (mvB n u && isName (L s)) := by
    unfold placeB opB
    rw [show atB 1 0 = true from by decide, show cntB 1 = true from by decide]
    rfl
  unfold badE argD
  rw [h1, h2]
  unfold mvB
  cases isName (L s)
  · simp
  · rw [Bool.eq_iff_iff]
    simp only [Bool.or_eq_true, Bool.not_eq_true', Bool.and_eq_false_iff, decide_eq_true_iff, decide_eq_false_iff_not, Bool.not_true, Bool.false_eq_true, or_false, Bool.and_true]
    omega
def wantE (q : Int) (n : Nat) (bad : Bool) : Int := if bad = true then 1 else if q ≤ n then 3 else 0
theorem EdN.step {x : Dv} {k n : Nat} (h : EdN x k n) (hk : k < 50) {q : Int} (hq0 : 1 ≤ q) (hq : q ≤ 50) (a u : Int) (s : ByteArray) :
    (editD q 16 x a u s).2 = wantE q n (badE a u s) ∧
    ((editD q 16 x a u s).2 ≠ 0 → (editD q 16 x a u s).1 = x) ∧
    ((editD q 16 x a u s).2 ≠ 0 → EdN (editD q 16 x a u s).1 (k + 1) n) ∧
    ((editD q 16 x a u s).2 = 0 → EdN (editD q 16 x a u s).1 (k + 1) (n + 1) ∧ (editD q 16 x a u s).1.q.os = x.q.os ++ [⟨(n : Int) + 1, 1, 1, (n : Int) + 1, a, u, s⟩]) := by
  have hi := h.i.next hk hq a u s
  have hown : ownV x.y x.node x.inc = n := by
    rw [ownV_all (fun o ho => by rw [h.ops] at ho; rw [h.i.node, h.i.inc]; exact (h.all o ho).2), h.ops, h.len]
  have hO : editO x a u s = ⟨(n : Int) + 1, 1, 1, (n : Int) + 1, a, u, s⟩ := by
    unfold editO
    rw [h.clock, h.i.node, h.i.inc, h.sent]
  have hadd := addV_last (q := x.y) (m := editO x a u s) (by rw [h.i.yt, hO]; show (0 : Int) < (n : Int) + 1; omega) (fun o ho => by rw [h.ops] at ho; have := (h.all o ho).1; rw [hO]; show o.C < (n : Int) + 1; omega)
  rw [bad_arg]
  unfold wantE
  by_cases h1 : argD 16 a u s = false
  · have e : editD q 16 x a u s = (x, 1) := by unfold editD; rw [if_pos h1]
    rw [e] at hi ⊢
    refine ⟨by rw [h1]; rfl, fun _ => rfl, fun _ => ?_, fun h0 => absurd h0 (by show (1 : Int) ≠ 0; omega)⟩
    exact { i := hi, nk := by have := h.nk; omega, sent := h.sent, clock := h.clock, len := h.len, ops := h.ops, all := h.all }
  · have h1t : argD 16 a u s = true := by simpa using h1
    by_cases h3 : q ≤ (n : Int)
    · have e : editD q 16 x a u s = (x, 3) := by
        unfold editD
        rw [if_neg h1, if_neg (by rw [h.i.mode]; omega), if_pos (Or.inl (by rw [hown]; exact h3))]
      rw [e] at hi ⊢
      refine ⟨by rw [h1t]; show (3 : Int) = if q ≤ (n : Int) then 3 else 0; rw [if_pos h3], fun _ => rfl, fun _ => ?_, fun h0 => absurd h0 (by show (3 : Int) ≠ 0; omega)⟩
      exact { i := hi, nk := by have := h.nk; omega, sent := h.sent, clock := h.clock, len := h.len, ops := h.ops, all := h.all }
    · have e : editD q 16 x a u s = ({ x with y := (addV x.y (editO x a u s)).1, q := pushQ x.q (editO x a u s), clock := x.clock + 1, sent := x.sent + 1 }, 0) := by
        unfold editD
        rw [if_neg h1, if_neg (by rw [h.i.mode]; omega), if_neg (by rw [hown, h.len]; omega), if_neg (by rw [hadd.1]; decide)]
      rw [e] at hi ⊢
      refine ⟨by rw [h1t]; show (0 : Int) = if q ≤ (n : Int) then 3 else 0; rw [if_neg h3], fun h0 => absurd rfl h0, fun h0 => absurd rfl h0, fun _ => ⟨?_, by show x.q.os ++ [editO x a u s] = _; rw [hO]⟩⟩
      exact
        { i := hi
          nk := by have := h.nk; omega
          sent := by show x.sent + 1 = ((n + 1 : Nat) : Int); rw [h.sent]; omega
          clock := by show x.clock + 1 = ((n + 1 : Nat) : Int); rw [h.clock]; omega
          len := by show (x.q.os ++ [editO x a u s]).length = n + 1; rw [List.length_append, h.len]; rfl
          ops := by show (addV x.y (editO x a u s)).1.ops = x.q.os ++ [editO x a u s]; rw [hadd.2.1, h.ops]
          all := by
            intro o ho
            have ho : o ∈ x.q.os ++ [editO x a u s] := ho
            rcases List.mem_append.1 ho with ho | ho
            · have := h.all o ho
              exact ⟨by omega, this.2⟩
            · rw [List.mem_singleton] at ho
              subst ho
              rw [hO]
              exact ⟨by show (n : Int) + 1 ≤ ((n + 1 : Nat) : Int); omega, rfl, rfl⟩ }
end Go.Proofs.YtdcjffajmckleaaGreatDoor
