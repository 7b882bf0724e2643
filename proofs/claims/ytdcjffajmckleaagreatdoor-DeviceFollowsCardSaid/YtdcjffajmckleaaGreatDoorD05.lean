/- Texts laid one behind the other: Vi, Wk, Wm, Wb, Wa, Wc. -/
import Derived.Test.YtdcjffajmckleaaGreatDoorD04
/- The document's Add. -/
namespace Go.Proofs.YtdcjffajmckleaaGreatDoor
open Go.RowKit Tre Cod Pst

/-- What stays while the new list of operations is built. -/
structure InsK (W0 : World) (n0 n1 n2 B : Nat) (x : Pw) (m : Mv) (A1 A3 : Option Addr) (L1 L3 : List Mv) (W : World) : Prop where
  P : pwE.In W n0 x
  O : opE.In W n1 m
  R : pwE.In W n2 Pw.zero
  o1 : opE.SlB B W A1 L1
  o3 : opE.SlB B W A3 L3
  bel : Below W0.heap.size W0 W
  sz : B ≤ W.heap.size
  lt : n0 < B ∧ n1 < B ∧ n2 < B ∧ W0.heap.size ≤ B
theorem InsK.grown {W0 W W' : World} {n0 n1 n2 B : Nat} {x : Pw} {m : Mv} {A1 A3 : Option Addr} {L1 L3 : List Mv} {row : Option Nat} (h : InsK W0 n0 n1 n2 B x m A1 A3 L1 L3 W) (hg : W.grownBy W' row) (hrow : ∀ k, row = some k → B ≤ k) : InsK W0 n0 n1 n2 B x m A1 A3 L1 L3 W' := by
  obtain ⟨l0, l1, l2, l3⟩ := h.lt
  exact ⟨h.P.keep hg (fun e => by have := hrow _ e.symm; omega), h.O.keep hg (fun e => by have := hrow _ e.symm; omega), h.R.keep hg (fun e => by have := hrow _ e.symm; omega), h.o1.keep hg hrow, h.o3.keep hg hrow, h.bel.grown hg h.bel.size (fun k e => by have := hrow k e; omega), Nat.le_trans h.sz hg.size, h.lt⟩
theorem InsK.alloc {W0 W : World} {n0 n1 n2 B : Nat} {x : Pw} {m : Mv} {A1 A3 : Option Addr} {L1 L3 : List Mv} (h : InsK W0 n0 n1 n2 B x m A1 A3 L1 L3 W) (o : Obj) : InsK W0 n0 n1 n2 B x m A1 A3 L1 L3 (W.alloc o) :=
  h.grown (World.grownBy_alloc W o none) (fun k e => by cases e)
/-- What the region reads. -/
def InsS (n0 n1 : Nat) (A : Option Addr) (len c : Nat) (m : Mv) (w : World) : Prop := w.cell? ⟨n0, 2, none⟩ = some (.slice A len c) ∧ (w.cell? ⟨n1, 0, none⟩ = some (.int .i64 m.C) ∧ w.cell? ⟨n1, 1, none⟩ = some (.int .i64 m.D) ∧ w.cell? ⟨n1, 2, none⟩ = some (.int .i64 m.I) ∧ w.cell? ⟨n1, 3, none⟩ = some (.int .i64 m.M) ∧ w.cell? ⟨n1, 4, none⟩ = some (.int .i64 m.K) ∧ w.cell? ⟨n1, 5, none⟩ = some (.int .i64 m.U) ∧ w.cell? ⟨n1, 6, none⟩ = some (.string m.s))
theorem InsK.s {W0 W : World} {n0 n1 n2 B : Nat} {x : Pw} {m : Mv} {A1 A3 : Option Addr} {L1 L3 : List Mv} (h : InsK W0 n0 n1 n2 B x m A1 A3 L1 L3 W) : InsS n0 n1 x.oA x.ops.length x.oc m W := ⟨(pwIn5 h.P).2.2.1, opIn7 h.O⟩
/-- Where y's lists lie: where x's lay, or in memory made behind n. -/
def Nr (n : Nat) (x y : Pw) : Prop := (y.bA = x.bA ∧ y.base = x.base) ∧ ((y.oA = x.oA ∧ y.ops = x.ops) ∨ Frs n y.oA) ∧ ((y.uA = x.uA ∧ y.us = x.us) ∨ Frs n y.uA) ∧ ((y.wA = x.wA ∧ y.now = x.now) ∨ Frs n y.wA)
theorem addV_same {q : Pv} {m : Mv} (h : ¬ m.C ≤ q.t) (hh : has Mv.C Mv.D q.ops m = true) : addV q m = (q, false) := by unfold addV; rw [if_neg h, if_pos hh]
theorem addV_new {q : Pv} {m : Mv} (h : ¬ m.C ≤ q.t) (hh : has Mv.C Mv.D q.ops m = false) : addV q m = ({ q with ops := insL Mv.C Mv.D q.ops m, us := (foldL q.base (mvs (insL Mv.C Mv.D q.ops m))).2, now := (foldL q.base (mvs (insL Mv.C Mv.D q.ops m))).1 }, true) := by
  unfold addV; rw [if_neg h, hh]; rfl
theorem insL_eq {l : List Mv} {m : Mv} {k : Nat} (h : k = pos Mv.C Mv.D l m) : insL Mv.C Mv.D l m = (l.take k ++ [m]) ++ l.drop k := by unfold insL; rw [← h]

set_option maxRecDepth 100000 in
set_option maxHeartbeats 4000000 in
theorem refAdd_near (x : Pw) (m : Mv) (w : World) (hx : PastOk w x) (hl : x.base.length + x.ops.length ≤ 890) :
    Calls Tryz.prog 12 #[.agg #[.slice x.bA x.base.length x.bc, .int .i64 x.t, .slice x.oA x.ops.length x.oc, .slice x.uA x.us.length x.uc, .slice x.wA x.now.length x.wc], .agg #[.int .i64 m.C, .int .i64 m.D, .int .i64 m.I, .int .i64 m.M, .int .i64 m.K, .int .i64 m.U, .string m.s]] w fun e w' => ∃ y : Pw, e = .returned (.tuple #[.agg #[.slice y.bA y.base.length y.bc, .int .i64 y.t, .slice y.oA y.ops.length y.oc, .slice y.uA y.us.length y.uc, .slice y.wA y.now.length y.wc], .bool (addV x.v m).2]) ∧ PastOk w' y ∧ y.v = (addV x.v m).1 ∧ Below w.heap.size w w' ∧ Nr w.heap.size x y := by
  obtain ⟨bA, bc, base, t, oA, oc, ops, uA, uc, us, wA, wc, now⟩ := x
  simp only at hl
  have hv : (⟨bA, bc, base, t, oA, oc, ops, uA, uc, us, wA, wc, now⟩ : Pw).v = ⟨base, t, ops, us, now⟩ := rfl
  have hP : pwE.In (((w.alloc (.cells #[.slice bA base.length bc, .int .i64 t, .slice oA ops.length oc, .slice uA us.length uc, .slice wA now.length wc] 40)).alloc (.cells #[.int .i64 m.C, .int .i64 m.D, .int .i64 m.I, .int .i64 m.M, .int .i64 m.K, .int .i64 m.U, .string m.s] 55)).alloc (.cells #[.slice none 0 0, .int .i64 0, .slice none 0 0, .slice none 0 0, .slice none 0 0] 40)) w.heap.size (⟨bA, bc, base, t, oA, oc, ops, uA, uc, us, wA, wc, now⟩ : Pw) := ((El.In.new (E := pwE) w (⟨bA, bc, base, t, oA, oc, ops, uA, uc, us, wA, wc, now⟩ : Pw) _ rfl).alloc _).alloc _
  have hO : opE.In (((w.alloc (.cells #[.slice bA base.length bc, .int .i64 t, .slice oA ops.length oc, .slice uA us.length uc, .slice wA now.length wc] 40)).alloc (.cells #[.int .i64 m.C, .int .i64 m.D, .int .i64 m.I, .int .i64 m.M, .int .i64 m.K, .int .i64 m.U, .string m.s] 55)).alloc (.cells #[.slice none 0 0, .int .i64 0, .slice none 0 0, .slice none 0 0, .slice none 0 0] 40)) (w.heap.size + 1) m := by
    have h := (El.In.new (E := opE) (w.alloc (.cells #[.slice bA base.length bc, .int .i64 t, .slice oA ops.length oc, .slice uA us.length uc, .slice wA now.length wc] 40)) m #[.int .i64 m.C, .int .i64 m.D, .int .i64 m.I, .int .i64 m.M, .int .i64 m.K, .int .i64 m.U, .string m.s] rfl).alloc (.cells #[.slice none 0 0, .int .i64 0, .slice none 0 0, .slice none 0 0, .slice none 0 0] 40)
    rw [alloc_size] at h; exact h
  have hR : pwE.In (((w.alloc (.cells #[.slice bA base.length bc, .int .i64 t, .slice oA ops.length oc, .slice uA us.length uc, .slice wA now.length wc] 40)).alloc (.cells #[.int .i64 m.C, .int .i64 m.D, .int .i64 m.I, .int .i64 m.M, .int .i64 m.K, .int .i64 m.U, .string m.s] 55)).alloc (.cells #[.slice none 0 0, .int .i64 0, .slice none 0 0, .slice none 0 0, .slice none 0 0] 40)) (w.heap.size + 2) Pw.zero := by
    have h := El.In.new (E := pwE) ((w.alloc (.cells #[.slice bA base.length bc, .int .i64 t, .slice oA ops.length oc, .slice uA us.length uc, .slice wA now.length wc] 40)).alloc (.cells #[.int .i64 m.C, .int .i64 m.D, .int .i64 m.I, .int .i64 m.M, .int .i64 m.K, .int .i64 m.U, .string m.s] 55)) Pw.zero #[.slice none 0 0, .int .i64 0, .slice none 0 0, .slice none 0 0, .slice none 0 0] rfl
    rw [alloc_size, alloc_size] at h; exact h
  have hB := below_alloc (below_alloc (below_alloc (Below.refl w.heap.size w) (.cells #[.slice bA base.length bc, .int .i64 t, .slice oA ops.length oc, .slice uA us.length uc, .slice wA now.length wc] 40)) (.cells #[.int .i64 m.C, .int .i64 m.D, .int .i64 m.I, .int .i64 m.M, .int .i64 m.K, .int .i64 m.U, .string m.s] 55)) (.cells #[.slice none 0 0, .int .i64 0, .slice none 0 0, .slice none 0 0, .slice none 0 0] 40)
  rw [hv]
  clear hv
  by_cases hle : m.C ≤ t
  · have ha : addV ⟨base, t, ops, us, now⟩ m = (⟨base, t, ops, us, now⟩, false) := by unfold addV; rw [if_pos hle]
    rw [ha]
    clear ha
    go_enter Tryz.func12, Tryz.ntmps12
    go_wp2_with (first | (refine El.load pwRow rfl _ rfl w.heap.size 0 rfl (⟨bA, bc, base, t, oA, oc, ops, uA, uc, us, wA, wc, now⟩ : Pw) hP.at #[.slice bA base.length bc, .int .i64 t, .slice oA ops.length oc, .slice uA us.length uc, .slice wA now.length wc] rfl ?_) | (refine El.store pwRow rfl _ _ rfl (w.heap.size + 2) (⟨bA, bc, base, t, oA, oc, ops, uA, uc, us, wA, wc, now⟩ : Pw) #[.slice bA base.length bc, .int .i64 t, .slice oA ops.length oc, .slice uA us.length uc, .slice wA now.length wc] rfl rfl rfl Pw.zero hR ?_))
    refine El.ret2 pwRow (hR.set (⟨bA, bc, base, t, oA, oc, ops, uA, uc, us, wA, wc, now⟩ : Pw) #[.slice bA base.length bc, .int .i64 t, .slice oA ops.length oc, .slice uA us.length uc, .slice wA now.length wc] rfl) rfl rfl rfl rfl _ rfl ?_
    exact ⟨(⟨bA, bc, base, t, oA, oc, ops, uA, uc, us, wA, wc, now⟩ : Pw), rfl, hx.below (below_setRow hB (by omega) _), rfl, below_setRow hB (by omega) _, ⟨rfl, rfl⟩, Or.inl ⟨rfl, rfl⟩, Or.inl ⟨rfl, rfl⟩, Or.inl ⟨rfl, rfl⟩⟩
  · have hlt : t < m.C := by omega
    go_enter Tryz.func12, Tryz.ntmps12
    go_wp2_with fail
    generalize (((w.alloc (.cells #[.slice bA base.length bc, .int .i64 t, .slice oA ops.length oc, .slice uA us.length uc, .slice wA now.length wc] 40)).alloc (.cells #[.int .i64 m.C, .int .i64 m.D, .int .i64 m.I, .int .i64 m.M, .int .i64 m.K, .int .i64 m.U, .string m.s] 55)).alloc (.cells #[.slice none 0 0, .int .i64 0, .slice none 0 0, .slice none 0 0, .slice none 0 0] 40)) = W at *
    have hBs := hB.size
    obtain ⟨n2, h2⟩ : ∃ n, w.heap.size + 1 + 1 = n := ⟨_, rfl⟩
    rw [h2] at ⊢
    rw [show w.heap.size + 2 = n2 from h2] at hR
    obtain ⟨n1, h1⟩ : ∃ n, w.heap.size + 1 = n := ⟨_, rfl⟩
    rw [h1] at hO ⊢
    obtain ⟨n0, h0⟩ : ∃ n, w.heap.size = n := ⟨_, rfl⟩
    rw [h0] at hP ⊢
    have hx1 := hx.below hB
    rw [h0] at hB
    have hnn : n1 = n0 + 1 ∧ n2 = n0 + 2 ∧ n0 ≤ w.heap.size := by omega
    have HNN := Lib.hid hnn
    have HNW := Lib.hid h0
    have hle9 : ops.length ≤ 890 := by omega
    have hn0W : n0 ≤ W.heap.size := by omega
    have HL9 := Lib.hid hl
    have HL := Lib.hid hx
    clear h0 h1 h2 hnn hx hl
    obtain ⟨hxb, hxo, hxu, hxw⟩ := hx1
    simp only at hxb hxo hxu hxw
    go_loopw [6] (fun k0 wr => ∃ k : Nat, k ≤ ops.length ∧ k0 = .int .i64 k ∧ (∀ i (h : i < ops.length), i < k → bef Mv.C Mv.D ops[i] m) ∧ Below W.heap.size W wr) (fun k0 _ => ops.length - (intOf k0).toNat)
    case atStart => exact ⟨0, Nat.zero_le _, rfl, fun i h hi => by omega, Below.refl _ _⟩
    case round =>
      obtain ⟨k, hk, rfl, hlo, hnx⟩ := hrel
      have hPr := hP.below hnx
      have hOr := hO.below hnx
      by_cases hkl : k < ops.length
      · obtain ⟨b, off, hoA, hbw, hc⟩ := hxo.1 (by omega)
        have hat : opE.At wr b (off + k * 7) ops[k] := (hc k hkl).below hnx hbw
        obtain ⟨mk, hmk⟩ : ∃ mk, ops[k] = mk := ⟨_, rfl⟩
        rw [hmk] at hat
        obtain ⟨t0, t1, t2, t3, t4, t5, t6⟩ := opAt hat
        obtain ⟨p0, p1, p2, p3, p4⟩ := pwIn5 hPr
        obtain ⟨o0, o1, o2, o3, o4, o5, o6⟩ := opIn7 hOr
        have C1 := fun w => refBefore_any mk.C mk.D m.C m.D w
        rw [bef_iff] at C1
        subst hoA
        have k0 := cell_regrown t0
        have k1 := cell_regrown t1
        have k2 := cell_regrown p2
        have k3 := cell_regrown o0
        have k4 := cell_regrown o1
        by_cases hbf : bef Mv.C Mv.D mk m
        · rw [decide_eq_true hbf] at C1
          have HC := Lib.hid C1
          have d1 : ∀ d os, Calls Tryz.prog 31 #[.agg #[.int .i64 mk.C, .int .i64 mk.D], .agg #[.int .i64 m.C, .int .i64 m.D]] (Sort.grow (redrawn wr d) os) fun e w'' => e = .returned (.bool true) ∧ ∃ p : Regrown, w'' = Sort.grow (redrawn wr p.d) p.os := fun d os => Calls.regrown_of (HC.out _)
          have HBF := Lib.hid hbf
          clear C1 hbf t0 t1 t2 t3 t4 t5 t6 p0 p1 p2 p3 p4 o0 o1 o2 o3 o4 o5 o6
          go_wp2_with fail
          refine wp_region_quiet_below (by kernel_rfl) (by kernel_rfl) ?_
          repeat (go_big_quiet_step ((with_reducible (first | exact d1 _ _))))
          refine wpQuiet_nil ?_
          intro _ hw'
          obtain ⟨⟨dq, osq⟩, hw''⟩ := hw'
          subst hw''
          have hq := below_regrown wr dq osq
          generalize Sort.grow (redrawn wr dq) osq = w2 at *
          have hB2 := below_then hnx hq
          clear k0 k1 k2 k3 k4 d1
          go_wp2_with fail
          go_roundw
          case rel =>
            refine ⟨k + 1, by omega, by go_num, fun i hi hlt2 => ?_, hB2⟩
            by_cases e : i = k
            · subst e; rw [hmk]; exact HBF.out
            · exact hlo i hi (by omega)
          case measure => simp [intOf]; omega
        · rw [decide_eq_false hbf] at C1
          have HC := Lib.hid C1
          have d1 : ∀ d os, Calls Tryz.prog 31 #[.agg #[.int .i64 mk.C, .int .i64 mk.D], .agg #[.int .i64 m.C, .int .i64 m.D]] (Sort.grow (redrawn wr d) os) fun e w'' => e = .returned (.bool false) ∧ ∃ p : Regrown, w'' = Sort.grow (redrawn wr p.d) p.os := fun d os => Calls.regrown_of (HC.out _)
          have hpos : k = pos Mv.C Mv.D ops m := pos_eq hk hlo (fun h => by rw [hmk]; exact hbf)
          have hhas := has_at hpos hkl hmk
          have HPOS := Lib.hid hpos
          have HHAS := Lib.hid hhas
          clear C1 hbf hpos hhas t0 t1 t2 t3 t4 t5 t6 p0 p1 p2 p3 p4 o0 o1 o2 o3 o4 o5 o6
          go_wp2_with fail
          refine wp_region_quiet_below (by kernel_rfl) (by kernel_rfl) ?_
          repeat (go_big_quiet_step ((with_reducible (first | exact d1 _ _))))
          refine wpQuiet_nil ?_
          intro _ hw'
          obtain ⟨⟨dq, osq⟩, hw''⟩ := hw'
          subst hw''
          have hq := below_regrown wr dq osq
          generalize Sort.grow (redrawn wr dq) osq = w2 at *
          have hB2 := below_then hnx hq
          clear k0 k1 k2 k3 k4 d1
          go_wp2_with fail
          have hP2 := hPr.below hq
          have hO2 := hOr.below hq
          obtain ⟨p0, p1, p2, p3, p4⟩ := pwIn5 hP2
          obtain ⟨o0, o1, o2, o3, o4, o5, o6⟩ := opIn7 hO2
          obtain ⟨t0, t1, t2, t3, t4, t5, t6⟩ := opAt (hat.below hq (Nat.lt_of_lt_of_le hbw hnx.size))
          have k0 := cell_regrown t0
          have k1 := cell_regrown t1
          have k2 := cell_regrown p2
          have k3 := cell_regrown o0
          have k4 := cell_regrown o1
          clear t0 t1 t2 t3 t4 t5 t6 p0 p1 p2 p3 p4 o0 o1 o2 o3 o4 o5 o6
          by_cases hcd : mk.C = m.C ∧ mk.D = m.D
          · obtain ⟨e1, e2⟩ := hcd
            refine wp_region_quiet_below (by kernel_rfl) (by kernel_rfl) ?_
            repeat (go_big_quiet_step (fail))
            refine wpQuiet_nil ?_
            intro _ hw'
            obtain ⟨⟨dq3, osq3⟩, hw3⟩ := hw'
            subst hw3
            have hq3 := below_regrown w2 dq3 osq3
            generalize Sort.grow (redrawn w2 dq3) osq3 = w3 at *
            have hB3 := below_then hB2 hq3
            have hP3 := hP2.below hq3
            have hO3 := hO2.below hq3
            have hR3 := hR.below hB3
            clear k0 k1 k2 k3 k4
            have ha := addV_same (q := ⟨base, t, ops, us, now⟩) (m := m) (show ¬ m.C ≤ t by omega) (by rw [HHAS.out]; exact decide_eq_true ⟨e1, e2⟩)
            have HA := Lib.hid ha
            clear ha e1 e2
            go_wp2_with (first | (refine El.load pwRow rfl _ rfl n0 0 rfl (⟨bA, bc, base, t, some ⟨b, off, none⟩, oc, ops, uA, uc, us, wA, wc, now⟩ : Pw) hP3.at #[.slice bA base.length bc, .int .i64 t, .slice (some ⟨b, off, none⟩) ops.length oc, .slice uA us.length uc, .slice wA now.length wc] rfl ?_) | (refine El.store pwRow rfl _ _ rfl n2 (⟨bA, bc, base, t, some ⟨b, off, none⟩, oc, ops, uA, uc, us, wA, wc, now⟩ : Pw) #[.slice bA base.length bc, .int .i64 t, .slice (some ⟨b, off, none⟩) ops.length oc, .slice uA us.length uc, .slice wA now.length wc] rfl rfl rfl Pw.zero hR3 ?_))
            refine El.ret2 pwRow (v := .bool false) (hR3.set (⟨bA, bc, base, t, some ⟨b, off, none⟩, oc, ops, uA, uc, us, wA, wc, now⟩ : Pw) #[.slice bA base.length bc, .int .i64 t, .slice (some ⟨b, off, none⟩) ops.length oc, .slice uA us.length uc, .slice wA now.length wc] rfl) rfl rfl rfl rfl #[.slice bA base.length bc, .int .i64 t, .slice (some ⟨b, off, none⟩) ops.length oc, .slice uA us.length uc, .slice wA now.length wc] rfl ?_
            have hBw : Below w.heap.size w w3 := by rw [HNW.out]; exact hB.trans (hB3.mono hn0W)
            have hBz : Below w.heap.size w (w3.setRow n2 #[.slice bA base.length bc, .int .i64 t, .slice (some ⟨b, off, none⟩) ops.length oc, .slice uA us.length uc, .slice wA now.length wc]) := below_setRow hBw (by have := HNN.out; have := HNW.out; omega) _
            exact ⟨(⟨bA, bc, base, t, some ⟨b, off, none⟩, oc, ops, uA, uc, us, wA, wc, now⟩ : Pw), by rw [HA.out], HL.out.below hBz, by rw [HA.out]; rfl, hBz, ⟨rfl, rfl⟩, Or.inl ⟨rfl, rfl⟩, Or.inl ⟨rfl, rfl⟩, Or.inl ⟨rfl, rfl⟩⟩
          · have hhf : has Mv.C Mv.D ops m = false := by rw [HHAS.out]; exact decide_eq_false hcd
            have HHF := Lib.hid hhf
            have hun : (mk.C == m.C) = false ∨ (mk.C = m.C ∧ (mk.D == m.D) = false) := by
              by_cases e : mk.C = m.C
              · right; exact ⟨e, beq_eq_false_iff_ne.2 fun e2 => hcd ⟨e, e2⟩⟩
              · left; exact beq_eq_false_iff_ne.2 e
            clear hhf hcd
            rcases hun with hun | ⟨hun0, hun⟩
            · refine wp_region_quiet_below (by kernel_rfl) (by kernel_rfl) ?_
              repeat (go_big_quiet_step (fail))
              refine wpQuiet_nil ?_
              intro _ hw'
              obtain ⟨⟨dq3, osq3⟩, hw3⟩ := hw'
              subst hw3
              have hq3 := below_regrown w2 dq3 osq3
              generalize Sort.grow (redrawn w2 dq3) osq3 = w3 at *
              have hB3 := below_then hB2 hq3
              have hP3 := hP2.below hq3
              have hO3 := hO2.below hq3
              have hR3 := hR.below hB3
              clear k0 k1 k2 k3 k4
              go_wp2_with fail
              have hA3e : ∃ A3 : Option Addr, (if oc = k then (some ⟨b, off, none⟩ : Option Addr) else Option.map (fun x => x.add (k * 7)) (some ⟨b, off, none⟩ : Option Addr)) = A3 := ⟨_, rfl⟩
              obtain ⟨A3, hA3⟩ := hA3e
              have hO3s := (hxo.1.below hB3)
              have ht1 := hO3s.take k
              have ht3 := hO3s.drop (tz := k) hxo.2.2 hA3
              have hz1 := hxo.2.1
              have hz3 : A3 = none → oc - k = 0 := El.drop_none hxo.2.1 hA3
              have e1 : (ops.take k).length = k := by rw [List.length_take]; omega
              have e3 : (ops.drop k).length = ops.length - k := List.length_drop
              have hkc : k ≤ oc := Nat.le_trans hk hxo.2.2
              have i0 : (0 : Int) ≤ (k : Int) := by omega
              have i1 : (k : Int) ≤ (oc : Int) := by omega
              have i2 : (k : Int) ≤ (ops.length : Int) := by omega
              have hnv := addV_new (q := ⟨base, t, ops, us, now⟩) (m := m) (show ¬ m.C ≤ t by omega) HHF.out
              rw [insL_eq HPOS.out] at hnv
              have HNV := Lib.hid hnv
              have HE1 := Lib.hid e1
              have HE3 := Lib.hid e3
              generalize hL1 : ops.take k = L1 at *
              generalize hL3 : ops.drop k = L3 at *
              obtain ⟨B, hBe⟩ : ∃ B, w3.heap.size = B := ⟨_, rfl⟩
              have hKV : InsK W n0 n1 n2 B (⟨bA, bc, base, t, some ⟨b, off, none⟩, oc, ops, uA, uc, us, wA, wc, now⟩ : Pw) m (some ⟨b, off, none⟩) A3 L1 L3 w3.drew := ⟨hP3, hO3, hR3, El.SlB.of ht1 (Nat.le_of_eq hBe), El.SlB.of ht3 (Nat.le_of_eq hBe), hB3.drew, Nat.le_of_eq hBe.symm, by have := hP3.lt; have := hO3.lt; have := hR3.lt; have := hB3.size; omega⟩
              have hBd : w3.drew.heap.size = B := hBe
              have HL890 : L1.length + L3.length + 1 ≤ 891 := by have := HE1.out; have := HE3.out; omega
              clear e1 e3 hnv hL1 hL3 ht1 ht3 hO3s hP3 hO3 hR3 hBe
              refine region_anyG (S := InsS n0 n1 (some ⟨b, off, none⟩) ops.length oc m) 15 (by kernel_rfl) ?_
              generalize w3.drew = V at *
              have hA3s := hA3
              simp only [Option.map_some, Addr.add_lit] at hA3s
              have hS := hKV.s
              simp only at hS
              refine anyG_take (i := 1) (v := .pointer (some ⟨n0, 2, none⟩)) rfl (by kernel_rfl) (by kernel_rfl) (by kernel_rfl) (by kernel_rfl) (by kernel_rfl) (fun _ _ _ h => h) (Or.inl ⟨by rfl, fun w' hSw => by (obtain ⟨s0, s1, s2, s3, s4, s5, s6, s7⟩ := hSw; go_simp)⟩) hS ?_
              try simp only [Act.put, List.setIfInBounds_toArray, List.set_cons_zero, List.set_cons_succ]
              refine anyG_take (i := 2) (v := .slice (some ⟨b, off, none⟩) ops.length oc) rfl (by kernel_rfl) (by kernel_rfl) (by kernel_rfl) (by kernel_rfl) (by kernel_rfl) (fun _ _ _ h => h) (Or.inl ⟨by rfl, fun w' hSw => by (obtain ⟨s0, s1, s2, s3, s4, s5, s6, s7⟩ := hSw; go_simp)⟩) hS ?_
              try simp only [Act.put, List.setIfInBounds_toArray, List.set_cons_zero, List.set_cons_succ]
              refine anyG_take (i := 3) (v := .int .i64 k) rfl (by kernel_rfl) (by kernel_rfl) (by kernel_rfl) (by kernel_rfl) (by kernel_rfl) (fun _ _ _ h => h) (Or.inl ⟨by rfl, fun w' hSw => by (obtain ⟨s0, s1, s2, s3, s4, s5, s6, s7⟩ := hSw; go_simp)⟩) hS ?_
              try simp only [Act.put, List.setIfInBounds_toArray, List.set_cons_zero, List.set_cons_succ]
              refine anyG_take (i := 4) (v := .slice (some ⟨b, off, none⟩) k oc) rfl (by kernel_rfl) (by kernel_rfl) (by kernel_rfl) (by kernel_rfl) (by kernel_rfl) (fun _ _ _ h => h) (Or.inl ⟨by rfl, fun w' hSw => by (obtain ⟨s0, s1, s2, s3, s4, s5, s6, s7⟩ := hSw; go_simp)⟩) hS ?_
              try simp only [Act.put, List.setIfInBounds_toArray, List.set_cons_zero, List.set_cons_succ]
              refine anyG_take (i := 6) (v := .agg #[.int .i64 m.C, .int .i64 m.D, .int .i64 m.I, .int .i64 m.M, .int .i64 m.K, .int .i64 m.U, .string m.s]) rfl (by kernel_rfl) (by kernel_rfl) (by kernel_rfl) (by kernel_rfl) (by kernel_rfl) (fun _ _ _ h => h) (Or.inl ⟨by rfl, fun w' hSw => by (obtain ⟨s0, s1, s2, s3, s4, s5, s6, s7⟩ := hSw; go_simp)⟩) hS ?_
              try simp only [Act.put, List.setIfInBounds_toArray, List.set_cons_zero, List.set_cons_succ]
              refine anyG_take (i := 9) (v := .pointer (some ⟨n0, 2, none⟩)) rfl (by kernel_rfl) (by kernel_rfl) (by kernel_rfl) (by kernel_rfl) (by kernel_rfl) (fun _ _ _ h => h) (Or.inl ⟨by rfl, fun w' hSw => by (obtain ⟨s0, s1, s2, s3, s4, s5, s6, s7⟩ := hSw; go_simp)⟩) hS ?_
              try simp only [Act.put, List.setIfInBounds_toArray, List.set_cons_zero, List.set_cons_succ]
              refine anyG_take (i := 10) (v := .slice (some ⟨b, off, none⟩) ops.length oc) rfl (by kernel_rfl) (by kernel_rfl) (by kernel_rfl) (by kernel_rfl) (by kernel_rfl) (fun _ _ _ h => h) (Or.inl ⟨by rfl, fun w' hSw => by (obtain ⟨s0, s1, s2, s3, s4, s5, s6, s7⟩ := hSw; go_simp)⟩) hS ?_
              try simp only [Act.put, List.setIfInBounds_toArray, List.set_cons_zero, List.set_cons_succ]
              refine anyG_take (i := 11) (v := .int .i64 k) rfl (by kernel_rfl) (by kernel_rfl) (by kernel_rfl) (by kernel_rfl) (by kernel_rfl) (fun _ _ _ h => h) (Or.inl ⟨by rfl, fun w' hSw => by (obtain ⟨s0, s1, s2, s3, s4, s5, s6, s7⟩ := hSw; go_simp)⟩) hS ?_
              try simp only [Act.put, List.setIfInBounds_toArray, List.set_cons_zero, List.set_cons_succ]
              refine anyG_take (i := 12) (v := .slice A3 (ops.length - k) (oc - k)) rfl (by kernel_rfl) (by kernel_rfl) (by kernel_rfl) (by kernel_rfl) (by kernel_rfl) (fun _ _ _ h => h) (Or.inl ⟨by rfl, fun w' hSw => by (obtain ⟨s0, s1, s2, s3, s4, s5, s6, s7⟩ := hSw; go_simp)⟩) hS ?_
              try simp only [Act.put, List.setIfInBounds_toArray, List.set_cons_zero, List.set_cons_succ]
              refine anyG_step (rs := [0, 7]) (by kernel_rfl) (by simp) ?_
              refine AllG.cons rfl (fun K hK => ?_) (AllG.cons rfl (fun K hK => ?_) AllG.nil)
              · have hK1 := hKV.alloc (.cells #[] 55)
                go_simp
                refine hK.out _ _ hK1.s ?_
                try simp only [Act.put, List.setIfInBounds_toArray, List.set_cons_zero, List.set_cons_succ]
                have own1 : opE.Own (V.alloc (.cells #[] 55)) B (.slice (some ⟨B, 0, none⟩) 0 0) [] := by
                  have h := El.Own.empty (E := opE) V B (by omega)
                  rw [hBd] at h; exact h
                have hsz1 : (V.alloc (.cells #[] 55)).heap.size = B + 1 := by rw [alloc_size, hBd]
                refine anyG_step (rs := [5, 7]) (by kernel_rfl) (by simp) ?_
                refine AllG.cons rfl (fun K hK => ?_) (AllG.cons rfl (fun K hK => ?_) AllG.nil)
                · refine El.step_app opInn rfl (.tmp 49) (.tmp 53) rfl B _ [] L1 rfl own1 (some ⟨b, off, none⟩) k oc rfl HE1.out (hK1.o1.sl hK1.sz) hz1 (by simp; omega) hK1.sz ?_
                  intro v1 W1 own2 hg1 hat1
                  have own2 : opE.Own W1 B v1 L1 := own2
                  have hK2 := hK1.grown hg1 (own1).rows
                  clear hat1
                  refine hK.out _ _ hK2.s ?_
                  try simp only [Act.put, List.setIfInBounds_toArray, List.set_cons_zero, List.set_cons_succ]
                  refine anyG_step (rs := [7]) (by kernel_rfl) (by simp) ?_
                  refine AllG.cons rfl (fun K hK => ?_) AllG.nil
                  have hK3 := hK2.alloc (.cells #[.int .i64 m.C, .int .i64 m.D, .int .i64 m.I, .int .i64 m.M, .int .i64 m.K, .int .i64 m.U, .string m.s] 55)
                  go_simp
                  refine hK.out _ _ hK3.s ?_
                  try simp only [Act.put, List.setIfInBounds_toArray, List.set_cons_zero, List.set_cons_succ]
                  have own3 := own2.below (below_alloc (Below.refl _ W1) (.cells #[.int .i64 m.C, .int .i64 m.D, .int .i64 m.I, .int .i64 m.M, .int .i64 m.K, .int .i64 m.U, .string m.s] 55))
                  have one3 : opE.Sl (W1.alloc (.cells #[.int .i64 m.C, .int .i64 m.D, .int .i64 m.I, .int .i64 m.M, .int .i64 m.K, .int .i64 m.U, .string m.s] 55)) (some ⟨W1.heap.size, 0, none⟩) [m] := (El.In.new (E := opE) W1 m #[.int .i64 m.C, .int .i64 m.D, .int .i64 m.I, .int .i64 m.M, .int .i64 m.K, .int .i64 m.U, .string m.s] rfl).sl
                  refine anyG_step (rs := [8]) (by kernel_rfl) (by simp) ?_
                  refine AllG.cons rfl (fun K hK => ?_) AllG.nil
                  refine El.step_app opInn rfl (.tmp 54) (.tmp 56) rfl B _ L1 [m] rfl own3 (some ⟨W1.heap.size, 0, none⟩) 1 1 rfl rfl one3 (fun e => by cases e) (by simp; omega) hK3.sz ?_
                  intro v2 W2 own4 hg2 hat2
                  have hK4 := hK3.grown hg2 (own3).rows
                  clear hat2
                  refine hK.out _ _ hK4.s ?_
                  try simp only [Act.put, List.setIfInBounds_toArray, List.set_cons_zero, List.set_cons_succ]
                  refine anyG_step (rs := [13]) (by kernel_rfl) (by simp) ?_
                  refine AllG.cons rfl (fun K hK => ?_) AllG.nil
                  refine El.step_app opInn rfl (.tmp 57) (.tmp 61) rfl B _ (L1 ++ [m]) L3 rfl own4 A3 (ops.length - k) (oc - k) rfl HE3.out (hK4.o3.sl hK4.sz) hz3 (by rw [List.length_append, List.length_singleton]; omega) hK4.sz ?_
                  intro v3 W3 ownF hg3 hat3
                  have hKF := hK4.grown hg3 (own4).rows
                  clear hat3
                  refine hK.out _ _ hKF.s ?_
                  try simp only [Act.put, List.setIfInBounds_toArray, List.set_cons_zero, List.set_cons_succ]
                  obtain ⟨A', c', rfl, hSn⟩ := SlV.own ownF
                  have hfr := ownF.frs
                  have hLL : ((L1 ++ [m]) ++ L3).length ≤ ops.length + 1 := by rw [List.length_append, List.length_append, List.length_singleton, HE1.out, HE3.out]; omega
                  generalize (L1 ++ [m]) ++ L3 = L at *
                  have hS := hKF.s
                  simp only at hS
                  refine anyG_take (i := 14) (v := .pointer (some ⟨n0, 2, none⟩)) rfl (by kernel_rfl) (by kernel_rfl) (by kernel_rfl) (by kernel_rfl) (by kernel_rfl) (fun _ _ _ h => h) (Or.inl ⟨by rfl, fun w' hSw => by (obtain ⟨s0, s1, s2, s3, s4, s5, s6, s7⟩ := hSw; go_simp)⟩) hS ?_
                  try simp only [Act.put, List.setIfInBounds_toArray, List.set_cons_zero, List.set_cons_succ]
                  refine anyG_step (rs := [15]) (by kernel_rfl) (by simp) ?_
                  refine AllG.last (n := 15) rfl (fun K hK => ?_)
                  obtain ⟨p0, p1, p2, p3, p4⟩ := pwIn5 hKF.P
                  have pf := hKF.P.frozen
                  go_simp
                  refine hK.out _ _ ?_
                  try simp only [Act.put, List.setIfInBounds_toArray, List.set_cons_zero, List.set_cons_succ]
                  refine anyG_done (by kernel_rfl) ?_ _
                  have hlt4 := hKF.lt
                  have hn20 : n2 ≠ n0 := by have := HNN.out; omega
                  have hP7 := hKF.P.put ⟨bA, bc, base, t, A', c', L, uA, uc, us, wA, wc, now⟩ 2 (.slice A' L.length c') rfl
                  have hR7 := hKF.R.other n0 2 (.slice A' L.length c') hn20
                  have hg7 := by_cell W3 n0 2 (.slice A' L.length c')
                  have hS7 := hSn.keep hfr hg7 hlt4.1
                  have hB6 : Below w.heap.size w W3 := by rw [HNW.out]; exact hB.trans (hKF.bel.mono hn0W)
                  have hB7 := hB6.grown hg7 hB6.size (fun j e => by have := Option.some.inj e; have := HNW.out; omega)
                  have hb7 := (HL.out.below hB7).b
                  simp only at hb7
                  have CF := mvRefFold_any bA bc base A' c' L _ (by have := HL9.out; omega) hb7 hS7.1
                  generalize W3.setCell ⟨n0, 2, none⟩ (.slice A' L.length c') = W7 at *
                  clear p0 p1 p2 p3 p4 pf hK hKF hS hSn ownF
                  obtain ⟨r0, r1, r2, r3, r4⟩ := pwIn5 hP7
                  go_wp2_with fail
                  refine CF.mono ?_
                  rintro e W8 ⟨A5, c5, U5, uc5, rfl, hF1, hF2, hfr1, hfr2, hb8⟩
                  clear CF r0 r1 r2 r3 r4
                  have hP8 := hP7.below hb8
                  have hR8 := hR7.below hb8
                  have hS8 := hS7.below hb8
                  have hl0 := hP7.lt
                  have hl2 := hR7.lt
                  generalize (foldL base (mvs L)).1 = now1 at *
                  generalize (foldL base (mvs L)).2 = us1 at *
                  obtain ⟨r0, r1, r2, r3, r4⟩ := pwIn5 hP8
                  have pf8 := hP8.frozen
                  have hP10 := (hP8.put ⟨bA, bc, base, t, A', c', L, uA, uc, us, A5, c5, now1⟩ 4 (.slice A5 now1.length c5) rfl).put ⟨bA, bc, base, t, A', c', L, U5, uc5, us1, A5, c5, now1⟩ 3 (.slice U5 us1.length uc5) rfl
                  have hR10 := (hR8.other n0 4 (.slice A5 now1.length c5) hn20).other n0 3 (.slice U5 us1.length uc5) hn20
                  have hg10 := by_cell2 (by_cell W8 n0 4 (.slice A5 now1.length c5)) 3 (.slice U5 us1.length uc5)
                  go_wp2_with (first | (refine El.load pwRow rfl _ rfl n0 0 rfl ⟨bA, bc, base, t, A', c', L, U5, uc5, us1, A5, c5, now1⟩ hP10.at #[.slice bA base.length bc, .int .i64 t, .slice A' L.length c', .slice U5 us1.length uc5, .slice A5 now1.length c5] rfl ?_) | (refine El.store pwRow rfl _ _ rfl n2 ⟨bA, bc, base, t, A', c', L, U5, uc5, us1, A5, c5, now1⟩ #[.slice bA base.length bc, .int .i64 t, .slice A' L.length c', .slice U5 us1.length uc5, .slice A5 now1.length c5] rfl rfl rfl Pw.zero hR10 ?_))
                  refine El.ret2 pwRow (v := .bool true) (hR10.set ⟨bA, bc, base, t, A', c', L, U5, uc5, us1, A5, c5, now1⟩ #[.slice bA base.length bc, .int .i64 t, .slice A' L.length c', .slice U5 us1.length uc5, .slice A5 now1.length c5] rfl) rfl rfl rfl rfl #[.slice bA base.length bc, .int .i64 t, .slice A' L.length c', .slice U5 us1.length uc5, .slice A5 now1.length c5] rfl ?_
                  have hw0 : w.heap.size ≤ n0 ∧ w.heap.size ≤ n2 := by have := HNN.out; have := HNW.out; omega
                  have hB8 := below_then hB7 hb8
                  have hB10 := hB8.grown hg10 hB8.size (fun j e => by have := Option.some.inj e; omega)
                  have hBz := below_setRow hB10 hw0.2 #[.slice bA base.length bc, .int .i64 t, .slice A' L.length c', .slice U5 us1.length uc5, .slice A5 now1.length c5]
                  have hgz := fun W => by_row W n2 #[.slice bA base.length bc, .int .i64 t, .slice A' L.length c', .slice U5 us1.length uc5, .slice A5 now1.length c5]
                  exact ⟨⟨bA, bc, base, t, A', c', L, U5, uc5, us1, A5, c5, now1⟩, by rw [HNV.out], ⟨(HL.out.below hBz).b, (hS8.keep hfr hg10 hlt4.1).keep hfr (hgz _) hlt4.2.2.1, (hF2.keep hfr2 hg10 hl0).keep hfr2 (hgz _) hl2, (hF1.keep hfr1 hg10 hl0).keep hfr1 (hgz _) hl2⟩, by rw [HNV.out]; rfl, hBz, ⟨rfl, rfl⟩, Or.inr (hfr.mono (by have := HNW.out; have := hlt4.1; omega)), Or.inr (hfr2.mono (by have := HNW.out; have := hB7.size; omega)), Or.inr (hfr1.mono (by have := HNW.out; have := hB7.size; omega))⟩
                · have hK2 := hK1.alloc (.cells #[.int .i64 m.C, .int .i64 m.D, .int .i64 m.I, .int .i64 m.M, .int .i64 m.K, .int .i64 m.U, .string m.s] 55)
                  go_simp
                  refine hK.out _ _ hK2.s ?_
                  try simp only [Act.put, List.setIfInBounds_toArray, List.set_cons_zero, List.set_cons_succ]
                  have own2 := own1.below (below_alloc (Below.refl _ (V.alloc (.cells #[] 55))) (.cells #[.int .i64 m.C, .int .i64 m.D, .int .i64 m.I, .int .i64 m.M, .int .i64 m.K, .int .i64 m.U, .string m.s] 55))
                  have one2 : opE.Sl ((V.alloc (.cells #[] 55)).alloc (.cells #[.int .i64 m.C, .int .i64 m.D, .int .i64 m.I, .int .i64 m.M, .int .i64 m.K, .int .i64 m.U, .string m.s] 55)) (some ⟨B + 1, 0, none⟩) [m] := by
                    have h := (El.In.new (E := opE) (V.alloc (.cells #[] 55)) m #[.int .i64 m.C, .int .i64 m.D, .int .i64 m.I, .int .i64 m.M, .int .i64 m.K, .int .i64 m.U, .string m.s] rfl).sl
                    rw [hsz1] at h; exact h
                  refine anyG_step (rs := [5]) (by kernel_rfl) (by simp) ?_
                  refine AllG.cons rfl (fun K hK => ?_) AllG.nil
                  refine El.step_app opInn rfl (.tmp 49) (.tmp 53) rfl B _ [] L1 rfl own2 (some ⟨b, off, none⟩) k oc rfl HE1.out (hK2.o1.sl hK2.sz) hz1 (by simp; omega) hK2.sz ?_
                  intro v1 W1 own3 hg1 hat1
                  have own3 : opE.Own W1 B v1 L1 := own3
                  have hK3 := hK2.grown hg1 (own2).rows
                  have one3 := one2.keep1 hg1 (fun e => by have e : some (B + 1) = some B := e; have := Option.some.inj e; omega)
                  clear hat1
                  refine hK.out _ _ hK3.s ?_
                  try simp only [Act.put, List.setIfInBounds_toArray, List.set_cons_zero, List.set_cons_succ]
                  refine anyG_step (rs := [8]) (by kernel_rfl) (by simp) ?_
                  refine AllG.cons rfl (fun K hK => ?_) AllG.nil
                  refine El.step_app opInn rfl (.tmp 54) (.tmp 56) rfl B _ L1 [m] rfl own3 (some ⟨B + 1, 0, none⟩) 1 1 rfl rfl one3 (fun e => by cases e) (by simp; omega) hK3.sz ?_
                  intro v2 W2 own4 hg2 hat2
                  have hK4 := hK3.grown hg2 (own3).rows
                  clear hat2
                  refine hK.out _ _ hK4.s ?_
                  try simp only [Act.put, List.setIfInBounds_toArray, List.set_cons_zero, List.set_cons_succ]
                  refine anyG_step (rs := [13]) (by kernel_rfl) (by simp) ?_
                  refine AllG.cons rfl (fun K hK => ?_) AllG.nil
                  refine El.step_app opInn rfl (.tmp 57) (.tmp 61) rfl B _ (L1 ++ [m]) L3 rfl own4 A3 (ops.length - k) (oc - k) rfl HE3.out (hK4.o3.sl hK4.sz) hz3 (by rw [List.length_append, List.length_singleton]; omega) hK4.sz ?_
                  intro v3 W3 ownF hg3 hat3
                  have hKF := hK4.grown hg3 (own4).rows
                  clear hat3
                  refine hK.out _ _ hKF.s ?_
                  try simp only [Act.put, List.setIfInBounds_toArray, List.set_cons_zero, List.set_cons_succ]
                  obtain ⟨A', c', rfl, hSn⟩ := SlV.own ownF
                  have hfr := ownF.frs
                  have hLL : ((L1 ++ [m]) ++ L3).length ≤ ops.length + 1 := by rw [List.length_append, List.length_append, List.length_singleton, HE1.out, HE3.out]; omega
                  generalize (L1 ++ [m]) ++ L3 = L at *
                  have hS := hKF.s
                  simp only at hS
                  refine anyG_take (i := 14) (v := .pointer (some ⟨n0, 2, none⟩)) rfl (by kernel_rfl) (by kernel_rfl) (by kernel_rfl) (by kernel_rfl) (by kernel_rfl) (fun _ _ _ h => h) (Or.inl ⟨by rfl, fun w' hSw => by (obtain ⟨s0, s1, s2, s3, s4, s5, s6, s7⟩ := hSw; go_simp)⟩) hS ?_
                  try simp only [Act.put, List.setIfInBounds_toArray, List.set_cons_zero, List.set_cons_succ]
                  refine anyG_step (rs := [15]) (by kernel_rfl) (by simp) ?_
                  refine AllG.last (n := 15) rfl (fun K hK => ?_)
                  obtain ⟨p0, p1, p2, p3, p4⟩ := pwIn5 hKF.P
                  have pf := hKF.P.frozen
                  go_simp
                  refine hK.out _ _ ?_
                  try simp only [Act.put, List.setIfInBounds_toArray, List.set_cons_zero, List.set_cons_succ]
                  refine anyG_done (by kernel_rfl) ?_ _
                  have hlt4 := hKF.lt
                  have hn20 : n2 ≠ n0 := by have := HNN.out; omega
                  have hP7 := hKF.P.put ⟨bA, bc, base, t, A', c', L, uA, uc, us, wA, wc, now⟩ 2 (.slice A' L.length c') rfl
                  have hR7 := hKF.R.other n0 2 (.slice A' L.length c') hn20
                  have hg7 := by_cell W3 n0 2 (.slice A' L.length c')
                  have hS7 := hSn.keep hfr hg7 hlt4.1
                  have hB6 : Below w.heap.size w W3 := by rw [HNW.out]; exact hB.trans (hKF.bel.mono hn0W)
                  have hB7 := hB6.grown hg7 hB6.size (fun j e => by have := Option.some.inj e; have := HNW.out; omega)
                  have hb7 := (HL.out.below hB7).b
                  simp only at hb7
                  have CF := mvRefFold_any bA bc base A' c' L _ (by have := HL9.out; omega) hb7 hS7.1
                  generalize W3.setCell ⟨n0, 2, none⟩ (.slice A' L.length c') = W7 at *
                  clear p0 p1 p2 p3 p4 pf hK hKF hS hSn ownF
                  obtain ⟨r0, r1, r2, r3, r4⟩ := pwIn5 hP7
                  go_wp2_with fail
                  refine CF.mono ?_
                  rintro e W8 ⟨A5, c5, U5, uc5, rfl, hF1, hF2, hfr1, hfr2, hb8⟩
                  clear CF r0 r1 r2 r3 r4
                  have hP8 := hP7.below hb8
                  have hR8 := hR7.below hb8
                  have hS8 := hS7.below hb8
                  have hl0 := hP7.lt
                  have hl2 := hR7.lt
                  generalize (foldL base (mvs L)).1 = now1 at *
                  generalize (foldL base (mvs L)).2 = us1 at *
                  obtain ⟨r0, r1, r2, r3, r4⟩ := pwIn5 hP8
                  have pf8 := hP8.frozen
                  have hP10 := (hP8.put ⟨bA, bc, base, t, A', c', L, uA, uc, us, A5, c5, now1⟩ 4 (.slice A5 now1.length c5) rfl).put ⟨bA, bc, base, t, A', c', L, U5, uc5, us1, A5, c5, now1⟩ 3 (.slice U5 us1.length uc5) rfl
                  have hR10 := (hR8.other n0 4 (.slice A5 now1.length c5) hn20).other n0 3 (.slice U5 us1.length uc5) hn20
                  have hg10 := by_cell2 (by_cell W8 n0 4 (.slice A5 now1.length c5)) 3 (.slice U5 us1.length uc5)
                  go_wp2_with (first | (refine El.load pwRow rfl _ rfl n0 0 rfl ⟨bA, bc, base, t, A', c', L, U5, uc5, us1, A5, c5, now1⟩ hP10.at #[.slice bA base.length bc, .int .i64 t, .slice A' L.length c', .slice U5 us1.length uc5, .slice A5 now1.length c5] rfl ?_) | (refine El.store pwRow rfl _ _ rfl n2 ⟨bA, bc, base, t, A', c', L, U5, uc5, us1, A5, c5, now1⟩ #[.slice bA base.length bc, .int .i64 t, .slice A' L.length c', .slice U5 us1.length uc5, .slice A5 now1.length c5] rfl rfl rfl Pw.zero hR10 ?_))
                  refine El.ret2 pwRow (v := .bool true) (hR10.set ⟨bA, bc, base, t, A', c', L, U5, uc5, us1, A5, c5, now1⟩ #[.slice bA base.length bc, .int .i64 t, .slice A' L.length c', .slice U5 us1.length uc5, .slice A5 now1.length c5] rfl) rfl rfl rfl rfl #[.slice bA base.length bc, .int .i64 t, .slice A' L.length c', .slice U5 us1.length uc5, .slice A5 now1.length c5] rfl ?_
                  have hw0 : w.heap.size ≤ n0 ∧ w.heap.size ≤ n2 := by have := HNN.out; have := HNW.out; omega
                  have hB8 := below_then hB7 hb8
                  have hB10 := hB8.grown hg10 hB8.size (fun j e => by have := Option.some.inj e; omega)
                  have hBz := below_setRow hB10 hw0.2 #[.slice bA base.length bc, .int .i64 t, .slice A' L.length c', .slice U5 us1.length uc5, .slice A5 now1.length c5]
                  have hgz := fun W => by_row W n2 #[.slice bA base.length bc, .int .i64 t, .slice A' L.length c', .slice U5 us1.length uc5, .slice A5 now1.length c5]
                  exact ⟨⟨bA, bc, base, t, A', c', L, U5, uc5, us1, A5, c5, now1⟩, by rw [HNV.out], ⟨(HL.out.below hBz).b, (hS8.keep hfr hg10 hlt4.1).keep hfr (hgz _) hlt4.2.2.1, (hF2.keep hfr2 hg10 hl0).keep hfr2 (hgz _) hl2, (hF1.keep hfr1 hg10 hl0).keep hfr1 (hgz _) hl2⟩, by rw [HNV.out]; rfl, hBz, ⟨rfl, rfl⟩, Or.inr (hfr.mono (by have := HNW.out; have := hlt4.1; omega)), Or.inr (hfr2.mono (by have := HNW.out; have := hB7.size; omega)), Or.inr (hfr1.mono (by have := HNW.out; have := hB7.size; omega))⟩
              · have hK1 := hKV.alloc (.cells #[.int .i64 m.C, .int .i64 m.D, .int .i64 m.I, .int .i64 m.M, .int .i64 m.K, .int .i64 m.U, .string m.s] 55)
                go_simp
                refine hK.out _ _ hK1.s ?_
                try simp only [Act.put, List.setIfInBounds_toArray, List.set_cons_zero, List.set_cons_succ]
                have one1 : opE.Sl (V.alloc (.cells #[.int .i64 m.C, .int .i64 m.D, .int .i64 m.I, .int .i64 m.M, .int .i64 m.K, .int .i64 m.U, .string m.s] 55)) (some ⟨B, 0, none⟩) [m] := by
                  have h := (El.In.new (E := opE) V m #[.int .i64 m.C, .int .i64 m.D, .int .i64 m.I, .int .i64 m.M, .int .i64 m.K, .int .i64 m.U, .string m.s] rfl).sl
                  rw [hBd] at h; exact h
                have hsz1 : (V.alloc (.cells #[.int .i64 m.C, .int .i64 m.D, .int .i64 m.I, .int .i64 m.M, .int .i64 m.K, .int .i64 m.U, .string m.s] 55)).heap.size = B + 1 := by rw [alloc_size, hBd]
                refine anyG_step (rs := [0]) (by kernel_rfl) (by simp) ?_
                refine AllG.cons rfl (fun K hK => ?_) AllG.nil
                have hK2 := hK1.alloc (.cells #[] 55)
                go_simp
                refine hK.out _ _ hK2.s ?_
                try simp only [Act.put, List.setIfInBounds_toArray, List.set_cons_zero, List.set_cons_succ]
                have own2 : opE.Own ((V.alloc (.cells #[.int .i64 m.C, .int .i64 m.D, .int .i64 m.I, .int .i64 m.M, .int .i64 m.K, .int .i64 m.U, .string m.s] 55)).alloc (.cells #[] 55)) B (.slice (some ⟨B + 1, 0, none⟩) 0 0) [] := by
                  have h := El.Own.empty (E := opE) (V.alloc (.cells #[.int .i64 m.C, .int .i64 m.D, .int .i64 m.I, .int .i64 m.M, .int .i64 m.K, .int .i64 m.U, .string m.s] 55)) B (by omega)
                  rw [hsz1] at h; exact h
                have one2 := one1.below (below_alloc (Below.refl _ (V.alloc (.cells #[.int .i64 m.C, .int .i64 m.D, .int .i64 m.I, .int .i64 m.M, .int .i64 m.K, .int .i64 m.U, .string m.s] 55))) (.cells #[] 55))
                refine anyG_step (rs := [5]) (by kernel_rfl) (by simp) ?_
                refine AllG.cons rfl (fun K hK => ?_) AllG.nil
                refine El.step_app opInn rfl (.tmp 49) (.tmp 53) rfl B _ [] L1 rfl own2 (some ⟨b, off, none⟩) k oc rfl HE1.out (hK2.o1.sl hK2.sz) hz1 (by simp; omega) hK2.sz ?_
                intro v1 W1 own3 hg1 hat1
                have own3 : opE.Own W1 B v1 L1 := own3
                have hK3 := hK2.grown hg1 (own2).rows
                have one3 := one2.keep1 hg1 (fun e => by have e : some B = some (B + 1) := e; have := Option.some.inj e; omega)
                clear hat1
                refine hK.out _ _ hK3.s ?_
                try simp only [Act.put, List.setIfInBounds_toArray, List.set_cons_zero, List.set_cons_succ]
                refine anyG_step (rs := [8]) (by kernel_rfl) (by simp) ?_
                refine AllG.cons rfl (fun K hK => ?_) AllG.nil
                refine El.step_app opInn rfl (.tmp 54) (.tmp 56) rfl B _ L1 [m] rfl own3 (some ⟨B, 0, none⟩) 1 1 rfl rfl one3 (fun e => by cases e) (by simp; omega) hK3.sz ?_
                intro v2 W2 own4 hg2 hat2
                have hK4 := hK3.grown hg2 (own3).rows
                clear hat2
                refine hK.out _ _ hK4.s ?_
                try simp only [Act.put, List.setIfInBounds_toArray, List.set_cons_zero, List.set_cons_succ]
                refine anyG_step (rs := [13]) (by kernel_rfl) (by simp) ?_
                refine AllG.cons rfl (fun K hK => ?_) AllG.nil
                refine El.step_app opInn rfl (.tmp 57) (.tmp 61) rfl B _ (L1 ++ [m]) L3 rfl own4 A3 (ops.length - k) (oc - k) rfl HE3.out (hK4.o3.sl hK4.sz) hz3 (by rw [List.length_append, List.length_singleton]; omega) hK4.sz ?_
                intro v3 W3 ownF hg3 hat3
                have hKF := hK4.grown hg3 (own4).rows
                clear hat3
                refine hK.out _ _ hKF.s ?_
                try simp only [Act.put, List.setIfInBounds_toArray, List.set_cons_zero, List.set_cons_succ]
                obtain ⟨A', c', rfl, hSn⟩ := SlV.own ownF
                have hfr := ownF.frs
                have hLL : ((L1 ++ [m]) ++ L3).length ≤ ops.length + 1 := by rw [List.length_append, List.length_append, List.length_singleton, HE1.out, HE3.out]; omega
                generalize (L1 ++ [m]) ++ L3 = L at *
                have hS := hKF.s
                simp only at hS
                refine anyG_take (i := 14) (v := .pointer (some ⟨n0, 2, none⟩)) rfl (by kernel_rfl) (by kernel_rfl) (by kernel_rfl) (by kernel_rfl) (by kernel_rfl) (fun _ _ _ h => h) (Or.inl ⟨by rfl, fun w' hSw => by (obtain ⟨s0, s1, s2, s3, s4, s5, s6, s7⟩ := hSw; go_simp)⟩) hS ?_
                try simp only [Act.put, List.setIfInBounds_toArray, List.set_cons_zero, List.set_cons_succ]
                refine anyG_step (rs := [15]) (by kernel_rfl) (by simp) ?_
                refine AllG.last (n := 15) rfl (fun K hK => ?_)
                obtain ⟨p0, p1, p2, p3, p4⟩ := pwIn5 hKF.P
                have pf := hKF.P.frozen
                go_simp
                refine hK.out _ _ ?_
                try simp only [Act.put, List.setIfInBounds_toArray, List.set_cons_zero, List.set_cons_succ]
                refine anyG_done (by kernel_rfl) ?_ _
                have hlt4 := hKF.lt
                have hn20 : n2 ≠ n0 := by have := HNN.out; omega
                have hP7 := hKF.P.put ⟨bA, bc, base, t, A', c', L, uA, uc, us, wA, wc, now⟩ 2 (.slice A' L.length c') rfl
                have hR7 := hKF.R.other n0 2 (.slice A' L.length c') hn20
                have hg7 := by_cell W3 n0 2 (.slice A' L.length c')
                have hS7 := hSn.keep hfr hg7 hlt4.1
                have hB6 : Below w.heap.size w W3 := by rw [HNW.out]; exact hB.trans (hKF.bel.mono hn0W)
                have hB7 := hB6.grown hg7 hB6.size (fun j e => by have := Option.some.inj e; have := HNW.out; omega)
                have hb7 := (HL.out.below hB7).b
                simp only at hb7
                have CF := mvRefFold_any bA bc base A' c' L _ (by have := HL9.out; omega) hb7 hS7.1
                generalize W3.setCell ⟨n0, 2, none⟩ (.slice A' L.length c') = W7 at *
                clear p0 p1 p2 p3 p4 pf hK hKF hS hSn ownF
                obtain ⟨r0, r1, r2, r3, r4⟩ := pwIn5 hP7
                go_wp2_with fail
                refine CF.mono ?_
                rintro e W8 ⟨A5, c5, U5, uc5, rfl, hF1, hF2, hfr1, hfr2, hb8⟩
                clear CF r0 r1 r2 r3 r4
                have hP8 := hP7.below hb8
                have hR8 := hR7.below hb8
                have hS8 := hS7.below hb8
                have hl0 := hP7.lt
                have hl2 := hR7.lt
                generalize (foldL base (mvs L)).1 = now1 at *
                generalize (foldL base (mvs L)).2 = us1 at *
                obtain ⟨r0, r1, r2, r3, r4⟩ := pwIn5 hP8
                have pf8 := hP8.frozen
                have hP10 := (hP8.put ⟨bA, bc, base, t, A', c', L, uA, uc, us, A5, c5, now1⟩ 4 (.slice A5 now1.length c5) rfl).put ⟨bA, bc, base, t, A', c', L, U5, uc5, us1, A5, c5, now1⟩ 3 (.slice U5 us1.length uc5) rfl
                have hR10 := (hR8.other n0 4 (.slice A5 now1.length c5) hn20).other n0 3 (.slice U5 us1.length uc5) hn20
                have hg10 := by_cell2 (by_cell W8 n0 4 (.slice A5 now1.length c5)) 3 (.slice U5 us1.length uc5)
                go_wp2_with (first | (refine El.load pwRow rfl _ rfl n0 0 rfl ⟨bA, bc, base, t, A', c', L, U5, uc5, us1, A5, c5, now1⟩ hP10.at #[.slice bA base.length bc, .int .i64 t, .slice A' L.length c', .slice U5 us1.length uc5, .slice A5 now1.length c5] rfl ?_) | (refine El.store pwRow rfl _ _ rfl n2 ⟨bA, bc, base, t, A', c', L, U5, uc5, us1, A5, c5, now1⟩ #[.slice bA base.length bc, .int .i64 t, .slice A' L.length c', .slice U5 us1.length uc5, .slice A5 now1.length c5] rfl rfl rfl Pw.zero hR10 ?_))
                refine El.ret2 pwRow (v := .bool true) (hR10.set ⟨bA, bc, base, t, A', c', L, U5, uc5, us1, A5, c5, now1⟩ #[.slice bA base.length bc, .int .i64 t, .slice A' L.length c', .slice U5 us1.length uc5, .slice A5 now1.length c5] rfl) rfl rfl rfl rfl #[.slice bA base.length bc, .int .i64 t, .slice A' L.length c', .slice U5 us1.length uc5, .slice A5 now1.length c5] rfl ?_
                have hw0 : w.heap.size ≤ n0 ∧ w.heap.size ≤ n2 := by have := HNN.out; have := HNW.out; omega
                have hB8 := below_then hB7 hb8
                have hB10 := hB8.grown hg10 hB8.size (fun j e => by have := Option.some.inj e; omega)
                have hBz := below_setRow hB10 hw0.2 #[.slice bA base.length bc, .int .i64 t, .slice A' L.length c', .slice U5 us1.length uc5, .slice A5 now1.length c5]
                have hgz := fun W => by_row W n2 #[.slice bA base.length bc, .int .i64 t, .slice A' L.length c', .slice U5 us1.length uc5, .slice A5 now1.length c5]
                exact ⟨⟨bA, bc, base, t, A', c', L, U5, uc5, us1, A5, c5, now1⟩, by rw [HNV.out], ⟨(HL.out.below hBz).b, (hS8.keep hfr hg10 hlt4.1).keep hfr (hgz _) hlt4.2.2.1, (hF2.keep hfr2 hg10 hl0).keep hfr2 (hgz _) hl2, (hF1.keep hfr1 hg10 hl0).keep hfr1 (hgz _) hl2⟩, by rw [HNV.out]; rfl, hBz, ⟨rfl, rfl⟩, Or.inr (hfr.mono (by have := HNW.out; have := hlt4.1; omega)), Or.inr (hfr2.mono (by have := HNW.out; have := hB7.size; omega)), Or.inr (hfr1.mono (by have := HNW.out; have := hB7.size; omega))⟩
            · refine wp_region_quiet_below (by kernel_rfl) (by kernel_rfl) ?_
              repeat (go_big_quiet_step (fail))
              refine wpQuiet_nil ?_
              intro _ hw'
              obtain ⟨⟨dq3, osq3⟩, hw3⟩ := hw'
              subst hw3
              have hq3 := below_regrown w2 dq3 osq3
              generalize Sort.grow (redrawn w2 dq3) osq3 = w3 at *
              have hB3 := below_then hB2 hq3
              have hP3 := hP2.below hq3
              have hO3 := hO2.below hq3
              have hR3 := hR.below hB3
              clear k0 k1 k2 k3 k4
              go_wp2_with fail
              have hA3e : ∃ A3 : Option Addr, (if oc = k then (some ⟨b, off, none⟩ : Option Addr) else Option.map (fun x => x.add (k * 7)) (some ⟨b, off, none⟩ : Option Addr)) = A3 := ⟨_, rfl⟩
              obtain ⟨A3, hA3⟩ := hA3e
              have hO3s := (hxo.1.below hB3)
              have ht1 := hO3s.take k
              have ht3 := hO3s.drop (tz := k) hxo.2.2 hA3
              have hz1 := hxo.2.1
              have hz3 : A3 = none → oc - k = 0 := El.drop_none hxo.2.1 hA3
              have e1 : (ops.take k).length = k := by rw [List.length_take]; omega
              have e3 : (ops.drop k).length = ops.length - k := List.length_drop
              have hkc : k ≤ oc := Nat.le_trans hk hxo.2.2
              have i0 : (0 : Int) ≤ (k : Int) := by omega
              have i1 : (k : Int) ≤ (oc : Int) := by omega
              have i2 : (k : Int) ≤ (ops.length : Int) := by omega
              have hnv := addV_new (q := ⟨base, t, ops, us, now⟩) (m := m) (show ¬ m.C ≤ t by omega) HHF.out
              rw [insL_eq HPOS.out] at hnv
              have HNV := Lib.hid hnv
              have HE1 := Lib.hid e1
              have HE3 := Lib.hid e3
              generalize hL1 : ops.take k = L1 at *
              generalize hL3 : ops.drop k = L3 at *
              obtain ⟨B, hBe⟩ : ∃ B, w3.heap.size = B := ⟨_, rfl⟩
              have hKV : InsK W n0 n1 n2 B (⟨bA, bc, base, t, some ⟨b, off, none⟩, oc, ops, uA, uc, us, wA, wc, now⟩ : Pw) m (some ⟨b, off, none⟩) A3 L1 L3 w3.drew := ⟨hP3, hO3, hR3, El.SlB.of ht1 (Nat.le_of_eq hBe), El.SlB.of ht3 (Nat.le_of_eq hBe), hB3.drew, Nat.le_of_eq hBe.symm, by have := hP3.lt; have := hO3.lt; have := hR3.lt; have := hB3.size; omega⟩
              have hBd : w3.drew.heap.size = B := hBe
              have HL890 : L1.length + L3.length + 1 ≤ 891 := by have := HE1.out; have := HE3.out; omega
              clear e1 e3 hnv hL1 hL3 ht1 ht3 hO3s hP3 hO3 hR3 hBe
              refine region_anyG (S := InsS n0 n1 (some ⟨b, off, none⟩) ops.length oc m) 15 (by kernel_rfl) ?_
              generalize w3.drew = V at *
              have hA3s := hA3
              simp only [Option.map_some, Addr.add_lit] at hA3s
              have hS := hKV.s
              simp only at hS
              refine anyG_take (i := 1) (v := .pointer (some ⟨n0, 2, none⟩)) rfl (by kernel_rfl) (by kernel_rfl) (by kernel_rfl) (by kernel_rfl) (by kernel_rfl) (fun _ _ _ h => h) (Or.inl ⟨by rfl, fun w' hSw => by (obtain ⟨s0, s1, s2, s3, s4, s5, s6, s7⟩ := hSw; go_simp)⟩) hS ?_
              try simp only [Act.put, List.setIfInBounds_toArray, List.set_cons_zero, List.set_cons_succ]
              refine anyG_take (i := 2) (v := .slice (some ⟨b, off, none⟩) ops.length oc) rfl (by kernel_rfl) (by kernel_rfl) (by kernel_rfl) (by kernel_rfl) (by kernel_rfl) (fun _ _ _ h => h) (Or.inl ⟨by rfl, fun w' hSw => by (obtain ⟨s0, s1, s2, s3, s4, s5, s6, s7⟩ := hSw; go_simp)⟩) hS ?_
              try simp only [Act.put, List.setIfInBounds_toArray, List.set_cons_zero, List.set_cons_succ]
              refine anyG_take (i := 3) (v := .int .i64 k) rfl (by kernel_rfl) (by kernel_rfl) (by kernel_rfl) (by kernel_rfl) (by kernel_rfl) (fun _ _ _ h => h) (Or.inl ⟨by rfl, fun w' hSw => by (obtain ⟨s0, s1, s2, s3, s4, s5, s6, s7⟩ := hSw; go_simp)⟩) hS ?_
              try simp only [Act.put, List.setIfInBounds_toArray, List.set_cons_zero, List.set_cons_succ]
              refine anyG_take (i := 4) (v := .slice (some ⟨b, off, none⟩) k oc) rfl (by kernel_rfl) (by kernel_rfl) (by kernel_rfl) (by kernel_rfl) (by kernel_rfl) (fun _ _ _ h => h) (Or.inl ⟨by rfl, fun w' hSw => by (obtain ⟨s0, s1, s2, s3, s4, s5, s6, s7⟩ := hSw; go_simp)⟩) hS ?_
              try simp only [Act.put, List.setIfInBounds_toArray, List.set_cons_zero, List.set_cons_succ]
              refine anyG_take (i := 6) (v := .agg #[.int .i64 m.C, .int .i64 m.D, .int .i64 m.I, .int .i64 m.M, .int .i64 m.K, .int .i64 m.U, .string m.s]) rfl (by kernel_rfl) (by kernel_rfl) (by kernel_rfl) (by kernel_rfl) (by kernel_rfl) (fun _ _ _ h => h) (Or.inl ⟨by rfl, fun w' hSw => by (obtain ⟨s0, s1, s2, s3, s4, s5, s6, s7⟩ := hSw; go_simp)⟩) hS ?_
              try simp only [Act.put, List.setIfInBounds_toArray, List.set_cons_zero, List.set_cons_succ]
              refine anyG_take (i := 9) (v := .pointer (some ⟨n0, 2, none⟩)) rfl (by kernel_rfl) (by kernel_rfl) (by kernel_rfl) (by kernel_rfl) (by kernel_rfl) (fun _ _ _ h => h) (Or.inl ⟨by rfl, fun w' hSw => by (obtain ⟨s0, s1, s2, s3, s4, s5, s6, s7⟩ := hSw; go_simp)⟩) hS ?_
              try simp only [Act.put, List.setIfInBounds_toArray, List.set_cons_zero, List.set_cons_succ]
              refine anyG_take (i := 10) (v := .slice (some ⟨b, off, none⟩) ops.length oc) rfl (by kernel_rfl) (by kernel_rfl) (by kernel_rfl) (by kernel_rfl) (by kernel_rfl) (fun _ _ _ h => h) (Or.inl ⟨by rfl, fun w' hSw => by (obtain ⟨s0, s1, s2, s3, s4, s5, s6, s7⟩ := hSw; go_simp)⟩) hS ?_
              try simp only [Act.put, List.setIfInBounds_toArray, List.set_cons_zero, List.set_cons_succ]
              refine anyG_take (i := 11) (v := .int .i64 k) rfl (by kernel_rfl) (by kernel_rfl) (by kernel_rfl) (by kernel_rfl) (by kernel_rfl) (fun _ _ _ h => h) (Or.inl ⟨by rfl, fun w' hSw => by (obtain ⟨s0, s1, s2, s3, s4, s5, s6, s7⟩ := hSw; go_simp)⟩) hS ?_
              try simp only [Act.put, List.setIfInBounds_toArray, List.set_cons_zero, List.set_cons_succ]
              refine anyG_take (i := 12) (v := .slice A3 (ops.length - k) (oc - k)) rfl (by kernel_rfl) (by kernel_rfl) (by kernel_rfl) (by kernel_rfl) (by kernel_rfl) (fun _ _ _ h => h) (Or.inl ⟨by rfl, fun w' hSw => by (obtain ⟨s0, s1, s2, s3, s4, s5, s6, s7⟩ := hSw; go_simp)⟩) hS ?_
              try simp only [Act.put, List.setIfInBounds_toArray, List.set_cons_zero, List.set_cons_succ]
              refine anyG_step (rs := [0, 7]) (by kernel_rfl) (by simp) ?_
              refine AllG.cons rfl (fun K hK => ?_) (AllG.cons rfl (fun K hK => ?_) AllG.nil)
              · have hK1 := hKV.alloc (.cells #[] 55)
                go_simp
                refine hK.out _ _ hK1.s ?_
                try simp only [Act.put, List.setIfInBounds_toArray, List.set_cons_zero, List.set_cons_succ]
                have own1 : opE.Own (V.alloc (.cells #[] 55)) B (.slice (some ⟨B, 0, none⟩) 0 0) [] := by
                  have h := El.Own.empty (E := opE) V B (by omega)
                  rw [hBd] at h; exact h
                have hsz1 : (V.alloc (.cells #[] 55)).heap.size = B + 1 := by rw [alloc_size, hBd]
                refine anyG_step (rs := [5, 7]) (by kernel_rfl) (by simp) ?_
                refine AllG.cons rfl (fun K hK => ?_) (AllG.cons rfl (fun K hK => ?_) AllG.nil)
                · refine El.step_app opInn rfl (.tmp 49) (.tmp 53) rfl B _ [] L1 rfl own1 (some ⟨b, off, none⟩) k oc rfl HE1.out (hK1.o1.sl hK1.sz) hz1 (by simp; omega) hK1.sz ?_
                  intro v1 W1 own2 hg1 hat1
                  have own2 : opE.Own W1 B v1 L1 := own2
                  have hK2 := hK1.grown hg1 (own1).rows
                  clear hat1
                  refine hK.out _ _ hK2.s ?_
                  try simp only [Act.put, List.setIfInBounds_toArray, List.set_cons_zero, List.set_cons_succ]
                  refine anyG_step (rs := [7]) (by kernel_rfl) (by simp) ?_
                  refine AllG.cons rfl (fun K hK => ?_) AllG.nil
                  have hK3 := hK2.alloc (.cells #[.int .i64 m.C, .int .i64 m.D, .int .i64 m.I, .int .i64 m.M, .int .i64 m.K, .int .i64 m.U, .string m.s] 55)
                  go_simp
                  refine hK.out _ _ hK3.s ?_
                  try simp only [Act.put, List.setIfInBounds_toArray, List.set_cons_zero, List.set_cons_succ]
                  have own3 := own2.below (below_alloc (Below.refl _ W1) (.cells #[.int .i64 m.C, .int .i64 m.D, .int .i64 m.I, .int .i64 m.M, .int .i64 m.K, .int .i64 m.U, .string m.s] 55))
                  have one3 : opE.Sl (W1.alloc (.cells #[.int .i64 m.C, .int .i64 m.D, .int .i64 m.I, .int .i64 m.M, .int .i64 m.K, .int .i64 m.U, .string m.s] 55)) (some ⟨W1.heap.size, 0, none⟩) [m] := (El.In.new (E := opE) W1 m #[.int .i64 m.C, .int .i64 m.D, .int .i64 m.I, .int .i64 m.M, .int .i64 m.K, .int .i64 m.U, .string m.s] rfl).sl
                  refine anyG_step (rs := [8]) (by kernel_rfl) (by simp) ?_
                  refine AllG.cons rfl (fun K hK => ?_) AllG.nil
                  refine El.step_app opInn rfl (.tmp 54) (.tmp 56) rfl B _ L1 [m] rfl own3 (some ⟨W1.heap.size, 0, none⟩) 1 1 rfl rfl one3 (fun e => by cases e) (by simp; omega) hK3.sz ?_
                  intro v2 W2 own4 hg2 hat2
                  have hK4 := hK3.grown hg2 (own3).rows
                  clear hat2
                  refine hK.out _ _ hK4.s ?_
                  try simp only [Act.put, List.setIfInBounds_toArray, List.set_cons_zero, List.set_cons_succ]
                  refine anyG_step (rs := [13]) (by kernel_rfl) (by simp) ?_
                  refine AllG.cons rfl (fun K hK => ?_) AllG.nil
                  refine El.step_app opInn rfl (.tmp 57) (.tmp 61) rfl B _ (L1 ++ [m]) L3 rfl own4 A3 (ops.length - k) (oc - k) rfl HE3.out (hK4.o3.sl hK4.sz) hz3 (by rw [List.length_append, List.length_singleton]; omega) hK4.sz ?_
                  intro v3 W3 ownF hg3 hat3
                  have hKF := hK4.grown hg3 (own4).rows
                  clear hat3
                  refine hK.out _ _ hKF.s ?_
                  try simp only [Act.put, List.setIfInBounds_toArray, List.set_cons_zero, List.set_cons_succ]
                  obtain ⟨A', c', rfl, hSn⟩ := SlV.own ownF
                  have hfr := ownF.frs
                  have hLL : ((L1 ++ [m]) ++ L3).length ≤ ops.length + 1 := by rw [List.length_append, List.length_append, List.length_singleton, HE1.out, HE3.out]; omega
                  generalize (L1 ++ [m]) ++ L3 = L at *
                  have hS := hKF.s
                  simp only at hS
                  refine anyG_take (i := 14) (v := .pointer (some ⟨n0, 2, none⟩)) rfl (by kernel_rfl) (by kernel_rfl) (by kernel_rfl) (by kernel_rfl) (by kernel_rfl) (fun _ _ _ h => h) (Or.inl ⟨by rfl, fun w' hSw => by (obtain ⟨s0, s1, s2, s3, s4, s5, s6, s7⟩ := hSw; go_simp)⟩) hS ?_
                  try simp only [Act.put, List.setIfInBounds_toArray, List.set_cons_zero, List.set_cons_succ]
                  refine anyG_step (rs := [15]) (by kernel_rfl) (by simp) ?_
                  refine AllG.last (n := 15) rfl (fun K hK => ?_)
                  obtain ⟨p0, p1, p2, p3, p4⟩ := pwIn5 hKF.P
                  have pf := hKF.P.frozen
                  go_simp
                  refine hK.out _ _ ?_
                  try simp only [Act.put, List.setIfInBounds_toArray, List.set_cons_zero, List.set_cons_succ]
                  refine anyG_done (by kernel_rfl) ?_ _
                  have hlt4 := hKF.lt
                  have hn20 : n2 ≠ n0 := by have := HNN.out; omega
                  have hP7 := hKF.P.put ⟨bA, bc, base, t, A', c', L, uA, uc, us, wA, wc, now⟩ 2 (.slice A' L.length c') rfl
                  have hR7 := hKF.R.other n0 2 (.slice A' L.length c') hn20
                  have hg7 := by_cell W3 n0 2 (.slice A' L.length c')
                  have hS7 := hSn.keep hfr hg7 hlt4.1
                  have hB6 : Below w.heap.size w W3 := by rw [HNW.out]; exact hB.trans (hKF.bel.mono hn0W)
                  have hB7 := hB6.grown hg7 hB6.size (fun j e => by have := Option.some.inj e; have := HNW.out; omega)
                  have hb7 := (HL.out.below hB7).b
                  simp only at hb7
                  have CF := mvRefFold_any bA bc base A' c' L _ (by have := HL9.out; omega) hb7 hS7.1
                  generalize W3.setCell ⟨n0, 2, none⟩ (.slice A' L.length c') = W7 at *
                  clear p0 p1 p2 p3 p4 pf hK hKF hS hSn ownF
                  obtain ⟨r0, r1, r2, r3, r4⟩ := pwIn5 hP7
                  go_wp2_with fail
                  refine CF.mono ?_
                  rintro e W8 ⟨A5, c5, U5, uc5, rfl, hF1, hF2, hfr1, hfr2, hb8⟩
                  clear CF r0 r1 r2 r3 r4
                  have hP8 := hP7.below hb8
                  have hR8 := hR7.below hb8
                  have hS8 := hS7.below hb8
                  have hl0 := hP7.lt
                  have hl2 := hR7.lt
                  generalize (foldL base (mvs L)).1 = now1 at *
                  generalize (foldL base (mvs L)).2 = us1 at *
                  obtain ⟨r0, r1, r2, r3, r4⟩ := pwIn5 hP8
                  have pf8 := hP8.frozen
                  have hP10 := (hP8.put ⟨bA, bc, base, t, A', c', L, uA, uc, us, A5, c5, now1⟩ 4 (.slice A5 now1.length c5) rfl).put ⟨bA, bc, base, t, A', c', L, U5, uc5, us1, A5, c5, now1⟩ 3 (.slice U5 us1.length uc5) rfl
                  have hR10 := (hR8.other n0 4 (.slice A5 now1.length c5) hn20).other n0 3 (.slice U5 us1.length uc5) hn20
                  have hg10 := by_cell2 (by_cell W8 n0 4 (.slice A5 now1.length c5)) 3 (.slice U5 us1.length uc5)
                  go_wp2_with (first | (refine El.load pwRow rfl _ rfl n0 0 rfl ⟨bA, bc, base, t, A', c', L, U5, uc5, us1, A5, c5, now1⟩ hP10.at #[.slice bA base.length bc, .int .i64 t, .slice A' L.length c', .slice U5 us1.length uc5, .slice A5 now1.length c5] rfl ?_) | (refine El.store pwRow rfl _ _ rfl n2 ⟨bA, bc, base, t, A', c', L, U5, uc5, us1, A5, c5, now1⟩ #[.slice bA base.length bc, .int .i64 t, .slice A' L.length c', .slice U5 us1.length uc5, .slice A5 now1.length c5] rfl rfl rfl Pw.zero hR10 ?_))
                  refine El.ret2 pwRow (v := .bool true) (hR10.set ⟨bA, bc, base, t, A', c', L, U5, uc5, us1, A5, c5, now1⟩ #[.slice bA base.length bc, .int .i64 t, .slice A' L.length c', .slice U5 us1.length uc5, .slice A5 now1.length c5] rfl) rfl rfl rfl rfl #[.slice bA base.length bc, .int .i64 t, .slice A' L.length c', .slice U5 us1.length uc5, .slice A5 now1.length c5] rfl ?_
                  have hw0 : w.heap.size ≤ n0 ∧ w.heap.size ≤ n2 := by have := HNN.out; have := HNW.out; omega
                  have hB8 := below_then hB7 hb8
                  have hB10 := hB8.grown hg10 hB8.size (fun j e => by have := Option.some.inj e; omega)
                  have hBz := below_setRow hB10 hw0.2 #[.slice bA base.length bc, .int .i64 t, .slice A' L.length c', .slice U5 us1.length uc5, .slice A5 now1.length c5]
                  have hgz := fun W => by_row W n2 #[.slice bA base.length bc, .int .i64 t, .slice A' L.length c', .slice U5 us1.length uc5, .slice A5 now1.length c5]
                  exact ⟨⟨bA, bc, base, t, A', c', L, U5, uc5, us1, A5, c5, now1⟩, by rw [HNV.out], ⟨(HL.out.below hBz).b, (hS8.keep hfr hg10 hlt4.1).keep hfr (hgz _) hlt4.2.2.1, (hF2.keep hfr2 hg10 hl0).keep hfr2 (hgz _) hl2, (hF1.keep hfr1 hg10 hl0).keep hfr1 (hgz _) hl2⟩, by rw [HNV.out]; rfl, hBz, ⟨rfl, rfl⟩, Or.inr (hfr.mono (by have := HNW.out; have := hlt4.1; omega)), Or.inr (hfr2.mono (by have := HNW.out; have := hB7.size; omega)), Or.inr (hfr1.mono (by have := HNW.out; have := hB7.size; omega))⟩
                · have hK2 := hK1.alloc (.cells #[.int .i64 m.C, .int .i64 m.D, .int .i64 m.I, .int .i64 m.M, .int .i64 m.K, .int .i64 m.U, .string m.s] 55)
                  go_simp
                  refine hK.out _ _ hK2.s ?_
                  try simp only [Act.put, List.setIfInBounds_toArray, List.set_cons_zero, List.set_cons_succ]
                  have own2 := own1.below (below_alloc (Below.refl _ (V.alloc (.cells #[] 55))) (.cells #[.int .i64 m.C, .int .i64 m.D, .int .i64 m.I, .int .i64 m.M, .int .i64 m.K, .int .i64 m.U, .string m.s] 55))
                  have one2 : opE.Sl ((V.alloc (.cells #[] 55)).alloc (.cells #[.int .i64 m.C, .int .i64 m.D, .int .i64 m.I, .int .i64 m.M, .int .i64 m.K, .int .i64 m.U, .string m.s] 55)) (some ⟨B + 1, 0, none⟩) [m] := by
                    have h := (El.In.new (E := opE) (V.alloc (.cells #[] 55)) m #[.int .i64 m.C, .int .i64 m.D, .int .i64 m.I, .int .i64 m.M, .int .i64 m.K, .int .i64 m.U, .string m.s] rfl).sl
                    rw [hsz1] at h; exact h
                  refine anyG_step (rs := [5]) (by kernel_rfl) (by simp) ?_
                  refine AllG.cons rfl (fun K hK => ?_) AllG.nil
                  refine El.step_app opInn rfl (.tmp 49) (.tmp 53) rfl B _ [] L1 rfl own2 (some ⟨b, off, none⟩) k oc rfl HE1.out (hK2.o1.sl hK2.sz) hz1 (by simp; omega) hK2.sz ?_
                  intro v1 W1 own3 hg1 hat1
                  have own3 : opE.Own W1 B v1 L1 := own3
                  have hK3 := hK2.grown hg1 (own2).rows
                  have one3 := one2.keep1 hg1 (fun e => by have e : some (B + 1) = some B := e; have := Option.some.inj e; omega)
                  clear hat1
                  refine hK.out _ _ hK3.s ?_
                  try simp only [Act.put, List.setIfInBounds_toArray, List.set_cons_zero, List.set_cons_succ]
                  refine anyG_step (rs := [8]) (by kernel_rfl) (by simp) ?_
                  refine AllG.cons rfl (fun K hK => ?_) AllG.nil
                  refine El.step_app opInn rfl (.tmp 54) (.tmp 56) rfl B _ L1 [m] rfl own3 (some ⟨B + 1, 0, none⟩) 1 1 rfl rfl one3 (fun e => by cases e) (by simp; omega) hK3.sz ?_
                  intro v2 W2 own4 hg2 hat2
                  have hK4 := hK3.grown hg2 (own3).rows
                  clear hat2
                  refine hK.out _ _ hK4.s ?_
                  try simp only [Act.put, List.setIfInBounds_toArray, List.set_cons_zero, List.set_cons_succ]
                  refine anyG_step (rs := [13]) (by kernel_rfl) (by simp) ?_
                  refine AllG.cons rfl (fun K hK => ?_) AllG.nil
                  refine El.step_app opInn rfl (.tmp 57) (.tmp 61) rfl B _ (L1 ++ [m]) L3 rfl own4 A3 (ops.length - k) (oc - k) rfl HE3.out (hK4.o3.sl hK4.sz) hz3 (by rw [List.length_append, List.length_singleton]; omega) hK4.sz ?_
                  intro v3 W3 ownF hg3 hat3
                  have hKF := hK4.grown hg3 (own4).rows
                  clear hat3
                  refine hK.out _ _ hKF.s ?_
                  try simp only [Act.put, List.setIfInBounds_toArray, List.set_cons_zero, List.set_cons_succ]
                  obtain ⟨A', c', rfl, hSn⟩ := SlV.own ownF
                  have hfr := ownF.frs
                  have hLL : ((L1 ++ [m]) ++ L3).length ≤ ops.length + 1 := by rw [List.length_append, List.length_append, List.length_singleton, HE1.out, HE3.out]; omega
                  generalize (L1 ++ [m]) ++ L3 = L at *
                  have hS := hKF.s
                  simp only at hS
                  refine anyG_take (i := 14) (v := .pointer (some ⟨n0, 2, none⟩)) rfl (by kernel_rfl) (by kernel_rfl) (by kernel_rfl) (by kernel_rfl) (by kernel_rfl) (fun _ _ _ h => h) (Or.inl ⟨by rfl, fun w' hSw => by (obtain ⟨s0, s1, s2, s3, s4, s5, s6, s7⟩ := hSw; go_simp)⟩) hS ?_
                  try simp only [Act.put, List.setIfInBounds_toArray, List.set_cons_zero, List.set_cons_succ]
                  refine anyG_step (rs := [15]) (by kernel_rfl) (by simp) ?_
                  refine AllG.last (n := 15) rfl (fun K hK => ?_)
                  obtain ⟨p0, p1, p2, p3, p4⟩ := pwIn5 hKF.P
                  have pf := hKF.P.frozen
                  go_simp
                  refine hK.out _ _ ?_
                  try simp only [Act.put, List.setIfInBounds_toArray, List.set_cons_zero, List.set_cons_succ]
                  refine anyG_done (by kernel_rfl) ?_ _
                  have hlt4 := hKF.lt
                  have hn20 : n2 ≠ n0 := by have := HNN.out; omega
                  have hP7 := hKF.P.put ⟨bA, bc, base, t, A', c', L, uA, uc, us, wA, wc, now⟩ 2 (.slice A' L.length c') rfl
                  have hR7 := hKF.R.other n0 2 (.slice A' L.length c') hn20
                  have hg7 := by_cell W3 n0 2 (.slice A' L.length c')
                  have hS7 := hSn.keep hfr hg7 hlt4.1
                  have hB6 : Below w.heap.size w W3 := by rw [HNW.out]; exact hB.trans (hKF.bel.mono hn0W)
                  have hB7 := hB6.grown hg7 hB6.size (fun j e => by have := Option.some.inj e; have := HNW.out; omega)
                  have hb7 := (HL.out.below hB7).b
                  simp only at hb7
                  have CF := mvRefFold_any bA bc base A' c' L _ (by have := HL9.out; omega) hb7 hS7.1
                  generalize W3.setCell ⟨n0, 2, none⟩ (.slice A' L.length c') = W7 at *
                  clear p0 p1 p2 p3 p4 pf hK hKF hS hSn ownF
                  obtain ⟨r0, r1, r2, r3, r4⟩ := pwIn5 hP7
                  go_wp2_with fail
                  refine CF.mono ?_
                  rintro e W8 ⟨A5, c5, U5, uc5, rfl, hF1, hF2, hfr1, hfr2, hb8⟩
                  clear CF r0 r1 r2 r3 r4
                  have hP8 := hP7.below hb8
                  have hR8 := hR7.below hb8
                  have hS8 := hS7.below hb8
                  have hl0 := hP7.lt
                  have hl2 := hR7.lt
                  generalize (foldL base (mvs L)).1 = now1 at *
                  generalize (foldL base (mvs L)).2 = us1 at *
                  obtain ⟨r0, r1, r2, r3, r4⟩ := pwIn5 hP8
                  have pf8 := hP8.frozen
                  have hP10 := (hP8.put ⟨bA, bc, base, t, A', c', L, uA, uc, us, A5, c5, now1⟩ 4 (.slice A5 now1.length c5) rfl).put ⟨bA, bc, base, t, A', c', L, U5, uc5, us1, A5, c5, now1⟩ 3 (.slice U5 us1.length uc5) rfl
                  have hR10 := (hR8.other n0 4 (.slice A5 now1.length c5) hn20).other n0 3 (.slice U5 us1.length uc5) hn20
                  have hg10 := by_cell2 (by_cell W8 n0 4 (.slice A5 now1.length c5)) 3 (.slice U5 us1.length uc5)
                  go_wp2_with (first | (refine El.load pwRow rfl _ rfl n0 0 rfl ⟨bA, bc, base, t, A', c', L, U5, uc5, us1, A5, c5, now1⟩ hP10.at #[.slice bA base.length bc, .int .i64 t, .slice A' L.length c', .slice U5 us1.length uc5, .slice A5 now1.length c5] rfl ?_) | (refine El.store pwRow rfl _ _ rfl n2 ⟨bA, bc, base, t, A', c', L, U5, uc5, us1, A5, c5, now1⟩ #[.slice bA base.length bc, .int .i64 t, .slice A' L.length c', .slice U5 us1.length uc5, .slice A5 now1.length c5] rfl rfl rfl Pw.zero hR10 ?_))
                  refine El.ret2 pwRow (v := .bool true) (hR10.set ⟨bA, bc, base, t, A', c', L, U5, uc5, us1, A5, c5, now1⟩ #[.slice bA base.length bc, .int .i64 t, .slice A' L.length c', .slice U5 us1.length uc5, .slice A5 now1.length c5] rfl) rfl rfl rfl rfl #[.slice bA base.length bc, .int .i64 t, .slice A' L.length c', .slice U5 us1.length uc5, .slice A5 now1.length c5] rfl ?_
                  have hw0 : w.heap.size ≤ n0 ∧ w.heap.size ≤ n2 := by have := HNN.out; have := HNW.out; omega
                  have hB8 := below_then hB7 hb8
                  have hB10 := hB8.grown hg10 hB8.size (fun j e => by have := Option.some.inj e; omega)
                  have hBz := below_setRow hB10 hw0.2 #[.slice bA base.length bc, .int .i64 t, .slice A' L.length c', .slice U5 us1.length uc5, .slice A5 now1.length c5]
                  have hgz := fun W => by_row W n2 #[.slice bA base.length bc, .int .i64 t, .slice A' L.length c', .slice U5 us1.length uc5, .slice A5 now1.length c5]
                  exact ⟨⟨bA, bc, base, t, A', c', L, U5, uc5, us1, A5, c5, now1⟩, by rw [HNV.out], ⟨(HL.out.below hBz).b, (hS8.keep hfr hg10 hlt4.1).keep hfr (hgz _) hlt4.2.2.1, (hF2.keep hfr2 hg10 hl0).keep hfr2 (hgz _) hl2, (hF1.keep hfr1 hg10 hl0).keep hfr1 (hgz _) hl2⟩, by rw [HNV.out]; rfl, hBz, ⟨rfl, rfl⟩, Or.inr (hfr.mono (by have := HNW.out; have := hlt4.1; omega)), Or.inr (hfr2.mono (by have := HNW.out; have := hB7.size; omega)), Or.inr (hfr1.mono (by have := HNW.out; have := hB7.size; omega))⟩
              · have hK1 := hKV.alloc (.cells #[.int .i64 m.C, .int .i64 m.D, .int .i64 m.I, .int .i64 m.M, .int .i64 m.K, .int .i64 m.U, .string m.s] 55)
                go_simp
                refine hK.out _ _ hK1.s ?_
                try simp only [Act.put, List.setIfInBounds_toArray, List.set_cons_zero, List.set_cons_succ]
                have one1 : opE.Sl (V.alloc (.cells #[.int .i64 m.C, .int .i64 m.D, .int .i64 m.I, .int .i64 m.M, .int .i64 m.K, .int .i64 m.U, .string m.s] 55)) (some ⟨B, 0, none⟩) [m] := by
                  have h := (El.In.new (E := opE) V m #[.int .i64 m.C, .int .i64 m.D, .int .i64 m.I, .int .i64 m.M, .int .i64 m.K, .int .i64 m.U, .string m.s] rfl).sl
                  rw [hBd] at h; exact h
                have hsz1 : (V.alloc (.cells #[.int .i64 m.C, .int .i64 m.D, .int .i64 m.I, .int .i64 m.M, .int .i64 m.K, .int .i64 m.U, .string m.s] 55)).heap.size = B + 1 := by rw [alloc_size, hBd]
                refine anyG_step (rs := [0]) (by kernel_rfl) (by simp) ?_
                refine AllG.cons rfl (fun K hK => ?_) AllG.nil
                have hK2 := hK1.alloc (.cells #[] 55)
                go_simp
                refine hK.out _ _ hK2.s ?_
                try simp only [Act.put, List.setIfInBounds_toArray, List.set_cons_zero, List.set_cons_succ]
                have own2 : opE.Own ((V.alloc (.cells #[.int .i64 m.C, .int .i64 m.D, .int .i64 m.I, .int .i64 m.M, .int .i64 m.K, .int .i64 m.U, .string m.s] 55)).alloc (.cells #[] 55)) B (.slice (some ⟨B + 1, 0, none⟩) 0 0) [] := by
                  have h := El.Own.empty (E := opE) (V.alloc (.cells #[.int .i64 m.C, .int .i64 m.D, .int .i64 m.I, .int .i64 m.M, .int .i64 m.K, .int .i64 m.U, .string m.s] 55)) B (by omega)
                  rw [hsz1] at h; exact h
                have one2 := one1.below (below_alloc (Below.refl _ (V.alloc (.cells #[.int .i64 m.C, .int .i64 m.D, .int .i64 m.I, .int .i64 m.M, .int .i64 m.K, .int .i64 m.U, .string m.s] 55))) (.cells #[] 55))
                refine anyG_step (rs := [5]) (by kernel_rfl) (by simp) ?_
                refine AllG.cons rfl (fun K hK => ?_) AllG.nil
                refine El.step_app opInn rfl (.tmp 49) (.tmp 53) rfl B _ [] L1 rfl own2 (some ⟨b, off, none⟩) k oc rfl HE1.out (hK2.o1.sl hK2.sz) hz1 (by simp; omega) hK2.sz ?_
                intro v1 W1 own3 hg1 hat1
                have own3 : opE.Own W1 B v1 L1 := own3
                have hK3 := hK2.grown hg1 (own2).rows
                have one3 := one2.keep1 hg1 (fun e => by have e : some B = some (B + 1) := e; have := Option.some.inj e; omega)
                clear hat1
                refine hK.out _ _ hK3.s ?_
                try simp only [Act.put, List.setIfInBounds_toArray, List.set_cons_zero, List.set_cons_succ]
                refine anyG_step (rs := [8]) (by kernel_rfl) (by simp) ?_
                refine AllG.cons rfl (fun K hK => ?_) AllG.nil
                refine El.step_app opInn rfl (.tmp 54) (.tmp 56) rfl B _ L1 [m] rfl own3 (some ⟨B, 0, none⟩) 1 1 rfl rfl one3 (fun e => by cases e) (by simp; omega) hK3.sz ?_
                intro v2 W2 own4 hg2 hat2
                have hK4 := hK3.grown hg2 (own3).rows
                clear hat2
                refine hK.out _ _ hK4.s ?_
                try simp only [Act.put, List.setIfInBounds_toArray, List.set_cons_zero, List.set_cons_succ]
                refine anyG_step (rs := [13]) (by kernel_rfl) (by simp) ?_
                refine AllG.cons rfl (fun K hK => ?_) AllG.nil
                refine El.step_app opInn rfl (.tmp 57) (.tmp 61) rfl B _ (L1 ++ [m]) L3 rfl own4 A3 (ops.length - k) (oc - k) rfl HE3.out (hK4.o3.sl hK4.sz) hz3 (by rw [List.length_append, List.length_singleton]; omega) hK4.sz ?_
                intro v3 W3 ownF hg3 hat3
                have hKF := hK4.grown hg3 (own4).rows
                clear hat3
                refine hK.out _ _ hKF.s ?_
                try simp only [Act.put, List.setIfInBounds_toArray, List.set_cons_zero, List.set_cons_succ]
                obtain ⟨A', c', rfl, hSn⟩ := SlV.own ownF
                have hfr := ownF.frs
                have hLL : ((L1 ++ [m]) ++ L3).length ≤ ops.length + 1 := by rw [List.length_append, List.length_append, List.length_singleton, HE1.out, HE3.out]; omega
                generalize (L1 ++ [m]) ++ L3 = L at *
                have hS := hKF.s
                simp only at hS
                refine anyG_take (i := 14) (v := .pointer (some ⟨n0, 2, none⟩)) rfl (by kernel_rfl) (by kernel_rfl) (by kernel_rfl) (by kernel_rfl) (by kernel_rfl) (fun _ _ _ h => h) (Or.inl ⟨by rfl, fun w' hSw => by (obtain ⟨s0, s1, s2, s3, s4, s5, s6, s7⟩ := hSw; go_simp)⟩) hS ?_
                try simp only [Act.put, List.setIfInBounds_toArray, List.set_cons_zero, List.set_cons_succ]
                refine anyG_step (rs := [15]) (by kernel_rfl) (by simp) ?_
                refine AllG.last (n := 15) rfl (fun K hK => ?_)
                obtain ⟨p0, p1, p2, p3, p4⟩ := pwIn5 hKF.P
                have pf := hKF.P.frozen
                go_simp
                refine hK.out _ _ ?_
                try simp only [Act.put, List.setIfInBounds_toArray, List.set_cons_zero, List.set_cons_succ]
                refine anyG_done (by kernel_rfl) ?_ _
                have hlt4 := hKF.lt
                have hn20 : n2 ≠ n0 := by have := HNN.out; omega
                have hP7 := hKF.P.put ⟨bA, bc, base, t, A', c', L, uA, uc, us, wA, wc, now⟩ 2 (.slice A' L.length c') rfl
                have hR7 := hKF.R.other n0 2 (.slice A' L.length c') hn20
                have hg7 := by_cell W3 n0 2 (.slice A' L.length c')
                have hS7 := hSn.keep hfr hg7 hlt4.1
                have hB6 : Below w.heap.size w W3 := by rw [HNW.out]; exact hB.trans (hKF.bel.mono hn0W)
                have hB7 := hB6.grown hg7 hB6.size (fun j e => by have := Option.some.inj e; have := HNW.out; omega)
                have hb7 := (HL.out.below hB7).b
                simp only at hb7
                have CF := mvRefFold_any bA bc base A' c' L _ (by have := HL9.out; omega) hb7 hS7.1
                generalize W3.setCell ⟨n0, 2, none⟩ (.slice A' L.length c') = W7 at *
                clear p0 p1 p2 p3 p4 pf hK hKF hS hSn ownF
                obtain ⟨r0, r1, r2, r3, r4⟩ := pwIn5 hP7
                go_wp2_with fail
                refine CF.mono ?_
                rintro e W8 ⟨A5, c5, U5, uc5, rfl, hF1, hF2, hfr1, hfr2, hb8⟩
                clear CF r0 r1 r2 r3 r4
                have hP8 := hP7.below hb8
                have hR8 := hR7.below hb8
                have hS8 := hS7.below hb8
                have hl0 := hP7.lt
                have hl2 := hR7.lt
                generalize (foldL base (mvs L)).1 = now1 at *
                generalize (foldL base (mvs L)).2 = us1 at *
                obtain ⟨r0, r1, r2, r3, r4⟩ := pwIn5 hP8
                have pf8 := hP8.frozen
                have hP10 := (hP8.put ⟨bA, bc, base, t, A', c', L, uA, uc, us, A5, c5, now1⟩ 4 (.slice A5 now1.length c5) rfl).put ⟨bA, bc, base, t, A', c', L, U5, uc5, us1, A5, c5, now1⟩ 3 (.slice U5 us1.length uc5) rfl
                have hR10 := (hR8.other n0 4 (.slice A5 now1.length c5) hn20).other n0 3 (.slice U5 us1.length uc5) hn20
                have hg10 := by_cell2 (by_cell W8 n0 4 (.slice A5 now1.length c5)) 3 (.slice U5 us1.length uc5)
                go_wp2_with (first | (refine El.load pwRow rfl _ rfl n0 0 rfl ⟨bA, bc, base, t, A', c', L, U5, uc5, us1, A5, c5, now1⟩ hP10.at #[.slice bA base.length bc, .int .i64 t, .slice A' L.length c', .slice U5 us1.length uc5, .slice A5 now1.length c5] rfl ?_) | (refine El.store pwRow rfl _ _ rfl n2 ⟨bA, bc, base, t, A', c', L, U5, uc5, us1, A5, c5, now1⟩ #[.slice bA base.length bc, .int .i64 t, .slice A' L.length c', .slice U5 us1.length uc5, .slice A5 now1.length c5] rfl rfl rfl Pw.zero hR10 ?_))
                refine El.ret2 pwRow (v := .bool true) (hR10.set ⟨bA, bc, base, t, A', c', L, U5, uc5, us1, A5, c5, now1⟩ #[.slice bA base.length bc, .int .i64 t, .slice A' L.length c', .slice U5 us1.length uc5, .slice A5 now1.length c5] rfl) rfl rfl rfl rfl #[.slice bA base.length bc, .int .i64 t, .slice A' L.length c', .slice U5 us1.length uc5, .slice A5 now1.length c5] rfl ?_
                have hw0 : w.heap.size ≤ n0 ∧ w.heap.size ≤ n2 := by have := HNN.out; have := HNW.out; omega
                have hB8 := below_then hB7 hb8
                have hB10 := hB8.grown hg10 hB8.size (fun j e => by have := Option.some.inj e; omega)
                have hBz := below_setRow hB10 hw0.2 #[.slice bA base.length bc, .int .i64 t, .slice A' L.length c', .slice U5 us1.length uc5, .slice A5 now1.length c5]
                have hgz := fun W => by_row W n2 #[.slice bA base.length bc, .int .i64 t, .slice A' L.length c', .slice U5 us1.length uc5, .slice A5 now1.length c5]
                exact ⟨⟨bA, bc, base, t, A', c', L, U5, uc5, us1, A5, c5, now1⟩, by rw [HNV.out], ⟨(HL.out.below hBz).b, (hS8.keep hfr hg10 hlt4.1).keep hfr (hgz _) hlt4.2.2.1, (hF2.keep hfr2 hg10 hl0).keep hfr2 (hgz _) hl2, (hF1.keep hfr1 hg10 hl0).keep hfr1 (hgz _) hl2⟩, by rw [HNV.out]; rfl, hBz, ⟨rfl, rfl⟩, Or.inr (hfr.mono (by have := HNW.out; have := hlt4.1; omega)), Or.inr (hfr2.mono (by have := HNW.out; have := hB7.size; omega)), Or.inr (hfr1.mono (by have := HNW.out; have := hB7.size; omega))⟩
      · have HKE := Lib.hid (show k = ops.length by omega)
        have HPOS := Lib.hid (pos_eq (c := Mv.C) (d := Mv.D) (o := m) hk hlo (fun h => absurd h hkl))
        obtain ⟨p0, p1, p2, p3, p4⟩ := pwIn5 hPr
        have k2 := cell_regrown p2
        clear p0 p1 p2 p3 p4
        go_wp2_with fail
        refine wp_region_quiet_below (by kernel_rfl) (by kernel_rfl) ?_
        repeat (go_big_quiet_step (fail))
        refine wpQuiet_nil ?_
        intro _ hw'
        obtain ⟨⟨dq, osq⟩, hw''⟩ := hw'
        subst hw''
        have hq := below_regrown wr dq osq
        generalize Sort.grow (redrawn wr dq) osq = w2 at *
        have hB2 := below_then hnx hq
        clear k2
        have hP2 := hPr.below hq
        have hO2 := hOr.below hq
        obtain ⟨p0, p1, p2, p3, p4⟩ := pwIn5 hP2
        have k2 := cell_regrown p2
        clear p0 p1 p2 p3 p4
        go_wp2_with fail
        refine wp_region_quiet_below (by kernel_rfl) (by kernel_rfl) ?_
        repeat (go_big_quiet_step (fail))
        refine wpQuiet_nil ?_
        intro _ hw'
        obtain ⟨⟨dq, osq⟩, hw''⟩ := hw'
        subst hw''
        have hq3 := below_regrown w2 dq osq
        generalize Sort.grow (redrawn w2 dq) osq = w3 at *
        have hB3 := below_then hB2 hq3
        have hP3 := hP2.below hq3
        have hO3 := hO2.below hq3
        have hR3 := hR.below hB3
        have HHF := Lib.hid (has_end (HPOS.out.symm.trans HKE.out))
        clear k2
        go_wp2_with fail
        have hA3e : ∃ A3 : Option Addr, (if oc = k then oA else Option.map (fun x => x.add (k * 7)) oA) = A3 := ⟨_, rfl⟩
        obtain ⟨A3, hA3⟩ := hA3e
        have hO3s := (hxo.1.below hB3)
        have ht1 := hO3s.take k
        have ht3 := hO3s.drop (tz := k) hxo.2.2 hA3
        have hz1 := hxo.2.1
        have hz3 : A3 = none → oc - k = 0 := El.drop_none hxo.2.1 hA3
        have e1 : (ops.take k).length = k := by rw [List.length_take]; omega
        have e3 : (ops.drop k).length = ops.length - k := List.length_drop
        have hkc : k ≤ oc := Nat.le_trans hk hxo.2.2
        have i0 : (0 : Int) ≤ (k : Int) := by omega
        have i1 : (k : Int) ≤ (oc : Int) := by omega
        have i2 : (k : Int) ≤ (ops.length : Int) := by omega
        have hnv := addV_new (q := ⟨base, t, ops, us, now⟩) (m := m) (show ¬ m.C ≤ t by omega) HHF.out
        rw [insL_eq HPOS.out] at hnv
        have HNV := Lib.hid hnv
        have HE1 := Lib.hid e1
        have HE3 := Lib.hid e3
        generalize hL1 : ops.take k = L1 at *
        generalize hL3 : ops.drop k = L3 at *
        obtain ⟨B, hBe⟩ : ∃ B, w3.heap.size = B := ⟨_, rfl⟩
        have hKV : InsK W n0 n1 n2 B (⟨bA, bc, base, t, oA, oc, ops, uA, uc, us, wA, wc, now⟩ : Pw) m oA A3 L1 L3 w3.drew := ⟨hP3, hO3, hR3, El.SlB.of ht1 (Nat.le_of_eq hBe), El.SlB.of ht3 (Nat.le_of_eq hBe), hB3.drew, Nat.le_of_eq hBe.symm, by have := hP3.lt; have := hO3.lt; have := hR3.lt; have := hB3.size; omega⟩
        have hBd : w3.drew.heap.size = B := hBe
        have HL890 : L1.length + L3.length + 1 ≤ 891 := by have := HE1.out; have := HE3.out; omega
        clear e1 e3 hnv hL1 hL3 ht1 ht3 hO3s hP3 hO3 hR3 hBe
        refine region_anyG (S := InsS n0 n1 oA ops.length oc m) 15 (by kernel_rfl) ?_
        generalize w3.drew = V at *
        have hS := hKV.s
        simp only at hS
        refine anyG_take (i := 1) (v := .pointer (some ⟨n0, 2, none⟩)) rfl (by kernel_rfl) (by kernel_rfl) (by kernel_rfl) (by kernel_rfl) (by kernel_rfl) (fun _ _ _ h => h) (Or.inl ⟨by rfl, fun w' hSw => by (obtain ⟨s0, s1, s2, s3, s4, s5, s6, s7⟩ := hSw; go_simp)⟩) hS ?_
        try simp only [Act.put, List.setIfInBounds_toArray, List.set_cons_zero, List.set_cons_succ]
        refine anyG_take (i := 2) (v := .slice oA ops.length oc) rfl (by kernel_rfl) (by kernel_rfl) (by kernel_rfl) (by kernel_rfl) (by kernel_rfl) (fun _ _ _ h => h) (Or.inl ⟨by rfl, fun w' hSw => by (obtain ⟨s0, s1, s2, s3, s4, s5, s6, s7⟩ := hSw; go_simp)⟩) hS ?_
        try simp only [Act.put, List.setIfInBounds_toArray, List.set_cons_zero, List.set_cons_succ]
        refine anyG_take (i := 3) (v := .int .i64 k) rfl (by kernel_rfl) (by kernel_rfl) (by kernel_rfl) (by kernel_rfl) (by kernel_rfl) (fun _ _ _ h => h) (Or.inl ⟨by rfl, fun w' hSw => by (obtain ⟨s0, s1, s2, s3, s4, s5, s6, s7⟩ := hSw; go_simp)⟩) hS ?_
        try simp only [Act.put, List.setIfInBounds_toArray, List.set_cons_zero, List.set_cons_succ]
        refine anyG_take (i := 4) (v := .slice oA k oc) rfl (by kernel_rfl) (by kernel_rfl) (by kernel_rfl) (by kernel_rfl) (by kernel_rfl) (fun _ _ _ h => h) (Or.inl ⟨by rfl, fun w' hSw => by (obtain ⟨s0, s1, s2, s3, s4, s5, s6, s7⟩ := hSw; go_simp)⟩) hS ?_
        try simp only [Act.put, List.setIfInBounds_toArray, List.set_cons_zero, List.set_cons_succ]
        refine anyG_take (i := 6) (v := .agg #[.int .i64 m.C, .int .i64 m.D, .int .i64 m.I, .int .i64 m.M, .int .i64 m.K, .int .i64 m.U, .string m.s]) rfl (by kernel_rfl) (by kernel_rfl) (by kernel_rfl) (by kernel_rfl) (by kernel_rfl) (fun _ _ _ h => h) (Or.inl ⟨by rfl, fun w' hSw => by (obtain ⟨s0, s1, s2, s3, s4, s5, s6, s7⟩ := hSw; go_simp)⟩) hS ?_
        try simp only [Act.put, List.setIfInBounds_toArray, List.set_cons_zero, List.set_cons_succ]
        refine anyG_take (i := 9) (v := .pointer (some ⟨n0, 2, none⟩)) rfl (by kernel_rfl) (by kernel_rfl) (by kernel_rfl) (by kernel_rfl) (by kernel_rfl) (fun _ _ _ h => h) (Or.inl ⟨by rfl, fun w' hSw => by (obtain ⟨s0, s1, s2, s3, s4, s5, s6, s7⟩ := hSw; go_simp)⟩) hS ?_
        try simp only [Act.put, List.setIfInBounds_toArray, List.set_cons_zero, List.set_cons_succ]
        refine anyG_take (i := 10) (v := .slice oA ops.length oc) rfl (by kernel_rfl) (by kernel_rfl) (by kernel_rfl) (by kernel_rfl) (by kernel_rfl) (fun _ _ _ h => h) (Or.inl ⟨by rfl, fun w' hSw => by (obtain ⟨s0, s1, s2, s3, s4, s5, s6, s7⟩ := hSw; go_simp)⟩) hS ?_
        try simp only [Act.put, List.setIfInBounds_toArray, List.set_cons_zero, List.set_cons_succ]
        refine anyG_take (i := 11) (v := .int .i64 k) rfl (by kernel_rfl) (by kernel_rfl) (by kernel_rfl) (by kernel_rfl) (by kernel_rfl) (fun _ _ _ h => h) (Or.inl ⟨by rfl, fun w' hSw => by (obtain ⟨s0, s1, s2, s3, s4, s5, s6, s7⟩ := hSw; go_simp)⟩) hS ?_
        try simp only [Act.put, List.setIfInBounds_toArray, List.set_cons_zero, List.set_cons_succ]
        refine anyG_take (i := 12) (v := .slice A3 (ops.length - k) (oc - k)) rfl (by kernel_rfl) (by kernel_rfl) (by kernel_rfl) (by kernel_rfl) (by kernel_rfl) (fun _ _ _ h => h) (Or.inl ⟨by rfl, fun w' hSw => by (obtain ⟨s0, s1, s2, s3, s4, s5, s6, s7⟩ := hSw; go_simp)⟩) hS ?_
        try simp only [Act.put, List.setIfInBounds_toArray, List.set_cons_zero, List.set_cons_succ]
        refine anyG_step (rs := [0, 7]) (by kernel_rfl) (by simp) ?_
        refine AllG.cons rfl (fun K hK => ?_) (AllG.cons rfl (fun K hK => ?_) AllG.nil)
        · have hK1 := hKV.alloc (.cells #[] 55)
          go_simp
          refine hK.out _ _ hK1.s ?_
          try simp only [Act.put, List.setIfInBounds_toArray, List.set_cons_zero, List.set_cons_succ]
          have own1 : opE.Own (V.alloc (.cells #[] 55)) B (.slice (some ⟨B, 0, none⟩) 0 0) [] := by
            have h := El.Own.empty (E := opE) V B (by omega)
            rw [hBd] at h; exact h
          have hsz1 : (V.alloc (.cells #[] 55)).heap.size = B + 1 := by rw [alloc_size, hBd]
          refine anyG_step (rs := [5, 7]) (by kernel_rfl) (by simp) ?_
          refine AllG.cons rfl (fun K hK => ?_) (AllG.cons rfl (fun K hK => ?_) AllG.nil)
          · refine El.step_app opInn rfl (.tmp 49) (.tmp 53) rfl B _ [] L1 rfl own1 oA k oc rfl HE1.out (hK1.o1.sl hK1.sz) hz1 (by simp; omega) hK1.sz ?_
            intro v1 W1 own2 hg1 hat1
            have own2 : opE.Own W1 B v1 L1 := own2
            have hK2 := hK1.grown hg1 (own1).rows
            clear hat1
            refine hK.out _ _ hK2.s ?_
            try simp only [Act.put, List.setIfInBounds_toArray, List.set_cons_zero, List.set_cons_succ]
            refine anyG_step (rs := [7]) (by kernel_rfl) (by simp) ?_
            refine AllG.cons rfl (fun K hK => ?_) AllG.nil
            have hK3 := hK2.alloc (.cells #[.int .i64 m.C, .int .i64 m.D, .int .i64 m.I, .int .i64 m.M, .int .i64 m.K, .int .i64 m.U, .string m.s] 55)
            go_simp
            refine hK.out _ _ hK3.s ?_
            try simp only [Act.put, List.setIfInBounds_toArray, List.set_cons_zero, List.set_cons_succ]
            have own3 := own2.below (below_alloc (Below.refl _ W1) (.cells #[.int .i64 m.C, .int .i64 m.D, .int .i64 m.I, .int .i64 m.M, .int .i64 m.K, .int .i64 m.U, .string m.s] 55))
            have one3 : opE.Sl (W1.alloc (.cells #[.int .i64 m.C, .int .i64 m.D, .int .i64 m.I, .int .i64 m.M, .int .i64 m.K, .int .i64 m.U, .string m.s] 55)) (some ⟨W1.heap.size, 0, none⟩) [m] := (El.In.new (E := opE) W1 m #[.int .i64 m.C, .int .i64 m.D, .int .i64 m.I, .int .i64 m.M, .int .i64 m.K, .int .i64 m.U, .string m.s] rfl).sl
            refine anyG_step (rs := [8]) (by kernel_rfl) (by simp) ?_
            refine AllG.cons rfl (fun K hK => ?_) AllG.nil
            refine El.step_app opInn rfl (.tmp 54) (.tmp 56) rfl B _ L1 [m] rfl own3 (some ⟨W1.heap.size, 0, none⟩) 1 1 rfl rfl one3 (fun e => by cases e) (by simp; omega) hK3.sz ?_
            intro v2 W2 own4 hg2 hat2
            have hK4 := hK3.grown hg2 (own3).rows
            clear hat2
            refine hK.out _ _ hK4.s ?_
            try simp only [Act.put, List.setIfInBounds_toArray, List.set_cons_zero, List.set_cons_succ]
            refine anyG_step (rs := [13]) (by kernel_rfl) (by simp) ?_
            refine AllG.cons rfl (fun K hK => ?_) AllG.nil
            refine El.step_app opInn rfl (.tmp 57) (.tmp 61) rfl B _ (L1 ++ [m]) L3 rfl own4 A3 (ops.length - k) (oc - k) rfl HE3.out (hK4.o3.sl hK4.sz) hz3 (by rw [List.length_append, List.length_singleton]; omega) hK4.sz ?_
            intro v3 W3 ownF hg3 hat3
            have hKF := hK4.grown hg3 (own4).rows
            clear hat3
            refine hK.out _ _ hKF.s ?_
            try simp only [Act.put, List.setIfInBounds_toArray, List.set_cons_zero, List.set_cons_succ]
            obtain ⟨A', c', rfl, hSn⟩ := SlV.own ownF
            have hfr := ownF.frs
            have hLL : ((L1 ++ [m]) ++ L3).length ≤ ops.length + 1 := by rw [List.length_append, List.length_append, List.length_singleton, HE1.out, HE3.out]; omega
            generalize (L1 ++ [m]) ++ L3 = L at *
            have hS := hKF.s
            simp only at hS
            refine anyG_take (i := 14) (v := .pointer (some ⟨n0, 2, none⟩)) rfl (by kernel_rfl) (by kernel_rfl) (by kernel_rfl) (by kernel_rfl) (by kernel_rfl) (fun _ _ _ h => h) (Or.inl ⟨by rfl, fun w' hSw => by (obtain ⟨s0, s1, s2, s3, s4, s5, s6, s7⟩ := hSw; go_simp)⟩) hS ?_
            try simp only [Act.put, List.setIfInBounds_toArray, List.set_cons_zero, List.set_cons_succ]
            refine anyG_step (rs := [15]) (by kernel_rfl) (by simp) ?_
            refine AllG.last (n := 15) rfl (fun K hK => ?_)
            obtain ⟨p0, p1, p2, p3, p4⟩ := pwIn5 hKF.P
            have pf := hKF.P.frozen
            go_simp
            refine hK.out _ _ ?_
            try simp only [Act.put, List.setIfInBounds_toArray, List.set_cons_zero, List.set_cons_succ]
            refine anyG_done (by kernel_rfl) ?_ _
            have hlt4 := hKF.lt
            have hn20 : n2 ≠ n0 := by have := HNN.out; omega
            have hP7 := hKF.P.put ⟨bA, bc, base, t, A', c', L, uA, uc, us, wA, wc, now⟩ 2 (.slice A' L.length c') rfl
            have hR7 := hKF.R.other n0 2 (.slice A' L.length c') hn20
            have hg7 := by_cell W3 n0 2 (.slice A' L.length c')
            have hS7 := hSn.keep hfr hg7 hlt4.1
            have hB6 : Below w.heap.size w W3 := by rw [HNW.out]; exact hB.trans (hKF.bel.mono hn0W)
            have hB7 := hB6.grown hg7 hB6.size (fun j e => by have := Option.some.inj e; have := HNW.out; omega)
            have hb7 := (HL.out.below hB7).b
            simp only at hb7
            have CF := mvRefFold_any bA bc base A' c' L _ (by have := HL9.out; omega) hb7 hS7.1
            generalize W3.setCell ⟨n0, 2, none⟩ (.slice A' L.length c') = W7 at *
            clear p0 p1 p2 p3 p4 pf hK hKF hS hSn ownF
            obtain ⟨r0, r1, r2, r3, r4⟩ := pwIn5 hP7
            go_wp2_with fail
            refine CF.mono ?_
            rintro e W8 ⟨A5, c5, U5, uc5, rfl, hF1, hF2, hfr1, hfr2, hb8⟩
            clear CF r0 r1 r2 r3 r4
            have hP8 := hP7.below hb8
            have hR8 := hR7.below hb8
            have hS8 := hS7.below hb8
            have hl0 := hP7.lt
            have hl2 := hR7.lt
            generalize (foldL base (mvs L)).1 = now1 at *
            generalize (foldL base (mvs L)).2 = us1 at *
            obtain ⟨r0, r1, r2, r3, r4⟩ := pwIn5 hP8
            have pf8 := hP8.frozen
            have hP10 := (hP8.put ⟨bA, bc, base, t, A', c', L, uA, uc, us, A5, c5, now1⟩ 4 (.slice A5 now1.length c5) rfl).put ⟨bA, bc, base, t, A', c', L, U5, uc5, us1, A5, c5, now1⟩ 3 (.slice U5 us1.length uc5) rfl
            have hR10 := (hR8.other n0 4 (.slice A5 now1.length c5) hn20).other n0 3 (.slice U5 us1.length uc5) hn20
            have hg10 := by_cell2 (by_cell W8 n0 4 (.slice A5 now1.length c5)) 3 (.slice U5 us1.length uc5)
            go_wp2_with (first | (refine El.load pwRow rfl _ rfl n0 0 rfl ⟨bA, bc, base, t, A', c', L, U5, uc5, us1, A5, c5, now1⟩ hP10.at #[.slice bA base.length bc, .int .i64 t, .slice A' L.length c', .slice U5 us1.length uc5, .slice A5 now1.length c5] rfl ?_) | (refine El.store pwRow rfl _ _ rfl n2 ⟨bA, bc, base, t, A', c', L, U5, uc5, us1, A5, c5, now1⟩ #[.slice bA base.length bc, .int .i64 t, .slice A' L.length c', .slice U5 us1.length uc5, .slice A5 now1.length c5] rfl rfl rfl Pw.zero hR10 ?_))
            refine El.ret2 pwRow (v := .bool true) (hR10.set ⟨bA, bc, base, t, A', c', L, U5, uc5, us1, A5, c5, now1⟩ #[.slice bA base.length bc, .int .i64 t, .slice A' L.length c', .slice U5 us1.length uc5, .slice A5 now1.length c5] rfl) rfl rfl rfl rfl #[.slice bA base.length bc, .int .i64 t, .slice A' L.length c', .slice U5 us1.length uc5, .slice A5 now1.length c5] rfl ?_
            have hw0 : w.heap.size ≤ n0 ∧ w.heap.size ≤ n2 := by have := HNN.out; have := HNW.out; omega
            have hB8 := below_then hB7 hb8
            have hB10 := hB8.grown hg10 hB8.size (fun j e => by have := Option.some.inj e; omega)
            have hBz := below_setRow hB10 hw0.2 #[.slice bA base.length bc, .int .i64 t, .slice A' L.length c', .slice U5 us1.length uc5, .slice A5 now1.length c5]
            have hgz := fun W => by_row W n2 #[.slice bA base.length bc, .int .i64 t, .slice A' L.length c', .slice U5 us1.length uc5, .slice A5 now1.length c5]
            exact ⟨⟨bA, bc, base, t, A', c', L, U5, uc5, us1, A5, c5, now1⟩, by rw [HNV.out], ⟨(HL.out.below hBz).b, (hS8.keep hfr hg10 hlt4.1).keep hfr (hgz _) hlt4.2.2.1, (hF2.keep hfr2 hg10 hl0).keep hfr2 (hgz _) hl2, (hF1.keep hfr1 hg10 hl0).keep hfr1 (hgz _) hl2⟩, by rw [HNV.out]; rfl, hBz, ⟨rfl, rfl⟩, Or.inr (hfr.mono (by have := HNW.out; have := hlt4.1; omega)), Or.inr (hfr2.mono (by have := HNW.out; have := hB7.size; omega)), Or.inr (hfr1.mono (by have := HNW.out; have := hB7.size; omega))⟩
          · have hK2 := hK1.alloc (.cells #[.int .i64 m.C, .int .i64 m.D, .int .i64 m.I, .int .i64 m.M, .int .i64 m.K, .int .i64 m.U, .string m.s] 55)
            go_simp
            refine hK.out _ _ hK2.s ?_
            try simp only [Act.put, List.setIfInBounds_toArray, List.set_cons_zero, List.set_cons_succ]
            have own2 := own1.below (below_alloc (Below.refl _ (V.alloc (.cells #[] 55))) (.cells #[.int .i64 m.C, .int .i64 m.D, .int .i64 m.I, .int .i64 m.M, .int .i64 m.K, .int .i64 m.U, .string m.s] 55))
            have one2 : opE.Sl ((V.alloc (.cells #[] 55)).alloc (.cells #[.int .i64 m.C, .int .i64 m.D, .int .i64 m.I, .int .i64 m.M, .int .i64 m.K, .int .i64 m.U, .string m.s] 55)) (some ⟨B + 1, 0, none⟩) [m] := by
              have h := (El.In.new (E := opE) (V.alloc (.cells #[] 55)) m #[.int .i64 m.C, .int .i64 m.D, .int .i64 m.I, .int .i64 m.M, .int .i64 m.K, .int .i64 m.U, .string m.s] rfl).sl
              rw [hsz1] at h; exact h
            refine anyG_step (rs := [5]) (by kernel_rfl) (by simp) ?_
            refine AllG.cons rfl (fun K hK => ?_) AllG.nil
            refine El.step_app opInn rfl (.tmp 49) (.tmp 53) rfl B _ [] L1 rfl own2 oA k oc rfl HE1.out (hK2.o1.sl hK2.sz) hz1 (by simp; omega) hK2.sz ?_
            intro v1 W1 own3 hg1 hat1
            have own3 : opE.Own W1 B v1 L1 := own3
            have hK3 := hK2.grown hg1 (own2).rows
            have one3 := one2.keep1 hg1 (fun e => by have e : some (B + 1) = some B := e; have := Option.some.inj e; omega)
            clear hat1
            refine hK.out _ _ hK3.s ?_
            try simp only [Act.put, List.setIfInBounds_toArray, List.set_cons_zero, List.set_cons_succ]
            refine anyG_step (rs := [8]) (by kernel_rfl) (by simp) ?_
            refine AllG.cons rfl (fun K hK => ?_) AllG.nil
            refine El.step_app opInn rfl (.tmp 54) (.tmp 56) rfl B _ L1 [m] rfl own3 (some ⟨B + 1, 0, none⟩) 1 1 rfl rfl one3 (fun e => by cases e) (by simp; omega) hK3.sz ?_
            intro v2 W2 own4 hg2 hat2
            have hK4 := hK3.grown hg2 (own3).rows
            clear hat2
            refine hK.out _ _ hK4.s ?_
            try simp only [Act.put, List.setIfInBounds_toArray, List.set_cons_zero, List.set_cons_succ]
            refine anyG_step (rs := [13]) (by kernel_rfl) (by simp) ?_
            refine AllG.cons rfl (fun K hK => ?_) AllG.nil
            refine El.step_app opInn rfl (.tmp 57) (.tmp 61) rfl B _ (L1 ++ [m]) L3 rfl own4 A3 (ops.length - k) (oc - k) rfl HE3.out (hK4.o3.sl hK4.sz) hz3 (by rw [List.length_append, List.length_singleton]; omega) hK4.sz ?_
            intro v3 W3 ownF hg3 hat3
            have hKF := hK4.grown hg3 (own4).rows
            clear hat3
            refine hK.out _ _ hKF.s ?_
            try simp only [Act.put, List.setIfInBounds_toArray, List.set_cons_zero, List.set_cons_succ]
            obtain ⟨A', c', rfl, hSn⟩ := SlV.own ownF
            have hfr := ownF.frs
            have hLL : ((L1 ++ [m]) ++ L3).length ≤ ops.length + 1 := by rw [List.length_append, List.length_append, List.length_singleton, HE1.out, HE3.out]; omega
            generalize (L1 ++ [m]) ++ L3 = L at *
            have hS := hKF.s
            simp only at hS
            refine anyG_take (i := 14) (v := .pointer (some ⟨n0, 2, none⟩)) rfl (by kernel_rfl) (by kernel_rfl) (by kernel_rfl) (by kernel_rfl) (by kernel_rfl) (fun _ _ _ h => h) (Or.inl ⟨by rfl, fun w' hSw => by (obtain ⟨s0, s1, s2, s3, s4, s5, s6, s7⟩ := hSw; go_simp)⟩) hS ?_
            try simp only [Act.put, List.setIfInBounds_toArray, List.set_cons_zero, List.set_cons_succ]
            refine anyG_step (rs := [15]) (by kernel_rfl) (by simp) ?_
            refine AllG.last (n := 15) rfl (fun K hK => ?_)
            obtain ⟨p0, p1, p2, p3, p4⟩ := pwIn5 hKF.P
            have pf := hKF.P.frozen
            go_simp
            refine hK.out _ _ ?_
            try simp only [Act.put, List.setIfInBounds_toArray, List.set_cons_zero, List.set_cons_succ]
            refine anyG_done (by kernel_rfl) ?_ _
            have hlt4 := hKF.lt
            have hn20 : n2 ≠ n0 := by have := HNN.out; omega
            have hP7 := hKF.P.put ⟨bA, bc, base, t, A', c', L, uA, uc, us, wA, wc, now⟩ 2 (.slice A' L.length c') rfl
            have hR7 := hKF.R.other n0 2 (.slice A' L.length c') hn20
            have hg7 := by_cell W3 n0 2 (.slice A' L.length c')
            have hS7 := hSn.keep hfr hg7 hlt4.1
            have hB6 : Below w.heap.size w W3 := by rw [HNW.out]; exact hB.trans (hKF.bel.mono hn0W)
            have hB7 := hB6.grown hg7 hB6.size (fun j e => by have := Option.some.inj e; have := HNW.out; omega)
            have hb7 := (HL.out.below hB7).b
            simp only at hb7
            have CF := mvRefFold_any bA bc base A' c' L _ (by have := HL9.out; omega) hb7 hS7.1
            generalize W3.setCell ⟨n0, 2, none⟩ (.slice A' L.length c') = W7 at *
            clear p0 p1 p2 p3 p4 pf hK hKF hS hSn ownF
            obtain ⟨r0, r1, r2, r3, r4⟩ := pwIn5 hP7
            go_wp2_with fail
            refine CF.mono ?_
            rintro e W8 ⟨A5, c5, U5, uc5, rfl, hF1, hF2, hfr1, hfr2, hb8⟩
            clear CF r0 r1 r2 r3 r4
            have hP8 := hP7.below hb8
            have hR8 := hR7.below hb8
            have hS8 := hS7.below hb8
            have hl0 := hP7.lt
            have hl2 := hR7.lt
            generalize (foldL base (mvs L)).1 = now1 at *
            generalize (foldL base (mvs L)).2 = us1 at *
            obtain ⟨r0, r1, r2, r3, r4⟩ := pwIn5 hP8
            have pf8 := hP8.frozen
            have hP10 := (hP8.put ⟨bA, bc, base, t, A', c', L, uA, uc, us, A5, c5, now1⟩ 4 (.slice A5 now1.length c5) rfl).put ⟨bA, bc, base, t, A', c', L, U5, uc5, us1, A5, c5, now1⟩ 3 (.slice U5 us1.length uc5) rfl
            have hR10 := (hR8.other n0 4 (.slice A5 now1.length c5) hn20).other n0 3 (.slice U5 us1.length uc5) hn20
            have hg10 := by_cell2 (by_cell W8 n0 4 (.slice A5 now1.length c5)) 3 (.slice U5 us1.length uc5)
            go_wp2_with (first | (refine El.load pwRow rfl _ rfl n0 0 rfl ⟨bA, bc, base, t, A', c', L, U5, uc5, us1, A5, c5, now1⟩ hP10.at #[.slice bA base.length bc, .int .i64 t, .slice A' L.length c', .slice U5 us1.length uc5, .slice A5 now1.length c5] rfl ?_) | (refine El.store pwRow rfl _ _ rfl n2 ⟨bA, bc, base, t, A', c', L, U5, uc5, us1, A5, c5, now1⟩ #[.slice bA base.length bc, .int .i64 t, .slice A' L.length c', .slice U5 us1.length uc5, .slice A5 now1.length c5] rfl rfl rfl Pw.zero hR10 ?_))
            refine El.ret2 pwRow (v := .bool true) (hR10.set ⟨bA, bc, base, t, A', c', L, U5, uc5, us1, A5, c5, now1⟩ #[.slice bA base.length bc, .int .i64 t, .slice A' L.length c', .slice U5 us1.length uc5, .slice A5 now1.length c5] rfl) rfl rfl rfl rfl #[.slice bA base.length bc, .int .i64 t, .slice A' L.length c', .slice U5 us1.length uc5, .slice A5 now1.length c5] rfl ?_
            have hw0 : w.heap.size ≤ n0 ∧ w.heap.size ≤ n2 := by have := HNN.out; have := HNW.out; omega
            have hB8 := below_then hB7 hb8
            have hB10 := hB8.grown hg10 hB8.size (fun j e => by have := Option.some.inj e; omega)
            have hBz := below_setRow hB10 hw0.2 #[.slice bA base.length bc, .int .i64 t, .slice A' L.length c', .slice U5 us1.length uc5, .slice A5 now1.length c5]
            have hgz := fun W => by_row W n2 #[.slice bA base.length bc, .int .i64 t, .slice A' L.length c', .slice U5 us1.length uc5, .slice A5 now1.length c5]
            exact ⟨⟨bA, bc, base, t, A', c', L, U5, uc5, us1, A5, c5, now1⟩, by rw [HNV.out], ⟨(HL.out.below hBz).b, (hS8.keep hfr hg10 hlt4.1).keep hfr (hgz _) hlt4.2.2.1, (hF2.keep hfr2 hg10 hl0).keep hfr2 (hgz _) hl2, (hF1.keep hfr1 hg10 hl0).keep hfr1 (hgz _) hl2⟩, by rw [HNV.out]; rfl, hBz, ⟨rfl, rfl⟩, Or.inr (hfr.mono (by have := HNW.out; have := hlt4.1; omega)), Or.inr (hfr2.mono (by have := HNW.out; have := hB7.size; omega)), Or.inr (hfr1.mono (by have := HNW.out; have := hB7.size; omega))⟩
        · have hK1 := hKV.alloc (.cells #[.int .i64 m.C, .int .i64 m.D, .int .i64 m.I, .int .i64 m.M, .int .i64 m.K, .int .i64 m.U, .string m.s] 55)
          go_simp
          refine hK.out _ _ hK1.s ?_
          try simp only [Act.put, List.setIfInBounds_toArray, List.set_cons_zero, List.set_cons_succ]
          have one1 : opE.Sl (V.alloc (.cells #[.int .i64 m.C, .int .i64 m.D, .int .i64 m.I, .int .i64 m.M, .int .i64 m.K, .int .i64 m.U, .string m.s] 55)) (some ⟨B, 0, none⟩) [m] := by
            have h := (El.In.new (E := opE) V m #[.int .i64 m.C, .int .i64 m.D, .int .i64 m.I, .int .i64 m.M, .int .i64 m.K, .int .i64 m.U, .string m.s] rfl).sl
            rw [hBd] at h; exact h
          have hsz1 : (V.alloc (.cells #[.int .i64 m.C, .int .i64 m.D, .int .i64 m.I, .int .i64 m.M, .int .i64 m.K, .int .i64 m.U, .string m.s] 55)).heap.size = B + 1 := by rw [alloc_size, hBd]
          refine anyG_step (rs := [0]) (by kernel_rfl) (by simp) ?_
          refine AllG.cons rfl (fun K hK => ?_) AllG.nil
          have hK2 := hK1.alloc (.cells #[] 55)
          go_simp
          refine hK.out _ _ hK2.s ?_
          try simp only [Act.put, List.setIfInBounds_toArray, List.set_cons_zero, List.set_cons_succ]
          have own2 : opE.Own ((V.alloc (.cells #[.int .i64 m.C, .int .i64 m.D, .int .i64 m.I, .int .i64 m.M, .int .i64 m.K, .int .i64 m.U, .string m.s] 55)).alloc (.cells #[] 55)) B (.slice (some ⟨B + 1, 0, none⟩) 0 0) [] := by
            have h := El.Own.empty (E := opE) (V.alloc (.cells #[.int .i64 m.C, .int .i64 m.D, .int .i64 m.I, .int .i64 m.M, .int .i64 m.K, .int .i64 m.U, .string m.s] 55)) B (by omega)
            rw [hsz1] at h; exact h
          have one2 := one1.below (below_alloc (Below.refl _ (V.alloc (.cells #[.int .i64 m.C, .int .i64 m.D, .int .i64 m.I, .int .i64 m.M, .int .i64 m.K, .int .i64 m.U, .string m.s] 55))) (.cells #[] 55))
          refine anyG_step (rs := [5]) (by kernel_rfl) (by simp) ?_
          refine AllG.cons rfl (fun K hK => ?_) AllG.nil
          refine El.step_app opInn rfl (.tmp 49) (.tmp 53) rfl B _ [] L1 rfl own2 oA k oc rfl HE1.out (hK2.o1.sl hK2.sz) hz1 (by simp; omega) hK2.sz ?_
          intro v1 W1 own3 hg1 hat1
          have own3 : opE.Own W1 B v1 L1 := own3
          have hK3 := hK2.grown hg1 (own2).rows
          have one3 := one2.keep1 hg1 (fun e => by have e : some B = some (B + 1) := e; have := Option.some.inj e; omega)
          clear hat1
          refine hK.out _ _ hK3.s ?_
          try simp only [Act.put, List.setIfInBounds_toArray, List.set_cons_zero, List.set_cons_succ]
          refine anyG_step (rs := [8]) (by kernel_rfl) (by simp) ?_
          refine AllG.cons rfl (fun K hK => ?_) AllG.nil
          refine El.step_app opInn rfl (.tmp 54) (.tmp 56) rfl B _ L1 [m] rfl own3 (some ⟨B, 0, none⟩) 1 1 rfl rfl one3 (fun e => by cases e) (by simp; omega) hK3.sz ?_
          intro v2 W2 own4 hg2 hat2
          have hK4 := hK3.grown hg2 (own3).rows
          clear hat2
          refine hK.out _ _ hK4.s ?_
          try simp only [Act.put, List.setIfInBounds_toArray, List.set_cons_zero, List.set_cons_succ]
          refine anyG_step (rs := [13]) (by kernel_rfl) (by simp) ?_
          refine AllG.cons rfl (fun K hK => ?_) AllG.nil
          refine El.step_app opInn rfl (.tmp 57) (.tmp 61) rfl B _ (L1 ++ [m]) L3 rfl own4 A3 (ops.length - k) (oc - k) rfl HE3.out (hK4.o3.sl hK4.sz) hz3 (by rw [List.length_append, List.length_singleton]; omega) hK4.sz ?_
          intro v3 W3 ownF hg3 hat3
          have hKF := hK4.grown hg3 (own4).rows
          clear hat3
          refine hK.out _ _ hKF.s ?_
          try simp only [Act.put, List.setIfInBounds_toArray, List.set_cons_zero, List.set_cons_succ]
          obtain ⟨A', c', rfl, hSn⟩ := SlV.own ownF
          have hfr := ownF.frs
          have hLL : ((L1 ++ [m]) ++ L3).length ≤ ops.length + 1 := by rw [List.length_append, List.length_append, List.length_singleton, HE1.out, HE3.out]; omega
          generalize (L1 ++ [m]) ++ L3 = L at *
          have hS := hKF.s
          simp only at hS
          refine anyG_take (i := 14) (v := .pointer (some ⟨n0, 2, none⟩)) rfl (by kernel_rfl) (by kernel_rfl) (by kernel_rfl) (by kernel_rfl) (by kernel_rfl) (fun _ _ _ h => h) (Or.inl ⟨by rfl, fun w' hSw => by (obtain ⟨s0, s1, s2, s3, s4, s5, s6, s7⟩ := hSw; go_simp)⟩) hS ?_
          try simp only [Act.put, List.setIfInBounds_toArray, List.set_cons_zero, List.set_cons_succ]
          refine anyG_step (rs := [15]) (by kernel_rfl) (by simp) ?_
          refine AllG.last (n := 15) rfl (fun K hK => ?_)
          obtain ⟨p0, p1, p2, p3, p4⟩ := pwIn5 hKF.P
          have pf := hKF.P.frozen
          go_simp
          refine hK.out _ _ ?_
          try simp only [Act.put, List.setIfInBounds_toArray, List.set_cons_zero, List.set_cons_succ]
          refine anyG_done (by kernel_rfl) ?_ _
          have hlt4 := hKF.lt
          have hn20 : n2 ≠ n0 := by have := HNN.out; omega
          have hP7 := hKF.P.put ⟨bA, bc, base, t, A', c', L, uA, uc, us, wA, wc, now⟩ 2 (.slice A' L.length c') rfl
          have hR7 := hKF.R.other n0 2 (.slice A' L.length c') hn20
          have hg7 := by_cell W3 n0 2 (.slice A' L.length c')
          have hS7 := hSn.keep hfr hg7 hlt4.1
          have hB6 : Below w.heap.size w W3 := by rw [HNW.out]; exact hB.trans (hKF.bel.mono hn0W)
          have hB7 := hB6.grown hg7 hB6.size (fun j e => by have := Option.some.inj e; have := HNW.out; omega)
          have hb7 := (HL.out.below hB7).b
          simp only at hb7
          have CF := mvRefFold_any bA bc base A' c' L _ (by have := HL9.out; omega) hb7 hS7.1
          generalize W3.setCell ⟨n0, 2, none⟩ (.slice A' L.length c') = W7 at *
          clear p0 p1 p2 p3 p4 pf hK hKF hS hSn ownF
          obtain ⟨r0, r1, r2, r3, r4⟩ := pwIn5 hP7
          go_wp2_with fail
          refine CF.mono ?_
          rintro e W8 ⟨A5, c5, U5, uc5, rfl, hF1, hF2, hfr1, hfr2, hb8⟩
          clear CF r0 r1 r2 r3 r4
          have hP8 := hP7.below hb8
          have hR8 := hR7.below hb8
          have hS8 := hS7.below hb8
          have hl0 := hP7.lt
          have hl2 := hR7.lt
          generalize (foldL base (mvs L)).1 = now1 at *
          generalize (foldL base (mvs L)).2 = us1 at *
          obtain ⟨r0, r1, r2, r3, r4⟩ := pwIn5 hP8
          have pf8 := hP8.frozen
          have hP10 := (hP8.put ⟨bA, bc, base, t, A', c', L, uA, uc, us, A5, c5, now1⟩ 4 (.slice A5 now1.length c5) rfl).put ⟨bA, bc, base, t, A', c', L, U5, uc5, us1, A5, c5, now1⟩ 3 (.slice U5 us1.length uc5) rfl
          have hR10 := (hR8.other n0 4 (.slice A5 now1.length c5) hn20).other n0 3 (.slice U5 us1.length uc5) hn20
          have hg10 := by_cell2 (by_cell W8 n0 4 (.slice A5 now1.length c5)) 3 (.slice U5 us1.length uc5)
          go_wp2_with (first | (refine El.load pwRow rfl _ rfl n0 0 rfl ⟨bA, bc, base, t, A', c', L, U5, uc5, us1, A5, c5, now1⟩ hP10.at #[.slice bA base.length bc, .int .i64 t, .slice A' L.length c', .slice U5 us1.length uc5, .slice A5 now1.length c5] rfl ?_) | (refine El.store pwRow rfl _ _ rfl n2 ⟨bA, bc, base, t, A', c', L, U5, uc5, us1, A5, c5, now1⟩ #[.slice bA base.length bc, .int .i64 t, .slice A' L.length c', .slice U5 us1.length uc5, .slice A5 now1.length c5] rfl rfl rfl Pw.zero hR10 ?_))
          refine El.ret2 pwRow (v := .bool true) (hR10.set ⟨bA, bc, base, t, A', c', L, U5, uc5, us1, A5, c5, now1⟩ #[.slice bA base.length bc, .int .i64 t, .slice A' L.length c', .slice U5 us1.length uc5, .slice A5 now1.length c5] rfl) rfl rfl rfl rfl #[.slice bA base.length bc, .int .i64 t, .slice A' L.length c', .slice U5 us1.length uc5, .slice A5 now1.length c5] rfl ?_
          have hw0 : w.heap.size ≤ n0 ∧ w.heap.size ≤ n2 := by have := HNN.out; have := HNW.out; omega
          have hB8 := below_then hB7 hb8
          have hB10 := hB8.grown hg10 hB8.size (fun j e => by have := Option.some.inj e; omega)
          have hBz := below_setRow hB10 hw0.2 #[.slice bA base.length bc, .int .i64 t, .slice A' L.length c', .slice U5 us1.length uc5, .slice A5 now1.length c5]
          have hgz := fun W => by_row W n2 #[.slice bA base.length bc, .int .i64 t, .slice A' L.length c', .slice U5 us1.length uc5, .slice A5 now1.length c5]
          exact ⟨⟨bA, bc, base, t, A', c', L, U5, uc5, us1, A5, c5, now1⟩, by rw [HNV.out], ⟨(HL.out.below hBz).b, (hS8.keep hfr hg10 hlt4.1).keep hfr (hgz _) hlt4.2.2.1, (hF2.keep hfr2 hg10 hl0).keep hfr2 (hgz _) hl2, (hF1.keep hfr1 hg10 hl0).keep hfr1 (hgz _) hl2⟩, by rw [HNV.out]; rfl, hBz, ⟨rfl, rfl⟩, Or.inr (hfr.mono (by have := HNW.out; have := hlt4.1; omega)), Or.inr (hfr2.mono (by have := HNW.out; have := hB7.size; omega)), Or.inr (hfr1.mono (by have := HNW.out; have := hB7.size; omega))⟩
end Go.Proofs.YtdcjffajmckleaaGreatDoor

/- Whether operations may be, rise, and come behind a counter: rightOps of the program. -/
namespace Go.Proofs.YtdcjffajmckleaaGreatDoor
open Go.RowKit Tre Cod Pst

/-- The first k may be, rise, and come behind t. -/
def OpsTo (l : List Mv) (t : Int) (k : Nat) : Prop := ∀ i (h : i < l.length), i < k → l[i].ok ∧ t < l[i].C ∧ ∀ (h0 : 0 < i), bef Mv.C Mv.D (l[i - 1]'(by omega)) l[i]
def OpsR (l : List Mv) (t : Int) : Prop := OpsTo l t l.length
theorem OpsTo.zero (l : List Mv) (t : Int) : OpsTo l t 0 := fun i h hi => by omega
theorem OpsTo.next {l : List Mv} {t : Int} {k : Nat} (h : OpsTo l t k) (hk : k < l.length) (h1 : l[k].ok) (h2 : t < l[k].C) (h3 : ∀ (h0 : 0 < k), bef Mv.C Mv.D (l[k - 1]'(by omega)) l[k]) : OpsTo l t (k + 1) := fun i hi hik => by
  by_cases e : i = k
  · subst e; exact ⟨h1, h2, h3⟩
  · exact h i hi (by omega)
theorem OpsR.at {l : List Mv} {t : Int} (h : OpsR l t) (k : Nat) (hk : k < l.length) : l[k].ok ∧ t < l[k].C ∧ ∀ (h0 : 0 < k), bef Mv.C Mv.D (l[k - 1]'(by omega)) l[k] := h k hk hk

end Go.Proofs.YtdcjffajmckleaaGreatDoor

/- Whether a past is one: Right of the program. -/
namespace Go.Proofs.YtdcjffajmckleaaGreatDoor
open Go.RowKit Tre Cod Pst Nam

def PastR (q : Pv) : Prop := treeB q.base = true ∧ 0 ≤ q.t ∧ q.t ≤ 1099511627776 ∧ OpsR q.ops q.t ∧ q.now = (foldL q.base (mvs q.ops)).1 ∧ q.us = (foldL q.base (mvs q.ops)).2
theorem PInv.right {q : Pv} (h : PInv q) : PastR q :=
  ⟨h.tree, h.t0, h.t1, fun i hi _ => ⟨h.ok _ (List.getElem_mem hi), h.gt _ (List.getElem_mem hi), fun h0 => ris_get h.ris (by omega) hi (by omega)⟩, h.nw, h.un⟩

end Go.Proofs.YtdcjffajmckleaaGreatDoor

/- The library's Search; where an operation of a moment stands; where the counters above a number begin. -/
namespace Go.Proofs.YtdcjffajmckleaaGreatDoor
open Go.RowKit Tre Cod Pst

set_option maxRecDepth 100000 in
theorem findAt_any (i : Nat) (A : Option Addr) (c : Nat) (l : List Mv) (C D : Int) (b1 b2 : Nat) (w : World) (h1 : w.cell? ⟨b1, 0, none⟩ = some (.slice A l.length c)) (h2 : w.cell? ⟨b2, 0, none⟩ = some (.int .i64 C)) (h3 : w.cell? ⟨b2, 1, none⟩ = some (.int .i64 D))
    (hT : opE.Sl w A l) (hi : i < l.length) (hl : l.length ≤ 1000) :
    Calls Tryz.prog 80 #[.int .i64 i, .pointer (some ⟨b1, 0, none⟩), .pointer (some ⟨b2, 0, none⟩)] w fun e w' => e = .returned (.bool (!befB l[i].C l[i].D C D)) ∧ Below w.heap.size w w' := by
  obtain ⟨b, off, rfl, hbw, hc⟩ := hT (by omega)
  have hat : opE.At w b (off + i * 7) _ := hc i hi
  obtain ⟨m, hm⟩ : ∃ m, l[i] = m := ⟨_, rfl⟩
  rw [hm] at hat ⊢
  obtain ⟨t0, t1, t2, t3, t4, t5, t6⟩ := opAt hat
  clear hc hat hm t2 t3 t4 t5 t6
  have HC := Lib.hid (fun w => before_any m.C m.D C D w)
  generalize befB m.C m.D C D = r at *
  have k1 := cell_regrown h1
  have k2 := cell_regrown h2
  have k3 := cell_regrown h3
  have k4 := cell_regrown t0
  have k5 := cell_regrown t1
  clear h1 h2 h3 t0 t1
  have d1 : ∀ d os, Calls Tryz.prog 81 #[.agg #[.int .i64 m.C, .int .i64 m.D], .agg #[.int .i64 C, .int .i64 D]] (Sort.grow (redrawn w d) os) fun e w'' => e = .returned (.bool r) ∧ ∃ p : Regrown, w'' = Sort.grow (redrawn w p.d) p.os := fun d os => Calls.regrown_of (HC.out _)
  go_enter Tryz.func80, Tryz.ntmps80
  go_wp2_with fail
  refine wp_region_quiet_below (by kernel_rfl) (by kernel_rfl) ?_
  repeat (go_big_quiet_step ((with_reducible (first | exact d1 _ _))))
  refine wpQuiet_nil ?_
  intro _ hw'
  obtain ⟨⟨dq, osq⟩, hw''⟩ := hw'
  subst hw''
  have hq := below_regrown w dq osq
  generalize Sort.grow (redrawn w dq) osq = W1 at *
  go_wp2_with fail
  go_ret
  exact ⟨by cases r <;> rfl, hq⟩

set_option maxRecDepth 100000 in
theorem upOne_any (i : Nat) (x : Pw) (s : Int) (b1 b2 : Nat) (w : World) (hP : pwE.In w b1 x) (h2 : w.cell? ⟨b2, 0, none⟩ = some (.int .i64 s))
    (hT : opE.Sl w x.oA x.ops) (hi : i < x.ops.length) (hl : x.ops.length ≤ 1000) :
    Calls Tryz.prog 95 #[.int .i64 i, .pointer (some ⟨b1, 0, none⟩), .pointer (some ⟨b2, 0, none⟩)] w fun e w' => e = .returned (.bool (decide (s < x.ops[i].C))) ∧ Below w.heap.size w w' := by
  obtain ⟨bA, bc, base, t, oA, oc, ops, uA, uc, us, wA, wc, now⟩ := x
  simp only at hT hi hl ⊢
  obtain ⟨b, off, rfl, hbw, hc⟩ := hT (by omega)
  have hat : opE.At w b (off + i * 7) _ := hc i hi
  obtain ⟨m, hm⟩ : ∃ m, ops[i] = m := ⟨_, rfl⟩
  rw [hm] at hat ⊢
  obtain ⟨t0, t1, t2, t3, t4, t5, t6⟩ := opAt hat
  obtain ⟨p0, p1, p2, p3, p4⟩ := pwIn5 hP
  clear hc hat hm t1 t2 t3 t4 t5 t6 p0 p1 p3 p4
  go_enter Tryz.func95, Tryz.ntmps95
  go_wp2
  go_region
  all_goals go_wp2
  all_goals go_ret
  all_goals exact ⟨rfl, (Below.refl _ _).drew⟩

theorem find_pos {l : List Mv} (hr : Ris Mv.C Mv.D l) {m : Mv} {i : Nat} (hi : i ≤ l.length) (hlo : ∀ k (h : k < l.length), k < i → befB l[k].C l[k].D m.C m.D = true) (hhi : ∀ k (h : k < l.length), i ≤ k → befB l[k].C l[k].D m.C m.D = false) : i = pos Mv.C Mv.D l m :=
  pos_eq hi (fun k h hk => by have := hlo k h hk; rw [bef_iff] at this; exact of_decide_eq_true this) (fun h => by have := hhi i h (Nat.le_refl _); rw [bef_iff] at this; exact of_decide_eq_false this)

set_option maxRecDepth 100000 in
theorem search1_any (n : Nat) (b1 b2 : Nat) (p : Nat → Bool) (w : World) (hn : n ≤ 1000) (hm : ∀ i j, i ≤ j → j < n → p i = true → p j = true)
    (HF : ∀ (i : Nat) (w' : World), i < n → Below w.heap.size w w' → Calls Tryz.prog 80 #[.int .i64 i, .pointer (some ⟨b1, 0, none⟩), .pointer (some ⟨b2, 0, none⟩)] w' fun e w'' => e = .returned (.bool (p i)) ∧ Below w'.heap.size w' w'') :
    Calls Tryz.prog 79 #[.int .i64 n, .func (.func 80) #[] #[.pointer (some ⟨b1, 0, none⟩), .pointer (some ⟨b2, 0, none⟩)]] w fun e w' => ∃ k : Nat, e = .returned (.int .i64 k) ∧ k ≤ n ∧ (∀ i, i < k → p i = false) ∧ (∀ i, k ≤ i → i < n → p i = true) ∧ Below w.heap.size w w' := by
  go_enter Tryz.func79, Tryz.ntmps79
  go_wp2
  go_loopw [5, 6] (fun x y wr => ∃ i j : Nat, i ≤ j ∧ j ≤ n ∧ x = .int .i64 i ∧ y = .int .i64 j ∧ (∀ k, k < i → p k = false) ∧ (∀ k, j ≤ k → k < n → p k = true) ∧ Below w.heap.size w wr) (fun x y _ => (intOf y).toNat - (intOf x).toNat)
  case atStart => exact ⟨0, n, Nat.zero_le _, Nat.le_refl _, rfl, rfl, fun k hk => by omega, fun k hk h => by omega, Below.refl _ _⟩
  case round =>
    obtain ⟨i, j, hij, hj, rfl, rfl, hlo, hhi, hnx⟩ := hrel
    by_cases hlt : i < j
    · have hc0 := HF ((i + j) / 2) wr (by omega) hnx
      rw [show (((i + j) / 2 : Nat) : Int) = ((i : Int) + (j : Int)) / 2 by omega] at hc0
      have HC := Lib.hid hc0
      clear hc0
      cases hpk : p ((i + j) / 2)
      · rw [hpk] at HC
        go_wp2_with (go_at_call 80; (with_reducible refine (HC.out).mono ?_); rintro e w1 ⟨rfl, hb1⟩)
        go_roundw
        case rel =>
          refine ⟨(i + j) / 2 + 1, j, by omega, hj, by go_num, rfl, fun k hk => ?_, hhi, below_then hnx hb1⟩
          by_cases hpj : p k = true
          · have := hm k ((i + j) / 2) (by omega) (by omega) hpj
            rw [hpk] at this; cases this
          · simpa using hpj
        case measure => simp [intOf]; omega
      · rw [hpk] at HC
        go_wp2_with (go_at_call 80; (with_reducible refine (HC.out).mono ?_); rintro e w1 ⟨rfl, hb1⟩)
        go_roundw
        case rel =>
          refine ⟨i, (i + j) / 2, by omega, by omega, rfl, by go_num, hlo, fun k hk h => ?_, below_then hnx hb1⟩
          exact hm _ k hk h hpk
        case measure => simp [intOf]; omega
    · obtain rfl : i = j := by omega
      go_wp2
      go_ret
      exact ⟨i, rfl, hj, hlo, hhi, hnx⟩
set_option maxRecDepth 100000 in
theorem search2_any (n : Nat) (b1 b2 : Nat) (p : Nat → Bool) (w : World) (hn : n ≤ 1000) (hm : ∀ i j, i ≤ j → j < n → p i = true → p j = true)
    (HF : ∀ (i : Nat) (w' : World), i < n → Below w.heap.size w w' → Calls Tryz.prog 95 #[.int .i64 i, .pointer (some ⟨b1, 0, none⟩), .pointer (some ⟨b2, 0, none⟩)] w' fun e w'' => e = .returned (.bool (p i)) ∧ Below w'.heap.size w' w'') :
    Calls Tryz.prog 79 #[.int .i64 n, .func (.func 95) #[] #[.pointer (some ⟨b1, 0, none⟩), .pointer (some ⟨b2, 0, none⟩)]] w fun e w' => ∃ k : Nat, e = .returned (.int .i64 k) ∧ k ≤ n ∧ (∀ i, i < k → p i = false) ∧ (∀ i, k ≤ i → i < n → p i = true) ∧ Below w.heap.size w w' := by
  go_enter Tryz.func79, Tryz.ntmps79
  go_wp2
  go_loopw [5, 6] (fun x y wr => ∃ i j : Nat, i ≤ j ∧ j ≤ n ∧ x = .int .i64 i ∧ y = .int .i64 j ∧ (∀ k, k < i → p k = false) ∧ (∀ k, j ≤ k → k < n → p k = true) ∧ Below w.heap.size w wr) (fun x y _ => (intOf y).toNat - (intOf x).toNat)
  case atStart => exact ⟨0, n, Nat.zero_le _, Nat.le_refl _, rfl, rfl, fun k hk => by omega, fun k hk h => by omega, Below.refl _ _⟩
  case round =>
    obtain ⟨i, j, hij, hj, rfl, rfl, hlo, hhi, hnx⟩ := hrel
    by_cases hlt : i < j
    · have hc0 := HF ((i + j) / 2) wr (by omega) hnx
      rw [show (((i + j) / 2 : Nat) : Int) = ((i : Int) + (j : Int)) / 2 by omega] at hc0
      have HC := Lib.hid hc0
      clear hc0
      cases hpk : p ((i + j) / 2)
      · rw [hpk] at HC
        go_wp2_with (go_at_call 95; (with_reducible refine (HC.out).mono ?_); rintro e w1 ⟨rfl, hb1⟩)
        go_roundw
        case rel =>
          refine ⟨(i + j) / 2 + 1, j, by omega, hj, by go_num, rfl, fun k hk => ?_, hhi, below_then hnx hb1⟩
          by_cases hpj : p k = true
          · have := hm k ((i + j) / 2) (by omega) (by omega) hpj
            rw [hpk] at this; cases this
          · simpa using hpj
        case measure => simp [intOf]; omega
      · rw [hpk] at HC
        go_wp2_with (go_at_call 95; (with_reducible refine (HC.out).mono ?_); rintro e w1 ⟨rfl, hb1⟩)
        go_roundw
        case rel =>
          refine ⟨i, (i + j) / 2, by omega, by omega, rfl, by go_num, hlo, fun k hk h => ?_, below_then hnx hb1⟩
          exact hm _ k hk h hpk
        case measure => simp [intOf]; omega
    · obtain rfl : i = j := by omega
      go_wp2
      go_ret
      exact ⟨i, rfl, hj, hlo, hhi, hnx⟩
end Go.Proofs.YtdcjffajmckleaaGreatDoor

/- Of the library, at operations and undos: Clone, Grow, Concat. -/
namespace Go.Proofs.YtdcjffajmckleaaGreatDoor
open Go.RowKit Tre Cod

def catE {α : Type} (F : Nat → List α) : Nat → List α
  | 0 => []
  | k + 1 => catE F k ++ F k
theorem catE_le {α : Type} (F : Nat → List α) (k : Nat) : ∀ n, k ≤ n → (catE F k).length ≤ (catE F n).length
  | 0, h => by obtain rfl : k = 0 := by omega
               exact Nat.le_refl _
  | n + 1, h => by
    by_cases e : k = n + 1
    · subst e; exact Nat.le_refl _
    · have := catE_le F k n (by omega)
      rw [catE, List.length_append]; omega

set_option maxRecDepth 100000 in
theorem cloneOp_any (A : Option Addr) (c : Nat) (l : List Mv) (w : World) (hl : l.length ≤ 50000) (hT : SlV opE w A c l) :
    Calls Tryz.prog 59 #[.slice A l.length c] w fun e w' => ∃ A' c', e = .returned (.slice A' l.length c') ∧ SlV opE w' A' c' l ∧ Frs w.heap.size A' ∧ Below w.heap.size w w' := by
  obtain ⟨hT, hz, hlc⟩ := hT
  have q : ∀ (w : World) (a : Option Addr) (n c n' c' : Nat), (binOp .eql 31 (.slice a n c) (.slice none n' c')).run Tryz.prog w = .ok (.bool a.isNone) w := fun w a n c n' c' => Lib.run_eql_slice_nil w _ _ a n c n' c' Tryz.underlying31
  cases A with
  | none =>
    obtain rfl := hT.none_nil
    obtain rfl := hz rfl
    go_enter Tryz.func59, Tryz.ntmps59
    go_wp2
    go_ret
    exact ⟨none, 0, rfl, SlV.nil _ _, frs_nil _, Below.refl _ _⟩
  | some a =>
    go_enter Tryz.func59, Tryz.ntmps59
    have hE := El.Own.empty (E := opE) w w.heap.size (Nat.le_refl _)
    have hb0 := below_alloc (Below.refl w.heap.size w) (.cells #[] 55)
    go_wp2_with (at_builtin; refine El.wpList_app opInn rfl _ _ rfl w.heap.size _ [] l rfl hE (some a) _ c rfl rfl (hT.below hb0) (fun e => by cases e) (by simp; omega) (by simp) ?_; intro v' w2 hown hg _)
    obtain ⟨A', c', rfl, hS⟩ := SlV.own hown
    go_wp2
    go_ret
    exact ⟨A', c', rfl, hS, hown.frs, below_own hb0 hg (hE.rows)⟩

theorem infoOp : (Tryz.prog.info? 55).map (fun i => (i.zero, i.size, i.bytes)) = some (some (.agg #[.int .i64 0, .int .i64 0, .int .i64 0, .int .i64 0, .int .i64 0, .int .i64 0, .string ⟨#[]⟩]), 7, 64) := by kernel_rfl
set_option maxRecDepth 100000 in
theorem growOp_any (B n : Nat) (w : World) (hn : n ≤ 1000) (hB : B ≤ w.heap.size) :
    Calls Tryz.prog 83 #[.slice none 0 0, .int .i64 n] w fun e w' => ∃ v, e = .returned v ∧ opE.Own w' B v [] ∧ Below w.heap.size w w' := by
  by_cases h0 : n = 0
  · subst h0
    go_enter Tryz.func83, Tryz.ntmps83
    go_wp2
    go_ret
    exact ⟨_, rfl, El.Own.nil _ B, Below.refl _ _⟩
  · obtain ⟨i, hi, hz, hz1, hz2⟩ := info_parts infoOp
    have hr := fun ty => Lib.run_append_nil_zeros (P := Tryz.prog) w 31 3 ty 55 i _ .i64 .i64 Tryz.underlying31 Tryz.underlying3 hi hz n (by omega) (by omega) (by omega) (by rw [hz2]; omega)
    have hg1 : n ≤ grownCap w n 0 55 := grownCap_ge w n 0 _
    have hg2 : grownCap w n 0 55 ≤ maxLen := grownCap_le_maxLen w n 0 55 (by unfold maxLen; omega)
    have hown : opE.Own (w.drew.alloc (.cells (Builtin.zeroCells (Value.agg #[.int .i64 0, .int .i64 0, .int .i64 0, .int .i64 0, .int .i64 0, .int .i64 0, .string ⟨#[]⟩]).cells n ++ Builtin.zeroCells (Value.agg #[.int .i64 0, .int .i64 0, .int .i64 0, .int .i64 0, .int .i64 0, .int .i64 0, .string ⟨#[]⟩]).cells (grownCap w n 0 55 - n)) 55)) B (.slice (some ⟨w.heap.size, 0, none⟩) 0 (grownCap w n 0 55)) [] := by
      refine World.ownsRow_made w.drew _ (grownCap w n 0 55) hB hg2 ?_
      rw [Array.size_append, size_zeroCells, size_zeroCells]
      show n * 7 + (grownCap w n 0 55 - n) * 7 = _ * 7
      omega
    have hnx : Below w.heap.size w (w.drew.alloc (.cells (Builtin.zeroCells (Value.agg #[.int .i64 0, .int .i64 0, .int .i64 0, .int .i64 0, .int .i64 0, .int .i64 0, .string ⟨#[]⟩]).cells n ++ Builtin.zeroCells (Value.agg #[.int .i64 0, .int .i64 0, .int .i64 0, .int .i64 0, .int .i64 0, .int .i64 0, .string ⟨#[]⟩]).cells (grownCap w n 0 55 - n)) 55)) := below_alloc (Below.refl _ w).drew _
    generalize grownCap w n 0 55 = cap at *
    generalize w.drew.alloc (.cells (Builtin.zeroCells (Value.agg #[.int .i64 0, .int .i64 0, .int .i64 0, .int .i64 0, .int .i64 0, .int .i64 0, .string ⟨#[]⟩]).cells n ++ Builtin.zeroCells (Value.agg #[.int .i64 0, .int .i64 0, .int .i64 0, .int .i64 0, .int .i64 0, .int .i64 0, .string ⟨#[]⟩]).cells (cap - n)) 55) = W at *
    go_enter Tryz.func83, Tryz.ntmps83
    go_wp2_with (at_builtin; refine Lib.wpList_append_run _ rfl _ _ 31 3 rfl _ _ rfl rfl _ _ (hr _) ?_)
    go_wp2
    go_ret
    exact ⟨_, rfl, hown, hnx⟩

set_option maxRecDepth 100000 in
theorem concatOp_any (sb : Nat) (F : Nat → List Mv) (A : Nat → Option Addr) (C : Nat → Nat) (w : World) (hcell : ∀ j, j < 3 → w.cell? ⟨sb, j, none⟩ = some (.slice (A j) (F j).length (C j)))
    (hT : ∀ j, j < 3 → opE.Sl w (A j) (F j)) (hc : ∀ j, j < 3 → A j = none → C j = 0) (hl : (catE F 3).length ≤ 1000) (hsb : sb < w.heap.size) :
    Calls Tryz.prog 51 #[.slice (some ⟨sb, 0, none⟩) 3 3] w fun e w' => ∃ A' cap', e = .returned (.slice A' (catE F 3).length cap') ∧ SlV opE w' A' cap' (catE F 3) ∧ Frs w.heap.size A' ∧ Below w.heap.size w w' := by
  have CG := fun n hn => growOp_any w.heap.size n w hn (Nat.le_refl _)
  have hle := fun k h => catE_le F k 3 h
  have HCL := Lib.hid hcell
  have HTT := Lib.hid hT
  have HCC := Lib.hid hc
  clear hcell hT hc
  go_enter Tryz.func51, Tryz.ntmps51
  go_wp2
  go_loop [3, 11] (fun x y => ∃ k : Nat, k ≤ 3 ∧ y = .int .i64 k ∧ x = .int .i64 (catE F k).length) (fun _ y => 3 - (intOf y).toNat)
  case atStart => exact ⟨0, Nat.zero_le _, rfl, rfl⟩
  case round =>
    obtain ⟨k, hk, rfl, rfl⟩ := hrel
    by_cases hlt : k < 3
    · have h1 := HCL.out k hlt
      have h2 := hle (k + 1) hlt
      have h3 : (catE F (k + 1)).length = (catE F k).length + (F k).length := by rw [catE, List.length_append]
      have H3 := Lib.hid h3
      have h4 : (catE F k).length + (F k).length ≤ 1000 := by omega
      generalize (catE F k).length = n at *
      generalize (F k).length = m at *
      clear h3
      go_wp2
      go_round
      case rel => exact ⟨k + 1, by omega, by go_num, by rw [H3.out]; go_num⟩
      case measure => simp [intOf]; omega
    · obtain rfl : k = 3 := by omega
      have CG := CG _ hl
      go_wp2_with fail
      refine CG.mono ?_
      rintro e w1 ⟨v, rfl, hown, hb1⟩
      clear CG
      go_wp2
      go_loopw [6, 27] (fun x y wr => ∃ (k : Nat) (v : Value), k ≤ 3 ∧ y = .int .i64 k ∧ x = v ∧ opE.Own wr w.heap.size v (catE F k) ∧ Below w.heap.size w wr) (fun _ y _ => 3 - (intOf y).toNat)
      case atStart => exact ⟨0, v, Nat.zero_le _, rfl, rfl, hown, hb1⟩
      case round =>
        clear hown hb1
        obtain ⟨k, v, hk, rfl, rfl, hown, hnx⟩ := hrel
        by_cases hlt : k < 3
        · have h1 := HCL.out k hlt
          rw [← (bcell hnx).1 _ _ hsb] at h1
          have h2 := hle (k + 1) hlt
          have h3 : (catE F (k + 1)).length = (catE F k).length + (F k).length := by rw [catE, List.length_append]
          have hTk := (HTT.out k hlt).below hnx
          have hck := HCC.out k hlt
          have hB := hnx.size
          go_wp2_with (at_builtin; refine El.wpList_app opInn rfl _ _ rfl w.heap.size _ (catE F k) (F k) rfl hown (A k) _ (C k) rfl rfl hTk hck (by omega) hB ?_; intro v' w2 hown2 hg2 _)
          go_roundw
          case rel => exact ⟨k + 1, v', by omega, by go_num, rfl, hown2, hnx.grown hg2 hB (fun j hj => (hown).rows j hj)⟩
          case measure => simp [intOf]; omega
        · obtain rfl : k = 3 := by omega
          obtain ⟨A', cap', rfl, hS⟩ := SlV.own hown
          go_wp2
          go_ret
          exact ⟨A', cap', rfl, hS, hown.frs, hnx⟩
set_option maxRecDepth 100000 in
theorem cloneUn_any (A : Option Addr) (c : Nat) (l : List Un) (w : World) (hl : l.length ≤ 50000) (hT : SlV unE w A c l) :
    Calls Tryz.prog 82 #[.slice A l.length c] w fun e w' => ∃ A' c', e = .returned (.slice A' l.length c') ∧ SlV unE w' A' c' l ∧ Frs w.heap.size A' ∧ Below w.heap.size w w' := by
  obtain ⟨hT, hz, hlc⟩ := hT
  have q : ∀ (w : World) (a : Option Addr) (n c n' c' : Nat), (binOp .eql 38 (.slice a n c) (.slice none n' c')).run Tryz.prog w = .ok (.bool a.isNone) w := fun w a n c n' c' => Lib.run_eql_slice_nil w _ _ a n c n' c' Tryz.underlying38
  cases A with
  | none =>
    obtain rfl := hT.none_nil
    obtain rfl := hz rfl
    go_enter Tryz.func82, Tryz.ntmps82
    go_wp2
    go_ret
    exact ⟨none, 0, rfl, SlV.nil _ _, frs_nil _, Below.refl _ _⟩
  | some a =>
    go_enter Tryz.func82, Tryz.ntmps82
    have hE := El.Own.empty (E := unE) w w.heap.size (Nat.le_refl _)
    have hb0 := below_alloc (Below.refl w.heap.size w) (.cells #[] 118)
    go_wp2_with (at_builtin; refine El.wpList_app unInn rfl _ _ rfl w.heap.size _ [] l rfl hE (some a) _ c rfl rfl (hT.below hb0) (fun e => by cases e) (by simp; omega) (by simp) ?_; intro v' w2 hown hg _)
    obtain ⟨A', c', rfl, hS⟩ := SlV.own hown
    go_wp2
    go_ret
    exact ⟨A', c', rfl, hS, hown.frs, below_own hb0 hg (hE.rows)⟩

theorem infoUn : (Tryz.prog.info? 118).map (fun i => (i.zero, i.size, i.bytes)) = some (some (.agg #[.int .i64 0, .int .i64 0, .string ⟨#[]⟩, .bool false, .bool false]), 5, 40) := by kernel_rfl
set_option maxRecDepth 100000 in
theorem growUn_any (B n : Nat) (w : World) (hn : n ≤ 1000) (hB : B ≤ w.heap.size) :
    Calls Tryz.prog 87 #[.slice none 0 0, .int .i64 n] w fun e w' => ∃ v, e = .returned v ∧ unE.Own w' B v [] ∧ Below w.heap.size w w' := by
  by_cases h0 : n = 0
  · subst h0
    go_enter Tryz.func87, Tryz.ntmps87
    go_wp2
    go_ret
    exact ⟨_, rfl, El.Own.nil _ B, Below.refl _ _⟩
  · obtain ⟨i, hi, hz, hz1, hz2⟩ := info_parts infoUn
    have hr := fun ty => Lib.run_append_nil_zeros (P := Tryz.prog) w 38 3 ty 118 i _ .i64 .i64 Tryz.underlying38 Tryz.underlying3 hi hz n (by omega) (by omega) (by omega) (by rw [hz2]; omega)
    have hg1 : n ≤ grownCap w n 0 118 := grownCap_ge w n 0 _
    have hg2 : grownCap w n 0 118 ≤ maxLen := grownCap_le_maxLen w n 0 118 (by unfold maxLen; omega)
    have hown : unE.Own (w.drew.alloc (.cells (Builtin.zeroCells (Value.agg #[.int .i64 0, .int .i64 0, .string ⟨#[]⟩, .bool false, .bool false]).cells n ++ Builtin.zeroCells (Value.agg #[.int .i64 0, .int .i64 0, .string ⟨#[]⟩, .bool false, .bool false]).cells (grownCap w n 0 118 - n)) 118)) B (.slice (some ⟨w.heap.size, 0, none⟩) 0 (grownCap w n 0 118)) [] := by
      refine World.ownsRow_made w.drew _ (grownCap w n 0 118) hB hg2 ?_
      rw [Array.size_append, size_zeroCells, size_zeroCells]
      show n * 5 + (grownCap w n 0 118 - n) * 5 = _ * 5
      omega
    have hnx : Below w.heap.size w (w.drew.alloc (.cells (Builtin.zeroCells (Value.agg #[.int .i64 0, .int .i64 0, .string ⟨#[]⟩, .bool false, .bool false]).cells n ++ Builtin.zeroCells (Value.agg #[.int .i64 0, .int .i64 0, .string ⟨#[]⟩, .bool false, .bool false]).cells (grownCap w n 0 118 - n)) 118)) := below_alloc (Below.refl _ w).drew _
    generalize grownCap w n 0 118 = cap at *
    generalize w.drew.alloc (.cells (Builtin.zeroCells (Value.agg #[.int .i64 0, .int .i64 0, .string ⟨#[]⟩, .bool false, .bool false]).cells n ++ Builtin.zeroCells (Value.agg #[.int .i64 0, .int .i64 0, .string ⟨#[]⟩, .bool false, .bool false]).cells (cap - n)) 118) = W at *
    go_enter Tryz.func87, Tryz.ntmps87
    go_wp2_with (at_builtin; refine Lib.wpList_append_run _ rfl _ _ 38 3 rfl _ _ rfl rfl _ _ (hr _) ?_)
    go_wp2
    go_ret
    exact ⟨_, rfl, hown, hnx⟩

set_option maxRecDepth 100000 in
theorem concatUn_any (sb : Nat) (F : Nat → List Un) (A : Nat → Option Addr) (C : Nat → Nat) (w : World) (hcell : ∀ j, j < 2 → w.cell? ⟨sb, j, none⟩ = some (.slice (A j) (F j).length (C j)))
    (hT : ∀ j, j < 2 → unE.Sl w (A j) (F j)) (hc : ∀ j, j < 2 → A j = none → C j = 0) (hl : (catE F 2).length ≤ 1000) (hsb : sb < w.heap.size) :
    Calls Tryz.prog 55 #[.slice (some ⟨sb, 0, none⟩) 2 2] w fun e w' => ∃ A' cap', e = .returned (.slice A' (catE F 2).length cap') ∧ SlV unE w' A' cap' (catE F 2) ∧ Frs w.heap.size A' ∧ Below w.heap.size w w' := by
  have CG := fun n hn => growUn_any w.heap.size n w hn (Nat.le_refl _)
  have hle := fun k h => catE_le F k 2 h
  have HCL := Lib.hid hcell
  have HTT := Lib.hid hT
  have HCC := Lib.hid hc
  clear hcell hT hc
  go_enter Tryz.func55, Tryz.ntmps55
  go_wp2
  go_loop [3, 11] (fun x y => ∃ k : Nat, k ≤ 2 ∧ y = .int .i64 k ∧ x = .int .i64 (catE F k).length) (fun _ y => 2 - (intOf y).toNat)
  case atStart => exact ⟨0, Nat.zero_le _, rfl, rfl⟩
  case round =>
    obtain ⟨k, hk, rfl, rfl⟩ := hrel
    by_cases hlt : k < 2
    · have h1 := HCL.out k hlt
      have h2 := hle (k + 1) hlt
      have h3 : (catE F (k + 1)).length = (catE F k).length + (F k).length := by rw [catE, List.length_append]
      have H3 := Lib.hid h3
      have h4 : (catE F k).length + (F k).length ≤ 1000 := by omega
      generalize (catE F k).length = n at *
      generalize (F k).length = m at *
      clear h3
      go_wp2
      go_round
      case rel => exact ⟨k + 1, by omega, by go_num, by rw [H3.out]; go_num⟩
      case measure => simp [intOf]; omega
    · obtain rfl : k = 2 := by omega
      have CG := CG _ hl
      go_wp2_with fail
      refine CG.mono ?_
      rintro e w1 ⟨v, rfl, hown, hb1⟩
      clear CG
      go_wp2
      go_loopw [6, 27] (fun x y wr => ∃ (k : Nat) (v : Value), k ≤ 2 ∧ y = .int .i64 k ∧ x = v ∧ unE.Own wr w.heap.size v (catE F k) ∧ Below w.heap.size w wr) (fun _ y _ => 2 - (intOf y).toNat)
      case atStart => exact ⟨0, v, Nat.zero_le _, rfl, rfl, hown, hb1⟩
      case round =>
        clear hown hb1
        obtain ⟨k, v, hk, rfl, rfl, hown, hnx⟩ := hrel
        by_cases hlt : k < 2
        · have h1 := HCL.out k hlt
          rw [← (bcell hnx).1 _ _ hsb] at h1
          have h2 := hle (k + 1) hlt
          have h3 : (catE F (k + 1)).length = (catE F k).length + (F k).length := by rw [catE, List.length_append]
          have hTk := (HTT.out k hlt).below hnx
          have hck := HCC.out k hlt
          have hB := hnx.size
          go_wp2_with (at_builtin; refine El.wpList_app unInn rfl _ _ rfl w.heap.size _ (catE F k) (F k) rfl hown (A k) _ (C k) rfl rfl hTk hck (by omega) hB ?_; intro v' w2 hown2 hg2 _)
          go_roundw
          case rel => exact ⟨k + 1, v', by omega, by go_num, rfl, hown2, hnx.grown hg2 hB (fun j hj => (hown).rows j hj)⟩
          case measure => simp [intOf]; omega
        · obtain rfl : k = 2 := by omega
          obtain ⟨A', cap', rfl, hS⟩ := SlV.own hown
          go_wp2
          go_ret
          exact ⟨A', cap', rfl, hS, hown.frs, hnx⟩
end Go.Proofs.YtdcjffajmckleaaGreatDoor

/- Where an operation of a moment stands, and whether it does; a past in new memory; whether each has its undo. -/
namespace Go.Proofs.YtdcjffajmckleaaGreatDoor
open Go.RowKit Tre Cod Pst

set_option maxRecDepth 100000 in
set_option maxHeartbeats 1000000 in
theorem pfind_any (A : Option Addr) (c : Nat) (l : List Mv) (m : Mv) (w : World) (hr : Ris Mv.C Mv.D l) (hl : l.length ≤ 1000) (hT : opE.Sl w A l) :
    Calls Tryz.prog 48 #[.slice A l.length c, .agg #[.int .i64 m.C, .int .i64 m.D]] w fun e w' => e = .returned (.tuple #[.int .i64 (pos Mv.C Mv.D l m), .bool (has Mv.C Mv.D l m)]) ∧ Below w.heap.size w w' := by
  have hB := below_alloc (below_alloc (Below.refl w.heap.size w) (.cells #[.slice A l.length c] 31)) (.cells #[.int .i64 m.C, .int .i64 m.D] 53)
  have hTW := hT.below hB
  have c1 : ((w.alloc (.cells #[.slice A l.length c] 31)).alloc (.cells #[.int .i64 m.C, .int .i64 m.D] 53)).cell? ⟨w.heap.size, 0, none⟩ = some (.slice A l.length c) := by go_simp
  have c2 : ((w.alloc (.cells #[.slice A l.length c] 31)).alloc (.cells #[.int .i64 m.C, .int .i64 m.D] 53)).cell? ⟨w.heap.size + 1, 0, none⟩ = some (.int .i64 m.C) := by go_simp
  have c3 : ((w.alloc (.cells #[.slice A l.length c] 31)).alloc (.cells #[.int .i64 m.C, .int .i64 m.D] 53)).cell? ⟨w.heap.size + 1, 1, none⟩ = some (.int .i64 m.D) := by go_simp
  have hsz : ((w.alloc (.cells #[.slice A l.length c] 31)).alloc (.cells #[.int .i64 m.C, .int .i64 m.D] 53)).heap.size = w.heap.size + 1 + 1 := by rw [alloc_size, alloc_size]
  go_enter Tryz.func48, Tryz.ntmps48
  go_wp2_with fail
  generalize ((w.alloc (.cells #[.slice A l.length c] 31)).alloc (.cells #[.int .i64 m.C, .int .i64 m.D] 53)) = W at *
  obtain ⟨n1, h1⟩ : ∃ n, w.heap.size + 1 = n := ⟨_, rfl⟩
  rw [h1] at c2 c3 ⊢
  obtain ⟨n0, h0⟩ : ∃ n, w.heap.size = n := ⟨_, rfl⟩
  rw [h0] at c1 ⊢
  have hn0 : n0 < W.heap.size := by omega
  have hn1 : n1 < W.heap.size := by omega
  have CS := search1_any l.length n0 n1 (fun i => if h : i < l.length then !befB l[i].C l[i].D m.C m.D else true) W hl
    (fun i j hij hj hpi => by
      rw [dif_pos (show i < l.length by omega)] at hpi
      rw [dif_pos hj]
      by_cases e : i = j
      · subst e; exact hpi
      · have h3 := ris_get hr (show i < l.length by omega) hj (by omega)
        rw [bef_iff] at hpi ⊢
        rw [Bool.not_eq_true', decide_eq_false_iff_not] at hpi ⊢
        exact fun h4 => hpi (bef_trans h3 h4))
    (fun i w' hi hb => by
      have := findAt_any i A c l m.C m.D n0 n1 w' (by rw [(bcell hb).1 _ _ hn0]; exact c1) (by rw [(bcell hb).1 _ _ hn1]; exact c2) (by rw [(bcell hb).1 _ _ hn1]; exact c3) (hTW.below hb) hi hl
      rw [dif_pos hi]; exact this)
  refine CS.mono ?_
  rintro e w1 ⟨k, rfl, hk, hlo, hhi, hb1⟩
  have hpos : k = pos Mv.C Mv.D l m := find_pos hr hk (fun i h hik => by have := hlo i hik; rw [dif_pos h] at this; simpa using this) (fun i h hki => by have := hhi i hki h; rw [dif_pos h] at this; simpa using this)
  have d1 : w1.cell? ⟨n0, 0, none⟩ = some (.slice A l.length c) := by rw [(bcell hb1).1 _ _ hn0]; exact c1
  have d2 : w1.cell? ⟨n1, 0, none⟩ = some (.int .i64 m.C) := by rw [(bcell hb1).1 _ _ hn1]; exact c2
  have d3 : w1.cell? ⟨n1, 1, none⟩ = some (.int .i64 m.D) := by rw [(bcell hb1).1 _ _ hn1]; exact c3
  have hT1 := hTW.below hb1
  have hB1 := hB.trans (hb1.mono (by omega))
  clear CS hlo hhi c1 c2 c3 hTW hB
  by_cases hkl : k < l.length
  · obtain ⟨b, off, rfl, hbw, hc⟩ := hT1 (by omega)
    have hat : opE.At w1 b (off + k * 7) _ := hc k hkl
    obtain ⟨x, hx⟩ : ∃ x, l[k] = x := ⟨_, rfl⟩
    rw [hx] at hat
    have hh := has_at hpos hkl hx
    obtain ⟨t0, t1, t2, t3, t4, t5, t6⟩ := opAt hat
    have HP := Lib.hid hpos
    have HH := Lib.hid hh
    clear hc hat hx t2 t3 t4 t5 t6 hpos hh hr hT hl
    by_cases hs : x.C = m.C ∧ x.D = m.D
    · obtain ⟨e1, e2⟩ := hs
      go_wp2_with fail
      go_region
      all_goals go_wp2
      all_goals go_ret2
      all_goals exact ⟨by rw [← HP.out, HH.out, decide_eq_true ⟨e1, e2⟩]; rfl, hB1.drew⟩
    · have hun : (x.C == m.C) = false ∨ (x.C = m.C ∧ (x.D == m.D) = false) := by
        by_cases e : x.C = m.C
        · right; exact ⟨e, beq_eq_false_iff_ne.2 fun e2 => hs ⟨e, e2⟩⟩
        · left; exact beq_eq_false_iff_ne.2 e
      have HS := Lib.hid hs
      clear hs
      rcases hun with hun | ⟨hun1, hun⟩
      all_goals
        go_wp2_with fail
        go_region
        all_goals go_wp2
        all_goals go_ret2
        all_goals exact ⟨by rw [← HP.out, HH.out, decide_eq_false HS.out]; rfl, hB1.drew⟩
  · obtain rfl : k = l.length := by omega
    have HP := Lib.hid hpos
    have HH := Lib.hid (has_end hpos.symm)
    clear hpos hr hT hl
    go_wp2_with fail
    go_region
    all_goals go_wp2
    all_goals go_ret2
    all_goals exact ⟨by rw [← HP.out, HH.out]; rfl, hB1.drew⟩

theorem even_any (x : Pw) (w : World) (h : x.us.length = x.ops.length) :
    Calls Tryz.prog 49 #[.agg #[.slice x.bA x.base.length x.bc, .int .i64 x.t, .slice x.oA x.ops.length x.oc, .slice x.uA x.us.length x.uc, .slice x.wA x.now.length x.wc]] w fun e w' => e = .returned (.bool true) ∧ Below w.heap.size w w' := by
  obtain ⟨bA, bc, base, t, oA, oc, ops, uA, uc, us, wA, wc, now⟩ := x
  simp only at h
  go_enter Tryz.func49, Tryz.ntmps49
  go_wp2
  go_ret
  exact ⟨by simp [h], below_alloc (Below.refl _ _) _⟩
end Go.Proofs.YtdcjffajmckleaaGreatDoor
