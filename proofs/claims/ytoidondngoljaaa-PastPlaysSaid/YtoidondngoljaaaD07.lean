/- Texts laid one behind the other: Vi, Vj. -/
import Derived.Test.YtoidondngoljaaaD06
/- The document's Add. -/
namespace Go.Proofs.Ytoidondngoljaaa
open Go.RowKit Tre Cod Pst

/-- What stays while the new list of operations is built. -/
structure InsK (W0 : World) (n0 n1 n2 B : Nat) (x : Pw) (m : Mv) (A1 A3 : Option Addr) (L1 L3 : List Mv) (W : World) : Prop where
  P : pwE.In W n0 x
  O : opE.In W n1 m
  R : pwE.In W n2 Pw.zero
  o1 : opE.SlB B W A1 L1
  o3 : opE.SlB B W A3 L3
  bel : Below W0.heap.size W0 W
  sz : B ≤ W.heap.size
  lt : n0 < B ∧ n1 < B ∧ n2 < B ∧ W0.heap.size ≤ B
theorem InsK.grown {W0 W W' : World} {n0 n1 n2 B : Nat} {x : Pw} {m : Mv} {A1 A3 : Option Addr} {L1 L3 : List Mv} {row : Option Nat} (h : InsK W0 n0 n1 n2 B x m A1 A3 L1 L3 W) (hg : W.grownBy W' row) (hrow : ∀ k, row = some k → B ≤ k) : InsK W0 n0 n1 n2 B x m A1 A3 L1 L3 W' := by
  obtain ⟨l0, l1, l2, l3⟩ := h.lt
  exact ⟨h.P.keep hg (fun e => by have := hrow _ e.symm; omega), h.O.keep hg (fun e => by have := hrow _ e.symm; omega), h.R.keep hg (fun e => by have := hrow _ e.symm; omega), h.o1.keep hg hrow, h.o3.keep hg hrow, h.bel.grown hg h.bel.size (fun k e => by have := hrow k e; omega), Nat.le_trans h.sz hg.size, h.lt⟩
theorem InsK.alloc {W0 W : World} {n0 n1 n2 B : Nat} {x : Pw} {m : Mv} {A1 A3 : Option Addr} {L1 L3 : List Mv} (h : InsK W0 n0 n1 n2 B x m A1 A3 L1 L3 W) (o : Obj) : InsK W0 n0 n1 n2 B x m A1 A3 L1 L3 (W.alloc o) :=
  h.grown (World.grownBy_alloc W o none) (fun k e => by cases e)
/-- What the region reads. -/
def InsS (n0 n1 : Nat) (A : Option Addr) (len c : Nat) (m : Mv) (w : World) : Prop := w.cell? ⟨n0, 2, none⟩ = some (.slice A len c) ∧ (w.cell? ⟨n1, 0, none⟩ = some (.int .i64 m.C) ∧ w.cell? ⟨n1, 1, none⟩ = some (.int .i64 m.D) ∧ w.cell? ⟨n1, 2, none⟩ = some (.int .i64 m.I) ∧ w.cell? ⟨n1, 3, none⟩ = some (.int .i64 m.M) ∧ w.cell? ⟨n1, 4, none⟩ = some (.int .i64 m.K) ∧ w.cell? ⟨n1, 5, none⟩ = some (.int .i64 m.U) ∧ w.cell? ⟨n1, 6, none⟩ = some (.string m.s))
theorem InsK.s {W0 W : World} {n0 n1 n2 B : Nat} {x : Pw} {m : Mv} {A1 A3 : Option Addr} {L1 L3 : List Mv} (h : InsK W0 n0 n1 n2 B x m A1 A3 L1 L3 W) : InsS n0 n1 x.oA x.ops.length x.oc m W := ⟨(pwIn5 h.P).2.2.1, opIn7 h.O⟩
theorem addV_late {q : Pv} {m : Mv} (h : m.C ≤ q.t) : addV q m = (q, false) := by unfold addV; rw [if_pos h]
theorem addV_same {q : Pv} {m : Mv} (h : ¬ m.C ≤ q.t) (hh : has Mv.C Mv.D q.ops m = true) : addV q m = (q, false) := by unfold addV; rw [if_neg h, if_pos hh]
theorem addV_new {q : Pv} {m : Mv} (h : ¬ m.C ≤ q.t) (hh : has Mv.C Mv.D q.ops m = false) : addV q m = ({ q with ops := insL Mv.C Mv.D q.ops m, us := (foldL q.base (mvs (insL Mv.C Mv.D q.ops m))).2, now := (foldL q.base (mvs (insL Mv.C Mv.D q.ops m))).1 }, true) := by
  unfold addV; rw [if_neg h, hh]; rfl
theorem insL_eq {l : List Mv} {m : Mv} {k : Nat} (h : k = pos Mv.C Mv.D l m) : insL Mv.C Mv.D l m = (l.take k ++ [m]) ++ l.drop k := by unfold insL; rw [← h]

set_option maxRecDepth 100000 in
set_option maxHeartbeats 4000000 in
theorem refAdd_any (x : Pw) (m : Mv) (w : World) (hx : PastOk w x) (hl : x.base.length + x.ops.length ≤ 890) :
    Calls Try.prog 13 #[.agg #[.slice x.bA x.base.length x.bc, .int .i64 x.t, .slice x.oA x.ops.length x.oc, .slice x.uA x.us.length x.uc, .slice x.wA x.now.length x.wc], .agg #[.int .i64 m.C, .int .i64 m.D, .int .i64 m.I, .int .i64 m.M, .int .i64 m.K, .int .i64 m.U, .string m.s]] w fun e w' => ∃ y : Pw, e = .returned (.tuple #[.agg #[.slice y.bA y.base.length y.bc, .int .i64 y.t, .slice y.oA y.ops.length y.oc, .slice y.uA y.us.length y.uc, .slice y.wA y.now.length y.wc], .bool (addV x.v m).2]) ∧ PastOk w' y ∧ y.v = (addV x.v m).1 ∧ Below w.heap.size w w' := by
  obtain ⟨bA, bc, base, t, oA, oc, ops, uA, uc, us, wA, wc, now⟩ := x
  simp only at hl
  have hv : (⟨bA, bc, base, t, oA, oc, ops, uA, uc, us, wA, wc, now⟩ : Pw).v = ⟨base, t, ops, us, now⟩ := rfl
  have hP : pwE.In (((w.alloc (.cells #[.slice bA base.length bc, .int .i64 t, .slice oA ops.length oc, .slice uA us.length uc, .slice wA now.length wc] 29)).alloc (.cells #[.int .i64 m.C, .int .i64 m.D, .int .i64 m.I, .int .i64 m.M, .int .i64 m.K, .int .i64 m.U, .string m.s] 35)).alloc (.cells #[.slice none 0 0, .int .i64 0, .slice none 0 0, .slice none 0 0, .slice none 0 0] 29)) w.heap.size (⟨bA, bc, base, t, oA, oc, ops, uA, uc, us, wA, wc, now⟩ : Pw) := ((El.In.new (E := pwE) w (⟨bA, bc, base, t, oA, oc, ops, uA, uc, us, wA, wc, now⟩ : Pw) _ rfl).alloc _).alloc _
  have hO : opE.In (((w.alloc (.cells #[.slice bA base.length bc, .int .i64 t, .slice oA ops.length oc, .slice uA us.length uc, .slice wA now.length wc] 29)).alloc (.cells #[.int .i64 m.C, .int .i64 m.D, .int .i64 m.I, .int .i64 m.M, .int .i64 m.K, .int .i64 m.U, .string m.s] 35)).alloc (.cells #[.slice none 0 0, .int .i64 0, .slice none 0 0, .slice none 0 0, .slice none 0 0] 29)) (w.heap.size + 1) m := by
    have h := (El.In.new (E := opE) (w.alloc (.cells #[.slice bA base.length bc, .int .i64 t, .slice oA ops.length oc, .slice uA us.length uc, .slice wA now.length wc] 29)) m #[.int .i64 m.C, .int .i64 m.D, .int .i64 m.I, .int .i64 m.M, .int .i64 m.K, .int .i64 m.U, .string m.s] rfl).alloc (.cells #[.slice none 0 0, .int .i64 0, .slice none 0 0, .slice none 0 0, .slice none 0 0] 29)
    rw [alloc_size] at h; exact h
  have hR : pwE.In (((w.alloc (.cells #[.slice bA base.length bc, .int .i64 t, .slice oA ops.length oc, .slice uA us.length uc, .slice wA now.length wc] 29)).alloc (.cells #[.int .i64 m.C, .int .i64 m.D, .int .i64 m.I, .int .i64 m.M, .int .i64 m.K, .int .i64 m.U, .string m.s] 35)).alloc (.cells #[.slice none 0 0, .int .i64 0, .slice none 0 0, .slice none 0 0, .slice none 0 0] 29)) (w.heap.size + 2) Pw.zero := by
    have h := El.In.new (E := pwE) ((w.alloc (.cells #[.slice bA base.length bc, .int .i64 t, .slice oA ops.length oc, .slice uA us.length uc, .slice wA now.length wc] 29)).alloc (.cells #[.int .i64 m.C, .int .i64 m.D, .int .i64 m.I, .int .i64 m.M, .int .i64 m.K, .int .i64 m.U, .string m.s] 35)) Pw.zero #[.slice none 0 0, .int .i64 0, .slice none 0 0, .slice none 0 0, .slice none 0 0] rfl
    rw [alloc_size, alloc_size] at h; exact h
  have hB := below_alloc (below_alloc (below_alloc (Below.refl w.heap.size w) (.cells #[.slice bA base.length bc, .int .i64 t, .slice oA ops.length oc, .slice uA us.length uc, .slice wA now.length wc] 29)) (.cells #[.int .i64 m.C, .int .i64 m.D, .int .i64 m.I, .int .i64 m.M, .int .i64 m.K, .int .i64 m.U, .string m.s] 35)) (.cells #[.slice none 0 0, .int .i64 0, .slice none 0 0, .slice none 0 0, .slice none 0 0] 29)
  rw [hv]
  clear hv
  by_cases hle : m.C ≤ t
  · have ha : addV ⟨base, t, ops, us, now⟩ m = (⟨base, t, ops, us, now⟩, false) := by unfold addV; rw [if_pos hle]
    rw [ha]
    clear ha
    go_enter Try.func13, Try.ntmps13
    go_wp2_with (first | (refine El.load pwRow rfl _ rfl w.heap.size 0 rfl (⟨bA, bc, base, t, oA, oc, ops, uA, uc, us, wA, wc, now⟩ : Pw) hP.at #[.slice bA base.length bc, .int .i64 t, .slice oA ops.length oc, .slice uA us.length uc, .slice wA now.length wc] rfl ?_) | (refine El.store pwRow rfl _ _ rfl (w.heap.size + 2) (⟨bA, bc, base, t, oA, oc, ops, uA, uc, us, wA, wc, now⟩ : Pw) #[.slice bA base.length bc, .int .i64 t, .slice oA ops.length oc, .slice uA us.length uc, .slice wA now.length wc] rfl rfl rfl Pw.zero hR ?_))
    refine El.ret2 pwRow (hR.set (⟨bA, bc, base, t, oA, oc, ops, uA, uc, us, wA, wc, now⟩ : Pw) #[.slice bA base.length bc, .int .i64 t, .slice oA ops.length oc, .slice uA us.length uc, .slice wA now.length wc] rfl) rfl rfl rfl rfl _ rfl ?_
    exact ⟨(⟨bA, bc, base, t, oA, oc, ops, uA, uc, us, wA, wc, now⟩ : Pw), rfl, hx.below (below_setRow hB (by omega) _), rfl, below_setRow hB (by omega) _⟩
  · have hlt : t < m.C := by omega
    go_enter Try.func13, Try.ntmps13
    go_wp2_with fail
    generalize (((w.alloc (.cells #[.slice bA base.length bc, .int .i64 t, .slice oA ops.length oc, .slice uA us.length uc, .slice wA now.length wc] 29)).alloc (.cells #[.int .i64 m.C, .int .i64 m.D, .int .i64 m.I, .int .i64 m.M, .int .i64 m.K, .int .i64 m.U, .string m.s] 35)).alloc (.cells #[.slice none 0 0, .int .i64 0, .slice none 0 0, .slice none 0 0, .slice none 0 0] 29)) = W at *
    have hBs := hB.size
    obtain ⟨n2, h2⟩ : ∃ n, w.heap.size + 1 + 1 = n := ⟨_, rfl⟩
    rw [h2] at ⊢
    rw [show w.heap.size + 2 = n2 from h2] at hR
    obtain ⟨n1, h1⟩ : ∃ n, w.heap.size + 1 = n := ⟨_, rfl⟩
    rw [h1] at hO ⊢
    obtain ⟨n0, h0⟩ : ∃ n, w.heap.size = n := ⟨_, rfl⟩
    rw [h0] at hP ⊢
    have hx1 := hx.below hB
    rw [h0] at hB
    have hnn : n1 = n0 + 1 ∧ n2 = n0 + 2 ∧ n0 ≤ w.heap.size := by omega
    have HNN := Lib.hid hnn
    have HNW := Lib.hid h0
    have hle9 : ops.length ≤ 890 := by omega
    have hn0W : n0 ≤ W.heap.size := by omega
    have HL9 := Lib.hid hl
    have HL := Lib.hid hx
    clear h0 h1 h2 hnn hx hl
    obtain ⟨hxb, hxo, hxu, hxw⟩ := hx1
    simp only at hxb hxo hxu hxw
    go_loopw [6] (fun k0 wr => ∃ k : Nat, k ≤ ops.length ∧ k0 = .int .i64 k ∧ (∀ i (h : i < ops.length), i < k → bef Mv.C Mv.D ops[i] m) ∧ Below W.heap.size W wr) (fun k0 _ => ops.length - (intOf k0).toNat)
    case atStart => exact ⟨0, Nat.zero_le _, rfl, fun i h hi => by omega, Below.refl _ _⟩
    case round =>
      obtain ⟨k, hk, rfl, hlo, hnx⟩ := hrel
      have hPr := hP.below hnx
      have hOr := hO.below hnx
      by_cases hkl : k < ops.length
      · obtain ⟨b, off, hoA, hbw, hc⟩ := hxo.1 (by omega)
        have hat : opE.At wr b (off + k * 7) ops[k] := (hc k hkl).below hnx hbw
        obtain ⟨mk, hmk⟩ : ∃ mk, ops[k] = mk := ⟨_, rfl⟩
        rw [hmk] at hat
        obtain ⟨t0, t1, t2, t3, t4, t5, t6⟩ := opAt hat
        obtain ⟨p0, p1, p2, p3, p4⟩ := pwIn5 hPr
        obtain ⟨o0, o1, o2, o3, o4, o5, o6⟩ := opIn7 hOr
        have C1 := fun w => refBefore_any mk.C mk.D m.C m.D w
        rw [bef_iff] at C1
        subst hoA
        have k0 := cell_regrown t0
        have k1 := cell_regrown t1
        have k2 := cell_regrown p2
        have k3 := cell_regrown o0
        have k4 := cell_regrown o1
        by_cases hbf : bef Mv.C Mv.D mk m
        · rw [decide_eq_true hbf] at C1
          have HC := Lib.hid C1
          have d1 : ∀ d os, Calls Try.prog 26 #[.agg #[.int .i64 mk.C, .int .i64 mk.D], .agg #[.int .i64 m.C, .int .i64 m.D]] (Sort.grow (redrawn wr d) os) fun e w'' => e = .returned (.bool true) ∧ ∃ p : Regrown, w'' = Sort.grow (redrawn wr p.d) p.os := fun d os => Calls.regrown_of (HC.out _)
          have HBF := Lib.hid hbf
          clear C1 hbf t0 t1 t2 t3 t4 t5 t6 p0 p1 p2 p3 p4 o0 o1 o2 o3 o4 o5 o6
          go_wp2_with fail
          refine wp_region_quiet_below (by kernel_rfl) (by kernel_rfl) ?_
          repeat (go_big_quiet_step ((with_reducible (first | exact d1 _ _))))
          refine wpQuiet_nil ?_
          intro _ hw'
          obtain ⟨⟨dq, osq⟩, hw''⟩ := hw'
          subst hw''
          have hq := below_regrown wr dq osq
          generalize Sort.grow (redrawn wr dq) osq = w2 at *
          have hB2 := below_then hnx hq
          clear k0 k1 k2 k3 k4 d1
          go_wp2_with fail
          go_roundw
          case rel =>
            refine ⟨k + 1, by omega, by go_num, fun i hi hlt2 => ?_, hB2⟩
            by_cases e : i = k
            · subst e; rw [hmk]; exact HBF.out
            · exact hlo i hi (by omega)
          case measure => simp [intOf]; omega
        · rw [decide_eq_false hbf] at C1
          have HC := Lib.hid C1
          have d1 : ∀ d os, Calls Try.prog 26 #[.agg #[.int .i64 mk.C, .int .i64 mk.D], .agg #[.int .i64 m.C, .int .i64 m.D]] (Sort.grow (redrawn wr d) os) fun e w'' => e = .returned (.bool false) ∧ ∃ p : Regrown, w'' = Sort.grow (redrawn wr p.d) p.os := fun d os => Calls.regrown_of (HC.out _)
          have hpos : k = pos Mv.C Mv.D ops m := pos_eq hk hlo (fun h => by rw [hmk]; exact hbf)
          have hhas := has_at hpos hkl hmk
          have HPOS := Lib.hid hpos
          have HHAS := Lib.hid hhas
          clear C1 hbf hpos hhas t0 t1 t2 t3 t4 t5 t6 p0 p1 p2 p3 p4 o0 o1 o2 o3 o4 o5 o6
          go_wp2_with fail
          refine wp_region_quiet_below (by kernel_rfl) (by kernel_rfl) ?_
          repeat (go_big_quiet_step ((with_reducible (first | exact d1 _ _))))
          refine wpQuiet_nil ?_
          intro _ hw'
          obtain ⟨⟨dq, osq⟩, hw''⟩ := hw'
          subst hw''
          have hq := below_regrown wr dq osq
          generalize Sort.grow (redrawn wr dq) osq = w2 at *
          have hB2 := below_then hnx hq
          clear k0 k1 k2 k3 k4 d1
          go_wp2_with fail
          have hP2 := hPr.below hq
          have hO2 := hOr.below hq
          obtain ⟨p0, p1, p2, p3, p4⟩ := pwIn5 hP2
          obtain ⟨o0, o1, o2, o3, o4, o5, o6⟩ := opIn7 hO2
          obtain ⟨t0, t1, t2, t3, t4, t5, t6⟩ := opAt (hat.below hq (Nat.lt_of_lt_of_le hbw hnx.size))
          have k0 := cell_regrown t0
          have k1 := cell_regrown t1
          have k2 := cell_regrown p2
          have k3 := cell_regrown o0
          have k4 := cell_regrown o1
          clear t0 t1 t2 t3 t4 t5 t6 p0 p1 p2 p3 p4 o0 o1 o2 o3 o4 o5 o6
          by_cases hcd : mk.C = m.C ∧ mk.D = m.D
          · obtain ⟨e1, e2⟩ := hcd
            refine wp_region_quiet_below (by kernel_rfl) (by kernel_rfl) ?_
            repeat (go_big_quiet_step (fail))
            refine wpQuiet_nil ?_
            intro _ hw'
            obtain ⟨⟨dq3, osq3⟩, hw3⟩ := hw'
            subst hw3
            have hq3 := below_regrown w2 dq3 osq3
            generalize Sort.grow (redrawn w2 dq3) osq3 = w3 at *
            have hB3 := below_then hB2 hq3
            have hP3 := hP2.below hq3
            have hO3 := hO2.below hq3
            have hR3 := hR.below hB3
            clear k0 k1 k2 k3 k4
            have ha := addV_same (q := ⟨base, t, ops, us, now⟩) (m := m) (show ¬ m.C ≤ t by omega) (by rw [HHAS.out]; exact decide_eq_true ⟨e1, e2⟩)
            have HA := Lib.hid ha
            clear ha e1 e2
            go_wp2_with (first | (refine El.load pwRow rfl _ rfl n0 0 rfl (⟨bA, bc, base, t, some ⟨b, off, none⟩, oc, ops, uA, uc, us, wA, wc, now⟩ : Pw) hP3.at #[.slice bA base.length bc, .int .i64 t, .slice (some ⟨b, off, none⟩) ops.length oc, .slice uA us.length uc, .slice wA now.length wc] rfl ?_) | (refine El.store pwRow rfl _ _ rfl n2 (⟨bA, bc, base, t, some ⟨b, off, none⟩, oc, ops, uA, uc, us, wA, wc, now⟩ : Pw) #[.slice bA base.length bc, .int .i64 t, .slice (some ⟨b, off, none⟩) ops.length oc, .slice uA us.length uc, .slice wA now.length wc] rfl rfl rfl Pw.zero hR3 ?_))
            refine El.ret2 pwRow (v := .bool false) (hR3.set (⟨bA, bc, base, t, some ⟨b, off, none⟩, oc, ops, uA, uc, us, wA, wc, now⟩ : Pw) #[.slice bA base.length bc, .int .i64 t, .slice (some ⟨b, off, none⟩) ops.length oc, .slice uA us.length uc, .slice wA now.length wc] rfl) rfl rfl rfl rfl #[.slice bA base.length bc, .int .i64 t, .slice (some ⟨b, off, none⟩) ops.length oc, .slice uA us.length uc, .slice wA now.length wc] rfl ?_
            have hBw : Below w.heap.size w w3 := by rw [HNW.out]; exact hB.trans (hB3.mono hn0W)
            have hBz : Below w.heap.size w (w3.setRow n2 #[.slice bA base.length bc, .int .i64 t, .slice (some ⟨b, off, none⟩) ops.length oc, .slice uA us.length uc, .slice wA now.length wc]) := below_setRow hBw (by have := HNN.out; have := HNW.out; omega) _
            exact ⟨(⟨bA, bc, base, t, some ⟨b, off, none⟩, oc, ops, uA, uc, us, wA, wc, now⟩ : Pw), by rw [HA.out], HL.out.below hBz, by rw [HA.out]; rfl, hBz⟩
          · have hhf : has Mv.C Mv.D ops m = false := by rw [HHAS.out]; exact decide_eq_false hcd
            have HHF := Lib.hid hhf
            have hun : (mk.C == m.C) = false ∨ (mk.C = m.C ∧ (mk.D == m.D) = false) := by
              by_cases e : mk.C = m.C
              · right; exact ⟨e, beq_eq_false_iff_ne.2 fun e2 => hcd ⟨e, e2⟩⟩
              · left; exact beq_eq_false_iff_ne.2 e
            clear hhf hcd
            rcases hun with hun | ⟨hun0, hun⟩
            · refine wp_region_quiet_below (by kernel_rfl) (by kernel_rfl) ?_
              repeat (go_big_quiet_step (fail))
              refine wpQuiet_nil ?_
              intro _ hw'
              obtain ⟨⟨dq3, osq3⟩, hw3⟩ := hw'
              subst hw3
              have hq3 := below_regrown w2 dq3 osq3
              generalize Sort.grow (redrawn w2 dq3) osq3 = w3 at *
              have hB3 := below_then hB2 hq3
              have hP3 := hP2.below hq3
              have hO3 := hO2.below hq3
              have hR3 := hR.below hB3
              clear k0 k1 k2 k3 k4
              go_wp2_with fail
              have hA3e : ∃ A3 : Option Addr, (if oc = k then (some ⟨b, off, none⟩ : Option Addr) else Option.map (fun x => x.add (k * 7)) (some ⟨b, off, none⟩ : Option Addr)) = A3 := ⟨_, rfl⟩
              obtain ⟨A3, hA3⟩ := hA3e
              have hO3s := (hxo.1.below hB3)
              have ht1 := hO3s.take k
              have ht3 := hO3s.drop (to := k) hxo.2.2 hA3
              have hz1 := hxo.2.1
              have hz3 : A3 = none → oc - k = 0 := El.drop_none hxo.2.1 hA3
              have e1 : (ops.take k).length = k := by rw [List.length_take]; omega
              have e3 : (ops.drop k).length = ops.length - k := List.length_drop
              have hkc : k ≤ oc := Nat.le_trans hk hxo.2.2
              have i0 : (0 : Int) ≤ (k : Int) := by omega
              have i1 : (k : Int) ≤ (oc : Int) := by omega
              have i2 : (k : Int) ≤ (ops.length : Int) := by omega
              have hnv := addV_new (q := ⟨base, t, ops, us, now⟩) (m := m) (show ¬ m.C ≤ t by omega) HHF.out
              rw [insL_eq HPOS.out] at hnv
              have HNV := Lib.hid hnv
              have HE1 := Lib.hid e1
              have HE3 := Lib.hid e3
              generalize hL1 : ops.take k = L1 at *
              generalize hL3 : ops.drop k = L3 at *
              obtain ⟨B, hBe⟩ : ∃ B, w3.heap.size = B := ⟨_, rfl⟩
              have hKV : InsK W n0 n1 n2 B (⟨bA, bc, base, t, some ⟨b, off, none⟩, oc, ops, uA, uc, us, wA, wc, now⟩ : Pw) m (some ⟨b, off, none⟩) A3 L1 L3 w3.drew := ⟨hP3, hO3, hR3, El.SlB.of ht1 (Nat.le_of_eq hBe), El.SlB.of ht3 (Nat.le_of_eq hBe), hB3.drew, Nat.le_of_eq hBe.symm, by have := hP3.lt; have := hO3.lt; have := hR3.lt; have := hB3.size; omega⟩
              have hBd : w3.drew.heap.size = B := hBe
              have HL890 : L1.length + L3.length + 1 ≤ 891 := by have := HE1.out; have := HE3.out; omega
              clear e1 e3 hnv hL1 hL3 ht1 ht3 hO3s hP3 hO3 hR3 hBe
              refine region_anyG (S := InsS n0 n1 (some ⟨b, off, none⟩) ops.length oc m) 15 (by kernel_rfl) ?_
              generalize w3.drew = V at *
              have hA3s := hA3
              simp only [Option.map_some, Addr.add_lit] at hA3s
              have hS := hKV.s
              simp only at hS
              refine anyG_take (i := 1) (v := .pointer (some ⟨n0, 2, none⟩)) rfl (by kernel_rfl) (by kernel_rfl) (by kernel_rfl) (by kernel_rfl) (by kernel_rfl) (fun _ _ _ h => h) (Or.inl ⟨by rfl, fun w' hSw => by (obtain ⟨s0, s1, s2, s3, s4, s5, s6, s7⟩ := hSw; go_simp)⟩) hS ?_
              try simp only [Act.put, List.setIfInBounds_toArray, List.set_cons_zero, List.set_cons_succ]
              refine anyG_take (i := 2) (v := .slice (some ⟨b, off, none⟩) ops.length oc) rfl (by kernel_rfl) (by kernel_rfl) (by kernel_rfl) (by kernel_rfl) (by kernel_rfl) (fun _ _ _ h => h) (Or.inl ⟨by rfl, fun w' hSw => by (obtain ⟨s0, s1, s2, s3, s4, s5, s6, s7⟩ := hSw; go_simp)⟩) hS ?_
              try simp only [Act.put, List.setIfInBounds_toArray, List.set_cons_zero, List.set_cons_succ]
              refine anyG_take (i := 3) (v := .int .i64 k) rfl (by kernel_rfl) (by kernel_rfl) (by kernel_rfl) (by kernel_rfl) (by kernel_rfl) (fun _ _ _ h => h) (Or.inl ⟨by rfl, fun w' hSw => by (obtain ⟨s0, s1, s2, s3, s4, s5, s6, s7⟩ := hSw; go_simp)⟩) hS ?_
              try simp only [Act.put, List.setIfInBounds_toArray, List.set_cons_zero, List.set_cons_succ]
              refine anyG_take (i := 4) (v := .slice (some ⟨b, off, none⟩) k oc) rfl (by kernel_rfl) (by kernel_rfl) (by kernel_rfl) (by kernel_rfl) (by kernel_rfl) (fun _ _ _ h => h) (Or.inl ⟨by rfl, fun w' hSw => by (obtain ⟨s0, s1, s2, s3, s4, s5, s6, s7⟩ := hSw; go_simp)⟩) hS ?_
              try simp only [Act.put, List.setIfInBounds_toArray, List.set_cons_zero, List.set_cons_succ]
              refine anyG_take (i := 6) (v := .agg #[.int .i64 m.C, .int .i64 m.D, .int .i64 m.I, .int .i64 m.M, .int .i64 m.K, .int .i64 m.U, .string m.s]) rfl (by kernel_rfl) (by kernel_rfl) (by kernel_rfl) (by kernel_rfl) (by kernel_rfl) (fun _ _ _ h => h) (Or.inl ⟨by rfl, fun w' hSw => by (obtain ⟨s0, s1, s2, s3, s4, s5, s6, s7⟩ := hSw; go_simp)⟩) hS ?_
              try simp only [Act.put, List.setIfInBounds_toArray, List.set_cons_zero, List.set_cons_succ]
              refine anyG_take (i := 9) (v := .pointer (some ⟨n0, 2, none⟩)) rfl (by kernel_rfl) (by kernel_rfl) (by kernel_rfl) (by kernel_rfl) (by kernel_rfl) (fun _ _ _ h => h) (Or.inl ⟨by rfl, fun w' hSw => by (obtain ⟨s0, s1, s2, s3, s4, s5, s6, s7⟩ := hSw; go_simp)⟩) hS ?_
              try simp only [Act.put, List.setIfInBounds_toArray, List.set_cons_zero, List.set_cons_succ]
              refine anyG_take (i := 10) (v := .slice (some ⟨b, off, none⟩) ops.length oc) rfl (by kernel_rfl) (by kernel_rfl) (by kernel_rfl) (by kernel_rfl) (by kernel_rfl) (fun _ _ _ h => h) (Or.inl ⟨by rfl, fun w' hSw => by (obtain ⟨s0, s1, s2, s3, s4, s5, s6, s7⟩ := hSw; go_simp)⟩) hS ?_
              try simp only [Act.put, List.setIfInBounds_toArray, List.set_cons_zero, List.set_cons_succ]
              refine anyG_take (i := 11) (v := .int .i64 k) rfl (by kernel_rfl) (by kernel_rfl) (by kernel_rfl) (by kernel_rfl) (by kernel_rfl) (fun _ _ _ h => h) (Or.inl ⟨by rfl, fun w' hSw => by (obtain ⟨s0, s1, s2, s3, s4, s5, s6, s7⟩ := hSw; go_simp)⟩) hS ?_
              try simp only [Act.put, List.setIfInBounds_toArray, List.set_cons_zero, List.set_cons_succ]
              refine anyG_take (i := 12) (v := .slice A3 (ops.length - k) (oc - k)) rfl (by kernel_rfl) (by kernel_rfl) (by kernel_rfl) (by kernel_rfl) (by kernel_rfl) (fun _ _ _ h => h) (Or.inl ⟨by rfl, fun w' hSw => by (obtain ⟨s0, s1, s2, s3, s4, s5, s6, s7⟩ := hSw; go_simp)⟩) hS ?_
              try simp only [Act.put, List.setIfInBounds_toArray, List.set_cons_zero, List.set_cons_succ]
              refine anyG_step (rs := [0, 7]) (by kernel_rfl) (by simp) ?_
              refine AllG.cons rfl (fun K hK => ?_) (AllG.cons rfl (fun K hK => ?_) AllG.nil)
              · have hK1 := hKV.alloc (.cells #[] 35)
                go_simp
                refine hK.out _ _ hK1.s ?_
                try simp only [Act.put, List.setIfInBounds_toArray, List.set_cons_zero, List.set_cons_succ]
                have own1 : opE.Own (V.alloc (.cells #[] 35)) B (.slice (some ⟨B, 0, none⟩) 0 0) [] := by
                  have h := El.Own.empty (E := opE) V B (by omega)
                  rw [hBd] at h; exact h
                have hsz1 : (V.alloc (.cells #[] 35)).heap.size = B + 1 := by rw [alloc_size, hBd]
                refine anyG_step (rs := [5, 7]) (by kernel_rfl) (by simp) ?_
                refine AllG.cons rfl (fun K hK => ?_) (AllG.cons rfl (fun K hK => ?_) AllG.nil)
                · refine El.step_app opInn rfl (.tmp 49) (.tmp 53) rfl B _ [] L1 rfl own1 (some ⟨b, off, none⟩) k oc rfl HE1.out (hK1.o1.sl hK1.sz) hz1 (by simp; omega) hK1.sz ?_
                  intro v1 W1 own2 hg1 hat1
                  have own2 : opE.Own W1 B v1 L1 := own2
                  have hK2 := hK1.grown hg1 (own1).rows
                  clear hat1
                  refine hK.out _ _ hK2.s ?_
                  try simp only [Act.put, List.setIfInBounds_toArray, List.set_cons_zero, List.set_cons_succ]
                  refine anyG_step (rs := [7]) (by kernel_rfl) (by simp) ?_
                  refine AllG.cons rfl (fun K hK => ?_) AllG.nil
                  have hK3 := hK2.alloc (.cells #[.int .i64 m.C, .int .i64 m.D, .int .i64 m.I, .int .i64 m.M, .int .i64 m.K, .int .i64 m.U, .string m.s] 35)
                  go_simp
                  refine hK.out _ _ hK3.s ?_
                  try simp only [Act.put, List.setIfInBounds_toArray, List.set_cons_zero, List.set_cons_succ]
                  have own3 := own2.below (below_alloc (Below.refl _ W1) (.cells #[.int .i64 m.C, .int .i64 m.D, .int .i64 m.I, .int .i64 m.M, .int .i64 m.K, .int .i64 m.U, .string m.s] 35))
                  have one3 : opE.Sl (W1.alloc (.cells #[.int .i64 m.C, .int .i64 m.D, .int .i64 m.I, .int .i64 m.M, .int .i64 m.K, .int .i64 m.U, .string m.s] 35)) (some ⟨W1.heap.size, 0, none⟩) [m] := (El.In.new (E := opE) W1 m #[.int .i64 m.C, .int .i64 m.D, .int .i64 m.I, .int .i64 m.M, .int .i64 m.K, .int .i64 m.U, .string m.s] rfl).sl
                  refine anyG_step (rs := [8]) (by kernel_rfl) (by simp) ?_
                  refine AllG.cons rfl (fun K hK => ?_) AllG.nil
                  refine El.step_app opInn rfl (.tmp 54) (.tmp 56) rfl B _ L1 [m] rfl own3 (some ⟨W1.heap.size, 0, none⟩) 1 1 rfl rfl one3 (fun e => by cases e) (by simp; omega) hK3.sz ?_
                  intro v2 W2 own4 hg2 hat2
                  have hK4 := hK3.grown hg2 (own3).rows
                  clear hat2
                  refine hK.out _ _ hK4.s ?_
                  try simp only [Act.put, List.setIfInBounds_toArray, List.set_cons_zero, List.set_cons_succ]
                  refine anyG_step (rs := [13]) (by kernel_rfl) (by simp) ?_
                  refine AllG.cons rfl (fun K hK => ?_) AllG.nil
                  refine El.step_app opInn rfl (.tmp 57) (.tmp 61) rfl B _ (L1 ++ [m]) L3 rfl own4 A3 (ops.length - k) (oc - k) rfl HE3.out (hK4.o3.sl hK4.sz) hz3 (by rw [List.length_append, List.length_singleton]; omega) hK4.sz ?_
                  intro v3 W3 ownF hg3 hat3
                  have hKF := hK4.grown hg3 (own4).rows
                  clear hat3
                  refine hK.out _ _ hKF.s ?_
                  try simp only [Act.put, List.setIfInBounds_toArray, List.set_cons_zero, List.set_cons_succ]
                  obtain ⟨A', c', rfl, hSn⟩ := SlV.own ownF
                  have hfr := ownF.frs
                  have hLL : ((L1 ++ [m]) ++ L3).length ≤ ops.length + 1 := by rw [List.length_append, List.length_append, List.length_singleton, HE1.out, HE3.out]; omega
                  generalize (L1 ++ [m]) ++ L3 = L at *
                  have hS := hKF.s
                  simp only at hS
                  refine anyG_take (i := 14) (v := .pointer (some ⟨n0, 2, none⟩)) rfl (by kernel_rfl) (by kernel_rfl) (by kernel_rfl) (by kernel_rfl) (by kernel_rfl) (fun _ _ _ h => h) (Or.inl ⟨by rfl, fun w' hSw => by (obtain ⟨s0, s1, s2, s3, s4, s5, s6, s7⟩ := hSw; go_simp)⟩) hS ?_
                  try simp only [Act.put, List.setIfInBounds_toArray, List.set_cons_zero, List.set_cons_succ]
                  refine anyG_step (rs := [15]) (by kernel_rfl) (by simp) ?_
                  refine AllG.last (n := 15) rfl (fun K hK => ?_)
                  obtain ⟨p0, p1, p2, p3, p4⟩ := pwIn5 hKF.P
                  have pf := hKF.P.frozen
                  go_simp
                  refine hK.out _ _ ?_
                  try simp only [Act.put, List.setIfInBounds_toArray, List.set_cons_zero, List.set_cons_succ]
                  refine anyG_done (by kernel_rfl) ?_ _
                  have hlt4 := hKF.lt
                  have hn20 : n2 ≠ n0 := by have := HNN.out; omega
                  have hP7 := hKF.P.put ⟨bA, bc, base, t, A', c', L, uA, uc, us, wA, wc, now⟩ 2 (.slice A' L.length c') rfl
                  have hR7 := hKF.R.other n0 2 (.slice A' L.length c') hn20
                  have hg7 := by_cell W3 n0 2 (.slice A' L.length c')
                  have hS7 := hSn.keep hfr hg7 hlt4.1
                  have hB6 : Below w.heap.size w W3 := by rw [HNW.out]; exact hB.trans (hKF.bel.mono hn0W)
                  have hB7 := hB6.grown hg7 hB6.size (fun j e => by have := Option.some.inj e; have := HNW.out; omega)
                  have hb7 := (HL.out.below hB7).b
                  simp only at hb7
                  have CF := mvRefFold_any bA bc base A' c' L _ (by have := HL9.out; omega) hb7 hS7.1
                  generalize W3.setCell ⟨n0, 2, none⟩ (.slice A' L.length c') = W7 at *
                  clear p0 p1 p2 p3 p4 pf hK hKF hS hSn ownF
                  obtain ⟨r0, r1, r2, r3, r4⟩ := pwIn5 hP7
                  go_wp2_with fail
                  refine CF.mono ?_
                  rintro e W8 ⟨A5, c5, U5, uc5, rfl, hF1, hF2, hfr1, hfr2, hb8⟩
                  clear CF r0 r1 r2 r3 r4
                  have hP8 := hP7.below hb8
                  have hR8 := hR7.below hb8
                  have hS8 := hS7.below hb8
                  have hl0 := hP7.lt
                  have hl2 := hR7.lt
                  generalize (foldL base (mvs L)).1 = now1 at *
                  generalize (foldL base (mvs L)).2 = us1 at *
                  obtain ⟨r0, r1, r2, r3, r4⟩ := pwIn5 hP8
                  have pf8 := hP8.frozen
                  have hP10 := (hP8.put ⟨bA, bc, base, t, A', c', L, uA, uc, us, A5, c5, now1⟩ 4 (.slice A5 now1.length c5) rfl).put ⟨bA, bc, base, t, A', c', L, U5, uc5, us1, A5, c5, now1⟩ 3 (.slice U5 us1.length uc5) rfl
                  have hR10 := (hR8.other n0 4 (.slice A5 now1.length c5) hn20).other n0 3 (.slice U5 us1.length uc5) hn20
                  have hg10 := by_cell2 (by_cell W8 n0 4 (.slice A5 now1.length c5)) 3 (.slice U5 us1.length uc5)
                  go_wp2_with (first | (refine El.load pwRow rfl _ rfl n0 0 rfl ⟨bA, bc, base, t, A', c', L, U5, uc5, us1, A5, c5, now1⟩ hP10.at #[.slice bA base.length bc, .int .i64 t, .slice A' L.length c', .slice U5 us1.length uc5, .slice A5 now1.length c5] rfl ?_) | (refine El.store pwRow rfl _ _ rfl n2 ⟨bA, bc, base, t, A', c', L, U5, uc5, us1, A5, c5, now1⟩ #[.slice bA base.length bc, .int .i64 t, .slice A' L.length c', .slice U5 us1.length uc5, .slice A5 now1.length c5] rfl rfl rfl Pw.zero hR10 ?_))
                  refine El.ret2 pwRow (v := .bool true) (hR10.set ⟨bA, bc, base, t, A', c', L, U5, uc5, us1, A5, c5, now1⟩ #[.slice bA base.length bc, .int .i64 t, .slice A' L.length c', .slice U5 us1.length uc5, .slice A5 now1.length c5] rfl) rfl rfl rfl rfl #[.slice bA base.length bc, .int .i64 t, .slice A' L.length c', .slice U5 us1.length uc5, .slice A5 now1.length c5] rfl ?_
                  have hw0 : w.heap.size ≤ n0 ∧ w.heap.size ≤ n2 := by have := HNN.out; have := HNW.out; omega
                  have hB8 := below_then hB7 hb8
                  have hB10 := hB8.grown hg10 hB8.size (fun j e => by have := Option.some.inj e; omega)
                  have hBz := below_setRow hB10 hw0.2 #[.slice bA base.length bc, .int .i64 t, .slice A' L.length c', .slice U5 us1.length uc5, .slice A5 now1.length c5]
                  have hgz := fun W => by_row W n2 #[.slice bA base.length bc, .int .i64 t, .slice A' L.length c', .slice U5 us1.length uc5, .slice A5 now1.length c5]
                  exact ⟨⟨bA, bc, base, t, A', c', L, U5, uc5, us1, A5, c5, now1⟩, by rw [HNV.out], ⟨(HL.out.below hBz).b, (hS8.keep hfr hg10 hlt4.1).keep hfr (hgz _) hlt4.2.2.1, (hF2.keep hfr2 hg10 hl0).keep hfr2 (hgz _) hl2, (hF1.keep hfr1 hg10 hl0).keep hfr1 (hgz _) hl2⟩, by rw [HNV.out]; rfl, hBz⟩
                · have hK2 := hK1.alloc (.cells #[.int .i64 m.C, .int .i64 m.D, .int .i64 m.I, .int .i64 m.M, .int .i64 m.K, .int .i64 m.U, .string m.s] 35)
                  go_simp
                  refine hK.out _ _ hK2.s ?_
                  try simp only [Act.put, List.setIfInBounds_toArray, List.set_cons_zero, List.set_cons_succ]
                  have own2 := own1.below (below_alloc (Below.refl _ (V.alloc (.cells #[] 35))) (.cells #[.int .i64 m.C, .int .i64 m.D, .int .i64 m.I, .int .i64 m.M, .int .i64 m.K, .int .i64 m.U, .string m.s] 35))
                  have one2 : opE.Sl ((V.alloc (.cells #[] 35)).alloc (.cells #[.int .i64 m.C, .int .i64 m.D, .int .i64 m.I, .int .i64 m.M, .int .i64 m.K, .int .i64 m.U, .string m.s] 35)) (some ⟨B + 1, 0, none⟩) [m] := by
                    have h := (El.In.new (E := opE) (V.alloc (.cells #[] 35)) m #[.int .i64 m.C, .int .i64 m.D, .int .i64 m.I, .int .i64 m.M, .int .i64 m.K, .int .i64 m.U, .string m.s] rfl).sl
                    rw [hsz1] at h; exact h
                  refine anyG_step (rs := [5]) (by kernel_rfl) (by simp) ?_
                  refine AllG.cons rfl (fun K hK => ?_) AllG.nil
                  refine El.step_app opInn rfl (.tmp 49) (.tmp 53) rfl B _ [] L1 rfl own2 (some ⟨b, off, none⟩) k oc rfl HE1.out (hK2.o1.sl hK2.sz) hz1 (by simp; omega) hK2.sz ?_
                  intro v1 W1 own3 hg1 hat1
                  have own3 : opE.Own W1 B v1 L1 := own3
                  have hK3 := hK2.grown hg1 (own2).rows
                  have one3 := one2.keep1 hg1 (fun e => by have e : some (B + 1) = some B := e; have := Option.some.inj e; omega)
                  clear hat1
                  refine hK.out _ _ hK3.s ?_
                  try simp only [Act.put, List.setIfInBounds_toArray, List.set_cons_zero, List.set_cons_succ]
                  refine anyG_step (rs := [8]) (by kernel_rfl) (by simp) ?_
                  refine AllG.cons rfl (fun K hK => ?_) AllG.nil
                  refine El.step_app opInn rfl (.tmp 54) (.tmp 56) rfl B _ L1 [m] rfl own3 (some ⟨B + 1, 0, none⟩) 1 1 rfl rfl one3 (fun e => by cases e) (by simp; omega) hK3.sz ?_
                  intro v2 W2 own4 hg2 hat2
                  have hK4 := hK3.grown hg2 (own3).rows
                  clear hat2
                  refine hK.out _ _ hK4.s ?_
                  try simp only [Act.put, List.setIfInBounds_toArray, List.set_cons_zero, List.set_cons_succ]
                  refine anyG_step (rs := [13]) (by kernel_rfl) (by simp) ?_
                  refine AllG.cons rfl (fun K hK => ?_) AllG.nil
                  refine El.step_app opInn rfl (.tmp 57) (.tmp 61) rfl B _ (L1 ++ [m]) L3 rfl own4 A3 (ops.length - k) (oc - k) rfl HE3.out (hK4.o3.sl hK4.sz) hz3 (by rw [List.length_append, List.length_singleton]; omega) hK4.sz ?_
                  intro v3 W3 ownF hg3 hat3
                  have hKF := hK4.grown hg3 (own4).rows
                  clear hat3
                  refine hK.out _ _ hKF.s ?_
                  try simp only [Act.put, List.setIfInBounds_toArray, List.set_cons_zero, List.set_cons_succ]
                  obtain ⟨A', c', rfl, hSn⟩ := SlV.own ownF
                  have hfr := ownF.frs
                  have hLL : ((L1 ++ [m]) ++ L3).length ≤ ops.length + 1 := by rw [List.length_append, List.length_append, List.length_singleton, HE1.out, HE3.out]; omega
                  generalize (L1 ++ [m]) ++ L3 = L at *
                  have hS := hKF.s
                  simp only at hS
                  refine anyG_take (i := 14) (v := .pointer (some ⟨n0, 2, none⟩)) rfl (by kernel_rfl) (by kernel_rfl) (by kernel_rfl) (by kernel_rfl) (by kernel_rfl) (fun _ _ _ h => h) (Or.inl ⟨by rfl, fun w' hSw => by (obtain ⟨s0, s1, s2, s3, s4, s5, s6, s7⟩ := hSw; go_simp)⟩) hS ?_
                  try simp only [Act.put, List.setIfInBounds_toArray, List.set_cons_zero, List.set_cons_succ]
                  refine anyG_step (rs := [15]) (by kernel_rfl) (by simp) ?_
                  refine AllG.last (n := 15) rfl (fun K hK => ?_)
                  obtain ⟨p0, p1, p2, p3, p4⟩ := pwIn5 hKF.P
                  have pf := hKF.P.frozen
                  go_simp
                  refine hK.out _ _ ?_
                  try simp only [Act.put, List.setIfInBounds_toArray, List.set_cons_zero, List.set_cons_succ]
                  refine anyG_done (by kernel_rfl) ?_ _
                  have hlt4 := hKF.lt
                  have hn20 : n2 ≠ n0 := by have := HNN.out; omega
                  have hP7 := hKF.P.put ⟨bA, bc, base, t, A', c', L, uA, uc, us, wA, wc, now⟩ 2 (.slice A' L.length c') rfl
                  have hR7 := hKF.R.other n0 2 (.slice A' L.length c') hn20
                  have hg7 := by_cell W3 n0 2 (.slice A' L.length c')
                  have hS7 := hSn.keep hfr hg7 hlt4.1
                  have hB6 : Below w.heap.size w W3 := by rw [HNW.out]; exact hB.trans (hKF.bel.mono hn0W)
                  have hB7 := hB6.grown hg7 hB6.size (fun j e => by have := Option.some.inj e; have := HNW.out; omega)
                  have hb7 := (HL.out.below hB7).b
                  simp only at hb7
                  have CF := mvRefFold_any bA bc base A' c' L _ (by have := HL9.out; omega) hb7 hS7.1
                  generalize W3.setCell ⟨n0, 2, none⟩ (.slice A' L.length c') = W7 at *
                  clear p0 p1 p2 p3 p4 pf hK hKF hS hSn ownF
                  obtain ⟨r0, r1, r2, r3, r4⟩ := pwIn5 hP7
                  go_wp2_with fail
                  refine CF.mono ?_
                  rintro e W8 ⟨A5, c5, U5, uc5, rfl, hF1, hF2, hfr1, hfr2, hb8⟩
                  clear CF r0 r1 r2 r3 r4
                  have hP8 := hP7.below hb8
                  have hR8 := hR7.below hb8
                  have hS8 := hS7.below hb8
                  have hl0 := hP7.lt
                  have hl2 := hR7.lt
                  generalize (foldL base (mvs L)).1 = now1 at *
                  generalize (foldL base (mvs L)).2 = us1 at *
                  obtain ⟨r0, r1, r2, r3, r4⟩ := pwIn5 hP8
                  have pf8 := hP8.frozen
                  have hP10 := (hP8.put ⟨bA, bc, base, t, A', c', L, uA, uc, us, A5, c5, now1⟩ 4 (.slice A5 now1.length c5) rfl).put ⟨bA, bc, base, t, A', c', L, U5, uc5, us1, A5, c5, now1⟩ 3 (.slice U5 us1.length uc5) rfl
                  have hR10 := (hR8.other n0 4 (.slice A5 now1.length c5) hn20).other n0 3 (.slice U5 us1.length uc5) hn20
                  have hg10 := by_cell2 (by_cell W8 n0 4 (.slice A5 now1.length c5)) 3 (.slice U5 us1.length uc5)
                  go_wp2_with (first | (refine El.load pwRow rfl _ rfl n0 0 rfl ⟨bA, bc, base, t, A', c', L, U5, uc5, us1, A5, c5, now1⟩ hP10.at #[.slice bA base.length bc, .int .i64 t, .slice A' L.length c', .slice U5 us1.length uc5, .slice A5 now1.length c5] rfl ?_) | (refine El.store pwRow rfl _ _ rfl n2 ⟨bA, bc, base, t, A', c', L, U5, uc5, us1, A5, c5, now1⟩ #[.slice bA base.length bc, .int .i64 t, .slice A' L.length c', .slice U5 us1.length uc5, .slice A5 now1.length c5] rfl rfl rfl Pw.zero hR10 ?_))
                  refine El.ret2 pwRow (v := .bool true) (hR10.set ⟨bA, bc, base, t, A', c', L, U5, uc5, us1, A5, c5, now1⟩ #[.slice bA base.length bc, .int .i64 t, .slice A' L.length c', .slice U5 us1.length uc5, .slice A5 now1.length c5] rfl) rfl rfl rfl rfl #[.slice bA base.length bc, .int .i64 t, .slice A' L.length c', .slice U5 us1.length uc5, .slice A5 now1.length c5] rfl ?_
                  have hw0 : w.heap.size ≤ n0 ∧ w.heap.size ≤ n2 := by have := HNN.out; have := HNW.out; omega
                  have hB8 := below_then hB7 hb8
                  have hB10 := hB8.grown hg10 hB8.size (fun j e => by have := Option.some.inj e; omega)
                  have hBz := below_setRow hB10 hw0.2 #[.slice bA base.length bc, .int .i64 t, .slice A' L.length c', .slice U5 us1.length uc5, .slice A5 now1.length c5]
                  have hgz := fun W => by_row W n2 #[.slice bA base.length bc, .int .i64 t, .slice A' L.length c', .slice U5 us1.length uc5, .slice A5 now1.length c5]
                  exact ⟨⟨bA, bc, base, t, A', c', L, U5, uc5, us1, A5, c5, now1⟩, by rw [HNV.out], ⟨(HL.out.below hBz).b, (hS8.keep hfr hg10 hlt4.1).keep hfr (hgz _) hlt4.2.2.1, (hF2.keep hfr2 hg10 hl0).keep hfr2 (hgz _) hl2, (hF1.keep hfr1 hg10 hl0).keep hfr1 (hgz _) hl2⟩, by rw [HNV.out]; rfl, hBz⟩
              · have hK1 := hKV.alloc (.cells #[.int .i64 m.C, .int .i64 m.D, .int .i64 m.I, .int .i64 m.M, .int .i64 m.K, .int .i64 m.U, .string m.s] 35)
                go_simp
                refine hK.out _ _ hK1.s ?_
                try simp only [Act.put, List.setIfInBounds_toArray, List.set_cons_zero, List.set_cons_succ]
                have one1 : opE.Sl (V.alloc (.cells #[.int .i64 m.C, .int .i64 m.D, .int .i64 m.I, .int .i64 m.M, .int .i64 m.K, .int .i64 m.U, .string m.s] 35)) (some ⟨B, 0, none⟩) [m] := by
                  have h := (El.In.new (E := opE) V m #[.int .i64 m.C, .int .i64 m.D, .int .i64 m.I, .int .i64 m.M, .int .i64 m.K, .int .i64 m.U, .string m.s] rfl).sl
                  rw [hBd] at h; exact h
                have hsz1 : (V.alloc (.cells #[.int .i64 m.C, .int .i64 m.D, .int .i64 m.I, .int .i64 m.M, .int .i64 m.K, .int .i64 m.U, .string m.s] 35)).heap.size = B + 1 := by rw [alloc_size, hBd]
                refine anyG_step (rs := [0]) (by kernel_rfl) (by simp) ?_
                refine AllG.cons rfl (fun K hK => ?_) AllG.nil
                have hK2 := hK1.alloc (.cells #[] 35)
                go_simp
                refine hK.out _ _ hK2.s ?_
                try simp only [Act.put, List.setIfInBounds_toArray, List.set_cons_zero, List.set_cons_succ]
                have own2 : opE.Own ((V.alloc (.cells #[.int .i64 m.C, .int .i64 m.D, .int .i64 m.I, .int .i64 m.M, .int .i64 m.K, .int .i64 m.U, .string m.s] 35)).alloc (.cells #[] 35)) B (.slice (some ⟨B + 1, 0, none⟩) 0 0) [] := by
                  have h := El.Own.empty (E := opE) (V.alloc (.cells #[.int .i64 m.C, .int .i64 m.D, .int .i64 m.I, .int .i64 m.M, .int .i64 m.K, .int .i64 m.U, .string m.s] 35)) B (by omega)
                  rw [hsz1] at h; exact h
                have one2 := one1.below (below_alloc (Below.refl _ (V.alloc (.cells #[.int .i64 m.C, .int .i64 m.D, .int .i64 m.I, .int .i64 m.M, .int .i64 m.K, .int .i64 m.U, .string m.s] 35))) (.cells #[] 35))
                refine anyG_step (rs := [5]) (by kernel_rfl) (by simp) ?_
                refine AllG.cons rfl (fun K hK => ?_) AllG.nil
                refine El.step_app opInn rfl (.tmp 49) (.tmp 53) rfl B _ [] L1 rfl own2 (some ⟨b, off, none⟩) k oc rfl HE1.out (hK2.o1.sl hK2.sz) hz1 (by simp; omega) hK2.sz ?_
                intro v1 W1 own3 hg1 hat1
                have own3 : opE.Own W1 B v1 L1 := own3
                have hK3 := hK2.grown hg1 (own2).rows
                have one3 := one2.keep1 hg1 (fun e => by have e : some B = some (B + 1) := e; have := Option.some.inj e; omega)
                clear hat1
                refine hK.out _ _ hK3.s ?_
                try simp only [Act.put, List.setIfInBounds_toArray, List.set_cons_zero, List.set_cons_succ]
                refine anyG_step (rs := [8]) (by kernel_rfl) (by simp) ?_
                refine AllG.cons rfl (fun K hK => ?_) AllG.nil
                refine El.step_app opInn rfl (.tmp 54) (.tmp 56) rfl B _ L1 [m] rfl own3 (some ⟨B, 0, none⟩) 1 1 rfl rfl one3 (fun e => by cases e) (by simp; omega) hK3.sz ?_
                intro v2 W2 own4 hg2 hat2
                have hK4 := hK3.grown hg2 (own3).rows
                clear hat2
                refine hK.out _ _ hK4.s ?_
                try simp only [Act.put, List.setIfInBounds_toArray, List.set_cons_zero, List.set_cons_succ]
                refine anyG_step (rs := [13]) (by kernel_rfl) (by simp) ?_
                refine AllG.cons rfl (fun K hK => ?_) AllG.nil
                refine El.step_app opInn rfl (.tmp 57) (.tmp 61) rfl B _ (L1 ++ [m]) L3 rfl own4 A3 (ops.length - k) (oc - k) rfl HE3.out (hK4.o3.sl hK4.sz) hz3 (by rw [List.length_append, List.length_singleton]; omega) hK4.sz ?_
                intro v3 W3 ownF hg3 hat3
                have hKF := hK4.grown hg3 (own4).rows
                clear hat3
                refine hK.out _ _ hKF.s ?_
                try simp only [Act.put, List.setIfInBounds_toArray, List.set_cons_zero, List.set_cons_succ]
                obtain ⟨A', c', rfl, hSn⟩ := SlV.own ownF
                have hfr := ownF.frs
                have hLL : ((L1 ++ [m]) ++ L3).length ≤ ops.length + 1 := by rw [List.length_append, List.length_append, List.length_singleton, HE1.out, HE3.out]; omega
                generalize (L1 ++ [m]) ++ L3 = L at *
                have hS := hKF.s
                simp only at hS
                refine anyG_take (i := 14) (v := .pointer (some ⟨n0, 2, none⟩)) rfl (by kernel_rfl) (by kernel_rfl) (by kernel_rfl) (by kernel_rfl) (by kernel_rfl) (fun _ _ _ h => h) (Or.inl ⟨by rfl, fun w' hSw => by (obtain ⟨s0, s1, s2, s3, s4, s5, s6, s7⟩ := hSw; go_simp)⟩) hS ?_
                try simp only [Act.put, List.setIfInBounds_toArray, List.set_cons_zero, List.set_cons_succ]
                refine anyG_step (rs := [15]) (by kernel_rfl) (by simp) ?_
                refine AllG.last (n := 15) rfl (fun K hK => ?_)
                obtain ⟨p0, p1, p2, p3, p4⟩ := pwIn5 hKF.P
                have pf := hKF.P.frozen
                go_simp
                refine hK.out _ _ ?_
                try simp only [Act.put, List.setIfInBounds_toArray, List.set_cons_zero, List.set_cons_succ]
                refine anyG_done (by kernel_rfl) ?_ _
                have hlt4 := hKF.lt
                have hn20 : n2 ≠ n0 := by have := HNN.out; omega
                have hP7 := hKF.P.put ⟨bA, bc, base, t, A', c', L, uA, uc, us, wA, wc, now⟩ 2 (.slice A' L.length c') rfl
                have hR7 := hKF.R.other n0 2 (.slice A' L.length c') hn20
                have hg7 := by_cell W3 n0 2 (.slice A' L.length c')
                have hS7 := hSn.keep hfr hg7 hlt4.1
                have hB6 : Below w.heap.size w W3 := by rw [HNW.out]; exact hB.trans (hKF.bel.mono hn0W)
                have hB7 := hB6.grown hg7 hB6.size (fun j e => by have := Option.some.inj e; have := HNW.out; omega)
                have hb7 := (HL.out.below hB7).b
                simp only at hb7
                have CF := mvRefFold_any bA bc base A' c' L _ (by have := HL9.out; omega) hb7 hS7.1
                generalize W3.setCell ⟨n0, 2, none⟩ (.slice A' L.length c') = W7 at *
                clear p0 p1 p2 p3 p4 pf hK hKF hS hSn ownF
                obtain ⟨r0, r1, r2, r3, r4⟩ := pwIn5 hP7
                go_wp2_with fail
                refine CF.mono ?_
                rintro e W8 ⟨A5, c5, U5, uc5, rfl, hF1, hF2, hfr1, hfr2, hb8⟩
                clear CF r0 r1 r2 r3 r4
                have hP8 := hP7.below hb8
                have hR8 := hR7.below hb8
                have hS8 := hS7.below hb8
                have hl0 := hP7.lt
                have hl2 := hR7.lt
                generalize (foldL base (mvs L)).1 = now1 at *
                generalize (foldL base (mvs L)).2 = us1 at *
                obtain ⟨r0, r1, r2, r3, r4⟩ := pwIn5 hP8
                have pf8 := hP8.frozen
                have hP10 := (hP8.put ⟨bA, bc, base, t, A', c', L, uA, uc, us, A5, c5, now1⟩ 4 (.slice A5 now1.length c5) rfl).put ⟨bA, bc, base, t, A', c', L, U5, uc5, us1, A5, c5, now1⟩ 3 (.slice U5 us1.length uc5) rfl
                have hR10 := (hR8.other n0 4 (.slice A5 now1.length c5) hn20).other n0 3 (.slice U5 us1.length uc5) hn20
                have hg10 := by_cell2 (by_cell W8 n0 4 (.slice A5 now1.length c5)) 3 (.slice U5 us1.length uc5)
                go_wp2_with (first | (refine El.load pwRow rfl _ rfl n0 0 rfl ⟨bA, bc, base, t, A', c', L, U5, uc5, us1, A5, c5, now1⟩ hP10.at #[.slice bA base.length bc, .int .i64 t, .slice A' L.length c', .slice U5 us1.length uc5, .slice A5 now1.length c5] rfl ?_) | (refine El.store pwRow rfl _ _ rfl n2 ⟨bA, bc, base, t, A', c', L, U5, uc5, us1, A5, c5, now1⟩ #[.slice bA base.length bc, .int .i64 t, .slice A' L.length c', .slice U5 us1.length uc5, .slice A5 now1.length c5] rfl rfl rfl Pw.zero hR10 ?_))
                refine El.ret2 pwRow (v := .bool true) (hR10.set ⟨bA, bc, base, t, A', c', L, U5, uc5, us1, A5, c5, now1⟩ #[.slice bA base.length bc, .int .i64 t, .slice A' L.length c', .slice U5 us1.length uc5, .slice A5 now1.length c5] rfl) rfl rfl rfl rfl #[.slice bA base.length bc, .int .i64 t, .slice A' L.length c', .slice U5 us1.length uc5, .slice A5 now1.length c5] rfl ?_
                have hw0 : w.heap.size ≤ n0 ∧ w.heap.size ≤ n2 := by have := HNN.out; have := HNW.out; omega
                have hB8 := below_then hB7 hb8
                have hB10 := hB8.grown hg10 hB8.size (fun j e => by have := Option.some.inj e; omega)
                have hBz := below_setRow hB10 hw0.2 #[.slice bA base.length bc, .int .i64 t, .slice A' L.length c', .slice U5 us1.length uc5, .slice A5 now1.length c5]
                have hgz := fun W => by_row W n2 #[.slice bA base.length bc, .int .i64 t, .slice A' L.length c', .slice U5 us1.length uc5, .slice A5 now1.length c5]
                exact ⟨⟨bA, bc, base, t, A', c', L, U5, uc5, us1, A5, c5, now1⟩, by rw [HNV.out], ⟨(HL.out.below hBz).b, (hS8.keep hfr hg10 hlt4.1).keep hfr (hgz _) hlt4.2.2.1, (hF2.keep hfr2 hg10 hl0).keep hfr2 (hgz _) hl2, (hF1.keep hfr1 hg10 hl0).keep hfr1 (hgz _) hl2⟩, by rw [HNV.out]; rfl, hBz⟩
            · refine wp_region_quiet_below (by kernel_rfl) (by kernel_rfl) ?_
              repeat (go_big_quiet_step (fail))
              refine wpQuiet_nil ?_
              intro _ hw'
              obtain ⟨⟨dq3, osq3⟩, hw3⟩ := hw'
              subst hw3
              have hq3 := below_regrown w2 dq3 osq3
              generalize Sort.grow (redrawn w2 dq3) osq3 = w3 at *
              have hB3 := below_then hB2 hq3
              have hP3 := hP2.below hq3
              have hO3 := hO2.below hq3
              have hR3 := hR.below hB3
              clear k0 k1 k2 k3 k4
              go_wp2_with fail
              have hA3e : ∃ A3 : Option Addr, (if oc = k then (some ⟨b, off, none⟩ : Option Addr) else Option.map (fun x => x.add (k * 7)) (some ⟨b, off, none⟩ : Option Addr)) = A3 := ⟨_, rfl⟩
              obtain ⟨A3, hA3⟩ := hA3e
              have hO3s := (hxo.1.below hB3)
              have ht1 := hO3s.take k
              have ht3 := hO3s.drop (to := k) hxo.2.2 hA3
              have hz1 := hxo.2.1
              have hz3 : A3 = none → oc - k = 0 := El.drop_none hxo.2.1 hA3
              have e1 : (ops.take k).length = k := by rw [List.length_take]; omega
              have e3 : (ops.drop k).length = ops.length - k := List.length_drop
              have hkc : k ≤ oc := Nat.le_trans hk hxo.2.2
              have i0 : (0 : Int) ≤ (k : Int) := by omega
              have i1 : (k : Int) ≤ (oc : Int) := by omega
              have i2 : (k : Int) ≤ (ops.length : Int) := by omega
              have hnv := addV_new (q := ⟨base, t, ops, us, now⟩) (m := m) (show ¬ m.C ≤ t by omega) HHF.out
              rw [insL_eq HPOS.out] at hnv
              have HNV := Lib.hid hnv
              have HE1 := Lib.hid e1
              have HE3 := Lib.hid e3
              generalize hL1 : ops.take k = L1 at *
              generalize hL3 : ops.drop k = L3 at *
              obtain ⟨B, hBe⟩ : ∃ B, w3.heap.size = B := ⟨_, rfl⟩
              have hKV : InsK W n0 n1 n2 B (⟨bA, bc, base, t, some ⟨b, off, none⟩, oc, ops, uA, uc, us, wA, wc, now⟩ : Pw) m (some ⟨b, off, none⟩) A3 L1 L3 w3.drew := ⟨hP3, hO3, hR3, El.SlB.of ht1 (Nat.le_of_eq hBe), El.SlB.of ht3 (Nat.le_of_eq hBe), hB3.drew, Nat.le_of_eq hBe.symm, by have := hP3.lt; have := hO3.lt; have := hR3.lt; have := hB3.size; omega⟩
              have hBd : w3.drew.heap.size = B := hBe
              have HL890 : L1.length + L3.length + 1 ≤ 891 := by have := HE1.out; have := HE3.out; omega
              clear e1 e3 hnv hL1 hL3 ht1 ht3 hO3s hP3 hO3 hR3 hBe
              refine region_anyG (S := InsS n0 n1 (some ⟨b, off, none⟩) ops.length oc m) 15 (by kernel_rfl) ?_
              generalize w3.drew = V at *
              have hA3s := hA3
              simp only [Option.map_some, Addr.add_lit] at hA3s
              have hS := hKV.s
              simp only at hS
              refine anyG_take (i := 1) (v := .pointer (some ⟨n0, 2, none⟩)) rfl (by kernel_rfl) (by kernel_rfl) (by kernel_rfl) (by kernel_rfl) (by kernel_rfl) (fun _ _ _ h => h) (Or.inl ⟨by rfl, fun w' hSw => by (obtain ⟨s0, s1, s2, s3, s4, s5, s6, s7⟩ := hSw; go_simp)⟩) hS ?_
              try simp only [Act.put, List.setIfInBounds_toArray, List.set_cons_zero, List.set_cons_succ]
              refine anyG_take (i := 2) (v := .slice (some ⟨b, off, none⟩) ops.length oc) rfl (by kernel_rfl) (by kernel_rfl) (by kernel_rfl) (by kernel_rfl) (by kernel_rfl) (fun _ _ _ h => h) (Or.inl ⟨by rfl, fun w' hSw => by (obtain ⟨s0, s1, s2, s3, s4, s5, s6, s7⟩ := hSw; go_simp)⟩) hS ?_
              try simp only [Act.put, List.setIfInBounds_toArray, List.set_cons_zero, List.set_cons_succ]
              refine anyG_take (i := 3) (v := .int .i64 k) rfl (by kernel_rfl) (by kernel_rfl) (by kernel_rfl) (by kernel_rfl) (by kernel_rfl) (fun _ _ _ h => h) (Or.inl ⟨by rfl, fun w' hSw => by (obtain ⟨s0, s1, s2, s3, s4, s5, s6, s7⟩ := hSw; go_simp)⟩) hS ?_
              try simp only [Act.put, List.setIfInBounds_toArray, List.set_cons_zero, List.set_cons_succ]
              refine anyG_take (i := 4) (v := .slice (some ⟨b, off, none⟩) k oc) rfl (by kernel_rfl) (by kernel_rfl) (by kernel_rfl) (by kernel_rfl) (by kernel_rfl) (fun _ _ _ h => h) (Or.inl ⟨by rfl, fun w' hSw => by (obtain ⟨s0, s1, s2, s3, s4, s5, s6, s7⟩ := hSw; go_simp)⟩) hS ?_
              try simp only [Act.put, List.setIfInBounds_toArray, List.set_cons_zero, List.set_cons_succ]
              refine anyG_take (i := 6) (v := .agg #[.int .i64 m.C, .int .i64 m.D, .int .i64 m.I, .int .i64 m.M, .int .i64 m.K, .int .i64 m.U, .string m.s]) rfl (by kernel_rfl) (by kernel_rfl) (by kernel_rfl) (by kernel_rfl) (by kernel_rfl) (fun _ _ _ h => h) (Or.inl ⟨by rfl, fun w' hSw => by (obtain ⟨s0, s1, s2, s3, s4, s5, s6, s7⟩ := hSw; go_simp)⟩) hS ?_
              try simp only [Act.put, List.setIfInBounds_toArray, List.set_cons_zero, List.set_cons_succ]
              refine anyG_take (i := 9) (v := .pointer (some ⟨n0, 2, none⟩)) rfl (by kernel_rfl) (by kernel_rfl) (by kernel_rfl) (by kernel_rfl) (by kernel_rfl) (fun _ _ _ h => h) (Or.inl ⟨by rfl, fun w' hSw => by (obtain ⟨s0, s1, s2, s3, s4, s5, s6, s7⟩ := hSw; go_simp)⟩) hS ?_
              try simp only [Act.put, List.setIfInBounds_toArray, List.set_cons_zero, List.set_cons_succ]
              refine anyG_take (i := 10) (v := .slice (some ⟨b, off, none⟩) ops.length oc) rfl (by kernel_rfl) (by kernel_rfl) (by kernel_rfl) (by kernel_rfl) (by kernel_rfl) (fun _ _ _ h => h) (Or.inl ⟨by rfl, fun w' hSw => by (obtain ⟨s0, s1, s2, s3, s4, s5, s6, s7⟩ := hSw; go_simp)⟩) hS ?_
              try simp only [Act.put, List.setIfInBounds_toArray, List.set_cons_zero, List.set_cons_succ]
              refine anyG_take (i := 11) (v := .int .i64 k) rfl (by kernel_rfl) (by kernel_rfl) (by kernel_rfl) (by kernel_rfl) (by kernel_rfl) (fun _ _ _ h => h) (Or.inl ⟨by rfl, fun w' hSw => by (obtain ⟨s0, s1, s2, s3, s4, s5, s6, s7⟩ := hSw; go_simp)⟩) hS ?_
              try simp only [Act.put, List.setIfInBounds_toArray, List.set_cons_zero, List.set_cons_succ]
              refine anyG_take (i := 12) (v := .slice A3 (ops.length - k) (oc - k)) rfl (by kernel_rfl) (by kernel_rfl) (by kernel_rfl) (by kernel_rfl) (by kernel_rfl) (fun _ _ _ h => h) (Or.inl ⟨by rfl, fun w' hSw => by (obtain ⟨s0, s1, s2, s3, s4, s5, s6, s7⟩ := hSw; go_simp)⟩) hS ?_
              try simp only [Act.put, List.setIfInBounds_toArray, List.set_cons_zero, List.set_cons_succ]
              refine anyG_step (rs := [0, 7]) (by kernel_rfl) (by simp) ?_
              refine AllG.cons rfl (fun K hK => ?_) (AllG.cons rfl (fun K hK => ?_) AllG.nil)
              · have hK1 := hKV.alloc (.cells #[] 35)
                go_simp
                refine hK.out _ _ hK1.s ?_
                try simp only [Act.put, List.setIfInBounds_toArray, List.set_cons_zero, List.set_cons_succ]
                have own1 : opE.Own (V.alloc (.cells #[] 35)) B (.slice (some ⟨B, 0, none⟩) 0 0) [] := by
                  have h := El.Own.empty (E := opE) V B (by omega)
                  rw [hBd] at h; exact h
                have hsz1 : (V.alloc (.cells #[] 35)).heap.size = B + 1 := by rw [alloc_size, hBd]
                refine anyG_step (rs := [5, 7]) (by kernel_rfl) (by simp) ?_
                refine AllG.cons rfl (fun K hK => ?_) (AllG.cons rfl (fun K hK => ?_) AllG.nil)
                · refine El.step_app opInn rfl (.tmp 49) (.tmp 53) rfl B _ [] L1 rfl own1 (some ⟨b, off, none⟩) k oc rfl HE1.out (hK1.o1.sl hK1.sz) hz1 (by simp; omega) hK1.sz ?_
                  intro v1 W1 own2 hg1 hat1
                  have own2 : opE.Own W1 B v1 L1 := own2
                  have hK2 := hK1.grown hg1 (own1).rows
                  clear hat1
                  refine hK.out _ _ hK2.s ?_
                  try simp only [Act.put, List.setIfInBounds_toArray, List.set_cons_zero, List.set_cons_succ]
                  refine anyG_step (rs := [7]) (by kernel_rfl) (by simp) ?_
                  refine AllG.cons rfl (fun K hK => ?_) AllG.nil
                  have hK3 := hK2.alloc (.cells #[.int .i64 m.C, .int .i64 m.D, .int .i64 m.I, .int .i64 m.M, .int .i64 m.K, .int .i64 m.U, .string m.s] 35)
                  go_simp
                  refine hK.out _ _ hK3.s ?_
                  try simp only [Act.put, List.setIfInBounds_toArray, List.set_cons_zero, List.set_cons_succ]
                  have own3 := own2.below (below_alloc (Below.refl _ W1) (.cells #[.int .i64 m.C, .int .i64 m.D, .int .i64 m.I, .int .i64 m.M, .int .i64 m.K, .int .i64 m.U, .string m.s] 35))
                  have one3 : opE.Sl (W1.alloc (.cells #[.int .i64 m.C, .int .i64 m.D, .int .i64 m.I, .int .i64 m.M, .int .i64 m.K, .int .i64 m.U, .string m.s] 35)) (some ⟨W1.heap.size, 0, none⟩) [m] := (El.In.new (E := opE) W1 m #[.int .i64 m.C, .int .i64 m.D, .int .i64 m.I, .int .i64 m.M, .int .i64 m.K, .int .i64 m.U, .string m.s] rfl).sl
                  refine anyG_step (rs := [8]) (by kernel_rfl) (by simp) ?_
                  refine AllG.cons rfl (fun K hK => ?_) AllG.nil
                  refine El.step_app opInn rfl (.tmp 54) (.tmp 56) rfl B _ L1 [m] rfl own3 (some ⟨W1.heap.size, 0, none⟩) 1 1 rfl rfl one3 (fun e => by cases e) (by simp; omega) hK3.sz ?_
                  intro v2 W2 own4 hg2 hat2
                  have hK4 := hK3.grown hg2 (own3).rows
                  clear hat2
                  refine hK.out _ _ hK4.s ?_
                  try simp only [Act.put, List.setIfInBounds_toArray, List.set_cons_zero, List.set_cons_succ]
                  refine anyG_step (rs := [13]) (by kernel_rfl) (by simp) ?_
                  refine AllG.cons rfl (fun K hK => ?_) AllG.nil
                  refine El.step_app opInn rfl (.tmp 57) (.tmp 61) rfl B _ (L1 ++ [m]) L3 rfl own4 A3 (ops.length - k) (oc - k) rfl HE3.out (hK4.o3.sl hK4.sz) hz3 (by rw [List.length_append, List.length_singleton]; omega) hK4.sz ?_
                  intro v3 W3 ownF hg3 hat3
                  have hKF := hK4.grown hg3 (own4).rows
                  clear hat3
                  refine hK.out _ _ hKF.s ?_
                  try simp only [Act.put, List.setIfInBounds_toArray, List.set_cons_zero, List.set_cons_succ]
                  obtain ⟨A', c', rfl, hSn⟩ := SlV.own ownF
                  have hfr := ownF.frs
                  have hLL : ((L1 ++ [m]) ++ L3).length ≤ ops.length + 1 := by rw [List.length_append, List.length_append, List.length_singleton, HE1.out, HE3.out]; omega
                  generalize (L1 ++ [m]) ++ L3 = L at *
                  have hS := hKF.s
                  simp only at hS
                  refine anyG_take (i := 14) (v := .pointer (some ⟨n0, 2, none⟩)) rfl (by kernel_rfl) (by kernel_rfl) (by kernel_rfl) (by kernel_rfl) (by kernel_rfl) (fun _ _ _ h => h) (Or.inl ⟨by rfl, fun w' hSw => by (obtain ⟨s0, s1, s2, s3, s4, s5, s6, s7⟩ := hSw; go_simp)⟩) hS ?_
                  try simp only [Act.put, List.setIfInBounds_toArray, List.set_cons_zero, List.set_cons_succ]
                  refine anyG_step (rs := [15]) (by kernel_rfl) (by simp) ?_
                  refine AllG.last (n := 15) rfl (fun K hK => ?_)
                  obtain ⟨p0, p1, p2, p3, p4⟩ := pwIn5 hKF.P
                  have pf := hKF.P.frozen
                  go_simp
                  refine hK.out _ _ ?_
                  try simp only [Act.put, List.setIfInBounds_toArray, List.set_cons_zero, List.set_cons_succ]
                  refine anyG_done (by kernel_rfl) ?_ _
                  have hlt4 := hKF.lt
                  have hn20 : n2 ≠ n0 := by have := HNN.out; omega
                  have hP7 := hKF.P.put ⟨bA, bc, base, t, A', c', L, uA, uc, us, wA, wc, now⟩ 2 (.slice A' L.length c') rfl
                  have hR7 := hKF.R.other n0 2 (.slice A' L.length c') hn20
                  have hg7 := by_cell W3 n0 2 (.slice A' L.length c')
                  have hS7 := hSn.keep hfr hg7 hlt4.1
                  have hB6 : Below w.heap.size w W3 := by rw [HNW.out]; exact hB.trans (hKF.bel.mono hn0W)
                  have hB7 := hB6.grown hg7 hB6.size (fun j e => by have := Option.some.inj e; have := HNW.out; omega)
                  have hb7 := (HL.out.below hB7).b
                  simp only at hb7
                  have CF := mvRefFold_any bA bc base A' c' L _ (by have := HL9.out; omega) hb7 hS7.1
                  generalize W3.setCell ⟨n0, 2, none⟩ (.slice A' L.length c') = W7 at *
                  clear p0 p1 p2 p3 p4 pf hK hKF hS hSn ownF
                  obtain ⟨r0, r1, r2, r3, r4⟩ := pwIn5 hP7
                  go_wp2_with fail
                  refine CF.mono ?_
                  rintro e W8 ⟨A5, c5, U5, uc5, rfl, hF1, hF2, hfr1, hfr2, hb8⟩
                  clear CF r0 r1 r2 r3 r4
                  have hP8 := hP7.below hb8
                  have hR8 := hR7.below hb8
                  have hS8 := hS7.below hb8
                  have hl0 := hP7.lt
                  have hl2 := hR7.lt
                  generalize (foldL base (mvs L)).1 = now1 at *
                  generalize (foldL base (mvs L)).2 = us1 at *
                  obtain ⟨r0, r1, r2, r3, r4⟩ := pwIn5 hP8
                  have pf8 := hP8.frozen
                  have hP10 := (hP8.put ⟨bA, bc, base, t, A', c', L, uA, uc, us, A5, c5, now1⟩ 4 (.slice A5 now1.length c5) rfl).put ⟨bA, bc, base, t, A', c', L, U5, uc5, us1, A5, c5, now1⟩ 3 (.slice U5 us1.length uc5) rfl
                  have hR10 := (hR8.other n0 4 (.slice A5 now1.length c5) hn20).other n0 3 (.slice U5 us1.length uc5) hn20
                  have hg10 := by_cell2 (by_cell W8 n0 4 (.slice A5 now1.length c5)) 3 (.slice U5 us1.length uc5)
                  go_wp2_with (first | (refine El.load pwRow rfl _ rfl n0 0 rfl ⟨bA, bc, base, t, A', c', L, U5, uc5, us1, A5, c5, now1⟩ hP10.at #[.slice bA base.length bc, .int .i64 t, .slice A' L.length c', .slice U5 us1.length uc5, .slice A5 now1.length c5] rfl ?_) | (refine El.store pwRow rfl _ _ rfl n2 ⟨bA, bc, base, t, A', c', L, U5, uc5, us1, A5, c5, now1⟩ #[.slice bA base.length bc, .int .i64 t, .slice A' L.length c', .slice U5 us1.length uc5, .slice A5 now1.length c5] rfl rfl rfl Pw.zero hR10 ?_))
                  refine El.ret2 pwRow (v := .bool true) (hR10.set ⟨bA, bc, base, t, A', c', L, U5, uc5, us1, A5, c5, now1⟩ #[.slice bA base.length bc, .int .i64 t, .slice A' L.length c', .slice U5 us1.length uc5, .slice A5 now1.length c5] rfl) rfl rfl rfl rfl #[.slice bA base.length bc, .int .i64 t, .slice A' L.length c', .slice U5 us1.length uc5, .slice A5 now1.length c5] rfl ?_
                  have hw0 : w.heap.size ≤ n0 ∧ w.heap.size ≤ n2 := by have := HNN.out; have := HNW.out; omega
                  have hB8 := below_then hB7 hb8
                  have hB10 := hB8.grown hg10 hB8.size (fun j e => by have := Option.some.inj e; omega)
                  have hBz := below_setRow hB10 hw0.2 #[.slice bA base.length bc, .int .i64 t, .slice A' L.length c', .slice U5 us1.length uc5, .slice A5 now1.length c5]
                  have hgz := fun W => by_row W n2 #[.slice bA base.length bc, .int .i64 t, .slice A' L.length c', .slice U5 us1.length uc5, .slice A5 now1.length c5]
                  exact ⟨⟨bA, bc, base, t, A', c', L, U5, uc5, us1, A5, c5, now1⟩, by rw [HNV.out], ⟨(HL.out.below hBz).b, (hS8.keep hfr hg10 hlt4.1).keep hfr (hgz _) hlt4.2.2.1, (hF2.keep hfr2 hg10 hl0).keep hfr2 (hgz _) hl2, (hF1.keep hfr1 hg10 hl0).keep hfr1 (hgz _) hl2⟩, by rw [HNV.out]; rfl, hBz⟩
                · have hK2 := hK1.alloc (.cells #[.int .i64 m.C, .int .i64 m.D, .int .i64 m.I, .int .i64 m.M, .int .i64 m.K, .int .i64 m.U, .string m.s] 35)
                  go_simp
                  refine hK.out _ _ hK2.s ?_
                  try simp only [Act.put, List.setIfInBounds_toArray, List.set_cons_zero, List.set_cons_succ]
                  have own2 := own1.below (below_alloc (Below.refl _ (V.alloc (.cells #[] 35))) (.cells #[.int .i64 m.C, .int .i64 m.D, .int .i64 m.I, .int .i64 m.M, .int .i64 m.K, .int .i64 m.U, .string m.s] 35))
                  have one2 : opE.Sl ((V.alloc (.cells #[] 35)).alloc (.cells #[.int .i64 m.C, .int .i64 m.D, .int .i64 m.I, .int .i64 m.M, .int .i64 m.K, .int .i64 m.U, .string m.s] 35)) (some ⟨B + 1, 0, none⟩) [m] := by
                    have h := (El.In.new (E := opE) (V.alloc (.cells #[] 35)) m #[.int .i64 m.C, .int .i64 m.D, .int .i64 m.I, .int .i64 m.M, .int .i64 m.K, .int .i64 m.U, .string m.s] rfl).sl
                    rw [hsz1] at h; exact h
                  refine anyG_step (rs := [5]) (by kernel_rfl) (by simp) ?_
                  refine AllG.cons rfl (fun K hK => ?_) AllG.nil
                  refine El.step_app opInn rfl (.tmp 49) (.tmp 53) rfl B _ [] L1 rfl own2 (some ⟨b, off, none⟩) k oc rfl HE1.out (hK2.o1.sl hK2.sz) hz1 (by simp; omega) hK2.sz ?_
                  intro v1 W1 own3 hg1 hat1
                  have own3 : opE.Own W1 B v1 L1 := own3
                  have hK3 := hK2.grown hg1 (own2).rows
                  have one3 := one2.keep1 hg1 (fun e => by have e : some (B + 1) = some B := e; have := Option.some.inj e; omega)
                  clear hat1
                  refine hK.out _ _ hK3.s ?_
                  try simp only [Act.put, List.setIfInBounds_toArray, List.set_cons_zero, List.set_cons_succ]
                  refine anyG_step (rs := [8]) (by kernel_rfl) (by simp) ?_
                  refine AllG.cons rfl (fun K hK => ?_) AllG.nil
                  refine El.step_app opInn rfl (.tmp 54) (.tmp 56) rfl B _ L1 [m] rfl own3 (some ⟨B + 1, 0, none⟩) 1 1 rfl rfl one3 (fun e => by cases e) (by simp; omega) hK3.sz ?_
                  intro v2 W2 own4 hg2 hat2
                  have hK4 := hK3.grown hg2 (own3).rows
                  clear hat2
                  refine hK.out _ _ hK4.s ?_
                  try simp only [Act.put, List.setIfInBounds_toArray, List.set_cons_zero, List.set_cons_succ]
                  refine anyG_step (rs := [13]) (by kernel_rfl) (by simp) ?_
                  refine AllG.cons rfl (fun K hK => ?_) AllG.nil
                  refine El.step_app opInn rfl (.tmp 57) (.tmp 61) rfl B _ (L1 ++ [m]) L3 rfl own4 A3 (ops.length - k) (oc - k) rfl HE3.out (hK4.o3.sl hK4.sz) hz3 (by rw [List.length_append, List.length_singleton]; omega) hK4.sz ?_
                  intro v3 W3 ownF hg3 hat3
                  have hKF := hK4.grown hg3 (own4).rows
                  clear hat3
                  refine hK.out _ _ hKF.s ?_
                  try simp only [Act.put, List.setIfInBounds_toArray, List.set_cons_zero, List.set_cons_succ]
                  obtain ⟨A', c', rfl, hSn⟩ := SlV.own ownF
                  have hfr := ownF.frs
                  have hLL : ((L1 ++ [m]) ++ L3).length ≤ ops.length + 1 := by rw [List.length_append, List.length_append, List.length_singleton, HE1.out, HE3.out]; omega
                  generalize (L1 ++ [m]) ++ L3 = L at *
                  have hS := hKF.s
                  simp only at hS
                  refine anyG_take (i := 14) (v := .pointer (some ⟨n0, 2, none⟩)) rfl (by kernel_rfl) (by kernel_rfl) (by kernel_rfl) (by kernel_rfl) (by kernel_rfl) (fun _ _ _ h => h) (Or.inl ⟨by rfl, fun w' hSw => by (obtain ⟨s0, s1, s2, s3, s4, s5, s6, s7⟩ := hSw; go_simp)⟩) hS ?_
                  try simp only [Act.put, List.setIfInBounds_toArray, List.set_cons_zero, List.set_cons_succ]
                  refine anyG_step (rs := [15]) (by kernel_rfl) (by simp) ?_
                  refine AllG.last (n := 15) rfl (fun K hK => ?_)
                  obtain ⟨p0, p1, p2, p3, p4⟩ := pwIn5 hKF.P
                  have pf := hKF.P.frozen
                  go_simp
                  refine hK.out _ _ ?_
                  try simp only [Act.put, List.setIfInBounds_toArray, List.set_cons_zero, List.set_cons_succ]
                  refine anyG_done (by kernel_rfl) ?_ _
                  have hlt4 := hKF.lt
                  have hn20 : n2 ≠ n0 := by have := HNN.out; omega
                  have hP7 := hKF.P.put ⟨bA, bc, base, t, A', c', L, uA, uc, us, wA, wc, now⟩ 2 (.slice A' L.length c') rfl
                  have hR7 := hKF.R.other n0 2 (.slice A' L.length c') hn20
                  have hg7 := by_cell W3 n0 2 (.slice A' L.length c')
                  have hS7 := hSn.keep hfr hg7 hlt4.1
                  have hB6 : Below w.heap.size w W3 := by rw [HNW.out]; exact hB.trans (hKF.bel.mono hn0W)
                  have hB7 := hB6.grown hg7 hB6.size (fun j e => by have := Option.some.inj e; have := HNW.out; omega)
                  have hb7 := (HL.out.below hB7).b
                  simp only at hb7
                  have CF := mvRefFold_any bA bc base A' c' L _ (by have := HL9.out; omega) hb7 hS7.1
                  generalize W3.setCell ⟨n0, 2, none⟩ (.slice A' L.length c') = W7 at *
                  clear p0 p1 p2 p3 p4 pf hK hKF hS hSn ownF
                  obtain ⟨r0, r1, r2, r3, r4⟩ := pwIn5 hP7
                  go_wp2_with fail
                  refine CF.mono ?_
                  rintro e W8 ⟨A5, c5, U5, uc5, rfl, hF1, hF2, hfr1, hfr2, hb8⟩
                  clear CF r0 r1 r2 r3 r4
                  have hP8 := hP7.below hb8
                  have hR8 := hR7.below hb8
                  have hS8 := hS7.below hb8
                  have hl0 := hP7.lt
                  have hl2 := hR7.lt
                  generalize (foldL base (mvs L)).1 = now1 at *
                  generalize (foldL base (mvs L)).2 = us1 at *
                  obtain ⟨r0, r1, r2, r3, r4⟩ := pwIn5 hP8
                  have pf8 := hP8.frozen
                  have hP10 := (hP8.put ⟨bA, bc, base, t, A', c', L, uA, uc, us, A5, c5, now1⟩ 4 (.slice A5 now1.length c5) rfl).put ⟨bA, bc, base, t, A', c', L, U5, uc5, us1, A5, c5, now1⟩ 3 (.slice U5 us1.length uc5) rfl
                  have hR10 := (hR8.other n0 4 (.slice A5 now1.length c5) hn20).other n0 3 (.slice U5 us1.length uc5) hn20
                  have hg10 := by_cell2 (by_cell W8 n0 4 (.slice A5 now1.length c5)) 3 (.slice U5 us1.length uc5)
                  go_wp2_with (first | (refine El.load pwRow rfl _ rfl n0 0 rfl ⟨bA, bc, base, t, A', c', L, U5, uc5, us1, A5, c5, now1⟩ hP10.at #[.slice bA base.length bc, .int .i64 t, .slice A' L.length c', .slice U5 us1.length uc5, .slice A5 now1.length c5] rfl ?_) | (refine El.store pwRow rfl _ _ rfl n2 ⟨bA, bc, base, t, A', c', L, U5, uc5, us1, A5, c5, now1⟩ #[.slice bA base.length bc, .int .i64 t, .slice A' L.length c', .slice U5 us1.length uc5, .slice A5 now1.length c5] rfl rfl rfl Pw.zero hR10 ?_))
                  refine El.ret2 pwRow (v := .bool true) (hR10.set ⟨bA, bc, base, t, A', c', L, U5, uc5, us1, A5, c5, now1⟩ #[.slice bA base.length bc, .int .i64 t, .slice A' L.length c', .slice U5 us1.length uc5, .slice A5 now1.length c5] rfl) rfl rfl rfl rfl #[.slice bA base.length bc, .int .i64 t, .slice A' L.length c', .slice U5 us1.length uc5, .slice A5 now1.length c5] rfl ?_
                  have hw0 : w.heap.size ≤ n0 ∧ w.heap.size ≤ n2 := by have := HNN.out; have := HNW.out; omega
                  have hB8 := below_then hB7 hb8
                  have hB10 := hB8.grown hg10 hB8.size (fun j e => by have := Option.some.inj e; omega)
                  have hBz := below_setRow hB10 hw0.2 #[.slice bA base.length bc, .int .i64 t, .slice A' L.length c', .slice U5 us1.length uc5, .slice A5 now1.length c5]
                  have hgz := fun W => by_row W n2 #[.slice bA base.length bc, .int .i64 t, .slice A' L.length c', .slice U5 us1.length uc5, .slice A5 now1.length c5]
                  exact ⟨⟨bA, bc, base, t, A', c', L, U5, uc5, us1, A5, c5, now1⟩, by rw [HNV.out], ⟨(HL.out.below hBz).b, (hS8.keep hfr hg10 hlt4.1).keep hfr (hgz _) hlt4.2.2.1, (hF2.keep hfr2 hg10 hl0).keep hfr2 (hgz _) hl2, (hF1.keep hfr1 hg10 hl0).keep hfr1 (hgz _) hl2⟩, by rw [HNV.out]; rfl, hBz⟩
              · have hK1 := hKV.alloc (.cells #[.int .i64 m.C, .int .i64 m.D, .int .i64 m.I, .int .i64 m.M, .int .i64 m.K, .int .i64 m.U, .string m.s] 35)
                go_simp
                refine hK.out _ _ hK1.s ?_
                try simp only [Act.put, List.setIfInBounds_toArray, List.set_cons_zero, List.set_cons_succ]
                have one1 : opE.Sl (V.alloc (.cells #[.int .i64 m.C, .int .i64 m.D, .int .i64 m.I, .int .i64 m.M, .int .i64 m.K, .int .i64 m.U, .string m.s] 35)) (some ⟨B, 0, none⟩) [m] := by
                  have h := (El.In.new (E := opE) V m #[.int .i64 m.C, .int .i64 m.D, .int .i64 m.I, .int .i64 m.M, .int .i64 m.K, .int .i64 m.U, .string m.s] rfl).sl
                  rw [hBd] at h; exact h
                have hsz1 : (V.alloc (.cells #[.int .i64 m.C, .int .i64 m.D, .int .i64 m.I, .int .i64 m.M, .int .i64 m.K, .int .i64 m.U, .string m.s] 35)).heap.size = B + 1 := by rw [alloc_size, hBd]
                refine anyG_step (rs := [0]) (by kernel_rfl) (by simp) ?_
                refine AllG.cons rfl (fun K hK => ?_) AllG.nil
                have hK2 := hK1.alloc (.cells #[] 35)
                go_simp
                refine hK.out _ _ hK2.s ?_
                try simp only [Act.put, List.setIfInBounds_toArray, List.set_cons_zero, List.set_cons_succ]
                have own2 : opE.Own ((V.alloc (.cells #[.int .i64 m.C, .int .i64 m.D, .int .i64 m.I, .int .i64 m.M, .int .i64 m.K, .int .i64 m.U, .string m.s] 35)).alloc (.cells #[] 35)) B (.slice (some ⟨B + 1, 0, none⟩) 0 0) [] := by
                  have h := El.Own.empty (E := opE) (V.alloc (.cells #[.int .i64 m.C, .int .i64 m.D, .int .i64 m.I, .int .i64 m.M, .int .i64 m.K, .int .i64 m.U, .string m.s] 35)) B (by omega)
                  rw [hsz1] at h; exact h
                have one2 := one1.below (below_alloc (Below.refl _ (V.alloc (.cells #[.int .i64 m.C, .int .i64 m.D, .int .i64 m.I, .int .i64 m.M, .int .i64 m.K, .int .i64 m.U, .string m.s] 35))) (.cells #[] 35))
                refine anyG_step (rs := [5]) (by kernel_rfl) (by simp) ?_
                refine AllG.cons rfl (fun K hK => ?_) AllG.nil
                refine El.step_app opInn rfl (.tmp 49) (.tmp 53) rfl B _ [] L1 rfl own2 (some ⟨b, off, none⟩) k oc rfl HE1.out (hK2.o1.sl hK2.sz) hz1 (by simp; omega) hK2.sz ?_
                intro v1 W1 own3 hg1 hat1
                have own3 : opE.Own W1 B v1 L1 := own3
                have hK3 := hK2.grown hg1 (own2).rows
                have one3 := one2.keep1 hg1 (fun e => by have e : some B = some (B + 1) := e; have := Option.some.inj e; omega)
                clear hat1
                refine hK.out _ _ hK3.s ?_
                try simp only [Act.put, List.setIfInBounds_toArray, List.set_cons_zero, List.set_cons_succ]
                refine anyG_step (rs := [8]) (by kernel_rfl) (by simp) ?_
                refine AllG.cons rfl (fun K hK => ?_) AllG.nil
                refine El.step_app opInn rfl (.tmp 54) (.tmp 56) rfl B _ L1 [m] rfl own3 (some ⟨B, 0, none⟩) 1 1 rfl rfl one3 (fun e => by cases e) (by simp; omega) hK3.sz ?_
                intro v2 W2 own4 hg2 hat2
                have hK4 := hK3.grown hg2 (own3).rows
                clear hat2
                refine hK.out _ _ hK4.s ?_
                try simp only [Act.put, List.setIfInBounds_toArray, List.set_cons_zero, List.set_cons_succ]
                refine anyG_step (rs := [13]) (by kernel_rfl) (by simp) ?_
                refine AllG.cons rfl (fun K hK => ?_) AllG.nil
                refine El.step_app opInn rfl (.tmp 57) (.tmp 61) rfl B _ (L1 ++ [m]) L3 rfl own4 A3 (ops.length - k) (oc - k) rfl HE3.out (hK4.o3.sl hK4.sz) hz3 (by rw [List.length_append, List.length_singleton]; omega) hK4.sz ?_
                intro v3 W3 ownF hg3 hat3
                have hKF := hK4.grown hg3 (own4).rows
                clear hat3
                refine hK.out _ _ hKF.s ?_
                try simp only [Act.put, List.setIfInBounds_toArray, List.set_cons_zero, List.set_cons_succ]
                obtain ⟨A', c', rfl, hSn⟩ := SlV.own ownF
                have hfr := ownF.frs
                have hLL : ((L1 ++ [m]) ++ L3).length ≤ ops.length + 1 := by rw [List.length_append, List.length_append, List.length_singleton, HE1.out, HE3.out]; omega
                generalize (L1 ++ [m]) ++ L3 = L at *
                have hS := hKF.s
                simp only at hS
                refine anyG_take (i := 14) (v := .pointer (some ⟨n0, 2, none⟩)) rfl (by kernel_rfl) (by kernel_rfl) (by kernel_rfl) (by kernel_rfl) (by kernel_rfl) (fun _ _ _ h => h) (Or.inl ⟨by rfl, fun w' hSw => by (obtain ⟨s0, s1, s2, s3, s4, s5, s6, s7⟩ := hSw; go_simp)⟩) hS ?_
                try simp only [Act.put, List.setIfInBounds_toArray, List.set_cons_zero, List.set_cons_succ]
                refine anyG_step (rs := [15]) (by kernel_rfl) (by simp) ?_
                refine AllG.last (n := 15) rfl (fun K hK => ?_)
                obtain ⟨p0, p1, p2, p3, p4⟩ := pwIn5 hKF.P
                have pf := hKF.P.frozen
                go_simp
                refine hK.out _ _ ?_
                try simp only [Act.put, List.setIfInBounds_toArray, List.set_cons_zero, List.set_cons_succ]
                refine anyG_done (by kernel_rfl) ?_ _
                have hlt4 := hKF.lt
                have hn20 : n2 ≠ n0 := by have := HNN.out; omega
                have hP7 := hKF.P.put ⟨bA, bc, base, t, A', c', L, uA, uc, us, wA, wc, now⟩ 2 (.slice A' L.length c') rfl
                have hR7 := hKF.R.other n0 2 (.slice A' L.length c') hn20
                have hg7 := by_cell W3 n0 2 (.slice A' L.length c')
                have hS7 := hSn.keep hfr hg7 hlt4.1
                have hB6 : Below w.heap.size w W3 := by rw [HNW.out]; exact hB.trans (hKF.bel.mono hn0W)
                have hB7 := hB6.grown hg7 hB6.size (fun j e => by have := Option.some.inj e; have := HNW.out; omega)
                have hb7 := (HL.out.below hB7).b
                simp only at hb7
                have CF := mvRefFold_any bA bc base A' c' L _ (by have := HL9.out; omega) hb7 hS7.1
                generalize W3.setCell ⟨n0, 2, none⟩ (.slice A' L.length c') = W7 at *
                clear p0 p1 p2 p3 p4 pf hK hKF hS hSn ownF
                obtain ⟨r0, r1, r2, r3, r4⟩ := pwIn5 hP7
                go_wp2_with fail
                refine CF.mono ?_
                rintro e W8 ⟨A5, c5, U5, uc5, rfl, hF1, hF2, hfr1, hfr2, hb8⟩
                clear CF r0 r1 r2 r3 r4
                have hP8 := hP7.below hb8
                have hR8 := hR7.below hb8
                have hS8 := hS7.below hb8
                have hl0 := hP7.lt
                have hl2 := hR7.lt
                generalize (foldL base (mvs L)).1 = now1 at *
                generalize (foldL base (mvs L)).2 = us1 at *
                obtain ⟨r0, r1, r2, r3, r4⟩ := pwIn5 hP8
                have pf8 := hP8.frozen
                have hP10 := (hP8.put ⟨bA, bc, base, t, A', c', L, uA, uc, us, A5, c5, now1⟩ 4 (.slice A5 now1.length c5) rfl).put ⟨bA, bc, base, t, A', c', L, U5, uc5, us1, A5, c5, now1⟩ 3 (.slice U5 us1.length uc5) rfl
                have hR10 := (hR8.other n0 4 (.slice A5 now1.length c5) hn20).other n0 3 (.slice U5 us1.length uc5) hn20
                have hg10 := by_cell2 (by_cell W8 n0 4 (.slice A5 now1.length c5)) 3 (.slice U5 us1.length uc5)
                go_wp2_with (first | (refine El.load pwRow rfl _ rfl n0 0 rfl ⟨bA, bc, base, t, A', c', L, U5, uc5, us1, A5, c5, now1⟩ hP10.at #[.slice bA base.length bc, .int .i64 t, .slice A' L.length c', .slice U5 us1.length uc5, .slice A5 now1.length c5] rfl ?_) | (refine El.store pwRow rfl _ _ rfl n2 ⟨bA, bc, base, t, A', c', L, U5, uc5, us1, A5, c5, now1⟩ #[.slice bA base.length bc, .int .i64 t, .slice A' L.length c', .slice U5 us1.length uc5, .slice A5 now1.length c5] rfl rfl rfl Pw.zero hR10 ?_))
                refine El.ret2 pwRow (v := .bool true) (hR10.set ⟨bA, bc, base, t, A', c', L, U5, uc5, us1, A5, c5, now1⟩ #[.slice bA base.length bc, .int .i64 t, .slice A' L.length c', .slice U5 us1.length uc5, .slice A5 now1.length c5] rfl) rfl rfl rfl rfl #[.slice bA base.length bc, .int .i64 t, .slice A' L.length c', .slice U5 us1.length uc5, .slice A5 now1.length c5] rfl ?_
                have hw0 : w.heap.size ≤ n0 ∧ w.heap.size ≤ n2 := by have := HNN.out; have := HNW.out; omega
                have hB8 := below_then hB7 hb8
                have hB10 := hB8.grown hg10 hB8.size (fun j e => by have := Option.some.inj e; omega)
                have hBz := below_setRow hB10 hw0.2 #[.slice bA base.length bc, .int .i64 t, .slice A' L.length c', .slice U5 us1.length uc5, .slice A5 now1.length c5]
                have hgz := fun W => by_row W n2 #[.slice bA base.length bc, .int .i64 t, .slice A' L.length c', .slice U5 us1.length uc5, .slice A5 now1.length c5]
                exact ⟨⟨bA, bc, base, t, A', c', L, U5, uc5, us1, A5, c5, now1⟩, by rw [HNV.out], ⟨(HL.out.below hBz).b, (hS8.keep hfr hg10 hlt4.1).keep hfr (hgz _) hlt4.2.2.1, (hF2.keep hfr2 hg10 hl0).keep hfr2 (hgz _) hl2, (hF1.keep hfr1 hg10 hl0).keep hfr1 (hgz _) hl2⟩, by rw [HNV.out]; rfl, hBz⟩
      · have HKE := Lib.hid (show k = ops.length by omega)
        have HPOS := Lib.hid (pos_eq (c := Mv.C) (d := Mv.D) (o := m) hk hlo (fun h => absurd h hkl))
        obtain ⟨p0, p1, p2, p3, p4⟩ := pwIn5 hPr
        have k2 := cell_regrown p2
        clear p0 p1 p2 p3 p4
        go_wp2_with fail
        refine wp_region_quiet_below (by kernel_rfl) (by kernel_rfl) ?_
        repeat (go_big_quiet_step (fail))
        refine wpQuiet_nil ?_
        intro _ hw'
        obtain ⟨⟨dq, osq⟩, hw''⟩ := hw'
        subst hw''
        have hq := below_regrown wr dq osq
        generalize Sort.grow (redrawn wr dq) osq = w2 at *
        have hB2 := below_then hnx hq
        clear k2
        have hP2 := hPr.below hq
        have hO2 := hOr.below hq
        obtain ⟨p0, p1, p2, p3, p4⟩ := pwIn5 hP2
        have k2 := cell_regrown p2
        clear p0 p1 p2 p3 p4
        go_wp2_with fail
        refine wp_region_quiet_below (by kernel_rfl) (by kernel_rfl) ?_
        repeat (go_big_quiet_step (fail))
        refine wpQuiet_nil ?_
        intro _ hw'
        obtain ⟨⟨dq, osq⟩, hw''⟩ := hw'
        subst hw''
        have hq3 := below_regrown w2 dq osq
        generalize Sort.grow (redrawn w2 dq) osq = w3 at *
        have hB3 := below_then hB2 hq3
        have hP3 := hP2.below hq3
        have hO3 := hO2.below hq3
        have hR3 := hR.below hB3
        have HHF := Lib.hid (has_end (HPOS.out.symm.trans HKE.out))
        clear k2
        go_wp2_with fail
        have hA3e : ∃ A3 : Option Addr, (if oc = k then oA else Option.map (fun x => x.add (k * 7)) oA) = A3 := ⟨_, rfl⟩
        obtain ⟨A3, hA3⟩ := hA3e
        have hO3s := (hxo.1.below hB3)
        have ht1 := hO3s.take k
        have ht3 := hO3s.drop (to := k) hxo.2.2 hA3
        have hz1 := hxo.2.1
        have hz3 : A3 = none → oc - k = 0 := El.drop_none hxo.2.1 hA3
        have e1 : (ops.take k).length = k := by rw [List.length_take]; omega
        have e3 : (ops.drop k).length = ops.length - k := List.length_drop
        have hkc : k ≤ oc := Nat.le_trans hk hxo.2.2
        have i0 : (0 : Int) ≤ (k : Int) := by omega
        have i1 : (k : Int) ≤ (oc : Int) := by omega
        have i2 : (k : Int) ≤ (ops.length : Int) := by omega
        have hnv := addV_new (q := ⟨base, t, ops, us, now⟩) (m := m) (show ¬ m.C ≤ t by omega) HHF.out
        rw [insL_eq HPOS.out] at hnv
        have HNV := Lib.hid hnv
        have HE1 := Lib.hid e1
        have HE3 := Lib.hid e3
        generalize hL1 : ops.take k = L1 at *
        generalize hL3 : ops.drop k = L3 at *
        obtain ⟨B, hBe⟩ : ∃ B, w3.heap.size = B := ⟨_, rfl⟩
        have hKV : InsK W n0 n1 n2 B (⟨bA, bc, base, t, oA, oc, ops, uA, uc, us, wA, wc, now⟩ : Pw) m oA A3 L1 L3 w3.drew := ⟨hP3, hO3, hR3, El.SlB.of ht1 (Nat.le_of_eq hBe), El.SlB.of ht3 (Nat.le_of_eq hBe), hB3.drew, Nat.le_of_eq hBe.symm, by have := hP3.lt; have := hO3.lt; have := hR3.lt; have := hB3.size; omega⟩
        have hBd : w3.drew.heap.size = B := hBe
        have HL890 : L1.length + L3.length + 1 ≤ 891 := by have := HE1.out; have := HE3.out; omega
        clear e1 e3 hnv hL1 hL3 ht1 ht3 hO3s hP3 hO3 hR3 hBe
        refine region_anyG (S := InsS n0 n1 oA ops.length oc m) 15 (by kernel_rfl) ?_
        generalize w3.drew = V at *
        have hS := hKV.s
        simp only at hS
        refine anyG_take (i := 1) (v := .pointer (some ⟨n0, 2, none⟩)) rfl (by kernel_rfl) (by kernel_rfl) (by kernel_rfl) (by kernel_rfl) (by kernel_rfl) (fun _ _ _ h => h) (Or.inl ⟨by rfl, fun w' hSw => by (obtain ⟨s0, s1, s2, s3, s4, s5, s6, s7⟩ := hSw; go_simp)⟩) hS ?_
        try simp only [Act.put, List.setIfInBounds_toArray, List.set_cons_zero, List.set_cons_succ]
        refine anyG_take (i := 2) (v := .slice oA ops.length oc) rfl (by kernel_rfl) (by kernel_rfl) (by kernel_rfl) (by kernel_rfl) (by kernel_rfl) (fun _ _ _ h => h) (Or.inl ⟨by rfl, fun w' hSw => by (obtain ⟨s0, s1, s2, s3, s4, s5, s6, s7⟩ := hSw; go_simp)⟩) hS ?_
        try simp only [Act.put, List.setIfInBounds_toArray, List.set_cons_zero, List.set_cons_succ]
        refine anyG_take (i := 3) (v := .int .i64 k) rfl (by kernel_rfl) (by kernel_rfl) (by kernel_rfl) (by kernel_rfl) (by kernel_rfl) (fun _ _ _ h => h) (Or.inl ⟨by rfl, fun w' hSw => by (obtain ⟨s0, s1, s2, s3, s4, s5, s6, s7⟩ := hSw; go_simp)⟩) hS ?_
        try simp only [Act.put, List.setIfInBounds_toArray, List.set_cons_zero, List.set_cons_succ]
        refine anyG_take (i := 4) (v := .slice oA k oc) rfl (by kernel_rfl) (by kernel_rfl) (by kernel_rfl) (by kernel_rfl) (by kernel_rfl) (fun _ _ _ h => h) (Or.inl ⟨by rfl, fun w' hSw => by (obtain ⟨s0, s1, s2, s3, s4, s5, s6, s7⟩ := hSw; go_simp)⟩) hS ?_
        try simp only [Act.put, List.setIfInBounds_toArray, List.set_cons_zero, List.set_cons_succ]
        refine anyG_take (i := 6) (v := .agg #[.int .i64 m.C, .int .i64 m.D, .int .i64 m.I, .int .i64 m.M, .int .i64 m.K, .int .i64 m.U, .string m.s]) rfl (by kernel_rfl) (by kernel_rfl) (by kernel_rfl) (by kernel_rfl) (by kernel_rfl) (fun _ _ _ h => h) (Or.inl ⟨by rfl, fun w' hSw => by (obtain ⟨s0, s1, s2, s3, s4, s5, s6, s7⟩ := hSw; go_simp)⟩) hS ?_
        try simp only [Act.put, List.setIfInBounds_toArray, List.set_cons_zero, List.set_cons_succ]
        refine anyG_take (i := 9) (v := .pointer (some ⟨n0, 2, none⟩)) rfl (by kernel_rfl) (by kernel_rfl) (by kernel_rfl) (by kernel_rfl) (by kernel_rfl) (fun _ _ _ h => h) (Or.inl ⟨by rfl, fun w' hSw => by (obtain ⟨s0, s1, s2, s3, s4, s5, s6, s7⟩ := hSw; go_simp)⟩) hS ?_
        try simp only [Act.put, List.setIfInBounds_toArray, List.set_cons_zero, List.set_cons_succ]
        refine anyG_take (i := 10) (v := .slice oA ops.length oc) rfl (by kernel_rfl) (by kernel_rfl) (by kernel_rfl) (by kernel_rfl) (by kernel_rfl) (fun _ _ _ h => h) (Or.inl ⟨by rfl, fun w' hSw => by (obtain ⟨s0, s1, s2, s3, s4, s5, s6, s7⟩ := hSw; go_simp)⟩) hS ?_
        try simp only [Act.put, List.setIfInBounds_toArray, List.set_cons_zero, List.set_cons_succ]
        refine anyG_take (i := 11) (v := .int .i64 k) rfl (by kernel_rfl) (by kernel_rfl) (by kernel_rfl) (by kernel_rfl) (by kernel_rfl) (fun _ _ _ h => h) (Or.inl ⟨by rfl, fun w' hSw => by (obtain ⟨s0, s1, s2, s3, s4, s5, s6, s7⟩ := hSw; go_simp)⟩) hS ?_
        try simp only [Act.put, List.setIfInBounds_toArray, List.set_cons_zero, List.set_cons_succ]
        refine anyG_take (i := 12) (v := .slice A3 (ops.length - k) (oc - k)) rfl (by kernel_rfl) (by kernel_rfl) (by kernel_rfl) (by kernel_rfl) (by kernel_rfl) (fun _ _ _ h => h) (Or.inl ⟨by rfl, fun w' hSw => by (obtain ⟨s0, s1, s2, s3, s4, s5, s6, s7⟩ := hSw; go_simp)⟩) hS ?_
        try simp only [Act.put, List.setIfInBounds_toArray, List.set_cons_zero, List.set_cons_succ]
        refine anyG_step (rs := [0, 7]) (by kernel_rfl) (by simp) ?_
        refine AllG.cons rfl (fun K hK => ?_) (AllG.cons rfl (fun K hK => ?_) AllG.nil)
        · have hK1 := hKV.alloc (.cells #[] 35)
          go_simp
          refine hK.out _ _ hK1.s ?_
          try simp only [Act.put, List.setIfInBounds_toArray, List.set_cons_zero, List.set_cons_succ]
          have own1 : opE.Own (V.alloc (.cells #[] 35)) B (.slice (some ⟨B, 0, none⟩) 0 0) [] := by
            have h := El.Own.empty (E := opE) V B (by omega)
            rw [hBd] at h; exact h
          have hsz1 : (V.alloc (.cells #[] 35)).heap.size = B + 1 := by rw [alloc_size, hBd]
          refine anyG_step (rs := [5, 7]) (by kernel_rfl) (by simp) ?_
          refine AllG.cons rfl (fun K hK => ?_) (AllG.cons rfl (fun K hK => ?_) AllG.nil)
          · refine El.step_app opInn rfl (.tmp 49) (.tmp 53) rfl B _ [] L1 rfl own1 oA k oc rfl HE1.out (hK1.o1.sl hK1.sz) hz1 (by simp; omega) hK1.sz ?_
            intro v1 W1 own2 hg1 hat1
            have own2 : opE.Own W1 B v1 L1 := own2
            have hK2 := hK1.grown hg1 (own1).rows
            clear hat1
            refine hK.out _ _ hK2.s ?_
            try simp only [Act.put, List.setIfInBounds_toArray, List.set_cons_zero, List.set_cons_succ]
            refine anyG_step (rs := [7]) (by kernel_rfl) (by simp) ?_
            refine AllG.cons rfl (fun K hK => ?_) AllG.nil
            have hK3 := hK2.alloc (.cells #[.int .i64 m.C, .int .i64 m.D, .int .i64 m.I, .int .i64 m.M, .int .i64 m.K, .int .i64 m.U, .string m.s] 35)
            go_simp
            refine hK.out _ _ hK3.s ?_
            try simp only [Act.put, List.setIfInBounds_toArray, List.set_cons_zero, List.set_cons_succ]
            have own3 := own2.below (below_alloc (Below.refl _ W1) (.cells #[.int .i64 m.C, .int .i64 m.D, .int .i64 m.I, .int .i64 m.M, .int .i64 m.K, .int .i64 m.U, .string m.s] 35))
            have one3 : opE.Sl (W1.alloc (.cells #[.int .i64 m.C, .int .i64 m.D, .int .i64 m.I, .int .i64 m.M, .int .i64 m.K, .int .i64 m.U, .string m.s] 35)) (some ⟨W1.heap.size, 0, none⟩) [m] := (El.In.new (E := opE) W1 m #[.int .i64 m.C, .int .i64 m.D, .int .i64 m.I, .int .i64 m.M, .int .i64 m.K, .int .i64 m.U, .string m.s] rfl).sl
            refine anyG_step (rs := [8]) (by kernel_rfl) (by simp) ?_
            refine AllG.cons rfl (fun K hK => ?_) AllG.nil
            refine El.step_app opInn rfl (.tmp 54) (.tmp 56) rfl B _ L1 [m] rfl own3 (some ⟨W1.heap.size, 0, none⟩) 1 1 rfl rfl one3 (fun e => by cases e) (by simp; omega) hK3.sz ?_
            intro v2 W2 own4 hg2 hat2
            have hK4 := hK3.grown hg2 (own3).rows
            clear hat2
            refine hK.out _ _ hK4.s ?_
            try simp only [Act.put, List.setIfInBounds_toArray, List.set_cons_zero, List.set_cons_succ]
            refine anyG_step (rs := [13]) (by kernel_rfl) (by simp) ?_
            refine AllG.cons rfl (fun K hK => ?_) AllG.nil
            refine El.step_app opInn rfl (.tmp 57) (.tmp 61) rfl B _ (L1 ++ [m]) L3 rfl own4 A3 (ops.length - k) (oc - k) rfl HE3.out (hK4.o3.sl hK4.sz) hz3 (by rw [List.length_append, List.length_singleton]; omega) hK4.sz ?_
            intro v3 W3 ownF hg3 hat3
            have hKF := hK4.grown hg3 (own4).rows
            clear hat3
            refine hK.out _ _ hKF.s ?_
            try simp only [Act.put, List.setIfInBounds_toArray, List.set_cons_zero, List.set_cons_succ]
            obtain ⟨A', c', rfl, hSn⟩ := SlV.own ownF
            have hfr := ownF.frs
            have hLL : ((L1 ++ [m]) ++ L3).length ≤ ops.length + 1 := by rw [List.length_append, List.length_append, List.length_singleton, HE1.out, HE3.out]; omega
            generalize (L1 ++ [m]) ++ L3 = L at *
            have hS := hKF.s
            simp only at hS
            refine anyG_take (i := 14) (v := .pointer (some ⟨n0, 2, none⟩)) rfl (by kernel_rfl) (by kernel_rfl) (by kernel_rfl) (by kernel_rfl) (by kernel_rfl) (fun _ _ _ h => h) (Or.inl ⟨by rfl, fun w' hSw => by (obtain ⟨s0, s1, s2, s3, s4, s5, s6, s7⟩ := hSw; go_simp)⟩) hS ?_
            try simp only [Act.put, List.setIfInBounds_toArray, List.set_cons_zero, List.set_cons_succ]
            refine anyG_step (rs := [15]) (by kernel_rfl) (by simp) ?_
            refine AllG.last (n := 15) rfl (fun K hK => ?_)
            obtain ⟨p0, p1, p2, p3, p4⟩ := pwIn5 hKF.P
            have pf := hKF.P.frozen
            go_simp
            refine hK.out _ _ ?_
            try simp only [Act.put, List.setIfInBounds_toArray, List.set_cons_zero, List.set_cons_succ]
            refine anyG_done (by kernel_rfl) ?_ _
            have hlt4 := hKF.lt
            have hn20 : n2 ≠ n0 := by have := HNN.out; omega
            have hP7 := hKF.P.put ⟨bA, bc, base, t, A', c', L, uA, uc, us, wA, wc, now⟩ 2 (.slice A' L.length c') rfl
            have hR7 := hKF.R.other n0 2 (.slice A' L.length c') hn20
            have hg7 := by_cell W3 n0 2 (.slice A' L.length c')
            have hS7 := hSn.keep hfr hg7 hlt4.1
            have hB6 : Below w.heap.size w W3 := by rw [HNW.out]; exact hB.trans (hKF.bel.mono hn0W)
            have hB7 := hB6.grown hg7 hB6.size (fun j e => by have := Option.some.inj e; have := HNW.out; omega)
            have hb7 := (HL.out.below hB7).b
            simp only at hb7
            have CF := mvRefFold_any bA bc base A' c' L _ (by have := HL9.out; omega) hb7 hS7.1
            generalize W3.setCell ⟨n0, 2, none⟩ (.slice A' L.length c') = W7 at *
            clear p0 p1 p2 p3 p4 pf hK hKF hS hSn ownF
            obtain ⟨r0, r1, r2, r3, r4⟩ := pwIn5 hP7
            go_wp2_with fail
            refine CF.mono ?_
            rintro e W8 ⟨A5, c5, U5, uc5, rfl, hF1, hF2, hfr1, hfr2, hb8⟩
            clear CF r0 r1 r2 r3 r4
            have hP8 := hP7.below hb8
            have hR8 := hR7.below hb8
            have hS8 := hS7.below hb8
            have hl0 := hP7.lt
            have hl2 := hR7.lt
            generalize (foldL base (mvs L)).1 = now1 at *
            generalize (foldL base (mvs L)).2 = us1 at *
            obtain ⟨r0, r1, r2, r3, r4⟩ := pwIn5 hP8
            have pf8 := hP8.frozen
            have hP10 := (hP8.put ⟨bA, bc, base, t, A', c', L, uA, uc, us, A5, c5, now1⟩ 4 (.slice A5 now1.length c5) rfl).put ⟨bA, bc, base, t, A', c', L, U5, uc5, us1, A5, c5, now1⟩ 3 (.slice U5 us1.length uc5) rfl
            have hR10 := (hR8.other n0 4 (.slice A5 now1.length c5) hn20).other n0 3 (.slice U5 us1.length uc5) hn20
            have hg10 := by_cell2 (by_cell W8 n0 4 (.slice A5 now1.length c5)) 3 (.slice U5 us1.length uc5)
            go_wp2_with (first | (refine El.load pwRow rfl _ rfl n0 0 rfl ⟨bA, bc, base, t, A', c', L, U5, uc5, us1, A5, c5, now1⟩ hP10.at #[.slice bA base.length bc, .int .i64 t, .slice A' L.length c', .slice U5 us1.length uc5, .slice A5 now1.length c5] rfl ?_) | (refine El.store pwRow rfl _ _ rfl n2 ⟨bA, bc, base, t, A', c', L, U5, uc5, us1, A5, c5, now1⟩ #[.slice bA base.length bc, .int .i64 t, .slice A' L.length c', .slice U5 us1.length uc5, .slice A5 now1.length c5] rfl rfl rfl Pw.zero hR10 ?_))
            refine El.ret2 pwRow (v := .bool true) (hR10.set ⟨bA, bc, base, t, A', c', L, U5, uc5, us1, A5, c5, now1⟩ #[.slice bA base.length bc, .int .i64 t, .slice A' L.length c', .slice U5 us1.length uc5, .slice A5 now1.length c5] rfl) rfl rfl rfl rfl #[.slice bA base.length bc, .int .i64 t, .slice A' L.length c', .slice U5 us1.length uc5, .slice A5 now1.length c5] rfl ?_
            have hw0 : w.heap.size ≤ n0 ∧ w.heap.size ≤ n2 := by have := HNN.out; have := HNW.out; omega
            have hB8 := below_then hB7 hb8
            have hB10 := hB8.grown hg10 hB8.size (fun j e => by have := Option.some.inj e; omega)
            have hBz := below_setRow hB10 hw0.2 #[.slice bA base.length bc, .int .i64 t, .slice A' L.length c', .slice U5 us1.length uc5, .slice A5 now1.length c5]
            have hgz := fun W => by_row W n2 #[.slice bA base.length bc, .int .i64 t, .slice A' L.length c', .slice U5 us1.length uc5, .slice A5 now1.length c5]
            exact ⟨⟨bA, bc, base, t, A', c', L, U5, uc5, us1, A5, c5, now1⟩, by rw [HNV.out], ⟨(HL.out.below hBz).b, (hS8.keep hfr hg10 hlt4.1).keep hfr (hgz _) hlt4.2.2.1, (hF2.keep hfr2 hg10 hl0).keep hfr2 (hgz _) hl2, (hF1.keep hfr1 hg10 hl0).keep hfr1 (hgz _) hl2⟩, by rw [HNV.out]; rfl, hBz⟩
          · have hK2 := hK1.alloc (.cells #[.int .i64 m.C, .int .i64 m.D, .int .i64 m.I, .int .i64 m.M, .int .i64 m.K, .int .i64 m.U, .string m.s] 35)
            go_simp
            refine hK.out _ _ hK2.s ?_
            try simp only [Act.put, List.setIfInBounds_toArray, List.set_cons_zero, List.set_cons_succ]
            have own2 := own1.below (below_alloc (Below.refl _ (V.alloc (.cells #[] 35))) (.cells #[.int .i64 m.C, .int .i64 m.D, .int .i64 m.I, .int .i64 m.M, .int .i64 m.K, .int .i64 m.U, .string m.s] 35))
            have one2 : opE.Sl ((V.alloc (.cells #[] 35)).alloc (.cells #[.int .i64 m.C, .int .i64 m.D, .int .i64 m.I, .int .i64 m.M, .int .i64 m.K, .int .i64 m.U, .string m.s] 35)) (some ⟨B + 1, 0, none⟩) [m] := by
              have h := (El.In.new (E := opE) (V.alloc (.cells #[] 35)) m #[.int .i64 m.C, .int .i64 m.D, .int .i64 m.I, .int .i64 m.M, .int .i64 m.K, .int .i64 m.U, .string m.s] rfl).sl
              rw [hsz1] at h; exact h
            refine anyG_step (rs := [5]) (by kernel_rfl) (by simp) ?_
            refine AllG.cons rfl (fun K hK => ?_) AllG.nil
            refine El.step_app opInn rfl (.tmp 49) (.tmp 53) rfl B _ [] L1 rfl own2 oA k oc rfl HE1.out (hK2.o1.sl hK2.sz) hz1 (by simp; omega) hK2.sz ?_
            intro v1 W1 own3 hg1 hat1
            have own3 : opE.Own W1 B v1 L1 := own3
            have hK3 := hK2.grown hg1 (own2).rows
            have one3 := one2.keep1 hg1 (fun e => by have e : some (B + 1) = some B := e; have := Option.some.inj e; omega)
            clear hat1
            refine hK.out _ _ hK3.s ?_
            try simp only [Act.put, List.setIfInBounds_toArray, List.set_cons_zero, List.set_cons_succ]
            refine anyG_step (rs := [8]) (by kernel_rfl) (by simp) ?_
            refine AllG.cons rfl (fun K hK => ?_) AllG.nil
            refine El.step_app opInn rfl (.tmp 54) (.tmp 56) rfl B _ L1 [m] rfl own3 (some ⟨B + 1, 0, none⟩) 1 1 rfl rfl one3 (fun e => by cases e) (by simp; omega) hK3.sz ?_
            intro v2 W2 own4 hg2 hat2
            have hK4 := hK3.grown hg2 (own3).rows
            clear hat2
            refine hK.out _ _ hK4.s ?_
            try simp only [Act.put, List.setIfInBounds_toArray, List.set_cons_zero, List.set_cons_succ]
            refine anyG_step (rs := [13]) (by kernel_rfl) (by simp) ?_
            refine AllG.cons rfl (fun K hK => ?_) AllG.nil
            refine El.step_app opInn rfl (.tmp 57) (.tmp 61) rfl B _ (L1 ++ [m]) L3 rfl own4 A3 (ops.length - k) (oc - k) rfl HE3.out (hK4.o3.sl hK4.sz) hz3 (by rw [List.length_append, List.length_singleton]; omega) hK4.sz ?_
            intro v3 W3 ownF hg3 hat3
            have hKF := hK4.grown hg3 (own4).rows
            clear hat3
            refine hK.out _ _ hKF.s ?_
            try simp only [Act.put, List.setIfInBounds_toArray, List.set_cons_zero, List.set_cons_succ]
            obtain ⟨A', c', rfl, hSn⟩ := SlV.own ownF
            have hfr := ownF.frs
            have hLL : ((L1 ++ [m]) ++ L3).length ≤ ops.length + 1 := by rw [List.length_append, List.length_append, List.length_singleton, HE1.out, HE3.out]; omega
            generalize (L1 ++ [m]) ++ L3 = L at *
            have hS := hKF.s
            simp only at hS
            refine anyG_take (i := 14) (v := .pointer (some ⟨n0, 2, none⟩)) rfl (by kernel_rfl) (by kernel_rfl) (by kernel_rfl) (by kernel_rfl) (by kernel_rfl) (fun _ _ _ h => h) (Or.inl ⟨by rfl, fun w' hSw => by (obtain ⟨s0, s1, s2, s3, s4, s5, s6, s7⟩ := hSw; go_simp)⟩) hS ?_
            try simp only [Act.put, List.setIfInBounds_toArray, List.set_cons_zero, List.set_cons_succ]
            refine anyG_step (rs := [15]) (by kernel_rfl) (by simp) ?_
            refine AllG.last (n := 15) rfl (fun K hK => ?_)
            obtain ⟨p0, p1, p2, p3, p4⟩ := pwIn5 hKF.P
            have pf := hKF.P.frozen
            go_simp
            refine hK.out _ _ ?_
            try simp only [Act.put, List.setIfInBounds_toArray, List.set_cons_zero, List.set_cons_succ]
            refine anyG_done (by kernel_rfl) ?_ _
            have hlt4 := hKF.lt
            have hn20 : n2 ≠ n0 := by have := HNN.out; omega
            have hP7 := hKF.P.put ⟨bA, bc, base, t, A', c', L, uA, uc, us, wA, wc, now⟩ 2 (.slice A' L.length c') rfl
            have hR7 := hKF.R.other n0 2 (.slice A' L.length c') hn20
            have hg7 := by_cell W3 n0 2 (.slice A' L.length c')
            have hS7 := hSn.keep hfr hg7 hlt4.1
            have hB6 : Below w.heap.size w W3 := by rw [HNW.out]; exact hB.trans (hKF.bel.mono hn0W)
            have hB7 := hB6.grown hg7 hB6.size (fun j e => by have := Option.some.inj e; have := HNW.out; omega)
            have hb7 := (HL.out.below hB7).b
            simp only at hb7
            have CF := mvRefFold_any bA bc base A' c' L _ (by have := HL9.out; omega) hb7 hS7.1
            generalize W3.setCell ⟨n0, 2, none⟩ (.slice A' L.length c') = W7 at *
            clear p0 p1 p2 p3 p4 pf hK hKF hS hSn ownF
            obtain ⟨r0, r1, r2, r3, r4⟩ := pwIn5 hP7
            go_wp2_with fail
            refine CF.mono ?_
            rintro e W8 ⟨A5, c5, U5, uc5, rfl, hF1, hF2, hfr1, hfr2, hb8⟩
            clear CF r0 r1 r2 r3 r4
            have hP8 := hP7.below hb8
            have hR8 := hR7.below hb8
            have hS8 := hS7.below hb8
            have hl0 := hP7.lt
            have hl2 := hR7.lt
            generalize (foldL base (mvs L)).1 = now1 at *
            generalize (foldL base (mvs L)).2 = us1 at *
            obtain ⟨r0, r1, r2, r3, r4⟩ := pwIn5 hP8
            have pf8 := hP8.frozen
            have hP10 := (hP8.put ⟨bA, bc, base, t, A', c', L, uA, uc, us, A5, c5, now1⟩ 4 (.slice A5 now1.length c5) rfl).put ⟨bA, bc, base, t, A', c', L, U5, uc5, us1, A5, c5, now1⟩ 3 (.slice U5 us1.length uc5) rfl
            have hR10 := (hR8.other n0 4 (.slice A5 now1.length c5) hn20).other n0 3 (.slice U5 us1.length uc5) hn20
            have hg10 := by_cell2 (by_cell W8 n0 4 (.slice A5 now1.length c5)) 3 (.slice U5 us1.length uc5)
            go_wp2_with (first | (refine El.load pwRow rfl _ rfl n0 0 rfl ⟨bA, bc, base, t, A', c', L, U5, uc5, us1, A5, c5, now1⟩ hP10.at #[.slice bA base.length bc, .int .i64 t, .slice A' L.length c', .slice U5 us1.length uc5, .slice A5 now1.length c5] rfl ?_) | (refine El.store pwRow rfl _ _ rfl n2 ⟨bA, bc, base, t, A', c', L, U5, uc5, us1, A5, c5, now1⟩ #[.slice bA base.length bc, .int .i64 t, .slice A' L.length c', .slice U5 us1.length uc5, .slice A5 now1.length c5] rfl rfl rfl Pw.zero hR10 ?_))
            refine El.ret2 pwRow (v := .bool true) (hR10.set ⟨bA, bc, base, t, A', c', L, U5, uc5, us1, A5, c5, now1⟩ #[.slice bA base.length bc, .int .i64 t, .slice A' L.length c', .slice U5 us1.length uc5, .slice A5 now1.length c5] rfl) rfl rfl rfl rfl #[.slice bA base.length bc, .int .i64 t, .slice A' L.length c', .slice U5 us1.length uc5, .slice A5 now1.length c5] rfl ?_
            have hw0 : w.heap.size ≤ n0 ∧ w.heap.size ≤ n2 := by have := HNN.out; have := HNW.out; omega
            have hB8 := below_then hB7 hb8
            have hB10 := hB8.grown hg10 hB8.size (fun j e => by have := Option.some.inj e; omega)
            have hBz := below_setRow hB10 hw0.2 #[.slice bA base.length bc, .int .i64 t, .slice A' L.length c', .slice U5 us1.length uc5, .slice A5 now1.length c5]
            have hgz := fun W => by_row W n2 #[.slice bA base.length bc, .int .i64 t, .slice A' L.length c', .slice U5 us1.length uc5, .slice A5 now1.length c5]
            exact ⟨⟨bA, bc, base, t, A', c', L, U5, uc5, us1, A5, c5, now1⟩, by rw [HNV.out], ⟨(HL.out.below hBz).b, (hS8.keep hfr hg10 hlt4.1).keep hfr (hgz _) hlt4.2.2.1, (hF2.keep hfr2 hg10 hl0).keep hfr2 (hgz _) hl2, (hF1.keep hfr1 hg10 hl0).keep hfr1 (hgz _) hl2⟩, by rw [HNV.out]; rfl, hBz⟩
        · have hK1 := hKV.alloc (.cells #[.int .i64 m.C, .int .i64 m.D, .int .i64 m.I, .int .i64 m.M, .int .i64 m.K, .int .i64 m.U, .string m.s] 35)
          go_simp
          refine hK.out _ _ hK1.s ?_
          try simp only [Act.put, List.setIfInBounds_toArray, List.set_cons_zero, List.set_cons_succ]
          have one1 : opE.Sl (V.alloc (.cells #[.int .i64 m.C, .int .i64 m.D, .int .i64 m.I, .int .i64 m.M, .int .i64 m.K, .int .i64 m.U, .string m.s] 35)) (some ⟨B, 0, none⟩) [m] := by
            have h := (El.In.new (E := opE) V m #[.int .i64 m.C, .int .i64 m.D, .int .i64 m.I, .int .i64 m.M, .int .i64 m.K, .int .i64 m.U, .string m.s] rfl).sl
            rw [hBd] at h; exact h
          have hsz1 : (V.alloc (.cells #[.int .i64 m.C, .int .i64 m.D, .int .i64 m.I, .int .i64 m.M, .int .i64 m.K, .int .i64 m.U, .string m.s] 35)).heap.size = B + 1 := by rw [alloc_size, hBd]
          refine anyG_step (rs := [0]) (by kernel_rfl) (by simp) ?_
          refine AllG.cons rfl (fun K hK => ?_) AllG.nil
          have hK2 := hK1.alloc (.cells #[] 35)
          go_simp
          refine hK.out _ _ hK2.s ?_
          try simp only [Act.put, List.setIfInBounds_toArray, List.set_cons_zero, List.set_cons_succ]
          have own2 : opE.Own ((V.alloc (.cells #[.int .i64 m.C, .int .i64 m.D, .int .i64 m.I, .int .i64 m.M, .int .i64 m.K, .int .i64 m.U, .string m.s] 35)).alloc (.cells #[] 35)) B (.slice (some ⟨B + 1, 0, none⟩) 0 0) [] := by
            have h := El.Own.empty (E := opE) (V.alloc (.cells #[.int .i64 m.C, .int .i64 m.D, .int .i64 m.I, .int .i64 m.M, .int .i64 m.K, .int .i64 m.U, .string m.s] 35)) B (by omega)
            rw [hsz1] at h; exact h
          have one2 := one1.below (below_alloc (Below.refl _ (V.alloc (.cells #[.int .i64 m.C, .int .i64 m.D, .int .i64 m.I, .int .i64 m.M, .int .i64 m.K, .int .i64 m.U, .string m.s] 35))) (.cells #[] 35))
          refine anyG_step (rs := [5]) (by kernel_rfl) (by simp) ?_
          refine AllG.cons rfl (fun K hK => ?_) AllG.nil
          refine El.step_app opInn rfl (.tmp 49) (.tmp 53) rfl B _ [] L1 rfl own2 oA k oc rfl HE1.out (hK2.o1.sl hK2.sz) hz1 (by simp; omega) hK2.sz ?_
          intro v1 W1 own3 hg1 hat1
          have own3 : opE.Own W1 B v1 L1 := own3
          have hK3 := hK2.grown hg1 (own2).rows
          have one3 := one2.keep1 hg1 (fun e => by have e : some B = some (B + 1) := e; have := Option.some.inj e; omega)
          clear hat1
          refine hK.out _ _ hK3.s ?_
          try simp only [Act.put, List.setIfInBounds_toArray, List.set_cons_zero, List.set_cons_succ]
          refine anyG_step (rs := [8]) (by kernel_rfl) (by simp) ?_
          refine AllG.cons rfl (fun K hK => ?_) AllG.nil
          refine El.step_app opInn rfl (.tmp 54) (.tmp 56) rfl B _ L1 [m] rfl own3 (some ⟨B, 0, none⟩) 1 1 rfl rfl one3 (fun e => by cases e) (by simp; omega) hK3.sz ?_
          intro v2 W2 own4 hg2 hat2
          have hK4 := hK3.grown hg2 (own3).rows
          clear hat2
          refine hK.out _ _ hK4.s ?_
          try simp only [Act.put, List.setIfInBounds_toArray, List.set_cons_zero, List.set_cons_succ]
          refine anyG_step (rs := [13]) (by kernel_rfl) (by simp) ?_
          refine AllG.cons rfl (fun K hK => ?_) AllG.nil
          refine El.step_app opInn rfl (.tmp 57) (.tmp 61) rfl B _ (L1 ++ [m]) L3 rfl own4 A3 (ops.length - k) (oc - k) rfl HE3.out (hK4.o3.sl hK4.sz) hz3 (by rw [List.length_append, List.length_singleton]; omega) hK4.sz ?_
          intro v3 W3 ownF hg3 hat3
          have hKF := hK4.grown hg3 (own4).rows
          clear hat3
          refine hK.out _ _ hKF.s ?_
          try simp only [Act.put, List.setIfInBounds_toArray, List.set_cons_zero, List.set_cons_succ]
          obtain ⟨A', c', rfl, hSn⟩ := SlV.own ownF
          have hfr := ownF.frs
          have hLL : ((L1 ++ [m]) ++ L3).length ≤ ops.length + 1 := by rw [List.length_append, List.length_append, List.length_singleton, HE1.out, HE3.out]; omega
          generalize (L1 ++ [m]) ++ L3 = L at *
          have hS := hKF.s
          simp only at hS
          refine anyG_take (i := 14) (v := .pointer (some ⟨n0, 2, none⟩)) rfl (by kernel_rfl) (by kernel_rfl) (by kernel_rfl) (by kernel_rfl) (by kernel_rfl) (fun _ _ _ h => h) (Or.inl ⟨by rfl, fun w' hSw => by (obtain ⟨s0, s1, s2, s3, s4, s5, s6, s7⟩ := hSw; go_simp)⟩) hS ?_
          try simp only [Act.put, List.setIfInBounds_toArray, List.set_cons_zero, List.set_cons_succ]
          refine anyG_step (rs := [15]) (by kernel_rfl) (by simp) ?_
          refine AllG.last (n := 15) rfl (fun K hK => ?_)
          obtain ⟨p0, p1, p2, p3, p4⟩ := pwIn5 hKF.P
          have pf := hKF.P.frozen
          go_simp
          refine hK.out _ _ ?_
          try simp only [Act.put, List.setIfInBounds_toArray, List.set_cons_zero, List.set_cons_succ]
          refine anyG_done (by kernel_rfl) ?_ _
          have hlt4 := hKF.lt
          have hn20 : n2 ≠ n0 := by have := HNN.out; omega
          have hP7 := hKF.P.put ⟨bA, bc, base, t, A', c', L, uA, uc, us, wA, wc, now⟩ 2 (.slice A' L.length c') rfl
          have hR7 := hKF.R.other n0 2 (.slice A' L.length c') hn20
          have hg7 := by_cell W3 n0 2 (.slice A' L.length c')
          have hS7 := hSn.keep hfr hg7 hlt4.1
          have hB6 : Below w.heap.size w W3 := by rw [HNW.out]; exact hB.trans (hKF.bel.mono hn0W)
          have hB7 := hB6.grown hg7 hB6.size (fun j e => by have := Option.some.inj e; have := HNW.out; omega)
          have hb7 := (HL.out.below hB7).b
          simp only at hb7
          have CF := mvRefFold_any bA bc base A' c' L _ (by have := HL9.out; omega) hb7 hS7.1
          generalize W3.setCell ⟨n0, 2, none⟩ (.slice A' L.length c') = W7 at *
          clear p0 p1 p2 p3 p4 pf hK hKF hS hSn ownF
          obtain ⟨r0, r1, r2, r3, r4⟩ := pwIn5 hP7
          go_wp2_with fail
          refine CF.mono ?_
          rintro e W8 ⟨A5, c5, U5, uc5, rfl, hF1, hF2, hfr1, hfr2, hb8⟩
          clear CF r0 r1 r2 r3 r4
          have hP8 := hP7.below hb8
          have hR8 := hR7.below hb8
          have hS8 := hS7.below hb8
          have hl0 := hP7.lt
          have hl2 := hR7.lt
          generalize (foldL base (mvs L)).1 = now1 at *
          generalize (foldL base (mvs L)).2 = us1 at *
          obtain ⟨r0, r1, r2, r3, r4⟩ := pwIn5 hP8
          have pf8 := hP8.frozen
          have hP10 := (hP8.put ⟨bA, bc, base, t, A', c', L, uA, uc, us, A5, c5, now1⟩ 4 (.slice A5 now1.length c5) rfl).put ⟨bA, bc, base, t, A', c', L, U5, uc5, us1, A5, c5, now1⟩ 3 (.slice U5 us1.length uc5) rfl
          have hR10 := (hR8.other n0 4 (.slice A5 now1.length c5) hn20).other n0 3 (.slice U5 us1.length uc5) hn20
          have hg10 := by_cell2 (by_cell W8 n0 4 (.slice A5 now1.length c5)) 3 (.slice U5 us1.length uc5)
          go_wp2_with (first | (refine El.load pwRow rfl _ rfl n0 0 rfl ⟨bA, bc, base, t, A', c', L, U5, uc5, us1, A5, c5, now1⟩ hP10.at #[.slice bA base.length bc, .int .i64 t, .slice A' L.length c', .slice U5 us1.length uc5, .slice A5 now1.length c5] rfl ?_) | (refine El.store pwRow rfl _ _ rfl n2 ⟨bA, bc, base, t, A', c', L, U5, uc5, us1, A5, c5, now1⟩ #[.slice bA base.length bc, .int .i64 t, .slice A' L.length c', .slice U5 us1.length uc5, .slice A5 now1.length c5] rfl rfl rfl Pw.zero hR10 ?_))
          refine El.ret2 pwRow (v := .bool true) (hR10.set ⟨bA, bc, base, t, A', c', L, U5, uc5, us1, A5, c5, now1⟩ #[.slice bA base.length bc, .int .i64 t, .slice A' L.length c', .slice U5 us1.length uc5, .slice A5 now1.length c5] rfl) rfl rfl rfl rfl #[.slice bA base.length bc, .int .i64 t, .slice A' L.length c', .slice U5 us1.length uc5, .slice A5 now1.length c5] rfl ?_
          have hw0 : w.heap.size ≤ n0 ∧ w.heap.size ≤ n2 := by have := HNN.out; have := HNW.out; omega
          have hB8 := below_then hB7 hb8
          have hB10 := hB8.grown hg10 hB8.size (fun j e => by have := Option.some.inj e; omega)
          have hBz := below_setRow hB10 hw0.2 #[.slice bA base.length bc, .int .i64 t, .slice A' L.length c', .slice U5 us1.length uc5, .slice A5 now1.length c5]
          have hgz := fun W => by_row W n2 #[.slice bA base.length bc, .int .i64 t, .slice A' L.length c', .slice U5 us1.length uc5, .slice A5 now1.length c5]
          exact ⟨⟨bA, bc, base, t, A', c', L, U5, uc5, us1, A5, c5, now1⟩, by rw [HNV.out], ⟨(HL.out.below hBz).b, (hS8.keep hfr hg10 hlt4.1).keep hfr (hgz _) hlt4.2.2.1, (hF2.keep hfr2 hg10 hl0).keep hfr2 (hgz _) hl2, (hF1.keep hfr1 hg10 hl0).keep hfr1 (hgz _) hl2⟩, by rw [HNV.out]; rfl, hBz⟩
end Go.Proofs.Ytoidondngoljaaa

/- The document's Settle. -/
namespace Go.Proofs.Ytoidondngoljaaa
open Go.RowKit Tre Cod Pst

def SetS (n0 : Nat) (bA : Option Addr) (bl bc : Nat) (A : Option Addr) (len c : Nat) (w : World) : Prop := w.cell? ⟨n0, 0, none⟩ = some (.slice bA bl bc) ∧ w.cell? ⟨n0, 2, none⟩ = some (.slice A len c)
theorem settleV_late {q : Pv} {t : Int} (h : t ≤ q.t) : settleV q t = q := by unfold settleV; rw [if_pos h]
theorem settleV_new {q : Pv} {t : Int} (h : ¬ t ≤ q.t) {k : Nat} (hk : k = upto Mv.C q.ops t) : settleV q t =
    ⟨(foldL q.base (mvs (q.ops.take k))).1, t, q.ops.drop k, (foldL (foldL q.base (mvs (q.ops.take k))).1 (mvs (q.ops.drop k))).2, (foldL (foldL q.base (mvs (q.ops.take k))).1 (mvs (q.ops.drop k))).1⟩ := by
  subst hk; unfold settleV; rw [if_neg h]

set_option maxRecDepth 100000 in
set_option maxHeartbeats 4000000 in
theorem refSettle_any (x : Pw) (s : Int) (w : World) (hx : PastOk w x) (hl : x.base.length + x.ops.length ≤ 890) :
    Calls Try.prog 15 #[.agg #[.slice x.bA x.base.length x.bc, .int .i64 x.t, .slice x.oA x.ops.length x.oc, .slice x.uA x.us.length x.uc, .slice x.wA x.now.length x.wc], .int .i64 s] w fun e w' => ∃ y : Pw, e = .returned (.agg #[.slice y.bA y.base.length y.bc, .int .i64 y.t, .slice y.oA y.ops.length y.oc, .slice y.uA y.us.length y.uc, .slice y.wA y.now.length y.wc]) ∧ PastOk w' y ∧ y.v = settleV x.v s ∧ Below w.heap.size w w' := by
  obtain ⟨bA, bc, base, t, oA, oc, ops, uA, uc, us, wA, wc, now⟩ := x
  simp only at hl
  have hv : (⟨bA, bc, base, t, oA, oc, ops, uA, uc, us, wA, wc, now⟩ : Pw).v = ⟨base, t, ops, us, now⟩ := rfl
  have hP : pwE.In ((w.alloc (.cells #[.slice bA base.length bc, .int .i64 t, .slice oA ops.length oc, .slice uA us.length uc, .slice wA now.length wc] 29)).alloc (.cells #[.slice none 0 0, .int .i64 0, .slice none 0 0, .slice none 0 0, .slice none 0 0] 29)) w.heap.size (⟨bA, bc, base, t, oA, oc, ops, uA, uc, us, wA, wc, now⟩ : Pw) := (El.In.new (E := pwE) w (⟨bA, bc, base, t, oA, oc, ops, uA, uc, us, wA, wc, now⟩ : Pw) _ rfl).alloc _
  have hR : pwE.In ((w.alloc (.cells #[.slice bA base.length bc, .int .i64 t, .slice oA ops.length oc, .slice uA us.length uc, .slice wA now.length wc] 29)).alloc (.cells #[.slice none 0 0, .int .i64 0, .slice none 0 0, .slice none 0 0, .slice none 0 0] 29)) (w.heap.size + 1) Pw.zero := by
    have h := El.In.new (E := pwE) (w.alloc (.cells #[.slice bA base.length bc, .int .i64 t, .slice oA ops.length oc, .slice uA us.length uc, .slice wA now.length wc] 29)) Pw.zero #[.slice none 0 0, .int .i64 0, .slice none 0 0, .slice none 0 0, .slice none 0 0] rfl
    rw [alloc_size] at h; exact h
  have hB := below_alloc (below_alloc (Below.refl w.heap.size w) (.cells #[.slice bA base.length bc, .int .i64 t, .slice oA ops.length oc, .slice uA us.length uc, .slice wA now.length wc] 29)) (.cells #[.slice none 0 0, .int .i64 0, .slice none 0 0, .slice none 0 0, .slice none 0 0] 29)
  rw [hv]
  clear hv
  by_cases hle : s ≤ t
  · have HA := Lib.hid (settleV_late (q := ⟨base, t, ops, us, now⟩) hle)
    go_enter Try.func15, Try.ntmps15
    go_wp2_with (first | (refine El.load pwRow rfl _ rfl w.heap.size 0 rfl (⟨bA, bc, base, t, oA, oc, ops, uA, uc, us, wA, wc, now⟩ : Pw) hP.at #[.slice bA base.length bc, .int .i64 t, .slice oA ops.length oc, .slice uA us.length uc, .slice wA now.length wc] rfl ?_) | (refine El.store pwRow rfl _ _ rfl (w.heap.size + 1) (⟨bA, bc, base, t, oA, oc, ops, uA, uc, us, wA, wc, now⟩ : Pw) #[.slice bA base.length bc, .int .i64 t, .slice oA ops.length oc, .slice uA us.length uc, .slice wA now.length wc] rfl rfl rfl Pw.zero hR ?_))
    refine El.ret1 pwRow (hR.set (⟨bA, bc, base, t, oA, oc, ops, uA, uc, us, wA, wc, now⟩ : Pw) #[.slice bA base.length bc, .int .i64 t, .slice oA ops.length oc, .slice uA us.length uc, .slice wA now.length wc] rfl) rfl rfl rfl #[.slice bA base.length bc, .int .i64 t, .slice oA ops.length oc, .slice uA us.length uc, .slice wA now.length wc] rfl ?_
    exact ⟨(⟨bA, bc, base, t, oA, oc, ops, uA, uc, us, wA, wc, now⟩ : Pw), rfl, hx.below (below_setRow hB (by omega) _), by rw [HA.out]; rfl, below_setRow hB (by omega) _⟩
  · go_enter Try.func15, Try.ntmps15
    go_wp2_with fail
    generalize ((w.alloc (.cells #[.slice bA base.length bc, .int .i64 t, .slice oA ops.length oc, .slice uA us.length uc, .slice wA now.length wc] 29)).alloc (.cells #[.slice none 0 0, .int .i64 0, .slice none 0 0, .slice none 0 0, .slice none 0 0] 29)) = W at *
    have hBs := hB.size
    obtain ⟨n1, h1⟩ : ∃ n, w.heap.size + 1 = n := ⟨_, rfl⟩
    rw [h1] at hR ⊢
    obtain ⟨n0, h0⟩ : ∃ n, w.heap.size = n := ⟨_, rfl⟩
    have hx1 := hx.below hB
    rw [h0] at hP ⊢
    have HNN := Lib.hid (show n1 = n0 + 1 ∧ w.heap.size = n0 by omega)
    have HL := Lib.hid hx
    have HL9 := Lib.hid hl
    have hle9 : ops.length ≤ 890 := by omega
    have hn01 : n0 ≠ n1 := by omega
    clear h0 h1 hx hl
    obtain ⟨hxb, hxo, hxu, hxw⟩ := hx1
    simp only at hxb hxo hxu hxw
    go_loopw [5] (fun k0 wr => ∃ k : Nat, k ≤ ops.length ∧ k0 = .int .i64 k ∧ (∀ i (h : i < ops.length), i < k → ops[i].C ≤ s) ∧ Below W.heap.size W wr) (fun k0 _ => ops.length - (intOf k0).toNat)
    case atStart => exact ⟨0, Nat.zero_le _, rfl, fun i h hi => by omega, Below.refl _ _⟩
    case round =>
      obtain ⟨k, hk, rfl, hlo, hnx⟩ := hrel
      have hP3 := hP.below hnx
      have hR3 := hR.below hnx
      obtain ⟨p0, p1, p2, p3, p4⟩ := pwIn5 hP3
      by_cases hkl : k < ops.length
      · obtain ⟨b, off, hoA, hbw, hc⟩ := hxo.1 (by omega)
        have hat : opE.At wr b (off + k * 7) ops[k] := (hc k hkl).below hnx hbw
        obtain ⟨mk, hmk⟩ : ∃ mk, ops[k] = mk := ⟨_, rfl⟩
        rw [hmk] at hat
        obtain ⟨t0, t1, t2, t3, t4, t5, t6⟩ := opAt hat
        subst hoA
        by_cases hcs : mk.C ≤ s
        · have HCS := Lib.hid hcs
          go_wp2_with fail
          go_roundw
          case rel =>
            refine ⟨k + 1, by omega, by go_num, fun i hi hlt2 => ?_, hnx⟩
            by_cases e : i = k
            · subst e; rw [hmk]; exact HCS.out
            · exact hlo i hi (by omega)
          case measure => simp [intOf]; omega
        · have HPOS := Lib.hid (upto_eq (c := Mv.C) (t := s) hk hlo (fun h => by rw [hmk]; omega))
          clear t1 t2 t3 t4 t5 t6 p0 p1 p3 p4
          go_wp2_with fail
          have hA3e : ∃ A3 : Option Addr, (if oc = k then (some ⟨b, off, none⟩ : Option Addr) else Option.map (fun x => x.add (k * 7)) (some ⟨b, off, none⟩ : Option Addr)) = A3 := ⟨_, rfl⟩
          obtain ⟨A3, hA3⟩ := hA3e
          have hO3s := (hxo.1.below hnx)
          have ht1 := hO3s.take k
          have ht3 := fun (Wx : World) (hb : Below wr.heap.size wr Wx) => (hO3s.below hb).drop (to := k) hxo.2.2 hA3
          have hz3 : A3 = none → oc - k = 0 := El.drop_none hxo.2.1 hA3
          have e1 : (ops.take k).length = k := by rw [List.length_take]; omega
          have e3 : (ops.drop k).length = ops.length - k := List.length_drop
          have hkc : k ≤ oc := Nat.le_trans hk hxo.2.2
          have i0 : (0 : Int) ≤ (k : Int) := by omega
          have i1 : (k : Int) ≤ (oc : Int) := by omega
          have i2 : (k : Int) ≤ (ops.length : Int) := by omega
          have hnv := settleV_new (q := ⟨base, t, ops, us, now⟩) (t := s) (show ¬ s ≤ t by omega) HPOS.out
          simp only at hnv
          have hlb := foldL_len1 base (mvs (ops.take k))
          rw [mvs_len, e1] at hlb
          have CF1 := mvRefFold_any bA bc base (some ⟨b, off, none⟩) oc (ops.take k) wr.drew (by have := HL9.out; omega) (hxb.below hnx.drew) (ht1.below (Below.refl _ wr).drew)
          rw [e1] at CF1
          have hl0 := hP3.lt
          have hl1 := hR3.lt
          have hA3s := hA3
          simp only [Option.map_some, Addr.add_lit] at hA3s
          have HNV := Lib.hid hnv
          have HE3 := Lib.hid e3
          have HT3 := Lib.hid ht3
          have HLB := Lib.hid hlb
          have HCF := Lib.hid CF1
          generalize hL3 : ops.drop k = L3 at *
          have HL3 := Lib.hid hL3
          generalize (foldL base (mvs (ops.take k))).1 = b1 at *
          generalize (foldL base (mvs (ops.take k))).2 = u1 at *
          clear e1 e3 hnv hL3 ht1 ht3 hlb CF1 hO3s
          refine region_anyG (S := SetS n0 bA base.length bc (some ⟨b, off, none⟩) ops.length oc) 11 (by kernel_rfl) ?_
          replace hP3 : pwE.In wr.drew n0 ⟨bA, bc, base, t, (some ⟨b, off, none⟩), oc, ops, uA, uc, us, wA, wc, now⟩ := hP3
          replace hR3 : pwE.In wr.drew n1 Pw.zero := hR3
          have hnd : Below wr.heap.size wr wr.drew := (Below.refl _ wr).drew
          replace hl0 : n0 < wr.drew.heap.size := hl0
          replace hl1 : n1 < wr.drew.heap.size := hl1
          have hwd : wr.heap.size ≤ wr.drew.heap.size := Nat.le_refl _
          generalize wr.drew = V at *
          have hS : SetS n0 bA base.length bc (some ⟨b, off, none⟩) ops.length oc V := ⟨(pwIn5 hP3).1, (pwIn5 hP3).2.2.1⟩
          refine anyG_take (i := 0) (v := .pointer (some ⟨n0, 0, none⟩)) rfl (by kernel_rfl) (by kernel_rfl) (by kernel_rfl) (by kernel_rfl) (by kernel_rfl) (fun _ _ _ h => h) (Or.inl ⟨by rfl, fun w' hSw => by (obtain ⟨s0, s1⟩ := hSw; go_simp)⟩) hS ?_
          try simp only [Act.put, List.setIfInBounds_toArray, List.set_cons_zero, List.set_cons_succ]
          refine anyG_take (i := 1) (v := .slice bA base.length bc) rfl (by kernel_rfl) (by kernel_rfl) (by kernel_rfl) (by kernel_rfl) (by kernel_rfl) (fun _ _ _ h => h) (Or.inl ⟨by rfl, fun w' hSw => by (obtain ⟨s0, s1⟩ := hSw; go_simp)⟩) hS ?_
          try simp only [Act.put, List.setIfInBounds_toArray, List.set_cons_zero, List.set_cons_succ]
          refine anyG_take (i := 2) (v := .pointer (some ⟨n0, 2, none⟩)) rfl (by kernel_rfl) (by kernel_rfl) (by kernel_rfl) (by kernel_rfl) (by kernel_rfl) (fun _ _ _ h => h) (Or.inl ⟨by rfl, fun w' hSw => by (obtain ⟨s0, s1⟩ := hSw; go_simp)⟩) hS ?_
          try simp only [Act.put, List.setIfInBounds_toArray, List.set_cons_zero, List.set_cons_succ]
          refine anyG_take (i := 3) (v := .slice (some ⟨b, off, none⟩) ops.length oc) rfl (by kernel_rfl) (by kernel_rfl) (by kernel_rfl) (by kernel_rfl) (by kernel_rfl) (fun _ _ _ h => h) (Or.inl ⟨by rfl, fun w' hSw => by (obtain ⟨s0, s1⟩ := hSw; go_simp)⟩) hS ?_
          try simp only [Act.put, List.setIfInBounds_toArray, List.set_cons_zero, List.set_cons_succ]
          refine anyG_take (i := 4) (v := .int .i64 k) rfl (by kernel_rfl) (by kernel_rfl) (by kernel_rfl) (by kernel_rfl) (by kernel_rfl) (fun _ _ _ h => h) (Or.inl ⟨by rfl, fun w' hSw => by (obtain ⟨s0, s1⟩ := hSw; go_simp)⟩) hS ?_
          try simp only [Act.put, List.setIfInBounds_toArray, List.set_cons_zero, List.set_cons_succ]
          refine anyG_take (i := 5) (v := .slice (some ⟨b, off, none⟩) k oc) rfl (by kernel_rfl) (by kernel_rfl) (by kernel_rfl) (by kernel_rfl) (by kernel_rfl) (fun _ _ _ h => h) (Or.inl ⟨by rfl, fun w' hSw => by (obtain ⟨s0, s1⟩ := hSw; go_simp)⟩) hS ?_
          try simp only [Act.put, List.setIfInBounds_toArray, List.set_cons_zero, List.set_cons_succ]
          refine anyG_step (rs := [6]) (by kernel_rfl) (by simp) ?_
          refine AllG.cons rfl (fun K hK => ?_) AllG.nil
          go_simp
          refine HCF.out.mono ?_
          rintro e W4 ⟨A4, c4, U4, uc4, rfl, hF1, hF2, hfr1, hfr2, hb4⟩
          have hP4 := hP3.below hb4
          have hR4 := hR3.below hb4
          have hn4 := hnd.trans (hb4.mono hwd)
          clear hS
          have hS : SetS n0 bA base.length bc (some ⟨b, off, none⟩) ops.length oc W4 := ⟨(pwIn5 hP4).1, (pwIn5 hP4).2.2.1⟩
          try go_wp2_with fail
          refine hK.out _ _ hS ?_
          try simp only [Act.put, List.setIfInBounds_toArray, List.set_cons_zero, List.set_cons_succ]
          refine anyG_plain (i := 7) (v := .tuple #[.slice A4 b1.length c4, .slice U4 u1.length uc4]) rfl (by kernel_rfl) (by kernel_rfl) (by kernel_rfl) (by kernel_rfl) (fun _ _ _ h => h) (Or.inl ⟨by rfl, fun w' => by go_simp⟩) (fun _ => hS) ?_
          try simp only [Act.put, List.setIfInBounds_toArray, List.set_cons_zero, List.set_cons_succ]
          refine anyG_plain (i := 8) (v := .slice A4 b1.length c4) rfl (by kernel_rfl) (by kernel_rfl) (by kernel_rfl) (by kernel_rfl) (fun _ _ _ h => h) (Or.inl ⟨by rfl, fun w' => by go_simp⟩) (fun _ => hS) ?_
          try simp only [Act.put, List.setIfInBounds_toArray, List.set_cons_zero, List.set_cons_succ]
          refine anyG_plain (i := 9) (v := .slice U4 u1.length uc4) rfl (by kernel_rfl) (by kernel_rfl) (by kernel_rfl) (by kernel_rfl) (fun _ _ _ h => h) (Or.inl ⟨by rfl, fun w' => by go_simp⟩) (fun _ => hS) ?_
          try simp only [Act.put, List.setIfInBounds_toArray, List.set_cons_zero, List.set_cons_succ]
          refine anyG_plain (i := 10) (v := .pointer (some ⟨n0, 0, none⟩)) rfl (by kernel_rfl) (by kernel_rfl) (by kernel_rfl) (by kernel_rfl) (fun _ _ _ h => h) (Or.inl ⟨by rfl, fun w' => by go_simp⟩) (fun _ => hS) ?_
          try simp only [Act.put, List.setIfInBounds_toArray, List.set_cons_zero, List.set_cons_succ]
          refine anyG_step (rs := [11]) (by kernel_rfl) (by simp) ?_
          refine AllG.last (n := 11) rfl (fun K hK => ?_)
          obtain ⟨q0, q1, q2, q3, q4⟩ := pwIn5 hP4
          have qf := hP4.frozen
          go_simp
          refine hK.out _ _ ?_
          try simp only [Act.put, List.setIfInBounds_toArray, List.set_cons_zero, List.set_cons_succ]
          refine anyG_done (by kernel_rfl) ?_ _
          clear hK q0 q1 q2 q3 q4 qf hS hF2 hfr2
          have hP5 := hP4.put ⟨A4, c4, b1, t, (some ⟨b, off, none⟩), oc, ops, uA, uc, us, wA, wc, now⟩ 0 (.slice A4 b1.length c4) rfl
          have hR5 := hR4.other n0 0 (.slice A4 b1.length c4) (Ne.symm hn01)
          have hg5 := by_cell W4 n0 0 (.slice A4 b1.length c4)
          have hF5 := hF1.keep hfr1 hg5 hl0
          have hB3 : Below w.heap.size w W4 := (hB.trans (hnx.mono hBs)).trans (hn4.mono (by have := hnx.size; omega))
          have hB5 := hB3.grown hg5 hB3.size (fun j e => by have := Option.some.inj e; have := HNN.out; omega)
          have h35 := HL.out.below hB5
          have hl5 : W4.heap.size = (W4.setCell ⟨n0, 0, none⟩ (.slice A4 b1.length c4)).heap.size := by simp
          generalize W4.setCell ⟨n0, 0, none⟩ (.slice A4 b1.length c4) = W5 at *
          have h3 := h35.o.1.drop (to := k) hxo.2.2 hA3
          simp only at h3
          rw [HL3.out] at h3
          obtain ⟨q0, q1, q2, q3, q4⟩ := pwIn5 hP5
          have hE := El.Own.empty (E := opE) W5 W5.heap.size (Nat.le_refl _)
          have hb0 := below_alloc (Below.refl W5.heap.size W5) (.cells #[] 35)
          have hl50 := hP5.lt
          have hsE : (W5.alloc (.cells #[] 35)).heap.size = W5.heap.size + 1 := alloc_size _ _
          have HLe : L3.length ≤ 890 := by have := HE3.out; omega
          have hfr1' := hfr1
          have hl61 : n1 < W5.heap.size := hR5.lt
          have hVn := hl1
          have hA4 : ∀ a, A4 = some a → 0 < b1.length → a.block < W5.heap.size := fun a e h0 => by
            obtain ⟨b4, o4, e4, h4, _⟩ := hF5.1 h0
            rw [e] at e4; cases e4; exact h4
          clear hg5 hfr1 hF1 hb4 hP4 hR4 hn4 hP3 hR3
          go_wp2_with (at_builtin; refine El.wpList_app opInn rfl _ _ rfl W5.heap.size _ [] L3 rfl hE A3 (ops.length - k) (oc - k) rfl HE3.out (h3.below hb0) hz3 (by simp; omega) (by simp) ?_; intro v6 W6 own6 hg6 hat6; clear hat6; have own6 : opE.Own W6 W5.heap.size v6 L3 := own6; have hP6 := (hP5.below hb0).keep hg6 (fun e => by have := hE.rows _ e.symm; omega); have hR6 := (hR5.below hb0).keep hg6 (fun e => by have := hE.rows _ e.symm; have := hR5.lt; omega); have hl6 := hP5.lt; obtain ⟨A6, c6, rfl, hS6⟩ := SlV.own own6; have hfr6 := own6.frs; obtain ⟨r0, r1, r2, r3, r4⟩ := pwIn5 hP6; have rf := hP6.frozen)
          have hP7 := hP6.put ⟨A4, c4, b1, t, A6, c6, L3, uA, uc, us, wA, wc, now⟩ 2 (.slice A6 L3.length c6) rfl
          have hR7 := hR6.other n0 2 (.slice A6 L3.length c6) (Ne.symm hn01)
          have hg7 := by_cell W6 n0 2 (.slice A6 L3.length c6)
          have hS7 := hS6.keep hfr6 hg7 hl6
          have hB6 : Below w.heap.size w W6 := (below_alloc hB5 (.cells #[] 35)).grown hg6 (by have := hB5.size; omega) (fun j e => by have := hE.rows j e; have := hB5.size; omega)
          have hF6 : plE.Sl W6 A4 b1 := (((El.SlB.of hF5.1 (Nat.le_refl _)).keep (World.grownBy_alloc W5 (.cells #[] 35) none) (fun j e => by cases e)).keep hg6 hE.rows).sl (by have := hg6.size; omega)
          have hF7 : SlV plE (W6.setCell ⟨n0, 2, none⟩ (.slice A6 L3.length c6)) A4 c4 b1 := ⟨hF6.keep hg7 (fun a e e2 => by have := hfr1' a e; have := Option.some.inj e2; omega), hF5.2⟩
          have hB7 := hB6.grown hg7 hB6.size (fun j e => by have := Option.some.inj e; have := HNN.out; omega)
          have CF2 := mvRefFold_any A4 c4 b1 A6 c6 L3 _ (by have := HLB.out; have := HE3.out; have := HL9.out; omega) hF7 hS7.1
          generalize W6.setCell ⟨n0, 2, none⟩ (.slice A6 L3.length c6) = W7 at *
          refine CF2.mono ?_
          rintro e W8 ⟨A8, c8, U8, uc8, rfl, hG1, hG2, hgr1, hgr2, hb8⟩
          clear CF2 r0 r1 r2 r3 r4 rf q0 q1 q2 q3 q4 hg7 hg6
          have hl7 := hP7.lt
          have hl71 := hR7.lt
          have hP8 := hP7.below hb8
          have hR8 := hR7.below hb8
          have hS8 := hS7.below hb8
          have hF8 := hF7.below hb8
          generalize (foldL b1 (mvs L3)).1 = now8 at *
          generalize (foldL b1 (mvs L3)).2 = us8 at *
          obtain ⟨r0, r1, r2, r3, r4⟩ := pwIn5 hP8
          have rf := hP8.frozen
          have hP10 := ((hP8.put ⟨A4, c4, b1, t, A6, c6, L3, uA, uc, us, A8, c8, now8⟩ 4 (.slice A8 now8.length c8) rfl).put ⟨A4, c4, b1, t, A6, c6, L3, U8, uc8, us8, A8, c8, now8⟩ 3 (.slice U8 us8.length uc8) rfl).put ⟨A4, c4, b1, s, A6, c6, L3, U8, uc8, us8, A8, c8, now8⟩ 1 (.int .i64 s) rfl
          have hR10 := ((hR8.other n0 4 (.slice A8 now8.length c8) (Ne.symm hn01)).other n0 3 (.slice U8 us8.length uc8) (Ne.symm hn01)).other n0 1 (.int .i64 s) (Ne.symm hn01)
          have hg10 := by_cell2 (by_cell2 (by_cell W8 n0 4 (.slice A8 now8.length c8)) 3 (.slice U8 us8.length uc8)) 1 (.int .i64 s)
          go_wp2_with (first | (refine El.load pwRow rfl _ rfl n0 0 rfl ⟨A4, c4, b1, s, A6, c6, L3, U8, uc8, us8, A8, c8, now8⟩ hP10.at #[.slice A4 b1.length c4, .int .i64 s, .slice A6 L3.length c6, .slice U8 us8.length uc8, .slice A8 now8.length c8] rfl ?_) | (refine El.store pwRow rfl _ _ rfl n1 ⟨A4, c4, b1, s, A6, c6, L3, U8, uc8, us8, A8, c8, now8⟩ #[.slice A4 b1.length c4, .int .i64 s, .slice A6 L3.length c6, .slice U8 us8.length uc8, .slice A8 now8.length c8] rfl rfl rfl Pw.zero hR10 ?_))
          refine El.ret1 pwRow (hR10.set ⟨A4, c4, b1, s, A6, c6, L3, U8, uc8, us8, A8, c8, now8⟩ #[.slice A4 b1.length c4, .int .i64 s, .slice A6 L3.length c6, .slice U8 us8.length uc8, .slice A8 now8.length c8] rfl) rfl rfl rfl #[.slice A4 b1.length c4, .int .i64 s, .slice A6 L3.length c6, .slice U8 us8.length uc8, .slice A8 now8.length c8] rfl ?_
          have hB8 := below_then hB7 hb8
          have hB10 := hB8.grown hg10 hB8.size (fun j e => by have := Option.some.inj e; have := HNN.out; omega)
          have hBz := below_setRow hB10 (by have := HNN.out; omega : w.heap.size ≤ n1) #[.slice A4 b1.length c4, .int .i64 s, .slice A6 L3.length c6, .slice U8 us8.length uc8, .slice A8 now8.length c8]
          have hgz := fun W => by_row W n1 #[.slice A4 b1.length c4, .int .i64 s, .slice A6 L3.length c6, .slice U8 us8.length uc8, .slice A8 now8.length c8]
          exact ⟨⟨A4, c4, b1, s, A6, c6, L3, U8, uc8, us8, A8, c8, now8⟩, rfl, ⟨(hF8.keep hfr1' hg10 (by omega)).keep hfr1' (hgz _) (by omega), (hS8.keep hfr6 hg10 hl6).keep hfr6 (hgz _) hl61, (hG2.keep hgr2 hg10 hl7).keep hgr2 (hgz _) hl71, (hG1.keep hgr1 hg10 hl7).keep hgr1 (hgz _) hl71⟩, by rw [HNV.out]; rfl, hBz⟩
      · have HPOS := Lib.hid (upto_eq (c := Mv.C) (t := s) hk hlo (fun h => absurd h hkl))
        clear p0 p1 p3 p4
        go_wp2_with fail
        have hA3e : ∃ A3 : Option Addr, (if oc = k then oA else Option.map (fun x => x.add (k * 7)) oA) = A3 := ⟨_, rfl⟩
        obtain ⟨A3, hA3⟩ := hA3e
        have hO3s := (hxo.1.below hnx)
        have ht1 := hO3s.take k
        have ht3 := fun (Wx : World) (hb : Below wr.heap.size wr Wx) => (hO3s.below hb).drop (to := k) hxo.2.2 hA3
        have hz3 : A3 = none → oc - k = 0 := El.drop_none hxo.2.1 hA3
        have e1 : (ops.take k).length = k := by rw [List.length_take]; omega
        have e3 : (ops.drop k).length = ops.length - k := List.length_drop
        have hkc : k ≤ oc := Nat.le_trans hk hxo.2.2
        have i0 : (0 : Int) ≤ (k : Int) := by omega
        have i1 : (k : Int) ≤ (oc : Int) := by omega
        have i2 : (k : Int) ≤ (ops.length : Int) := by omega
        have hnv := settleV_new (q := ⟨base, t, ops, us, now⟩) (t := s) (show ¬ s ≤ t by omega) HPOS.out
        simp only at hnv
        have hlb := foldL_len1 base (mvs (ops.take k))
        rw [mvs_len, e1] at hlb
        have CF1 := mvRefFold_any bA bc base oA oc (ops.take k) wr.drew (by have := HL9.out; omega) (hxb.below hnx.drew) (ht1.below (Below.refl _ wr).drew)
        rw [e1] at CF1
        have hl0 := hP3.lt
        have hl1 := hR3.lt
        have HNV := Lib.hid hnv
        have HE3 := Lib.hid e3
        have HT3 := Lib.hid ht3
        have HLB := Lib.hid hlb
        have HCF := Lib.hid CF1
        generalize hL3 : ops.drop k = L3 at *
        have HL3 := Lib.hid hL3
        generalize (foldL base (mvs (ops.take k))).1 = b1 at *
        generalize (foldL base (mvs (ops.take k))).2 = u1 at *
        clear e1 e3 hnv hL3 ht1 ht3 hlb CF1 hO3s
        refine region_anyG (S := SetS n0 bA base.length bc oA ops.length oc) 11 (by kernel_rfl) ?_
        replace hP3 : pwE.In wr.drew n0 ⟨bA, bc, base, t, oA, oc, ops, uA, uc, us, wA, wc, now⟩ := hP3
        replace hR3 : pwE.In wr.drew n1 Pw.zero := hR3
        have hnd : Below wr.heap.size wr wr.drew := (Below.refl _ wr).drew
        replace hl0 : n0 < wr.drew.heap.size := hl0
        replace hl1 : n1 < wr.drew.heap.size := hl1
        have hwd : wr.heap.size ≤ wr.drew.heap.size := Nat.le_refl _
        generalize wr.drew = V at *
        have hS : SetS n0 bA base.length bc oA ops.length oc V := ⟨(pwIn5 hP3).1, (pwIn5 hP3).2.2.1⟩
        refine anyG_take (i := 0) (v := .pointer (some ⟨n0, 0, none⟩)) rfl (by kernel_rfl) (by kernel_rfl) (by kernel_rfl) (by kernel_rfl) (by kernel_rfl) (fun _ _ _ h => h) (Or.inl ⟨by rfl, fun w' hSw => by (obtain ⟨s0, s1⟩ := hSw; go_simp)⟩) hS ?_
        try simp only [Act.put, List.setIfInBounds_toArray, List.set_cons_zero, List.set_cons_succ]
        refine anyG_take (i := 1) (v := .slice bA base.length bc) rfl (by kernel_rfl) (by kernel_rfl) (by kernel_rfl) (by kernel_rfl) (by kernel_rfl) (fun _ _ _ h => h) (Or.inl ⟨by rfl, fun w' hSw => by (obtain ⟨s0, s1⟩ := hSw; go_simp)⟩) hS ?_
        try simp only [Act.put, List.setIfInBounds_toArray, List.set_cons_zero, List.set_cons_succ]
        refine anyG_take (i := 2) (v := .pointer (some ⟨n0, 2, none⟩)) rfl (by kernel_rfl) (by kernel_rfl) (by kernel_rfl) (by kernel_rfl) (by kernel_rfl) (fun _ _ _ h => h) (Or.inl ⟨by rfl, fun w' hSw => by (obtain ⟨s0, s1⟩ := hSw; go_simp)⟩) hS ?_
        try simp only [Act.put, List.setIfInBounds_toArray, List.set_cons_zero, List.set_cons_succ]
        refine anyG_take (i := 3) (v := .slice oA ops.length oc) rfl (by kernel_rfl) (by kernel_rfl) (by kernel_rfl) (by kernel_rfl) (by kernel_rfl) (fun _ _ _ h => h) (Or.inl ⟨by rfl, fun w' hSw => by (obtain ⟨s0, s1⟩ := hSw; go_simp)⟩) hS ?_
        try simp only [Act.put, List.setIfInBounds_toArray, List.set_cons_zero, List.set_cons_succ]
        refine anyG_take (i := 4) (v := .int .i64 k) rfl (by kernel_rfl) (by kernel_rfl) (by kernel_rfl) (by kernel_rfl) (by kernel_rfl) (fun _ _ _ h => h) (Or.inl ⟨by rfl, fun w' hSw => by (obtain ⟨s0, s1⟩ := hSw; go_simp)⟩) hS ?_
        try simp only [Act.put, List.setIfInBounds_toArray, List.set_cons_zero, List.set_cons_succ]
        refine anyG_take (i := 5) (v := .slice oA k oc) rfl (by kernel_rfl) (by kernel_rfl) (by kernel_rfl) (by kernel_rfl) (by kernel_rfl) (fun _ _ _ h => h) (Or.inl ⟨by rfl, fun w' hSw => by (obtain ⟨s0, s1⟩ := hSw; go_simp)⟩) hS ?_
        try simp only [Act.put, List.setIfInBounds_toArray, List.set_cons_zero, List.set_cons_succ]
        refine anyG_step (rs := [6]) (by kernel_rfl) (by simp) ?_
        refine AllG.cons rfl (fun K hK => ?_) AllG.nil
        go_simp
        refine HCF.out.mono ?_
        rintro e W4 ⟨A4, c4, U4, uc4, rfl, hF1, hF2, hfr1, hfr2, hb4⟩
        have hP4 := hP3.below hb4
        have hR4 := hR3.below hb4
        have hn4 := hnd.trans (hb4.mono hwd)
        clear hS
        have hS : SetS n0 bA base.length bc oA ops.length oc W4 := ⟨(pwIn5 hP4).1, (pwIn5 hP4).2.2.1⟩
        try go_wp2_with fail
        refine hK.out _ _ hS ?_
        try simp only [Act.put, List.setIfInBounds_toArray, List.set_cons_zero, List.set_cons_succ]
        refine anyG_plain (i := 7) (v := .tuple #[.slice A4 b1.length c4, .slice U4 u1.length uc4]) rfl (by kernel_rfl) (by kernel_rfl) (by kernel_rfl) (by kernel_rfl) (fun _ _ _ h => h) (Or.inl ⟨by rfl, fun w' => by go_simp⟩) (fun _ => hS) ?_
        try simp only [Act.put, List.setIfInBounds_toArray, List.set_cons_zero, List.set_cons_succ]
        refine anyG_plain (i := 8) (v := .slice A4 b1.length c4) rfl (by kernel_rfl) (by kernel_rfl) (by kernel_rfl) (by kernel_rfl) (fun _ _ _ h => h) (Or.inl ⟨by rfl, fun w' => by go_simp⟩) (fun _ => hS) ?_
        try simp only [Act.put, List.setIfInBounds_toArray, List.set_cons_zero, List.set_cons_succ]
        refine anyG_plain (i := 9) (v := .slice U4 u1.length uc4) rfl (by kernel_rfl) (by kernel_rfl) (by kernel_rfl) (by kernel_rfl) (fun _ _ _ h => h) (Or.inl ⟨by rfl, fun w' => by go_simp⟩) (fun _ => hS) ?_
        try simp only [Act.put, List.setIfInBounds_toArray, List.set_cons_zero, List.set_cons_succ]
        refine anyG_plain (i := 10) (v := .pointer (some ⟨n0, 0, none⟩)) rfl (by kernel_rfl) (by kernel_rfl) (by kernel_rfl) (by kernel_rfl) (fun _ _ _ h => h) (Or.inl ⟨by rfl, fun w' => by go_simp⟩) (fun _ => hS) ?_
        try simp only [Act.put, List.setIfInBounds_toArray, List.set_cons_zero, List.set_cons_succ]
        refine anyG_step (rs := [11]) (by kernel_rfl) (by simp) ?_
        refine AllG.last (n := 11) rfl (fun K hK => ?_)
        obtain ⟨q0, q1, q2, q3, q4⟩ := pwIn5 hP4
        have qf := hP4.frozen
        go_simp
        refine hK.out _ _ ?_
        try simp only [Act.put, List.setIfInBounds_toArray, List.set_cons_zero, List.set_cons_succ]
        refine anyG_done (by kernel_rfl) ?_ _
        clear hK q0 q1 q2 q3 q4 qf hS hF2 hfr2
        have hP5 := hP4.put ⟨A4, c4, b1, t, oA, oc, ops, uA, uc, us, wA, wc, now⟩ 0 (.slice A4 b1.length c4) rfl
        have hR5 := hR4.other n0 0 (.slice A4 b1.length c4) (Ne.symm hn01)
        have hg5 := by_cell W4 n0 0 (.slice A4 b1.length c4)
        have hF5 := hF1.keep hfr1 hg5 hl0
        have hB3 : Below w.heap.size w W4 := (hB.trans (hnx.mono hBs)).trans (hn4.mono (by have := hnx.size; omega))
        have hB5 := hB3.grown hg5 hB3.size (fun j e => by have := Option.some.inj e; have := HNN.out; omega)
        have h35 := HL.out.below hB5
        have hl5 : W4.heap.size = (W4.setCell ⟨n0, 0, none⟩ (.slice A4 b1.length c4)).heap.size := by simp
        generalize W4.setCell ⟨n0, 0, none⟩ (.slice A4 b1.length c4) = W5 at *
        have h3 := h35.o.1.drop (to := k) hxo.2.2 hA3
        simp only at h3
        rw [HL3.out] at h3
        obtain ⟨q0, q1, q2, q3, q4⟩ := pwIn5 hP5
        have hE := El.Own.empty (E := opE) W5 W5.heap.size (Nat.le_refl _)
        have hb0 := below_alloc (Below.refl W5.heap.size W5) (.cells #[] 35)
        have hl50 := hP5.lt
        have hsE : (W5.alloc (.cells #[] 35)).heap.size = W5.heap.size + 1 := alloc_size _ _
        have HLe : L3.length ≤ 890 := by have := HE3.out; omega
        have hfr1' := hfr1
        have hl61 : n1 < W5.heap.size := hR5.lt
        have hVn := hl1
        have hA4 : ∀ a, A4 = some a → 0 < b1.length → a.block < W5.heap.size := fun a e h0 => by
          obtain ⟨b4, o4, e4, h4, _⟩ := hF5.1 h0
          rw [e] at e4; cases e4; exact h4
        clear hg5 hfr1 hF1 hb4 hP4 hR4 hn4 hP3 hR3
        go_wp2_with (at_builtin; refine El.wpList_app opInn rfl _ _ rfl W5.heap.size _ [] L3 rfl hE A3 (ops.length - k) (oc - k) rfl HE3.out (h3.below hb0) hz3 (by simp; omega) (by simp) ?_; intro v6 W6 own6 hg6 hat6; clear hat6; have own6 : opE.Own W6 W5.heap.size v6 L3 := own6; have hP6 := (hP5.below hb0).keep hg6 (fun e => by have := hE.rows _ e.symm; omega); have hR6 := (hR5.below hb0).keep hg6 (fun e => by have := hE.rows _ e.symm; have := hR5.lt; omega); have hl6 := hP5.lt; obtain ⟨A6, c6, rfl, hS6⟩ := SlV.own own6; have hfr6 := own6.frs; obtain ⟨r0, r1, r2, r3, r4⟩ := pwIn5 hP6; have rf := hP6.frozen)
        have hP7 := hP6.put ⟨A4, c4, b1, t, A6, c6, L3, uA, uc, us, wA, wc, now⟩ 2 (.slice A6 L3.length c6) rfl
        have hR7 := hR6.other n0 2 (.slice A6 L3.length c6) (Ne.symm hn01)
        have hg7 := by_cell W6 n0 2 (.slice A6 L3.length c6)
        have hS7 := hS6.keep hfr6 hg7 hl6
        have hB6 : Below w.heap.size w W6 := (below_alloc hB5 (.cells #[] 35)).grown hg6 (by have := hB5.size; omega) (fun j e => by have := hE.rows j e; have := hB5.size; omega)
        have hF6 : plE.Sl W6 A4 b1 := (((El.SlB.of hF5.1 (Nat.le_refl _)).keep (World.grownBy_alloc W5 (.cells #[] 35) none) (fun j e => by cases e)).keep hg6 hE.rows).sl (by have := hg6.size; omega)
        have hF7 : SlV plE (W6.setCell ⟨n0, 2, none⟩ (.slice A6 L3.length c6)) A4 c4 b1 := ⟨hF6.keep hg7 (fun a e e2 => by have := hfr1' a e; have := Option.some.inj e2; omega), hF5.2⟩
        have hB7 := hB6.grown hg7 hB6.size (fun j e => by have := Option.some.inj e; have := HNN.out; omega)
        have CF2 := mvRefFold_any A4 c4 b1 A6 c6 L3 _ (by have := HLB.out; have := HE3.out; have := HL9.out; omega) hF7 hS7.1
        generalize W6.setCell ⟨n0, 2, none⟩ (.slice A6 L3.length c6) = W7 at *
        refine CF2.mono ?_
        rintro e W8 ⟨A8, c8, U8, uc8, rfl, hG1, hG2, hgr1, hgr2, hb8⟩
        clear CF2 r0 r1 r2 r3 r4 rf q0 q1 q2 q3 q4 hg7 hg6
        have hl7 := hP7.lt
        have hl71 := hR7.lt
        have hP8 := hP7.below hb8
        have hR8 := hR7.below hb8
        have hS8 := hS7.below hb8
        have hF8 := hF7.below hb8
        generalize (foldL b1 (mvs L3)).1 = now8 at *
        generalize (foldL b1 (mvs L3)).2 = us8 at *
        obtain ⟨r0, r1, r2, r3, r4⟩ := pwIn5 hP8
        have rf := hP8.frozen
        have hP10 := ((hP8.put ⟨A4, c4, b1, t, A6, c6, L3, uA, uc, us, A8, c8, now8⟩ 4 (.slice A8 now8.length c8) rfl).put ⟨A4, c4, b1, t, A6, c6, L3, U8, uc8, us8, A8, c8, now8⟩ 3 (.slice U8 us8.length uc8) rfl).put ⟨A4, c4, b1, s, A6, c6, L3, U8, uc8, us8, A8, c8, now8⟩ 1 (.int .i64 s) rfl
        have hR10 := ((hR8.other n0 4 (.slice A8 now8.length c8) (Ne.symm hn01)).other n0 3 (.slice U8 us8.length uc8) (Ne.symm hn01)).other n0 1 (.int .i64 s) (Ne.symm hn01)
        have hg10 := by_cell2 (by_cell2 (by_cell W8 n0 4 (.slice A8 now8.length c8)) 3 (.slice U8 us8.length uc8)) 1 (.int .i64 s)
        go_wp2_with (first | (refine El.load pwRow rfl _ rfl n0 0 rfl ⟨A4, c4, b1, s, A6, c6, L3, U8, uc8, us8, A8, c8, now8⟩ hP10.at #[.slice A4 b1.length c4, .int .i64 s, .slice A6 L3.length c6, .slice U8 us8.length uc8, .slice A8 now8.length c8] rfl ?_) | (refine El.store pwRow rfl _ _ rfl n1 ⟨A4, c4, b1, s, A6, c6, L3, U8, uc8, us8, A8, c8, now8⟩ #[.slice A4 b1.length c4, .int .i64 s, .slice A6 L3.length c6, .slice U8 us8.length uc8, .slice A8 now8.length c8] rfl rfl rfl Pw.zero hR10 ?_))
        refine El.ret1 pwRow (hR10.set ⟨A4, c4, b1, s, A6, c6, L3, U8, uc8, us8, A8, c8, now8⟩ #[.slice A4 b1.length c4, .int .i64 s, .slice A6 L3.length c6, .slice U8 us8.length uc8, .slice A8 now8.length c8] rfl) rfl rfl rfl #[.slice A4 b1.length c4, .int .i64 s, .slice A6 L3.length c6, .slice U8 us8.length uc8, .slice A8 now8.length c8] rfl ?_
        have hB8 := below_then hB7 hb8
        have hB10 := hB8.grown hg10 hB8.size (fun j e => by have := Option.some.inj e; have := HNN.out; omega)
        have hBz := below_setRow hB10 (by have := HNN.out; omega : w.heap.size ≤ n1) #[.slice A4 b1.length c4, .int .i64 s, .slice A6 L3.length c6, .slice U8 us8.length uc8, .slice A8 now8.length c8]
        have hgz := fun W => by_row W n1 #[.slice A4 b1.length c4, .int .i64 s, .slice A6 L3.length c6, .slice U8 us8.length uc8, .slice A8 now8.length c8]
        exact ⟨⟨A4, c4, b1, s, A6, c6, L3, U8, uc8, us8, A8, c8, now8⟩, rfl, ⟨(hF8.keep hfr1' hg10 (by omega)).keep hfr1' (hgz _) (by omega), (hS8.keep hfr6 hg10 hl6).keep hfr6 (hgz _) hl61, (hG2.keep hgr2 hg10 hl7).keep hgr2 (hgz _) hl71, (hG1.keep hgr1 hg10 hl7).keep hgr1 (hgz _) hl71⟩, by rw [HNV.out]; rfl, hBz⟩
end Go.Proofs.Ytoidondngoljaaa
