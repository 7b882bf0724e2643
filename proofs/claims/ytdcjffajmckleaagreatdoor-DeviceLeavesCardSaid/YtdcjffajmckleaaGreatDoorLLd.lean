/- DeviceLeaves is proved: a device whose stable place is beyond it, or whose life is evicted, leaves; it takes no edits, shows nothing, begins its next life, and keeps its counter and what is on its way; another device's eviction changes nothing of that. Conditions: the library's tables read, when the call begins, as the program's own text lays them (the card ties that; no table is read below). -/
import Derived.Test.YtdcjffajmckleaaGreatDoorB10
import Derived.BigQuiet
/- The law DeviceLeaves. -/
namespace Go.Proofs.YtdcjffajmckleaaGreatDoor
open Go.RowKit Nam Cod Tre Pst Pln

theorem El.exec_load {α : Type} {E : El α} {P : Program} (R : El.Row E P) {o : Oper} {a : Act} (x : Operand) (ho : o.op = .load E.e x) {b off : Nat} (hx : a.eval x = .pointer (some ⟨b, off, none⟩)) {w : World} {p : α} (h : E.At w b off p) (cs : Array Value) (hc : cs = (E.c p).toArray) : (execOp a.eval o).run P w = .ok (.value (.agg cs)) w := by
  subst hc
  unfold execOp
  simp only [ho, hx, Instr.loadAt, Instr.sureAddr, Sem.run_bind, Sem.run_pure, Result.andThen_ok, El.run_load R h]
theorem plIdx18 {A : Option Addr} {b off len cap k : Nat} (hA : A = some ⟨b, off, none⟩) (h : k < len) : ∀ w, (Instr.indexAt 22 (.slice A len cap) (.int .i64 k)).run Tryz.prog w = .ok (.pointer (some ⟨b, off + k * 3, none⟩)) w := fun w => by
  subst hA
  have h2 : (k : Int) < (len : Int) := by omega
  go_simp
def LvS (n1 n2 m : Nat) (z : Dw) (b off : Nat) (p : Pl) (w : World) : Prop := pnE.In w n1 (pl18 m 2) ∧ dvE.In w n2 z ∧ plE.At w b off p
set_option maxRecDepth 100000 in
set_option maxHeartbeats 8000000 in
theorem leaves18_any (H : DeviceCalls) (HA : ∀ wx : World, Calls Tryz.prog 6 #[] wx fun e w' => e = .returned (.bool true) ∧ Below wx.heap.size wx w') (A : Option Addr) (c : Nat) (l : List Pl) (t : Int) (w : World) (hT0 : plE.Sl w A l) (hlw : ∀ p ∈ l, i64 p.n ∧ i64 p.u) (ht : 0 ≤ t ∧ t ≤ 255) :
    Calls Tryz.prog 5 #[.slice A l.length c, .int .u8 t] w fun e w' => e = .returned (.bool true) ∧ Below w.heap.size w w' := by
  have HT0 := Lib.hid hT0
  have HLW := Lib.hid hlw
  clear hT0 hlw
  go_enter Tryz.func5, Tryz.ntmps5
  by_cases hl : 10 < l.length
  · have f1 : decide ((10 : Int) < (l.length : Int)) = true := decide_eq_true (by omega)
    clear hl
    go_wp2_with fail
    refine (HA _).mono ?_
    rintro e w1 ⟨rfl, hb⟩
    go_wp2_with fail
    go_ret
    exact ⟨rfl, hb⟩
  · have f1 : decide ((10 : Int) < (l.length : Int)) = false := decide_eq_false (by omega)
    have hlen : l.length ≤ 100000 := by omega
    go_wp2_with fail
    refine (some18_any w).mono ?_
    rintro e w1 ⟨m, rfl, hT, hB⟩
    have hP : pnE.In (w1.alloc (.cells #[.slice (some ⟨m, 0, none⟩) 3 3, .int .i64 2, .int .i64 3, .int .i64 2, .int .i64 20, .int .i64 2, .int .i64 32, .int .i64 4, .int .i64 16] 26)) w1.heap.size (pl18 m 2) := El.In.new (E := pnE) w1 (pl18 m 2) _ rfl
    have hal := below_alloc (Below.refl w1.heap.size w1) (.cells #[.slice (some ⟨m, 0, none⟩) 3 3, .int .i64 2, .int .i64 3, .int .i64 2, .int .i64 20, .int .i64 2, .int .i64 32, .int .i64 4, .int .i64 16] 26)
    replace hT := hT.below hal
    replace hB := below_then hB hal
    clear hal
    go_upto_region 4 with fail
    generalize w1.alloc (.cells #[.slice (some ⟨m, 0, none⟩) 3 3, .int .i64 2, .int .i64 3, .int .i64 2, .int .i64 20, .int .i64 2, .int .i64 32, .int .i64 4, .int .i64 16] 26) = W at *
    generalize w1.heap.size = n1 at *
    go_wp2_with fail
    refine (newAt H W).mono ?_
    rintro e w2 ⟨z0, rfl, hz0, hvz0, hb2⟩
    replace hP := hP.below hb2
    replace hT := hT.below hb2
    replace hB := below_then hB hb2
    clear hb2
    have hZ4 : dvE.In (w2.alloc (.cells #[.int .i64 0, .int .i64 0, .int .i64 0, .int .i64 0, .int .i64 0, .int .i64 0, .slice none 0 0, .int .i64 0, .int .i64 0, .slice none 0 0, .slice none 0 0, .slice none 0 0, .slice none 0 0, .slice none 0 0, .slice none 0 0, .int .i64 0, .slice none 0 0, .slice none 0 0, .slice none 0 0, .slice none 0 0, .int .i64 0, .int .i64 0, .int .i64 0, .int .i64 0, .slice none 0 0, .int .i64 0] 44)) w2.heap.size Dw.zero := El.In.new (E := dvE) w2 Dw.zero _ rfl
    go_upto_region 5 with (first | (refine wpList_alloc_dv rfl rfl ?_) | (refine El.store dvRow rfl _ _ rfl w2.heap.size z0 #[.int .i64 z0.node, .int .i64 z0.boot, .int .i64 z0.above, .int .i64 z0.pos, .int .i64 z0.y.t, .int .i64 z0.pos, .slice none 0 0, .int .i64 z0.q.f, .int .i64 z0.q.g, .slice z0.qA z0.q.os.length z0.qc, .slice none 0 0, .slice none 0 0, .slice none 0 0, .slice none 0 0, .slice z0.y.bA z0.y.base.length z0.y.bc, .int .i64 z0.y.t, .slice z0.y.oA z0.y.ops.length z0.y.oc, .slice z0.y.uA z0.y.us.length z0.y.uc, .slice z0.y.wA z0.y.now.length z0.y.wc, .slice z0.cA z0.l.length z0.cc, .int .i64 z0.inc, .int .i64 z0.mode, .int .i64 z0.clock, .int .i64 z0.sent, .slice z0.pA 0 z0.pc, .int .i64 z0.late] rfl rfl rfl Dw.zero hZ4 ?_) | fail)
    have hdn := below_setRow (below_alloc (Below.refl w2.heap.size w2) (.cells #[.int .i64 0, .int .i64 0, .int .i64 0, .int .i64 0, .int .i64 0, .int .i64 0, .slice none 0 0, .int .i64 0, .int .i64 0, .slice none 0 0, .slice none 0 0, .slice none 0 0, .slice none 0 0, .slice none 0 0, .slice none 0 0, .int .i64 0, .slice none 0 0, .slice none 0 0, .slice none 0 0, .slice none 0 0, .int .i64 0, .int .i64 0, .int .i64 0, .int .i64 0, .slice none 0 0, .int .i64 0] 44)) (Nat.le_refl _) #[.int .i64 z0.node, .int .i64 z0.boot, .int .i64 z0.above, .int .i64 z0.pos, .int .i64 z0.y.t, .int .i64 z0.pos, .slice none 0 0, .int .i64 z0.q.f, .int .i64 z0.q.g, .slice z0.qA z0.q.os.length z0.qc, .slice none 0 0, .slice none 0 0, .slice none 0 0, .slice none 0 0, .slice z0.y.bA z0.y.base.length z0.y.bc, .int .i64 z0.y.t, .slice z0.y.oA z0.y.ops.length z0.y.oc, .slice z0.y.uA z0.y.us.length z0.y.uc, .slice z0.y.wA z0.y.now.length z0.y.wc, .slice z0.cA z0.l.length z0.cc, .int .i64 z0.inc, .int .i64 z0.mode, .int .i64 z0.clock, .int .i64 z0.sent, .slice z0.pA 0 z0.pc, .int .i64 z0.late]
    have hE := hZ4.set z0 #[.int .i64 z0.node, .int .i64 z0.boot, .int .i64 z0.above, .int .i64 z0.pos, .int .i64 z0.y.t, .int .i64 z0.pos, .slice none 0 0, .int .i64 z0.q.f, .int .i64 z0.q.g, .slice z0.qA z0.q.os.length z0.qc, .slice none 0 0, .slice none 0 0, .slice none 0 0, .slice none 0 0, .slice z0.y.bA z0.y.base.length z0.y.bc, .int .i64 z0.y.t, .slice z0.y.oA z0.y.ops.length z0.y.oc, .slice z0.y.uA z0.y.us.length z0.y.uc, .slice z0.y.wA z0.y.now.length z0.y.wc, .slice z0.cA z0.l.length z0.cc, .int .i64 z0.inc, .int .i64 z0.mode, .int .i64 z0.clock, .int .i64 z0.sent, .slice z0.pA 0 z0.pc, .int .i64 z0.late] rfl
    have hn12 : n1 < w2.heap.size := hP.lt
    have hm2 : m < w2.heap.size := inSl_lt hT (by decide)
    have hnw : w.heap.size ≤ w2.heap.size := hB.size
    have hz := hz0.below hdn
    replace hP := hP.below hdn
    replace hT := hT.below hdn
    replace hB := below_then hB hdn
    clear hZ4 hdn hz0
    generalize (w2.alloc (.cells #[.int .i64 0, .int .i64 0, .int .i64 0, .int .i64 0, .int .i64 0, .int .i64 0, .slice none 0 0, .int .i64 0, .int .i64 0, .slice none 0 0, .slice none 0 0, .slice none 0 0, .slice none 0 0, .slice none 0 0, .slice none 0 0, .int .i64 0, .slice none 0 0, .slice none 0 0, .slice none 0 0, .slice none 0 0, .int .i64 0, .int .i64 0, .int .i64 0, .int .i64 0, .slice none 0 0, .int .i64 0] 44)).setRow w2.heap.size #[.int .i64 z0.node, .int .i64 z0.boot, .int .i64 z0.above, .int .i64 z0.pos, .int .i64 z0.y.t, .int .i64 z0.pos, .slice none 0 0, .int .i64 z0.q.f, .int .i64 z0.q.g, .slice z0.qA z0.q.os.length z0.qc, .slice none 0 0, .slice none 0 0, .slice none 0 0, .slice none 0 0, .slice z0.y.bA z0.y.base.length z0.y.bc, .int .i64 z0.y.t, .slice z0.y.oA z0.y.ops.length z0.y.oc, .slice z0.y.uA z0.y.us.length z0.y.uc, .slice z0.y.wA z0.y.now.length z0.y.wc, .slice z0.cA z0.l.length z0.cc, .int .i64 z0.inc, .int .i64 z0.mode, .int .i64 z0.clock, .int .i64 z0.sent, .slice z0.pA 0 z0.pc, .int .i64 z0.late] = V at *
    generalize w2.heap.size = n2 at *
    have HV0 := Lib.hid (show z0.v = edsD 2 (l.take 0) by rw [hvz0, List.take_zero]; rfl)
    clear hvz0
    go_wp2_with fail
    go_loopw [7] (fun y wr => ∃ (k : Nat) (z : Dw), k ≤ l.length ∧ y = .int .i64 k ∧ Hid (z.v = edsD 2 (l.take k)) ∧ dvE.In wr n2 z ∧ z.ok wr ∧ pnE.In wr n1 (pl18 m 2) ∧ inE.Sl wr (some ⟨m, 0, none⟩) [-1, 0, 0] ∧ Below w.heap.size w wr) (fun y _ => l.length - (intOf y).toNat)
    case atStart => exact ⟨0, z0, Nat.zero_le _, rfl, HV0, hE, hz, hP, hT, hB⟩
    case round =>
      clear HV0 hE hz hP hT hB
      obtain ⟨k, z, hk, rfl, HV, hE, hz, hP, hT, hB⟩ := hrel
      by_cases hkl : k < l.length
      · obtain ⟨b, off, eA, hbw, hc⟩ := HT0.out (by omega)
        have hx := plIdx18 (cap := c) eA hkl
        have hat : plE.At wr b (off + k * 3) l[k] := (hc k hkl).below hB hbw
        have hbr := Nat.lt_of_lt_of_le hbw hB.size
        have HNX := Lib.hid (edsD_next 2 l k hkl)
        have HI := Lib.hid (edsD_i (quota := 2) (by omega) l k hk (by omega))
        have HW := Lib.hid (HLW.out l[k] (List.getElem_mem _))
        generalize l[k] = p at *
        clear hc eA
        obtain ⟨s0, s1, s2⟩ := plAt3 hat
        by_cases hs : 100 < p.s.size
        · have f2 : decide ((100 : Int) < (p.s.size : Int)) = true := decide_eq_true (by omega)
          clear hs hat hl
          go_wp2_with fail
          refine (HA _).mono ?_
          rintro e w7 ⟨rfl, hb7⟩
          go_wp2_with fail
          go_ret
          exact ⟨rfl, below_then hB hb7⟩
        · have f2 : decide ((100 : Int) < (p.s.size : Int)) = false := decide_eq_false (by omega)
          have HS := Lib.hid hs
          clear hs hl
          go_wp2_with fail
          have hne1 : some n1 ≠ some n2 := fun e => by have := Option.some.inj e; omega
          have hne2 : m ≠ n2 := by omega
          obtain ⟨N, hN⟩ : ∃ N, (editD 2 16 (edsD 2 (l.take k)) p.n p.u p.s).2 = N := ⟨_, rfl⟩
          have HED := Lib.hid (show editD 2 16 (edsD 2 (l.take k)) p.n p.u p.s = (edsD 2 (l.take (k + 1)), N) from Prod.ext HNX.out.symm hN)
          clear hN s0 s1 s2
          refine region_anyG (S := LvS n1 n2 m z b (off + k * 3) p) 10 (by kernel_rfl) ?_
          replace hP : pnE.In wr.drew n1 (pl18 m 2) := hP
          replace hE : dvE.In wr.drew n2 z := hE
          replace hat : plE.At wr.drew b (off + k * 3) p := hat
          replace hbr : b < wr.drew.heap.size := hbr
          replace hz := hz.below (Below.refl wr.heap.size wr).drew
          replace hT := hT.below (Below.refl wr.heap.size wr).drew
          replace hB := hB.drew
          generalize wr.drew = V at *
          have hS : LvS n1 n2 m z b (off + k * 3) p V := ⟨hP, hE, hat⟩
          refine anyG_take (i := 0) (v := .agg #[.slice (some ⟨m, 0, none⟩) 3 3, .int .i64 2, .int .i64 3, .int .i64 2, .int .i64 20, .int .i64 2, .int .i64 32, .int .i64 4, .int .i64 16]) rfl (by kernel_rfl) (by kernel_rfl) (by kernel_rfl) (by kernel_rfl) (by kernel_rfl) (fun _ _ _ h => h) (Or.inl ⟨by rfl, fun w' hSw => El.exec_load pnRow (.tmp 5) rfl rfl hSw.1.at _ rfl⟩) hS ?_
          try simp only [Act.put, List.setIfInBounds_toArray, List.set_cons_zero, List.set_cons_succ]
          refine anyG_take (i := 1) (v := .agg #[.int .i64 z.node, .int .i64 z.boot, .int .i64 z.above, .int .i64 z.pos, .int .i64 z.y.t, .int .i64 z.pos, .slice none 0 0, .int .i64 z.q.f, .int .i64 z.q.g, .slice z.qA z.q.os.length z.qc, .slice none 0 0, .slice none 0 0, .slice none 0 0, .slice none 0 0, .slice z.y.bA z.y.base.length z.y.bc, .int .i64 z.y.t, .slice z.y.oA z.y.ops.length z.y.oc, .slice z.y.uA z.y.us.length z.y.uc, .slice z.y.wA z.y.now.length z.y.wc, .slice z.cA z.l.length z.cc, .int .i64 z.inc, .int .i64 z.mode, .int .i64 z.clock, .int .i64 z.sent, .slice z.pA 0 z.pc, .int .i64 z.late]) rfl (by kernel_rfl) (by kernel_rfl) (by kernel_rfl) (by kernel_rfl) (by kernel_rfl) (fun _ _ _ h => h) (Or.inl ⟨by rfl, fun w' hSw => El.exec_load dvRow (.tmp 6) rfl rfl hSw.2.1.at _ rfl⟩) hS ?_
          try simp only [Act.put, List.setIfInBounds_toArray, List.set_cons_zero, List.set_cons_succ]
          refine anyG_take (i := 2) (v := .slice A l.length c) rfl (by kernel_rfl) (by kernel_rfl) (by kernel_rfl) (by kernel_rfl) (by kernel_rfl) (fun _ _ _ h => h) (Or.inl ⟨by rfl, fun w' hSw => by go_simp⟩) hS ?_
          try simp only [Act.put, List.setIfInBounds_toArray, List.set_cons_zero, List.set_cons_succ]
          refine anyG_take (i := 3) (v := .int .i64 k) rfl (by kernel_rfl) (by kernel_rfl) (by kernel_rfl) (by kernel_rfl) (by kernel_rfl) (fun _ _ _ h => h) (Or.inl ⟨by rfl, fun w' hSw => by go_simp⟩) hS ?_
          try simp only [Act.put, List.setIfInBounds_toArray, List.set_cons_zero, List.set_cons_succ]
          refine anyG_take (i := 4) (v := .pointer (some ⟨b, off + k * 3, none⟩)) rfl (by kernel_rfl) (by kernel_rfl) (by kernel_rfl) (by kernel_rfl) (by kernel_rfl) (fun _ _ _ h => h) (Or.inl ⟨by rfl, fun w' hSw => by go_simp⟩) hS ?_
          try simp only [Act.put, List.setIfInBounds_toArray, List.set_cons_zero, List.set_cons_succ]
          refine anyG_take (i := 5) (v := .agg #[.int .i64 p.n, .int .i64 p.u, .string p.s]) rfl (by kernel_rfl) (by kernel_rfl) (by kernel_rfl) (by kernel_rfl) (by kernel_rfl) (fun _ _ _ h => h) (Or.inl ⟨by rfl, fun w' hSw => El.exec_load plRow (.tmp 40) rfl rfl hSw.2.2 _ rfl⟩) hS ?_
          try simp only [Act.put, List.setIfInBounds_toArray, List.set_cons_zero, List.set_cons_succ]
          refine anyG_step (rs := [6]) (by kernel_rfl) (by simp) ?_
          refine AllG.cons rfl (fun K hK => ?_) AllG.nil
          go_simp
          refine (editAt H m 2 (by omega) z p.n p.u p.s V hT hz HV.out HI.out.r HI.out.node HW.out.1 HW.out.2 (by have := HS.out; omega) HED.out).mono ?_
          rintro e W6 ⟨z6, rfl, hz6, hvz6, hb6⟩
          replace hP := hP.below hb6
          replace hE := hE.below hb6
          replace hat := hat.below hb6 hbr
          replace hT := hT.below hb6
          replace hB := below_then hB hb6
          clear hb6
          try go_wp2_with fail
          refine hK.out _ _ (⟨hP, hE, hat⟩ : LvS n1 n2 m z b (off + k * 3) p W6) ?_
          try simp only [Act.put, List.setIfInBounds_toArray, List.set_cons_zero, List.set_cons_succ]
          clear hK hS
          have hS : LvS n1 n2 m z b (off + k * 3) p W6 := ⟨hP, hE, hat⟩
          refine anyG_plain (i := 7) (v := .tuple #[.agg #[.int .i64 z6.node, .int .i64 z6.boot, .int .i64 z6.above, .int .i64 z6.pos, .int .i64 z6.y.t, .int .i64 z6.pos, .slice none 0 0, .int .i64 z6.q.f, .int .i64 z6.q.g, .slice z6.qA z6.q.os.length z6.qc, .slice none 0 0, .slice none 0 0, .slice none 0 0, .slice none 0 0, .slice z6.y.bA z6.y.base.length z6.y.bc, .int .i64 z6.y.t, .slice z6.y.oA z6.y.ops.length z6.y.oc, .slice z6.y.uA z6.y.us.length z6.y.uc, .slice z6.y.wA z6.y.now.length z6.y.wc, .slice z6.cA z6.l.length z6.cc, .int .i64 z6.inc, .int .i64 z6.mode, .int .i64 z6.clock, .int .i64 z6.sent, .slice z6.pA 0 z6.pc, .int .i64 z6.late], .int .i64 N]) rfl (by kernel_rfl) (by kernel_rfl) (by kernel_rfl) (by kernel_rfl) (fun _ _ _ h => h) (Or.inl ⟨by rfl, fun w' => by go_simp⟩) (fun _ => hS) ?_
          try simp only [Act.put, List.setIfInBounds_toArray, List.set_cons_zero, List.set_cons_succ]
          refine anyG_plain (i := 8) (v := .agg #[.int .i64 z6.node, .int .i64 z6.boot, .int .i64 z6.above, .int .i64 z6.pos, .int .i64 z6.y.t, .int .i64 z6.pos, .slice none 0 0, .int .i64 z6.q.f, .int .i64 z6.q.g, .slice z6.qA z6.q.os.length z6.qc, .slice none 0 0, .slice none 0 0, .slice none 0 0, .slice none 0 0, .slice z6.y.bA z6.y.base.length z6.y.bc, .int .i64 z6.y.t, .slice z6.y.oA z6.y.ops.length z6.y.oc, .slice z6.y.uA z6.y.us.length z6.y.uc, .slice z6.y.wA z6.y.now.length z6.y.wc, .slice z6.cA z6.l.length z6.cc, .int .i64 z6.inc, .int .i64 z6.mode, .int .i64 z6.clock, .int .i64 z6.sent, .slice z6.pA 0 z6.pc, .int .i64 z6.late]) rfl (by kernel_rfl) (by kernel_rfl) (by kernel_rfl) (by kernel_rfl) (fun _ _ _ h => h) (Or.inl ⟨by rfl, fun w' => by go_simp⟩) (fun _ => hS) ?_
          try simp only [Act.put, List.setIfInBounds_toArray, List.set_cons_zero, List.set_cons_succ]
          refine anyG_plain (i := 9) (v := .int .i64 N) rfl (by kernel_rfl) (by kernel_rfl) (by kernel_rfl) (by kernel_rfl) (fun _ _ _ h => h) (Or.inl ⟨by rfl, fun w' => by go_simp⟩) (fun _ => hS) ?_
          try simp only [Act.put, List.setIfInBounds_toArray, List.set_cons_zero, List.set_cons_succ]
          refine anyG_step (rs := [10]) (by kernel_rfl) (by simp) ?_
          refine AllG.last (n := 10) rfl (fun K hK => ?_)
          refine El.step_store dvRow rfl _ _ rfl n2 z6 #[.int .i64 z6.node, .int .i64 z6.boot, .int .i64 z6.above, .int .i64 z6.pos, .int .i64 z6.y.t, .int .i64 z6.pos, .slice none 0 0, .int .i64 z6.q.f, .int .i64 z6.q.g, .slice z6.qA z6.q.os.length z6.qc, .slice none 0 0, .slice none 0 0, .slice none 0 0, .slice none 0 0, .slice z6.y.bA z6.y.base.length z6.y.bc, .int .i64 z6.y.t, .slice z6.y.oA z6.y.ops.length z6.y.oc, .slice z6.y.uA z6.y.us.length z6.y.uc, .slice z6.y.wA z6.y.now.length z6.y.wc, .slice z6.cA z6.l.length z6.cc, .int .i64 z6.inc, .int .i64 z6.mode, .int .i64 z6.clock, .int .i64 z6.sent, .slice z6.pA 0 z6.pc, .int .i64 z6.late] rfl rfl rfl z hE ?_
          refine hK.out _ _ ?_
          try simp only [Act.put, List.setIfInBounds_toArray, List.set_cons_zero, List.set_cons_succ]
          clear hK hS
          refine anyG_done (by kernel_rfl) ?_ _
          have hgr := by_row W6 n2 #[.int .i64 z6.node, .int .i64 z6.boot, .int .i64 z6.above, .int .i64 z6.pos, .int .i64 z6.y.t, .int .i64 z6.pos, .slice none 0 0, .int .i64 z6.q.f, .int .i64 z6.q.g, .slice z6.qA z6.q.os.length z6.qc, .slice none 0 0, .slice none 0 0, .slice none 0 0, .slice none 0 0, .slice z6.y.bA z6.y.base.length z6.y.bc, .int .i64 z6.y.t, .slice z6.y.oA z6.y.ops.length z6.y.oc, .slice z6.y.uA z6.y.us.length z6.y.uc, .slice z6.y.wA z6.y.now.length z6.y.wc, .slice z6.cA z6.l.length z6.cc, .int .i64 z6.inc, .int .i64 z6.mode, .int .i64 z6.clock, .int .i64 z6.sent, .slice z6.pA 0 z6.pc, .int .i64 z6.late]
          have hz7 := hz6.keepB hE hgr
          replace hP := hP.keep hgr hne1
          replace hT := inSl_keep hT hne2 hgr
          replace hE := hE.set z6 #[.int .i64 z6.node, .int .i64 z6.boot, .int .i64 z6.above, .int .i64 z6.pos, .int .i64 z6.y.t, .int .i64 z6.pos, .slice none 0 0, .int .i64 z6.q.f, .int .i64 z6.q.g, .slice z6.qA z6.q.os.length z6.qc, .slice none 0 0, .slice none 0 0, .slice none 0 0, .slice none 0 0, .slice z6.y.bA z6.y.base.length z6.y.bc, .int .i64 z6.y.t, .slice z6.y.oA z6.y.ops.length z6.y.oc, .slice z6.y.uA z6.y.us.length z6.y.uc, .slice z6.y.wA z6.y.now.length z6.y.wc, .slice z6.cA z6.l.length z6.cc, .int .i64 z6.inc, .int .i64 z6.mode, .int .i64 z6.clock, .int .i64 z6.sent, .slice z6.pA 0 z6.pc, .int .i64 z6.late] rfl
          replace hB := below_setRow hB hnw #[.int .i64 z6.node, .int .i64 z6.boot, .int .i64 z6.above, .int .i64 z6.pos, .int .i64 z6.y.t, .int .i64 z6.pos, .slice none 0 0, .int .i64 z6.q.f, .int .i64 z6.q.g, .slice z6.qA z6.q.os.length z6.qc, .slice none 0 0, .slice none 0 0, .slice none 0 0, .slice none 0 0, .slice z6.y.bA z6.y.base.length z6.y.bc, .int .i64 z6.y.t, .slice z6.y.oA z6.y.ops.length z6.y.oc, .slice z6.y.uA z6.y.us.length z6.y.uc, .slice z6.y.wA z6.y.now.length z6.y.wc, .slice z6.cA z6.l.length z6.cc, .int .i64 z6.inc, .int .i64 z6.mode, .int .i64 z6.clock, .int .i64 z6.sent, .slice z6.pA 0 z6.pc, .int .i64 z6.late]
          have HV6 := Lib.hid hvz6
          clear hgr hz6 hvz6 hz hat hbr HV
          generalize W6.setRow n2 #[.int .i64 z6.node, .int .i64 z6.boot, .int .i64 z6.above, .int .i64 z6.pos, .int .i64 z6.y.t, .int .i64 z6.pos, .slice none 0 0, .int .i64 z6.q.f, .int .i64 z6.q.g, .slice z6.qA z6.q.os.length z6.qc, .slice none 0 0, .slice none 0 0, .slice none 0 0, .slice none 0 0, .slice z6.y.bA z6.y.base.length z6.y.bc, .int .i64 z6.y.t, .slice z6.y.oA z6.y.ops.length z6.y.oc, .slice z6.y.uA z6.y.us.length z6.y.uc, .slice z6.y.wA z6.y.now.length z6.y.wc, .slice z6.cA z6.l.length z6.cc, .int .i64 z6.inc, .int .i64 z6.mode, .int .i64 z6.clock, .int .i64 z6.sent, .slice z6.pA 0 z6.pc, .int .i64 z6.late] = W7 at *
          go_wp2_with fail
          exact ⟨⟨k + 1, z6, by omega, by go_num, HV6, hE, hz7, hP, hT, hB⟩, by simp [intOf]; omega⟩
      · obtain rfl : k = l.length := by omega
        have HI := Lib.hid (edsD_i (quota := 2) (by omega) l l.length (Nat.le_refl _) (by omega))
        rw [List.take_length] at HV HI
        generalize edsD 2 l = S at *
        clear hk hkl hl hlen HLW HT0
        have ht3 : 0 ≤ t % 3 ∧ t % 3 < 3 := by omega
        have hnwr : w.heap.size ≤ wr.heap.size := hB.size
        by_cases h0 : t % 3 = 0
        · have hF : frE.In (wr.alloc (.cells #[.int .i64 0, .int .i64 1, .int .i64 0, .int .i64 0, .slice none 0 0, .int .i64 0, .slice none 0 0, .int .i64 0, .slice none 0 0, .int .i64 0, .int .i64 0, .int .i64 5, .int .i64 0, .slice none 0 0] 65)) wr.heap.size (⟨none, 0, none, 0, none, 0, none, 0, fS⟩ : Fw) := El.In.new (E := frE) wr (⟨none, 0, none, 0, none, 0, none, 0, fS⟩ : Fw) _ rfl
          have hal := below_alloc (Below.refl wr.heap.size wr) (.cells #[.int .i64 0, .int .i64 1, .int .i64 0, .int .i64 0, .slice none 0 0, .int .i64 0, .slice none 0 0, .int .i64 0, .slice none 0 0, .int .i64 0, .int .i64 0, .int .i64 5, .int .i64 0, .slice none 0 0] 65)
          have hfo : (⟨none, 0, none, 0, none, 0, none, 0, fS⟩ : Fw).ok (wr.alloc (.cells #[.int .i64 0, .int .i64 1, .int .i64 0, .int .i64 0, .slice none 0 0, .int .i64 0, .slice none 0 0, .int .i64 0, .slice none 0 0, .int .i64 0, .int .i64 0, .int .i64 5, .int .i64 0, .slice none 0 0] 65)) := ⟨SlV.nil _ _, SlV.nil _ _, SlV.nil _ _, SlV.nil _ _⟩
          replace hP := hP.below hal
          replace hE := hE.below hal
          replace hz := hz.below hal
          replace hT := hT.below hal
          replace hB := below_then hB hal
          clear hal
          go_upto_region 16 with fail
          generalize wr.alloc (.cells #[.int .i64 0, .int .i64 1, .int .i64 0, .int .i64 0, .slice none 0 0, .int .i64 0, .slice none 0 0, .int .i64 0, .slice none 0 0, .int .i64 0, .int .i64 0, .int .i64 5, .int .i64 0, .slice none 0 0] 65) = V8 at *
          generalize wr.heap.size = n8 at *
          have hr := Lib.hid (leaveD_r HI.out.r (by rw [HI.out.inc]; omega))
          go_wp2_with (first | (refine El.load pnRow rfl _ rfl n1 0 rfl (pl18 m 2) hP.at #[.slice (some ⟨m, 0, none⟩) 3 3, .int .i64 2, .int .i64 3, .int .i64 2, .int .i64 20, .int .i64 2, .int .i64 32, .int .i64 4, .int .i64 16] rfl ?_) | (refine El.load dvRow rfl _ rfl n2 0 rfl z hE.at #[.int .i64 z.node, .int .i64 z.boot, .int .i64 z.above, .int .i64 z.pos, .int .i64 z.y.t, .int .i64 z.pos, .slice none 0 0, .int .i64 z.q.f, .int .i64 z.q.g, .slice z.qA z.q.os.length z.qc, .slice none 0 0, .slice none 0 0, .slice none 0 0, .slice none 0 0, .slice z.y.bA z.y.base.length z.y.bc, .int .i64 z.y.t, .slice z.y.oA z.y.ops.length z.y.oc, .slice z.y.uA z.y.us.length z.y.uc, .slice z.y.wA z.y.now.length z.y.wc, .slice z.cA z.l.length z.cc, .int .i64 z.inc, .int .i64 z.mode, .int .i64 z.clock, .int .i64 z.sent, .slice z.pA 0 z.pc, .int .i64 z.late] rfl ?_) | (refine El.load frRow rfl _ rfl n8 0 rfl (⟨none, 0, none, 0, none, 0, none, 0, fS⟩ : Fw) hF.at #[.int .i64 0, .int .i64 1, .int .i64 0, .int .i64 0, .slice none 0 0, .int .i64 0, .slice none 0 0, .int .i64 0, .slice none 0 0, .int .i64 0, .int .i64 0, .int .i64 5, .int .i64 0, .slice none 0 0] rfl ?_) | fail)
          refine (takeAt H m 2 (by omega) z (⟨none, 0, none, 0, none, 0, none, 0, fS⟩ : Fw) _ hT hz hfo HV.out HI.out.r HI.out.node fS_d (take_S HI.out)).mono ?_
          rintro e w9 ⟨z9, rfl, hz9, hvz9, hb9⟩
          replace hP := hP.below hb9
          replace hE := hE.below hb9
          replace hz := hz.below hb9
          replace hT := hT.below hb9
          replace hB := below_then hB hb9
          clear hb9 hF hfo
          have hZ4 : dvE.In (w9.alloc (.cells #[.int .i64 0, .int .i64 0, .int .i64 0, .int .i64 0, .int .i64 0, .int .i64 0, .slice none 0 0, .int .i64 0, .int .i64 0, .slice none 0 0, .slice none 0 0, .slice none 0 0, .slice none 0 0, .slice none 0 0, .slice none 0 0, .int .i64 0, .slice none 0 0, .slice none 0 0, .slice none 0 0, .slice none 0 0, .int .i64 0, .int .i64 0, .int .i64 0, .int .i64 0, .slice none 0 0, .int .i64 0] 44)) w9.heap.size Dw.zero := El.In.new (E := dvE) w9 Dw.zero _ rfl
          go_upto_region 17 with (first | (refine wpList_alloc_dv rfl rfl ?_) | (refine El.store dvRow rfl _ _ rfl w9.heap.size z9 #[.int .i64 z9.node, .int .i64 z9.boot, .int .i64 z9.above, .int .i64 z9.pos, .int .i64 z9.y.t, .int .i64 z9.pos, .slice none 0 0, .int .i64 z9.q.f, .int .i64 z9.q.g, .slice z9.qA z9.q.os.length z9.qc, .slice none 0 0, .slice none 0 0, .slice none 0 0, .slice none 0 0, .slice z9.y.bA z9.y.base.length z9.y.bc, .int .i64 z9.y.t, .slice z9.y.oA z9.y.ops.length z9.y.oc, .slice z9.y.uA z9.y.us.length z9.y.uc, .slice z9.y.wA z9.y.now.length z9.y.wc, .slice z9.cA z9.l.length z9.cc, .int .i64 z9.inc, .int .i64 z9.mode, .int .i64 z9.clock, .int .i64 z9.sent, .slice z9.pA 0 z9.pc, .int .i64 z9.late] rfl rfl rfl Dw.zero hZ4 ?_) | fail)
          have hdn := below_setRow (below_alloc (Below.refl w9.heap.size w9) (.cells #[.int .i64 0, .int .i64 0, .int .i64 0, .int .i64 0, .int .i64 0, .int .i64 0, .slice none 0 0, .int .i64 0, .int .i64 0, .slice none 0 0, .slice none 0 0, .slice none 0 0, .slice none 0 0, .slice none 0 0, .slice none 0 0, .int .i64 0, .slice none 0 0, .slice none 0 0, .slice none 0 0, .slice none 0 0, .int .i64 0, .int .i64 0, .int .i64 0, .int .i64 0, .slice none 0 0, .int .i64 0] 44)) (Nat.le_refl _) #[.int .i64 z9.node, .int .i64 z9.boot, .int .i64 z9.above, .int .i64 z9.pos, .int .i64 z9.y.t, .int .i64 z9.pos, .slice none 0 0, .int .i64 z9.q.f, .int .i64 z9.q.g, .slice z9.qA z9.q.os.length z9.qc, .slice none 0 0, .slice none 0 0, .slice none 0 0, .slice none 0 0, .slice z9.y.bA z9.y.base.length z9.y.bc, .int .i64 z9.y.t, .slice z9.y.oA z9.y.ops.length z9.y.oc, .slice z9.y.uA z9.y.us.length z9.y.uc, .slice z9.y.wA z9.y.now.length z9.y.wc, .slice z9.cA z9.l.length z9.cc, .int .i64 z9.inc, .int .i64 z9.mode, .int .i64 z9.clock, .int .i64 z9.sent, .slice z9.pA 0 z9.pc, .int .i64 z9.late]
          replace hP := hP.below hdn
          replace hE := hE.below hdn
          replace hz := hz.below hdn
          replace hT := hT.below hdn
          replace hB := below_then hB hdn
          have hN := hZ4.set z9 #[.int .i64 z9.node, .int .i64 z9.boot, .int .i64 z9.above, .int .i64 z9.pos, .int .i64 z9.y.t, .int .i64 z9.pos, .slice none 0 0, .int .i64 z9.q.f, .int .i64 z9.q.g, .slice z9.qA z9.q.os.length z9.qc, .slice none 0 0, .slice none 0 0, .slice none 0 0, .slice none 0 0, .slice z9.y.bA z9.y.base.length z9.y.bc, .int .i64 z9.y.t, .slice z9.y.oA z9.y.ops.length z9.y.oc, .slice z9.y.uA z9.y.us.length z9.y.uc, .slice z9.y.wA z9.y.now.length z9.y.wc, .slice z9.cA z9.l.length z9.cc, .int .i64 z9.inc, .int .i64 z9.mode, .int .i64 z9.clock, .int .i64 z9.sent, .slice z9.pA 0 z9.pc, .int .i64 z9.late] rfl
          replace hz9 := hz9.below hdn
          clear hZ4 hdn
          generalize (w9.alloc (.cells #[.int .i64 0, .int .i64 0, .int .i64 0, .int .i64 0, .int .i64 0, .int .i64 0, .slice none 0 0, .int .i64 0, .int .i64 0, .slice none 0 0, .slice none 0 0, .slice none 0 0, .slice none 0 0, .slice none 0 0, .slice none 0 0, .int .i64 0, .slice none 0 0, .slice none 0 0, .slice none 0 0, .slice none 0 0, .int .i64 0, .int .i64 0, .int .i64 0, .int .i64 0, .slice none 0 0, .int .i64 0] 44)).setRow w9.heap.size #[.int .i64 z9.node, .int .i64 z9.boot, .int .i64 z9.above, .int .i64 z9.pos, .int .i64 z9.y.t, .int .i64 z9.pos, .slice none 0 0, .int .i64 z9.q.f, .int .i64 z9.q.g, .slice z9.qA z9.q.os.length z9.qc, .slice none 0 0, .slice none 0 0, .slice none 0 0, .slice none 0 0, .slice z9.y.bA z9.y.base.length z9.y.bc, .int .i64 z9.y.t, .slice z9.y.oA z9.y.ops.length z9.y.oc, .slice z9.y.uA z9.y.us.length z9.y.uc, .slice z9.y.wA z9.y.now.length z9.y.wc, .slice z9.cA z9.l.length z9.cc, .int .i64 z9.inc, .int .i64 z9.mode, .int .i64 z9.clock, .int .i64 z9.sent, .slice z9.pA 0 z9.pc, .int .i64 z9.late] = V9 at *
          generalize w9.heap.size = n9 at *
          go_wp2_with (first | (refine El.load dvRow rfl _ rfl n9 0 rfl z9 hN.at #[.int .i64 z9.node, .int .i64 z9.boot, .int .i64 z9.above, .int .i64 z9.pos, .int .i64 z9.y.t, .int .i64 z9.pos, .slice none 0 0, .int .i64 z9.q.f, .int .i64 z9.q.g, .slice z9.qA z9.q.os.length z9.qc, .slice none 0 0, .slice none 0 0, .slice none 0 0, .slice none 0 0, .slice z9.y.bA z9.y.base.length z9.y.bc, .int .i64 z9.y.t, .slice z9.y.oA z9.y.ops.length z9.y.oc, .slice z9.y.uA z9.y.us.length z9.y.uc, .slice z9.y.wA z9.y.now.length z9.y.wc, .slice z9.cA z9.l.length z9.cc, .int .i64 z9.inc, .int .i64 z9.mode, .int .i64 z9.clock, .int .i64 z9.sent, .slice z9.pA 0 z9.pc, .int .i64 z9.late] rfl ?_) | fail)
          refine (readNo H z9 _ hz9 hvz9 hr.out (by show (2 : Int) ≠ 1; omega)).mono ?_
          rintro e w10 ⟨A10, k10, rfl, hb10⟩
          replace hP := hP.below hb10
          replace hE := hE.below hb10
          replace hz := hz.below hb10
          replace hz9 := hz9.below hb10
          replace hN := hN.below hb10
          replace hT := hT.below hb10
          replace hB := below_then hB hb10
          clear hb10
          obtain ⟨N, hN4⟩ : ∃ N, (editD 2 16 (leaveD S) 3 0 ⟨#[122]⟩).2 = N := ⟨_, rfl⟩
          have HED := Lib.hid (show editD 2 16 (leaveD S) 3 0 ⟨#[122]⟩ = ((editD 2 16 (leaveD S) 3 0 ⟨#[122]⟩).1, N) from Prod.ext rfl hN4)
          rw [away_z rfl] at hN4
          subst hN4
          go_wp2_with (first | (refine El.load pnRow rfl _ rfl n1 0 rfl (pl18 m 2) hP.at #[.slice (some ⟨m, 0, none⟩) 3 3, .int .i64 2, .int .i64 3, .int .i64 2, .int .i64 20, .int .i64 2, .int .i64 32, .int .i64 4, .int .i64 16] rfl ?_) | (refine El.load dvRow rfl _ rfl n9 0 rfl z9 hN.at #[.int .i64 z9.node, .int .i64 z9.boot, .int .i64 z9.above, .int .i64 z9.pos, .int .i64 z9.y.t, .int .i64 z9.pos, .slice none 0 0, .int .i64 z9.q.f, .int .i64 z9.q.g, .slice z9.qA z9.q.os.length z9.qc, .slice none 0 0, .slice none 0 0, .slice none 0 0, .slice none 0 0, .slice z9.y.bA z9.y.base.length z9.y.bc, .int .i64 z9.y.t, .slice z9.y.oA z9.y.ops.length z9.y.oc, .slice z9.y.uA z9.y.us.length z9.y.uc, .slice z9.y.wA z9.y.now.length z9.y.wc, .slice z9.cA z9.l.length z9.cc, .int .i64 z9.inc, .int .i64 z9.mode, .int .i64 z9.clock, .int .i64 z9.sent, .slice z9.pA 0 z9.pc, .int .i64 z9.late] rfl ?_) | fail)
          refine (editAt H m 2 (by omega) z9 3 0 ⟨#[122]⟩ _ hT hz9 hvz9 hr.out HI.out.node (by unfold i64; omega) (by unfold i64; omega) (by decide) HED.out).mono ?_
          rintro e w11 ⟨z11, rfl, _, _, hb11⟩
          replace hP := hP.below hb11
          replace hE := hE.below hb11
          replace hz := hz.below hb11
          replace hz9 := hz9.below hb11
          replace hN := hN.below hb11
          replace hT := hT.below hb11
          replace hB := below_then hB hb11
          clear hb11
          have hZ4 : dvE.In (w11.alloc (.cells #[.int .i64 0, .int .i64 0, .int .i64 0, .int .i64 0, .int .i64 0, .int .i64 0, .slice none 0 0, .int .i64 0, .int .i64 0, .slice none 0 0, .slice none 0 0, .slice none 0 0, .slice none 0 0, .slice none 0 0, .slice none 0 0, .int .i64 0, .slice none 0 0, .slice none 0 0, .slice none 0 0, .slice none 0 0, .int .i64 0, .int .i64 0, .int .i64 0, .int .i64 0, .slice none 0 0, .int .i64 0] 44)) w11.heap.size Dw.zero := El.In.new (E := dvE) w11 Dw.zero _ rfl
          go_upto_region 19 with (first | (refine wpList_alloc_dv rfl rfl ?_) | (refine El.store dvRow rfl _ _ rfl w11.heap.size z11 #[.int .i64 z11.node, .int .i64 z11.boot, .int .i64 z11.above, .int .i64 z11.pos, .int .i64 z11.y.t, .int .i64 z11.pos, .slice none 0 0, .int .i64 z11.q.f, .int .i64 z11.q.g, .slice z11.qA z11.q.os.length z11.qc, .slice none 0 0, .slice none 0 0, .slice none 0 0, .slice none 0 0, .slice z11.y.bA z11.y.base.length z11.y.bc, .int .i64 z11.y.t, .slice z11.y.oA z11.y.ops.length z11.y.oc, .slice z11.y.uA z11.y.us.length z11.y.uc, .slice z11.y.wA z11.y.now.length z11.y.wc, .slice z11.cA z11.l.length z11.cc, .int .i64 z11.inc, .int .i64 z11.mode, .int .i64 z11.clock, .int .i64 z11.sent, .slice z11.pA 0 z11.pc, .int .i64 z11.late] rfl rfl rfl Dw.zero hZ4 ?_) | fail)
          have hdn := below_setRow (below_alloc (Below.refl w11.heap.size w11) (.cells #[.int .i64 0, .int .i64 0, .int .i64 0, .int .i64 0, .int .i64 0, .int .i64 0, .slice none 0 0, .int .i64 0, .int .i64 0, .slice none 0 0, .slice none 0 0, .slice none 0 0, .slice none 0 0, .slice none 0 0, .slice none 0 0, .int .i64 0, .slice none 0 0, .slice none 0 0, .slice none 0 0, .slice none 0 0, .int .i64 0, .int .i64 0, .int .i64 0, .int .i64 0, .slice none 0 0, .int .i64 0] 44)) (Nat.le_refl _) #[.int .i64 z11.node, .int .i64 z11.boot, .int .i64 z11.above, .int .i64 z11.pos, .int .i64 z11.y.t, .int .i64 z11.pos, .slice none 0 0, .int .i64 z11.q.f, .int .i64 z11.q.g, .slice z11.qA z11.q.os.length z11.qc, .slice none 0 0, .slice none 0 0, .slice none 0 0, .slice none 0 0, .slice z11.y.bA z11.y.base.length z11.y.bc, .int .i64 z11.y.t, .slice z11.y.oA z11.y.ops.length z11.y.oc, .slice z11.y.uA z11.y.us.length z11.y.uc, .slice z11.y.wA z11.y.now.length z11.y.wc, .slice z11.cA z11.l.length z11.cc, .int .i64 z11.inc, .int .i64 z11.mode, .int .i64 z11.clock, .int .i64 z11.sent, .slice z11.pA 0 z11.pc, .int .i64 z11.late]
          replace hP := hP.below hdn
          replace hE := hE.below hdn
          replace hz := hz.below hdn
          replace hT := hT.below hdn
          replace hB := below_then hB hdn
          replace hN := hN.below hdn
          replace hz9 := hz9.below hdn
          clear hZ4 hdn
          generalize (w11.alloc (.cells #[.int .i64 0, .int .i64 0, .int .i64 0, .int .i64 0, .int .i64 0, .int .i64 0, .slice none 0 0, .int .i64 0, .int .i64 0, .slice none 0 0, .slice none 0 0, .slice none 0 0, .slice none 0 0, .slice none 0 0, .slice none 0 0, .int .i64 0, .slice none 0 0, .slice none 0 0, .slice none 0 0, .slice none 0 0, .int .i64 0, .int .i64 0, .int .i64 0, .int .i64 0, .slice none 0 0, .int .i64 0] 44)).setRow w11.heap.size #[.int .i64 z11.node, .int .i64 z11.boot, .int .i64 z11.above, .int .i64 z11.pos, .int .i64 z11.y.t, .int .i64 z11.pos, .slice none 0 0, .int .i64 z11.q.f, .int .i64 z11.q.g, .slice z11.qA z11.q.os.length z11.qc, .slice none 0 0, .slice none 0 0, .slice none 0 0, .slice none 0 0, .slice z11.y.bA z11.y.base.length z11.y.bc, .int .i64 z11.y.t, .slice z11.y.oA z11.y.ops.length z11.y.oc, .slice z11.y.uA z11.y.us.length z11.y.uc, .slice z11.y.wA z11.y.now.length z11.y.wc, .slice z11.cA z11.l.length z11.cc, .int .i64 z11.inc, .int .i64 z11.mode, .int .i64 z11.clock, .int .i64 z11.sent, .slice z11.pA 0 z11.pc, .int .i64 z11.late] = V11 at *
          generalize w11.heap.size = n11 at *
          as_aux_lemma =>
            go_wp2_with fail
            refine (HA _).mono ?_
            rintro e w12 ⟨rfl, hb12⟩
            replace hE := hE.below hb12
            replace hN := hN.below hb12
            replace hz := hz.below hb12
            replace hz9 := hz9.below hb12
            replace hB := below_then hB hb12
            clear hb12
            have g20 : z9.inc = 2 := by rw [show z9.inc = min (S.inc + 1) 1099511627776 from congrArg Dv.inc hvz9, HI.out.inc]; rfl
            have g21 : z9.mode = 2 := by rw [show z9.mode = 2 from congrArg Dv.mode hvz9]
            have k20 : w12.cell? ⟨n9, 20, none⟩ = some (.int .i64 2) := by rw [hN.cell]; show some (Value.int .i64 z9.inc) = _; rw [g20]
            have k21 : w12.cell? ⟨n9, 21, none⟩ = some (.int .i64 2) := by rw [hN.cell]; show some (Value.int .i64 z9.mode) = _; rw [g21]
            have g22 : z9.clock = z.clock := (congrArg Dv.clock hvz9).trans (congrArg Dv.clock HV.out).symm
            have g23 : z9.sent = 0 := congrArg Dv.sent hvz9
            have g9 : z9.q = z.q := (congrArg Dv.q hvz9).trans (congrArg Dv.q HV.out).symm
            have k22 : w12.cell? ⟨n9, 22, none⟩ = some (.int .i64 z.clock) := by rw [hN.cell]; show some (Value.int .i64 z9.clock) = _; rw [g22]
            have j22 : w12.cell? ⟨n2, 22, none⟩ = some (.int .i64 z.clock) := hE.cell 22
            have k23 : w12.cell? ⟨n9, 23, none⟩ = some (.int .i64 0) := by rw [hN.cell]; show some (Value.int .i64 z9.sent) = _; rw [g23]
            have k9 : w12.cell? ⟨n9, 9, none⟩ = some (.slice z9.qA z.q.os.length z9.qc) := by rw [hN.cell]; show some (Value.slice z9.qA z9.q.os.length z9.qc) = _; rw [g9]
            have j9 : w12.cell? ⟨n2, 9, none⟩ = some (.slice z.qA z.q.os.length z.qc) := hE.cell 9
            have hql : z.q.os.length ≤ 50000 := by have h := HI.out.r.ql; rw [← HV.out] at h; have h2 : z.q.os.length ≤ 60 := h; omega
            have hs9 : opE.Sl w12 z9.qA z.q.os := by have h := hz9.q.1; rw [g9] at h; exact h
            have CS := Lib.hid (sameOp_any z9.qA z.qA z9.qc z.qc z.q.os z.q.os w12 hql hql hs9 hz.q.1)
            clear hE hN hz hz9 hT hP g20 g21 g22 g23 g9 HED hvz9 hs9 hql
            go_wp2_with fail
            refine CS.out.mono ?_
            rintro e w13 ⟨bq, rfl, hbq, hb13⟩
            obtain rfl : bq = true := hbq.2 (by first | trivial | rfl)
            clear hbq CS
            replace hB := below_then hB hb13
            clear k20 k21 k22 k23 k9 j22 j9 hb13
            go_wp2_with fail
            go_ret
            exact ⟨rfl, hB⟩
        · by_cases h1 : t % 3 = 1
          · clear h0
            have hF : frE.In ((wr.alloc (.cells #[.int .i64 0, .int .i64 1, .int .i64 0, .int .i64 0, .slice none 0 0, .int .i64 0, .slice none 0 0, .int .i64 1, .slice (some ⟨wr.heap.size + 1, 0, none⟩) 1 1, .int .i64 0, .int .i64 0, .int .i64 0, .int .i64 0, .slice none 0 0] 65)).alloc (.cells #[.int .i64 2, .int .i64 1, .int .i64 1, .int .i64 0, .int .i64 0, .int .i64 0, .int .i64 0, .int .i64 0, .int .i64 0, .string ⟨#[]⟩] 60)) wr.heap.size (⟨none, 0, none, 0, some ⟨wr.heap.size + 1, 0, none⟩, 1, none, 0, fV 1⟩ : Fw) := (El.In.new (E := frE) wr (⟨none, 0, none, 0, some ⟨wr.heap.size + 1, 0, none⟩, 1, none, 0, fV 1⟩ : Fw) _ rfl).alloc _
            have hRow : SlV enE ((wr.alloc (.cells #[.int .i64 0, .int .i64 1, .int .i64 0, .int .i64 0, .slice none 0 0, .int .i64 0, .slice none 0 0, .int .i64 1, .slice (some ⟨wr.heap.size + 1, 0, none⟩) 1 1, .int .i64 0, .int .i64 0, .int .i64 0, .int .i64 0, .slice none 0 0] 65)).alloc (.cells #[.int .i64 2, .int .i64 1, .int .i64 1, .int .i64 0, .int .i64 0, .int .i64 0, .int .i64 0, .int .i64 0, .int .i64 0, .string ⟨#[]⟩] 60)) (some ⟨wr.heap.size + 1, 0, none⟩) 1 [⟨2, 1, 1, zeroMv⟩] := by
              have h := slOne18 (E := enE) (wr.alloc (.cells #[.int .i64 0, .int .i64 1, .int .i64 0, .int .i64 0, .slice none 0 0, .int .i64 0, .slice none 0 0, .int .i64 1, .slice (some ⟨wr.heap.size + 1, 0, none⟩) 1 1, .int .i64 0, .int .i64 0, .int .i64 0, .int .i64 0, .slice none 0 0] 65)) (⟨2, 1, 1, zeroMv⟩ : En) #[.int .i64 2, .int .i64 1, .int .i64 1, .int .i64 0, .int .i64 0, .int .i64 0, .int .i64 0, .int .i64 0, .int .i64 0, .string ⟨#[]⟩] rfl
              rw [alloc_size] at h
              exact h
            have hal := below_alloc (below_alloc (Below.refl wr.heap.size wr) (.cells #[.int .i64 0, .int .i64 1, .int .i64 0, .int .i64 0, .slice none 0 0, .int .i64 0, .slice none 0 0, .int .i64 1, .slice (some ⟨wr.heap.size + 1, 0, none⟩) 1 1, .int .i64 0, .int .i64 0, .int .i64 0, .int .i64 0, .slice none 0 0] 65)) (.cells #[.int .i64 2, .int .i64 1, .int .i64 1, .int .i64 0, .int .i64 0, .int .i64 0, .int .i64 0, .int .i64 0, .int .i64 0, .string ⟨#[]⟩] 60)
            have hfo : (⟨none, 0, none, 0, some ⟨wr.heap.size + 1, 0, none⟩, 1, none, 0, fV 1⟩ : Fw).ok ((wr.alloc (.cells #[.int .i64 0, .int .i64 1, .int .i64 0, .int .i64 0, .slice none 0 0, .int .i64 0, .slice none 0 0, .int .i64 1, .slice (some ⟨wr.heap.size + 1, 0, none⟩) 1 1, .int .i64 0, .int .i64 0, .int .i64 0, .int .i64 0, .slice none 0 0] 65)).alloc (.cells #[.int .i64 2, .int .i64 1, .int .i64 1, .int .i64 0, .int .i64 0, .int .i64 0, .int .i64 0, .int .i64 0, .int .i64 0, .string ⟨#[]⟩] 60)) := ⟨SlV.nil _ _, SlV.nil _ _, hRow, SlV.nil _ _⟩
            clear hRow
            replace hP := hP.below hal
            replace hE := hE.below hal
            replace hz := hz.below hal
            replace hT := hT.below hal
            replace hB := below_then hB hal
            clear hal
            go_upto_region 16 with fail
            generalize (wr.alloc (.cells #[.int .i64 0, .int .i64 1, .int .i64 0, .int .i64 0, .slice none 0 0, .int .i64 0, .slice none 0 0, .int .i64 1, .slice (some ⟨wr.heap.size + 1, 0, none⟩) 1 1, .int .i64 0, .int .i64 0, .int .i64 0, .int .i64 0, .slice none 0 0] 65)).alloc (.cells #[.int .i64 2, .int .i64 1, .int .i64 1, .int .i64 0, .int .i64 0, .int .i64 0, .int .i64 0, .int .i64 0, .int .i64 0, .string ⟨#[]⟩] 60) = V8 at *
            generalize wr.heap.size + 1 = ne at *
            generalize wr.heap.size = n8 at *
            have hr := Lib.hid (leaveD_r (pos1_r HI.out.r) (by show S.inc < 4294967296; rw [HI.out.inc]; omega))
            go_wp2_with (first | (refine El.load pnRow rfl _ rfl n1 0 rfl (pl18 m 2) hP.at #[.slice (some ⟨m, 0, none⟩) 3 3, .int .i64 2, .int .i64 3, .int .i64 2, .int .i64 20, .int .i64 2, .int .i64 32, .int .i64 4, .int .i64 16] rfl ?_) | (refine El.load dvRow rfl _ rfl n2 0 rfl z hE.at #[.int .i64 z.node, .int .i64 z.boot, .int .i64 z.above, .int .i64 z.pos, .int .i64 z.y.t, .int .i64 z.pos, .slice none 0 0, .int .i64 z.q.f, .int .i64 z.q.g, .slice z.qA z.q.os.length z.qc, .slice none 0 0, .slice none 0 0, .slice none 0 0, .slice none 0 0, .slice z.y.bA z.y.base.length z.y.bc, .int .i64 z.y.t, .slice z.y.oA z.y.ops.length z.y.oc, .slice z.y.uA z.y.us.length z.y.uc, .slice z.y.wA z.y.now.length z.y.wc, .slice z.cA z.l.length z.cc, .int .i64 z.inc, .int .i64 z.mode, .int .i64 z.clock, .int .i64 z.sent, .slice z.pA 0 z.pc, .int .i64 z.late] rfl ?_) | (refine El.load frRow rfl _ rfl n8 0 rfl (⟨none, 0, none, 0, some ⟨ne, 0, none⟩, 1, none, 0, fV 1⟩ : Fw) hF.at #[.int .i64 0, .int .i64 1, .int .i64 0, .int .i64 0, .slice none 0 0, .int .i64 0, .slice none 0 0, .int .i64 1, .slice (some ⟨ne, 0, none⟩) 1 1, .int .i64 0, .int .i64 0, .int .i64 0, .int .i64 0, .slice none 0 0] rfl ?_) | fail)
            refine (takeAt H m 2 (by omega) z (⟨none, 0, none, 0, some ⟨ne, 0, none⟩, 1, none, 0, fV 1⟩ : Fw) _ hT hz hfo HV.out HI.out.r HI.out.node (fV_d (Or.inl rfl)) (take_V1 HI.out)).mono ?_
            rintro e w9 ⟨z9, rfl, hz9, hvz9, hb9⟩
            replace hP := hP.below hb9
            replace hE := hE.below hb9
            replace hz := hz.below hb9
            replace hT := hT.below hb9
            replace hB := below_then hB hb9
            clear hb9 hF hfo
            have hZ4 : dvE.In (w9.alloc (.cells #[.int .i64 0, .int .i64 0, .int .i64 0, .int .i64 0, .int .i64 0, .int .i64 0, .slice none 0 0, .int .i64 0, .int .i64 0, .slice none 0 0, .slice none 0 0, .slice none 0 0, .slice none 0 0, .slice none 0 0, .slice none 0 0, .int .i64 0, .slice none 0 0, .slice none 0 0, .slice none 0 0, .slice none 0 0, .int .i64 0, .int .i64 0, .int .i64 0, .int .i64 0, .slice none 0 0, .int .i64 0] 44)) w9.heap.size Dw.zero := El.In.new (E := dvE) w9 Dw.zero _ rfl
            go_upto_region 17 with (first | (refine wpList_alloc_dv rfl rfl ?_) | (refine El.store dvRow rfl _ _ rfl w9.heap.size z9 #[.int .i64 z9.node, .int .i64 z9.boot, .int .i64 z9.above, .int .i64 z9.pos, .int .i64 z9.y.t, .int .i64 z9.pos, .slice none 0 0, .int .i64 z9.q.f, .int .i64 z9.q.g, .slice z9.qA z9.q.os.length z9.qc, .slice none 0 0, .slice none 0 0, .slice none 0 0, .slice none 0 0, .slice z9.y.bA z9.y.base.length z9.y.bc, .int .i64 z9.y.t, .slice z9.y.oA z9.y.ops.length z9.y.oc, .slice z9.y.uA z9.y.us.length z9.y.uc, .slice z9.y.wA z9.y.now.length z9.y.wc, .slice z9.cA z9.l.length z9.cc, .int .i64 z9.inc, .int .i64 z9.mode, .int .i64 z9.clock, .int .i64 z9.sent, .slice z9.pA 0 z9.pc, .int .i64 z9.late] rfl rfl rfl Dw.zero hZ4 ?_) | fail)
            have hdn := below_setRow (below_alloc (Below.refl w9.heap.size w9) (.cells #[.int .i64 0, .int .i64 0, .int .i64 0, .int .i64 0, .int .i64 0, .int .i64 0, .slice none 0 0, .int .i64 0, .int .i64 0, .slice none 0 0, .slice none 0 0, .slice none 0 0, .slice none 0 0, .slice none 0 0, .slice none 0 0, .int .i64 0, .slice none 0 0, .slice none 0 0, .slice none 0 0, .slice none 0 0, .int .i64 0, .int .i64 0, .int .i64 0, .int .i64 0, .slice none 0 0, .int .i64 0] 44)) (Nat.le_refl _) #[.int .i64 z9.node, .int .i64 z9.boot, .int .i64 z9.above, .int .i64 z9.pos, .int .i64 z9.y.t, .int .i64 z9.pos, .slice none 0 0, .int .i64 z9.q.f, .int .i64 z9.q.g, .slice z9.qA z9.q.os.length z9.qc, .slice none 0 0, .slice none 0 0, .slice none 0 0, .slice none 0 0, .slice z9.y.bA z9.y.base.length z9.y.bc, .int .i64 z9.y.t, .slice z9.y.oA z9.y.ops.length z9.y.oc, .slice z9.y.uA z9.y.us.length z9.y.uc, .slice z9.y.wA z9.y.now.length z9.y.wc, .slice z9.cA z9.l.length z9.cc, .int .i64 z9.inc, .int .i64 z9.mode, .int .i64 z9.clock, .int .i64 z9.sent, .slice z9.pA 0 z9.pc, .int .i64 z9.late]
            replace hP := hP.below hdn
            replace hE := hE.below hdn
            replace hz := hz.below hdn
            replace hT := hT.below hdn
            replace hB := below_then hB hdn
            have hN := hZ4.set z9 #[.int .i64 z9.node, .int .i64 z9.boot, .int .i64 z9.above, .int .i64 z9.pos, .int .i64 z9.y.t, .int .i64 z9.pos, .slice none 0 0, .int .i64 z9.q.f, .int .i64 z9.q.g, .slice z9.qA z9.q.os.length z9.qc, .slice none 0 0, .slice none 0 0, .slice none 0 0, .slice none 0 0, .slice z9.y.bA z9.y.base.length z9.y.bc, .int .i64 z9.y.t, .slice z9.y.oA z9.y.ops.length z9.y.oc, .slice z9.y.uA z9.y.us.length z9.y.uc, .slice z9.y.wA z9.y.now.length z9.y.wc, .slice z9.cA z9.l.length z9.cc, .int .i64 z9.inc, .int .i64 z9.mode, .int .i64 z9.clock, .int .i64 z9.sent, .slice z9.pA 0 z9.pc, .int .i64 z9.late] rfl
            replace hz9 := hz9.below hdn
            clear hZ4 hdn
            generalize (w9.alloc (.cells #[.int .i64 0, .int .i64 0, .int .i64 0, .int .i64 0, .int .i64 0, .int .i64 0, .slice none 0 0, .int .i64 0, .int .i64 0, .slice none 0 0, .slice none 0 0, .slice none 0 0, .slice none 0 0, .slice none 0 0, .slice none 0 0, .int .i64 0, .slice none 0 0, .slice none 0 0, .slice none 0 0, .slice none 0 0, .int .i64 0, .int .i64 0, .int .i64 0, .int .i64 0, .slice none 0 0, .int .i64 0] 44)).setRow w9.heap.size #[.int .i64 z9.node, .int .i64 z9.boot, .int .i64 z9.above, .int .i64 z9.pos, .int .i64 z9.y.t, .int .i64 z9.pos, .slice none 0 0, .int .i64 z9.q.f, .int .i64 z9.q.g, .slice z9.qA z9.q.os.length z9.qc, .slice none 0 0, .slice none 0 0, .slice none 0 0, .slice none 0 0, .slice z9.y.bA z9.y.base.length z9.y.bc, .int .i64 z9.y.t, .slice z9.y.oA z9.y.ops.length z9.y.oc, .slice z9.y.uA z9.y.us.length z9.y.uc, .slice z9.y.wA z9.y.now.length z9.y.wc, .slice z9.cA z9.l.length z9.cc, .int .i64 z9.inc, .int .i64 z9.mode, .int .i64 z9.clock, .int .i64 z9.sent, .slice z9.pA 0 z9.pc, .int .i64 z9.late] = V9 at *
            generalize w9.heap.size = n9 at *
            go_wp2_with (first | (refine El.load dvRow rfl _ rfl n9 0 rfl z9 hN.at #[.int .i64 z9.node, .int .i64 z9.boot, .int .i64 z9.above, .int .i64 z9.pos, .int .i64 z9.y.t, .int .i64 z9.pos, .slice none 0 0, .int .i64 z9.q.f, .int .i64 z9.q.g, .slice z9.qA z9.q.os.length z9.qc, .slice none 0 0, .slice none 0 0, .slice none 0 0, .slice none 0 0, .slice z9.y.bA z9.y.base.length z9.y.bc, .int .i64 z9.y.t, .slice z9.y.oA z9.y.ops.length z9.y.oc, .slice z9.y.uA z9.y.us.length z9.y.uc, .slice z9.y.wA z9.y.now.length z9.y.wc, .slice z9.cA z9.l.length z9.cc, .int .i64 z9.inc, .int .i64 z9.mode, .int .i64 z9.clock, .int .i64 z9.sent, .slice z9.pA 0 z9.pc, .int .i64 z9.late] rfl ?_) | fail)
            refine (readNo H z9 _ hz9 hvz9 hr.out (by show (2 : Int) ≠ 1; omega)).mono ?_
            rintro e w10 ⟨A10, k10, rfl, hb10⟩
            replace hP := hP.below hb10
            replace hE := hE.below hb10
            replace hz := hz.below hb10
            replace hz9 := hz9.below hb10
            replace hN := hN.below hb10
            replace hT := hT.below hb10
            replace hB := below_then hB hb10
            clear hb10
            obtain ⟨N, hN4⟩ : ∃ N, (editD 2 16 (leaveD { S with pos := 1 }) 3 0 ⟨#[122]⟩).2 = N := ⟨_, rfl⟩
            have HED := Lib.hid (show editD 2 16 (leaveD { S with pos := 1 }) 3 0 ⟨#[122]⟩ = ((editD 2 16 (leaveD { S with pos := 1 }) 3 0 ⟨#[122]⟩).1, N) from Prod.ext rfl hN4)
            rw [away_z rfl] at hN4
            subst hN4
            go_wp2_with (first | (refine El.load pnRow rfl _ rfl n1 0 rfl (pl18 m 2) hP.at #[.slice (some ⟨m, 0, none⟩) 3 3, .int .i64 2, .int .i64 3, .int .i64 2, .int .i64 20, .int .i64 2, .int .i64 32, .int .i64 4, .int .i64 16] rfl ?_) | (refine El.load dvRow rfl _ rfl n9 0 rfl z9 hN.at #[.int .i64 z9.node, .int .i64 z9.boot, .int .i64 z9.above, .int .i64 z9.pos, .int .i64 z9.y.t, .int .i64 z9.pos, .slice none 0 0, .int .i64 z9.q.f, .int .i64 z9.q.g, .slice z9.qA z9.q.os.length z9.qc, .slice none 0 0, .slice none 0 0, .slice none 0 0, .slice none 0 0, .slice z9.y.bA z9.y.base.length z9.y.bc, .int .i64 z9.y.t, .slice z9.y.oA z9.y.ops.length z9.y.oc, .slice z9.y.uA z9.y.us.length z9.y.uc, .slice z9.y.wA z9.y.now.length z9.y.wc, .slice z9.cA z9.l.length z9.cc, .int .i64 z9.inc, .int .i64 z9.mode, .int .i64 z9.clock, .int .i64 z9.sent, .slice z9.pA 0 z9.pc, .int .i64 z9.late] rfl ?_) | fail)
            refine (editAt H m 2 (by omega) z9 3 0 ⟨#[122]⟩ _ hT hz9 hvz9 hr.out HI.out.node (by unfold i64; omega) (by unfold i64; omega) (by decide) HED.out).mono ?_
            rintro e w11 ⟨z11, rfl, _, _, hb11⟩
            replace hP := hP.below hb11
            replace hE := hE.below hb11
            replace hz := hz.below hb11
            replace hz9 := hz9.below hb11
            replace hN := hN.below hb11
            replace hT := hT.below hb11
            replace hB := below_then hB hb11
            clear hb11
            have hZ4 : dvE.In (w11.alloc (.cells #[.int .i64 0, .int .i64 0, .int .i64 0, .int .i64 0, .int .i64 0, .int .i64 0, .slice none 0 0, .int .i64 0, .int .i64 0, .slice none 0 0, .slice none 0 0, .slice none 0 0, .slice none 0 0, .slice none 0 0, .slice none 0 0, .int .i64 0, .slice none 0 0, .slice none 0 0, .slice none 0 0, .slice none 0 0, .int .i64 0, .int .i64 0, .int .i64 0, .int .i64 0, .slice none 0 0, .int .i64 0] 44)) w11.heap.size Dw.zero := El.In.new (E := dvE) w11 Dw.zero _ rfl
            go_upto_region 19 with (first | (refine wpList_alloc_dv rfl rfl ?_) | (refine El.store dvRow rfl _ _ rfl w11.heap.size z11 #[.int .i64 z11.node, .int .i64 z11.boot, .int .i64 z11.above, .int .i64 z11.pos, .int .i64 z11.y.t, .int .i64 z11.pos, .slice none 0 0, .int .i64 z11.q.f, .int .i64 z11.q.g, .slice z11.qA z11.q.os.length z11.qc, .slice none 0 0, .slice none 0 0, .slice none 0 0, .slice none 0 0, .slice z11.y.bA z11.y.base.length z11.y.bc, .int .i64 z11.y.t, .slice z11.y.oA z11.y.ops.length z11.y.oc, .slice z11.y.uA z11.y.us.length z11.y.uc, .slice z11.y.wA z11.y.now.length z11.y.wc, .slice z11.cA z11.l.length z11.cc, .int .i64 z11.inc, .int .i64 z11.mode, .int .i64 z11.clock, .int .i64 z11.sent, .slice z11.pA 0 z11.pc, .int .i64 z11.late] rfl rfl rfl Dw.zero hZ4 ?_) | fail)
            have hdn := below_setRow (below_alloc (Below.refl w11.heap.size w11) (.cells #[.int .i64 0, .int .i64 0, .int .i64 0, .int .i64 0, .int .i64 0, .int .i64 0, .slice none 0 0, .int .i64 0, .int .i64 0, .slice none 0 0, .slice none 0 0, .slice none 0 0, .slice none 0 0, .slice none 0 0, .slice none 0 0, .int .i64 0, .slice none 0 0, .slice none 0 0, .slice none 0 0, .slice none 0 0, .int .i64 0, .int .i64 0, .int .i64 0, .int .i64 0, .slice none 0 0, .int .i64 0] 44)) (Nat.le_refl _) #[.int .i64 z11.node, .int .i64 z11.boot, .int .i64 z11.above, .int .i64 z11.pos, .int .i64 z11.y.t, .int .i64 z11.pos, .slice none 0 0, .int .i64 z11.q.f, .int .i64 z11.q.g, .slice z11.qA z11.q.os.length z11.qc, .slice none 0 0, .slice none 0 0, .slice none 0 0, .slice none 0 0, .slice z11.y.bA z11.y.base.length z11.y.bc, .int .i64 z11.y.t, .slice z11.y.oA z11.y.ops.length z11.y.oc, .slice z11.y.uA z11.y.us.length z11.y.uc, .slice z11.y.wA z11.y.now.length z11.y.wc, .slice z11.cA z11.l.length z11.cc, .int .i64 z11.inc, .int .i64 z11.mode, .int .i64 z11.clock, .int .i64 z11.sent, .slice z11.pA 0 z11.pc, .int .i64 z11.late]
            replace hP := hP.below hdn
            replace hE := hE.below hdn
            replace hz := hz.below hdn
            replace hT := hT.below hdn
            replace hB := below_then hB hdn
            replace hN := hN.below hdn
            replace hz9 := hz9.below hdn
            clear hZ4 hdn
            generalize (w11.alloc (.cells #[.int .i64 0, .int .i64 0, .int .i64 0, .int .i64 0, .int .i64 0, .int .i64 0, .slice none 0 0, .int .i64 0, .int .i64 0, .slice none 0 0, .slice none 0 0, .slice none 0 0, .slice none 0 0, .slice none 0 0, .slice none 0 0, .int .i64 0, .slice none 0 0, .slice none 0 0, .slice none 0 0, .slice none 0 0, .int .i64 0, .int .i64 0, .int .i64 0, .int .i64 0, .slice none 0 0, .int .i64 0] 44)).setRow w11.heap.size #[.int .i64 z11.node, .int .i64 z11.boot, .int .i64 z11.above, .int .i64 z11.pos, .int .i64 z11.y.t, .int .i64 z11.pos, .slice none 0 0, .int .i64 z11.q.f, .int .i64 z11.q.g, .slice z11.qA z11.q.os.length z11.qc, .slice none 0 0, .slice none 0 0, .slice none 0 0, .slice none 0 0, .slice z11.y.bA z11.y.base.length z11.y.bc, .int .i64 z11.y.t, .slice z11.y.oA z11.y.ops.length z11.y.oc, .slice z11.y.uA z11.y.us.length z11.y.uc, .slice z11.y.wA z11.y.now.length z11.y.wc, .slice z11.cA z11.l.length z11.cc, .int .i64 z11.inc, .int .i64 z11.mode, .int .i64 z11.clock, .int .i64 z11.sent, .slice z11.pA 0 z11.pc, .int .i64 z11.late] = V11 at *
            generalize w11.heap.size = n11 at *
            as_aux_lemma =>
              go_wp2_with fail
              refine (HA _).mono ?_
              rintro e w12 ⟨rfl, hb12⟩
              replace hE := hE.below hb12
              replace hN := hN.below hb12
              replace hz := hz.below hb12
              replace hz9 := hz9.below hb12
              replace hB := below_then hB hb12
              clear hb12
              have g20 : z9.inc = 2 := by rw [show z9.inc = min (S.inc + 1) 1099511627776 from congrArg Dv.inc hvz9, HI.out.inc]; rfl
              have g21 : z9.mode = 2 := by rw [show z9.mode = 2 from congrArg Dv.mode hvz9]
              have k20 : w12.cell? ⟨n9, 20, none⟩ = some (.int .i64 2) := by rw [hN.cell]; show some (Value.int .i64 z9.inc) = _; rw [g20]
              have k21 : w12.cell? ⟨n9, 21, none⟩ = some (.int .i64 2) := by rw [hN.cell]; show some (Value.int .i64 z9.mode) = _; rw [g21]
              have g22 : z9.clock = z.clock := (congrArg Dv.clock hvz9).trans (congrArg Dv.clock HV.out).symm
              have g23 : z9.sent = 0 := congrArg Dv.sent hvz9
              have g9 : z9.q = z.q := (congrArg Dv.q hvz9).trans (congrArg Dv.q HV.out).symm
              have k22 : w12.cell? ⟨n9, 22, none⟩ = some (.int .i64 z.clock) := by rw [hN.cell]; show some (Value.int .i64 z9.clock) = _; rw [g22]
              have j22 : w12.cell? ⟨n2, 22, none⟩ = some (.int .i64 z.clock) := hE.cell 22
              have k23 : w12.cell? ⟨n9, 23, none⟩ = some (.int .i64 0) := by rw [hN.cell]; show some (Value.int .i64 z9.sent) = _; rw [g23]
              have k9 : w12.cell? ⟨n9, 9, none⟩ = some (.slice z9.qA z.q.os.length z9.qc) := by rw [hN.cell]; show some (Value.slice z9.qA z9.q.os.length z9.qc) = _; rw [g9]
              have j9 : w12.cell? ⟨n2, 9, none⟩ = some (.slice z.qA z.q.os.length z.qc) := hE.cell 9
              have hql : z.q.os.length ≤ 50000 := by have h := HI.out.r.ql; rw [← HV.out] at h; have h2 : z.q.os.length ≤ 60 := h; omega
              have hs9 : opE.Sl w12 z9.qA z.q.os := by have h := hz9.q.1; rw [g9] at h; exact h
              have CS := Lib.hid (sameOp_any z9.qA z.qA z9.qc z.qc z.q.os z.q.os w12 hql hql hs9 hz.q.1)
              clear hE hN hz hz9 hT hP g20 g21 g22 g23 g9 HED hvz9 hs9 hql
              go_wp2_with fail
              refine CS.out.mono ?_
              rintro e w13 ⟨bq, rfl, hbq, hb13⟩
              obtain rfl : bq = true := hbq.2 (by first | trivial | rfl)
              clear hbq CS
              replace hB := below_then hB hb13
              clear k20 k21 k22 k23 k9 j22 j9 hb13
              go_wp2_with fail
              go_ret
              exact ⟨rfl, hB⟩
          · have h2 : t % 3 = 2 := by omega
            clear h0 h1
            have hF : frE.In ((wr.alloc (.cells #[.int .i64 0, .int .i64 1, .int .i64 0, .int .i64 0, .slice none 0 0, .int .i64 0, .slice none 0 0, .int .i64 1, .slice (some ⟨wr.heap.size + 1, 0, none⟩) 1 1, .int .i64 0, .int .i64 0, .int .i64 0, .int .i64 0, .slice none 0 0] 65)).alloc (.cells #[.int .i64 2, .int .i64 2, .int .i64 1, .int .i64 0, .int .i64 0, .int .i64 0, .int .i64 0, .int .i64 0, .int .i64 0, .string ⟨#[]⟩] 60)) wr.heap.size (⟨none, 0, none, 0, some ⟨wr.heap.size + 1, 0, none⟩, 1, none, 0, fV 2⟩ : Fw) := (El.In.new (E := frE) wr (⟨none, 0, none, 0, some ⟨wr.heap.size + 1, 0, none⟩, 1, none, 0, fV 2⟩ : Fw) _ rfl).alloc _
            have hRow : SlV enE ((wr.alloc (.cells #[.int .i64 0, .int .i64 1, .int .i64 0, .int .i64 0, .slice none 0 0, .int .i64 0, .slice none 0 0, .int .i64 1, .slice (some ⟨wr.heap.size + 1, 0, none⟩) 1 1, .int .i64 0, .int .i64 0, .int .i64 0, .int .i64 0, .slice none 0 0] 65)).alloc (.cells #[.int .i64 2, .int .i64 2, .int .i64 1, .int .i64 0, .int .i64 0, .int .i64 0, .int .i64 0, .int .i64 0, .int .i64 0, .string ⟨#[]⟩] 60)) (some ⟨wr.heap.size + 1, 0, none⟩) 1 [⟨2, 2, 1, zeroMv⟩] := by
              have h := slOne18 (E := enE) (wr.alloc (.cells #[.int .i64 0, .int .i64 1, .int .i64 0, .int .i64 0, .slice none 0 0, .int .i64 0, .slice none 0 0, .int .i64 1, .slice (some ⟨wr.heap.size + 1, 0, none⟩) 1 1, .int .i64 0, .int .i64 0, .int .i64 0, .int .i64 0, .slice none 0 0] 65)) (⟨2, 2, 1, zeroMv⟩ : En) #[.int .i64 2, .int .i64 2, .int .i64 1, .int .i64 0, .int .i64 0, .int .i64 0, .int .i64 0, .int .i64 0, .int .i64 0, .string ⟨#[]⟩] rfl
              rw [alloc_size] at h
              exact h
            have hal := below_alloc (below_alloc (Below.refl wr.heap.size wr) (.cells #[.int .i64 0, .int .i64 1, .int .i64 0, .int .i64 0, .slice none 0 0, .int .i64 0, .slice none 0 0, .int .i64 1, .slice (some ⟨wr.heap.size + 1, 0, none⟩) 1 1, .int .i64 0, .int .i64 0, .int .i64 0, .int .i64 0, .slice none 0 0] 65)) (.cells #[.int .i64 2, .int .i64 2, .int .i64 1, .int .i64 0, .int .i64 0, .int .i64 0, .int .i64 0, .int .i64 0, .int .i64 0, .string ⟨#[]⟩] 60)
            have hfo : (⟨none, 0, none, 0, some ⟨wr.heap.size + 1, 0, none⟩, 1, none, 0, fV 2⟩ : Fw).ok ((wr.alloc (.cells #[.int .i64 0, .int .i64 1, .int .i64 0, .int .i64 0, .slice none 0 0, .int .i64 0, .slice none 0 0, .int .i64 1, .slice (some ⟨wr.heap.size + 1, 0, none⟩) 1 1, .int .i64 0, .int .i64 0, .int .i64 0, .int .i64 0, .slice none 0 0] 65)).alloc (.cells #[.int .i64 2, .int .i64 2, .int .i64 1, .int .i64 0, .int .i64 0, .int .i64 0, .int .i64 0, .int .i64 0, .int .i64 0, .string ⟨#[]⟩] 60)) := ⟨SlV.nil _ _, SlV.nil _ _, hRow, SlV.nil _ _⟩
            clear hRow
            replace hP := hP.below hal
            replace hE := hE.below hal
            replace hz := hz.below hal
            replace hT := hT.below hal
            replace hB := below_then hB hal
            clear hal
            go_upto_region 16 with fail
            generalize (wr.alloc (.cells #[.int .i64 0, .int .i64 1, .int .i64 0, .int .i64 0, .slice none 0 0, .int .i64 0, .slice none 0 0, .int .i64 1, .slice (some ⟨wr.heap.size + 1, 0, none⟩) 1 1, .int .i64 0, .int .i64 0, .int .i64 0, .int .i64 0, .slice none 0 0] 65)).alloc (.cells #[.int .i64 2, .int .i64 2, .int .i64 1, .int .i64 0, .int .i64 0, .int .i64 0, .int .i64 0, .int .i64 0, .int .i64 0, .string ⟨#[]⟩] 60) = V8 at *
            generalize wr.heap.size + 1 = ne at *
            generalize wr.heap.size = n8 at *
            have hr := Lib.hid (pos1_r HI.out.r)
            go_wp2_with (first | (refine El.load pnRow rfl _ rfl n1 0 rfl (pl18 m 2) hP.at #[.slice (some ⟨m, 0, none⟩) 3 3, .int .i64 2, .int .i64 3, .int .i64 2, .int .i64 20, .int .i64 2, .int .i64 32, .int .i64 4, .int .i64 16] rfl ?_) | (refine El.load dvRow rfl _ rfl n2 0 rfl z hE.at #[.int .i64 z.node, .int .i64 z.boot, .int .i64 z.above, .int .i64 z.pos, .int .i64 z.y.t, .int .i64 z.pos, .slice none 0 0, .int .i64 z.q.f, .int .i64 z.q.g, .slice z.qA z.q.os.length z.qc, .slice none 0 0, .slice none 0 0, .slice none 0 0, .slice none 0 0, .slice z.y.bA z.y.base.length z.y.bc, .int .i64 z.y.t, .slice z.y.oA z.y.ops.length z.y.oc, .slice z.y.uA z.y.us.length z.y.uc, .slice z.y.wA z.y.now.length z.y.wc, .slice z.cA z.l.length z.cc, .int .i64 z.inc, .int .i64 z.mode, .int .i64 z.clock, .int .i64 z.sent, .slice z.pA 0 z.pc, .int .i64 z.late] rfl ?_) | (refine El.load frRow rfl _ rfl n8 0 rfl (⟨none, 0, none, 0, some ⟨ne, 0, none⟩, 1, none, 0, fV 2⟩ : Fw) hF.at #[.int .i64 0, .int .i64 1, .int .i64 0, .int .i64 0, .slice none 0 0, .int .i64 0, .slice none 0 0, .int .i64 1, .slice (some ⟨ne, 0, none⟩) 1 1, .int .i64 0, .int .i64 0, .int .i64 0, .int .i64 0, .slice none 0 0] rfl ?_) | fail)
            refine (takeAt H m 2 (by omega) z (⟨none, 0, none, 0, some ⟨ne, 0, none⟩, 1, none, 0, fV 2⟩ : Fw) _ hT hz hfo HV.out HI.out.r HI.out.node (fV_d (Or.inr rfl)) (take_V2 HI.out)).mono ?_
            rintro e w9 ⟨z9, rfl, hz9, hvz9, hb9⟩
            replace hP := hP.below hb9
            replace hE := hE.below hb9
            replace hz := hz.below hb9
            replace hT := hT.below hb9
            replace hB := below_then hB hb9
            clear hb9 hF hfo
            have hZ4 : dvE.In (w9.alloc (.cells #[.int .i64 0, .int .i64 0, .int .i64 0, .int .i64 0, .int .i64 0, .int .i64 0, .slice none 0 0, .int .i64 0, .int .i64 0, .slice none 0 0, .slice none 0 0, .slice none 0 0, .slice none 0 0, .slice none 0 0, .slice none 0 0, .int .i64 0, .slice none 0 0, .slice none 0 0, .slice none 0 0, .slice none 0 0, .int .i64 0, .int .i64 0, .int .i64 0, .int .i64 0, .slice none 0 0, .int .i64 0] 44)) w9.heap.size Dw.zero := El.In.new (E := dvE) w9 Dw.zero _ rfl
            go_upto_region 17 with (first | (refine wpList_alloc_dv rfl rfl ?_) | (refine El.store dvRow rfl _ _ rfl w9.heap.size z9 #[.int .i64 z9.node, .int .i64 z9.boot, .int .i64 z9.above, .int .i64 z9.pos, .int .i64 z9.y.t, .int .i64 z9.pos, .slice none 0 0, .int .i64 z9.q.f, .int .i64 z9.q.g, .slice z9.qA z9.q.os.length z9.qc, .slice none 0 0, .slice none 0 0, .slice none 0 0, .slice none 0 0, .slice z9.y.bA z9.y.base.length z9.y.bc, .int .i64 z9.y.t, .slice z9.y.oA z9.y.ops.length z9.y.oc, .slice z9.y.uA z9.y.us.length z9.y.uc, .slice z9.y.wA z9.y.now.length z9.y.wc, .slice z9.cA z9.l.length z9.cc, .int .i64 z9.inc, .int .i64 z9.mode, .int .i64 z9.clock, .int .i64 z9.sent, .slice z9.pA 0 z9.pc, .int .i64 z9.late] rfl rfl rfl Dw.zero hZ4 ?_) | fail)
            have hdn := below_setRow (below_alloc (Below.refl w9.heap.size w9) (.cells #[.int .i64 0, .int .i64 0, .int .i64 0, .int .i64 0, .int .i64 0, .int .i64 0, .slice none 0 0, .int .i64 0, .int .i64 0, .slice none 0 0, .slice none 0 0, .slice none 0 0, .slice none 0 0, .slice none 0 0, .slice none 0 0, .int .i64 0, .slice none 0 0, .slice none 0 0, .slice none 0 0, .slice none 0 0, .int .i64 0, .int .i64 0, .int .i64 0, .int .i64 0, .slice none 0 0, .int .i64 0] 44)) (Nat.le_refl _) #[.int .i64 z9.node, .int .i64 z9.boot, .int .i64 z9.above, .int .i64 z9.pos, .int .i64 z9.y.t, .int .i64 z9.pos, .slice none 0 0, .int .i64 z9.q.f, .int .i64 z9.q.g, .slice z9.qA z9.q.os.length z9.qc, .slice none 0 0, .slice none 0 0, .slice none 0 0, .slice none 0 0, .slice z9.y.bA z9.y.base.length z9.y.bc, .int .i64 z9.y.t, .slice z9.y.oA z9.y.ops.length z9.y.oc, .slice z9.y.uA z9.y.us.length z9.y.uc, .slice z9.y.wA z9.y.now.length z9.y.wc, .slice z9.cA z9.l.length z9.cc, .int .i64 z9.inc, .int .i64 z9.mode, .int .i64 z9.clock, .int .i64 z9.sent, .slice z9.pA 0 z9.pc, .int .i64 z9.late]
            replace hP := hP.below hdn
            replace hE := hE.below hdn
            replace hz := hz.below hdn
            replace hT := hT.below hdn
            replace hB := below_then hB hdn
            have hN := hZ4.set z9 #[.int .i64 z9.node, .int .i64 z9.boot, .int .i64 z9.above, .int .i64 z9.pos, .int .i64 z9.y.t, .int .i64 z9.pos, .slice none 0 0, .int .i64 z9.q.f, .int .i64 z9.q.g, .slice z9.qA z9.q.os.length z9.qc, .slice none 0 0, .slice none 0 0, .slice none 0 0, .slice none 0 0, .slice z9.y.bA z9.y.base.length z9.y.bc, .int .i64 z9.y.t, .slice z9.y.oA z9.y.ops.length z9.y.oc, .slice z9.y.uA z9.y.us.length z9.y.uc, .slice z9.y.wA z9.y.now.length z9.y.wc, .slice z9.cA z9.l.length z9.cc, .int .i64 z9.inc, .int .i64 z9.mode, .int .i64 z9.clock, .int .i64 z9.sent, .slice z9.pA 0 z9.pc, .int .i64 z9.late] rfl
            replace hz9 := hz9.below hdn
            clear hZ4 hdn
            generalize (w9.alloc (.cells #[.int .i64 0, .int .i64 0, .int .i64 0, .int .i64 0, .int .i64 0, .int .i64 0, .slice none 0 0, .int .i64 0, .int .i64 0, .slice none 0 0, .slice none 0 0, .slice none 0 0, .slice none 0 0, .slice none 0 0, .slice none 0 0, .int .i64 0, .slice none 0 0, .slice none 0 0, .slice none 0 0, .slice none 0 0, .int .i64 0, .int .i64 0, .int .i64 0, .int .i64 0, .slice none 0 0, .int .i64 0] 44)).setRow w9.heap.size #[.int .i64 z9.node, .int .i64 z9.boot, .int .i64 z9.above, .int .i64 z9.pos, .int .i64 z9.y.t, .int .i64 z9.pos, .slice none 0 0, .int .i64 z9.q.f, .int .i64 z9.q.g, .slice z9.qA z9.q.os.length z9.qc, .slice none 0 0, .slice none 0 0, .slice none 0 0, .slice none 0 0, .slice z9.y.bA z9.y.base.length z9.y.bc, .int .i64 z9.y.t, .slice z9.y.oA z9.y.ops.length z9.y.oc, .slice z9.y.uA z9.y.us.length z9.y.uc, .slice z9.y.wA z9.y.now.length z9.y.wc, .slice z9.cA z9.l.length z9.cc, .int .i64 z9.inc, .int .i64 z9.mode, .int .i64 z9.clock, .int .i64 z9.sent, .slice z9.pA 0 z9.pc, .int .i64 z9.late] = V9 at *
            generalize w9.heap.size = n9 at *
            go_wp2_with (first | (refine El.load dvRow rfl _ rfl n9 0 rfl z9 hN.at #[.int .i64 z9.node, .int .i64 z9.boot, .int .i64 z9.above, .int .i64 z9.pos, .int .i64 z9.y.t, .int .i64 z9.pos, .slice none 0 0, .int .i64 z9.q.f, .int .i64 z9.q.g, .slice z9.qA z9.q.os.length z9.qc, .slice none 0 0, .slice none 0 0, .slice none 0 0, .slice none 0 0, .slice z9.y.bA z9.y.base.length z9.y.bc, .int .i64 z9.y.t, .slice z9.y.oA z9.y.ops.length z9.y.oc, .slice z9.y.uA z9.y.us.length z9.y.uc, .slice z9.y.wA z9.y.now.length z9.y.wc, .slice z9.cA z9.l.length z9.cc, .int .i64 z9.inc, .int .i64 z9.mode, .int .i64 z9.clock, .int .i64 z9.sent, .slice z9.pA 0 z9.pc, .int .i64 z9.late] rfl ?_) | fail)
            refine (readAt H z9 _ hz9 hvz9 hr.out HI.out.mode rfl).mono ?_
            rintro e w10 ⟨A10, k10, rfl, _, hb10⟩
            replace hP := hP.below hb10
            replace hE := hE.below hb10
            replace hz := hz.below hb10
            replace hz9 := hz9.below hb10
            replace hN := hN.below hb10
            replace hT := hT.below hb10
            replace hB := below_then hB hb10
            clear hb10
            obtain ⟨N, hN4⟩ : ∃ N, (editD 2 16 (({ S with pos := 1 } : Dv)) 3 0 ⟨#[122]⟩).2 = N := ⟨_, rfl⟩
            have HED := Lib.hid (show editD 2 16 (({ S with pos := 1 } : Dv)) 3 0 ⟨#[122]⟩ = ((editD 2 16 (({ S with pos := 1 } : Dv)) 3 0 ⟨#[122]⟩).1, N) from Prod.ext rfl hN4)
            clear hN4
            go_wp2_with (first | (refine El.load pnRow rfl _ rfl n1 0 rfl (pl18 m 2) hP.at #[.slice (some ⟨m, 0, none⟩) 3 3, .int .i64 2, .int .i64 3, .int .i64 2, .int .i64 20, .int .i64 2, .int .i64 32, .int .i64 4, .int .i64 16] rfl ?_) | (refine El.load dvRow rfl _ rfl n9 0 rfl z9 hN.at #[.int .i64 z9.node, .int .i64 z9.boot, .int .i64 z9.above, .int .i64 z9.pos, .int .i64 z9.y.t, .int .i64 z9.pos, .slice none 0 0, .int .i64 z9.q.f, .int .i64 z9.q.g, .slice z9.qA z9.q.os.length z9.qc, .slice none 0 0, .slice none 0 0, .slice none 0 0, .slice none 0 0, .slice z9.y.bA z9.y.base.length z9.y.bc, .int .i64 z9.y.t, .slice z9.y.oA z9.y.ops.length z9.y.oc, .slice z9.y.uA z9.y.us.length z9.y.uc, .slice z9.y.wA z9.y.now.length z9.y.wc, .slice z9.cA z9.l.length z9.cc, .int .i64 z9.inc, .int .i64 z9.mode, .int .i64 z9.clock, .int .i64 z9.sent, .slice z9.pA 0 z9.pc, .int .i64 z9.late] rfl ?_) | fail)
            refine (editAt H m 2 (by omega) z9 3 0 ⟨#[122]⟩ _ hT hz9 hvz9 hr.out HI.out.node (by unfold i64; omega) (by unfold i64; omega) (by decide) HED.out).mono ?_
            rintro e w11 ⟨z11, rfl, _, _, hb11⟩
            replace hP := hP.below hb11
            replace hE := hE.below hb11
            replace hz := hz.below hb11
            replace hz9 := hz9.below hb11
            replace hN := hN.below hb11
            replace hT := hT.below hb11
            replace hB := below_then hB hb11
            clear hb11
            have hZ4 : dvE.In (w11.alloc (.cells #[.int .i64 0, .int .i64 0, .int .i64 0, .int .i64 0, .int .i64 0, .int .i64 0, .slice none 0 0, .int .i64 0, .int .i64 0, .slice none 0 0, .slice none 0 0, .slice none 0 0, .slice none 0 0, .slice none 0 0, .slice none 0 0, .int .i64 0, .slice none 0 0, .slice none 0 0, .slice none 0 0, .slice none 0 0, .int .i64 0, .int .i64 0, .int .i64 0, .int .i64 0, .slice none 0 0, .int .i64 0] 44)) w11.heap.size Dw.zero := El.In.new (E := dvE) w11 Dw.zero _ rfl
            go_upto_region 19 with (first | (refine wpList_alloc_dv rfl rfl ?_) | (refine El.store dvRow rfl _ _ rfl w11.heap.size z11 #[.int .i64 z11.node, .int .i64 z11.boot, .int .i64 z11.above, .int .i64 z11.pos, .int .i64 z11.y.t, .int .i64 z11.pos, .slice none 0 0, .int .i64 z11.q.f, .int .i64 z11.q.g, .slice z11.qA z11.q.os.length z11.qc, .slice none 0 0, .slice none 0 0, .slice none 0 0, .slice none 0 0, .slice z11.y.bA z11.y.base.length z11.y.bc, .int .i64 z11.y.t, .slice z11.y.oA z11.y.ops.length z11.y.oc, .slice z11.y.uA z11.y.us.length z11.y.uc, .slice z11.y.wA z11.y.now.length z11.y.wc, .slice z11.cA z11.l.length z11.cc, .int .i64 z11.inc, .int .i64 z11.mode, .int .i64 z11.clock, .int .i64 z11.sent, .slice z11.pA 0 z11.pc, .int .i64 z11.late] rfl rfl rfl Dw.zero hZ4 ?_) | fail)
            have hdn := below_setRow (below_alloc (Below.refl w11.heap.size w11) (.cells #[.int .i64 0, .int .i64 0, .int .i64 0, .int .i64 0, .int .i64 0, .int .i64 0, .slice none 0 0, .int .i64 0, .int .i64 0, .slice none 0 0, .slice none 0 0, .slice none 0 0, .slice none 0 0, .slice none 0 0, .slice none 0 0, .int .i64 0, .slice none 0 0, .slice none 0 0, .slice none 0 0, .slice none 0 0, .int .i64 0, .int .i64 0, .int .i64 0, .int .i64 0, .slice none 0 0, .int .i64 0] 44)) (Nat.le_refl _) #[.int .i64 z11.node, .int .i64 z11.boot, .int .i64 z11.above, .int .i64 z11.pos, .int .i64 z11.y.t, .int .i64 z11.pos, .slice none 0 0, .int .i64 z11.q.f, .int .i64 z11.q.g, .slice z11.qA z11.q.os.length z11.qc, .slice none 0 0, .slice none 0 0, .slice none 0 0, .slice none 0 0, .slice z11.y.bA z11.y.base.length z11.y.bc, .int .i64 z11.y.t, .slice z11.y.oA z11.y.ops.length z11.y.oc, .slice z11.y.uA z11.y.us.length z11.y.uc, .slice z11.y.wA z11.y.now.length z11.y.wc, .slice z11.cA z11.l.length z11.cc, .int .i64 z11.inc, .int .i64 z11.mode, .int .i64 z11.clock, .int .i64 z11.sent, .slice z11.pA 0 z11.pc, .int .i64 z11.late]
            replace hP := hP.below hdn
            replace hE := hE.below hdn
            replace hz := hz.below hdn
            replace hT := hT.below hdn
            replace hB := below_then hB hdn
            replace hN := hN.below hdn
            replace hz9 := hz9.below hdn
            clear hZ4 hdn
            generalize (w11.alloc (.cells #[.int .i64 0, .int .i64 0, .int .i64 0, .int .i64 0, .int .i64 0, .int .i64 0, .slice none 0 0, .int .i64 0, .int .i64 0, .slice none 0 0, .slice none 0 0, .slice none 0 0, .slice none 0 0, .slice none 0 0, .slice none 0 0, .int .i64 0, .slice none 0 0, .slice none 0 0, .slice none 0 0, .slice none 0 0, .int .i64 0, .int .i64 0, .int .i64 0, .int .i64 0, .slice none 0 0, .int .i64 0] 44)).setRow w11.heap.size #[.int .i64 z11.node, .int .i64 z11.boot, .int .i64 z11.above, .int .i64 z11.pos, .int .i64 z11.y.t, .int .i64 z11.pos, .slice none 0 0, .int .i64 z11.q.f, .int .i64 z11.q.g, .slice z11.qA z11.q.os.length z11.qc, .slice none 0 0, .slice none 0 0, .slice none 0 0, .slice none 0 0, .slice z11.y.bA z11.y.base.length z11.y.bc, .int .i64 z11.y.t, .slice z11.y.oA z11.y.ops.length z11.y.oc, .slice z11.y.uA z11.y.us.length z11.y.uc, .slice z11.y.wA z11.y.now.length z11.y.wc, .slice z11.cA z11.l.length z11.cc, .int .i64 z11.inc, .int .i64 z11.mode, .int .i64 z11.clock, .int .i64 z11.sent, .slice z11.pA 0 z11.pc, .int .i64 z11.late] = V11 at *
            generalize w11.heap.size = n11 at *
            as_aux_lemma =>
              go_wp2_with fail
              refine (HA _).mono ?_
              rintro e w12 ⟨rfl, hb12⟩
              replace hE := hE.below hb12
              replace hN := hN.below hb12
              replace hz := hz.below hb12
              replace hz9 := hz9.below hb12
              replace hB := below_then hB hb12
              clear hb12
              have g20 : z9.inc = 1 := by rw [show z9.inc = S.inc from congrArg Dv.inc hvz9, HI.out.inc]
              have g21 : z9.mode = 1 := by rw [show z9.mode = S.mode from congrArg Dv.mode hvz9]; exact HI.out.mode
              have k20 : w12.cell? ⟨n9, 20, none⟩ = some (.int .i64 1) := by rw [hN.cell]; show some (Value.int .i64 z9.inc) = _; rw [g20]
              have k21 : w12.cell? ⟨n9, 21, none⟩ = some (.int .i64 1) := by rw [hN.cell]; show some (Value.int .i64 z9.mode) = _; rw [g21]
              have g23 : z9.sent = z.sent := (congrArg Dv.sent hvz9).trans (congrArg Dv.sent HV.out).symm
              have k23 : w12.cell? ⟨n9, 23, none⟩ = some (.int .i64 z.sent) := by rw [hN.cell]; show some (Value.int .i64 z9.sent) = _; rw [g23]
              have j23 : w12.cell? ⟨n2, 23, none⟩ = some (.int .i64 z.sent) := hE.cell 23
              clear hE hN hz hz9 hT hP g20 g21 g23 HED hvz9
              go_wp2_with fail
              go_ret
              exact ⟨rfl, hB⟩
end Go.Proofs.YtdcjffajmckleaaGreatDoor

namespace Go.Proofs.YtdcjffajmckleaaGreatDoor
open Go.ChangeShapes Go.WideShapes Go.ChangeAt Go.RowKit Go.Deep Nam Cod Tre Pst Pln

set_option maxRecDepth 100000 in
theorem leaves18_lifted (os : Os) (started : os.Started) (H : Type) (enc : TypeId × Value → H) :
    ReturnsInHanded {} Tryz.checked os 5 .any (fun w args => (Rows.deviceLeavesSpec.pre enc Tryz.prog Tryz.f5 [] false w args ∧ laidMetH Tryz.prog laid3 w) ∧ sizedMet enc Tryz.prog Tryz.f5 (OpenSpec.ofChange Rows.deviceLeavesSpec) false w args) (Rows.deviceLeavesSpec.post enc Tryz.prog Tryz.f5 false true false false) := by
  refine returnsInHanded_of_change_and (C := Tryz.checked) (X := fun w _ => laidMetH Tryz.prog laid3 w) (fun _ _ _ hh h => h.of_heap hh) own started (by kernel_rfl) Tryz.func5
    (ChangeSpec.witness_shaped (enc := enc) (C := Tryz.checked) (os := os) (X := fun w _ => laidMetH Tryz.prog laid3 w) false (World.doorLaid Tryz.prog 24 os) #[.slice none 0 0, .int .u8 0] 8 rfl (World.shaped_of_RefB (by kernel_rfl) (by kernel_rfl)) (by kernel_rfl) (by kernel_rfl) (by kernel_rfl) (door_met os _)) ?_
  intro W base args ds gs before hval0 hW _ _ hL _
  have hval : ∀ (j : Nat) t v, Tryz.f5.params[j]? = some t → args[j]? = some v → Value.okWide Tryz.prog W .any base t v := hval0
  have hW' := hW
  obtain ⟨p, q, hA0, hV, rfl, _, _⟩ := hW
  have hA : DataW.TrodAll enc Tryz.prog W 0 (fun _ => true) true Tryz.f5.params.toList args.toList ds p := hA0
  rw [Tryz.params5] at hA hval
  obtain ⟨v0, v1, d0, d1, p0, p1, rfl, rfl, rfl, h0, h1⟩ := trodAll_two hA
  obtain ⟨A, c, l, rfl, hT, _, _, hw⟩ := open_tree (hval 0 22 v0 rfl rfl) h0
  obtain ⟨t, rfl, ht⟩ := open_u8 (hval 1 5 v1 rfl rfl) h1
  have hc : Calls Tryz.prog 5 #[.slice A l.length c, .int .u8 t] W fun e w' => e = .returned (.bool true) ∧ Below W.heap.size W w' := by
    exact leaves18_any deviceCalls (fun wx => awake18_any deviceCalls wx) A c l t W (plSl.2 hT) (fun p hp => ⟨(hw p hp).1, (hw p hp).2.1⟩) ht
  refine hc.mono fun e W' ⟨he, hb⟩ => ?_
  subst he
  exact ⟨_, rfl, Frm.law_post (by kernel_rfl) (by kernel_rfl) (by kernel_rfl) Tryz.underlying4 rfl rfl hW' hb⟩

theorem leaves18_said : Rows.DeviceLeavesSaid :=
  OpenClaim.holds_of_wide 5 Tryz.f5 rfl rfl rfl rfl rfl rfl rfl ⟨rfl, rfl, rfl, rfl, rfl⟩ rfl rfl rfl rfl rfl (by kernel_rfl) Tryz.func5 (by kernel_rfl)
    (of_decide_eq_true (by kernel_rfl)) (by unfold Func.isWrapper; first | (rw [if_pos (by decide +kernel)]; kernel_rfl) | (rw [if_neg (by decide +kernel)]; exact ⟨rfl, rfl⟩))
    (fun os started H enc _ => leaves18_lifted os started H enc)

theorem leaves18_holds : Rows.DeviceLeavesCardSaid :=
  Claim7.holds_tied_plain_at .later [] [.data, .data, .data] true (true, "6b440484a0b03d5e31f6d096c8c5accc0fe897dc17eee7afaa4cc962965475ac") false
    (leaves18_said) (fun _ h => by cases h) (by kernel_rfl) (fun _ h => by cases h) deviceLeaves_row_tie rfl ⟨rfl, rfl⟩ (by kernel_rfl) rfl
    (fun f fn hf hfn => by
      obtain rfl : f = 5 := Option.some.inj ((show Tryz.prog.funcNamed "bargeman/bargemanlaw18.DeviceLeaves" = some 5 by kernel_rfl).symm.trans hf) |>.symm
      obtain rfl : fn = Tryz.f5 := (Option.some.inj (Tryz.func5.symm.trans hfn)).symm
      exact ⟨by kernel_rfl, fun j t ht => by
        rw [Tryz.params5] at ht
        have hm : t ∈ [22, 5] := by simpa using Array.mem_of_getElem? ht
        have hall : ([22, 5].all fun u => !Tryz.prog.wantsStandIn u) = true := by kernel_rfl
        exact (show Tryz.prog.wantsStandIn t = false by simpa using List.all_eq_true.1 hall t hm)⟩)
    (by kernel_rfl)
end Go.Proofs.YtdcjffajmckleaaGreatDoor
