/- DeviceFollows is proved: a device that takes a stream's entries, in whatever pieces, once or twice, shows the tree of all operations among them; its counts are theirs. Conditions: the library's tables read, when the call begins, as the program's own text lays them (the card ties that; no table is read below). -/
import Derived.Test.YtdcjffajmckleaaGreatDoorD10
import Derived.Lib.MinMax
/- The law DeviceFollows. -/
namespace Go.Proofs.YtdcjffajmckleaaGreatDoor
open Go.RowKit Nam Cod Tre Pst Pln

theorem foP_base' : ∀ (ms : List Mv) (q : Pv), q.base = [] → (ms.foldl (fun q m => (addV q m).1) q).base = []
  | [], _, h => h
  | m :: ms, q, h => foP_base' ms _ (by
      show ((addV q m).1).base = []
      unfold addV
      split
      · exact h
      · split <;> exact h)
theorem foP_base (ms : List Mv) : (foP ms).base = [] := foP_base' ms _ rfl
theorem SlV.cutE {A : Option Addr} {c : Nat} {l : List En} {w : World} {a t : Nat} (h : SlV enE w A c l) (ha : a ≤ t) (ht : t ≤ l.length) : ∃ A', (if c = a then A else Option.map (fun x => x.add (a * 10)) A) = A' ∧ SlV enE w A' (c - a) ((l.drop a).take (t - a)) := by
  obtain ⟨hT, hz, hlc⟩ := h
  refine ⟨_, rfl, (hT.drop hlc rfl).take _, El.drop_none hz rfl, ?_⟩
  rw [List.length_take, List.length_drop]; omega
theorem foF_d {ms : List Mv} (h : FoL ms) {L : List En} {a : Nat} (ha : a ≤ 30) (hl : L.length ≤ 30) (hm : ∀ e ∈ L, ∃ i, ∃ h : i < ms.length, e = foE ms[i]) : FrD (foF a L) where
  n := fun n hn => by
    have hn : n ∈ [(0 : Int), 1, 0, 0, 0, (a : Int) + 1, 0, 0, 0, 0] := hn
    simp only [List.mem_cons, List.not_mem_nil, or_false] at hn
    omega
  es := fun e he => by
    obtain ⟨i, hi, rfl⟩ := hm e he
    have hok := h.ok _ (List.getElem_mem hi)
    have hC := (h.at' i hi).1
    have hlen := h.len
    refine ⟨?_, ?_, ?_⟩
    · unfold entB foE
      rw [if_pos rfl, Bool.and_eq_true]
      exact ⟨rfl, hok⟩
    · show ms[i].C ≤ 4294967296
      rw [hC]; omega
    · show ms[i].s.size ≤ 1000
      unfold Mv.ok opB at hok
      simp only [Bool.and_eq_true] at hok
      have h2 := isName_len hok.2.2.2.2
      rw [L_len] at h2
      omega
  l := ⟨Nat.zero_le _, Nat.zero_le _, by show L.length ≤ 64; omega⟩
  gs := rfl
theorem foL_at {ms : List Mv} {a k : Nat} (j : Nat) (hj : j < (((ms.map foE).drop a).take k).length) (hm : a + j < ms.length) : (((ms.map foE).drop a).take k)[j] = foE ms[a + j] := by
  simp only [List.getElem_take, List.getElem_drop, List.getElem_map]
theorem PastOk.keepD {w w' : World} {y : Pw} {z : Dw} {n : Nat} (h : PastOk w y) (hZ : dvE.In w n z) (hg : w.grownBy w' (some n)) : PastOk w' y :=
  (Dw.ok.keepB (x := { Dw.zero with y := y }) ⟨h, SlV.nil _ _, SlV.nil _ _, CnT.nil _⟩ hZ hg).p
theorem SlV.keepD {w w' : World} {A : Option Addr} {c : Nat} {l : List En} {n : Nat} {z : Dw} (h : SlV enE w A c l) (hZ : dvE.In w n z) (hg : w.grownBy w' (some n)) : SlV enE w' A c l :=
  h.keepRD (fun o _ ha => by rcases dvE_cell hZ (ha 9 _ rfl) with ⟨_, h⟩ | ⟨_, _, _, h⟩ <;> cases h) hg
theorem El.exec_loadO {α : Type} {E : El α} {P : Program} (R : El.Row E P) {o : Oper} {a : Act} (x : Operand) (ho : o.op = .load E.e x) {b off : Nat} (hx : a.eval x = .pointer (some ⟨b, off, none⟩)) {w : World} {p : α} (h : E.At w b off p) (cs : Array Value) (hc : cs = (E.c p).toArray) : (execOp a.eval o).run P w = .ok (.value (.agg cs)) w := by
  subst hc
  unfold execOp
  simp only [ho, hx, Instr.loadAt, Instr.sureAddr, Sem.run_bind, Sem.run_pure, Result.andThen_ok, El.run_load R h]
def FoS (n1 n2 m : Nat) (z : Dw) (w : World) : Prop := pnE.In w n1 (pl18 m 2) ∧ dvE.In w n2 z
set_option maxRecDepth 100000 in
set_option maxHeartbeats 16000000 in
theorem follows18_any (H : DeviceCalls) (HA : ∀ wx : World, Calls Tryz.prog 6 #[] wx fun e w' => e = .returned (.bool true) ∧ Below wx.heap.size wx w')
    (A D : Option Addr) (c d nz : Nat) (l : List Mv) (w : World) (hT0 : opE.Sl w A l) (hlw : ∀ m ∈ l, i64 m.K ∧ i64 m.U ∧ m.s.size ≤ 9223372036854775807)
    (hD : ∀ i, i < nz → ∃ b off, D = some ⟨b, off, none⟩ ∧ b < w.heap.size ∧ ∃ t : Int, 0 ≤ t ∧ t ≤ 255 ∧ w.cell? ⟨b, off + i, none⟩ = some (.int .u8 t)) :
    Calls Tryz.prog 4 #[.slice A l.length c, .slice D nz d] w fun e w' => e = .returned (.bool true) ∧ Below w.heap.size w w' := by
  have HT0 := Lib.hid hT0
  have HLW := Lib.hid hlw
  have HD := Lib.hid hD
  clear hT0 hlw hD
  go_enter Tryz.func4, Tryz.ntmps4
  by_cases hl : 30 < l.length
  · have f1 : decide ((30 : Int) < (l.length : Int)) = true := decide_eq_true (by omega)
    clear hl
    go_wp2_with fail
    refine (HA _).mono ?_
    rintro e w1 ⟨rfl, hb⟩
    go_wp2_with fail
    go_ret
    exact ⟨rfl, hb⟩
  · have f1 : decide ((30 : Int) < (l.length : Int)) = false := decide_eq_false (by omega)
    have hl30 : l.length ≤ 30 := by omega
    clear hl
    go_wp2_with fail
    refine (some18_any w).mono ?_
    rintro e w1 ⟨m, rfl, hT, hB⟩
    have hP : pnE.In (w1.alloc (.cells #[.slice (some ⟨m, 0, none⟩) 3 3, .int .i64 2, .int .i64 3, .int .i64 2, .int .i64 20, .int .i64 2, .int .i64 32, .int .i64 4, .int .i64 16] 26)) w1.heap.size (pl18 m 2) := El.In.new (E := pnE) w1 (pl18 m 2) _ rfl
    have hal := below_alloc (Below.refl w1.heap.size w1) (.cells #[.slice (some ⟨m, 0, none⟩) 3 3, .int .i64 2, .int .i64 3, .int .i64 2, .int .i64 20, .int .i64 2, .int .i64 32, .int .i64 4, .int .i64 16] 26)
    replace hT := hT.below hal
    replace hB := below_then hB hal
    clear hal
    go_upto_region 4 with fail
    generalize w1.alloc (.cells #[.slice (some ⟨m, 0, none⟩) 3 3, .int .i64 2, .int .i64 3, .int .i64 2, .int .i64 20, .int .i64 2, .int .i64 32, .int .i64 4, .int .i64 16] 26) = W at *
    generalize w1.heap.size = n1 at *
    go_wp2_with fail
    refine (newAt H W).mono ?_
    rintro e w2 ⟨z0, rfl, hz0, hvz0, hb2⟩
    replace hP := hP.below hb2
    replace hT := hT.below hb2
    replace hB := below_then hB hb2
    have hnw : w.heap.size ≤ w2.heap.size := hB.size
    clear hb2
    have hZ4 : dvE.In (w2.alloc (.cells #[.int .i64 0, .int .i64 0, .int .i64 0, .int .i64 0, .int .i64 0, .int .i64 0, .slice none 0 0, .int .i64 0, .int .i64 0, .slice none 0 0, .slice none 0 0, .slice none 0 0, .slice none 0 0, .slice none 0 0, .slice none 0 0, .int .i64 0, .slice none 0 0, .slice none 0 0, .slice none 0 0, .slice none 0 0, .int .i64 0, .int .i64 0, .int .i64 0, .int .i64 0, .slice none 0 0, .int .i64 0] 44)) w2.heap.size Dw.zero := El.In.new (E := dvE) w2 Dw.zero _ rfl
    go_upto_region 5 with (first | (refine wpList_alloc_dv rfl rfl ?_) | (refine El.store dvRow rfl _ _ rfl w2.heap.size z0 #[.int .i64 z0.node, .int .i64 z0.boot, .int .i64 z0.above, .int .i64 z0.pos, .int .i64 z0.y.t, .int .i64 z0.pos, .slice none 0 0, .int .i64 z0.q.f, .int .i64 z0.q.g, .slice z0.qA z0.q.os.length z0.qc, .slice none 0 0, .slice none 0 0, .slice none 0 0, .slice none 0 0, .slice z0.y.bA z0.y.base.length z0.y.bc, .int .i64 z0.y.t, .slice z0.y.oA z0.y.ops.length z0.y.oc, .slice z0.y.uA z0.y.us.length z0.y.uc, .slice z0.y.wA z0.y.now.length z0.y.wc, .slice z0.cA z0.l.length z0.cc, .int .i64 z0.inc, .int .i64 z0.mode, .int .i64 z0.clock, .int .i64 z0.sent, .slice z0.pA 0 z0.pc, .int .i64 z0.late] rfl rfl rfl Dw.zero hZ4 ?_) | fail)
    have hdn := below_setRow (below_alloc (Below.refl w2.heap.size w2) (.cells #[.int .i64 0, .int .i64 0, .int .i64 0, .int .i64 0, .int .i64 0, .int .i64 0, .slice none 0 0, .int .i64 0, .int .i64 0, .slice none 0 0, .slice none 0 0, .slice none 0 0, .slice none 0 0, .slice none 0 0, .slice none 0 0, .int .i64 0, .slice none 0 0, .slice none 0 0, .slice none 0 0, .slice none 0 0, .int .i64 0, .int .i64 0, .int .i64 0, .int .i64 0, .slice none 0 0, .int .i64 0] 44)) (Nat.le_refl _) #[.int .i64 z0.node, .int .i64 z0.boot, .int .i64 z0.above, .int .i64 z0.pos, .int .i64 z0.y.t, .int .i64 z0.pos, .slice none 0 0, .int .i64 z0.q.f, .int .i64 z0.q.g, .slice z0.qA z0.q.os.length z0.qc, .slice none 0 0, .slice none 0 0, .slice none 0 0, .slice none 0 0, .slice z0.y.bA z0.y.base.length z0.y.bc, .int .i64 z0.y.t, .slice z0.y.oA z0.y.ops.length z0.y.oc, .slice z0.y.uA z0.y.us.length z0.y.uc, .slice z0.y.wA z0.y.now.length z0.y.wc, .slice z0.cA z0.l.length z0.cc, .int .i64 z0.inc, .int .i64 z0.mode, .int .i64 z0.clock, .int .i64 z0.sent, .slice z0.pA 0 z0.pc, .int .i64 z0.late]
    have hE := hZ4.set z0 #[.int .i64 z0.node, .int .i64 z0.boot, .int .i64 z0.above, .int .i64 z0.pos, .int .i64 z0.y.t, .int .i64 z0.pos, .slice none 0 0, .int .i64 z0.q.f, .int .i64 z0.q.g, .slice z0.qA z0.q.os.length z0.qc, .slice none 0 0, .slice none 0 0, .slice none 0 0, .slice none 0 0, .slice z0.y.bA z0.y.base.length z0.y.bc, .int .i64 z0.y.t, .slice z0.y.oA z0.y.ops.length z0.y.oc, .slice z0.y.uA z0.y.us.length z0.y.uc, .slice z0.y.wA z0.y.now.length z0.y.wc, .slice z0.cA z0.l.length z0.cc, .int .i64 z0.inc, .int .i64 z0.mode, .int .i64 z0.clock, .int .i64 z0.sent, .slice z0.pA 0 z0.pc, .int .i64 z0.late] rfl
    have HMN := Lib.hid (show m ≠ w2.heap.size ∧ n1 ≠ w2.heap.size from ⟨by have := inSl_lt hT (by decide); omega, by have := hP.lt; omega⟩)
    have hz := hz0.below hdn
    replace hP := hP.below hdn
    replace hT := hT.below hdn
    replace hB := below_then hB hdn
    clear hZ4 hdn hz0
    generalize (w2.alloc (.cells #[.int .i64 0, .int .i64 0, .int .i64 0, .int .i64 0, .int .i64 0, .int .i64 0, .slice none 0 0, .int .i64 0, .int .i64 0, .slice none 0 0, .slice none 0 0, .slice none 0 0, .slice none 0 0, .slice none 0 0, .slice none 0 0, .int .i64 0, .slice none 0 0, .slice none 0 0, .slice none 0 0, .slice none 0 0, .int .i64 0, .int .i64 0, .int .i64 0, .int .i64 0, .slice none 0 0, .int .i64 0] 44)).setRow w2.heap.size #[.int .i64 z0.node, .int .i64 z0.boot, .int .i64 z0.above, .int .i64 z0.pos, .int .i64 z0.y.t, .int .i64 z0.pos, .slice none 0 0, .int .i64 z0.q.f, .int .i64 z0.q.g, .slice z0.qA z0.q.os.length z0.qc, .slice none 0 0, .slice none 0 0, .slice none 0 0, .slice none 0 0, .slice z0.y.bA z0.y.base.length z0.y.bc, .int .i64 z0.y.t, .slice z0.y.oA z0.y.ops.length z0.y.oc, .slice z0.y.uA z0.y.us.length z0.y.uc, .slice z0.y.wA z0.y.now.length z0.y.wc, .slice z0.cA z0.l.length z0.cc, .int .i64 z0.inc, .int .i64 z0.mode, .int .i64 z0.clock, .int .i64 z0.sent, .slice z0.pA 0 z0.pc, .int .i64 z0.late] = V at *
    generalize w2.heap.size = n2 at *
    have HV0 := Lib.hid (show z0.v = foD [] 0 by rw [hvz0]; rfl)
    clear hvz0
    have hL := HT0.out.below hB
    have hY0 : pwE.In (V.alloc (.cells #[.slice none 0 0, .int .i64 0, .slice none 0 0, .slice none 0 0, .slice none 0 0] 40)) V.heap.size Pw.zero := El.In.new (E := pwE) V Pw.zero #[.slice none 0 0, .int .i64 0, .slice none 0 0, .slice none 0 0, .slice none 0 0] rfl
    have hnxV := below_alloc (Below.refl V.heap.size V) (.cells #[.slice none 0 0, .int .i64 0, .slice none 0 0, .slice none 0 0, .slice none 0 0] 40)
    go_upto_region 7 with fail
    have hVs : (V.alloc (.cells #[.slice none 0 0, .int .i64 0, .slice none 0 0, .slice none 0 0, .slice none 0 0] 40)).heap.size = V.heap.size + 1 := alloc_size ..
    obtain ⟨n8, hn8⟩ : ∃ n8, V.heap.size = n8 := ⟨_, rfl⟩
    have HN8 := Lib.hid hn8
    generalize V.alloc (.cells #[.slice none 0 0, .int .i64 0, .slice none 0 0, .slice none 0 0, .slice none 0 0] 40) = V2 at *
    rw [hn8] at hY0 hVs ⊢
    clear hn8
    go_wp2_with fail
    go_loopw [7, 9] (fun x y wr => ∃ (k : Nat) (v7 : Value) (y8 : Pw), k ≤ l.length ∧ x = v7 ∧ y = .int .i64 k ∧ enE.Own wr (n8 + 1) v7 ((foMs (l.take k)).map foE) ∧ Hid (FoL (foMs (l.take k))) ∧ Hid (y8.v = foP (foMs (l.take k))) ∧ pwE.In wr n8 y8 ∧ PastOk wr y8 ∧ OfP v7.ownBlock y8 ∧ Below V.heap.size V wr ∧ n8 < wr.heap.size) (fun _ y _ => l.length - (intOf y).toNat)
    case atStart => exact ⟨0, .slice none 0 0, Pw.zero, Nat.zero_le _, rfl, rfl, El.Own.nil _ _, Lib.hid FoL.nil, Lib.hid rfl, hY0, PastOk.zero _, OfP.none _, hnxV, by omega⟩
    case round =>
      clear hY0 hnxV
      obtain ⟨k, v7, y8, hk, rfl, rfl, hO, HF, HY, hY, hy, ho, hnx, hsz⟩ := hrel
      by_cases hkl : k < l.length
      · have f2 : decide ((k : Int) < (l.length : Int)) = true := decide_eq_true (by omega)
        obtain ⟨b, off, eA, hbw, hc⟩ := hL (by omega)
        have hat : opE.At wr b (off + k * 7) l[k] := (hc k hkl).below hnx hbw
        have HW := Lib.hid (HLW.out l[k] (List.getElem_mem hkl))
        obtain ⟨mk, hmk⟩ : ∃ mk, l[k] = mk := ⟨_, rfl⟩
        rw [hmk] at hat HW
        have HMK := Lib.hid hmk
        clear hmk hc
        subst eA
        have hz7 : opE.In (wr.alloc (.cells #[.int .i64 0, .int .i64 0, .int .i64 0, .int .i64 0, .int .i64 0, .int .i64 0, .string ⟨#[]⟩] 55)) wr.heap.size zeroMv := El.In.new (E := opE) wr zeroMv #[.int .i64 0, .int .i64 0, .int .i64 0, .int .i64 0, .int .i64 0, .int .i64 0, .string ⟨#[]⟩] rfl
        go_upto_region 11 with (first | (refine El.load opRow rfl _ rfl b (off + k * 7) rfl mk hat #[.int .i64 mk.C, .int .i64 mk.D, .int .i64 mk.I, .int .i64 mk.M, .int .i64 mk.K, .int .i64 mk.U, .string mk.s] rfl ?_) | (refine El.store opRow rfl _ _ rfl wr.heap.size mk #[.int .i64 mk.C, .int .i64 mk.D, .int .i64 mk.I, .int .i64 mk.M, .int .i64 mk.K, .int .i64 mk.U, .string mk.s] rfl rfl rfl zeroMv hz7 ?_) | fail)
        have hal := below_setRow (below_alloc (Below.refl wr.heap.size wr) (.cells #[.int .i64 0, .int .i64 0, .int .i64 0, .int .i64 0, .int .i64 0, .int .i64 0, .string ⟨#[]⟩] 55)) (Nat.le_refl _) #[.int .i64 mk.C, .int .i64 mk.D, .int .i64 mk.I, .int .i64 mk.M, .int .i64 mk.K, .int .i64 mk.U, .string mk.s]
        have hM := hz7.set mk #[.int .i64 mk.C, .int .i64 mk.D, .int .i64 mk.I, .int .i64 mk.M, .int .i64 mk.K, .int .i64 mk.U, .string mk.s] rfl
        have HLT := Lib.hid hO.lt
        obtain ⟨n9, hn9⟩ : ∃ n9, wr.heap.size = n9 := ⟨_, rfl⟩
        have HN9 := Lib.hid hn9
        clear hz7 hat
        generalize (wr.alloc (.cells #[.int .i64 0, .int .i64 0, .int .i64 0, .int .i64 0, .int .i64 0, .int .i64 0, .string ⟨#[]⟩] 55)).setRow wr.heap.size #[.int .i64 mk.C, .int .i64 mk.D, .int .i64 mk.I, .int .i64 mk.M, .int .i64 mk.K, .int .i64 mk.U, .string mk.s] = W9 at *
        rw [hn9] at hM hal ⊢
        clear hn9
        obtain ⟨kk, hkk⟩ : ∃ kk : Int, 1 + (k : Int) = kk := ⟨_, rfl⟩
        have hwk : IntKind.i64.wrap (1 + (k : Int)) = kk := by rw [IntKind.wrap_i64]; omega
        have HKK := Lib.hid hkk
        clear hkk
        obtain ⟨q0, q1, q2, q3, q4, q5, q6⟩ := opIn7 hM
        have qf := hM.frozen
        go_upto_region 13 with fail
        clear q0 q1 q2 q3 q4 q5 q6 qf hwk
        replace hM := (((hM.put ⟨kk, mk.D, mk.I, mk.M, mk.K, mk.U, mk.s⟩ 0 (.int .i64 kk) rfl).put ⟨kk, 2, mk.I, mk.M, mk.K, mk.U, mk.s⟩ 1 (.int .i64 2) rfl).put ⟨kk, 2, 1, mk.M, mk.K, mk.U, mk.s⟩ 2 (.int .i64 1) rfl).put ⟨kk, 2, 1, kk, mk.K, mk.U, mk.s⟩ 3 (.int .i64 kk) rfl
        replace hal := Below.setCell (Below.setCell (Below.setCell (Below.setCell hal (p := ⟨n9, 0, none⟩) (Nat.le_refl _) (.int .i64 kk)) (p := ⟨n9, 1, none⟩) (Nat.le_refl _) (.int .i64 2)) (p := ⟨n9, 2, none⟩) (Nat.le_refl _) (.int .i64 1)) (p := ⟨n9, 3, none⟩) (Nat.le_refl _) (.int .i64 kk)
        generalize (((W9.setCell ⟨n9, 0, none⟩ (.int .i64 kk)).setCell ⟨n9, 1, none⟩ (.int .i64 2)).setCell ⟨n9, 2, none⟩ (.int .i64 1)).setCell ⟨n9, 3, none⟩ (.int .i64 kk) = X at *
        rw [← HN9.out] at hal
        replace hY := hY.below hal
        replace hy := hy.below hal
        replace hO := hO.below hal
        replace hnx := below_then hnx hal
        have hs8 : n8 < X.heap.size := by have := hal.size; omega
        clear hal hsz
        have CR := opRef_mv (⟨kk, 2, 1, kk, mk.K, mk.U, mk.s⟩ : Mv) X (by have := HW.out.2.2; show mk.s.size ≤ 9223372036854775807; omega)
        go_wp2_with (first | (refine El.load opRow rfl _ rfl n9 0 rfl (⟨kk, 2, 1, kk, mk.K, mk.U, mk.s⟩ : Mv) hM.at #[.int .i64 kk, .int .i64 2, .int .i64 1, .int .i64 kk, .int .i64 mk.K, .int .i64 mk.U, .string mk.s] rfl ?_) | fail)
        refine CR.mono ?_
        rintro e wR ⟨rfl, hbR⟩
        clear CR
        replace hM := hM.below hbR
        replace hY := hY.below hbR
        replace hy := hy.below hbR
        replace hO := hO.below hbR
        replace hnx := below_then hnx hbR
        have hsR : n8 < wR.heap.size := by have := hbR.size; omega
        clear hbR hs8
        cases hok : okB ⟨kk, 2, 1, kk, mk.K, mk.U, mk.s⟩ with
        | false =>
          clear hO hM hY hy ho
          go_wp2_with fail
          refine (HA _).mono ?_
          rintro e w7 ⟨rfl, hb7⟩
          go_wp2_with fail
          go_ret
          exact ⟨rfl, below_then hB (below_then hnx hb7)⟩
        | true =>
          have HOK := Lib.hid hok
          clear hok
          have hE1 : enE.Sl (wR.alloc (.cells #[.int .i64 1, .int .i64 0, .int .i64 0, .int .i64 kk, .int .i64 2, .int .i64 1, .int .i64 kk, .int .i64 mk.K, .int .i64 mk.U, .string mk.s] 60)) (some ⟨wR.heap.size, 0, none⟩) [(⟨1, 0, 0, ⟨kk, 2, 1, kk, mk.K, mk.U, mk.s⟩⟩ : En)] := (El.In.new (E := enE) wR (⟨1, 0, 0, ⟨kk, 2, 1, kk, mk.K, mk.U, mk.s⟩⟩ : En) _ rfl).sl
          have hal := below_alloc (Below.refl wR.heap.size wR) (.cells #[.int .i64 1, .int .i64 0, .int .i64 0, .int .i64 kk, .int .i64 2, .int .i64 1, .int .i64 kk, .int .i64 mk.K, .int .i64 mk.U, .string mk.s] 60)
          have hMR := hM
          replace hM := hM.below hal
          replace hY := hY.below hal
          replace hy := hy.below hal
          replace hO := hO.below hal
          replace hnx := below_then hnx hal
          have hBs : n8 + 1 ≤ (wR.alloc (.cells #[.int .i64 1, .int .i64 0, .int .i64 0, .int .i64 kk, .int .i64 2, .int .i64 1, .int .i64 kk, .int .i64 mk.K, .int .i64 mk.U, .string mk.s] 60)).heap.size := by have := hal.size; omega
          clear hal
          obtain ⟨LE, hLE⟩ : ∃ LE, (foMs (l.take k)).map foE = LE := ⟨_, rfl⟩
          have HLE := Lib.hid hLE
          rw [hLE] at hO
          clear hLE
          have hl3 : LE.length ≤ 30 := by rw [← HLE.out, List.length_map, foMs_len, List.length_take]; omega
          have HL3 := Lib.hid hl3
          clear hl3
          go_upto_region 16 with (first | (refine El.load opRow rfl _ rfl n9 0 rfl (⟨kk, 2, 1, kk, mk.K, mk.U, mk.s⟩ : Mv) hMR.at #[.int .i64 kk, .int .i64 2, .int .i64 1, .int .i64 kk, .int .i64 mk.K, .int .i64 mk.U, .string mk.s] rfl ?_) | (at_builtin; refine El.wpList_app enInn rfl _ _ rfl (n8 + 1) _ LE [(⟨1, 0, 0, ⟨kk, 2, 1, kk, mk.K, mk.U, mk.s⟩⟩ : En)] rfl hO (some ⟨wR.heap.size, 0, none⟩) 1 1 rfl rfl hE1 (fun e => by cases e) (by have := HL3.out; simp; omega) hBs ?_; intro v2 w3 hO2 hg2 hat2) | fail)
          have hne8 : ∀ g, _ = some g → n8 + 1 ≤ g := hO.rows
          have hM2 := hM.keep hg2 (fun e => by have h := (HLT.out n9 e.symm).2; have := HN9.out; omega)
          have hY2 := hY.keep hg2 (fun e => by have := hne8 n8 e.symm; omega)
          have hy2 := hy.keepO ho hg2
          have ho2 := ho.app hy hat2
          have hnx2 := hnx.grown hg2 hnx.size (fun j e => by have := hne8 j e; have := HN8.out; omega)
          have hs3 := hg2.size
          clear hM hY hy ho hnx hO hE1 hg2 hat2 hMR hne8
          have hbs : y8.base = [] := by have h : y8.v.base = (foP (foMs (l.take k))).base := congrArg Pv.base HY.out; rw [foP_base] at h; exact h
          have hos : y8.ops.length ≤ 30 := by
            have h : y8.v.ops = (foP (foMs (l.take k))).ops := congrArg Pv.ops HY.out
            have h2 := (foP_ops HF.out (foMs (l.take k)).length (Nat.le_refl _)).1
            rw [List.take_length] at h2
            rw [h2] at h
            have h3 : y8.ops = foMs (l.take k) := h
            rw [h3, foMs_len, List.length_take]; omega
          have CA := refAdd_near y8 (⟨kk, 2, 1, kk, mk.K, mk.U, mk.s⟩ : Mv) w3 hy2 (by rw [hbs]; show 0 + y8.ops.length ≤ 890; omega)
          generalize hbd : (addV y8.v ⟨kk, 2, 1, kk, mk.K, mk.U, mk.s⟩).2 = bd at CA
          clear hbs hos hbd
          go_wp2_with (first | (refine El.load pwRow rfl _ rfl n8 0 rfl y8 hY2.at #[.slice y8.bA y8.base.length y8.bc, .int .i64 y8.t, .slice y8.oA y8.ops.length y8.oc, .slice y8.uA y8.us.length y8.uc, .slice y8.wA y8.now.length y8.wc] rfl ?_) | (refine El.load opRow rfl _ rfl n9 0 rfl (⟨kk, 2, 1, kk, mk.K, mk.U, mk.s⟩ : Mv) hM2.at #[.int .i64 kk, .int .i64 2, .int .i64 1, .int .i64 kk, .int .i64 mk.K, .int .i64 mk.U, .string mk.s] rfl ?_) | fail)
          refine CA.mono ?_
          rintro e w4 ⟨y9, rfl, hy9, hv9, hb4, hnr⟩
          have ho4 := ho2.new (fun g e => (hO2.lt g e).2) hnr
          replace hO2 := hO2.below hb4
          replace hY2 := hY2.below hb4
          replace hnx2 := below_then hnx2 hb4
          have hV8 : V.heap.size ≤ n8 := by have := HN8.out; omega
          have hs4 : n8 < w4.heap.size := by have := hb4.size; omega
          have HV9 := Lib.hid (show y9.v = foP (foMs (l.take (k + 1))) by
            rw [hv9, HY.out, foMs_next hkl, foP_next, HMK.out, ← HKK.out]; rfl)
          have HF9 := Lib.hid (show FoL (foMs (l.take (k + 1))) from HF.out.next hkl hl30 (by rw [HMK.out]; unfold foM; rw [HKK.out]; exact HOK.out))
          have HL9 := Lib.hid (show LE ++ [(⟨1, 0, 0, ⟨kk, 2, 1, kk, mk.K, mk.U, mk.s⟩⟩ : En)] = (foMs (l.take (k + 1))).map foE by
            rw [foMs_next hkl, List.map_append, List.map_singleton, HLE.out, HMK.out]; unfold foM foE; rw [HKK.out])
          have hgr := by_row w4 n8 #[.slice y9.bA y9.base.length y9.bc, .int .i64 y9.t, .slice y9.oA y9.ops.length y9.oc, .slice y9.uA y9.us.length y9.uc, .slice y9.wA y9.now.length y9.wc]
          clear CA hb4 hnr hv9 hy2 ho2 hM2 HY HF HOK HLE HLT HL3 HN9 HW
          go_wp2_with (first | (refine El.store pwRow rfl _ _ rfl n8 y9 #[.slice y9.bA y9.base.length y9.bc, .int .i64 y9.t, .slice y9.oA y9.ops.length y9.oc, .slice y9.uA y9.us.length y9.uc, .slice y9.wA y9.now.length y9.wc] rfl rfl rfl y8 hY2 ?_) | fail)
          go_roundw
          case rel =>
            refine ⟨k + 1, v2, y9, by omega, rfl, by go_num, ?_, HF9, HV9, hY2.set y9 #[.slice y9.bA y9.base.length y9.bc, .int .i64 y9.t, .slice y9.oA y9.ops.length y9.oc, .slice y9.uA y9.us.length y9.uc, .slice y9.wA y9.now.length y9.wc] rfl, PastOk.off hy9 hY2 hgr, ho4, below_setRow hnx2 hV8 _, Nat.lt_of_lt_of_le hs4 hgr.size⟩
            rw [← HL9.out]
            exact El.Own.kept hO2 hgr (by
              by_cases hv : v2.ownBlock = none
              · exact Or.inl hv
              · exact Or.inr (fun e => by have := (hO2.lt n8 e).1; omega))
          case measure => simp [intOf]; omega
      · obtain rfl : k = l.length := by omega
        obtain ⟨ms, hms⟩ : ∃ ms, foMs (l.take l.length) = ms := ⟨_, rfl⟩
        rw [hms] at hO HF HY
        have hml : ms.length = l.length := by rw [← hms, foMs_len, List.take_length]
        clear hms
        obtain ⟨A7, c7, rfl, hS7⟩ := SlV.own hO
        have hfr7 : Frs (n8 + 1) A7 := hO.frs
        have hNl : (ms.map foE).length = l.length := by rw [List.length_map, hml]
        rw [hNl]
        have HNl := Lib.hid hNl
        have HML := Lib.hid hml
        have hn28 : n2 < n8 := by have := hE.lt; have := HN8.out; omega
        have hn12 : n1 < n8 := by have := hP.lt; have := HN8.out; omega
        have hmn2 : Hid (m ≠ n2 ∧ n1 ≠ n2) := HMN
        replace hE := hE.below hnx
        replace hz := hz.below hnx
        replace hP := hP.below hnx
        replace hT := hT.below hnx
        have HV := Lib.hid (show z0.v = foD ms 0 from HV0.out)
        have hBw := below_then hB hnx
        clear hO hL hB hnx HV0 hml hNl ho
        go_wp2_with fail
        go_loopw [11, 12] (fun x y wq => ∃ (p i : Nat) (z : Dw), p ≤ l.length ∧ i ≤ 200 ∧ x = .int .i64 p ∧ y = .int .i64 i ∧ Hid (z.v = foD ms p) ∧ dvE.In wq n2 z ∧ z.ok wq ∧ pnE.In wq n1 (pl18 m 2) ∧ inE.Sl wq (some ⟨m, 0, none⟩) [-1, 0, 0] ∧ SlV enE wq A7 c7 (ms.map foE) ∧ pwE.In wq n8 y8 ∧ PastOk wq y8 ∧ Below w.heap.size w wq) (fun _ y _ => 200 - (intOf y).toNat)
        case atStart => exact ⟨0, 0, z0, Nat.zero_le _, Nat.zero_le _, rfl, rfl, HV, hE, hz, hP, hT, hS7, hY, hy, hBw⟩
        case round =>
          clear HV hE hz hP hT hS7 hY hy hBw
          obtain ⟨p, i, z, hp, hi, rfl, rfl, HZ, hE, hz, hP, hT, hS, hY, hy, hBq⟩ := hrel
          by_cases hgo : p < l.length ∧ i < 200
          · have f3 : decide ((p : Int) < (l.length : Int)) = true := decide_eq_true (by omega)
            have f4 : decide ((i : Int) < 200) = true := decide_eq_true (by omega)
            go_upto_region 21 with fail
            by_cases hin : i < nz
            · have f5 : decide ((i : Int) < (nz : Int)) = true := decide_eq_true (by omega)
              obtain ⟨bz, oz, eD, hbz, sz, hs0, hs1, hsc⟩ := HD.out i hin
              have hcz : wr.cell? ⟨bz, oz + i, none⟩ = some (.int .u8 sz) := by rw [← hsc]; exact (bcell hBq).1 _ _ hbz
              have hini : (i : Int) < (nz : Int) := by omega
              obtain ⟨nn, hnn⟩ : ∃ nn : Nat, sz.tmod 5 = (nn : Int) := ⟨(sz.tmod 5).toNat, by rw [Int.tmod_eq_emod_of_nonneg hs0]; omega⟩
              have hn5 : nn < 5 := by rw [Int.tmod_eq_emod_of_nonneg hs0] at hnn; omega
              have hwq : IntKind.i64.wrap ((p : Int) + (nn : Int)) = (p : Int) + (nn : Int) := by rw [IntKind.wrap_i64]; omega
              obtain ⟨tt, htt⟩ : ∃ tt : Nat, min (l.length : Int) ((p : Int) + (nn : Int)) = (tt : Int) := ⟨min l.length (p + nn), by omega⟩
              have HTT := Lib.hid (show p ≤ tt ∧ tt ≤ l.length by omega)
              by_cases hbig : (128 : Int) < sz
              · have f6 : decide ((128 : Int) < sz) = true := decide_eq_true hbig
                obtain ⟨bk, hbk⟩ : ∃ bk : Nat, min (p : Int) 2 = (bk : Int) := ⟨min p 2, by omega⟩
                have HBK := Lib.hid (show bk ≤ p by omega)
                subst eD
                clear hbig hs0 hs1 hsc hbz
                go_upto_region 28 with fail
                clear hn5 hcz hnn hwq htt hbk f5 f6 hini hin
                obtain ⟨a, hsub, haa⟩ : ∃ a : Nat, IntKind.i64.wrap ((p : Int) - (bk : Int)) = (a : Int) ∧ p - bk = a := ⟨p - bk, by rw [IntKind.wrap_i64]; have := HBK.out; omega, rfl⟩
                have hadd : IntKind.i64.wrap ((a : Int) + 1) = (a : Int) + 1 := by rw [IntKind.wrap_i64]; omega
                have HA2 := Lib.hid (show a ≤ p ∧ a ≤ tt ∧ tt ≤ l.length ∧ p ≤ tt by have := HBK.out; have := HTT.out; omega)
                have hNL : (ms.map foE).length = l.length := HNl.out
                obtain ⟨A9, hA9, hS9⟩ := SlV.cutE (a := a) hS HA2.out.2.1 (by rw [hNL]; exact HA2.out.2.2.1)
                have g0 : (0 : Int) ≤ (a : Int) := by omega
                have g1 : (a : Int) ≤ (tt : Int) := by have := HA2.out; omega
                have g2 : (tt : Int) ≤ (c7 : Int) := by have := HA2.out; have h2 := hS.2.2; rw [hNL] at h2; omega
                have hk9 : (((ms.map foE).drop a).take (tt - a)).length = tt - a := by rw [List.length_take, List.length_drop, hNL]; have := HA2.out; omega
                clear hNL
                obtain ⟨L9, hL9⟩ : ∃ L9, ((ms.map foE).drop a).take (tt - a) = L9 := ⟨_, rfl⟩
                have HFD := Lib.hid (show FrD (foF a L9) from foF_d HF.out (by have := HA2.out; omega) (by rw [← hL9, hk9]; have := HA2.out; omega) (fun e he => by
                  obtain ⟨j, hj, rfl⟩ := List.getElem_of_mem he
                  subst hL9
                  have hj2 : a + j < ms.length := by rw [hk9] at hj; have := HA2.out; have := HML.out; omega
                  exact ⟨a + j, hj2, foL_at j hj hj2⟩))
                have HTD := Lib.hid (show takeD 0 (foD ms p) (foF a L9) = (foD ms tt, 0) by
                  have hm2 : max p (a + L9.length) = tt := by rw [← hL9, hk9]; have := HA2.out; omega
                  have h := foD_take HF.out L9 p a HA2.out.1 (by have := HML.out; omega) (by rw [← hL9, hk9]; have := HA2.out; have := HML.out; omega) (fun j hj hm => by subst hL9; exact foL_at j hj hm)
                  rw [hm2] at h
                  exact h)
                rw [hL9] at hS9 hk9
                clear hL9
                have HCT := Lib.hid (fun (wx : World) (hT : inE.Sl wx (some ⟨m, 0, none⟩) [-1, 0, 0]) (hz : z.ok wx) (hS : SlV enE wx A9 (c7 - a) L9) => (by
                  rw [← hk9]
                  exact takeAt H m 2 (by omega) z ⟨none, 0, none, 0, A9, c7 - a, none, 0, foF a L9⟩ wx hT hz ⟨SlV.nil _ _, SlV.nil _ _, hS, SlV.nil _ _⟩ HZ.out (foD_r HF.out (by have := HML.out; omega)) rfl HFD.out HTD.out : Calls Tryz.prog 13 #[.agg #[.slice (some ⟨m, 0, none⟩) 3 3, .int .i64 2, .int .i64 3, .int .i64 2, .int .i64 20, .int .i64 2, .int .i64 32, .int .i64 4, .int .i64 16], .agg #[.int .i64 z.node, .int .i64 z.boot, .int .i64 z.above, .int .i64 z.pos, .int .i64 z.y.t, .int .i64 z.pos, .slice none 0 0, .int .i64 z.q.f, .int .i64 z.q.g, .slice z.qA z.q.os.length z.qc, .slice none 0 0, .slice none 0 0, .slice none 0 0, .slice none 0 0, .slice z.y.bA z.y.base.length z.y.bc, .int .i64 z.y.t, .slice z.y.oA z.y.ops.length z.y.oc, .slice z.y.uA z.y.us.length z.y.uc, .slice z.y.wA z.y.now.length z.y.wc, .slice z.cA z.l.length z.cc, .int .i64 z.inc, .int .i64 z.mode, .int .i64 z.clock, .int .i64 z.sent, .slice z.pA 0 z.pc, .int .i64 z.late], .agg #[.int .i64 0, .int .i64 1, .int .i64 0, .int .i64 0, .slice none 0 0, .int .i64 0, .slice none 0 0, .int .i64 ((a : Int) + 1), .slice A9 (tt - a) (c7 - a), .int .i64 0, .int .i64 0, .int .i64 0, .int .i64 0, .slice none 0 0]] wx fun e w' => ∃ z2 : Dw, e = .returned (.tuple #[.agg #[.int .i64 z2.node, .int .i64 z2.boot, .int .i64 z2.above, .int .i64 z2.pos, .int .i64 z2.y.t, .int .i64 z2.pos, .slice none 0 0, .int .i64 z2.q.f, .int .i64 z2.q.g, .slice z2.qA z2.q.os.length z2.qc, .slice none 0 0, .slice none 0 0, .slice none 0 0, .slice none 0 0, .slice z2.y.bA z2.y.base.length z2.y.bc, .int .i64 z2.y.t, .slice z2.y.oA z2.y.ops.length z2.y.oc, .slice z2.y.uA z2.y.us.length z2.y.uc, .slice z2.y.wA z2.y.now.length z2.y.wc, .slice z2.cA z2.l.length z2.cc, .int .i64 z2.inc, .int .i64 z2.mode, .int .i64 z2.clock, .int .i64 z2.sent, .slice z2.pA 0 z2.pc, .int .i64 z2.late], .int .i64 0]) ∧ z2.ok w' ∧ z2.v = foD ms tt ∧ Below wx.heap.size wx w'))
                clear hk9
                apply wp_mergeD (fun y nA w' => y.v = foD ms tt ∧ dvE.In w' nA y ∧ y.ok w' ∧ dvE.In w' n2 z ∧ pnE.In w' n1 (pl18 m 2) ∧ inE.Sl w' (some ⟨m, 0, none⟩) [-1, 0, 0] ∧ SlV enE w' A7 c7 (ms.map foE) ∧ pwE.In w' n8 y8 ∧ PastOk w' y8 ∧ Below w.heap.size w w')
                · refine region_anyG (S := FoS n1 n2 m z) 18 (by kernel_rfl) ?_
                  have hd : Below wr.heap.size wr wr.drew := (Below.refl _ _).drew
                  replace hP : pnE.In wr.drew n1 (pl18 m 2) := hP
                  replace hE : dvE.In wr.drew n2 z := hE
                  replace hY : pwE.In wr.drew n8 y8 := hY
                  replace hz := hz.below hd
                  replace hT := hT.below hd
                  replace hS := SlV.below hS hd
                  replace hS9 := SlV.below hS9 hd
                  replace hy := hy.below hd
                  replace hBq := hBq.drew
                  clear hd
                  generalize wr.drew = X at *
                  have hS0 : FoS n1 n2 m z X := ⟨hP, hE⟩
                  refine anyG_take (i := 0) (v := .agg #[.slice (some ⟨m, 0, none⟩) 3 3, .int .i64 2, .int .i64 3, .int .i64 2, .int .i64 20, .int .i64 2, .int .i64 32, .int .i64 4, .int .i64 16]) rfl (by kernel_rfl) (by kernel_rfl) (by kernel_rfl) (by kernel_rfl) (by kernel_rfl) (fun _ _ _ h => h) (Or.inl ⟨by rfl, fun w' hSw => El.exec_loadO pnRow (.tmp 5) rfl rfl hSw.1.at _ rfl⟩) hS0 ?_
                  try simp only [Act.put, List.setIfInBounds_toArray, List.set_cons_zero, List.set_cons_succ]
                  refine anyG_take (i := 1) (v := .agg #[.int .i64 z.node, .int .i64 z.boot, .int .i64 z.above, .int .i64 z.pos, .int .i64 z.y.t, .int .i64 z.pos, .slice none 0 0, .int .i64 z.q.f, .int .i64 z.q.g, .slice z.qA z.q.os.length z.qc, .slice none 0 0, .slice none 0 0, .slice none 0 0, .slice none 0 0, .slice z.y.bA z.y.base.length z.y.bc, .int .i64 z.y.t, .slice z.y.oA z.y.ops.length z.y.oc, .slice z.y.uA z.y.us.length z.y.uc, .slice z.y.wA z.y.now.length z.y.wc, .slice z.cA z.l.length z.cc, .int .i64 z.inc, .int .i64 z.mode, .int .i64 z.clock, .int .i64 z.sent, .slice z.pA 0 z.pc, .int .i64 z.late]) rfl (by kernel_rfl) (by kernel_rfl) (by kernel_rfl) (by kernel_rfl) (by kernel_rfl) (fun _ _ _ h => h) (Or.inl ⟨by rfl, fun w' hSw => El.exec_loadO dvRow (.tmp 6) rfl rfl hSw.2.at _ rfl⟩) hS0 ?_
                  try simp only [Act.put, List.setIfInBounds_toArray, List.set_cons_zero, List.set_cons_succ]
                  refine anyG_take (i := 2) (v := .int .i64 p) rfl (by kernel_rfl) (by kernel_rfl) (by kernel_rfl) (by kernel_rfl) (by kernel_rfl) (fun _ _ _ h => h) (Or.inl ⟨by rfl, fun w' hSw => by go_simp⟩) hS0 ?_
                  try simp only [Act.put, List.setIfInBounds_toArray, List.set_cons_zero, List.set_cons_succ]
                  refine anyG_take (i := 3) (v := .int .i64 bk) rfl (by kernel_rfl) (by kernel_rfl) (by kernel_rfl) (by kernel_rfl) (by kernel_rfl) (fun _ _ _ h => h) (Or.inl ⟨by rfl, fun w' hSw => by go_simp⟩) hS0 ?_
                  try simp only [Act.put, List.setIfInBounds_toArray, List.set_cons_zero, List.set_cons_succ]
                  refine anyG_take (i := 4) (v := .int .i64 a) rfl (by kernel_rfl) (by kernel_rfl) (by kernel_rfl) (by kernel_rfl) (by kernel_rfl) (fun _ _ _ h => h) (Or.inl ⟨by rfl, fun w' hSw => by go_simp⟩) hS0 ?_
                  try simp only [Act.put, List.setIfInBounds_toArray, List.set_cons_zero, List.set_cons_succ]
                  refine anyG_take (i := 5) (v := .int .i64 ((a : Int) + 1)) rfl (by kernel_rfl) (by kernel_rfl) (by kernel_rfl) (by kernel_rfl) (by kernel_rfl) (fun _ _ _ h => h) (Or.inl ⟨by rfl, fun w' hSw => by go_simp⟩) hS0 ?_
                  try simp only [Act.put, List.setIfInBounds_toArray, List.set_cons_zero, List.set_cons_succ]
                  refine anyG_take (i := 6) (v := .slice A7 l.length c7) rfl (by kernel_rfl) (by kernel_rfl) (by kernel_rfl) (by kernel_rfl) (by kernel_rfl) (fun _ _ _ h => h) (Or.inl ⟨by rfl, fun w' hSw => by go_simp⟩) hS0 ?_
                  try simp only [Act.put, List.setIfInBounds_toArray, List.set_cons_zero, List.set_cons_succ]
                  refine anyG_take (i := 7) (v := .int .i64 p) rfl (by kernel_rfl) (by kernel_rfl) (by kernel_rfl) (by kernel_rfl) (by kernel_rfl) (fun _ _ _ h => h) (Or.inl ⟨by rfl, fun w' hSw => by go_simp⟩) hS0 ?_
                  try simp only [Act.put, List.setIfInBounds_toArray, List.set_cons_zero, List.set_cons_succ]
                  refine anyG_take (i := 8) (v := .int .i64 bk) rfl (by kernel_rfl) (by kernel_rfl) (by kernel_rfl) (by kernel_rfl) (by kernel_rfl) (fun _ _ _ h => h) (Or.inl ⟨by rfl, fun w' hSw => by go_simp⟩) hS0 ?_
                  try simp only [Act.put, List.setIfInBounds_toArray, List.set_cons_zero, List.set_cons_succ]
                  refine anyG_take (i := 9) (v := .int .i64 a) rfl (by kernel_rfl) (by kernel_rfl) (by kernel_rfl) (by kernel_rfl) (by kernel_rfl) (fun _ _ _ h => h) (Or.inl ⟨by rfl, fun w' hSw => by go_simp⟩) hS0 ?_
                  try simp only [Act.put, List.setIfInBounds_toArray, List.set_cons_zero, List.set_cons_succ]
                  refine anyG_take (i := 10) (v := .int .i64 tt) rfl (by kernel_rfl) (by kernel_rfl) (by kernel_rfl) (by kernel_rfl) (by kernel_rfl) (fun _ _ _ h => h) (Or.inl ⟨by rfl, fun w' hSw => by go_simp⟩) hS0 ?_
                  try simp only [Act.put, List.setIfInBounds_toArray, List.set_cons_zero, List.set_cons_succ]
                  refine anyG_take (i := 11) (v := .slice A9 (tt - a) (c7 - a)) rfl (by kernel_rfl) (by kernel_rfl) (by kernel_rfl) (by kernel_rfl) (by kernel_rfl) (fun _ _ _ h => h) (Or.inl ⟨by rfl, fun w' hSw => by go_simp⟩) hS0 ?_
                  try simp only [Act.put, List.setIfInBounds_toArray, List.set_cons_zero, List.set_cons_succ]
                  refine anyG_take (i := 12) (v := .agg #[.int .i64 0, .int .i64 1, .int .i64 0, .int .i64 0, .slice none 0 0, .int .i64 0, .slice none 0 0, .int .i64 ((a : Int) + 1), .slice A9 (tt - a) (c7 - a), .int .i64 0, .int .i64 0, .int .i64 0, .int .i64 0, .slice none 0 0]) rfl (by kernel_rfl) (by kernel_rfl) (by kernel_rfl) (by kernel_rfl) (by kernel_rfl) (fun _ _ _ h => h) (Or.inl ⟨by rfl, fun w' hSw => by go_simp⟩) hS0 ?_
                  try simp only [Act.put, List.setIfInBounds_toArray, List.set_cons_zero, List.set_cons_succ]
                  refine anyG_step (rs := [13, 17]) (by kernel_rfl) (by simp) ?_
                  refine AllG.cons rfl (fun K hK => ?_) (AllG.cons rfl (fun K hK => ?_) AllG.nil)
                  · skip
                    go_simp
                    refine (HCT.out _ hT hz hS9).mono ?_
                    rintro e WT ⟨y, rfl, hyo, hyv, hbT⟩
                    replace hP := hP.below hbT
                    replace hE := hE.below hbT
                    replace hT := hT.below hbT
                    replace hS := SlV.below hS hbT
                    replace hY := hY.below hbT
                    replace hy := hy.below hbT
                    replace hBq := below_then hBq hbT
                    skip
                    clear hbT
                    try go_wp2_with fail
                    refine hK.out _ _ (⟨hP, hE⟩ : FoS n1 n2 m z _) ?_
                    try simp only [Act.put, List.setIfInBounds_toArray, List.set_cons_zero, List.set_cons_succ]
                    clear hK hS0
                    have hS0 : FoS n1 n2 m z _ := ⟨hP, hE⟩
                    have HYV := Lib.hid hyv
                    clear hyv
                    refine anyG_plain (i := 14) (v := .tuple #[.agg #[.int .i64 y.node, .int .i64 y.boot, .int .i64 y.above, .int .i64 y.pos, .int .i64 y.y.t, .int .i64 y.pos, .slice none 0 0, .int .i64 y.q.f, .int .i64 y.q.g, .slice y.qA y.q.os.length y.qc, .slice none 0 0, .slice none 0 0, .slice none 0 0, .slice none 0 0, .slice y.y.bA y.y.base.length y.y.bc, .int .i64 y.y.t, .slice y.y.oA y.y.ops.length y.y.oc, .slice y.y.uA y.y.us.length y.y.uc, .slice y.y.wA y.y.now.length y.y.wc, .slice y.cA y.l.length y.cc, .int .i64 y.inc, .int .i64 y.mode, .int .i64 y.clock, .int .i64 y.sent, .slice y.pA 0 y.pc, .int .i64 y.late], .int .i64 0]) rfl (by kernel_rfl) (by kernel_rfl) (by kernel_rfl) (by kernel_rfl) (fun _ _ _ h => h) (Or.inl ⟨by rfl, fun w' => by go_simp⟩) (fun _ => hS0) ?_
                    try simp only [Act.put, List.setIfInBounds_toArray, List.set_cons_zero, List.set_cons_succ]
                    refine anyG_plain (i := 15) (v := .agg #[.int .i64 y.node, .int .i64 y.boot, .int .i64 y.above, .int .i64 y.pos, .int .i64 y.y.t, .int .i64 y.pos, .slice none 0 0, .int .i64 y.q.f, .int .i64 y.q.g, .slice y.qA y.q.os.length y.qc, .slice none 0 0, .slice none 0 0, .slice none 0 0, .slice none 0 0, .slice y.y.bA y.y.base.length y.y.bc, .int .i64 y.y.t, .slice y.y.oA y.y.ops.length y.y.oc, .slice y.y.uA y.y.us.length y.y.uc, .slice y.y.wA y.y.now.length y.y.wc, .slice y.cA y.l.length y.cc, .int .i64 y.inc, .int .i64 y.mode, .int .i64 y.clock, .int .i64 y.sent, .slice y.pA 0 y.pc, .int .i64 y.late]) rfl (by kernel_rfl) (by kernel_rfl) (by kernel_rfl) (by kernel_rfl) (fun _ _ _ h => h) (Or.inl ⟨by rfl, fun w' => by go_simp⟩) (fun _ => hS0) ?_
                    try simp only [Act.put, List.setIfInBounds_toArray, List.set_cons_zero, List.set_cons_succ]
                    refine anyG_plain (i := 16) (v := .int .i64 0) rfl (by kernel_rfl) (by kernel_rfl) (by kernel_rfl) (by kernel_rfl) (fun _ _ _ h => h) (Or.inl ⟨by rfl, fun w' => by go_simp⟩) (fun _ => hS0) ?_
                    try simp only [Act.put, List.setIfInBounds_toArray, List.set_cons_zero, List.set_cons_succ]
                    refine anyG_step (rs := [17]) (by kernel_rfl) (by simp) ?_
                    refine AllG.cons rfl (fun K hK => ?_) AllG.nil
                    have hZN : dvE.In ((WT).alloc (.cells #[.int .i64 0, .int .i64 0, .int .i64 0, .int .i64 0, .int .i64 0, .int .i64 0, .slice none 0 0, .int .i64 0, .int .i64 0, .slice none 0 0, .slice none 0 0, .slice none 0 0, .slice none 0 0, .slice none 0 0, .slice none 0 0, .int .i64 0, .slice none 0 0, .slice none 0 0, .slice none 0 0, .slice none 0 0, .int .i64 0, .int .i64 0, .int .i64 0, .int .i64 0, .slice none 0 0, .int .i64 0] 44)) (WT).heap.size Dw.zero := El.In.new (E := dvE) WT Dw.zero _ rfl
                    have hal := below_alloc (Below.refl (WT).heap.size WT) (.cells #[.int .i64 0, .int .i64 0, .int .i64 0, .int .i64 0, .int .i64 0, .int .i64 0, .slice none 0 0, .int .i64 0, .int .i64 0, .slice none 0 0, .slice none 0 0, .slice none 0 0, .slice none 0 0, .slice none 0 0, .slice none 0 0, .int .i64 0, .slice none 0 0, .slice none 0 0, .slice none 0 0, .slice none 0 0, .int .i64 0, .int .i64 0, .int .i64 0, .int .i64 0, .slice none 0 0, .int .i64 0] 44)
                    have hnA2 : n2 < (WT).heap.size := hE.lt
                    have hnA1 : n1 < (WT).heap.size := hP.lt
                    have hnA8 : n8 < (WT).heap.size := hY.lt
                    have hnAm : m < (WT).heap.size := inSl_lt hT (by decide)
                    have hnAw : w.heap.size ≤ (WT).heap.size := hBq.size
                    replace hP := hP.below hal
                    replace hE := hE.below hal
                    replace hT := hT.below hal
                    replace hS := SlV.below hS hal
                    replace hY := hY.below hal
                    replace hy := hy.below hal
                    replace hBq := below_then hBq hal
                    replace hyo := hyo.below hal
                    clear hal
                    refine step_alloc_dv rfl rfl ?_
                    refine hK.out _ _ (⟨hP, hE⟩ : FoS n1 n2 m z _) ?_
                    try simp only [Act.put, List.setIfInBounds_toArray, List.set_cons_zero, List.set_cons_succ]
                    clear hK hS0
                    have hS0 : FoS n1 n2 m z _ := ⟨hP, hE⟩
                    generalize (WT).alloc (.cells #[.int .i64 0, .int .i64 0, .int .i64 0, .int .i64 0, .int .i64 0, .int .i64 0, .slice none 0 0, .int .i64 0, .int .i64 0, .slice none 0 0, .slice none 0 0, .slice none 0 0, .slice none 0 0, .slice none 0 0, .slice none 0 0, .int .i64 0, .slice none 0 0, .slice none 0 0, .slice none 0 0, .slice none 0 0, .int .i64 0, .int .i64 0, .int .i64 0, .int .i64 0, .slice none 0 0, .int .i64 0] 44) = WN at *
                    generalize (WT).heap.size = nA at *
                    refine anyG_step (rs := [18]) (by kernel_rfl) (by simp) ?_
                    refine AllG.last (n := 18) rfl (fun K hK => ?_)
                    refine El.step_store dvRow rfl _ _ rfl nA y #[.int .i64 y.node, .int .i64 y.boot, .int .i64 y.above, .int .i64 y.pos, .int .i64 y.y.t, .int .i64 y.pos, .slice none 0 0, .int .i64 y.q.f, .int .i64 y.q.g, .slice y.qA y.q.os.length y.qc, .slice none 0 0, .slice none 0 0, .slice none 0 0, .slice none 0 0, .slice y.y.bA y.y.base.length y.y.bc, .int .i64 y.y.t, .slice y.y.oA y.y.ops.length y.y.oc, .slice y.y.uA y.y.us.length y.y.uc, .slice y.y.wA y.y.now.length y.y.wc, .slice y.cA y.l.length y.cc, .int .i64 y.inc, .int .i64 y.mode, .int .i64 y.clock, .int .i64 y.sent, .slice y.pA 0 y.pc, .int .i64 y.late] rfl rfl rfl Dw.zero hZN ?_
                    refine hK.out _ _ ?_
                    try simp only [Act.put, List.setIfInBounds_toArray, List.set_cons_zero, List.set_cons_succ]
                    clear hK hS0
                    refine anyG_plain_after (i := 19) (v := .int .i64 0) rfl (by kernel_rfl) (by kernel_rfl) (by kernel_rfl) (by kernel_rfl) (fun _ _ _ h => h) (Or.inl ⟨by rfl, fun w' => by go_simp⟩) (by kernel_rfl) ?_
                    try simp only [Act.put, List.setIfInBounds_toArray, List.set_cons_zero, List.set_cons_succ]
                    refine anyG_done (by kernel_rfl) ?_ _
                    have hgr := fun (V : World) => by_row V nA #[.int .i64 y.node, .int .i64 y.boot, .int .i64 y.above, .int .i64 y.pos, .int .i64 y.y.t, .int .i64 y.pos, .slice none 0 0, .int .i64 y.q.f, .int .i64 y.q.g, .slice y.qA y.q.os.length y.qc, .slice none 0 0, .slice none 0 0, .slice none 0 0, .slice none 0 0, .slice y.y.bA y.y.base.length y.y.bc, .int .i64 y.y.t, .slice y.y.oA y.y.ops.length y.y.oc, .slice y.y.uA y.y.us.length y.y.uc, .slice y.y.wA y.y.now.length y.y.wc, .slice y.cA y.l.length y.cc, .int .i64 y.inc, .int .i64 y.mode, .int .i64 y.clock, .int .i64 y.sent, .slice y.pA 0 y.pc, .int .i64 y.late]
                    exact ⟨y, nA, rfl, HYV.out, hZN.set y #[.int .i64 y.node, .int .i64 y.boot, .int .i64 y.above, .int .i64 y.pos, .int .i64 y.y.t, .int .i64 y.pos, .slice none 0 0, .int .i64 y.q.f, .int .i64 y.q.g, .slice y.qA y.q.os.length y.qc, .slice none 0 0, .slice none 0 0, .slice none 0 0, .slice none 0 0, .slice y.y.bA y.y.base.length y.y.bc, .int .i64 y.y.t, .slice y.y.oA y.y.ops.length y.y.oc, .slice y.y.uA y.y.us.length y.y.uc, .slice y.y.wA y.y.now.length y.y.wc, .slice y.cA y.l.length y.cc, .int .i64 y.inc, .int .i64 y.mode, .int .i64 y.clock, .int .i64 y.sent, .slice y.pA 0 y.pc, .int .i64 y.late] rfl, hyo.keepB hZN (hgr _), hE.keep (hgr _) (fun e => by have := Option.some.inj e; omega), hP.keep (hgr _) (fun e => by have := Option.some.inj e; omega), inSl_keep hT (by omega) (hgr _), hS.keepD hZN (hgr _), hY.keep (hgr _) (fun e => by have := Option.some.inj e; omega), hy.keepD hZN (hgr _), below_setRow hBq hnAw _⟩
                  · skip
                    have hZN : dvE.In ((X).alloc (.cells #[.int .i64 0, .int .i64 0, .int .i64 0, .int .i64 0, .int .i64 0, .int .i64 0, .slice none 0 0, .int .i64 0, .int .i64 0, .slice none 0 0, .slice none 0 0, .slice none 0 0, .slice none 0 0, .slice none 0 0, .slice none 0 0, .int .i64 0, .slice none 0 0, .slice none 0 0, .slice none 0 0, .slice none 0 0, .int .i64 0, .int .i64 0, .int .i64 0, .int .i64 0, .slice none 0 0, .int .i64 0] 44)) (X).heap.size Dw.zero := El.In.new (E := dvE) X Dw.zero _ rfl
                    have hal := below_alloc (Below.refl (X).heap.size X) (.cells #[.int .i64 0, .int .i64 0, .int .i64 0, .int .i64 0, .int .i64 0, .int .i64 0, .slice none 0 0, .int .i64 0, .int .i64 0, .slice none 0 0, .slice none 0 0, .slice none 0 0, .slice none 0 0, .slice none 0 0, .slice none 0 0, .int .i64 0, .slice none 0 0, .slice none 0 0, .slice none 0 0, .slice none 0 0, .int .i64 0, .int .i64 0, .int .i64 0, .int .i64 0, .slice none 0 0, .int .i64 0] 44)
                    have hnA2 : n2 < (X).heap.size := hE.lt
                    have hnA1 : n1 < (X).heap.size := hP.lt
                    have hnA8 : n8 < (X).heap.size := hY.lt
                    have hnAm : m < (X).heap.size := inSl_lt hT (by decide)
                    have hnAw : w.heap.size ≤ (X).heap.size := hBq.size
                    replace hP := hP.below hal
                    replace hE := hE.below hal
                    replace hT := hT.below hal
                    replace hS := SlV.below hS hal
                    replace hY := hY.below hal
                    replace hy := hy.below hal
                    replace hBq := below_then hBq hal
                    replace hz := hz.below hal; replace hS9 := SlV.below hS9 hal
                    clear hal
                    refine step_alloc_dv rfl rfl ?_
                    refine hK.out _ _ (⟨hP, hE⟩ : FoS n1 n2 m z _) ?_
                    try simp only [Act.put, List.setIfInBounds_toArray, List.set_cons_zero, List.set_cons_succ]
                    clear hK hS0
                    have hS0 : FoS n1 n2 m z _ := ⟨hP, hE⟩
                    generalize (X).alloc (.cells #[.int .i64 0, .int .i64 0, .int .i64 0, .int .i64 0, .int .i64 0, .int .i64 0, .slice none 0 0, .int .i64 0, .int .i64 0, .slice none 0 0, .slice none 0 0, .slice none 0 0, .slice none 0 0, .slice none 0 0, .slice none 0 0, .int .i64 0, .slice none 0 0, .slice none 0 0, .slice none 0 0, .slice none 0 0, .int .i64 0, .int .i64 0, .int .i64 0, .int .i64 0, .slice none 0 0, .int .i64 0] 44) = WN at *
                    generalize (X).heap.size = nA at *
                    refine anyG_step (rs := [13]) (by kernel_rfl) (by simp) ?_
                    refine AllG.cons rfl (fun K hK => ?_) AllG.nil
                    go_simp
                    refine (HCT.out _ hT hz hS9).mono ?_
                    rintro e WT ⟨y, rfl, hyo, hyv, hbT⟩
                    replace hP := hP.below hbT
                    replace hE := hE.below hbT
                    replace hT := hT.below hbT
                    replace hS := SlV.below hS hbT
                    replace hY := hY.below hbT
                    replace hy := hy.below hbT
                    replace hBq := below_then hBq hbT
                    replace hZN := hZN.below hbT
                    clear hbT
                    try go_wp2_with fail
                    refine hK.out _ _ (⟨hP, hE⟩ : FoS n1 n2 m z _) ?_
                    try simp only [Act.put, List.setIfInBounds_toArray, List.set_cons_zero, List.set_cons_succ]
                    clear hK hS0
                    have hS0 : FoS n1 n2 m z _ := ⟨hP, hE⟩
                    have HYV := Lib.hid hyv
                    clear hyv
                    refine anyG_plain (i := 14) (v := .tuple #[.agg #[.int .i64 y.node, .int .i64 y.boot, .int .i64 y.above, .int .i64 y.pos, .int .i64 y.y.t, .int .i64 y.pos, .slice none 0 0, .int .i64 y.q.f, .int .i64 y.q.g, .slice y.qA y.q.os.length y.qc, .slice none 0 0, .slice none 0 0, .slice none 0 0, .slice none 0 0, .slice y.y.bA y.y.base.length y.y.bc, .int .i64 y.y.t, .slice y.y.oA y.y.ops.length y.y.oc, .slice y.y.uA y.y.us.length y.y.uc, .slice y.y.wA y.y.now.length y.y.wc, .slice y.cA y.l.length y.cc, .int .i64 y.inc, .int .i64 y.mode, .int .i64 y.clock, .int .i64 y.sent, .slice y.pA 0 y.pc, .int .i64 y.late], .int .i64 0]) rfl (by kernel_rfl) (by kernel_rfl) (by kernel_rfl) (by kernel_rfl) (fun _ _ _ h => h) (Or.inl ⟨by rfl, fun w' => by go_simp⟩) (fun _ => hS0) ?_
                    try simp only [Act.put, List.setIfInBounds_toArray, List.set_cons_zero, List.set_cons_succ]
                    refine anyG_plain (i := 15) (v := .agg #[.int .i64 y.node, .int .i64 y.boot, .int .i64 y.above, .int .i64 y.pos, .int .i64 y.y.t, .int .i64 y.pos, .slice none 0 0, .int .i64 y.q.f, .int .i64 y.q.g, .slice y.qA y.q.os.length y.qc, .slice none 0 0, .slice none 0 0, .slice none 0 0, .slice none 0 0, .slice y.y.bA y.y.base.length y.y.bc, .int .i64 y.y.t, .slice y.y.oA y.y.ops.length y.y.oc, .slice y.y.uA y.y.us.length y.y.uc, .slice y.y.wA y.y.now.length y.y.wc, .slice y.cA y.l.length y.cc, .int .i64 y.inc, .int .i64 y.mode, .int .i64 y.clock, .int .i64 y.sent, .slice y.pA 0 y.pc, .int .i64 y.late]) rfl (by kernel_rfl) (by kernel_rfl) (by kernel_rfl) (by kernel_rfl) (fun _ _ _ h => h) (Or.inl ⟨by rfl, fun w' => by go_simp⟩) (fun _ => hS0) ?_
                    try simp only [Act.put, List.setIfInBounds_toArray, List.set_cons_zero, List.set_cons_succ]
                    refine anyG_plain (i := 16) (v := .int .i64 0) rfl (by kernel_rfl) (by kernel_rfl) (by kernel_rfl) (by kernel_rfl) (fun _ _ _ h => h) (Or.inl ⟨by rfl, fun w' => by go_simp⟩) (fun _ => hS0) ?_
                    try simp only [Act.put, List.setIfInBounds_toArray, List.set_cons_zero, List.set_cons_succ]
                    refine anyG_step (rs := [18]) (by kernel_rfl) (by simp) ?_
                    refine AllG.last (n := 18) rfl (fun K hK => ?_)
                    refine El.step_store dvRow rfl _ _ rfl nA y #[.int .i64 y.node, .int .i64 y.boot, .int .i64 y.above, .int .i64 y.pos, .int .i64 y.y.t, .int .i64 y.pos, .slice none 0 0, .int .i64 y.q.f, .int .i64 y.q.g, .slice y.qA y.q.os.length y.qc, .slice none 0 0, .slice none 0 0, .slice none 0 0, .slice none 0 0, .slice y.y.bA y.y.base.length y.y.bc, .int .i64 y.y.t, .slice y.y.oA y.y.ops.length y.y.oc, .slice y.y.uA y.y.us.length y.y.uc, .slice y.y.wA y.y.now.length y.y.wc, .slice y.cA y.l.length y.cc, .int .i64 y.inc, .int .i64 y.mode, .int .i64 y.clock, .int .i64 y.sent, .slice y.pA 0 y.pc, .int .i64 y.late] rfl rfl rfl Dw.zero hZN ?_
                    refine hK.out _ _ ?_
                    try simp only [Act.put, List.setIfInBounds_toArray, List.set_cons_zero, List.set_cons_succ]
                    clear hK hS0
                    refine anyG_plain_after (i := 19) (v := .int .i64 0) rfl (by kernel_rfl) (by kernel_rfl) (by kernel_rfl) (by kernel_rfl) (fun _ _ _ h => h) (Or.inl ⟨by rfl, fun w' => by go_simp⟩) (by kernel_rfl) ?_
                    try simp only [Act.put, List.setIfInBounds_toArray, List.set_cons_zero, List.set_cons_succ]
                    refine anyG_done (by kernel_rfl) ?_ _
                    have hgr := fun (V : World) => by_row V nA #[.int .i64 y.node, .int .i64 y.boot, .int .i64 y.above, .int .i64 y.pos, .int .i64 y.y.t, .int .i64 y.pos, .slice none 0 0, .int .i64 y.q.f, .int .i64 y.q.g, .slice y.qA y.q.os.length y.qc, .slice none 0 0, .slice none 0 0, .slice none 0 0, .slice none 0 0, .slice y.y.bA y.y.base.length y.y.bc, .int .i64 y.y.t, .slice y.y.oA y.y.ops.length y.y.oc, .slice y.y.uA y.y.us.length y.y.uc, .slice y.y.wA y.y.now.length y.y.wc, .slice y.cA y.l.length y.cc, .int .i64 y.inc, .int .i64 y.mode, .int .i64 y.clock, .int .i64 y.sent, .slice y.pA 0 y.pc, .int .i64 y.late]
                    exact ⟨y, nA, rfl, HYV.out, hZN.set y #[.int .i64 y.node, .int .i64 y.boot, .int .i64 y.above, .int .i64 y.pos, .int .i64 y.y.t, .int .i64 y.pos, .slice none 0 0, .int .i64 y.q.f, .int .i64 y.q.g, .slice y.qA y.q.os.length y.qc, .slice none 0 0, .slice none 0 0, .slice none 0 0, .slice none 0 0, .slice y.y.bA y.y.base.length y.y.bc, .int .i64 y.y.t, .slice y.y.oA y.y.ops.length y.y.oc, .slice y.y.uA y.y.us.length y.y.uc, .slice y.y.wA y.y.now.length y.y.wc, .slice y.cA y.l.length y.cc, .int .i64 y.inc, .int .i64 y.mode, .int .i64 y.clock, .int .i64 y.sent, .slice y.pA 0 y.pc, .int .i64 y.late] rfl, hyo.keepB hZN (hgr _), hE.keep (hgr _) (fun e => by have := Option.some.inj e; omega), hP.keep (hgr _) (fun e => by have := Option.some.inj e; omega), inSl_keep hT (by omega) (hgr _), hS.keepD hZN (hgr _), hY.keep (hgr _) (fun e => by have := Option.some.inj e; omega), hy.keepD hZN (hgr _), below_setRow hBq hnAw _⟩
                rintro y nA W5 ⟨hyv, hN, hyo, hE, hP, hT, hS, hY, hy, hBq⟩
                have HYV := Lib.hid hyv
                have hTTL : tt ≤ l.length := HA2.out.2.2.1
                clear hyv
                have hgr := by_row W5 n2 #[.int .i64 y.node, .int .i64 y.boot, .int .i64 y.above, .int .i64 y.pos, .int .i64 y.y.t, .int .i64 y.pos, .slice none 0 0, .int .i64 y.q.f, .int .i64 y.q.g, .slice y.qA y.q.os.length y.qc, .slice none 0 0, .slice none 0 0, .slice none 0 0, .slice none 0 0, .slice y.y.bA y.y.base.length y.y.bc, .int .i64 y.y.t, .slice y.y.oA y.y.ops.length y.y.oc, .slice y.y.uA y.y.us.length y.y.uc, .slice y.y.wA y.y.now.length y.y.wc, .slice y.cA y.l.length y.cc, .int .i64 y.inc, .int .i64 y.mode, .int .i64 y.clock, .int .i64 y.sent, .slice y.pA 0 y.pc, .int .i64 y.late]
                go_wp2_with (first | (refine El.load dvRow rfl _ rfl nA 0 rfl y hN.at #[.int .i64 y.node, .int .i64 y.boot, .int .i64 y.above, .int .i64 y.pos, .int .i64 y.y.t, .int .i64 y.pos, .slice none 0 0, .int .i64 y.q.f, .int .i64 y.q.g, .slice y.qA y.q.os.length y.qc, .slice none 0 0, .slice none 0 0, .slice none 0 0, .slice none 0 0, .slice y.y.bA y.y.base.length y.y.bc, .int .i64 y.y.t, .slice y.y.oA y.y.ops.length y.y.oc, .slice y.y.uA y.y.us.length y.y.uc, .slice y.y.wA y.y.now.length y.y.wc, .slice y.cA y.l.length y.cc, .int .i64 y.inc, .int .i64 y.mode, .int .i64 y.clock, .int .i64 y.sent, .slice y.pA 0 y.pc, .int .i64 y.late] rfl ?_) | (refine El.store dvRow rfl _ _ rfl n2 y #[.int .i64 y.node, .int .i64 y.boot, .int .i64 y.above, .int .i64 y.pos, .int .i64 y.y.t, .int .i64 y.pos, .slice none 0 0, .int .i64 y.q.f, .int .i64 y.q.g, .slice y.qA y.q.os.length y.qc, .slice none 0 0, .slice none 0 0, .slice none 0 0, .slice none 0 0, .slice y.y.bA y.y.base.length y.y.bc, .int .i64 y.y.t, .slice y.y.oA y.y.ops.length y.y.oc, .slice y.y.uA y.y.us.length y.y.uc, .slice y.y.wA y.y.now.length y.y.wc, .slice y.cA y.l.length y.cc, .int .i64 y.inc, .int .i64 y.mode, .int .i64 y.clock, .int .i64 y.sent, .slice y.pA 0 y.pc, .int .i64 y.late] rfl rfl rfl z hE ?_) | fail)
                go_roundw
                case rel => exact ⟨tt, i + 1, y, hTTL, by omega, rfl, by go_num, HYV, hE.set y #[.int .i64 y.node, .int .i64 y.boot, .int .i64 y.above, .int .i64 y.pos, .int .i64 y.y.t, .int .i64 y.pos, .slice none 0 0, .int .i64 y.q.f, .int .i64 y.q.g, .slice y.qA y.q.os.length y.qc, .slice none 0 0, .slice none 0 0, .slice none 0 0, .slice none 0 0, .slice y.y.bA y.y.base.length y.y.bc, .int .i64 y.y.t, .slice y.y.oA y.y.ops.length y.y.oc, .slice y.y.uA y.y.us.length y.y.uc, .slice y.y.wA y.y.now.length y.y.wc, .slice y.cA y.l.length y.cc, .int .i64 y.inc, .int .i64 y.mode, .int .i64 y.clock, .int .i64 y.sent, .slice y.pA 0 y.pc, .int .i64 y.late] rfl, hyo.keepB hE hgr, hP.keep hgr (fun e => hmn2.out.2 (Option.some.inj e)), inSl_keep hT hmn2.out.1 hgr, hS.keepD hE hgr, hY.keep hgr (fun e => by have := Option.some.inj e; omega), hy.keepD hE hgr, below_setRow hBq hnw _⟩
                case measure => simp [intOf]; omega
              · have f6 : decide ((128 : Int) < sz) = false := decide_eq_false hbig
                have HBK := Lib.hid (show 0 ≤ p by omega)
                subst eD
                clear hbig hs0 hs1 hsc hbz
                go_upto_region 28 with fail
                clear hn5 hcz hnn hwq htt f5 f6 hini hin
                have hsub : IntKind.i64.wrap (p : Int) = (p : Int) := by rw [IntKind.wrap_i64]; omega
                have hadd : IntKind.i64.wrap ((p : Int) + 1) = (p : Int) + 1 := by rw [IntKind.wrap_i64]; omega
                have HA2 := Lib.hid (show p ≤ p ∧ p ≤ tt ∧ tt ≤ l.length ∧ p ≤ tt by have := HBK.out; have := HTT.out; omega)
                have hNL : (ms.map foE).length = l.length := HNl.out
                obtain ⟨A9, hA9, hS9⟩ := SlV.cutE (a := p) hS HA2.out.2.1 (by rw [hNL]; exact HA2.out.2.2.1)
                have g0 : (0 : Int) ≤ (p : Int) := by omega
                have g1 : (p : Int) ≤ (tt : Int) := by have := HA2.out; omega
                have g2 : (tt : Int) ≤ (c7 : Int) := by have := HA2.out; have h2 := hS.2.2; rw [hNL] at h2; omega
                have hk9 : (((ms.map foE).drop p).take (tt - p)).length = tt - p := by rw [List.length_take, List.length_drop, hNL]; have := HA2.out; omega
                clear hNL
                obtain ⟨L9, hL9⟩ : ∃ L9, ((ms.map foE).drop p).take (tt - p) = L9 := ⟨_, rfl⟩
                have HFD := Lib.hid (show FrD (foF p L9) from foF_d HF.out (by have := HA2.out; omega) (by rw [← hL9, hk9]; have := HA2.out; omega) (fun e he => by
                  obtain ⟨j, hj, rfl⟩ := List.getElem_of_mem he
                  subst hL9
                  have hj2 : p + j < ms.length := by rw [hk9] at hj; have := HA2.out; have := HML.out; omega
                  exact ⟨p + j, hj2, foL_at j hj hj2⟩))
                have HTD := Lib.hid (show takeD 0 (foD ms p) (foF p L9) = (foD ms tt, 0) by
                  have hm2 : max p (p + L9.length) = tt := by rw [← hL9, hk9]; have := HA2.out; omega
                  have h := foD_take HF.out L9 p p HA2.out.1 (by have := HML.out; omega) (by rw [← hL9, hk9]; have := HA2.out; have := HML.out; omega) (fun j hj hm => by subst hL9; exact foL_at j hj hm)
                  rw [hm2] at h
                  exact h)
                rw [hL9] at hS9 hk9
                clear hL9
                have HCT := Lib.hid (fun (wx : World) (hT : inE.Sl wx (some ⟨m, 0, none⟩) [-1, 0, 0]) (hz : z.ok wx) (hS : SlV enE wx A9 (c7 - p) L9) => (by
                  rw [← hk9]
                  exact takeAt H m 2 (by omega) z ⟨none, 0, none, 0, A9, c7 - p, none, 0, foF p L9⟩ wx hT hz ⟨SlV.nil _ _, SlV.nil _ _, hS, SlV.nil _ _⟩ HZ.out (foD_r HF.out (by have := HML.out; omega)) rfl HFD.out HTD.out : Calls Tryz.prog 13 #[.agg #[.slice (some ⟨m, 0, none⟩) 3 3, .int .i64 2, .int .i64 3, .int .i64 2, .int .i64 20, .int .i64 2, .int .i64 32, .int .i64 4, .int .i64 16], .agg #[.int .i64 z.node, .int .i64 z.boot, .int .i64 z.above, .int .i64 z.pos, .int .i64 z.y.t, .int .i64 z.pos, .slice none 0 0, .int .i64 z.q.f, .int .i64 z.q.g, .slice z.qA z.q.os.length z.qc, .slice none 0 0, .slice none 0 0, .slice none 0 0, .slice none 0 0, .slice z.y.bA z.y.base.length z.y.bc, .int .i64 z.y.t, .slice z.y.oA z.y.ops.length z.y.oc, .slice z.y.uA z.y.us.length z.y.uc, .slice z.y.wA z.y.now.length z.y.wc, .slice z.cA z.l.length z.cc, .int .i64 z.inc, .int .i64 z.mode, .int .i64 z.clock, .int .i64 z.sent, .slice z.pA 0 z.pc, .int .i64 z.late], .agg #[.int .i64 0, .int .i64 1, .int .i64 0, .int .i64 0, .slice none 0 0, .int .i64 0, .slice none 0 0, .int .i64 ((p : Int) + 1), .slice A9 (tt - p) (c7 - p), .int .i64 0, .int .i64 0, .int .i64 0, .int .i64 0, .slice none 0 0]] wx fun e w' => ∃ z2 : Dw, e = .returned (.tuple #[.agg #[.int .i64 z2.node, .int .i64 z2.boot, .int .i64 z2.above, .int .i64 z2.pos, .int .i64 z2.y.t, .int .i64 z2.pos, .slice none 0 0, .int .i64 z2.q.f, .int .i64 z2.q.g, .slice z2.qA z2.q.os.length z2.qc, .slice none 0 0, .slice none 0 0, .slice none 0 0, .slice none 0 0, .slice z2.y.bA z2.y.base.length z2.y.bc, .int .i64 z2.y.t, .slice z2.y.oA z2.y.ops.length z2.y.oc, .slice z2.y.uA z2.y.us.length z2.y.uc, .slice z2.y.wA z2.y.now.length z2.y.wc, .slice z2.cA z2.l.length z2.cc, .int .i64 z2.inc, .int .i64 z2.mode, .int .i64 z2.clock, .int .i64 z2.sent, .slice z2.pA 0 z2.pc, .int .i64 z2.late], .int .i64 0]) ∧ z2.ok w' ∧ z2.v = foD ms tt ∧ Below wx.heap.size wx w'))
                clear hk9
                apply wp_mergeD (fun y nA w' => y.v = foD ms tt ∧ dvE.In w' nA y ∧ y.ok w' ∧ dvE.In w' n2 z ∧ pnE.In w' n1 (pl18 m 2) ∧ inE.Sl w' (some ⟨m, 0, none⟩) [-1, 0, 0] ∧ SlV enE w' A7 c7 (ms.map foE) ∧ pwE.In w' n8 y8 ∧ PastOk w' y8 ∧ Below w.heap.size w w')
                · refine region_anyG (S := FoS n1 n2 m z) 18 (by kernel_rfl) ?_
                  have hd : Below wr.heap.size wr wr.drew := (Below.refl _ _).drew
                  replace hP : pnE.In wr.drew n1 (pl18 m 2) := hP
                  replace hE : dvE.In wr.drew n2 z := hE
                  replace hY : pwE.In wr.drew n8 y8 := hY
                  replace hz := hz.below hd
                  replace hT := hT.below hd
                  replace hS := SlV.below hS hd
                  replace hS9 := SlV.below hS9 hd
                  replace hy := hy.below hd
                  replace hBq := hBq.drew
                  clear hd
                  generalize wr.drew = X at *
                  have hS0 : FoS n1 n2 m z X := ⟨hP, hE⟩
                  refine anyG_take (i := 0) (v := .agg #[.slice (some ⟨m, 0, none⟩) 3 3, .int .i64 2, .int .i64 3, .int .i64 2, .int .i64 20, .int .i64 2, .int .i64 32, .int .i64 4, .int .i64 16]) rfl (by kernel_rfl) (by kernel_rfl) (by kernel_rfl) (by kernel_rfl) (by kernel_rfl) (fun _ _ _ h => h) (Or.inl ⟨by rfl, fun w' hSw => El.exec_loadO pnRow (.tmp 5) rfl rfl hSw.1.at _ rfl⟩) hS0 ?_
                  try simp only [Act.put, List.setIfInBounds_toArray, List.set_cons_zero, List.set_cons_succ]
                  refine anyG_take (i := 1) (v := .agg #[.int .i64 z.node, .int .i64 z.boot, .int .i64 z.above, .int .i64 z.pos, .int .i64 z.y.t, .int .i64 z.pos, .slice none 0 0, .int .i64 z.q.f, .int .i64 z.q.g, .slice z.qA z.q.os.length z.qc, .slice none 0 0, .slice none 0 0, .slice none 0 0, .slice none 0 0, .slice z.y.bA z.y.base.length z.y.bc, .int .i64 z.y.t, .slice z.y.oA z.y.ops.length z.y.oc, .slice z.y.uA z.y.us.length z.y.uc, .slice z.y.wA z.y.now.length z.y.wc, .slice z.cA z.l.length z.cc, .int .i64 z.inc, .int .i64 z.mode, .int .i64 z.clock, .int .i64 z.sent, .slice z.pA 0 z.pc, .int .i64 z.late]) rfl (by kernel_rfl) (by kernel_rfl) (by kernel_rfl) (by kernel_rfl) (by kernel_rfl) (fun _ _ _ h => h) (Or.inl ⟨by rfl, fun w' hSw => El.exec_loadO dvRow (.tmp 6) rfl rfl hSw.2.at _ rfl⟩) hS0 ?_
                  try simp only [Act.put, List.setIfInBounds_toArray, List.set_cons_zero, List.set_cons_succ]
                  refine anyG_take (i := 2) (v := .int .i64 p) rfl (by kernel_rfl) (by kernel_rfl) (by kernel_rfl) (by kernel_rfl) (by kernel_rfl) (fun _ _ _ h => h) (Or.inl ⟨by rfl, fun w' hSw => by go_simp⟩) hS0 ?_
                  try simp only [Act.put, List.setIfInBounds_toArray, List.set_cons_zero, List.set_cons_succ]
                  refine anyG_take (i := 3) (v := .int .i64 0) rfl (by kernel_rfl) (by kernel_rfl) (by kernel_rfl) (by kernel_rfl) (by kernel_rfl) (fun _ _ _ h => h) (Or.inl ⟨by rfl, fun w' hSw => by go_simp⟩) hS0 ?_
                  try simp only [Act.put, List.setIfInBounds_toArray, List.set_cons_zero, List.set_cons_succ]
                  refine anyG_take (i := 4) (v := .int .i64 p) rfl (by kernel_rfl) (by kernel_rfl) (by kernel_rfl) (by kernel_rfl) (by kernel_rfl) (fun _ _ _ h => h) (Or.inl ⟨by rfl, fun w' hSw => by go_simp⟩) hS0 ?_
                  try simp only [Act.put, List.setIfInBounds_toArray, List.set_cons_zero, List.set_cons_succ]
                  refine anyG_take (i := 5) (v := .int .i64 ((p : Int) + 1)) rfl (by kernel_rfl) (by kernel_rfl) (by kernel_rfl) (by kernel_rfl) (by kernel_rfl) (fun _ _ _ h => h) (Or.inl ⟨by rfl, fun w' hSw => by go_simp⟩) hS0 ?_
                  try simp only [Act.put, List.setIfInBounds_toArray, List.set_cons_zero, List.set_cons_succ]
                  refine anyG_take (i := 6) (v := .slice A7 l.length c7) rfl (by kernel_rfl) (by kernel_rfl) (by kernel_rfl) (by kernel_rfl) (by kernel_rfl) (fun _ _ _ h => h) (Or.inl ⟨by rfl, fun w' hSw => by go_simp⟩) hS0 ?_
                  try simp only [Act.put, List.setIfInBounds_toArray, List.set_cons_zero, List.set_cons_succ]
                  refine anyG_take (i := 7) (v := .int .i64 p) rfl (by kernel_rfl) (by kernel_rfl) (by kernel_rfl) (by kernel_rfl) (by kernel_rfl) (fun _ _ _ h => h) (Or.inl ⟨by rfl, fun w' hSw => by go_simp⟩) hS0 ?_
                  try simp only [Act.put, List.setIfInBounds_toArray, List.set_cons_zero, List.set_cons_succ]
                  refine anyG_take (i := 8) (v := .int .i64 0) rfl (by kernel_rfl) (by kernel_rfl) (by kernel_rfl) (by kernel_rfl) (by kernel_rfl) (fun _ _ _ h => h) (Or.inl ⟨by rfl, fun w' hSw => by go_simp⟩) hS0 ?_
                  try simp only [Act.put, List.setIfInBounds_toArray, List.set_cons_zero, List.set_cons_succ]
                  refine anyG_take (i := 9) (v := .int .i64 p) rfl (by kernel_rfl) (by kernel_rfl) (by kernel_rfl) (by kernel_rfl) (by kernel_rfl) (fun _ _ _ h => h) (Or.inl ⟨by rfl, fun w' hSw => by go_simp⟩) hS0 ?_
                  try simp only [Act.put, List.setIfInBounds_toArray, List.set_cons_zero, List.set_cons_succ]
                  refine anyG_take (i := 10) (v := .int .i64 tt) rfl (by kernel_rfl) (by kernel_rfl) (by kernel_rfl) (by kernel_rfl) (by kernel_rfl) (fun _ _ _ h => h) (Or.inl ⟨by rfl, fun w' hSw => by go_simp⟩) hS0 ?_
                  try simp only [Act.put, List.setIfInBounds_toArray, List.set_cons_zero, List.set_cons_succ]
                  refine anyG_take (i := 11) (v := .slice A9 (tt - p) (c7 - p)) rfl (by kernel_rfl) (by kernel_rfl) (by kernel_rfl) (by kernel_rfl) (by kernel_rfl) (fun _ _ _ h => h) (Or.inl ⟨by rfl, fun w' hSw => by go_simp⟩) hS0 ?_
                  try simp only [Act.put, List.setIfInBounds_toArray, List.set_cons_zero, List.set_cons_succ]
                  refine anyG_take (i := 12) (v := .agg #[.int .i64 0, .int .i64 1, .int .i64 0, .int .i64 0, .slice none 0 0, .int .i64 0, .slice none 0 0, .int .i64 ((p : Int) + 1), .slice A9 (tt - p) (c7 - p), .int .i64 0, .int .i64 0, .int .i64 0, .int .i64 0, .slice none 0 0]) rfl (by kernel_rfl) (by kernel_rfl) (by kernel_rfl) (by kernel_rfl) (by kernel_rfl) (fun _ _ _ h => h) (Or.inl ⟨by rfl, fun w' hSw => by go_simp⟩) hS0 ?_
                  try simp only [Act.put, List.setIfInBounds_toArray, List.set_cons_zero, List.set_cons_succ]
                  refine anyG_step (rs := [13, 17]) (by kernel_rfl) (by simp) ?_
                  refine AllG.cons rfl (fun K hK => ?_) (AllG.cons rfl (fun K hK => ?_) AllG.nil)
                  · skip
                    go_simp
                    refine (HCT.out _ hT hz hS9).mono ?_
                    rintro e WT ⟨y, rfl, hyo, hyv, hbT⟩
                    replace hP := hP.below hbT
                    replace hE := hE.below hbT
                    replace hT := hT.below hbT
                    replace hS := SlV.below hS hbT
                    replace hY := hY.below hbT
                    replace hy := hy.below hbT
                    replace hBq := below_then hBq hbT
                    skip
                    clear hbT
                    try go_wp2_with fail
                    refine hK.out _ _ (⟨hP, hE⟩ : FoS n1 n2 m z _) ?_
                    try simp only [Act.put, List.setIfInBounds_toArray, List.set_cons_zero, List.set_cons_succ]
                    clear hK hS0
                    have hS0 : FoS n1 n2 m z _ := ⟨hP, hE⟩
                    have HYV := Lib.hid hyv
                    clear hyv
                    refine anyG_plain (i := 14) (v := .tuple #[.agg #[.int .i64 y.node, .int .i64 y.boot, .int .i64 y.above, .int .i64 y.pos, .int .i64 y.y.t, .int .i64 y.pos, .slice none 0 0, .int .i64 y.q.f, .int .i64 y.q.g, .slice y.qA y.q.os.length y.qc, .slice none 0 0, .slice none 0 0, .slice none 0 0, .slice none 0 0, .slice y.y.bA y.y.base.length y.y.bc, .int .i64 y.y.t, .slice y.y.oA y.y.ops.length y.y.oc, .slice y.y.uA y.y.us.length y.y.uc, .slice y.y.wA y.y.now.length y.y.wc, .slice y.cA y.l.length y.cc, .int .i64 y.inc, .int .i64 y.mode, .int .i64 y.clock, .int .i64 y.sent, .slice y.pA 0 y.pc, .int .i64 y.late], .int .i64 0]) rfl (by kernel_rfl) (by kernel_rfl) (by kernel_rfl) (by kernel_rfl) (fun _ _ _ h => h) (Or.inl ⟨by rfl, fun w' => by go_simp⟩) (fun _ => hS0) ?_
                    try simp only [Act.put, List.setIfInBounds_toArray, List.set_cons_zero, List.set_cons_succ]
                    refine anyG_plain (i := 15) (v := .agg #[.int .i64 y.node, .int .i64 y.boot, .int .i64 y.above, .int .i64 y.pos, .int .i64 y.y.t, .int .i64 y.pos, .slice none 0 0, .int .i64 y.q.f, .int .i64 y.q.g, .slice y.qA y.q.os.length y.qc, .slice none 0 0, .slice none 0 0, .slice none 0 0, .slice none 0 0, .slice y.y.bA y.y.base.length y.y.bc, .int .i64 y.y.t, .slice y.y.oA y.y.ops.length y.y.oc, .slice y.y.uA y.y.us.length y.y.uc, .slice y.y.wA y.y.now.length y.y.wc, .slice y.cA y.l.length y.cc, .int .i64 y.inc, .int .i64 y.mode, .int .i64 y.clock, .int .i64 y.sent, .slice y.pA 0 y.pc, .int .i64 y.late]) rfl (by kernel_rfl) (by kernel_rfl) (by kernel_rfl) (by kernel_rfl) (fun _ _ _ h => h) (Or.inl ⟨by rfl, fun w' => by go_simp⟩) (fun _ => hS0) ?_
                    try simp only [Act.put, List.setIfInBounds_toArray, List.set_cons_zero, List.set_cons_succ]
                    refine anyG_plain (i := 16) (v := .int .i64 0) rfl (by kernel_rfl) (by kernel_rfl) (by kernel_rfl) (by kernel_rfl) (fun _ _ _ h => h) (Or.inl ⟨by rfl, fun w' => by go_simp⟩) (fun _ => hS0) ?_
                    try simp only [Act.put, List.setIfInBounds_toArray, List.set_cons_zero, List.set_cons_succ]
                    refine anyG_step (rs := [17]) (by kernel_rfl) (by simp) ?_
                    refine AllG.cons rfl (fun K hK => ?_) AllG.nil
                    have hZN : dvE.In ((WT).alloc (.cells #[.int .i64 0, .int .i64 0, .int .i64 0, .int .i64 0, .int .i64 0, .int .i64 0, .slice none 0 0, .int .i64 0, .int .i64 0, .slice none 0 0, .slice none 0 0, .slice none 0 0, .slice none 0 0, .slice none 0 0, .slice none 0 0, .int .i64 0, .slice none 0 0, .slice none 0 0, .slice none 0 0, .slice none 0 0, .int .i64 0, .int .i64 0, .int .i64 0, .int .i64 0, .slice none 0 0, .int .i64 0] 44)) (WT).heap.size Dw.zero := El.In.new (E := dvE) WT Dw.zero _ rfl
                    have hal := below_alloc (Below.refl (WT).heap.size WT) (.cells #[.int .i64 0, .int .i64 0, .int .i64 0, .int .i64 0, .int .i64 0, .int .i64 0, .slice none 0 0, .int .i64 0, .int .i64 0, .slice none 0 0, .slice none 0 0, .slice none 0 0, .slice none 0 0, .slice none 0 0, .slice none 0 0, .int .i64 0, .slice none 0 0, .slice none 0 0, .slice none 0 0, .slice none 0 0, .int .i64 0, .int .i64 0, .int .i64 0, .int .i64 0, .slice none 0 0, .int .i64 0] 44)
                    have hnA2 : n2 < (WT).heap.size := hE.lt
                    have hnA1 : n1 < (WT).heap.size := hP.lt
                    have hnA8 : n8 < (WT).heap.size := hY.lt
                    have hnAm : m < (WT).heap.size := inSl_lt hT (by decide)
                    have hnAw : w.heap.size ≤ (WT).heap.size := hBq.size
                    replace hP := hP.below hal
                    replace hE := hE.below hal
                    replace hT := hT.below hal
                    replace hS := SlV.below hS hal
                    replace hY := hY.below hal
                    replace hy := hy.below hal
                    replace hBq := below_then hBq hal
                    replace hyo := hyo.below hal
                    clear hal
                    refine step_alloc_dv rfl rfl ?_
                    refine hK.out _ _ (⟨hP, hE⟩ : FoS n1 n2 m z _) ?_
                    try simp only [Act.put, List.setIfInBounds_toArray, List.set_cons_zero, List.set_cons_succ]
                    clear hK hS0
                    have hS0 : FoS n1 n2 m z _ := ⟨hP, hE⟩
                    generalize (WT).alloc (.cells #[.int .i64 0, .int .i64 0, .int .i64 0, .int .i64 0, .int .i64 0, .int .i64 0, .slice none 0 0, .int .i64 0, .int .i64 0, .slice none 0 0, .slice none 0 0, .slice none 0 0, .slice none 0 0, .slice none 0 0, .slice none 0 0, .int .i64 0, .slice none 0 0, .slice none 0 0, .slice none 0 0, .slice none 0 0, .int .i64 0, .int .i64 0, .int .i64 0, .int .i64 0, .slice none 0 0, .int .i64 0] 44) = WN at *
                    generalize (WT).heap.size = nA at *
                    refine anyG_step (rs := [18]) (by kernel_rfl) (by simp) ?_
                    refine AllG.last (n := 18) rfl (fun K hK => ?_)
                    refine El.step_store dvRow rfl _ _ rfl nA y #[.int .i64 y.node, .int .i64 y.boot, .int .i64 y.above, .int .i64 y.pos, .int .i64 y.y.t, .int .i64 y.pos, .slice none 0 0, .int .i64 y.q.f, .int .i64 y.q.g, .slice y.qA y.q.os.length y.qc, .slice none 0 0, .slice none 0 0, .slice none 0 0, .slice none 0 0, .slice y.y.bA y.y.base.length y.y.bc, .int .i64 y.y.t, .slice y.y.oA y.y.ops.length y.y.oc, .slice y.y.uA y.y.us.length y.y.uc, .slice y.y.wA y.y.now.length y.y.wc, .slice y.cA y.l.length y.cc, .int .i64 y.inc, .int .i64 y.mode, .int .i64 y.clock, .int .i64 y.sent, .slice y.pA 0 y.pc, .int .i64 y.late] rfl rfl rfl Dw.zero hZN ?_
                    refine hK.out _ _ ?_
                    try simp only [Act.put, List.setIfInBounds_toArray, List.set_cons_zero, List.set_cons_succ]
                    clear hK hS0
                    refine anyG_plain_after (i := 19) (v := .int .i64 0) rfl (by kernel_rfl) (by kernel_rfl) (by kernel_rfl) (by kernel_rfl) (fun _ _ _ h => h) (Or.inl ⟨by rfl, fun w' => by go_simp⟩) (by kernel_rfl) ?_
                    try simp only [Act.put, List.setIfInBounds_toArray, List.set_cons_zero, List.set_cons_succ]
                    refine anyG_done (by kernel_rfl) ?_ _
                    have hgr := fun (V : World) => by_row V nA #[.int .i64 y.node, .int .i64 y.boot, .int .i64 y.above, .int .i64 y.pos, .int .i64 y.y.t, .int .i64 y.pos, .slice none 0 0, .int .i64 y.q.f, .int .i64 y.q.g, .slice y.qA y.q.os.length y.qc, .slice none 0 0, .slice none 0 0, .slice none 0 0, .slice none 0 0, .slice y.y.bA y.y.base.length y.y.bc, .int .i64 y.y.t, .slice y.y.oA y.y.ops.length y.y.oc, .slice y.y.uA y.y.us.length y.y.uc, .slice y.y.wA y.y.now.length y.y.wc, .slice y.cA y.l.length y.cc, .int .i64 y.inc, .int .i64 y.mode, .int .i64 y.clock, .int .i64 y.sent, .slice y.pA 0 y.pc, .int .i64 y.late]
                    exact ⟨y, nA, rfl, HYV.out, hZN.set y #[.int .i64 y.node, .int .i64 y.boot, .int .i64 y.above, .int .i64 y.pos, .int .i64 y.y.t, .int .i64 y.pos, .slice none 0 0, .int .i64 y.q.f, .int .i64 y.q.g, .slice y.qA y.q.os.length y.qc, .slice none 0 0, .slice none 0 0, .slice none 0 0, .slice none 0 0, .slice y.y.bA y.y.base.length y.y.bc, .int .i64 y.y.t, .slice y.y.oA y.y.ops.length y.y.oc, .slice y.y.uA y.y.us.length y.y.uc, .slice y.y.wA y.y.now.length y.y.wc, .slice y.cA y.l.length y.cc, .int .i64 y.inc, .int .i64 y.mode, .int .i64 y.clock, .int .i64 y.sent, .slice y.pA 0 y.pc, .int .i64 y.late] rfl, hyo.keepB hZN (hgr _), hE.keep (hgr _) (fun e => by have := Option.some.inj e; omega), hP.keep (hgr _) (fun e => by have := Option.some.inj e; omega), inSl_keep hT (by omega) (hgr _), hS.keepD hZN (hgr _), hY.keep (hgr _) (fun e => by have := Option.some.inj e; omega), hy.keepD hZN (hgr _), below_setRow hBq hnAw _⟩
                  · skip
                    have hZN : dvE.In ((X).alloc (.cells #[.int .i64 0, .int .i64 0, .int .i64 0, .int .i64 0, .int .i64 0, .int .i64 0, .slice none 0 0, .int .i64 0, .int .i64 0, .slice none 0 0, .slice none 0 0, .slice none 0 0, .slice none 0 0, .slice none 0 0, .slice none 0 0, .int .i64 0, .slice none 0 0, .slice none 0 0, .slice none 0 0, .slice none 0 0, .int .i64 0, .int .i64 0, .int .i64 0, .int .i64 0, .slice none 0 0, .int .i64 0] 44)) (X).heap.size Dw.zero := El.In.new (E := dvE) X Dw.zero _ rfl
                    have hal := below_alloc (Below.refl (X).heap.size X) (.cells #[.int .i64 0, .int .i64 0, .int .i64 0, .int .i64 0, .int .i64 0, .int .i64 0, .slice none 0 0, .int .i64 0, .int .i64 0, .slice none 0 0, .slice none 0 0, .slice none 0 0, .slice none 0 0, .slice none 0 0, .slice none 0 0, .int .i64 0, .slice none 0 0, .slice none 0 0, .slice none 0 0, .slice none 0 0, .int .i64 0, .int .i64 0, .int .i64 0, .int .i64 0, .slice none 0 0, .int .i64 0] 44)
                    have hnA2 : n2 < (X).heap.size := hE.lt
                    have hnA1 : n1 < (X).heap.size := hP.lt
                    have hnA8 : n8 < (X).heap.size := hY.lt
                    have hnAm : m < (X).heap.size := inSl_lt hT (by decide)
                    have hnAw : w.heap.size ≤ (X).heap.size := hBq.size
                    replace hP := hP.below hal
                    replace hE := hE.below hal
                    replace hT := hT.below hal
                    replace hS := SlV.below hS hal
                    replace hY := hY.below hal
                    replace hy := hy.below hal
                    replace hBq := below_then hBq hal
                    replace hz := hz.below hal; replace hS9 := SlV.below hS9 hal
                    clear hal
                    refine step_alloc_dv rfl rfl ?_
                    refine hK.out _ _ (⟨hP, hE⟩ : FoS n1 n2 m z _) ?_
                    try simp only [Act.put, List.setIfInBounds_toArray, List.set_cons_zero, List.set_cons_succ]
                    clear hK hS0
                    have hS0 : FoS n1 n2 m z _ := ⟨hP, hE⟩
                    generalize (X).alloc (.cells #[.int .i64 0, .int .i64 0, .int .i64 0, .int .i64 0, .int .i64 0, .int .i64 0, .slice none 0 0, .int .i64 0, .int .i64 0, .slice none 0 0, .slice none 0 0, .slice none 0 0, .slice none 0 0, .slice none 0 0, .slice none 0 0, .int .i64 0, .slice none 0 0, .slice none 0 0, .slice none 0 0, .slice none 0 0, .int .i64 0, .int .i64 0, .int .i64 0, .int .i64 0, .slice none 0 0, .int .i64 0] 44) = WN at *
                    generalize (X).heap.size = nA at *
                    refine anyG_step (rs := [13]) (by kernel_rfl) (by simp) ?_
                    refine AllG.cons rfl (fun K hK => ?_) AllG.nil
                    go_simp
                    refine (HCT.out _ hT hz hS9).mono ?_
                    rintro e WT ⟨y, rfl, hyo, hyv, hbT⟩
                    replace hP := hP.below hbT
                    replace hE := hE.below hbT
                    replace hT := hT.below hbT
                    replace hS := SlV.below hS hbT
                    replace hY := hY.below hbT
                    replace hy := hy.below hbT
                    replace hBq := below_then hBq hbT
                    replace hZN := hZN.below hbT
                    clear hbT
                    try go_wp2_with fail
                    refine hK.out _ _ (⟨hP, hE⟩ : FoS n1 n2 m z _) ?_
                    try simp only [Act.put, List.setIfInBounds_toArray, List.set_cons_zero, List.set_cons_succ]
                    clear hK hS0
                    have hS0 : FoS n1 n2 m z _ := ⟨hP, hE⟩
                    have HYV := Lib.hid hyv
                    clear hyv
                    refine anyG_plain (i := 14) (v := .tuple #[.agg #[.int .i64 y.node, .int .i64 y.boot, .int .i64 y.above, .int .i64 y.pos, .int .i64 y.y.t, .int .i64 y.pos, .slice none 0 0, .int .i64 y.q.f, .int .i64 y.q.g, .slice y.qA y.q.os.length y.qc, .slice none 0 0, .slice none 0 0, .slice none 0 0, .slice none 0 0, .slice y.y.bA y.y.base.length y.y.bc, .int .i64 y.y.t, .slice y.y.oA y.y.ops.length y.y.oc, .slice y.y.uA y.y.us.length y.y.uc, .slice y.y.wA y.y.now.length y.y.wc, .slice y.cA y.l.length y.cc, .int .i64 y.inc, .int .i64 y.mode, .int .i64 y.clock, .int .i64 y.sent, .slice y.pA 0 y.pc, .int .i64 y.late], .int .i64 0]) rfl (by kernel_rfl) (by kernel_rfl) (by kernel_rfl) (by kernel_rfl) (fun _ _ _ h => h) (Or.inl ⟨by rfl, fun w' => by go_simp⟩) (fun _ => hS0) ?_
                    try simp only [Act.put, List.setIfInBounds_toArray, List.set_cons_zero, List.set_cons_succ]
                    refine anyG_plain (i := 15) (v := .agg #[.int .i64 y.node, .int .i64 y.boot, .int .i64 y.above, .int .i64 y.pos, .int .i64 y.y.t, .int .i64 y.pos, .slice none 0 0, .int .i64 y.q.f, .int .i64 y.q.g, .slice y.qA y.q.os.length y.qc, .slice none 0 0, .slice none 0 0, .slice none 0 0, .slice none 0 0, .slice y.y.bA y.y.base.length y.y.bc, .int .i64 y.y.t, .slice y.y.oA y.y.ops.length y.y.oc, .slice y.y.uA y.y.us.length y.y.uc, .slice y.y.wA y.y.now.length y.y.wc, .slice y.cA y.l.length y.cc, .int .i64 y.inc, .int .i64 y.mode, .int .i64 y.clock, .int .i64 y.sent, .slice y.pA 0 y.pc, .int .i64 y.late]) rfl (by kernel_rfl) (by kernel_rfl) (by kernel_rfl) (by kernel_rfl) (fun _ _ _ h => h) (Or.inl ⟨by rfl, fun w' => by go_simp⟩) (fun _ => hS0) ?_
                    try simp only [Act.put, List.setIfInBounds_toArray, List.set_cons_zero, List.set_cons_succ]
                    refine anyG_plain (i := 16) (v := .int .i64 0) rfl (by kernel_rfl) (by kernel_rfl) (by kernel_rfl) (by kernel_rfl) (fun _ _ _ h => h) (Or.inl ⟨by rfl, fun w' => by go_simp⟩) (fun _ => hS0) ?_
                    try simp only [Act.put, List.setIfInBounds_toArray, List.set_cons_zero, List.set_cons_succ]
                    refine anyG_step (rs := [18]) (by kernel_rfl) (by simp) ?_
                    refine AllG.last (n := 18) rfl (fun K hK => ?_)
                    refine El.step_store dvRow rfl _ _ rfl nA y #[.int .i64 y.node, .int .i64 y.boot, .int .i64 y.above, .int .i64 y.pos, .int .i64 y.y.t, .int .i64 y.pos, .slice none 0 0, .int .i64 y.q.f, .int .i64 y.q.g, .slice y.qA y.q.os.length y.qc, .slice none 0 0, .slice none 0 0, .slice none 0 0, .slice none 0 0, .slice y.y.bA y.y.base.length y.y.bc, .int .i64 y.y.t, .slice y.y.oA y.y.ops.length y.y.oc, .slice y.y.uA y.y.us.length y.y.uc, .slice y.y.wA y.y.now.length y.y.wc, .slice y.cA y.l.length y.cc, .int .i64 y.inc, .int .i64 y.mode, .int .i64 y.clock, .int .i64 y.sent, .slice y.pA 0 y.pc, .int .i64 y.late] rfl rfl rfl Dw.zero hZN ?_
                    refine hK.out _ _ ?_
                    try simp only [Act.put, List.setIfInBounds_toArray, List.set_cons_zero, List.set_cons_succ]
                    clear hK hS0
                    refine anyG_plain_after (i := 19) (v := .int .i64 0) rfl (by kernel_rfl) (by kernel_rfl) (by kernel_rfl) (by kernel_rfl) (fun _ _ _ h => h) (Or.inl ⟨by rfl, fun w' => by go_simp⟩) (by kernel_rfl) ?_
                    try simp only [Act.put, List.setIfInBounds_toArray, List.set_cons_zero, List.set_cons_succ]
                    refine anyG_done (by kernel_rfl) ?_ _
                    have hgr := fun (V : World) => by_row V nA #[.int .i64 y.node, .int .i64 y.boot, .int .i64 y.above, .int .i64 y.pos, .int .i64 y.y.t, .int .i64 y.pos, .slice none 0 0, .int .i64 y.q.f, .int .i64 y.q.g, .slice y.qA y.q.os.length y.qc, .slice none 0 0, .slice none 0 0, .slice none 0 0, .slice none 0 0, .slice y.y.bA y.y.base.length y.y.bc, .int .i64 y.y.t, .slice y.y.oA y.y.ops.length y.y.oc, .slice y.y.uA y.y.us.length y.y.uc, .slice y.y.wA y.y.now.length y.y.wc, .slice y.cA y.l.length y.cc, .int .i64 y.inc, .int .i64 y.mode, .int .i64 y.clock, .int .i64 y.sent, .slice y.pA 0 y.pc, .int .i64 y.late]
                    exact ⟨y, nA, rfl, HYV.out, hZN.set y #[.int .i64 y.node, .int .i64 y.boot, .int .i64 y.above, .int .i64 y.pos, .int .i64 y.y.t, .int .i64 y.pos, .slice none 0 0, .int .i64 y.q.f, .int .i64 y.q.g, .slice y.qA y.q.os.length y.qc, .slice none 0 0, .slice none 0 0, .slice none 0 0, .slice none 0 0, .slice y.y.bA y.y.base.length y.y.bc, .int .i64 y.y.t, .slice y.y.oA y.y.ops.length y.y.oc, .slice y.y.uA y.y.us.length y.y.uc, .slice y.y.wA y.y.now.length y.y.wc, .slice y.cA y.l.length y.cc, .int .i64 y.inc, .int .i64 y.mode, .int .i64 y.clock, .int .i64 y.sent, .slice y.pA 0 y.pc, .int .i64 y.late] rfl, hyo.keepB hZN (hgr _), hE.keep (hgr _) (fun e => by have := Option.some.inj e; omega), hP.keep (hgr _) (fun e => by have := Option.some.inj e; omega), inSl_keep hT (by omega) (hgr _), hS.keepD hZN (hgr _), hY.keep (hgr _) (fun e => by have := Option.some.inj e; omega), hy.keepD hZN (hgr _), below_setRow hBq hnAw _⟩
                rintro y nA W5 ⟨hyv, hN, hyo, hE, hP, hT, hS, hY, hy, hBq⟩
                have HYV := Lib.hid hyv
                have hTTL : tt ≤ l.length := HA2.out.2.2.1
                clear hyv
                have hgr := by_row W5 n2 #[.int .i64 y.node, .int .i64 y.boot, .int .i64 y.above, .int .i64 y.pos, .int .i64 y.y.t, .int .i64 y.pos, .slice none 0 0, .int .i64 y.q.f, .int .i64 y.q.g, .slice y.qA y.q.os.length y.qc, .slice none 0 0, .slice none 0 0, .slice none 0 0, .slice none 0 0, .slice y.y.bA y.y.base.length y.y.bc, .int .i64 y.y.t, .slice y.y.oA y.y.ops.length y.y.oc, .slice y.y.uA y.y.us.length y.y.uc, .slice y.y.wA y.y.now.length y.y.wc, .slice y.cA y.l.length y.cc, .int .i64 y.inc, .int .i64 y.mode, .int .i64 y.clock, .int .i64 y.sent, .slice y.pA 0 y.pc, .int .i64 y.late]
                go_wp2_with (first | (refine El.load dvRow rfl _ rfl nA 0 rfl y hN.at #[.int .i64 y.node, .int .i64 y.boot, .int .i64 y.above, .int .i64 y.pos, .int .i64 y.y.t, .int .i64 y.pos, .slice none 0 0, .int .i64 y.q.f, .int .i64 y.q.g, .slice y.qA y.q.os.length y.qc, .slice none 0 0, .slice none 0 0, .slice none 0 0, .slice none 0 0, .slice y.y.bA y.y.base.length y.y.bc, .int .i64 y.y.t, .slice y.y.oA y.y.ops.length y.y.oc, .slice y.y.uA y.y.us.length y.y.uc, .slice y.y.wA y.y.now.length y.y.wc, .slice y.cA y.l.length y.cc, .int .i64 y.inc, .int .i64 y.mode, .int .i64 y.clock, .int .i64 y.sent, .slice y.pA 0 y.pc, .int .i64 y.late] rfl ?_) | (refine El.store dvRow rfl _ _ rfl n2 y #[.int .i64 y.node, .int .i64 y.boot, .int .i64 y.above, .int .i64 y.pos, .int .i64 y.y.t, .int .i64 y.pos, .slice none 0 0, .int .i64 y.q.f, .int .i64 y.q.g, .slice y.qA y.q.os.length y.qc, .slice none 0 0, .slice none 0 0, .slice none 0 0, .slice none 0 0, .slice y.y.bA y.y.base.length y.y.bc, .int .i64 y.y.t, .slice y.y.oA y.y.ops.length y.y.oc, .slice y.y.uA y.y.us.length y.y.uc, .slice y.y.wA y.y.now.length y.y.wc, .slice y.cA y.l.length y.cc, .int .i64 y.inc, .int .i64 y.mode, .int .i64 y.clock, .int .i64 y.sent, .slice y.pA 0 y.pc, .int .i64 y.late] rfl rfl rfl z hE ?_) | fail)
                go_roundw
                case rel => exact ⟨tt, i + 1, y, hTTL, by omega, rfl, by go_num, HYV, hE.set y #[.int .i64 y.node, .int .i64 y.boot, .int .i64 y.above, .int .i64 y.pos, .int .i64 y.y.t, .int .i64 y.pos, .slice none 0 0, .int .i64 y.q.f, .int .i64 y.q.g, .slice y.qA y.q.os.length y.qc, .slice none 0 0, .slice none 0 0, .slice none 0 0, .slice none 0 0, .slice y.y.bA y.y.base.length y.y.bc, .int .i64 y.y.t, .slice y.y.oA y.y.ops.length y.y.oc, .slice y.y.uA y.y.us.length y.y.uc, .slice y.y.wA y.y.now.length y.y.wc, .slice y.cA y.l.length y.cc, .int .i64 y.inc, .int .i64 y.mode, .int .i64 y.clock, .int .i64 y.sent, .slice y.pA 0 y.pc, .int .i64 y.late] rfl, hyo.keepB hE hgr, hP.keep hgr (fun e => hmn2.out.2 (Option.some.inj e)), inSl_keep hT hmn2.out.1 hgr, hS.keepD hE hgr, hY.keep hgr (fun e => by have := Option.some.inj e; omega), hy.keepD hE hgr, below_setRow hBq hnw _⟩
                case measure => simp [intOf]; omega
            · have f5 : decide ((i : Int) < (nz : Int)) = false := decide_eq_false (by omega)
              have hwq : IntKind.i64.wrap ((p : Int) + 1) = (p : Int) + 1 := by rw [IntKind.wrap_i64]; omega
              obtain ⟨tt, htt⟩ : ∃ tt : Nat, min (l.length : Int) ((p : Int) + 1) = (tt : Int) := ⟨min l.length (p + 1), by omega⟩
              have HTT := Lib.hid (show p ≤ tt ∧ tt ≤ l.length by omega)
              have HBK := Lib.hid (show 0 ≤ p by omega)
              go_upto_region 28 with fail
              clear hwq htt f5 hin
              have hsub : IntKind.i64.wrap (p : Int) = (p : Int) := by rw [IntKind.wrap_i64]; omega
              have hadd : IntKind.i64.wrap ((p : Int) + 1) = (p : Int) + 1 := by rw [IntKind.wrap_i64]; omega
              have HA2 := Lib.hid (show p ≤ p ∧ p ≤ tt ∧ tt ≤ l.length ∧ p ≤ tt by have := HBK.out; have := HTT.out; omega)
              have hNL : (ms.map foE).length = l.length := HNl.out
              obtain ⟨A9, hA9, hS9⟩ := SlV.cutE (a := p) hS HA2.out.2.1 (by rw [hNL]; exact HA2.out.2.2.1)
              have g0 : (0 : Int) ≤ (p : Int) := by omega
              have g1 : (p : Int) ≤ (tt : Int) := by have := HA2.out; omega
              have g2 : (tt : Int) ≤ (c7 : Int) := by have := HA2.out; have h2 := hS.2.2; rw [hNL] at h2; omega
              have hk9 : (((ms.map foE).drop p).take (tt - p)).length = tt - p := by rw [List.length_take, List.length_drop, hNL]; have := HA2.out; omega
              clear hNL
              obtain ⟨L9, hL9⟩ : ∃ L9, ((ms.map foE).drop p).take (tt - p) = L9 := ⟨_, rfl⟩
              have HFD := Lib.hid (show FrD (foF p L9) from foF_d HF.out (by have := HA2.out; omega) (by rw [← hL9, hk9]; have := HA2.out; omega) (fun e he => by
                obtain ⟨j, hj, rfl⟩ := List.getElem_of_mem he
                subst hL9
                have hj2 : p + j < ms.length := by rw [hk9] at hj; have := HA2.out; have := HML.out; omega
                exact ⟨p + j, hj2, foL_at j hj hj2⟩))
              have HTD := Lib.hid (show takeD 0 (foD ms p) (foF p L9) = (foD ms tt, 0) by
                have hm2 : max p (p + L9.length) = tt := by rw [← hL9, hk9]; have := HA2.out; omega
                have h := foD_take HF.out L9 p p HA2.out.1 (by have := HML.out; omega) (by rw [← hL9, hk9]; have := HA2.out; have := HML.out; omega) (fun j hj hm => by subst hL9; exact foL_at j hj hm)
                rw [hm2] at h
                exact h)
              rw [hL9] at hS9 hk9
              clear hL9
              have HCT := Lib.hid (fun (wx : World) (hT : inE.Sl wx (some ⟨m, 0, none⟩) [-1, 0, 0]) (hz : z.ok wx) (hS : SlV enE wx A9 (c7 - p) L9) => (by
                rw [← hk9]
                exact takeAt H m 2 (by omega) z ⟨none, 0, none, 0, A9, c7 - p, none, 0, foF p L9⟩ wx hT hz ⟨SlV.nil _ _, SlV.nil _ _, hS, SlV.nil _ _⟩ HZ.out (foD_r HF.out (by have := HML.out; omega)) rfl HFD.out HTD.out : Calls Tryz.prog 13 #[.agg #[.slice (some ⟨m, 0, none⟩) 3 3, .int .i64 2, .int .i64 3, .int .i64 2, .int .i64 20, .int .i64 2, .int .i64 32, .int .i64 4, .int .i64 16], .agg #[.int .i64 z.node, .int .i64 z.boot, .int .i64 z.above, .int .i64 z.pos, .int .i64 z.y.t, .int .i64 z.pos, .slice none 0 0, .int .i64 z.q.f, .int .i64 z.q.g, .slice z.qA z.q.os.length z.qc, .slice none 0 0, .slice none 0 0, .slice none 0 0, .slice none 0 0, .slice z.y.bA z.y.base.length z.y.bc, .int .i64 z.y.t, .slice z.y.oA z.y.ops.length z.y.oc, .slice z.y.uA z.y.us.length z.y.uc, .slice z.y.wA z.y.now.length z.y.wc, .slice z.cA z.l.length z.cc, .int .i64 z.inc, .int .i64 z.mode, .int .i64 z.clock, .int .i64 z.sent, .slice z.pA 0 z.pc, .int .i64 z.late], .agg #[.int .i64 0, .int .i64 1, .int .i64 0, .int .i64 0, .slice none 0 0, .int .i64 0, .slice none 0 0, .int .i64 ((p : Int) + 1), .slice A9 (tt - p) (c7 - p), .int .i64 0, .int .i64 0, .int .i64 0, .int .i64 0, .slice none 0 0]] wx fun e w' => ∃ z2 : Dw, e = .returned (.tuple #[.agg #[.int .i64 z2.node, .int .i64 z2.boot, .int .i64 z2.above, .int .i64 z2.pos, .int .i64 z2.y.t, .int .i64 z2.pos, .slice none 0 0, .int .i64 z2.q.f, .int .i64 z2.q.g, .slice z2.qA z2.q.os.length z2.qc, .slice none 0 0, .slice none 0 0, .slice none 0 0, .slice none 0 0, .slice z2.y.bA z2.y.base.length z2.y.bc, .int .i64 z2.y.t, .slice z2.y.oA z2.y.ops.length z2.y.oc, .slice z2.y.uA z2.y.us.length z2.y.uc, .slice z2.y.wA z2.y.now.length z2.y.wc, .slice z2.cA z2.l.length z2.cc, .int .i64 z2.inc, .int .i64 z2.mode, .int .i64 z2.clock, .int .i64 z2.sent, .slice z2.pA 0 z2.pc, .int .i64 z2.late], .int .i64 0]) ∧ z2.ok w' ∧ z2.v = foD ms tt ∧ Below wx.heap.size wx w'))
              clear hk9
              apply wp_mergeD (fun y nA w' => y.v = foD ms tt ∧ dvE.In w' nA y ∧ y.ok w' ∧ dvE.In w' n2 z ∧ pnE.In w' n1 (pl18 m 2) ∧ inE.Sl w' (some ⟨m, 0, none⟩) [-1, 0, 0] ∧ SlV enE w' A7 c7 (ms.map foE) ∧ pwE.In w' n8 y8 ∧ PastOk w' y8 ∧ Below w.heap.size w w')
              · refine region_anyG (S := FoS n1 n2 m z) 18 (by kernel_rfl) ?_
                have hd : Below wr.heap.size wr wr.drew := (Below.refl _ _).drew
                replace hP : pnE.In wr.drew n1 (pl18 m 2) := hP
                replace hE : dvE.In wr.drew n2 z := hE
                replace hY : pwE.In wr.drew n8 y8 := hY
                replace hz := hz.below hd
                replace hT := hT.below hd
                replace hS := SlV.below hS hd
                replace hS9 := SlV.below hS9 hd
                replace hy := hy.below hd
                replace hBq := hBq.drew
                clear hd
                generalize wr.drew = X at *
                have hS0 : FoS n1 n2 m z X := ⟨hP, hE⟩
                refine anyG_take (i := 0) (v := .agg #[.slice (some ⟨m, 0, none⟩) 3 3, .int .i64 2, .int .i64 3, .int .i64 2, .int .i64 20, .int .i64 2, .int .i64 32, .int .i64 4, .int .i64 16]) rfl (by kernel_rfl) (by kernel_rfl) (by kernel_rfl) (by kernel_rfl) (by kernel_rfl) (fun _ _ _ h => h) (Or.inl ⟨by rfl, fun w' hSw => El.exec_loadO pnRow (.tmp 5) rfl rfl hSw.1.at _ rfl⟩) hS0 ?_
                try simp only [Act.put, List.setIfInBounds_toArray, List.set_cons_zero, List.set_cons_succ]
                refine anyG_take (i := 1) (v := .agg #[.int .i64 z.node, .int .i64 z.boot, .int .i64 z.above, .int .i64 z.pos, .int .i64 z.y.t, .int .i64 z.pos, .slice none 0 0, .int .i64 z.q.f, .int .i64 z.q.g, .slice z.qA z.q.os.length z.qc, .slice none 0 0, .slice none 0 0, .slice none 0 0, .slice none 0 0, .slice z.y.bA z.y.base.length z.y.bc, .int .i64 z.y.t, .slice z.y.oA z.y.ops.length z.y.oc, .slice z.y.uA z.y.us.length z.y.uc, .slice z.y.wA z.y.now.length z.y.wc, .slice z.cA z.l.length z.cc, .int .i64 z.inc, .int .i64 z.mode, .int .i64 z.clock, .int .i64 z.sent, .slice z.pA 0 z.pc, .int .i64 z.late]) rfl (by kernel_rfl) (by kernel_rfl) (by kernel_rfl) (by kernel_rfl) (by kernel_rfl) (fun _ _ _ h => h) (Or.inl ⟨by rfl, fun w' hSw => El.exec_loadO dvRow (.tmp 6) rfl rfl hSw.2.at _ rfl⟩) hS0 ?_
                try simp only [Act.put, List.setIfInBounds_toArray, List.set_cons_zero, List.set_cons_succ]
                refine anyG_take (i := 2) (v := .int .i64 p) rfl (by kernel_rfl) (by kernel_rfl) (by kernel_rfl) (by kernel_rfl) (by kernel_rfl) (fun _ _ _ h => h) (Or.inl ⟨by rfl, fun w' hSw => by go_simp⟩) hS0 ?_
                try simp only [Act.put, List.setIfInBounds_toArray, List.set_cons_zero, List.set_cons_succ]
                refine anyG_take (i := 3) (v := .int .i64 0) rfl (by kernel_rfl) (by kernel_rfl) (by kernel_rfl) (by kernel_rfl) (by kernel_rfl) (fun _ _ _ h => h) (Or.inl ⟨by rfl, fun w' hSw => by go_simp⟩) hS0 ?_
                try simp only [Act.put, List.setIfInBounds_toArray, List.set_cons_zero, List.set_cons_succ]
                refine anyG_take (i := 4) (v := .int .i64 p) rfl (by kernel_rfl) (by kernel_rfl) (by kernel_rfl) (by kernel_rfl) (by kernel_rfl) (fun _ _ _ h => h) (Or.inl ⟨by rfl, fun w' hSw => by go_simp⟩) hS0 ?_
                try simp only [Act.put, List.setIfInBounds_toArray, List.set_cons_zero, List.set_cons_succ]
                refine anyG_take (i := 5) (v := .int .i64 ((p : Int) + 1)) rfl (by kernel_rfl) (by kernel_rfl) (by kernel_rfl) (by kernel_rfl) (by kernel_rfl) (fun _ _ _ h => h) (Or.inl ⟨by rfl, fun w' hSw => by go_simp⟩) hS0 ?_
                try simp only [Act.put, List.setIfInBounds_toArray, List.set_cons_zero, List.set_cons_succ]
                refine anyG_take (i := 6) (v := .slice A7 l.length c7) rfl (by kernel_rfl) (by kernel_rfl) (by kernel_rfl) (by kernel_rfl) (by kernel_rfl) (fun _ _ _ h => h) (Or.inl ⟨by rfl, fun w' hSw => by go_simp⟩) hS0 ?_
                try simp only [Act.put, List.setIfInBounds_toArray, List.set_cons_zero, List.set_cons_succ]
                refine anyG_take (i := 7) (v := .int .i64 p) rfl (by kernel_rfl) (by kernel_rfl) (by kernel_rfl) (by kernel_rfl) (by kernel_rfl) (fun _ _ _ h => h) (Or.inl ⟨by rfl, fun w' hSw => by go_simp⟩) hS0 ?_
                try simp only [Act.put, List.setIfInBounds_toArray, List.set_cons_zero, List.set_cons_succ]
                refine anyG_take (i := 8) (v := .int .i64 0) rfl (by kernel_rfl) (by kernel_rfl) (by kernel_rfl) (by kernel_rfl) (by kernel_rfl) (fun _ _ _ h => h) (Or.inl ⟨by rfl, fun w' hSw => by go_simp⟩) hS0 ?_
                try simp only [Act.put, List.setIfInBounds_toArray, List.set_cons_zero, List.set_cons_succ]
                refine anyG_take (i := 9) (v := .int .i64 p) rfl (by kernel_rfl) (by kernel_rfl) (by kernel_rfl) (by kernel_rfl) (by kernel_rfl) (fun _ _ _ h => h) (Or.inl ⟨by rfl, fun w' hSw => by go_simp⟩) hS0 ?_
                try simp only [Act.put, List.setIfInBounds_toArray, List.set_cons_zero, List.set_cons_succ]
                refine anyG_take (i := 10) (v := .int .i64 tt) rfl (by kernel_rfl) (by kernel_rfl) (by kernel_rfl) (by kernel_rfl) (by kernel_rfl) (fun _ _ _ h => h) (Or.inl ⟨by rfl, fun w' hSw => by go_simp⟩) hS0 ?_
                try simp only [Act.put, List.setIfInBounds_toArray, List.set_cons_zero, List.set_cons_succ]
                refine anyG_take (i := 11) (v := .slice A9 (tt - p) (c7 - p)) rfl (by kernel_rfl) (by kernel_rfl) (by kernel_rfl) (by kernel_rfl) (by kernel_rfl) (fun _ _ _ h => h) (Or.inl ⟨by rfl, fun w' hSw => by go_simp⟩) hS0 ?_
                try simp only [Act.put, List.setIfInBounds_toArray, List.set_cons_zero, List.set_cons_succ]
                refine anyG_take (i := 12) (v := .agg #[.int .i64 0, .int .i64 1, .int .i64 0, .int .i64 0, .slice none 0 0, .int .i64 0, .slice none 0 0, .int .i64 ((p : Int) + 1), .slice A9 (tt - p) (c7 - p), .int .i64 0, .int .i64 0, .int .i64 0, .int .i64 0, .slice none 0 0]) rfl (by kernel_rfl) (by kernel_rfl) (by kernel_rfl) (by kernel_rfl) (by kernel_rfl) (fun _ _ _ h => h) (Or.inl ⟨by rfl, fun w' hSw => by go_simp⟩) hS0 ?_
                try simp only [Act.put, List.setIfInBounds_toArray, List.set_cons_zero, List.set_cons_succ]
                refine anyG_step (rs := [13, 17]) (by kernel_rfl) (by simp) ?_
                refine AllG.cons rfl (fun K hK => ?_) (AllG.cons rfl (fun K hK => ?_) AllG.nil)
                · skip
                  go_simp
                  refine (HCT.out _ hT hz hS9).mono ?_
                  rintro e WT ⟨y, rfl, hyo, hyv, hbT⟩
                  replace hP := hP.below hbT
                  replace hE := hE.below hbT
                  replace hT := hT.below hbT
                  replace hS := SlV.below hS hbT
                  replace hY := hY.below hbT
                  replace hy := hy.below hbT
                  replace hBq := below_then hBq hbT
                  skip
                  clear hbT
                  try go_wp2_with fail
                  refine hK.out _ _ (⟨hP, hE⟩ : FoS n1 n2 m z _) ?_
                  try simp only [Act.put, List.setIfInBounds_toArray, List.set_cons_zero, List.set_cons_succ]
                  clear hK hS0
                  have hS0 : FoS n1 n2 m z _ := ⟨hP, hE⟩
                  have HYV := Lib.hid hyv
                  clear hyv
                  refine anyG_plain (i := 14) (v := .tuple #[.agg #[.int .i64 y.node, .int .i64 y.boot, .int .i64 y.above, .int .i64 y.pos, .int .i64 y.y.t, .int .i64 y.pos, .slice none 0 0, .int .i64 y.q.f, .int .i64 y.q.g, .slice y.qA y.q.os.length y.qc, .slice none 0 0, .slice none 0 0, .slice none 0 0, .slice none 0 0, .slice y.y.bA y.y.base.length y.y.bc, .int .i64 y.y.t, .slice y.y.oA y.y.ops.length y.y.oc, .slice y.y.uA y.y.us.length y.y.uc, .slice y.y.wA y.y.now.length y.y.wc, .slice y.cA y.l.length y.cc, .int .i64 y.inc, .int .i64 y.mode, .int .i64 y.clock, .int .i64 y.sent, .slice y.pA 0 y.pc, .int .i64 y.late], .int .i64 0]) rfl (by kernel_rfl) (by kernel_rfl) (by kernel_rfl) (by kernel_rfl) (fun _ _ _ h => h) (Or.inl ⟨by rfl, fun w' => by go_simp⟩) (fun _ => hS0) ?_
                  try simp only [Act.put, List.setIfInBounds_toArray, List.set_cons_zero, List.set_cons_succ]
                  refine anyG_plain (i := 15) (v := .agg #[.int .i64 y.node, .int .i64 y.boot, .int .i64 y.above, .int .i64 y.pos, .int .i64 y.y.t, .int .i64 y.pos, .slice none 0 0, .int .i64 y.q.f, .int .i64 y.q.g, .slice y.qA y.q.os.length y.qc, .slice none 0 0, .slice none 0 0, .slice none 0 0, .slice none 0 0, .slice y.y.bA y.y.base.length y.y.bc, .int .i64 y.y.t, .slice y.y.oA y.y.ops.length y.y.oc, .slice y.y.uA y.y.us.length y.y.uc, .slice y.y.wA y.y.now.length y.y.wc, .slice y.cA y.l.length y.cc, .int .i64 y.inc, .int .i64 y.mode, .int .i64 y.clock, .int .i64 y.sent, .slice y.pA 0 y.pc, .int .i64 y.late]) rfl (by kernel_rfl) (by kernel_rfl) (by kernel_rfl) (by kernel_rfl) (fun _ _ _ h => h) (Or.inl ⟨by rfl, fun w' => by go_simp⟩) (fun _ => hS0) ?_
                  try simp only [Act.put, List.setIfInBounds_toArray, List.set_cons_zero, List.set_cons_succ]
                  refine anyG_plain (i := 16) (v := .int .i64 0) rfl (by kernel_rfl) (by kernel_rfl) (by kernel_rfl) (by kernel_rfl) (fun _ _ _ h => h) (Or.inl ⟨by rfl, fun w' => by go_simp⟩) (fun _ => hS0) ?_
                  try simp only [Act.put, List.setIfInBounds_toArray, List.set_cons_zero, List.set_cons_succ]
                  refine anyG_step (rs := [17]) (by kernel_rfl) (by simp) ?_
                  refine AllG.cons rfl (fun K hK => ?_) AllG.nil
                  have hZN : dvE.In ((WT).alloc (.cells #[.int .i64 0, .int .i64 0, .int .i64 0, .int .i64 0, .int .i64 0, .int .i64 0, .slice none 0 0, .int .i64 0, .int .i64 0, .slice none 0 0, .slice none 0 0, .slice none 0 0, .slice none 0 0, .slice none 0 0, .slice none 0 0, .int .i64 0, .slice none 0 0, .slice none 0 0, .slice none 0 0, .slice none 0 0, .int .i64 0, .int .i64 0, .int .i64 0, .int .i64 0, .slice none 0 0, .int .i64 0] 44)) (WT).heap.size Dw.zero := El.In.new (E := dvE) WT Dw.zero _ rfl
                  have hal := below_alloc (Below.refl (WT).heap.size WT) (.cells #[.int .i64 0, .int .i64 0, .int .i64 0, .int .i64 0, .int .i64 0, .int .i64 0, .slice none 0 0, .int .i64 0, .int .i64 0, .slice none 0 0, .slice none 0 0, .slice none 0 0, .slice none 0 0, .slice none 0 0, .slice none 0 0, .int .i64 0, .slice none 0 0, .slice none 0 0, .slice none 0 0, .slice none 0 0, .int .i64 0, .int .i64 0, .int .i64 0, .int .i64 0, .slice none 0 0, .int .i64 0] 44)
                  have hnA2 : n2 < (WT).heap.size := hE.lt
                  have hnA1 : n1 < (WT).heap.size := hP.lt
                  have hnA8 : n8 < (WT).heap.size := hY.lt
                  have hnAm : m < (WT).heap.size := inSl_lt hT (by decide)
                  have hnAw : w.heap.size ≤ (WT).heap.size := hBq.size
                  replace hP := hP.below hal
                  replace hE := hE.below hal
                  replace hT := hT.below hal
                  replace hS := SlV.below hS hal
                  replace hY := hY.below hal
                  replace hy := hy.below hal
                  replace hBq := below_then hBq hal
                  replace hyo := hyo.below hal
                  clear hal
                  refine step_alloc_dv rfl rfl ?_
                  refine hK.out _ _ (⟨hP, hE⟩ : FoS n1 n2 m z _) ?_
                  try simp only [Act.put, List.setIfInBounds_toArray, List.set_cons_zero, List.set_cons_succ]
                  clear hK hS0
                  have hS0 : FoS n1 n2 m z _ := ⟨hP, hE⟩
                  generalize (WT).alloc (.cells #[.int .i64 0, .int .i64 0, .int .i64 0, .int .i64 0, .int .i64 0, .int .i64 0, .slice none 0 0, .int .i64 0, .int .i64 0, .slice none 0 0, .slice none 0 0, .slice none 0 0, .slice none 0 0, .slice none 0 0, .slice none 0 0, .int .i64 0, .slice none 0 0, .slice none 0 0, .slice none 0 0, .slice none 0 0, .int .i64 0, .int .i64 0, .int .i64 0, .int .i64 0, .slice none 0 0, .int .i64 0] 44) = WN at *
                  generalize (WT).heap.size = nA at *
                  refine anyG_step (rs := [18]) (by kernel_rfl) (by simp) ?_
                  refine AllG.last (n := 18) rfl (fun K hK => ?_)
                  refine El.step_store dvRow rfl _ _ rfl nA y #[.int .i64 y.node, .int .i64 y.boot, .int .i64 y.above, .int .i64 y.pos, .int .i64 y.y.t, .int .i64 y.pos, .slice none 0 0, .int .i64 y.q.f, .int .i64 y.q.g, .slice y.qA y.q.os.length y.qc, .slice none 0 0, .slice none 0 0, .slice none 0 0, .slice none 0 0, .slice y.y.bA y.y.base.length y.y.bc, .int .i64 y.y.t, .slice y.y.oA y.y.ops.length y.y.oc, .slice y.y.uA y.y.us.length y.y.uc, .slice y.y.wA y.y.now.length y.y.wc, .slice y.cA y.l.length y.cc, .int .i64 y.inc, .int .i64 y.mode, .int .i64 y.clock, .int .i64 y.sent, .slice y.pA 0 y.pc, .int .i64 y.late] rfl rfl rfl Dw.zero hZN ?_
                  refine hK.out _ _ ?_
                  try simp only [Act.put, List.setIfInBounds_toArray, List.set_cons_zero, List.set_cons_succ]
                  clear hK hS0
                  refine anyG_plain_after (i := 19) (v := .int .i64 0) rfl (by kernel_rfl) (by kernel_rfl) (by kernel_rfl) (by kernel_rfl) (fun _ _ _ h => h) (Or.inl ⟨by rfl, fun w' => by go_simp⟩) (by kernel_rfl) ?_
                  try simp only [Act.put, List.setIfInBounds_toArray, List.set_cons_zero, List.set_cons_succ]
                  refine anyG_done (by kernel_rfl) ?_ _
                  have hgr := fun (V : World) => by_row V nA #[.int .i64 y.node, .int .i64 y.boot, .int .i64 y.above, .int .i64 y.pos, .int .i64 y.y.t, .int .i64 y.pos, .slice none 0 0, .int .i64 y.q.f, .int .i64 y.q.g, .slice y.qA y.q.os.length y.qc, .slice none 0 0, .slice none 0 0, .slice none 0 0, .slice none 0 0, .slice y.y.bA y.y.base.length y.y.bc, .int .i64 y.y.t, .slice y.y.oA y.y.ops.length y.y.oc, .slice y.y.uA y.y.us.length y.y.uc, .slice y.y.wA y.y.now.length y.y.wc, .slice y.cA y.l.length y.cc, .int .i64 y.inc, .int .i64 y.mode, .int .i64 y.clock, .int .i64 y.sent, .slice y.pA 0 y.pc, .int .i64 y.late]
                  exact ⟨y, nA, rfl, HYV.out, hZN.set y #[.int .i64 y.node, .int .i64 y.boot, .int .i64 y.above, .int .i64 y.pos, .int .i64 y.y.t, .int .i64 y.pos, .slice none 0 0, .int .i64 y.q.f, .int .i64 y.q.g, .slice y.qA y.q.os.length y.qc, .slice none 0 0, .slice none 0 0, .slice none 0 0, .slice none 0 0, .slice y.y.bA y.y.base.length y.y.bc, .int .i64 y.y.t, .slice y.y.oA y.y.ops.length y.y.oc, .slice y.y.uA y.y.us.length y.y.uc, .slice y.y.wA y.y.now.length y.y.wc, .slice y.cA y.l.length y.cc, .int .i64 y.inc, .int .i64 y.mode, .int .i64 y.clock, .int .i64 y.sent, .slice y.pA 0 y.pc, .int .i64 y.late] rfl, hyo.keepB hZN (hgr _), hE.keep (hgr _) (fun e => by have := Option.some.inj e; omega), hP.keep (hgr _) (fun e => by have := Option.some.inj e; omega), inSl_keep hT (by omega) (hgr _), hS.keepD hZN (hgr _), hY.keep (hgr _) (fun e => by have := Option.some.inj e; omega), hy.keepD hZN (hgr _), below_setRow hBq hnAw _⟩
                · skip
                  have hZN : dvE.In ((X).alloc (.cells #[.int .i64 0, .int .i64 0, .int .i64 0, .int .i64 0, .int .i64 0, .int .i64 0, .slice none 0 0, .int .i64 0, .int .i64 0, .slice none 0 0, .slice none 0 0, .slice none 0 0, .slice none 0 0, .slice none 0 0, .slice none 0 0, .int .i64 0, .slice none 0 0, .slice none 0 0, .slice none 0 0, .slice none 0 0, .int .i64 0, .int .i64 0, .int .i64 0, .int .i64 0, .slice none 0 0, .int .i64 0] 44)) (X).heap.size Dw.zero := El.In.new (E := dvE) X Dw.zero _ rfl
                  have hal := below_alloc (Below.refl (X).heap.size X) (.cells #[.int .i64 0, .int .i64 0, .int .i64 0, .int .i64 0, .int .i64 0, .int .i64 0, .slice none 0 0, .int .i64 0, .int .i64 0, .slice none 0 0, .slice none 0 0, .slice none 0 0, .slice none 0 0, .slice none 0 0, .slice none 0 0, .int .i64 0, .slice none 0 0, .slice none 0 0, .slice none 0 0, .slice none 0 0, .int .i64 0, .int .i64 0, .int .i64 0, .int .i64 0, .slice none 0 0, .int .i64 0] 44)
                  have hnA2 : n2 < (X).heap.size := hE.lt
                  have hnA1 : n1 < (X).heap.size := hP.lt
                  have hnA8 : n8 < (X).heap.size := hY.lt
                  have hnAm : m < (X).heap.size := inSl_lt hT (by decide)
                  have hnAw : w.heap.size ≤ (X).heap.size := hBq.size
                  replace hP := hP.below hal
                  replace hE := hE.below hal
                  replace hT := hT.below hal
                  replace hS := SlV.below hS hal
                  replace hY := hY.below hal
                  replace hy := hy.below hal
                  replace hBq := below_then hBq hal
                  replace hz := hz.below hal; replace hS9 := SlV.below hS9 hal
                  clear hal
                  refine step_alloc_dv rfl rfl ?_
                  refine hK.out _ _ (⟨hP, hE⟩ : FoS n1 n2 m z _) ?_
                  try simp only [Act.put, List.setIfInBounds_toArray, List.set_cons_zero, List.set_cons_succ]
                  clear hK hS0
                  have hS0 : FoS n1 n2 m z _ := ⟨hP, hE⟩
                  generalize (X).alloc (.cells #[.int .i64 0, .int .i64 0, .int .i64 0, .int .i64 0, .int .i64 0, .int .i64 0, .slice none 0 0, .int .i64 0, .int .i64 0, .slice none 0 0, .slice none 0 0, .slice none 0 0, .slice none 0 0, .slice none 0 0, .slice none 0 0, .int .i64 0, .slice none 0 0, .slice none 0 0, .slice none 0 0, .slice none 0 0, .int .i64 0, .int .i64 0, .int .i64 0, .int .i64 0, .slice none 0 0, .int .i64 0] 44) = WN at *
                  generalize (X).heap.size = nA at *
                  refine anyG_step (rs := [13]) (by kernel_rfl) (by simp) ?_
                  refine AllG.cons rfl (fun K hK => ?_) AllG.nil
                  go_simp
                  refine (HCT.out _ hT hz hS9).mono ?_
                  rintro e WT ⟨y, rfl, hyo, hyv, hbT⟩
                  replace hP := hP.below hbT
                  replace hE := hE.below hbT
                  replace hT := hT.below hbT
                  replace hS := SlV.below hS hbT
                  replace hY := hY.below hbT
                  replace hy := hy.below hbT
                  replace hBq := below_then hBq hbT
                  replace hZN := hZN.below hbT
                  clear hbT
                  try go_wp2_with fail
                  refine hK.out _ _ (⟨hP, hE⟩ : FoS n1 n2 m z _) ?_
                  try simp only [Act.put, List.setIfInBounds_toArray, List.set_cons_zero, List.set_cons_succ]
                  clear hK hS0
                  have hS0 : FoS n1 n2 m z _ := ⟨hP, hE⟩
                  have HYV := Lib.hid hyv
                  clear hyv
                  refine anyG_plain (i := 14) (v := .tuple #[.agg #[.int .i64 y.node, .int .i64 y.boot, .int .i64 y.above, .int .i64 y.pos, .int .i64 y.y.t, .int .i64 y.pos, .slice none 0 0, .int .i64 y.q.f, .int .i64 y.q.g, .slice y.qA y.q.os.length y.qc, .slice none 0 0, .slice none 0 0, .slice none 0 0, .slice none 0 0, .slice y.y.bA y.y.base.length y.y.bc, .int .i64 y.y.t, .slice y.y.oA y.y.ops.length y.y.oc, .slice y.y.uA y.y.us.length y.y.uc, .slice y.y.wA y.y.now.length y.y.wc, .slice y.cA y.l.length y.cc, .int .i64 y.inc, .int .i64 y.mode, .int .i64 y.clock, .int .i64 y.sent, .slice y.pA 0 y.pc, .int .i64 y.late], .int .i64 0]) rfl (by kernel_rfl) (by kernel_rfl) (by kernel_rfl) (by kernel_rfl) (fun _ _ _ h => h) (Or.inl ⟨by rfl, fun w' => by go_simp⟩) (fun _ => hS0) ?_
                  try simp only [Act.put, List.setIfInBounds_toArray, List.set_cons_zero, List.set_cons_succ]
                  refine anyG_plain (i := 15) (v := .agg #[.int .i64 y.node, .int .i64 y.boot, .int .i64 y.above, .int .i64 y.pos, .int .i64 y.y.t, .int .i64 y.pos, .slice none 0 0, .int .i64 y.q.f, .int .i64 y.q.g, .slice y.qA y.q.os.length y.qc, .slice none 0 0, .slice none 0 0, .slice none 0 0, .slice none 0 0, .slice y.y.bA y.y.base.length y.y.bc, .int .i64 y.y.t, .slice y.y.oA y.y.ops.length y.y.oc, .slice y.y.uA y.y.us.length y.y.uc, .slice y.y.wA y.y.now.length y.y.wc, .slice y.cA y.l.length y.cc, .int .i64 y.inc, .int .i64 y.mode, .int .i64 y.clock, .int .i64 y.sent, .slice y.pA 0 y.pc, .int .i64 y.late]) rfl (by kernel_rfl) (by kernel_rfl) (by kernel_rfl) (by kernel_rfl) (fun _ _ _ h => h) (Or.inl ⟨by rfl, fun w' => by go_simp⟩) (fun _ => hS0) ?_
                  try simp only [Act.put, List.setIfInBounds_toArray, List.set_cons_zero, List.set_cons_succ]
                  refine anyG_plain (i := 16) (v := .int .i64 0) rfl (by kernel_rfl) (by kernel_rfl) (by kernel_rfl) (by kernel_rfl) (fun _ _ _ h => h) (Or.inl ⟨by rfl, fun w' => by go_simp⟩) (fun _ => hS0) ?_
                  try simp only [Act.put, List.setIfInBounds_toArray, List.set_cons_zero, List.set_cons_succ]
                  refine anyG_step (rs := [18]) (by kernel_rfl) (by simp) ?_
                  refine AllG.last (n := 18) rfl (fun K hK => ?_)
                  refine El.step_store dvRow rfl _ _ rfl nA y #[.int .i64 y.node, .int .i64 y.boot, .int .i64 y.above, .int .i64 y.pos, .int .i64 y.y.t, .int .i64 y.pos, .slice none 0 0, .int .i64 y.q.f, .int .i64 y.q.g, .slice y.qA y.q.os.length y.qc, .slice none 0 0, .slice none 0 0, .slice none 0 0, .slice none 0 0, .slice y.y.bA y.y.base.length y.y.bc, .int .i64 y.y.t, .slice y.y.oA y.y.ops.length y.y.oc, .slice y.y.uA y.y.us.length y.y.uc, .slice y.y.wA y.y.now.length y.y.wc, .slice y.cA y.l.length y.cc, .int .i64 y.inc, .int .i64 y.mode, .int .i64 y.clock, .int .i64 y.sent, .slice y.pA 0 y.pc, .int .i64 y.late] rfl rfl rfl Dw.zero hZN ?_
                  refine hK.out _ _ ?_
                  try simp only [Act.put, List.setIfInBounds_toArray, List.set_cons_zero, List.set_cons_succ]
                  clear hK hS0
                  refine anyG_plain_after (i := 19) (v := .int .i64 0) rfl (by kernel_rfl) (by kernel_rfl) (by kernel_rfl) (by kernel_rfl) (fun _ _ _ h => h) (Or.inl ⟨by rfl, fun w' => by go_simp⟩) (by kernel_rfl) ?_
                  try simp only [Act.put, List.setIfInBounds_toArray, List.set_cons_zero, List.set_cons_succ]
                  refine anyG_done (by kernel_rfl) ?_ _
                  have hgr := fun (V : World) => by_row V nA #[.int .i64 y.node, .int .i64 y.boot, .int .i64 y.above, .int .i64 y.pos, .int .i64 y.y.t, .int .i64 y.pos, .slice none 0 0, .int .i64 y.q.f, .int .i64 y.q.g, .slice y.qA y.q.os.length y.qc, .slice none 0 0, .slice none 0 0, .slice none 0 0, .slice none 0 0, .slice y.y.bA y.y.base.length y.y.bc, .int .i64 y.y.t, .slice y.y.oA y.y.ops.length y.y.oc, .slice y.y.uA y.y.us.length y.y.uc, .slice y.y.wA y.y.now.length y.y.wc, .slice y.cA y.l.length y.cc, .int .i64 y.inc, .int .i64 y.mode, .int .i64 y.clock, .int .i64 y.sent, .slice y.pA 0 y.pc, .int .i64 y.late]
                  exact ⟨y, nA, rfl, HYV.out, hZN.set y #[.int .i64 y.node, .int .i64 y.boot, .int .i64 y.above, .int .i64 y.pos, .int .i64 y.y.t, .int .i64 y.pos, .slice none 0 0, .int .i64 y.q.f, .int .i64 y.q.g, .slice y.qA y.q.os.length y.qc, .slice none 0 0, .slice none 0 0, .slice none 0 0, .slice none 0 0, .slice y.y.bA y.y.base.length y.y.bc, .int .i64 y.y.t, .slice y.y.oA y.y.ops.length y.y.oc, .slice y.y.uA y.y.us.length y.y.uc, .slice y.y.wA y.y.now.length y.y.wc, .slice y.cA y.l.length y.cc, .int .i64 y.inc, .int .i64 y.mode, .int .i64 y.clock, .int .i64 y.sent, .slice y.pA 0 y.pc, .int .i64 y.late] rfl, hyo.keepB hZN (hgr _), hE.keep (hgr _) (fun e => by have := Option.some.inj e; omega), hP.keep (hgr _) (fun e => by have := Option.some.inj e; omega), inSl_keep hT (by omega) (hgr _), hS.keepD hZN (hgr _), hY.keep (hgr _) (fun e => by have := Option.some.inj e; omega), hy.keepD hZN (hgr _), below_setRow hBq hnAw _⟩
              rintro y nA W5 ⟨hyv, hN, hyo, hE, hP, hT, hS, hY, hy, hBq⟩
              have HYV := Lib.hid hyv
              have hTTL : tt ≤ l.length := HA2.out.2.2.1
              clear hyv
              have hgr := by_row W5 n2 #[.int .i64 y.node, .int .i64 y.boot, .int .i64 y.above, .int .i64 y.pos, .int .i64 y.y.t, .int .i64 y.pos, .slice none 0 0, .int .i64 y.q.f, .int .i64 y.q.g, .slice y.qA y.q.os.length y.qc, .slice none 0 0, .slice none 0 0, .slice none 0 0, .slice none 0 0, .slice y.y.bA y.y.base.length y.y.bc, .int .i64 y.y.t, .slice y.y.oA y.y.ops.length y.y.oc, .slice y.y.uA y.y.us.length y.y.uc, .slice y.y.wA y.y.now.length y.y.wc, .slice y.cA y.l.length y.cc, .int .i64 y.inc, .int .i64 y.mode, .int .i64 y.clock, .int .i64 y.sent, .slice y.pA 0 y.pc, .int .i64 y.late]
              go_wp2_with (first | (refine El.load dvRow rfl _ rfl nA 0 rfl y hN.at #[.int .i64 y.node, .int .i64 y.boot, .int .i64 y.above, .int .i64 y.pos, .int .i64 y.y.t, .int .i64 y.pos, .slice none 0 0, .int .i64 y.q.f, .int .i64 y.q.g, .slice y.qA y.q.os.length y.qc, .slice none 0 0, .slice none 0 0, .slice none 0 0, .slice none 0 0, .slice y.y.bA y.y.base.length y.y.bc, .int .i64 y.y.t, .slice y.y.oA y.y.ops.length y.y.oc, .slice y.y.uA y.y.us.length y.y.uc, .slice y.y.wA y.y.now.length y.y.wc, .slice y.cA y.l.length y.cc, .int .i64 y.inc, .int .i64 y.mode, .int .i64 y.clock, .int .i64 y.sent, .slice y.pA 0 y.pc, .int .i64 y.late] rfl ?_) | (refine El.store dvRow rfl _ _ rfl n2 y #[.int .i64 y.node, .int .i64 y.boot, .int .i64 y.above, .int .i64 y.pos, .int .i64 y.y.t, .int .i64 y.pos, .slice none 0 0, .int .i64 y.q.f, .int .i64 y.q.g, .slice y.qA y.q.os.length y.qc, .slice none 0 0, .slice none 0 0, .slice none 0 0, .slice none 0 0, .slice y.y.bA y.y.base.length y.y.bc, .int .i64 y.y.t, .slice y.y.oA y.y.ops.length y.y.oc, .slice y.y.uA y.y.us.length y.y.uc, .slice y.y.wA y.y.now.length y.y.wc, .slice y.cA y.l.length y.cc, .int .i64 y.inc, .int .i64 y.mode, .int .i64 y.clock, .int .i64 y.sent, .slice y.pA 0 y.pc, .int .i64 y.late] rfl rfl rfl z hE ?_) | fail)
              go_roundw
              case rel => exact ⟨tt, i + 1, y, hTTL, by omega, rfl, by go_num, HYV, hE.set y #[.int .i64 y.node, .int .i64 y.boot, .int .i64 y.above, .int .i64 y.pos, .int .i64 y.y.t, .int .i64 y.pos, .slice none 0 0, .int .i64 y.q.f, .int .i64 y.q.g, .slice y.qA y.q.os.length y.qc, .slice none 0 0, .slice none 0 0, .slice none 0 0, .slice none 0 0, .slice y.y.bA y.y.base.length y.y.bc, .int .i64 y.y.t, .slice y.y.oA y.y.ops.length y.y.oc, .slice y.y.uA y.y.us.length y.y.uc, .slice y.y.wA y.y.now.length y.y.wc, .slice y.cA y.l.length y.cc, .int .i64 y.inc, .int .i64 y.mode, .int .i64 y.clock, .int .i64 y.sent, .slice y.pA 0 y.pc, .int .i64 y.late] rfl, hyo.keepB hE hgr, hP.keep hgr (fun e => hmn2.out.2 (Option.some.inj e)), inSl_keep hT hmn2.out.1 hgr, hS.keepD hE hgr, hY.keep hgr (fun e => by have := Option.some.inj e; omega), hy.keepD hE hgr, below_setRow hBq hnw _⟩
              case measure => simp [intOf]; omega
          · by_cases hpl : p < l.length
            · have f4 : decide ((i : Int) < 200) = false := decide_eq_false (by omega)
              have f5 : decide (i < 200) = false := decide_eq_false (by omega)
              have f6 : decide (p < l.length) = true := decide_eq_true hpl
              have f3 : decide ((p : Int) < (l.length : Int)) = true := decide_eq_true (by omega)
              clear hgo hpl
              go_wp2_with fail
              refine (HA _).mono ?_
              rintro e w7 ⟨rfl, hb7⟩
              go_wp2_with fail
              go_ret
              exact ⟨rfl, below_then hBq hb7⟩
            · obtain rfl : p = l.length := by omega
              have HK := Lib.hid (show (vectorD (foD ms l.length)).length = (foC l.length).length by rw [foD_vector])
              obtain ⟨kv, hkv⟩ : ∃ kv, (foC l.length).length = kv := ⟨_, rfl⟩
              rw [hkv] at HK
              have HKV := Lib.hid hkv
              clear hkv hgo hpl hp hi
              have HDR := Lib.hid (foD_r HF.out (show l.length ≤ ms.length by rw [HML.out]; exact Nat.le_refl _))
              have HTK := Lib.hid (show ms.take l.length = ms by rw [← HML.out, List.take_length])
              have HNOW := Lib.hid (show y8.v = (foD ms l.length).y by rw [HY.out]; show foP ms = foP (ms.take l.length); rw [HTK.out])
              go_wp2_with (first | (refine El.load dvRow rfl _ rfl n2 0 rfl z hE.at #[.int .i64 z.node, .int .i64 z.boot, .int .i64 z.above, .int .i64 z.pos, .int .i64 z.y.t, .int .i64 z.pos, .slice none 0 0, .int .i64 z.q.f, .int .i64 z.q.g, .slice z.qA z.q.os.length z.qc, .slice none 0 0, .slice none 0 0, .slice none 0 0, .slice none 0 0, .slice z.y.bA z.y.base.length z.y.bc, .int .i64 z.y.t, .slice z.y.oA z.y.ops.length z.y.oc, .slice z.y.uA z.y.us.length z.y.uc, .slice z.y.wA z.y.now.length z.y.wc, .slice z.cA z.l.length z.cc, .int .i64 z.inc, .int .i64 z.mode, .int .i64 z.clock, .int .i64 z.sent, .slice z.pA 0 z.pc, .int .i64 z.late] rfl ?_) | fail)
              refine (vectorAt H z _ hz HZ.out HDR.out HK.out).mono ?_
              rintro e w5 ⟨A5, c5, rfl, hC, hb5⟩
              replace hE := hE.below hb5
              replace hz := hz.below hb5
              replace hY := hY.below hb5
              replace hy := hy.below hb5
              replace hBq := below_then hBq hb5
              rw [foD_vector] at hC
              clear hb5 HK
              obtain ⟨ks, hks⟩ : ∃ ks, (showV (foD ms l.length).y.now).length = ks := ⟨_, rfl⟩
              have HKS := Lib.hid hks
              go_wp2_with (first | (refine El.load dvRow rfl _ rfl n2 0 rfl z hE.at #[.int .i64 z.node, .int .i64 z.boot, .int .i64 z.above, .int .i64 z.pos, .int .i64 z.y.t, .int .i64 z.pos, .slice none 0 0, .int .i64 z.q.f, .int .i64 z.q.g, .slice z.qA z.q.os.length z.qc, .slice none 0 0, .slice none 0 0, .slice none 0 0, .slice none 0 0, .slice z.y.bA z.y.base.length z.y.bc, .int .i64 z.y.t, .slice z.y.oA z.y.ops.length z.y.oc, .slice z.y.uA z.y.us.length z.y.uc, .slice z.y.wA z.y.now.length z.y.wc, .slice z.cA z.l.length z.cc, .int .i64 z.inc, .int .i64 z.mode, .int .i64 z.clock, .int .i64 z.sent, .slice z.pA 0 z.pc, .int .i64 z.late] rfl ?_) | fail)
              refine (readAt H z _ hz HZ.out HDR.out rfl hks).mono ?_
              rintro e w6 ⟨A6, c6, rfl, hSe, hb6⟩
              replace hE := hE.below hb6
              replace hY := hY.below hb6
              replace hy := hy.below hb6
              replace hC := SlV.below hC hb6
              replace hBq := below_then hBq hb6
              clear hb6 hks hz
              go_wp2_with fail
              refine (HA _).mono ?_
              rintro e w7 ⟨rfl, hb7⟩
              replace hE := hE.below hb7
              replace hY := hY.below hb7
              replace hy := hy.below hb7
              replace hC := SlV.below hC hb7
              replace hSe := SlV.below hSe hb7
              replace hBq := below_then hBq hb7
              clear hb7
              have hpos : z.pos = (l.length : Int) := congrArg Dv.pos HZ.out
              have hlate : z.late = 0 := congrArg Dv.late HZ.out
              have c5' : w7.cell? ⟨n2, 5, none⟩ = some (.int .i64 l.length) := by rw [← hpos]; exact hE.cell 5
              have c25 : w7.cell? ⟨n2, 25, none⟩ = some (.int .i64 0) := by rw [← hlate]; exact hE.cell 25
              have m4 : w7.cell? ⟨n8, 4, none⟩ = some (.slice y8.wA y8.now.length y8.wc) := hY.cell 4
              have hnow : y8.now = (foD ms l.length).y.now := congrArg Pv.now HNOW.out
              have ht : treeB y8.now = true := by rw [hnow]; exact HDR.out.y.ntree
              have HT62 := Lib.hid (tree_len ht)
              have HTS := Lib.hid (fun p (hp : p ∈ y8.now) => (by have := (tree_fit ht p hp).s; omega : p.s.size ≤ 9223372036854775807))
              have HNW := Lib.hid hnow
              clear hpos hlate hnow ht hE hY
              go_wp2_with fail
              refine (refShow_any y8.wA y8.wc y8.now _ (by have := HT62.out; omega) HTS.out hy.w.1).mono ?_
              rintro e w8 ⟨A8, c8, rfl, hS8, _, hb8⟩
              replace hC := SlV.below hC hb8
              replace hSe := SlV.below hSe hb8
              replace hBq := below_then hBq hb8
              clear hb8 c5' c25 m4
              rw [HNW.out] at hS8 ⊢
              obtain ⟨SV, hSV⟩ : ∃ SV, showV (foD ms l.length).y.now = SV := ⟨_, rfl⟩
              have hks2 := HKS.out
              rw [hSV] at hS8 hSe hks2 ⊢
              have hksl : SV.length ≤ 50000 := by
                have h2 : SV.length ≤ 62 := by
                  rw [← hSV]
                  unfold showV
                  by_cases h : treeB (foD ms l.length).y.now = true
                  · rw [if_pos h]; exact Nat.le_trans ((treeP h).below_len _ _) (by rw [← HNW.out]; exact HT62.out)
                  · rw [if_neg h]; exact Nat.zero_le _
                omega
              clear hSV
              subst hks2
              go_wp2_with fail
              refine (sameSe_any A6 A8 c6 c8 SV SV _ hksl hksl hSe.1 hS8.1).mono ?_
              rintro e w9 ⟨b9, rfl, hb9e, hb9⟩
              obtain rfl : b9 = true := hb9e.2 rfl
              replace hC := SlV.below hC hb9
              replace hBq := below_then hBq hb9
              clear hb9 hb9e hS8 hSe hksl
              by_cases h0 : l.length = 0
              · obtain rfl : kv = 0 := by rw [← HKV.out, h0]; rfl
                have f7 : ((l.length : Int) == 0) = true := beq_iff_eq.2 (by omega)
                have f8 : (l.length == 0) = true := beq_iff_eq.2 h0
                have f9 : decide ((l.length : Int) = 0) = true := decide_eq_true (by omega)
                have f10 : decide (l.length = 0) = true := decide_eq_true h0
                clear h0 hC
                go_wp2_with fail
                go_ret
                exact ⟨rfl, hBq⟩
              · obtain ⟨k0, hk0⟩ : ∃ k0, l.length = k0 + 1 := ⟨l.length - 1, by omega⟩
                obtain rfl : kv = 1 := by rw [← HKV.out, hk0]; rfl
                have hC1 : SlV cnE w9 A5 c5 [(⟨2, 1, (l.length : Int)⟩ : Cn)] := by
                  have e : foC l.length = [(⟨2, 1, (l.length : Int)⟩ : Cn)] := by
                    rw [hk0]
                    show [(⟨2, 1, (k0 : Int) + 1⟩ : Cn)] = _
                    rw [show ((k0 + 1 : Nat) : Int) = (k0 : Int) + 1 from by omega]
                  rw [← e]; exact hC
                obtain ⟨b, off, eA5, hbw, hc⟩ := hC1.1 (by show 0 < 1; omega)
                have hat : cnE.At w9 b off (⟨2, 1, (l.length : Int)⟩ : Cn) := by
                  have h := hc 0 (by show 0 < 1; omega)
                  rw [Nat.zero_mul, Nat.add_zero] at h
                  exact h
                obtain ⟨s0, s1, s2⟩ := cnAt3 hat
                have q := run_eqCn
                have hq : cnEq 2 1 (l.length : Int) 2 1 (l.length : Int) = true := decide_eq_true ⟨rfl, rfl, rfl⟩
                have f7 : ((l.length : Int) == 0) = false := beq_eq_false_iff_ne.2 (by omega)
                have f8 : (l.length == 0) = false := beq_eq_false_iff_ne.2 h0
                have f9 : decide ((l.length : Int) = 0) = false := decide_eq_false (by omega)
                have f10 : decide (l.length = 0) = false := decide_eq_false h0
                clear h0 hk0 hC hC1 hc hat hbw
                subst eA5
                go_wp2_with fail
                go_ret
                exact ⟨rfl, hBq⟩
end Go.Proofs.YtdcjffajmckleaaGreatDoor

namespace Go.Proofs.YtdcjffajmckleaaGreatDoor
open Go.ChangeShapes Go.WideShapes Go.ChangeAt Go.RowKit Go.Deep Nam Cod Tre Pst Pln

set_option maxRecDepth 100000 in
theorem follows18_lifted (os : Os) (started : os.Started) (H : Type) (enc : TypeId × Value → H) :
    ReturnsInHanded {} Tryz.checked os 4 .any (fun w args => (Rows.deviceFollowsSpec.pre enc Tryz.prog Tryz.f4 [] false w args ∧ laidMetH Tryz.prog laid3 w) ∧ sizedMet enc Tryz.prog Tryz.f4 (OpenSpec.ofChange Rows.deviceFollowsSpec) false w args) (Rows.deviceFollowsSpec.post enc Tryz.prog Tryz.f4 false true false false) := by
  refine returnsInHanded_of_change_and (C := Tryz.checked) (X := fun w _ => laidMetH Tryz.prog laid3 w) (fun _ _ _ hh h => h.of_heap hh) own started (by kernel_rfl) Tryz.func4
    (ChangeSpec.witness_shaped (enc := enc) (C := Tryz.checked) (os := os) (X := fun w _ => laidMetH Tryz.prog laid3 w) false (World.doorLaid Tryz.prog 24 os) #[.slice none 0 0, .slice none 0 0] 8 rfl (World.shaped_of_RefB (by kernel_rfl) (by kernel_rfl)) (by kernel_rfl) (by kernel_rfl) (by kernel_rfl) (door_met os _)) ?_
  intro W base args ds gs before hval0 hW _ _ hL _
  have hval : ∀ (j : Nat) t v, Tryz.f4.params[j]? = some t → args[j]? = some v → Value.okWide Tryz.prog W .any base t v := hval0
  have hW' := hW
  obtain ⟨p, q, hA0, hV, rfl, _, _⟩ := hW
  have hA : DataW.TrodAll enc Tryz.prog W 0 (fun _ => true) true Tryz.f4.params.toList args.toList ds p := hA0
  rw [Tryz.params4] at hA hval
  obtain ⟨v0, v1, d0, d1, p0, p1, rfl, rfl, rfl, h0, h1⟩ := trodAll_two hA
  obtain ⟨A, c, l, rfl, hT, _, _, hw⟩ := open_ops (hval 0 31 v0 rfl rfl) h0
  obtain ⟨D, dc, ds8, rfl, hD, _, _, hd8⟩ := open_bytes (hval 1 58 v1 rfl rfl) h1
  have hc : Calls Tryz.prog 4 #[.slice A l.length c, .slice D ds8.length dc] W fun e w' => e = .returned (.bool true) ∧ Below W.heap.size W w' := by
    exact follows18_any deviceCalls (fun wx => awake18_any deviceCalls wx) A D c dc ds8.length l W hT (fun m hm => ⟨(hw m hm).1.k, (hw m hm).1.u, Nat.le_trans (hw m hm).2 (by unfold maxLen; omega)⟩) (fun i hi => by
      obtain ⟨b, off, e, hb, hc⟩ := hD (by omega)
      refine ⟨b, off, e, hb, ds8[i], (hd8 _ (List.getElem_mem hi)).1, (hd8 _ (List.getElem_mem hi)).2, ?_⟩
      have h := hc i hi 0 _ rfl
      rw [show off + i * byE.k + 0 = off + i from by show off + i * 1 + 0 = off + i; omega] at h
      exact h)
  refine hc.mono fun e W' ⟨he, hb⟩ => ?_
  subst he
  exact ⟨_, rfl, Frm.law_post (by kernel_rfl) (by kernel_rfl) (by kernel_rfl) Tryz.underlying4 rfl rfl hW' hb⟩

theorem follows18_said : Rows.DeviceFollowsSaid :=
  OpenClaim.holds_of_wide 4 Tryz.f4 rfl rfl rfl rfl rfl rfl rfl ⟨rfl, rfl, rfl, rfl, rfl⟩ rfl rfl rfl rfl rfl (by kernel_rfl) Tryz.func4 (by kernel_rfl)
    (of_decide_eq_true (by kernel_rfl)) (by unfold Func.isWrapper; first | (rw [if_pos (by decide +kernel)]; kernel_rfl) | (rw [if_neg (by decide +kernel)]; exact ⟨rfl, rfl⟩))
    (fun os started H enc _ => follows18_lifted os started H enc)

theorem follows18_holds : Rows.DeviceFollowsCardSaid :=
  Claim7.holds_tied_plain_at .later [] [.data, .data, .data] true (true, "6b440484a0b03d5e31f6d096c8c5accc0fe897dc17eee7afaa4cc962965475ac") false
    (follows18_said) (fun _ h => by cases h) (by kernel_rfl) (fun _ h => by cases h) deviceFollows_row_tie rfl ⟨rfl, rfl⟩ (by kernel_rfl) rfl
    (fun f fn hf hfn => by
      obtain rfl : f = 4 := Option.some.inj ((show Tryz.prog.funcNamed "bargeman/bargemanlaw18.DeviceFollows" = some 4 by kernel_rfl).symm.trans hf) |>.symm
      obtain rfl : fn = Tryz.f4 := (Option.some.inj (Tryz.func4.symm.trans hfn)).symm
      exact ⟨by kernel_rfl, fun j t ht => by
        rw [Tryz.params4] at ht
        have hm : t ∈ [31, 58] := by simpa using Array.mem_of_getElem? ht
        have hall : ([31, 58].all fun u => !Tryz.prog.wantsStandIn u) = true := by kernel_rfl
        exact (show Tryz.prog.wantsStandIn t = false by simpa using List.all_eq_true.1 hall t hm)⟩)
    (by kernel_rfl)
end Go.Proofs.YtdcjffajmckleaaGreatDoor
