/- Texts laid one behind the other: Ql, Qm, Qn, Qo, Qp, Qi. -/
import Derived.Test.YtdkolkjgojamcaaB04
import Derived.Deep.CutRange
import Derived.Deep.CutBlock
/- The program's queues: upTo, Ack, Allow, Out. -/
namespace Go.Proofs.Ytdkolkjgojamcaa
open Go.RowKit Nam Cod

def upQ (x : Qu) (a : Int) : Nat := if a < x.f then 0 else min (a - x.f + 1).toNat x.os.length
theorem upQ_le (x : Qu) (a : Int) : upQ x a ≤ x.os.length := by
  unfold upQ
  split
  · exact Nat.zero_le _
  · omega
theorem ackQ_up (x : Qu) (a : Int) : ackQ x a = ⟨x.f + (upQ x a : Int), x.g, x.os.drop (upQ x a)⟩ := by
  obtain ⟨f, g, os⟩ := x
  unfold ackQ upQ
  dsimp only
  by_cases c : a < f
  · rw [if_pos c, if_pos c]
    congr 1
    omega
  · rw [if_neg c, if_neg c]
    congr 1
    · omega
    · congr 1
      omega
theorem outQ_up (x : Qu) (most : Int) : outQ x most = x.os.take (min (upQ x x.g) (max most 0).toNat) := by
  obtain ⟨f, g, os⟩ := x
  unfold outQ upQ
  dsimp only
  by_cases c : g < f
  · rw [if_pos c, show (min most (g - f + 1)).toNat = 0 by omega, Nat.zero_min]
  · rw [if_neg c]
    by_cases c2 : (min most (g - f + 1)).toNat ≤ os.length
    · congr 1
      omega
    · rw [List.take_of_length_le (by omega), List.take_of_length_le (by omega)]

set_option maxRecDepth 100000 in
set_option maxHeartbeats 2000000 in
theorem upTo_any (y : Qw) (a : Int) (w : World) (hn : QuN y.x) (ha : -1000000000000000 ≤ a ∧ a ≤ 1000000000000000) :
    Calls Try.prog 27 #[.agg #[.int .i64 y.x.f, .int .i64 y.x.g, .slice y.A y.x.os.length y.c], .int .i64 a] w fun r w' => r = .returned (.int .i64 ((upQ y.x a : Nat) : Int)) ∧ Below w.heap.size w w' := by
  have hP : quE.In (w.alloc (.cells #[.int .i64 y.x.f, .int .i64 y.x.g, .slice y.A y.x.os.length y.c] 26)) w.heap.size y := El.In.new (E := quE) w y _ rfl
  have hB := below_alloc (Below.refl w.heap.size w) (.cells #[.int .i64 y.x.f, .int .i64 y.x.g, .slice y.A y.x.os.length y.c] 26)
  obtain ⟨p0, p1, p2⟩ := quIn3 hP
  have hf := hn.f
  have hl := hn.l
  clear hn hP
  by_cases c : a < y.x.f
  · have hu : upQ y.x a = 0 := by unfold upQ; rw [if_pos c]
    rw [hu]
    clear hu
    have f1 : decide (a < y.x.f) = true := decide_eq_true c
    go_enter Try.func27, Try.ntmps27
    go_wp2_with fail
    go_ret
    exact ⟨rfl, hB⟩
  · obtain ⟨d, hd⟩ : ∃ d : Nat, a - y.x.f = d := ⟨(a - y.x.f).toNat, by omega⟩
    have f1 : decide (a < y.x.f) = false := decide_eq_false c
    obtain ⟨u1, h1⟩ : ∃ u1, IntKind.u64.wrap a = u1 := ⟨_, rfl⟩
    obtain ⟨u2, h2⟩ : ∃ u2, IntKind.u64.wrap y.x.f = u2 := ⟨_, rfl⟩
    have f2 : IntKind.u64.wrap (u1 - u2) = (d : Int) := by
      rw [← h1, ← h2]
      show ((a % 18446744073709551616) - (y.x.f % 18446744073709551616)) % 18446744073709551616 = _
      omega
    have f3 : IntKind.u64.wrap (y.x.os.length : Int) = (y.x.os.length : Int) := by
      show (y.x.os.length : Int) % 18446744073709551616 = _
      omega
    by_cases c2 : y.x.os.length ≤ d
    · have hu : upQ y.x a = y.x.os.length := by unfold upQ; rw [if_neg c]; omega
      rw [hu]
      have f4 : decide ((y.x.os.length : Int) ≤ (d : Int)) = true := decide_eq_true (by omega)
      have f5 : decide (y.x.os.length ≤ d) = true := decide_eq_true c2
      clear hd hu c2
      go_enter Try.func27, Try.ntmps27
      go_wp2_with fail
      go_ret
      exact ⟨rfl, hB⟩
    · have hu : upQ y.x a = d + 1 := by unfold upQ; rw [if_neg c]; omega
      rw [hu]
      have f4 : decide ((y.x.os.length : Int) ≤ (d : Int)) = false := decide_eq_false (by omega)
      have f5 : decide (y.x.os.length ≤ d) = false := decide_eq_false c2
      have f6 : IntKind.i64.wrap (d : Int) = (d : Int) := by rw [IntKind.wrap_i64]; omega
      have f7 : IntKind.i64.wrap ((d : Int) + 1) = ((d + 1 : Nat) : Int) := by rw [IntKind.wrap_i64]; omega
      clear hd hu
      go_enter Try.func27, Try.ntmps27
      go_wp2_with fail
      go_ret
      exact ⟨rfl, hB⟩

theorem near_new {B : Nat} {y : Qw} {A : Option Addr} {c : Nat} {x : Qu} (h : Frs B A) : Near B y ⟨A, c, x⟩ := fun _ a' e => Or.inl (h a' e)

set_option maxRecDepth 100000 in
set_option maxHeartbeats 4000000 in
theorem quAck_any (y : Qw) (a : Int) (w : World) (hn : QuN y.x) (ha : -1000000000000000 ≤ a ∧ a ≤ 1000000000000000) (hok : y.ok w) :
    Calls Try.prog 24 #[.agg #[.int .i64 y.x.f, .int .i64 y.x.g, .slice y.A y.x.os.length y.c], .int .i64 a] w fun r w' => ∃ z : Qw, r = .returned (.agg #[.int .i64 z.x.f, .int .i64 z.x.g, .slice z.A z.x.os.length z.c]) ∧ z.x = ackQ y.x a ∧ z.ok w' ∧ Below w.heap.size w w' ∧ Near w.heap.size y z := by
  have CU := Lib.hid (fun (wx : World) => upTo_any y a wx hn ha)
  have hv := ackQ_up y.x a
  have hul := upQ_le y.x a
  generalize upQ y.x a = u at *
  have hf := hn.f
  have hl := hn.l
  have f1 : IntKind.i64.wrap (y.x.f + (u : Int)) = y.x.f + (u : Int) := by rw [IntKind.wrap_i64]; omega
  have hP : quE.In ((w.alloc (.cells #[.int .i64 y.x.f, .int .i64 y.x.g, .slice y.A y.x.os.length y.c] 26)).alloc (.cells #[.int .i64 0, .int .i64 0, .slice none 0 0] 26)) w.heap.size y := (El.In.new (E := quE) w y _ rfl).alloc _
  have hZ := two_quB w #[.int .i64 y.x.f, .int .i64 y.x.g, .slice y.A y.x.os.length y.c] #[.int .i64 0, .int .i64 0, .slice none 0 0] zeroQw rfl
  have hB := below_alloc (below_alloc (Below.refl w.heap.size w) (.cells #[.int .i64 y.x.f, .int .i64 y.x.g, .slice y.A y.x.os.length y.c] 26)) (.cells #[.int .i64 0, .int .i64 0, .slice none 0 0] 26)
  replace hok := hok.below hB
  have HV := Lib.hid hv
  clear hv hn
  go_enter Try.func24, Try.ntmps24
  go_wp2_with (first | (refine El.load quRow rfl _ rfl w.heap.size 0 rfl y hP.at #[.int .i64 y.x.f, .int .i64 y.x.g, .slice y.A y.x.os.length y.c] rfl ?_) | fail)
  refine (CU.out _).mono ?_
  generalize (w.alloc (.cells #[.int .i64 y.x.f, .int .i64 y.x.g, .slice y.A y.x.os.length y.c] 26)).alloc (.cells #[.int .i64 0, .int .i64 0, .slice none 0 0] 26) = W at *
  obtain ⟨n3, h3⟩ : ∃ n, w.heap.size + 1 = n := ⟨_, rfl⟩
  obtain ⟨n1, h1⟩ : ∃ n, w.heap.size = n := ⟨_, rfl⟩
  rw [h3] at hZ ⊢
  rw [h1] at hP ⊢
  rintro r w1 ⟨rfl, hb1⟩
  have hwn1 : w.heap.size ≤ n1 := by omega
  have hwn3 : w.heap.size ≤ n3 := by omega
  have hn13 : n1 ≠ n3 := by omega
  clear h1 h3 CU
  replace hP := hP.below hb1
  replace hZ := hZ.below hb1
  replace hB := below_then hB hb1
  replace hok := hok.below hb1
  clear hb1
  obtain ⟨p0, p1, p2⟩ := quIn3 hP
  have pf := hP.frozen
  go_upto_region 3 with fail
  have hok1 : SlV opE (w1.setCell ⟨n1, 0, none⟩ (.int .i64 (y.x.f + (u : Int)))) y.A y.c y.x.os := SlV.keepO hok (by_cell w1 n1 0 (.int .i64 (y.x.f + (u : Int)))) (qu_off hok.1 hP)
  replace hP := hP.put ⟨y.A, y.c, ⟨y.x.f + (u : Int), y.x.g, y.x.os⟩⟩ 0 (.int .i64 (y.x.f + (u : Int))) rfl
  replace hZ := hZ.other n1 0 (.int .i64 (y.x.f + (u : Int))) hn13.symm
  replace hB := hB.grown (by_cell w1 n1 0 (.int .i64 (y.x.f + (u : Int)))) hB.size (fun k e => by have := Option.some.inj e; omega)
  clear p0 p1 p2 pf hok
  generalize w1.setCell ⟨n1, 0, none⟩ (.int .i64 (y.x.f + (u : Int))) = w2 at *
  obtain ⟨p0, p1, p2⟩ := quIn3 hP
  have pf := hP.frozen
  dsimp only at p0 p1 p2
  obtain ⟨hT, hz, hlc⟩ := hok1
  obtain ⟨A3, hA3⟩ : ∃ A3, (if y.c = u then y.A else Option.map (fun x => x.add (u * 7)) y.A) = A3 := ⟨_, rfl⟩
  have hT3 := hT.drop hlc hA3
  have hz3 := El.drop_none hz hA3
  obtain ⟨X, hX⟩ : ∃ X, y.x.os.drop u = X := ⟨_, rfl⟩
  rw [hX] at hT3
  have hXl : X.length = y.x.os.length - u := by rw [← hX, List.length_drop]
  have CC := cloneOp_any A3 (y.c - u) X w2 (by omega) ⟨hT3, hz3, by omega⟩
  rw [hXl] at CC
  replace CC := Lib.hid CC
  have HX := Lib.hid (show (⟨y.x.f + (u : Int), y.x.g, X⟩ : Qu) = ackQ y.x a by rw [HV.out, hX])
  have HXL := Lib.hid hXl
  have g1 : (u : Int) ≤ (y.c : Int) := by omega
  have g2 : (u : Int) ≤ (y.x.os.length : Int) := by omega
  clear hT hz hX hXl hT3 hz3 HV
  go_wp2_with fail
  refine CC.out.mono ?_
  rintro r w3 ⟨A', c', rfl, hS, hfr, hb2⟩
  have hn1w : n1 < w2.heap.size := hP.lt
  clear CC p0 p1 p2 pf
  replace hP := hP.below hb2
  replace hZ := hZ.below hb2
  replace hfr : Frs w.heap.size A' := hfr.mono hB.size
  replace hB := below_then hB hb2
  clear hb2
  obtain ⟨p0, p1, p2⟩ := quIn3 hP
  have pf := hP.frozen
  dsimp only at p0 p1 p2
  rw [← HXL.out]
  go_upto_region 4 with fail
  have hS1 := SlV.keepO hS (by_cell w3 n1 2 (.slice A' X.length c')) (qu_off hS.1 hP)
  replace hP := hP.put ⟨A', c', ⟨y.x.f + (u : Int), y.x.g, X⟩⟩ 2 (.slice A' X.length c') rfl
  replace hZ := hZ.other n1 2 (.slice A' X.length c') hn13.symm
  replace hB := hB.grown (by_cell w3 n1 2 (.slice A' X.length c')) hB.size (fun k e => by have := Option.some.inj e; omega)
  clear p0 p1 p2 pf hS
  generalize w3.setCell ⟨n1, 2, none⟩ (.slice A' X.length c') = w4 at *
  go_wp2_with (first | (refine El.load quRow rfl _ rfl n1 0 rfl ⟨A', c', ⟨y.x.f + (u : Int), y.x.g, X⟩⟩ hP.at #[.int .i64 (y.x.f + (u : Int)), .int .i64 y.x.g, .slice A' X.length c'] rfl ?_) | (refine El.store quRow rfl _ _ rfl n3 ⟨A', c', ⟨y.x.f + (u : Int), y.x.g, X⟩⟩ #[.int .i64 (y.x.f + (u : Int)), .int .i64 y.x.g, .slice A' X.length c'] rfl rfl rfl zeroQw hZ ?_) | fail)
  refine El.ret1 quRow (hZ.set ⟨A', c', ⟨y.x.f + (u : Int), y.x.g, X⟩⟩ _ rfl) rfl rfl rfl _ rfl ?_
  exact ⟨⟨A', c', ⟨y.x.f + (u : Int), y.x.g, X⟩⟩, rfl, HX.out, SlV.keepO hS1 (by_row _ n3 _) (qu_off hS1.1 hZ), below_setRow hB hwn3 _, near_new hfr⟩

set_option maxRecDepth 100000 in
set_option maxHeartbeats 4000000 in
theorem quAllow_any (y : Qw) (g : Int) (w : World) (hn : QuN y.x) (hok : y.ok w) :
    Calls Try.prog 26 #[.agg #[.int .i64 y.x.f, .int .i64 y.x.g, .slice y.A y.x.os.length y.c], .int .i64 g] w fun r w' => ∃ z : Qw, r = .returned (.agg #[.int .i64 z.x.f, .int .i64 z.x.g, .slice z.A z.x.os.length z.c]) ∧ z.x = allowQ y.x g ∧ z.ok w' ∧ Below w.heap.size w w' ∧ Near w.heap.size y z := by
  have hl := hn.l
  clear hn
  rcases Int.lt_or_le y.x.g g with hm | hm
  · skip
    have CC := Lib.hid (fun (wx : World) (h : y.ok wx) => cloneOp_any y.A y.c y.x.os wx hl h)
    have HV := Lib.hid (show (⟨y.x.f, g, y.x.os⟩ : Qu) = allowQ y.x g by unfold allowQ; rw [show max y.x.g g = g by omega])
    have hmx : max y.x.g g = g := by omega
    have hP : quE.In ((w.alloc (.cells #[.int .i64 y.x.f, .int .i64 (g), .slice y.A y.x.os.length y.c] 26)).alloc (.cells #[.int .i64 0, .int .i64 0, .slice none 0 0] 26)) w.heap.size ⟨y.A, y.c, ⟨y.x.f, g, y.x.os⟩⟩ := (El.In.new (E := quE) w ⟨y.A, y.c, ⟨y.x.f, g, y.x.os⟩⟩ _ rfl).alloc _
    have hZ := two_quB w #[.int .i64 y.x.f, .int .i64 (g), .slice y.A y.x.os.length y.c] #[.int .i64 0, .int .i64 0, .slice none 0 0] zeroQw rfl
    have hB := below_alloc (below_alloc (Below.refl w.heap.size w) (.cells #[.int .i64 y.x.f, .int .i64 (g), .slice y.A y.x.os.length y.c] 26)) (.cells #[.int .i64 0, .int .i64 0, .slice none 0 0] 26)
    have hok1 : y.ok _ := hok.below hB
    clear hok
    go_enter Try.func26, Try.ntmps26
    go_wp2_with (fail)
    generalize (w.alloc (.cells #[.int .i64 y.x.f, .int .i64 (g), .slice y.A y.x.os.length y.c] 26)).alloc (.cells #[.int .i64 0, .int .i64 0, .slice none 0 0] 26) = w2 at *
    obtain ⟨n3, h3⟩ : ∃ n, w.heap.size + 1 = n := ⟨_, rfl⟩
    obtain ⟨n1, h1⟩ : ∃ n, w.heap.size = n := ⟨_, rfl⟩
    rw [h3] at hZ ⊢
    rw [h1] at hP ⊢
    have hwn1 : w.heap.size ≤ n1 := by omega
    have hwn3 : w.heap.size ≤ n3 := by omega
    have hn13 : n1 ≠ n3 := by omega
    clear h1 h3
    refine (CC.out _ hok1).mono ?_
    rintro r w3 ⟨A', c', rfl, hS, hfr, hb2⟩
    have hn1w : n1 < w2.heap.size := hP.lt
    clear CC hok1
    replace hP := hP.below hb2
    replace hZ := hZ.below hb2
    replace hfr : Frs w.heap.size A' := hfr.mono hB.size
    replace hB := below_then hB hb2
    clear hb2
    obtain ⟨p0, p1, p2⟩ := quIn3 hP
    have pf := hP.frozen
    dsimp only at p0 p1 p2
    go_upto_region 3 with fail
    have hS1 := SlV.keepO hS (by_cell w3 n1 2 (.slice A' y.x.os.length c')) (qu_off hS.1 hP)
    replace hP := hP.put ⟨A', c', ⟨y.x.f, g, y.x.os⟩⟩ 2 (.slice A' y.x.os.length c') rfl
    replace hZ := hZ.other n1 2 (.slice A' y.x.os.length c') hn13.symm
    replace hB := hB.grown (by_cell w3 n1 2 (.slice A' y.x.os.length c')) hB.size (fun k e => by have := Option.some.inj e; omega)
    clear p0 p1 p2 pf hS
    generalize w3.setCell ⟨n1, 2, none⟩ (.slice A' y.x.os.length c') = w4 at *
    go_wp2_with (first | (refine El.load quRow rfl _ rfl n1 0 rfl ⟨A', c', ⟨y.x.f, g, y.x.os⟩⟩ hP.at #[.int .i64 y.x.f, .int .i64 (g), .slice A' y.x.os.length c'] rfl ?_) | (refine El.store quRow rfl _ _ rfl n3 ⟨A', c', ⟨y.x.f, g, y.x.os⟩⟩ #[.int .i64 y.x.f, .int .i64 (g), .slice A' y.x.os.length c'] rfl rfl rfl zeroQw hZ ?_) | fail)
    refine El.ret1 quRow (hZ.set ⟨A', c', ⟨y.x.f, g, y.x.os⟩⟩ _ rfl) rfl rfl rfl _ rfl ?_
    exact ⟨⟨A', c', ⟨y.x.f, g, y.x.os⟩⟩, rfl, HV.out, SlV.keepO hS1 (by_row _ n3 _) (qu_off hS1.1 hZ), below_setRow hB hwn3 _, near_new hfr⟩
  · skip
    have CC := Lib.hid (fun (wx : World) (h : y.ok wx) => cloneOp_any y.A y.c y.x.os wx hl h)
    have HV := Lib.hid (show (⟨y.x.f, y.x.g, y.x.os⟩ : Qu) = allowQ y.x g by unfold allowQ; rw [show max y.x.g g = y.x.g by omega])
    have hmx : max y.x.g g = y.x.g := by omega
    have hP : quE.In ((w.alloc (.cells #[.int .i64 y.x.f, .int .i64 (y.x.g), .slice y.A y.x.os.length y.c] 26)).alloc (.cells #[.int .i64 0, .int .i64 0, .slice none 0 0] 26)) w.heap.size ⟨y.A, y.c, ⟨y.x.f, y.x.g, y.x.os⟩⟩ := (El.In.new (E := quE) w ⟨y.A, y.c, ⟨y.x.f, y.x.g, y.x.os⟩⟩ _ rfl).alloc _
    have hZ := two_quB w #[.int .i64 y.x.f, .int .i64 (y.x.g), .slice y.A y.x.os.length y.c] #[.int .i64 0, .int .i64 0, .slice none 0 0] zeroQw rfl
    have hB := below_alloc (below_alloc (Below.refl w.heap.size w) (.cells #[.int .i64 y.x.f, .int .i64 (y.x.g), .slice y.A y.x.os.length y.c] 26)) (.cells #[.int .i64 0, .int .i64 0, .slice none 0 0] 26)
    have hok1 : y.ok _ := hok.below hB
    clear hok
    go_enter Try.func26, Try.ntmps26
    go_wp2_with (fail)
    generalize (w.alloc (.cells #[.int .i64 y.x.f, .int .i64 (y.x.g), .slice y.A y.x.os.length y.c] 26)).alloc (.cells #[.int .i64 0, .int .i64 0, .slice none 0 0] 26) = w2 at *
    obtain ⟨n3, h3⟩ : ∃ n, w.heap.size + 1 = n := ⟨_, rfl⟩
    obtain ⟨n1, h1⟩ : ∃ n, w.heap.size = n := ⟨_, rfl⟩
    rw [h3] at hZ ⊢
    rw [h1] at hP ⊢
    have hwn1 : w.heap.size ≤ n1 := by omega
    have hwn3 : w.heap.size ≤ n3 := by omega
    have hn13 : n1 ≠ n3 := by omega
    clear h1 h3
    refine (CC.out _ hok1).mono ?_
    rintro r w3 ⟨A', c', rfl, hS, hfr, hb2⟩
    have hn1w : n1 < w2.heap.size := hP.lt
    clear CC hok1
    replace hP := hP.below hb2
    replace hZ := hZ.below hb2
    replace hfr : Frs w.heap.size A' := hfr.mono hB.size
    replace hB := below_then hB hb2
    clear hb2
    obtain ⟨p0, p1, p2⟩ := quIn3 hP
    have pf := hP.frozen
    dsimp only at p0 p1 p2
    go_upto_region 3 with fail
    have hS1 := SlV.keepO hS (by_cell w3 n1 2 (.slice A' y.x.os.length c')) (qu_off hS.1 hP)
    replace hP := hP.put ⟨A', c', ⟨y.x.f, y.x.g, y.x.os⟩⟩ 2 (.slice A' y.x.os.length c') rfl
    replace hZ := hZ.other n1 2 (.slice A' y.x.os.length c') hn13.symm
    replace hB := hB.grown (by_cell w3 n1 2 (.slice A' y.x.os.length c')) hB.size (fun k e => by have := Option.some.inj e; omega)
    clear p0 p1 p2 pf hS
    generalize w3.setCell ⟨n1, 2, none⟩ (.slice A' y.x.os.length c') = w4 at *
    go_wp2_with (first | (refine El.load quRow rfl _ rfl n1 0 rfl ⟨A', c', ⟨y.x.f, y.x.g, y.x.os⟩⟩ hP.at #[.int .i64 y.x.f, .int .i64 (y.x.g), .slice A' y.x.os.length c'] rfl ?_) | (refine El.store quRow rfl _ _ rfl n3 ⟨A', c', ⟨y.x.f, y.x.g, y.x.os⟩⟩ #[.int .i64 y.x.f, .int .i64 (y.x.g), .slice A' y.x.os.length c'] rfl rfl rfl zeroQw hZ ?_) | fail)
    refine El.ret1 quRow (hZ.set ⟨A', c', ⟨y.x.f, y.x.g, y.x.os⟩⟩ _ rfl) rfl rfl rfl _ rfl ?_
    exact ⟨⟨A', c', ⟨y.x.f, y.x.g, y.x.os⟩⟩, rfl, HV.out, SlV.keepO hS1 (by_row _ n3 _) (qu_off hS1.1 hZ), below_setRow hB hwn3 _, near_new hfr⟩

theorem SlV.cutO {w : World} {A : Option Addr} {c : Nat} {l : List Mv} {m : Nat} (h : SlV opE w A c l) (hm : m ≤ l.length) : SlV opE w A c (l.take m) := ⟨h.1.take m, h.2.1, by rw [List.length_take]; have := h.2.2; omega⟩
set_option maxRecDepth 100000 in
set_option maxHeartbeats 4000000 in
theorem quOut_any (y : Qw) (most : Int) (w : World) (hn : QuN y.x) (hok : y.ok w) :
    Calls Try.prog 17 #[.agg #[.int .i64 y.x.f, .int .i64 y.x.g, .slice y.A y.x.os.length y.c], .int .i64 most] w fun r w' => ∃ (A : Option Addr) (c : Nat), r = .returned (.slice A (outQ y.x most).length c) ∧ SlV opE w' A c (outQ y.x most) ∧ Below w.heap.size w w' := by
  have CU := Lib.hid (fun (wx : World) => upTo_any y y.x.g wx hn hn.g)
  have hv := outQ_up y.x most
  have hul := upQ_le y.x y.x.g
  generalize upQ y.x y.x.g = u at *
  have hl := hn.l
  have hlc := hok.2.2
  have hP : quE.In (w.alloc (.cells #[.int .i64 y.x.f, .int .i64 y.x.g, .slice y.A y.x.os.length y.c] 26)) w.heap.size y := El.In.new (E := quE) w y _ rfl
  have hB := below_alloc (Below.refl w.heap.size w) (.cells #[.int .i64 y.x.f, .int .i64 y.x.g, .slice y.A y.x.os.length y.c] 26)
  replace hok := hok.below hB
  obtain ⟨p0, p1, p2⟩ := quIn3 hP
  clear hn
  rcases Int.lt_or_le most 0 with hm | hm
  · have m1 : max most 0 = 0 := by omega
    have m2 : min (u : Int) (0 : Int) = 0 := by omega
    have g1 : (0 : Int) ≤ (y.c : Int) := by omega
    have HV := Lib.hid (show outQ y.x (most) = y.x.os.take (0) by rw [hv]; congr 1; omega)
    obtain ⟨X, hX⟩ : ∃ X, y.x.os.take (0) = X := ⟨_, rfl⟩
    have hXl : X.length = 0 := by rw [← hX, List.length_take]; omega
    have HX := Lib.hid (show outQ y.x (most) = X by rw [HV.out, hX])
    have CC := Lib.hid (fun (wx : World) (h : y.ok wx) => by
      have h2 := SlV.cutO (m := 0) h (by omega)
      rw [hX] at h2
      have h3 := cloneOp_any y.A y.c X wx (by omega) h2
      rw [hXl] at h3
      exact (h3 : Calls Try.prog 28 #[.slice y.A (0) y.c] wx fun e w' => ∃ A' c', e = .returned (.slice A' (0) c') ∧ SlV opE w' A' c' X ∧ Frs wx.heap.size A' ∧ Below wx.heap.size wx w'))
    have HXL := Lib.hid hXl
    clear hX hXl hv HV
    go_enter Try.func17, Try.ntmps17
    go_wp2_with (first | (refine El.load quRow rfl _ rfl w.heap.size 0 rfl y hP.at #[.int .i64 y.x.f, .int .i64 y.x.g, .slice y.A y.x.os.length y.c] rfl ?_) | fail)
    refine (CU.out _).mono ?_
    generalize w.alloc (.cells #[.int .i64 y.x.f, .int .i64 y.x.g, .slice y.A y.x.os.length y.c] 26) = W at *
    obtain ⟨n1, h1⟩ : ∃ n, w.heap.size = n := ⟨_, rfl⟩
    rw [h1] at hP ⊢
    clear h1
    rintro r w1 ⟨rfl, hb1⟩
    replace hP := hP.below hb1
    replace hB := hB.trans (hb1.mono hB.size)
    replace hok := hok.below hb1
    clear hb1 CU p0 p1 p2
    obtain ⟨p0, p1, p2⟩ := quIn3 hP
    go_wp2_with fail
    refine (CC.out _ hok).mono ?_
    rintro r w2 ⟨A', c', rfl, hS, _, hb2⟩
    replace hB := hB.trans (hb2.mono hB.size)
    clear hb2 CC
    go_wp2_with fail
    go_ret
    exact ⟨A', c', by rw [HX.out, HXL.out]; rfl, by rw [HX.out]; exact hS, hB⟩
  · obtain ⟨M, rfl⟩ : ∃ M : Nat, most = M := ⟨most.toNat, by omega⟩
    have m1 : max (M : Int) 0 = (M : Int) := by omega
    rcases Nat.lt_or_ge u M with hW | hW
    · have m2 : min (u : Int) (M : Int) = (u : Int) := by omega
      have g1 : (u : Int) ≤ (y.c : Int) := by omega
      have HV := Lib.hid (show outQ y.x ((M : Int)) = y.x.os.take (u) by rw [hv]; congr 1; omega)
      obtain ⟨X, hX⟩ : ∃ X, y.x.os.take (u) = X := ⟨_, rfl⟩
      have hXl : X.length = u := by rw [← hX, List.length_take]; omega
      have HX := Lib.hid (show outQ y.x ((M : Int)) = X by rw [HV.out, hX])
      have CC := Lib.hid (fun (wx : World) (h : y.ok wx) => by
        have h2 := SlV.cutO (m := u) h (by omega)
        rw [hX] at h2
        have h3 := cloneOp_any y.A y.c X wx (by omega) h2
        rw [hXl] at h3
        exact (h3 : Calls Try.prog 28 #[.slice y.A (u) y.c] wx fun e w' => ∃ A' c', e = .returned (.slice A' (u) c') ∧ SlV opE w' A' c' X ∧ Frs wx.heap.size A' ∧ Below wx.heap.size wx w'))
      have HXL := Lib.hid hXl
      clear hX hXl hv HV
      go_enter Try.func17, Try.ntmps17
      go_wp2_with (first | (refine El.load quRow rfl _ rfl w.heap.size 0 rfl y hP.at #[.int .i64 y.x.f, .int .i64 y.x.g, .slice y.A y.x.os.length y.c] rfl ?_) | fail)
      refine (CU.out _).mono ?_
      generalize w.alloc (.cells #[.int .i64 y.x.f, .int .i64 y.x.g, .slice y.A y.x.os.length y.c] 26) = W at *
      obtain ⟨n1, h1⟩ : ∃ n, w.heap.size = n := ⟨_, rfl⟩
      rw [h1] at hP ⊢
      clear h1
      rintro r w1 ⟨rfl, hb1⟩
      replace hP := hP.below hb1
      replace hB := hB.trans (hb1.mono hB.size)
      replace hok := hok.below hb1
      clear hb1 CU p0 p1 p2
      obtain ⟨p0, p1, p2⟩ := quIn3 hP
      go_wp2_with fail
      refine (CC.out _ hok).mono ?_
      rintro r w2 ⟨A', c', rfl, hS, _, hb2⟩
      replace hB := hB.trans (hb2.mono hB.size)
      clear hb2 CC
      go_wp2_with fail
      go_ret
      exact ⟨A', c', by rw [HX.out, HXL.out]; rfl, by rw [HX.out]; exact hS, hB⟩
    · have m2 : min (u : Int) (M : Int) = (M : Int) := by omega
      have g1 : (M : Int) ≤ (y.c : Int) := by omega
      have HV := Lib.hid (show outQ y.x ((M : Int)) = y.x.os.take (M) by rw [hv]; congr 1; omega)
      obtain ⟨X, hX⟩ : ∃ X, y.x.os.take (M) = X := ⟨_, rfl⟩
      have hXl : X.length = M := by rw [← hX, List.length_take]; omega
      have HX := Lib.hid (show outQ y.x ((M : Int)) = X by rw [HV.out, hX])
      have CC := Lib.hid (fun (wx : World) (h : y.ok wx) => by
        have h2 := SlV.cutO (m := M) h (by omega)
        rw [hX] at h2
        have h3 := cloneOp_any y.A y.c X wx (by omega) h2
        rw [hXl] at h3
        exact (h3 : Calls Try.prog 28 #[.slice y.A (M) y.c] wx fun e w' => ∃ A' c', e = .returned (.slice A' (M) c') ∧ SlV opE w' A' c' X ∧ Frs wx.heap.size A' ∧ Below wx.heap.size wx w'))
      have HXL := Lib.hid hXl
      clear hX hXl hv HV
      go_enter Try.func17, Try.ntmps17
      go_wp2_with (first | (refine El.load quRow rfl _ rfl w.heap.size 0 rfl y hP.at #[.int .i64 y.x.f, .int .i64 y.x.g, .slice y.A y.x.os.length y.c] rfl ?_) | fail)
      refine (CU.out _).mono ?_
      generalize w.alloc (.cells #[.int .i64 y.x.f, .int .i64 y.x.g, .slice y.A y.x.os.length y.c] 26) = W at *
      obtain ⟨n1, h1⟩ : ∃ n, w.heap.size = n := ⟨_, rfl⟩
      rw [h1] at hP ⊢
      clear h1
      rintro r w1 ⟨rfl, hb1⟩
      replace hP := hP.below hb1
      replace hB := hB.trans (hb1.mono hB.size)
      replace hok := hok.below hb1
      clear hb1 CU p0 p1 p2
      obtain ⟨p0, p1, p2⟩ := quIn3 hP
      go_wp2_with fail
      refine (CC.out _ hok).mono ?_
      rintro r w2 ⟨A', c', rfl, hS, _, hb2⟩
      replace hB := hB.trans (hb2.mono hB.size)
      clear hb2 CC
      go_wp2_with fail
      go_ret
      exact ⟨A', c', by rw [HX.out, HXL.out]; rfl, by rw [HX.out]; exact hS, hB⟩
end Go.Proofs.Ytdkolkjgojamcaa

/- The program's queues: Push. -/
namespace Go.Proofs.Ytdkolkjgojamcaa
open Go.RowKit Nam Cod

set_option maxRecDepth 100000 in
set_option maxHeartbeats 4000000 in
theorem quPush_any (y : Qw) (o : Mv) (w : World) (hn : QuN y.x) (hok : y.ok w) :
    Calls Try.prog 25 #[.agg #[.int .i64 y.x.f, .int .i64 y.x.g, .slice y.A y.x.os.length y.c], .agg #[.int .i64 o.C, .int .i64 o.D, .int .i64 o.I, .int .i64 o.M, .int .i64 o.K, .int .i64 o.U, .string o.s]] w fun r w' => ∃ z : Qw, r = .returned (.agg #[.int .i64 z.x.f, .int .i64 z.x.g, .slice z.A z.x.os.length z.c]) ∧ z.x = pushQ y.x o ∧ z.ok w' ∧ Below w.heap.size w w' ∧ Near w.heap.size y z := by
  have hl := hn.l
  clear hn
  have hP : quE.In (((w.alloc (.cells #[.int .i64 y.x.f, .int .i64 y.x.g, .slice y.A y.x.os.length y.c] 26)).alloc (.cells #[.int .i64 o.C, .int .i64 o.D, .int .i64 o.I, .int .i64 o.M, .int .i64 o.K, .int .i64 o.U, .string o.s] 35)).alloc (.cells #[.int .i64 0, .int .i64 0, .slice none 0 0] 26)) w.heap.size y := ((El.In.new (E := quE) w y _ rfl).alloc _).alloc _
  have hE : opE.In (((w.alloc (.cells #[.int .i64 y.x.f, .int .i64 y.x.g, .slice y.A y.x.os.length y.c] 26)).alloc (.cells #[.int .i64 o.C, .int .i64 o.D, .int .i64 o.I, .int .i64 o.M, .int .i64 o.K, .int .i64 o.U, .string o.s] 35)).alloc (.cells #[.int .i64 0, .int .i64 0, .slice none 0 0] 26)) (w.alloc (.cells #[.int .i64 y.x.f, .int .i64 y.x.g, .slice y.A y.x.os.length y.c] 26)).heap.size o := (El.In.new (E := opE) (w.alloc (.cells #[.int .i64 y.x.f, .int .i64 y.x.g, .slice y.A y.x.os.length y.c] 26)) o _ rfl).alloc _
  have hZ : quE.In (((w.alloc (.cells #[.int .i64 y.x.f, .int .i64 y.x.g, .slice y.A y.x.os.length y.c] 26)).alloc (.cells #[.int .i64 o.C, .int .i64 o.D, .int .i64 o.I, .int .i64 o.M, .int .i64 o.K, .int .i64 o.U, .string o.s] 35)).alloc (.cells #[.int .i64 0, .int .i64 0, .slice none 0 0] 26)) ((w.alloc (.cells #[.int .i64 y.x.f, .int .i64 y.x.g, .slice y.A y.x.os.length y.c] 26)).alloc (.cells #[.int .i64 o.C, .int .i64 o.D, .int .i64 o.I, .int .i64 o.M, .int .i64 o.K, .int .i64 o.U, .string o.s] 35)).heap.size zeroQw := El.In.new (E := quE) ((w.alloc (.cells #[.int .i64 y.x.f, .int .i64 y.x.g, .slice y.A y.x.os.length y.c] 26)).alloc (.cells #[.int .i64 o.C, .int .i64 o.D, .int .i64 o.I, .int .i64 o.M, .int .i64 o.K, .int .i64 o.U, .string o.s] 35)) zeroQw _ rfl
  rw [alloc_size] at hE
  rw [alloc_size, alloc_size] at hZ
  have hB := below_alloc (below_alloc (below_alloc (Below.refl w.heap.size w) (.cells #[.int .i64 y.x.f, .int .i64 y.x.g, .slice y.A y.x.os.length y.c] 26)) (.cells #[.int .i64 o.C, .int .i64 o.D, .int .i64 o.I, .int .i64 o.M, .int .i64 o.K, .int .i64 o.U, .string o.s] 35)) (.cells #[.int .i64 0, .int .i64 0, .slice none 0 0] 26)
  replace hok := hok.below hB
  have hVs : (((w.alloc (.cells #[.int .i64 y.x.f, .int .i64 y.x.g, .slice y.A y.x.os.length y.c] 26)).alloc (.cells #[.int .i64 o.C, .int .i64 o.D, .int .i64 o.I, .int .i64 o.M, .int .i64 o.K, .int .i64 o.U, .string o.s] 35)).alloc (.cells #[.int .i64 0, .int .i64 0, .slice none 0 0] 26)).heap.size = w.heap.size + 1 + 1 + 1 := by rw [alloc_size, alloc_size, alloc_size]
  go_enter Try.func25, Try.ntmps25
  go_wp2_with fail
  generalize ((w.alloc (.cells #[.int .i64 y.x.f, .int .i64 y.x.g, .slice y.A y.x.os.length y.c] 26)).alloc (.cells #[.int .i64 o.C, .int .i64 o.D, .int .i64 o.I, .int .i64 o.M, .int .i64 o.K, .int .i64 o.U, .string o.s] 35)).alloc (.cells #[.int .i64 0, .int .i64 0, .slice none 0 0] 26) = V at *
  obtain ⟨n3, h3⟩ : ∃ n, w.heap.size + 1 + 1 = n := ⟨_, rfl⟩
  obtain ⟨n2, h2⟩ : ∃ n, w.heap.size + 1 = n := ⟨_, rfl⟩
  obtain ⟨n1, h1⟩ : ∃ n, w.heap.size = n := ⟨_, rfl⟩
  rw [h3] at hZ hVs ⊢
  rw [h2] at hE ⊢
  rw [h1] at hP ⊢
  have hwn1 : w.heap.size ≤ n1 := by omega
  have hwn3 : w.heap.size ≤ n3 := by omega
  have hn13 : n1 ≠ n3 := by omega
  clear h1 h2 h3
  have hb1 := below_alloc (Below.refl V.heap.size V) (.cells #[.int .i64 o.C, .int .i64 o.D, .int .i64 o.I, .int .i64 o.M, .int .i64 o.K, .int .i64 o.U, .string o.s] 35)
  have hT : opE.Sl (V.alloc (.cells #[.int .i64 o.C, .int .i64 o.D, .int .i64 o.I, .int .i64 o.M, .int .i64 o.K, .int .i64 o.U, .string o.s] 35)) (some ⟨V.heap.size, 0, none⟩) [o] := (El.In.new (E := opE) V o _ rfl).sl
  have hVs2 : (V.alloc (.cells #[.int .i64 o.C, .int .i64 o.D, .int .i64 o.I, .int .i64 o.M, .int .i64 o.K, .int .i64 o.U, .string o.s] 35)).heap.size = n3 + 1 + 1 := by rw [alloc_size, hVs]
  have hb2 := below_alloc hb1 (.cells #[.slice y.A y.x.os.length y.c, .slice (some ⟨V.heap.size, 0, none⟩) 1 1] 24)
  have hT2 := hT.below (below_alloc (Below.refl _ (V.alloc (.cells #[.int .i64 o.C, .int .i64 o.D, .int .i64 o.I, .int .i64 o.M, .int .i64 o.K, .int .i64 o.U, .string o.s] 35))) (.cells #[.slice y.A y.x.os.length y.c, .slice (some ⟨V.heap.size, 0, none⟩) 1 1] 24))
  have hok2 := hok.below hb2
  have hcells : ∀ j, j < 2 → ((V.alloc (.cells #[.int .i64 o.C, .int .i64 o.D, .int .i64 o.I, .int .i64 o.M, .int .i64 o.K, .int .i64 o.U, .string o.s] 35)).alloc (.cells #[.slice y.A y.x.os.length y.c, .slice (some ⟨V.heap.size, 0, none⟩) 1 1] 24)).cell? ⟨(V.alloc (.cells #[.int .i64 o.C, .int .i64 o.D, .int .i64 o.I, .int .i64 o.M, .int .i64 o.K, .int .i64 o.U, .string o.s] 35)).heap.size, j, none⟩ = some (.slice (pickQ y.A (some ⟨V.heap.size, 0, none⟩) j) (pickQ y.x.os [o] j).length (pickQ y.c 1 j)) := fun j hj => by
    match j, hj with
    | 0, _ => show _ = some (Value.slice y.A y.x.os.length y.c); go_simp
    | 1, _ => show _ = some (Value.slice (some ⟨V.heap.size, 0, none⟩) 1 1); go_simp
  have hcat : catE (pickQ y.x.os [o]) 2 = y.x.os ++ [o] := by
    show ([] ++ y.x.os) ++ [o] = _
    rw [List.nil_append]
  have CC := concatQ2_any (V.alloc (.cells #[.int .i64 o.C, .int .i64 o.D, .int .i64 o.I, .int .i64 o.M, .int .i64 o.K, .int .i64 o.U, .string o.s] 35)).heap.size (pickQ y.x.os [o]) (pickQ y.A (some ⟨V.heap.size, 0, none⟩)) (pickQ y.c 1) _ hcells
    (fun j hj => by
      match j, hj with
      | 0, _ => exact hok2.1
      | 1, _ => exact hT2)
    (fun j hj => by
      match j, hj with
      | 0, _ => exact hok2.2.1
      | 1, _ => exact fun e => by cases e)
    (by rw [hcat, List.length_append, List.length_singleton]; omega) (by rw [alloc_size (V.alloc (.cells #[.int .i64 o.C, .int .i64 o.D, .int .i64 o.I, .int .i64 o.M, .int .i64 o.K, .int .i64 o.U, .string o.s] 35))]; omega)
  rw [hcat, hVs2, hVs] at CC
  replace CC := Lib.hid CC
  replace hb1 := hb2
  replace hB := below_then hB hb2
  clear hcells hcat hok2 hT2 hT hok hVs2
  obtain ⟨p0, p1, p2⟩ := quIn3 hP
  go_wp2_with (first | (refine El.load opRow rfl _ rfl n2 0 rfl o hE.at #[.int .i64 o.C, .int .i64 o.D, .int .i64 o.I, .int .i64 o.M, .int .i64 o.K, .int .i64 o.U, .string o.s] rfl ?_) | fail)
  refine CC.out.mono ?_
  rintro r w3 ⟨A', c', rfl, hS, hfr, hb3⟩
  clear CC p0 p1 p2 hb2
  rw [← hVs] at hb3
  have hfr' : Frs w.heap.size A' := hfr.mono (by rw [alloc_size, alloc_size, hVs]; omega)
  obtain ⟨X, hX⟩ : ∃ X, y.x.os ++ [o] = X := ⟨_, rfl⟩
  rw [hX] at hS ⊢
  have HX := Lib.hid (show (⟨y.x.f, y.x.g, X⟩ : Qu) = pushQ y.x o by rw [← hX]; rfl)
  clear hX hfr
  replace hP := (hP.below hb1).below hb3
  replace hZ := (hZ.below hb1).below hb3
  replace hB := below_then hB hb3
  clear hb1 hb3 hVs hE
  obtain ⟨p0, p1, p2⟩ := quIn3 hP
  have pf := hP.frozen
  go_upto_region 2 with fail
  have hS1 := SlV.keepO hS (by_cell w3 n1 2 (.slice A' X.length c')) (qu_off hS.1 hP)
  replace hP := hP.put ⟨A', c', ⟨y.x.f, y.x.g, X⟩⟩ 2 (.slice A' X.length c') rfl
  replace hZ := hZ.other n1 2 (.slice A' X.length c') hn13.symm
  replace hB := hB.grown (by_cell w3 n1 2 (.slice A' X.length c')) hB.size (fun k e => by have := Option.some.inj e; omega)
  clear p0 p1 p2 pf hS
  generalize w3.setCell ⟨n1, 2, none⟩ (.slice A' X.length c') = w4 at *
  go_wp2_with (first | (refine El.load quRow rfl _ rfl n1 0 rfl ⟨A', c', ⟨y.x.f, y.x.g, X⟩⟩ hP.at #[.int .i64 y.x.f, .int .i64 y.x.g, .slice A' X.length c'] rfl ?_) | (refine El.store quRow rfl _ _ rfl n3 ⟨A', c', ⟨y.x.f, y.x.g, X⟩⟩ #[.int .i64 y.x.f, .int .i64 y.x.g, .slice A' X.length c'] rfl rfl rfl zeroQw hZ ?_) | fail)
  refine El.ret1 quRow (hZ.set ⟨A', c', ⟨y.x.f, y.x.g, X⟩⟩ _ rfl) rfl rfl rfl _ rfl ?_
  exact ⟨⟨A', c', ⟨y.x.f, y.x.g, X⟩⟩, rfl, HX.out, SlV.keepO hS1 (by_row _ n3 _) (qu_off hS1.1 hZ), below_setRow hB hwn3 _, near_new hfr'⟩
end Go.Proofs.Ytdkolkjgojamcaa

/- The program's queues: Print. -/
namespace Go.Proofs.Ytdkolkjgojamcaa
open Go.RowKit Nam Cod

set_option maxRecDepth 100000 in
set_option maxHeartbeats 4000000 in
theorem quPrint_any (y : Qw) (w : World) (hn : QuN y.x) (hok : y.ok w) (hw : okW y.x.os) :
    Calls Try.prog 20 #[.agg #[.int .i64 y.x.f, .int .i64 y.x.g, .slice y.A y.x.os.length y.c]] w fun r w' => r = .returned (.string (quBytes y.x)) ∧ Below w.heap.size w w' := by
  have hP : quE.In ((w.alloc (.cells #[.int .i64 y.x.f, .int .i64 y.x.g, .slice y.A y.x.os.length y.c] 26)).alloc (.cells #[.pointer none, .slice none 0 0] 58)) w.heap.size y := (El.In.new (E := quE) w y _ rfl).alloc _
  have hbd := builder_new (w.alloc (.cells #[.int .i64 y.x.f, .int .i64 y.x.g, .slice y.A y.x.os.length y.c] 26))
  have hB := below_alloc (below_alloc (Below.refl w.heap.size w) (.cells #[.int .i64 y.x.f, .int .i64 y.x.g, .slice y.A y.x.os.length y.c] 26)) (.cells #[.pointer none, .slice none 0 0] 58)
  have hL : w.heap.size + 1 < ((w.alloc (.cells #[.int .i64 y.x.f, .int .i64 y.x.g, .slice y.A y.x.os.length y.c] 26)).alloc (.cells #[.pointer none, .slice none 0 0] 58)).heap.size := by rw [alloc_size, alloc_size]; omega
  rw [alloc_size] at hbd
  have HT := Lib.hid hok.1
  have HW := Lib.hid hw
  have hs := hn.f
  have ht := hn.g
  have hl := hn.l
  have HWW := Lib.hid (fun o (ho : o ∈ y.x.os) => (⟨(hw o ho).1, by have := (hw o ho).2; omega⟩ : Wide o.C o.D o.I o.M o.K o.U ∧ o.s.size ≤ 1000000))
  have C1 := Lib.hid (fun wx => num_any y.x.f wx (by omega) (by omega))
  have C2 := Lib.hid (fun wx => num_any y.x.g wx (by omega) (by omega))
  have C3 := Lib.hid (fun wx => num_any (y.x.os.length : Int) wx (by omega) (by omega))
  have z1 := bytesOf_le10 (n := y.x.f) (by unfold i64; omega)
  have z2 := bytesOf_le10 (n := y.x.g) (by unfold i64; omega)
  have z3 := bytesOf_le10 (n := (y.x.os.length : Int)) (by unfold i64; omega)
  have HV := Lib.hid (show quBytes y.x = bytesOf y.x.f ++ bytesOf y.x.g ++ bytesOf y.x.os.length ++ opsBytes y.x.os from rfl)
  generalize bytesOf y.x.f = x1 at *
  generalize bytesOf y.x.g = x2 at *
  generalize bytesOf (y.x.os.length : Int) = x3 at *
  clear hn hok hw
  go_enter Try.func20, Try.ntmps20
  go_wp2_with fail
  generalize (w.alloc (.cells #[.int .i64 y.x.f, .int .i64 y.x.g, .slice y.A y.x.os.length y.c] 26)).alloc (.cells #[.pointer none, .slice none 0 0] 58) = W at *
  obtain ⟨nb, hnb⟩ : ∃ n, w.heap.size + 1 = n := ⟨_, rfl⟩
  obtain ⟨n1, hn1⟩ : ∃ n, w.heap.size = n := ⟨_, rfl⟩
  have hne : n1 ≠ nb := by omega
  have hwb : w.heap.size ≤ nb := by omega
  rw [hnb] at hbd hL ⊢
  rw [hn1] at hP ⊢
  clear hn1 hnb
  replace hP : quE.In W.drew n1 y := hP
  replace hbd : Lib.IsBuilder 58 5 nb nb [] W.drew := hbd
  replace hB := hB.drew
  replace hL : nb < W.drew.heap.size := hL
  have y1 : ¬ 9223372036854775807 < x1.size + x2.size := by omega
  have y2 : ¬ 9223372036854775807 < x1.size + x2.size + x3.size := by omega
  go_region_held3 (fun w' => w'.cell? ⟨n1, 0, none⟩ = some (.int .i64 y.x.f) ∧ w'.cell? ⟨n1, 1, none⟩ = some (.int .i64 y.x.g) ∧ w'.cell? ⟨n1, 2, none⟩ = some (.slice y.A y.x.os.length y.c)) (first | exact quIn3 hP) (first | (go_at_call 32; (with_reducible first | refine (C1.out _).mono ?_ | refine (C2.out _).mono ?_ | refine (C3.out _).mono ?_); rintro e w3 ⟨rfl, hb3⟩; replace hP := hP.below hb3; replace hbd := builder_below hbd hb3; replace hB := below_then hB hb3; replace hL := Nat.lt_of_lt_of_le hL hb3.size) | (go_at_call 31; (with_reducible refine (wstr_any _ _ _ _ _ hbd (by simp [ByteArray.size_append]; omega) (Nat.le_of_lt hL)).mono ?_); rintro e w4 ⟨rfl, hbd4, hN4, hr4⟩; replace hP : quE.In w4 n1 y := (hr4 n1 _ _ _ hP hne (by decide)).trans hP; replace hB := hB.trans (hN4.mono hwb)))
  all_goals
    have hX30 : (x1 ++ x2 ++ x3).size ≤ 30 := by rw [ByteArray.size_append, ByteArray.size_append]; omega
    rw [List.nil_append] at hbd4
    generalize x1 ++ x2 ++ x3 = X at *
    have hbd5 : Lib.IsBuilder 58 5 nb nb (Lib.strCells (X ++ opsBytes (y.x.os.take 0))) w4 := by
      rw [List.take_zero, show X ++ opsBytes [] = X from L_inj (by rw [L_app]; show L X ++ L ⟨#[]⟩ = _; simp [L])]
      exact hbd4
    obtain ⟨p0, p1, p2⟩ := quIn3 hP
    clear hbd4 hbd hL C1 C2 C3 z1 z2 z3 y1 y2 hr4 hN4
    go_wp2_with fail
    clear p0 p1 p2 hP
    go_loopw [22] (fun i wr => ∃ k : Nat, k ≤ y.x.os.length ∧ i = .int .i64 k ∧ Lib.IsBuilder 58 5 nb nb (Lib.strCells (X ++ opsBytes (y.x.os.take k))) wr ∧ Below w.heap.size w wr) (fun i _ => y.x.os.length - (intOf i).toNat)
    case atStart => exact ⟨0, Nat.zero_le _, rfl, hbd5, hB⟩
    case round =>
      clear hbd5 hB
      obtain ⟨k, hk, rfl, hbd, hB⟩ := hrel
      have hlt : nb < wr.heap.size := by rcases hbd with h | h <;> exact h.lt
      by_cases hkl : k < y.x.os.length
      · obtain ⟨b, off, eA, hbw, hc⟩ := HT.out (by omega)
        have hx := opIdxH (cap := y.c) eA hkl
        have hat : opE.At wr b (off + k * 7) y.x.os[k] := (hc k hkl).below hB hbw
        obtain ⟨hwd, hsz⟩ := HWW.out y.x.os[k] (List.getElem_mem _)
        have HCN := Lib.hid (show X ++ opsBytes (y.x.os.take (k + 1)) = X ++ opsBytes (y.x.os.take k) ++ y.x.os[k].bytes by rw [opsBytes_next _ k hkl, ByteArray.append_assoc])
        have hle := opsBytes_wide (l := y.x.os.take k) (fun e he => HWW.out e (List.mem_of_mem_take he))
        rw [List.length_take] at hle
        have hxl := mvBytes_le hwd hsz
        have hsm : (X ++ opsBytes (y.x.os.take k)).size ≤ 60000000000 := by rw [ByteArray.size_append]; omega
        generalize y.x.os[k] = x at *
        have HPR := Lib.hid (fun wx => opP_mv x wx hwd hsz)
        generalize X ++ opsBytes (y.x.os.take k) = T at *
        generalize x.bytes = P at *
        have hE : opE.In (wr.alloc (.cells #[.int .i64 x.C, .int .i64 x.D, .int .i64 x.I, .int .i64 x.M, .int .i64 x.K, .int .i64 x.U, .string x.s] 35)) wr.heap.size x := El.In.new (E := opE) wr x _ rfl
        have hal := below_alloc (Below.refl wr.heap.size wr) (.cells #[.int .i64 x.C, .int .i64 x.D, .int .i64 x.I, .int .i64 x.M, .int .i64 x.K, .int .i64 x.U, .string x.s] 35)
        replace hbd := builder_below hbd hal
        replace hB := below_then hB hal
        replace hlt := Nat.lt_of_lt_of_le hlt hal.size
        clear hc eA hwd hle hal
        go_wp2_with (first | (refine El.load opRow rfl _ rfl b (off + k * 7) rfl x hat #[.int .i64 x.C, .int .i64 x.D, .int .i64 x.I, .int .i64 x.M, .int .i64 x.K, .int .i64 x.U, .string x.s] rfl ?_) | (refine El.load opRow rfl _ rfl wr.heap.size 0 rfl x hE.at #[.int .i64 x.C, .int .i64 x.D, .int .i64 x.I, .int .i64 x.M, .int .i64 x.K, .int .i64 x.U, .string x.s] rfl ?_) | fail)
        refine (HPR.out _).mono ?_
        rintro r w2 ⟨rfl, hb2⟩
        replace hbd := builder_below hbd hb2
        replace hB := below_then hB hb2
        replace hlt := Nat.lt_of_lt_of_le hlt hb2.size
        clear hE hat hb2
        go_wp2_with fail
        refine (wstr_any nb nb _ P _ hbd (by simp only [Lib.strCells_length]; omega) (Nat.le_of_lt hlt)).mono ?_
        rintro r w3 ⟨rfl, hbd3, hN3, _⟩
        rw [← strCells_app, ← HCN.out] at hbd3
        replace hB := hB.trans (hN3.mono hwb)
        go_wp2_with fail
        exact ⟨⟨k + 1, by omega, by go_num, hbd3, hB⟩, by simp [intOf]; omega⟩
      · obtain rfl : k = y.x.os.length := by omega
        rw [List.take_length] at hbd
        have C := builder_String_any nb nb (L (X ++ opsBytes y.x.os)) wr hbd (Nat.le_of_lt hlt)
        have he : (⟨(L (X ++ opsBytes y.x.os)).toArray⟩ : ByteArray) = quBytes y.x := by rw [HV.out]; exact back_L _
        rw [he] at C
        have HC := Lib.hid C
        clear C he hbd
        go_wp2_with fail
        refine HC.out.mono ?_
        rintro r w5 ⟨rfl, hb5⟩
        go_wp2_with fail
        go_ret
        exact ⟨rfl, hB.trans (hb5.mono hwb)⟩
end Go.Proofs.Ytdkolkjgojamcaa

/- The program's queues: Read; all calls. -/
namespace Go.Proofs.Ytdkolkjgojamcaa
open Go.RowKit Nam Cod

def cntStepQ (s : ByteArray) (p : Nat) (bad : Bool) (most v : Int) (q : Nat) (bad' : Bool) : Prop := (isCount s p bad most = some (v, q) ∧ bad' = false) ∨ (isCount s p bad most = none ∧ v = 0 ∧ bad' = true)
theorem countQ_uni {w : World} {b p : Nat} {s : ByteArray} {bad : Bool} (most : Int) (hm0 : 0 ≤ most) (hs : s.size ≤ 1000000) (hp : p ≤ s.size) (hr : Rd 46 w b s p bad) :
    Calls Try.prog 39 #[.pointer (some ⟨b, 0, none⟩), .int .i64 most] w fun e w' => ∃ v q bad', e = .returned (.int .i64 v) ∧ Rd 46 w' b s q bad' ∧ q ≤ s.size ∧ w.grownBy w' (some b) ∧ (0 ≤ v ∧ v ≤ most) ∧ cntStepQ s p bad most v q bad' := by
  rcases h : isCount s p bad most with _ | ⟨v, q⟩
  · exact (count_no hs hp hr h).mono fun e w' ⟨he, ⟨q, hq, hr'⟩, hg⟩ => ⟨0, q, true, he, hr', hq, hg, ⟨Int.le_refl _, hm0⟩, Or.inr ⟨h, rfl, rfl⟩⟩
  · obtain ⟨h1, h2⟩ := isCount_some h
    exact (count_yes hs hp hr h).mono fun e w' ⟨he, hr', hg⟩ => ⟨v, q, false, he, hr', (isNum_some h1).2.2.1, hg, h2, Or.inl ⟨h, rfl⟩⟩
theorem isCount_badQ (s : ByteArray) (p : Nat) (m : Int) : isCount s p true m = none := rfl

/-- Nothing is read in the end. -/
def DoomQ (s : ByteArray) (p : Nat) (bad : Bool) (n : Int) : Prop := bad = true ∨ isOps s n.toNat p = none
def opsAt (s : ByteArray) (p : Nat) (bad : Bool) (n : Int) (l : List Mv) (q : Nat) (bd : Bool) : Prop := (bd = false ∧ bad = false ∧ isOps s l.length p = some (l, q)) ∨ (bd = true ∧ DoomQ s p bad n)
def opsStep (s : ByteArray) (p : Nat) (bad : Bool) (n : Int) (l : List Mv) (q : Nat) (bd : Bool) : Prop := (bd = false ∧ bad = false ∧ isOps s n.toNat p = some (l, q)) ∨ (bd = true ∧ DoomQ s p bad n)
theorem opsAt.next {s : ByteArray} {p : Nat} {bad : Bool} {n : Int} {l : List Mv} {q : Nat} (h : opsAt s p bad n l q false) (hl : (l.length : Int) < n) {x : Mv} {q2 : Nat} {b2 : Bool} (he : opStep s q false x q2 b2) : opsAt s p bad n (l ++ [x]) q2 b2 := by
  rcases h with ⟨_, h1, h4⟩ | ⟨h, _⟩
  · have hn := isOps_next s l.length p
    rw [h4, Option.bind_some] at hn
    dsimp only at hn
    rcases he with ⟨he, rfl⟩ | ⟨he, _, rfl⟩
    · rw [he, Option.bind_some] at hn
      exact Or.inl ⟨rfl, h1, by rw [List.length_append, List.length_singleton]; exact hn⟩
    · rw [he] at hn
      refine Or.inr ⟨rfl, Or.inr ?_⟩
      have hd := isOps_none s p (l.length + 1) hn (n.toNat - (l.length + 1))
      rw [show l.length + 1 + (n.toNat - (l.length + 1)) = n.toNat by omega] at hd
      exact hd
  · cases h
theorem opsAt.start {s : ByteArray} {p : Nat} {bad : Bool} {n : Int} : opsAt s p bad n [] p bad := by
  cases bad
  · exact Or.inl ⟨rfl, rfl, rfl⟩
  · exact Or.inr ⟨rfl, Or.inl rfl⟩
theorem opsAt.good {s : ByteArray} {p : Nat} {bad : Bool} {n : Int} {l : List Mv} {q : Nat} (h : opsAt s p bad n l q false) (hl : ¬ (l.length : Int) < n) (hl2 : (l.length : Int) ≤ n) : opsStep s p bad n l q false := by
  rcases h with ⟨_, h1, h4⟩ | ⟨h, _⟩
  · exact Or.inl ⟨rfl, h1, by rw [show n.toNat = l.length by omega]; exact h4⟩
  · cases h
theorem opsAt.ill {s : ByteArray} {p : Nat} {bad : Bool} {n : Int} {l : List Mv} {q : Nat} (h : opsAt s p bad n l q true) : opsStep s p bad n l q true := by
  rcases h with ⟨h, _⟩ | ⟨_, h⟩
  · cases h
  · exact Or.inr ⟨rfl, h⟩
theorem by_ownQ {a w w' : World} {b : Nat} {row : Option Nat} (h : a.grownBy w (some b)) (g : w.grownBy w' row) (hrow : ∀ k, row = some k → a.heap.size ≤ k) : a.grownBy w' (some b) :=
  ⟨g.os.trans h.os, g.tape.trans h.tape, g.output.trans h.output, Nat.le_trans h.size g.size, fun k hk hne =>
    (g.block k (Nat.lt_of_lt_of_le hk h.size) (fun e => by have := hrow k e.symm; omega)).trans (h.block k hk hne)⟩
def lenQ : Value → Nat
  | .slice _ n _ => n
  | _ => 0
theorem own_lenQ {w : World} {B : Nat} {v : Value} {l : List Mv} (h : opE.Own w B v l) : lenQ v = l.length := by
  obtain ⟨A, c, rfl, _⟩ := SlV.own h
  rfl

set_option maxRecDepth 100000 in
set_option maxHeartbeats 4000000 in
theorem quReadOps_uni {w : World} {b p : Nat} {s : ByteArray} {bad : Bool} (n : Int) (hn : 0 ≤ n ∧ n ≤ 4096) (hs : s.size ≤ 1000000) (hp : p ≤ s.size) (hr : Rd 46 w b s p bad) :
    Calls Try.prog 38 #[.pointer (some ⟨b, 0, none⟩), .int .i64 n] w fun r w' => ∃ (A : Option Addr) (c : Nat) (l : List Mv) (q : Nat) (bad' : Bool), r = .returned (.slice A l.length c) ∧ SlV opE w' A c l ∧ Rd 46 w' b s q bad' ∧ q ≤ s.size ∧ w.grownBy w' (some b) ∧ opsStep s p bad n l q bad' := by
  have hbw := hr.lt
  have hGw := by_below (Below.refl w.heap.size w) (some b)
  have HS := Lib.hid (opsAt.start (s := s) (p := p) (bad := bad) (n := n))
  have HNN := Lib.hid hn
  go_enter Try.func38, Try.ntmps38
  go_wp2_with fail
  go_loopw [5] (fun x wr => ∃ (v : Value) (l : List Mv) (q : Nat) (bd : Bool), x = v ∧ opE.Own wr w.heap.size v l ∧ Hid (l.length ≤ 4096 ∧ (l.length : Int) ≤ n) ∧ Rd 46 wr b s q bd ∧ q ≤ s.size ∧ w.grownBy wr (some b) ∧ Hid (opsAt s p bad n l q bd)) (fun x _ => n.toNat - lenQ x)
  case atStart => exact ⟨_, [], p, bad, rfl, El.Own.nil w w.heap.size, Lib.hid ⟨by decide, by rw [List.length_nil]; exact hn.1⟩, hr, hp, hGw, HS⟩
  case round =>
    clear hr hGw HS hn
    obtain ⟨v, l, q, bd, rfl, hO, hl, hR, hq, hG, HS⟩ := hrel
    have hlv := own_lenQ hO
    obtain ⟨A, c, rfl, hS⟩ := SlV.own hO
    obtain ⟨r0, r1, r2⟩ := hR.cells
    cases bd
    · by_cases hlt : (l.length : Int) < n
      · have hle : l.length + 1 ≤ 4096 ∧ (l.length : Int) + 1 ≤ n := by have := HNN.out; exact ⟨by omega, by omega⟩
        have HLE := Lib.hid hle
        have f5 : decide ((l.length : Int) < n) = true := decide_eq_true hlt
        have CR := opRead_uni hs hq hR
        have HLT := Lib.hid hlt
        clear hle hS hlv hlt
        go_wp2_with fail
        refine CR.mono ?_
        clear CR hR r0 r1 r2 f5
        rintro e w3 ⟨x, q2, b2, rfl, hR, hq2, hg3, hst⟩
        have HN := Lib.hid (HS.out.next HLT.out hst)
        replace hO := hO.kept hg3 (Or.inr (fun e => by have := (hO.lt b e).1; omega))
        replace hG := by_trans hG hg3
        have hb4 := below_alloc (Below.refl _ w3) (.cells #[.int .i64 x.C, .int .i64 x.D, .int .i64 x.I, .int .i64 x.M, .int .i64 x.K, .int .i64 x.U, .string x.s] 35)
        have hE : opE.Sl (w3.alloc (.cells #[.int .i64 x.C, .int .i64 x.D, .int .i64 x.I, .int .i64 x.M, .int .i64 x.K, .int .i64 x.U, .string x.s] 35)) (some ⟨w3.heap.size, 0, none⟩) [x] := (El.In.new (E := opE) w3 x _ rfl).sl
        replace hO := hO.below hb4
        replace hR := hR.below hb4
        replace hG := by_trans hG (by_below hb4 _)
        have hB := hG.size
        clear hg3 hb4 hst
        go_wp2_with (at_builtin; refine El.wpList_app opInn rfl _ _ rfl w.heap.size _ l [x] rfl hO (some ⟨w3.heap.size, 0, none⟩) 1 1 rfl rfl hE (fun e => by cases e) (by have := HLE.out.1; rw [List.length_singleton]; omega) hB ?_; intro v' w5 hO5 hg5 _)
        replace hR := hR.keep hg5 (fun e => by have := (hO.lt b e.symm).1; omega)
        replace hG := by_ownQ hG hg5 (fun k e => (hO.lt k e).1)
        have hlv5 := own_lenQ hO5
        rw [List.length_append, List.length_singleton] at hlv5
        go_wp2
        go_roundw
        case rel => exact ⟨v', l ++ [x], q2, b2, rfl, hO5, Lib.hid (by rw [List.length_append, List.length_singleton]; have := HLE.out; omega), hR, hq2, hG, HN⟩
        case measure =>
          have h1 := HLE.out
          show n.toNat - lenQ v' < n.toNat - l.length
          omega
      · have HG := Lib.hid (HS.out.good hlt hl.out.2)
        have f5 : decide ((l.length : Int) < n) = false := decide_eq_false hlt
        clear hlv hlt hO
        go_wp2_with fail
        go_ret
        exact ⟨A, c, l, q, false, rfl, hS, hR, hq, hG, HG.out⟩
    · have HI := Lib.hid HS.out.ill
      by_cases hlt : (l.length : Int) < n
      · have f5 : decide ((l.length : Int) < n) = true := decide_eq_true hlt
        clear hlv hlt hO
        go_wp2_with fail
        go_ret
        exact ⟨A, c, l, q, true, rfl, hS, hR, hq, hG, HI.out⟩
      · have f5 : decide ((l.length : Int) < n) = false := decide_eq_false hlt
        clear hlv hlt hO
        go_wp2_with fail
        go_ret
        exact ⟨A, c, l, q, true, rfl, hS, hR, hq, hG, HI.out⟩

def numsQ (f g : Int) : Prop := 1 ≤ f ∧ f ≤ 1099511627776 ∧ 0 ≤ g ∧ g ≤ 1099511627776
set_option maxRecDepth 100000 in
theorem quRightNumbers_no (y : Qw) (w : World) (hR : ¬ numsQ y.x.f y.x.g) : Calls Try.prog 29 #[.agg #[.int .i64 y.x.f, .int .i64 y.x.g, .slice y.A y.x.os.length y.c]] w fun r w' => r = .returned (.bool false) ∧ Below w.heap.size w w' := by
  have hP : quE.In (w.alloc (.cells #[.int .i64 y.x.f, .int .i64 y.x.g, .slice y.A y.x.os.length y.c] 26)) w.heap.size y := El.In.new (E := quE) w y _ rfl
  have hB := below_alloc (Below.refl w.heap.size w) (.cells #[.int .i64 y.x.f, .int .i64 y.x.g, .slice y.A y.x.os.length y.c] 26)
  obtain ⟨p0, p1, p2⟩ := quIn3 hP
  by_cases c1 : 1 ≤ y.x.f
  · have f1 : decide (1 ≤ y.x.f) = true := decide_eq_true c1
    by_cases c2 : y.x.f ≤ 1099511627776
    · have f2 : decide (y.x.f ≤ 1099511627776) = true := decide_eq_true c2
      by_cases c3 : 0 ≤ y.x.g
      · have f3 : decide (0 ≤ y.x.g) = true := decide_eq_true c3
        have f4 : decide (y.x.g ≤ 1099511627776) = false := decide_eq_false (fun h => hR ⟨c1, c2, c3, h⟩)
        clear hR
        go_enter Try.func29, Try.ntmps29
        go_wp2_with fail
        go_ret
        exact ⟨rfl, hB⟩
      · have f3 : decide (0 ≤ y.x.g) = false := decide_eq_false c3
        clear hR
        go_enter Try.func29, Try.ntmps29
        go_wp2_with fail
        go_ret
        exact ⟨rfl, hB⟩
    · have f2 : decide (y.x.f ≤ 1099511627776) = false := decide_eq_false c2
      clear hR
      go_enter Try.func29, Try.ntmps29
      go_wp2_with fail
      go_ret
      exact ⟨rfl, hB⟩
  · have f1 : decide (1 ≤ y.x.f) = false := decide_eq_false c1
    clear hR
    go_enter Try.func29, Try.ntmps29
    go_wp2_with fail
    go_ret
    exact ⟨rfl, hB⟩
set_option maxRecDepth 100000 in
theorem quRightNumbers_in (y : Qw) (w : World) (hR : numsQ y.x.f y.x.g) : Calls Try.prog 29 #[.agg #[.int .i64 y.x.f, .int .i64 y.x.g, .slice y.A y.x.os.length y.c]] w fun r w' => r = .returned (.bool true) ∧ Below w.heap.size w w' := by
  have hP : quE.In (w.alloc (.cells #[.int .i64 y.x.f, .int .i64 y.x.g, .slice y.A y.x.os.length y.c] 26)) w.heap.size y := El.In.new (E := quE) w y _ rfl
  have hB := below_alloc (Below.refl w.heap.size w) (.cells #[.int .i64 y.x.f, .int .i64 y.x.g, .slice y.A y.x.os.length y.c] 26)
  obtain ⟨p0, p1, p2⟩ := quIn3 hP
  obtain ⟨c1, c2, c3, c4⟩ := hR
  have f1 : decide (1 ≤ y.x.f) = true := decide_eq_true c1
  have f2 : decide (y.x.f ≤ 1099511627776) = true := decide_eq_true c2
  have f3 : decide (0 ≤ y.x.g) = true := decide_eq_true c3
  have f4 : decide (y.x.g ≤ 1099511627776) = true := decide_eq_true c4
  go_enter Try.func29, Try.ntmps29
  go_wp2_with fail
  go_ret
  exact ⟨rfl, hB⟩
end Go.Proofs.Ytdkolkjgojamcaa

/- The program's queues: Read; all calls. -/
namespace Go.Proofs.Ytdkolkjgojamcaa
open Go.RowKit Nam Cod

instance (f g : Int) : Decidable (numsQ f g) := inferInstanceAs (Decidable (1 ≤ f ∧ f ≤ 1099511627776 ∧ 0 ≤ g ∧ g ≤ 1099511627776))
theorem numStep.ofQ {s : ByteArray} {p : Nat} {bad bad' : Bool} {v v2 : Int} {q q2 : Nat} (h : numStep s p bad v q bad') (h2 : isNum s p bad = some (v2, q2)) : v = v2 ∧ q = q2 ∧ bad' = false := by
  rcases h with ⟨h, h3⟩ | ⟨h, _, _⟩
  · rw [h2] at h
    injection h with h
    injection h with h4 h5
    exact ⟨h4.symm, h5.symm, h3⟩
  · rw [h2] at h; cases h
theorem cntStepQ.of {s : ByteArray} {p : Nat} {bad bad' : Bool} {m v v2 : Int} {q q2 : Nat} (h : cntStepQ s p bad m v q bad') (h2 : isCount s p bad m = some (v2, q2)) : v = v2 ∧ q = q2 ∧ bad' = false := by
  rcases h with ⟨h, h3⟩ | ⟨h, _, _⟩
  · rw [h2] at h
    injection h with h
    injection h with h4 h5
    exact ⟨h4.symm, h5.symm, h3⟩
  · rw [h2] at h; cases h
theorem isQu_bad (s : ByteArray) (p : Nat) : isQu s p true = none := rfl
theorem qu_steps {s : ByteArray} {p : Nat} {bad : Bool} {a b c : Int} {q1 q2 q3 q : Nat} {b1 b2 b3 : Bool} {l : List Mv} (h1 : numStep s p bad a q1 b1) (h2 : numStep s q1 b1 b q2 b2) (h3 : cntStepQ s q2 b2 4096 c q3 b3) (h4 : opsStep s q3 b3 c l q false) : isQu s p bad = if numsQ a b then some (⟨a, b, l⟩, q) else none := by
  rcases h4 with ⟨_, rfl, g3⟩ | ⟨h, _⟩
  · have e3 : isCount s q2 b2 4096 = some (c, q3) := by
      rcases h3 with ⟨h, _⟩ | ⟨_, _, h⟩
      · exact h
      · cases h
    have e2 : b2 = false := by
      cases b2
      · rfl
      · rw [isCount_badQ] at e3; cases e3
    subst e2
    obtain ⟨e1, g2⟩ := h2.good
    subst e1
    obtain ⟨e0, g1⟩ := h1.good
    subst e0
    exact qu_of g1 g2 e3 g3
  · cases h
theorem qu_ill {s : ByteArray} {p : Nat} {bad : Bool} {a b c : Int} {q1 q2 q3 q : Nat} {b1 b2 b3 : Bool} {l : List Mv} (h1 : numStep s p bad a q1 b1) (h2 : numStep s q1 b1 b q2 b2) (h3 : cntStepQ s q2 b2 4096 c q3 b3) (h4 : opsStep s q3 b3 c l q true) : isQu s p bad = none := by
  cases hx : isQu s p bad with
  | none => rfl
  | some r =>
    exfalso
    obtain ⟨x, qq⟩ := r
    obtain ⟨p1, p2, p3, g1, g2, g3, g4, g5⟩ := isQu_some hx
    obtain ⟨rfl, rfl, rfl⟩ := h1.ofQ g1
    obtain ⟨rfl, rfl, rfl⟩ := h2.ofQ g2
    obtain ⟨rfl, rfl, rfl⟩ := h3.of g3
    rcases h4 with ⟨h, _⟩ | ⟨_, h | h⟩
    · cases h
    · cases h
    · rw [show ((x.os.length : Int)).toNat = x.os.length from rfl, g4] at h; cases h

set_option maxRecDepth 100000 in
set_option maxHeartbeats 4000000 in
theorem quRead_uni (w : World) (b p : Nat) (s : ByteArray) (bad : Bool) (hs : s.size ≤ 1000000) (hp : p ≤ s.size) (hr : Rd 46 w b s p bad) :
    Calls Try.prog 22 #[.pointer (some ⟨b, 0, none⟩)] w fun r w' => ∃ (y : Qw) (q : Nat) (bad' : Bool), r = .returned (.agg #[.int .i64 y.x.f, .int .i64 y.x.g, .slice y.A y.x.os.length y.c]) ∧ y.ok w' ∧ Rd 46 w' b s q bad' ∧ q ≤ s.size ∧ w.grownBy w' (some b) ∧ quStep s p bad y.x q bad' := by
  have hbw := hr.lt
  go_enter Try.func22, Try.ntmps22
  go_wp2_with fail
  have hZ : quE.In ((w.alloc (.cells #[.int .i64 0, .int .i64 0, .slice none 0 0] 26)).alloc (.cells #[.int .i64 0, .int .i64 0, .slice none 0 0] 26)) w.heap.size zeroQw := (El.In.new (E := quE) w zeroQw #[.int .i64 0, .int .i64 0, .slice none 0 0] rfl).alloc _
  have hY := two_quB w #[.int .i64 0, .int .i64 0, .slice none 0 0] #[.int .i64 0, .int .i64 0, .slice none 0 0] zeroQw rfl
  have hB := below_alloc (below_alloc (Below.refl w.heap.size w) (.cells #[.int .i64 0, .int .i64 0, .slice none 0 0] 26)) (.cells #[.int .i64 0, .int .i64 0, .slice none 0 0] 26)
  have hR := hr.below hB
  have hG := by_below hB (some b)
  obtain ⟨n3, h3⟩ : ∃ n, w.heap.size + 1 = n := ⟨_, rfl⟩
  obtain ⟨n2, h2⟩ : ∃ n, w.heap.size = n := ⟨_, rfl⟩
  have hn2 : w.heap.size ≤ n2 := by omega
  have hwn : w.heap.size ≤ n3 := by omega
  have e2 : b ≠ n2 := by omega
  have e3 : b ≠ n3 := by omega
  have e4 : n2 ≠ n3 := by omega
  have i2 : some n2 ≠ some b := fun e => e2 (Option.some.inj e).symm
  have i3 : some n3 ≠ some b := fun e => e3 (Option.some.inj e).symm
  generalize (w.alloc (.cells #[.int .i64 0, .int .i64 0, .slice none 0 0] 26)).alloc (.cells #[.int .i64 0, .int .i64 0, .slice none 0 0] 26) = W0 at *
  rw [h3] at hY ⊢
  rw [h2] at hZ ⊢
  clear h2 h3 hB hr
  refine (num_uni hs hp hR).mono ?_
  rintro e w1 ⟨v1, q1, b1, rfl, hR, hq1, hg, st1⟩
  replace hZ := hZ.keep hg i2
  replace hY := hY.keep hg i3
  replace hG := by_trans hG hg
  clear hg
  have kc := hY.cell 0
  have kf := hY.frozen
  replace kc : w1.cell? ⟨n3, 0, none⟩ = some (.int .i64 0) := kc
  replace hY := hY.put ⟨none, 0, ⟨v1, 0, []⟩⟩ 0 (.int .i64 v1) rfl
  replace hZ := hZ.other n3 0 (.int .i64 v1) e4
  replace hR := hR.other n3 0 (.int .i64 v1) e3
  replace hG := by_setNew hG n3 0 (.int .i64 v1) hwn
  go_wp2_with fail
  clear kc kf
  generalize w1.setCell ⟨n3, 0, none⟩ (.int .i64 v1) = W1 at *
  refine (num_uni hs hq1 hR).mono ?_
  rintro e w2 ⟨v2, q2, b2, rfl, hR, hq2, hg, st2⟩
  replace hZ := hZ.keep hg i2
  replace hY := hY.keep hg i3
  replace hG := by_trans hG hg
  clear hg
  have kc := hY.cell 1
  have kf := hY.frozen
  replace kc : w2.cell? ⟨n3, 1, none⟩ = some (.int .i64 0) := kc
  replace hY := hY.put ⟨none, 0, ⟨v1, v2, []⟩⟩ 1 (.int .i64 v2) rfl
  replace hZ := hZ.other n3 1 (.int .i64 v2) e4
  replace hR := hR.other n3 1 (.int .i64 v2) e3
  replace hG := by_setNew hG n3 1 (.int .i64 v2) hwn
  go_wp2_with fail
  clear kc kf
  generalize w2.setCell ⟨n3, 1, none⟩ (.int .i64 v2) = W2 at *
  refine (countQ_uni 4096 (by decide) hs hq2 hR).mono ?_
  rintro e w3 ⟨v3, q3, b3, rfl, hR, hq3, hg, hv3, st3⟩
  replace hZ := hZ.keep hg i2
  replace hY := hY.keep hg i3
  replace hG := by_trans hG hg
  clear hg
  have CE := quReadOps_uni v3 hv3 hs hq3 hR
  clear hR hv3
  go_wp2_with fail
  refine CE.mono ?_
  clear CE
  rintro e w4 ⟨A, cc, l, q4, b4, rfl, hS, hR, hq4, hg, st4⟩
  replace hZ := hZ.keep hg i2
  replace hY := hY.keep hg i3
  replace hG := by_trans hG hg
  clear hg
  have kc := hY.cell 2
  have kf := hY.frozen
  replace kc : w4.cell? ⟨n3, 2, none⟩ = some (.slice none 0 0) := kc
  have hSo := SlV.keepO hS (by_cell w4 n3 2 (.slice A l.length cc)) (qu_off hS.1 hY)
  have hY4 := hY.put ⟨A, cc, ⟨v1, v2, l⟩⟩ 2 (.slice A l.length cc) rfl
  replace hZ := hZ.other n3 2 (.slice A l.length cc) e4
  replace hR := hR.other n3 2 (.slice A l.length cc) e3
  replace hG := by_setNew hG n3 2 (.slice A l.length cc) hwn
  clear hY hS
  go_upto_region 5 with fail
  clear kc kf
  generalize w4.setCell ⟨n3, 2, none⟩ (.slice A l.length cc) = W4 at *
  obtain ⟨r0, r1, r2⟩ := hR.cells
  have rf := hR.frozen
  obtain ⟨p0, p1, p2⟩ := quIn3 hY4
  dsimp only at p0 p1 p2
  cases b4
  · have hst := qu_steps st1 st2 st3 st4
    clear st1 st2 st3 st4
    by_cases hN : numsQ v1 v2
    · rw [if_pos hN] at hst
      have HG := Lib.hid hst
      have CN := quRightNumbers_in ⟨A, cc, ⟨v1, v2, l⟩⟩ W4 hN
      clear hst hN
      go_wp2_with fail
      refine CN.mono ?_
      rintro r w5 ⟨rfl, hb5⟩
      replace hZ := hZ.below hb5
      replace hY4 := hY4.below hb5
      replace hSo := SlV.below hSo hb5
      replace hR := hR.below hb5
      replace hG := by_trans hG (by_below hb5 _)
      clear CN hb5 r0 r1 r2 rf p0 p1 p2
      go_wp2_with (first | (refine El.load quRow rfl _ rfl n3 0 rfl ⟨A, cc, ⟨v1, v2, l⟩⟩ hY4.at #[.int .i64 v1, .int .i64 v2, .slice A l.length cc] rfl ?_) | (refine El.store quRow rfl _ _ rfl n2 ⟨A, cc, ⟨v1, v2, l⟩⟩ #[.int .i64 v1, .int .i64 v2, .slice A l.length cc] rfl rfl rfl zeroQw hZ ?_) | fail)
      refine El.ret1 quRow (hZ.set ⟨A, cc, ⟨v1, v2, l⟩⟩ _ rfl) rfl rfl rfl #[.int .i64 v1, .int .i64 v2, .slice A l.length cc] rfl ?_
      exact ⟨⟨A, cc, ⟨v1, v2, l⟩⟩, q4, false, rfl, SlV.keepO hSo (by_row _ n2 _) (qu_off hSo.1 hZ), hR.row n2 _ e2, hq4, by_setRow hG n2 _ hn2, Or.inl ⟨HG.out, rfl⟩⟩
    · rw [if_neg hN] at hst
      have HG := Lib.hid hst
      have CN := quRightNumbers_no ⟨A, cc, ⟨v1, v2, l⟩⟩ W4 hN
      clear hst hN
      go_wp2_with fail
      refine CN.mono ?_
      rintro r w5 ⟨rfl, hb5⟩
      replace hZ := hZ.below hb5
      replace hR := hR.below hb5
      replace hG := by_trans hG (by_below hb5 _)
      clear CN hb5 r0 r1 r2 rf p0 p1 p2 hSo hY4
      obtain ⟨r0, r1, r2⟩ := hR.cells
      have rf := hR.frozen
      have hR2 := hR.setBad
      have hG2 := by_set hG 2 (.bool true)
      replace hZ := hZ.other b 2 (.bool true) (fun e => e2 e.symm)
      clear hR hG
      go_upto_region 7 with fail
      clear r0 r1 r2 rf
      generalize w5.setCell ⟨b, 2, none⟩ (.bool true) = W9 at *
      go_wp2_with (first | (refine El.store quRow rfl _ _ rfl n2 zeroQw #[.int .i64 0, .int .i64 0, .slice none 0 0] rfl rfl rfl zeroQw hZ ?_) | fail)
      refine El.ret1 quRow (hZ.set zeroQw _ rfl) rfl rfl rfl #[.int .i64 0, .int .i64 0, .slice none 0 0] rfl ?_
      exact ⟨zeroQw, q4, true, rfl, SlV.nil opE _, hR2.row n2 _ e2, hq4, by_setRow hG2 n2 _ hn2, Or.inr ⟨HG.out, rfl⟩⟩
  · have HG := Lib.hid (qu_ill st1 st2 st3 st4)
    clear st1 st2 st3 st4 hSo hY4
    have hR2 := hR.setBad
    have hG2 := by_set hG 2 (.bool true)
    replace hZ := hZ.other b 2 (.bool true) (fun e => e2 e.symm)
    clear hR hG
    go_upto_region 7 with fail
    clear r0 r1 r2 rf
    generalize W4.setCell ⟨b, 2, none⟩ (.bool true) = W9 at *
    go_wp2_with (first | (refine El.store quRow rfl _ _ rfl n2 zeroQw #[.int .i64 0, .int .i64 0, .slice none 0 0] rfl rfl rfl zeroQw hZ ?_) | fail)
    refine El.ret1 quRow (hZ.set zeroQw _ rfl) rfl rfl rfl #[.int .i64 0, .int .i64 0, .slice none 0 0] rfl ?_
    exact ⟨zeroQw, q4, true, rfl, SlV.nil opE _, hR2.row n2 _ e2, hq4, by_setRow hG2 n2 _ hn2, Or.inr ⟨HG.out, rfl⟩⟩

theorem queueCalls : QueueCalls where
  new w := quNew_any w
  right y w hn hR ho := quRight_yes y w hn hR ho
  push y o w hn ho := quPush_any y o w hn ho
  ack y a w hn ha ho := quAck_any y a w hn ha ho
  allow y g w hn _ ho := quAllow_any y g w hn ho
  out y most w hn _ ho := quOut_any y most w hn ho
  print y w hn ho hw := quPrint_any y w hn ho hw
theorem queueBoth : QueueBoth where
  calls := queueCalls
  read w b p s bad hs hp hr := quRead_uni w b p s bad hs hp hr
end Go.Proofs.Ytdkolkjgojamcaa

/- QueueGrants, given the program's calls: no more is sent than was granted, nothing that was acknowledged, in order. -/
namespace Go.Proofs.Ytdkolkjgojamcaa
open Go.ChangeShapes Go.WideShapes Go.ChangeAt Go.RowKit Go.Deep Nam Cod

/-- Where the queue's operations lie, the other row doesn't. -/
def Off (y : Qw) (v : Value) : Prop := 0 < y.x.os.length → ∀ n, v.ownBlock = some n → ∀ a, y.A = some a → a.block ≠ n
theorem Off.near {y z : Qw} {v : Value} {B : Nat} (h : Off y v) (hn : Near B y z) (hv : ∀ n, v.ownBlock = some n → n < B) : Off z v := fun h0 n e a ea => by
  rcases hn h0 a ea with h1 | ⟨h1, a', e', eb⟩
  · have := hv n e; omega
  · rw [← eb]; exact h h1 n e a' e'
theorem Off.app {y : Qw} {v v' : Value} {w : World} (h : Off y v) (hok : y.ok w) (hv : v'.ownBlock = v.ownBlock ∨ v'.ownBlock = some w.heap.size) : Off y v' := fun h0 n e a ea => by
  rcases hv with hv | hv
  · exact h h0 n (hv ▸ e) a ea
  · rw [hv] at e
    have e := Option.some.inj e
    obtain ⟨b, off, e2, hb, _⟩ := hok.1 h0
    rw [ea] at e2; cases e2
    dsimp only
    omega
theorem Off.row {y : Qw} {v : Value} {w w' : World} (h : Off y v) (hok : y.ok w) (hg : w.grownBy w' v.ownBlock) : y.ok w' :=
  SlV.keepO hok hg fun h0 a ea e2 => h h0 a.block e2.symm a ea rfl
/-- What was given, what was acknowledged: the queue between. -/
def Held (x : Qu) (al : List Mv) (a : Nat) : Prop := x.f = a + 1 ∧ x.os = al.drop a ∧ a ≤ al.length
theorem held_push {x : Qu} {al : List Mv} {a : Nat} (h : Held x al a) (o : Mv) : Held (pushQ x o) (al ++ [o]) a := by
  obtain ⟨h1, h2, h3⟩ := h
  refine ⟨h1, ?_, by rw [List.length_append]; omega⟩
  show x.os ++ [o] = _
  rw [h2, List.drop_append_of_le_length h3]
theorem held_ack {x : Qu} {al : List Mv} {a : Nat} (h : Held x al a) (n : Int) : ∃ b : Nat, (b : Int) = max (a : Int) (min n al.length) ∧ Held (ackQ x n) al b := by
  obtain ⟨h1, h2, h3⟩ := h
  have hl : x.os.length = al.length - a := by rw [h2, List.length_drop]
  unfold ackQ
  by_cases c : n < x.f
  · rw [if_pos c]
    exact ⟨a, by omega, h1, h2, h3⟩
  · rw [if_neg c]
    refine ⟨(max (a : Int) (min n al.length)).toNat, by omega, by dsimp only; omega, ?_, by omega⟩
    dsimp only
    rw [hl, h2, List.drop_drop]
    congr 1
    omega
theorem held_allow {x : Qu} {al : List Mv} {a : Nat} (h : Held x al a) (g : Int) : Held (allowQ x g) al a := h
theorem held_out {x : Qu} {al : List Mv} {a : Nat} (h : Held x al a) (hl : x.os.length ≤ 1000) : ((outQ x 1000).length : Int) = max 0 (min (x.os.length : Int) (x.g - a)) ∧ ∀ j (h : j < (outQ x 1000).length), a + j < al.length ∧ al[a + j]? = some (outQ x 1000)[j] := by
  obtain ⟨h1, h2, h3⟩ := h
  have hlen : (outQ x 1000).length = min (min 1000 (x.g - x.f + 1)).toNat x.os.length := by unfold outQ; rw [List.length_take]
  refine ⟨by omega, fun j hj => ?_⟩
  have hjo : j < x.os.length := by omega
  have hl2 : x.os.length = al.length - a := by rw [h2, List.length_drop]
  refine ⟨by omega, ?_⟩
  rw [← List.getElem?_eq_getElem hj]
  unfold outQ
  rw [List.getElem?_take, if_pos (by omega), h2, List.getElem?_drop]
theorem eqMv_self (w : World) (m : Mv) : (Op.equalIn 10000 35 (.agg #[.int .i64 m.C, .int .i64 m.D, .int .i64 m.I, .int .i64 m.M, .int .i64 m.K, .int .i64 m.U, .string m.s]) (.agg #[.int .i64 m.C, .int .i64 m.D, .int .i64 m.I, .int .i64 m.M, .int .i64 m.K, .int .i64 m.U, .string m.s])).run Try.prog w = .ok true w := by
  rw [run_eqMv, mvEq_iff.2 rfl]

set_option maxRecDepth 100000 in
theorem grants13_no (H : QueueCalls) (A : Option Addr) (c : Nat) (l : List Ad) (w : World) (hl : 100 < l.length) : Calls Try.prog 5 #[.slice A l.length c] w fun e w' => e = .returned (.bool true) ∧ Below w.heap.size w w' := by
  have hfin : ∀ wx, Below w.heap.size w wx → Below w.heap.size w wx := fun _ h => h
  have hN := Below.refl w.heap.size w
  go_enter Try.func5, Try.ntmps5
  go_wp2_with fail
  refine (awake13_any H _).mono ?_
  rintro r w2 ⟨rfl, hb2⟩
  go_wp2_with fail
  go_ret
  exact ⟨rfl, hfin _ (below_then hN hb2)⟩

set_option maxRecDepth 100000 in
set_option maxHeartbeats 4000000 in
theorem grants13_yes (H : QueueCalls) (A : Option Addr) (c : Nat) (l : List Ad) (w : World) (hL : adE.Sl w A l) (hl : l.length ≤ 100) : Calls Try.prog 5 #[.slice A l.length c] w fun e w' => e = .returned (.bool true) ∧ Below w.heap.size w w' := by
  have hfin : ∀ wx, Below w.heap.size w wx → Below w.heap.size w wx := fun _ h => h
  have hN := Below.refl w.heap.size w
  have HL := Lib.hid hL
  have h1000 : l.length ≤ 1000 := by omega
  clear hL
  go_enter Try.func5, Try.ntmps5
  go_wp2_with fail
  refine (H.new _).mono ?_
  rintro r w1 ⟨z0, rfl, hz0, hzo0, hb1⟩
  have HZ0 := Lib.hid hz0
  clear hz0
  replace hN := below_then hN hb1
  clear hb1
  have hP : quE.In (w1.alloc (.cells #[.int .i64 z0.x.f, .int .i64 z0.x.g, .slice z0.A z0.x.os.length z0.c] 26)) w1.heap.size z0 := El.In.new (E := quE) w1 z0 _ rfl
  have hal := below_alloc (Below.refl w1.heap.size w1) (.cells #[.int .i64 z0.x.f, .int .i64 z0.x.g, .slice z0.A z0.x.os.length z0.c] 26)
  have hwn1 := hN.size
  replace hN := below_then hN hal
  replace hzo0 := hzo0.below hal
  clear hal
  go_wp2_with fail
  generalize w1.alloc (.cells #[.int .i64 z0.x.f, .int .i64 z0.x.g, .slice z0.A z0.x.os.length z0.c] 26) = W1 at *
  obtain ⟨n1, hn1⟩ : ∃ n, w1.heap.size = n := ⟨_, rfl⟩
  rw [hn1] at hP hwn1 ⊢
  clear hn1
  have HF0 := Lib.hid (show fineTo l 0 from fun j hj hj0 => absurd hj0 (Nat.not_lt_zero j))
  obtain ⟨B, hBe⟩ : ∃ B, W1.heap.size = B := ⟨_, rfl⟩
  have hnB : n1 < B := by have := hP.lt; omega
  have hBw : B ≤ W1.heap.size := by omega
  have hwB : w.heap.size ≤ B := by omega
  clear hBe
  have hg0 : z0.x.g = 0 := by rw [HZ0.out]; rfl
  have HH0 := Lib.hid (show Held z0.x [] 0 ∧ ([] : List Mv).length ≤ 0 by rw [HZ0.out]; exact ⟨⟨rfl, rfl, Nat.le_refl _⟩, Nat.le_refl _⟩)
  go_loopw [4, 5, 6, 7] (fun vall vg va i wr => ∃ (k : Nat) (y : Qw) (al : List Mv) (a : Nat) (v : Value), k ≤ l.length ∧ i = .int .i64 k ∧ vall = v ∧ vg = .int .i64 y.x.g ∧ va = .int .i64 a ∧ Hid (y.x = qAt l k) ∧ Hid (fineTo l k) ∧ Hid (Held y.x al a ∧ al.length ≤ k) ∧ Off y v ∧ y.ok wr ∧ quE.In wr n1 y ∧ opE.Own wr B v al ∧ B ≤ wr.heap.size ∧ Below w.heap.size w wr) (fun _ _ _ i _ => l.length - (intOf i).toNat)
  case atStart => exact ⟨0, z0, [], 0, _, Nat.zero_le _, rfl, rfl, by rw [hg0], rfl, Lib.hid HZ0.out, HF0, HH0, (fun _ n e => by cases e), hzo0, hP, El.Own.nil W1 B, hBw, hN⟩
  case round =>
    clear hP hN hzo0 HZ0 HF0 HH0 hBw hg0
    obtain ⟨k, y, al, a0, v, hk, rfl, rfl, rfl, rfl, hy, hf, hH, hD, ho, hP, hO, hBw, hN⟩ := hrel
    by_cases hkl : k < l.length
    · have HQN := Lib.hid (show qAt l (k + 1) = stepQ y.x l[k] k by rw [qAt_next l k hkl, hy.out])
      have HAT := Lib.hid (show ∀ (b' o' : Nat), A = some ⟨b', o', none⟩ → ∀ wx : World, Below w.heap.size w wx → adE.At wx b' (o' + k * 2) l[k] from fun b' o' e wx hb => by
        obtain ⟨b, off, eA, hbw, hc⟩ := HL.out (by omega)
        rw [e] at eA
        cases eA
        exact (hc k hkl).below hb hbw)
      obtain ⟨b, off, eA, hbw, hc⟩ := HL.out (by omega)
      have hx := adIdxH (cap := c) eA hkl
      have hat : adE.At wr b (off + k * 2) l[k] := (hc k hkl).below hN hbw
      have hbr := Nat.lt_of_lt_of_le hbw hN.size
      by_cases hfa : fineA l[k]
      rotate_left
      · obtain ⟨s0, s1⟩ := adAtH hat
        generalize l[k] = a at *
        obtain ⟨p0, p1, p2⟩ := quIn3 hP
        clear hc eA
        by_cases h1 : 549755813888 < a.n
        · clear hfa
          go_wp2_with fail
          refine (awake13_any H _).mono ?_
          rintro r w2 ⟨rfl, hb2⟩
          go_wp2_with fail
          go_ret
          exact ⟨rfl, hfin _ (below_then hN hb2)⟩
        · have h2 : a.n < -549755813888 := by unfold fineA at hfa; omega
          clear hfa
          go_wp2_with fail
          refine (awake13_any H _).mono ?_
          rintro r w2 ⟨rfl, hb2⟩
          go_wp2_with fail
          go_ret
          exact ⟨rfl, hfin _ (below_then hN hb2)⟩
      have HS := Lib.hid (fun (wx : World) (ho : y.ok wx) => stepped H h1000 hkl hf.out hy.out l[k] rfl hfa wx ho)
      have HF2 := Lib.hid (fineTo_next hf.out hkl hfa)
      generalize l[k] = a at *
      obtain ⟨s0, s1⟩ := adAtH hat
      have c1 : decide (549755813888 < a.n) = false := decide_eq_false (by have := hfa.2; omega)
      have c2 : decide (a.n < -549755813888) = false := decide_eq_false (by have := hfa.1; omega)
      clear hc
      have HA2 := Lib.hid (HAT.out b off eA)
      clear eA HAT
      go_wp2_with fail
      clear c1 c2 s0 s1
      refine region_anyG (S := PLQ n1 y b (off + k * 2) a) 7 (by kernel_rfl) ?_
      replace hP : quE.In wr.drew n1 y := hP
      replace hat : adE.At wr.drew b (off + k * 2) a := hat
      replace ho : y.ok wr.drew := ho
      replace hN := hN.drew
      replace hbr : b < wr.drew.heap.size := hbr
      replace hO : opE.Own wr.drew B _ al := hO
      replace hBw : B ≤ wr.drew.heap.size := hBw
      generalize wr.drew = U at *
      have hS : PLQ n1 y b (off + k * 2) a U := ⟨quIn3 hP, adAtH hat⟩
      refine anyG_take (i := 0) (v := .agg #[.int .i64 y.x.f, .int .i64 y.x.g, .slice y.A y.x.os.length y.c]) rfl (by kernel_rfl) (by kernel_rfl) (by kernel_rfl) (by kernel_rfl) (by kernel_rfl) (fun _ _ _ h => h) (Or.inl ⟨by rfl, fun w' hSw => by (obtain ⟨⟨m0, m1, m2⟩, s0, s1⟩ := hSw; go_simp)⟩) hS ?_
      try simp only [Act.put, List.setIfInBounds_toArray, List.set_cons_zero, List.set_cons_succ]
      refine anyG_take (i := 1) (v := .slice A l.length c) rfl (by kernel_rfl) (by kernel_rfl) (by kernel_rfl) (by kernel_rfl) (by kernel_rfl) (fun _ _ _ h => h) (Or.inl ⟨by rfl, fun w' hSw => by (obtain ⟨⟨m0, m1, m2⟩, s0, s1⟩ := hSw; go_simp)⟩) hS ?_
      try simp only [Act.put, List.setIfInBounds_toArray, List.set_cons_zero, List.set_cons_succ]
      refine anyG_take (i := 2) (v := .int .i64 k) rfl (by kernel_rfl) (by kernel_rfl) (by kernel_rfl) (by kernel_rfl) (by kernel_rfl) (fun _ _ _ h => h) (Or.inl ⟨by rfl, fun w' hSw => by (obtain ⟨⟨m0, m1, m2⟩, s0, s1⟩ := hSw; go_simp)⟩) hS ?_
      try simp only [Act.put, List.setIfInBounds_toArray, List.set_cons_zero, List.set_cons_succ]
      refine anyG_take (i := 3) (v := .pointer (some ⟨b, off + k * 2, none⟩)) rfl (by kernel_rfl) (by kernel_rfl) (by kernel_rfl) (by kernel_rfl) (by kernel_rfl) (fun _ _ _ h => h) (Or.inl ⟨by rfl, fun w' hSw => by (obtain ⟨⟨m0, m1, m2⟩, s0, s1⟩ := hSw; go_simp)⟩) hS ?_
      try simp only [Act.put, List.setIfInBounds_toArray, List.set_cons_zero, List.set_cons_succ]
      refine anyG_take (i := 4) (v := .agg #[.int .i64 a.k, .int .i64 a.n]) rfl (by kernel_rfl) (by kernel_rfl) (by kernel_rfl) (by kernel_rfl) (by kernel_rfl) (fun _ _ _ h => h) (Or.inl ⟨by rfl, fun w' hSw => by (obtain ⟨⟨m0, m1, m2⟩, s0, s1⟩ := hSw; go_simp)⟩) hS ?_
      try simp only [Act.put, List.setIfInBounds_toArray, List.set_cons_zero, List.set_cons_succ]
      refine anyG_take (i := 5) (v := .int .i64 k) rfl (by kernel_rfl) (by kernel_rfl) (by kernel_rfl) (by kernel_rfl) (by kernel_rfl) (fun _ _ _ h => h) (Or.inl ⟨by rfl, fun w' hSw => by (obtain ⟨⟨m0, m1, m2⟩, s0, s1⟩ := hSw; go_simp)⟩) hS ?_
      try simp only [Act.put, List.setIfInBounds_toArray, List.set_cons_zero, List.set_cons_succ]
      refine anyG_step (rs := [6]) (by kernel_rfl) (by simp) ?_
      refine AllG.cons rfl (fun K hK => ?_) AllG.nil
      go_simp
      refine (HS.out U ho).mono ?_
      rintro r w1 ⟨z, rfl, hz0, hzo, hb1, hnr⟩
      have hz := Lib.hid hz0
      clear hz0 hS
      replace hP := hP.below hb1
      replace hat := hat.below hb1 hbr
      replace hN := hN.trans (hb1.mono hN.size)
      have hD2 := hD.near hnr (fun n e => (hO.lt n e).2)
      replace hO := hO.below hb1
      replace hBw := Nat.le_trans hBw hb1.size
      clear hb1
      clear ho
      try go_wp2_with fail
      refine hK.out _ _ (⟨quIn3 hP, adAtH hat⟩ : PLQ n1 y b (off + k * 2) a w1) ?_
      try simp only [Act.put, List.setIfInBounds_toArray, List.set_cons_zero, List.set_cons_succ]
      clear hK
      refine anyG_step (rs := [7]) (by kernel_rfl) (by simp) ?_
      refine AllG.last (n := 7) rfl (fun K hK => ?_)
      refine El.step_store quRow rfl _ _ rfl n1 z #[.int .i64 z.x.f, .int .i64 z.x.g, .slice z.A z.x.os.length z.c] rfl rfl rfl y hP ?_
      refine hK.out _ _ ?_
      clear hK
      refine anyG_done (by kernel_rfl) ?_ _
      have hP2 := hP.set z #[.int .i64 z.x.f, .int .i64 z.x.g, .slice z.A z.x.os.length z.c] rfl
      have hzo2 : z.ok (w1.setRow n1 #[.int .i64 z.x.f, .int .i64 z.x.g, .slice z.A z.x.os.length z.c]) := SlV.keepO hzo (by_row _ n1 _) (qu_off hzo.1 hP)
      have hN2 := below_setRow hN hwn1 #[.int .i64 z.x.f, .int .i64 z.x.g, .slice z.A z.x.os.length z.c]
      have hO2 := hO.kept (by_row w1 n1 #[.int .i64 z.x.f, .int .i64 z.x.g, .slice z.A z.x.os.length z.c]) (Or.inr (fun e => by have := (hO.lt n1 e).1; omega))
      have hBw2 : B ≤ (w1.setRow n1 #[.int .i64 z.x.f, .int .i64 z.x.g, .slice z.A z.x.os.length z.c]).heap.size := Nat.le_trans hBw (by_row w1 n1 #[.int .i64 z.x.f, .int .i64 z.x.g, .slice z.A z.x.os.length z.c]).size
      have hzs := Lib.hid (hz.out.trans HQN.out)
      clear hP hO hN hat hzo hBw hbr HS
      generalize w1.setRow n1 #[.int .i64 z.x.f, .int .i64 z.x.g, .slice z.A z.x.os.length z.c] = W2 at *
      obtain ⟨s0, s1⟩ := adAtH (HA2.out W2 hN2)
      go_upto_block 2 with fail
      go_cut [4, 5, 6] from 43 to 75 (fun v4 v5 v6 wx => ∃ (al2 : List Mv) (a2 : Nat) (v2 : Value), v4 = v2 ∧ v5 = .int .i64 z.x.g ∧ v6 = .int .i64 a2 ∧ Hid (Held z.x al2 a2 ∧ al2.length ≤ k + 1) ∧ Off z v2 ∧ z.ok wx ∧ quE.In wx n1 z ∧ opE.Own wx B v2 al2 ∧ B ≤ wx.heap.size ∧ Below w.heap.size w wx)
      case first =>
        have HLE := Lib.hid (show al.length ≤ 100 by have := hH.out.2; omega)
        obtain ⟨Aal, cal, hv, _⟩ := SlV.own hO2
        subst hv
        by_cases k0 : a.k = 0
        · have e0 : (a.k == 0) = true := by simp [k0]
          have hzp : z.x = pushQ y.x (someO k) := by rw [hzs.out]; unfold stepQ; rw [if_pos k0]
          have HG := Lib.hid (show y.x.g = z.x.g by rw [hzp]; rfl)
          have HHN := Lib.hid (show Held z.x (al ++ [someO k]) a0 ∧ (al ++ [someO k]).length ≤ k + 1 from ⟨by rw [hzp]; exact held_push hH.out.1 _, by rw [List.length_append, List.length_singleton]; have := hH.out.2; omega⟩)
          have HSO := Lib.hid (fun wx => some13_any k (by omega) wx)
          clear k0 hzp
          generalize someO k = x at *
          go_wp2_with fail
          refine (HSO.out _).mono ?_
          rintro r w3 ⟨rfl, hb3⟩
          replace hP2 := hP2.below hb3
          replace hzo2 := hzo2.below hb3
          replace hO2 := hO2.below hb3
          replace hBw2 := Nat.le_trans hBw2 hb3.size
          replace hN2 := below_then hN2 hb3
          have hE : opE.Sl (w3.alloc (.cells #[.int .i64 x.C, .int .i64 x.D, .int .i64 x.I, .int .i64 x.M, .int .i64 x.K, .int .i64 x.U, .string x.s] 35)) (some ⟨w3.heap.size, 0, none⟩) [x] := (El.In.new (E := opE) w3 x _ rfl).sl
          have hal := below_alloc (Below.refl w3.heap.size w3) (.cells #[.int .i64 x.C, .int .i64 x.D, .int .i64 x.I, .int .i64 x.M, .int .i64 x.K, .int .i64 x.U, .string x.s] 35)
          replace hP2 := hP2.below hal
          replace hzo2 := hzo2.below hal
          replace hO2 := hO2.below hal
          replace hBw2 := Nat.le_trans hBw2 hal.size
          replace hN2 := below_then hN2 hal
          clear hb3 hal s0 s1
          go_wp2_with (at_builtin; refine El.wpList_app opInn rfl _ _ rfl B _ al [x] rfl hO2 (some ⟨w3.heap.size, 0, none⟩) 1 1 rfl rfl hE (fun e => by cases e) (by have := HLE.out; rw [List.length_singleton]; omega) hBw2 ?_; intro v5 w5 hO5 hg5 hv5; have hr5 := hO2.lt; clear hO2)
          go_meet
          exact ⟨al ++ [x], a0, v5, rfl, by rw [HG.out], rfl, HHN, hD2.app hzo2 hv5, hD2.row hzo2 hg5, hP2.keep hg5 (fun e => by have := (hr5 _ e.symm).1; omega), hO5, Nat.le_trans hBw2 hg5.size, hN2.grown hg5 hN2.size (fun kk e => by have := (hr5 kk e).1; omega)⟩
        · have e0 : (a.k == 0) = false := by simp [k0]
          by_cases k1 : a.k = 1
          · have e1 : (a.k == 1) = true := by simp [k1]
            have hzp : z.x = ackQ y.x a.n := by rw [hzs.out]; unfold stepQ; rw [if_neg k0, if_pos k1]
            have HG := Lib.hid (show y.x.g = z.x.g by rw [hzp]; exact (ackQ_end y.x a.n).2.2.symm)
            obtain ⟨b2, hb2, hHb⟩ := held_ack hH.out.1 a.n
            have HB2 := Lib.hid hb2
            have HHN := Lib.hid (show Held z.x al b2 ∧ al.length ≤ k + 1 from ⟨by rw [hzp]; exact hHb, by have := hH.out.2; omega⟩)
            clear k0 k1 hzp hb2 hHb
            go_wp2_with fail
            go_meet
            exact ⟨al, b2, _, rfl, by rw [HG.out], by rw [HB2.out], HHN, hD2, hzo2, hP2, hO2, hBw2, hN2⟩
          · have e1 : (a.k == 1) = false := by simp [k1]
            by_cases k2 : a.k = 2
            · have e2 : (a.k == 2) = true := by simp [k2]
              have hzp : z.x = allowQ y.x a.n := by rw [hzs.out]; unfold stepQ; rw [if_neg k0, if_neg k1, if_pos k2]
              have HG := Lib.hid (show max y.x.g a.n = z.x.g by rw [hzp]; rfl)
              have HHN := Lib.hid (show Held z.x al a0 ∧ al.length ≤ k + 1 from ⟨by rw [hzp]; exact held_allow hH.out.1 _, by have := hH.out.2; omega⟩)
              clear k0 k1 k2 hzp
              go_wp2_with fail
              go_meet
              exact ⟨al, a0, _, rfl, by rw [HG.out], rfl, HHN, hD2, hzo2, hP2, hO2, hBw2, hN2⟩
            · have e2 : (a.k == 2) = false := by simp [k2]
              have hzp : z.x = y.x := by rw [hzs.out]; unfold stepQ; rw [if_neg k0, if_neg k1, if_neg k2]
              have HHN := Lib.hid (show Held z.x al a0 ∧ al.length ≤ k + 1 from ⟨by rw [hzp]; exact hH.out.1, by have := hH.out.2; omega⟩)
              have HG := Lib.hid (show y.x.g = z.x.g by rw [hzp])
              clear k0 k1 k2 hzp
              go_wp2_with fail
              go_meet
              exact ⟨al, a0, _, rfl, by rw [HG.out], rfl, HHN, hD2, hzo2, hP2, hO2, hBw2, hN2⟩
      case rest =>
        clear hD2 hzo2 hP2 hO2 hBw2 hN2 hH hD s0 s1 hzs
        obtain ⟨al2, a2, v2, rfl, rfl, rfl, hH, hD, hzo, hP, hO, hBw, hN⟩ := hcut
        as_aux_lemma =>
          have hK := qAt_K h1000 (k + 1) (by omega) HF2.out
          rw [← hz.out] at hK
          have hNN := hK.n (by omega)
          have hf1 := hH.out.1.1
          have hlo : z.x.os.length ≤ 1000 := by have := hK.fl; have := hK.f1; omega
          obtain ⟨ho1, ho2⟩ := held_out hH.out.1 hlo
          have hol : (z.x.os.length : Int) = (al2.length : Int) - a2 := by
            have h1 := hH.out.1.2.1
            have h2 := hH.out.1.2.2
            rw [h1, List.length_drop]; omega
          have hg9 := hNN.g
          have hale : al2.length ≤ 1000 := by have := hH.out.2; omega
          have ha2le : a2 ≤ 1000 := by have := hH.out.1.2.2; omega
          have CO := H.out z 1000 wc hNN (by unfold i64; omega) hzo
          generalize outQ z.x 1000 = OL at *
          have HO1 := Lib.hid ho1
          have hole : OL.length ≤ 1000 := by omega
          have HO2 := Lib.hid ho2
          have HOL := Lib.hid hol
          have HF1 := Lib.hid hf1
          clear hK hNN hlo ho1 ho2 hf1 hol
          obtain ⟨Aal, cal, hv, hSal⟩ := SlV.own hO
          subst hv
          go_wp2_with (first | (refine El.load quRow rfl _ rfl n1 0 rfl z hP.at #[.int .i64 z.x.f, .int .i64 z.x.g, .slice z.A z.x.os.length z.c] rfl ?_) | fail)
          refine CO.mono ?_
          clear CO
          rintro r w3 ⟨Ao, co, rfl, hSo, hb3⟩
          replace hP := hP.below hb3
          replace hzo := hzo.below hb3
          replace hO := hO.below hb3
          replace hSal := hSal.below hb3
          replace hBw := Nat.le_trans hBw hb3.size
          replace hN := below_then hN hb3
          clear hb3
          obtain ⟨p0, p1, p2⟩ := quIn3 hP
          rw [HF1.out] at p0
          have u1 : IntKind.i64.wrap ((a2 : Int) + 1) = (a2 : Int) + 1 := by rw [IntKind.wrap_i64]; omega
          have u2 : IntKind.i64.wrap ((al2.length : Int) - (a2 : Int)) = (z.x.os.length : Int) := by rw [IntKind.wrap_i64]; have := HOL.out; omega
          have u3 : IntKind.i64.wrap (z.x.g - (a2 : Int)) = z.x.g - (a2 : Int) := by rw [IntKind.wrap_i64]; omega
          have u4 : max 0 (min (z.x.os.length : Int) (z.x.g - (a2 : Int))) = (OL.length : Int) := HO1.out.symm
          go_wp2_with fail
          clear p0 p1 p2 u1 u2 u3 u4 HO1 HOL HF1 hg9
          go_loopw [9] (fun jv wi => ∃ jj : Nat, jj ≤ OL.length ∧ jv = .int .i64 jj ∧ SlV opE wi Ao co OL ∧ quE.In wi n1 z ∧ z.ok wi ∧ opE.Own wi B (.slice Aal al2.length cal) al2 ∧ SlV opE wi Aal cal al2 ∧ B ≤ wi.heap.size ∧ Below w.heap.size w wi) (fun jv _ => OL.length - (intOf jv).toNat)
          case atStart => exact ⟨0, Nat.zero_le _, rfl, hSo, hP, hzo, hO, hSal, hBw, hN⟩
          case round =>
            clear hSo hP hzo hO hSal hBw hN
            obtain ⟨jj, hjj, rfl, hSo, hP, hzo, hO, hSal, hBw, hN⟩ := hrel
            by_cases hj : jj < OL.length
            · obtain ⟨hm, hmv⟩ := HO2.out jj hj
              obtain ⟨b1, o1, e1, _, hc1⟩ := hSo.1 (by omega)
              obtain ⟨b2, o2, e2, _, hc2⟩ := hSal.1 (by omega)
              have hx1 := opIdxH (cap := co) e1 hj
              have hx2 := opIdxH (cap := cal) e2 hm
              have hat1 : opE.At wr b1 (o1 + jj * 7) OL[jj] := hc1 jj hj
              have hat2 : opE.At wr b2 (o2 + (a2 + jj) * 7) al2[a2 + jj] := hc2 (a2 + jj) hm
              rw [List.getElem?_eq_getElem hm] at hmv
              rw [Option.some.inj hmv] at hat2
              have u1 : IntKind.i64.wrap ((a2 : Int) + (jj : Int)) = ((a2 + jj : Nat) : Int) := by rw [IntKind.wrap_i64]; omega
              clear hmv hc1 hc2 e1 e2
              generalize OL[jj] = x at *
              generalize a2 + jj = m at *
              obtain ⟨q0, q1, q2, q3, q4, q5, q6⟩ := opAt hat1
              obtain ⟨r0, r1, r2, r3, r4, r5, r6⟩ := opAt hat2
              have he := fun wx => eqMv_self wx x
              clear hat1 hat2
              go_wp2_with fail
              go_quiet (fail)
              go_wp2_with fail
              exact ⟨⟨jj + 1, by omega, by go_num, hSo, hP, hzo, hO, hSal, hBw, below_drew hN nq⟩, by simp [intOf]; omega⟩
            · obtain rfl : jj = OL.length := by omega
              go_wp2_with fail
              exact ⟨⟨k + 1, z, al2, a2, _, by omega, by go_num, rfl, rfl, rfl, hz, HF2, hH, hD, hzo, hP, hO, hBw, hN⟩, by simp [intOf]; omega⟩
    · obtain rfl : k = l.length := by omega
      go_wp2_with fail
      refine (awake13_any H _).mono ?_
      rintro r w2 ⟨rfl, hb2⟩
      go_wp2_with fail
      go_ret
      exact ⟨rfl, hfin _ (below_then hN hb2)⟩
set_option maxRecDepth 100000 in
theorem grants13_lifted (H0 : QueueCalls) (os : Os) (started : os.Started) (H : Type) (enc : TypeId × Value → H) :
    ReturnsInHanded {} Try.checked os 5 .any (Rows.queueGrantsSpec.pre6 enc Try.prog Try.f5 Rows.queueGrantsRow.domain false) (Rows.queueGrantsSpec.post enc Try.prog Try.f5 false true false false) := by
  refine returnsInHanded_of_change (C := Try.checked) own started (by kernel_rfl) Try.func5
    (ChangeSpec.witness6 (enc := enc) (C := Try.checked) false ⟨#[], #[.slice none 0 0], []⟩ 8 (by kernel_rfl) (by kernel_rfl) (by kernel_rfl) (by kernel_rfl)) ?_
  intro W base args ds gs before hval0 hW _ _
  have hval : ∀ (j : Nat) t v, Try.f5.params[j]? = some t → args[j]? = some v → Value.okWide Try.prog W .any base t v := hval0
  have hW' := hW
  obtain ⟨p, q, hA0, hV, rfl, _, _⟩ := hW
  have hA : DataW.TrodAll enc Try.prog W 0 (fun _ => true) true Try.f5.params.toList args.toList ds p := hA0
  rw [Try.params5] at hA hval
  obtain ⟨v0, d0, rfl, rfl, h0⟩ := trodAll_one hA
  obtain ⟨A, c, l, rfl, hL⟩ := open_ads (hval 0 22 v0 rfl rfl) h0
  have hc : Calls Try.prog 5 #[.slice A l.length c] W fun e w' => e = .returned (.bool true) ∧ Below W.heap.size W w' := by
    by_cases h : l.length ≤ 100
    · exact grants13_yes H0 A c l W hL h
    · exact grants13_no H0 A c l W (by omega)
  refine hc.mono fun e W' ⟨he, hb⟩ => ?_
  subst he
  exact ⟨_, rfl, Frm.law_post (by kernel_rfl) (by kernel_rfl) (by kernel_rfl) Try.underlying4 rfl rfl hW' hb⟩

theorem grants13_holds (H0 : QueueCalls) : Rows.QueueGrantsSaid :=
  OpenClaim.holds_of_wide 5 Try.f5 rfl rfl rfl rfl rfl rfl rfl ⟨rfl, rfl, rfl, rfl, rfl⟩ rfl rfl rfl rfl rfl (by kernel_rfl) Try.func5 (by kernel_rfl)
    (of_decide_eq_true (by kernel_rfl)) (by unfold Func.isWrapper; first | (rw [if_pos (by decide +kernel)]; kernel_rfl) | (rw [if_neg (by decide +kernel)]; exact ⟨rfl, rfl⟩))
    (fun os started H enc _ => grants13_lifted H0 os started H enc)
end Go.Proofs.Ytdkolkjgojamcaa
