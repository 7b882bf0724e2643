/- Texts laid one behind the other: Hp, Ao, Qm, Im, In. -/
import Derived.Test.YtnglpkfkepfkkaaB05
import Derived.Deep.CutRange
/- The program's streams: Settle, From. -/
namespace Go.Proofs.Ytnglpkfkepfkkaa
open Go.RowKit Nam Cod

theorem settleS_win {x : Sm} (h : SmR x) (place t : Int) : settleS x place t = ⟨max place x.s, max x.t t, max x.p place, winL x.es (max place x.s - x.s)⟩ := by
  have h1 := h.sp
  have h2 := h.len
  obtain ⟨s, tt, p, es⟩ := x
  dsimp only at h1 h2
  unfold settleS winL
  dsimp only
  by_cases c : place ≤ s
  · have e1 : max place s = s := by omega
    have e2 : max p place = p := by omega
    have e3 : s - s = 0 := by omega
    rw [if_pos c, e1, e2, e3, if_neg (by omega)]
    rfl
  · have e1 : max place s = place := by omega
    rw [if_neg c, e1]
    by_cases c2 : p ≤ place
    · have e2 : max p place = place := by omega
      rw [if_pos c2, e2]
      congr 1
      by_cases c3 : (es.length : Int) < place - s
      · rw [if_pos (Or.inr c3)]
      · rw [if_neg (by omega), List.drop_eq_nil_of_le (by omega)]
    · have e2 : max p place = p := by omega
      rw [if_neg c2, e2, if_neg (by omega)]

set_option maxRecDepth 100000 in
set_option maxHeartbeats 4000000 in
theorem smSettle_any (y : Sw) (place t : Int) (w : World) (hn : SmN y.x) (hR : SmR y.x) (hpl : -1000000000000000 ≤ place ∧ place ≤ 1000000000000000) (hok : y.ok w) :
    Calls Try.prog 36 #[.agg #[.int .i64 y.x.s, .int .i64 y.x.t, .int .i64 y.x.p, .slice y.A y.x.es.length y.c], .int .i64 place, .int .i64 t] w fun r w' => ∃ z : Sw, r = .returned (.agg #[.int .i64 z.x.s, .int .i64 z.x.t, .int .i64 z.x.p, .slice z.A z.x.es.length z.c]) ∧ z.x = settleS y.x place t ∧ z.ok w' ∧ Below w.heap.size w w' := by
  have hs := hn.s
  have hp := hn.p
  have hsp := hR.sp
  have HWL := Lib.hid (show (winL y.x.es (max place y.x.s - y.x.s)).length ≤ 50000 from Nat.le_trans (winL_le _ _) hn.l)
  have hv := settleS_win hR place t
  clear hn hR
  obtain ⟨q, hq⟩ : ∃ q, max place y.x.s = q := ⟨_, rfl⟩
  obtain ⟨T, hT⟩ : ∃ T, max y.x.t t = T := ⟨_, rfl⟩
  obtain ⟨P, hPP⟩ : ∃ P, max y.x.p place = P := ⟨_, rfl⟩
  obtain ⟨d, hd⟩ : ∃ d, q - y.x.s = d := ⟨_, rfl⟩
  rw [hq, hd] at HWL
  rw [hq, hT, hPP, hd] at hv
  have HV := Lib.hid hv
  have f1 : IntKind.i64.wrap (q - y.x.s) = d := by rw [IntKind.wrap_i64]; omega
  clear hv
  rcases Int.lt_or_le y.x.t t with hmt | hmt
  · obtain rfl : t = T := by omega
    rcases Int.lt_or_le place y.x.s with hmp | hmp
    · obtain rfl : y.x.s = q := by omega
      obtain rfl : y.x.p = P := by omega
      obtain rfl : 0 = d := by omega
      have hmq : place ≤ y.x.p := by omega
      have hPQ : max y.x.p y.x.s = y.x.p := by omega
      clear hd f1
      have CW := Lib.hid (fun (wx : World) (h : y.ok wx) => window_any y.A y.c y.x.es (0) wx h)
      generalize winL y.x.es (0) = W at *
      have hP : smE.In ((w.alloc (.cells #[.int .i64 y.x.s, .int .i64 t, .int .i64 y.x.p, .slice y.A y.x.es.length y.c] 36)).alloc (.cells #[.int .i64 0, .int .i64 0, .int .i64 0, .slice none 0 0] 36)) w.heap.size ⟨y.A, y.c, ⟨y.x.s, t, y.x.p, y.x.es⟩⟩ := (El.In.new (E := smE) w ⟨y.A, y.c, ⟨y.x.s, t, y.x.p, y.x.es⟩⟩ _ rfl).alloc _
      have hZ := two_boxes w #[.int .i64 y.x.s, .int .i64 t, .int .i64 y.x.p, .slice y.A y.x.es.length y.c] #[.int .i64 0, .int .i64 0, .int .i64 0, .slice none 0 0] zeroSw rfl
      have hB1 := below_alloc (below_alloc (Below.refl w.heap.size w) (.cells #[.int .i64 y.x.s, .int .i64 t, .int .i64 y.x.p, .slice y.A y.x.es.length y.c] 36)) (.cells #[.int .i64 0, .int .i64 0, .int .i64 0, .slice none 0 0] 36)
      have hok1 := hok.below hB1
      go_enter Try.func36, Try.ntmps36
      go_wp2_with fail
      generalize (w.alloc (.cells #[.int .i64 y.x.s, .int .i64 t, .int .i64 y.x.p, .slice y.A y.x.es.length y.c] 36)).alloc (.cells #[.int .i64 0, .int .i64 0, .int .i64 0, .slice none 0 0] 36) = V1 at *
      obtain ⟨n3, h3⟩ : ∃ n, w.heap.size + 1 = n := ⟨_, rfl⟩
      obtain ⟨n1, h1⟩ : ∃ n, w.heap.size = n := ⟨_, rfl⟩
      rw [h3] at hZ ⊢
      rw [h1] at hP ⊢
      have hwn1 : w.heap.size ≤ n1 := by omega
      have hwn3 : w.heap.size ≤ n3 := by omega
      have hn13 : n1 < n3 := by omega
      clear h1 h3
      have hP1 := hP
      have hZ1 := hZ
      clear hP hZ hok
      obtain ⟨p0, p1, p2, p3⟩ := smIn4 hP1
      refine (CW.out _ hok1).mono ?_
      rintro r V1 ⟨A1, c1, rfl, hT1, rfl⟩
      clear CW hok1
      have CC := Lib.hid (cloneEn_any A1 c1 W V1 HWL.out hT1)
      clear hT1
      go_wp2_with fail
      refine CC.out.mono ?_
      rintro r w2 ⟨A', c', rfl, hS, hf, hb2⟩
      have hn1w : n1 < V1.heap.size := hP1.lt
      clear CC p0 p1 p2 p3
      have hP2 := hP1.below hb2
      have hZ2 := hZ1.below hb2
      have hB2 := below_then hB1 hb2
      clear hP1 hZ1 hB1 hb2
      obtain ⟨p0, p1, p2, p3⟩ := smIn4 hP2
      have pf := hP2.frozen
      have hfr1 : ∀ a, A' = some a → some a.block ≠ some n1 := fun a e e2 => by have := hf a e; have := Option.some.inj e2; omega
      have g1 := by_cell w2 n1 3 (.slice A' W.length c')
      have hS1 := SlV.keepN hS g1 (fun _ => hfr1)
      have hB3 := hB2.grown g1 hB2.size (fun k e => by have := Option.some.inj e; omega)
      have g2 := by_cell (w2.setCell ⟨n1, 3, none⟩ (.slice A' W.length c')) n1 0 (.int .i64 y.x.s)
      have hS2 := SlV.keepN hS1 g2 (fun _ => hfr1)
      have hB4 := hB3.grown g2 hB3.size (fun k e => by have := Option.some.inj e; omega)
      have g3 := by_cell ((w2.setCell ⟨n1, 3, none⟩ (.slice A' W.length c')).setCell ⟨n1, 0, none⟩ (.int .i64 y.x.s)) n1 2 (.int .i64 y.x.p)
      have hS3 := SlV.keepN hS2 g3 (fun _ => hfr1)
      have hB5 := hB4.grown g3 hB4.size (fun k e => by have := Option.some.inj e; omega)
      have hP3 := ((hP2.put ⟨A', c', ⟨y.x.s, t, y.x.p, W⟩⟩ 3 (.slice A' W.length c') rfl).put ⟨A', c', ⟨y.x.s, t, y.x.p, W⟩⟩ 0 (.int .i64 y.x.s) rfl).put ⟨A', c', ⟨y.x.s, t, y.x.p, W⟩⟩ 2 (.int .i64 y.x.p) rfl
      have hZ3 := ((hZ2.other n1 3 (.slice A' W.length c') (by omega)).other n1 0 (.int .i64 y.x.s) (by omega)).other n1 2 (.int .i64 y.x.p) (by omega)
      clear g1 g2 g3 hS hS1 hS2 hB2 hB3 hB4 hP2 hZ2 hfr1
      go_upto_region 6 with fail
      clear p0 p1 p2 p3 pf
      generalize ((w2.setCell ⟨n1, 3, none⟩ (.slice A' W.length c')).setCell ⟨n1, 0, none⟩ (.int .i64 y.x.s)).setCell ⟨n1, 2, none⟩ (.int .i64 (y.x.p)) = W9 at *
      go_wp2_with (first | (refine El.load smRow rfl _ rfl n1 0 rfl ⟨A', c', ⟨y.x.s, t, y.x.p, W⟩⟩ hP3.at #[.int .i64 y.x.s, .int .i64 t, .int .i64 y.x.p, .slice A' W.length c'] rfl ?_) | (refine El.store smRow rfl _ _ rfl n3 ⟨A', c', ⟨y.x.s, t, y.x.p, W⟩⟩ #[.int .i64 y.x.s, .int .i64 t, .int .i64 y.x.p, .slice A' W.length c'] rfl rfl rfl zeroSw hZ3 ?_) | fail)
      refine El.ret1 smRow (hZ3.set ⟨A', c', ⟨y.x.s, t, y.x.p, W⟩⟩ _ rfl) rfl rfl rfl _ rfl ?_
      exact ⟨⟨A', c', ⟨y.x.s, t, y.x.p, W⟩⟩, rfl, HV.out.symm, SlV.keepN hS3 (by_row _ n3 _) (sm_off hS3.1 hZ3), below_setRow hB5 hwn3 _⟩
    · obtain rfl : place = q := by omega
      obtain rfl : place - y.x.s = d := by omega
      clear hd
      rcases Int.lt_or_le y.x.p place with hmq | hmq
      · obtain rfl : place = P := by omega
        skip
        have CW := Lib.hid (fun (wx : World) (h : y.ok wx) => window_any y.A y.c y.x.es (place - y.x.s) wx h)
        generalize winL y.x.es (place - y.x.s) = W at *
        have hP : smE.In ((w.alloc (.cells #[.int .i64 y.x.s, .int .i64 t, .int .i64 y.x.p, .slice y.A y.x.es.length y.c] 36)).alloc (.cells #[.int .i64 0, .int .i64 0, .int .i64 0, .slice none 0 0] 36)) w.heap.size ⟨y.A, y.c, ⟨y.x.s, t, y.x.p, y.x.es⟩⟩ := (El.In.new (E := smE) w ⟨y.A, y.c, ⟨y.x.s, t, y.x.p, y.x.es⟩⟩ _ rfl).alloc _
        have hZ := two_boxes w #[.int .i64 y.x.s, .int .i64 t, .int .i64 y.x.p, .slice y.A y.x.es.length y.c] #[.int .i64 0, .int .i64 0, .int .i64 0, .slice none 0 0] zeroSw rfl
        have hB1 := below_alloc (below_alloc (Below.refl w.heap.size w) (.cells #[.int .i64 y.x.s, .int .i64 t, .int .i64 y.x.p, .slice y.A y.x.es.length y.c] 36)) (.cells #[.int .i64 0, .int .i64 0, .int .i64 0, .slice none 0 0] 36)
        have hok1 := hok.below hB1
        go_enter Try.func36, Try.ntmps36
        go_wp2_with fail
        generalize (w.alloc (.cells #[.int .i64 y.x.s, .int .i64 t, .int .i64 y.x.p, .slice y.A y.x.es.length y.c] 36)).alloc (.cells #[.int .i64 0, .int .i64 0, .int .i64 0, .slice none 0 0] 36) = V1 at *
        obtain ⟨n3, h3⟩ : ∃ n, w.heap.size + 1 = n := ⟨_, rfl⟩
        obtain ⟨n1, h1⟩ : ∃ n, w.heap.size = n := ⟨_, rfl⟩
        rw [h3] at hZ ⊢
        rw [h1] at hP ⊢
        have hwn1 : w.heap.size ≤ n1 := by omega
        have hwn3 : w.heap.size ≤ n3 := by omega
        have hn13 : n1 < n3 := by omega
        clear h1 h3
        have hP1 := hP
        have hZ1 := hZ
        clear hP hZ hok
        obtain ⟨p0, p1, p2, p3⟩ := smIn4 hP1
        refine (CW.out _ hok1).mono ?_
        rintro r V1 ⟨A1, c1, rfl, hT1, rfl⟩
        clear CW hok1
        have CC := Lib.hid (cloneEn_any A1 c1 W V1 HWL.out hT1)
        clear hT1
        go_wp2_with fail
        refine CC.out.mono ?_
        rintro r w2 ⟨A', c', rfl, hS, hf, hb2⟩
        have hn1w : n1 < V1.heap.size := hP1.lt
        clear CC p0 p1 p2 p3
        have hP2 := hP1.below hb2
        have hZ2 := hZ1.below hb2
        have hB2 := below_then hB1 hb2
        clear hP1 hZ1 hB1 hb2
        obtain ⟨p0, p1, p2, p3⟩ := smIn4 hP2
        have pf := hP2.frozen
        have hfr1 : ∀ a, A' = some a → some a.block ≠ some n1 := fun a e e2 => by have := hf a e; have := Option.some.inj e2; omega
        have g1 := by_cell w2 n1 3 (.slice A' W.length c')
        have hS1 := SlV.keepN hS g1 (fun _ => hfr1)
        have hB3 := hB2.grown g1 hB2.size (fun k e => by have := Option.some.inj e; omega)
        have g2 := by_cell (w2.setCell ⟨n1, 3, none⟩ (.slice A' W.length c')) n1 0 (.int .i64 place)
        have hS2 := SlV.keepN hS1 g2 (fun _ => hfr1)
        have hB4 := hB3.grown g2 hB3.size (fun k e => by have := Option.some.inj e; omega)
        have g3 := by_cell ((w2.setCell ⟨n1, 3, none⟩ (.slice A' W.length c')).setCell ⟨n1, 0, none⟩ (.int .i64 place)) n1 2 (.int .i64 place)
        have hS3 := SlV.keepN hS2 g3 (fun _ => hfr1)
        have hB5 := hB4.grown g3 hB4.size (fun k e => by have := Option.some.inj e; omega)
        have hP3 := ((hP2.put ⟨A', c', ⟨y.x.s, t, y.x.p, W⟩⟩ 3 (.slice A' W.length c') rfl).put ⟨A', c', ⟨place, t, y.x.p, W⟩⟩ 0 (.int .i64 place) rfl).put ⟨A', c', ⟨place, t, place, W⟩⟩ 2 (.int .i64 place) rfl
        have hZ3 := ((hZ2.other n1 3 (.slice A' W.length c') (by omega)).other n1 0 (.int .i64 place) (by omega)).other n1 2 (.int .i64 place) (by omega)
        clear g1 g2 g3 hS hS1 hS2 hB2 hB3 hB4 hP2 hZ2 hfr1
        go_upto_region 6 with fail
        clear p0 p1 p2 p3 pf
        generalize ((w2.setCell ⟨n1, 3, none⟩ (.slice A' W.length c')).setCell ⟨n1, 0, none⟩ (.int .i64 place)).setCell ⟨n1, 2, none⟩ (.int .i64 (place)) = W9 at *
        go_wp2_with (first | (refine El.load smRow rfl _ rfl n1 0 rfl ⟨A', c', ⟨place, t, place, W⟩⟩ hP3.at #[.int .i64 place, .int .i64 t, .int .i64 place, .slice A' W.length c'] rfl ?_) | (refine El.store smRow rfl _ _ rfl n3 ⟨A', c', ⟨place, t, place, W⟩⟩ #[.int .i64 place, .int .i64 t, .int .i64 place, .slice A' W.length c'] rfl rfl rfl zeroSw hZ3 ?_) | fail)
        refine El.ret1 smRow (hZ3.set ⟨A', c', ⟨place, t, place, W⟩⟩ _ rfl) rfl rfl rfl _ rfl ?_
        exact ⟨⟨A', c', ⟨place, t, place, W⟩⟩, rfl, HV.out.symm, SlV.keepN hS3 (by_row _ n3 _) (sm_off hS3.1 hZ3), below_setRow hB5 hwn3 _⟩
      · obtain rfl : y.x.p = P := by omega
        skip
        have CW := Lib.hid (fun (wx : World) (h : y.ok wx) => window_any y.A y.c y.x.es (place - y.x.s) wx h)
        generalize winL y.x.es (place - y.x.s) = W at *
        have hP : smE.In ((w.alloc (.cells #[.int .i64 y.x.s, .int .i64 t, .int .i64 y.x.p, .slice y.A y.x.es.length y.c] 36)).alloc (.cells #[.int .i64 0, .int .i64 0, .int .i64 0, .slice none 0 0] 36)) w.heap.size ⟨y.A, y.c, ⟨y.x.s, t, y.x.p, y.x.es⟩⟩ := (El.In.new (E := smE) w ⟨y.A, y.c, ⟨y.x.s, t, y.x.p, y.x.es⟩⟩ _ rfl).alloc _
        have hZ := two_boxes w #[.int .i64 y.x.s, .int .i64 t, .int .i64 y.x.p, .slice y.A y.x.es.length y.c] #[.int .i64 0, .int .i64 0, .int .i64 0, .slice none 0 0] zeroSw rfl
        have hB1 := below_alloc (below_alloc (Below.refl w.heap.size w) (.cells #[.int .i64 y.x.s, .int .i64 t, .int .i64 y.x.p, .slice y.A y.x.es.length y.c] 36)) (.cells #[.int .i64 0, .int .i64 0, .int .i64 0, .slice none 0 0] 36)
        have hok1 := hok.below hB1
        go_enter Try.func36, Try.ntmps36
        go_wp2_with fail
        generalize (w.alloc (.cells #[.int .i64 y.x.s, .int .i64 t, .int .i64 y.x.p, .slice y.A y.x.es.length y.c] 36)).alloc (.cells #[.int .i64 0, .int .i64 0, .int .i64 0, .slice none 0 0] 36) = V1 at *
        obtain ⟨n3, h3⟩ : ∃ n, w.heap.size + 1 = n := ⟨_, rfl⟩
        obtain ⟨n1, h1⟩ : ∃ n, w.heap.size = n := ⟨_, rfl⟩
        rw [h3] at hZ ⊢
        rw [h1] at hP ⊢
        have hwn1 : w.heap.size ≤ n1 := by omega
        have hwn3 : w.heap.size ≤ n3 := by omega
        have hn13 : n1 < n3 := by omega
        clear h1 h3
        have hP1 := hP
        have hZ1 := hZ
        clear hP hZ hok
        obtain ⟨p0, p1, p2, p3⟩ := smIn4 hP1
        refine (CW.out _ hok1).mono ?_
        rintro r V1 ⟨A1, c1, rfl, hT1, rfl⟩
        clear CW hok1
        have CC := Lib.hid (cloneEn_any A1 c1 W V1 HWL.out hT1)
        clear hT1
        go_wp2_with fail
        refine CC.out.mono ?_
        rintro r w2 ⟨A', c', rfl, hS, hf, hb2⟩
        have hn1w : n1 < V1.heap.size := hP1.lt
        clear CC p0 p1 p2 p3
        have hP2 := hP1.below hb2
        have hZ2 := hZ1.below hb2
        have hB2 := below_then hB1 hb2
        clear hP1 hZ1 hB1 hb2
        obtain ⟨p0, p1, p2, p3⟩ := smIn4 hP2
        have pf := hP2.frozen
        have hfr1 : ∀ a, A' = some a → some a.block ≠ some n1 := fun a e e2 => by have := hf a e; have := Option.some.inj e2; omega
        have g1 := by_cell w2 n1 3 (.slice A' W.length c')
        have hS1 := SlV.keepN hS g1 (fun _ => hfr1)
        have hB3 := hB2.grown g1 hB2.size (fun k e => by have := Option.some.inj e; omega)
        have g2 := by_cell (w2.setCell ⟨n1, 3, none⟩ (.slice A' W.length c')) n1 0 (.int .i64 place)
        have hS2 := SlV.keepN hS1 g2 (fun _ => hfr1)
        have hB4 := hB3.grown g2 hB3.size (fun k e => by have := Option.some.inj e; omega)
        have g3 := by_cell ((w2.setCell ⟨n1, 3, none⟩ (.slice A' W.length c')).setCell ⟨n1, 0, none⟩ (.int .i64 place)) n1 2 (.int .i64 y.x.p)
        have hS3 := SlV.keepN hS2 g3 (fun _ => hfr1)
        have hB5 := hB4.grown g3 hB4.size (fun k e => by have := Option.some.inj e; omega)
        have hP3 := ((hP2.put ⟨A', c', ⟨y.x.s, t, y.x.p, W⟩⟩ 3 (.slice A' W.length c') rfl).put ⟨A', c', ⟨place, t, y.x.p, W⟩⟩ 0 (.int .i64 place) rfl).put ⟨A', c', ⟨place, t, y.x.p, W⟩⟩ 2 (.int .i64 y.x.p) rfl
        have hZ3 := ((hZ2.other n1 3 (.slice A' W.length c') (by omega)).other n1 0 (.int .i64 place) (by omega)).other n1 2 (.int .i64 y.x.p) (by omega)
        clear g1 g2 g3 hS hS1 hS2 hB2 hB3 hB4 hP2 hZ2 hfr1
        go_upto_region 6 with fail
        clear p0 p1 p2 p3 pf
        generalize ((w2.setCell ⟨n1, 3, none⟩ (.slice A' W.length c')).setCell ⟨n1, 0, none⟩ (.int .i64 place)).setCell ⟨n1, 2, none⟩ (.int .i64 (y.x.p)) = W9 at *
        go_wp2_with (first | (refine El.load smRow rfl _ rfl n1 0 rfl ⟨A', c', ⟨place, t, y.x.p, W⟩⟩ hP3.at #[.int .i64 place, .int .i64 t, .int .i64 y.x.p, .slice A' W.length c'] rfl ?_) | (refine El.store smRow rfl _ _ rfl n3 ⟨A', c', ⟨place, t, y.x.p, W⟩⟩ #[.int .i64 place, .int .i64 t, .int .i64 y.x.p, .slice A' W.length c'] rfl rfl rfl zeroSw hZ3 ?_) | fail)
        refine El.ret1 smRow (hZ3.set ⟨A', c', ⟨place, t, y.x.p, W⟩⟩ _ rfl) rfl rfl rfl _ rfl ?_
        exact ⟨⟨A', c', ⟨place, t, y.x.p, W⟩⟩, rfl, HV.out.symm, SlV.keepN hS3 (by_row _ n3 _) (sm_off hS3.1 hZ3), below_setRow hB5 hwn3 _⟩
  · obtain rfl : y.x.t = T := by omega
    rcases Int.lt_or_le place y.x.s with hmp | hmp
    · obtain rfl : y.x.s = q := by omega
      obtain rfl : y.x.p = P := by omega
      obtain rfl : 0 = d := by omega
      have hmq : place ≤ y.x.p := by omega
      have hPQ : max y.x.p y.x.s = y.x.p := by omega
      clear hd f1
      have CW := Lib.hid (fun (wx : World) (h : y.ok wx) => window_any y.A y.c y.x.es (0) wx h)
      generalize winL y.x.es (0) = W at *
      have hP : smE.In ((w.alloc (.cells #[.int .i64 y.x.s, .int .i64 y.x.t, .int .i64 y.x.p, .slice y.A y.x.es.length y.c] 36)).alloc (.cells #[.int .i64 0, .int .i64 0, .int .i64 0, .slice none 0 0] 36)) w.heap.size ⟨y.A, y.c, ⟨y.x.s, y.x.t, y.x.p, y.x.es⟩⟩ := (El.In.new (E := smE) w ⟨y.A, y.c, ⟨y.x.s, y.x.t, y.x.p, y.x.es⟩⟩ _ rfl).alloc _
      have hZ := two_boxes w #[.int .i64 y.x.s, .int .i64 y.x.t, .int .i64 y.x.p, .slice y.A y.x.es.length y.c] #[.int .i64 0, .int .i64 0, .int .i64 0, .slice none 0 0] zeroSw rfl
      have hB1 := below_alloc (below_alloc (Below.refl w.heap.size w) (.cells #[.int .i64 y.x.s, .int .i64 y.x.t, .int .i64 y.x.p, .slice y.A y.x.es.length y.c] 36)) (.cells #[.int .i64 0, .int .i64 0, .int .i64 0, .slice none 0 0] 36)
      have hok1 := hok.below hB1
      go_enter Try.func36, Try.ntmps36
      go_wp2_with fail
      generalize (w.alloc (.cells #[.int .i64 y.x.s, .int .i64 y.x.t, .int .i64 y.x.p, .slice y.A y.x.es.length y.c] 36)).alloc (.cells #[.int .i64 0, .int .i64 0, .int .i64 0, .slice none 0 0] 36) = V1 at *
      obtain ⟨n3, h3⟩ : ∃ n, w.heap.size + 1 = n := ⟨_, rfl⟩
      obtain ⟨n1, h1⟩ : ∃ n, w.heap.size = n := ⟨_, rfl⟩
      rw [h3] at hZ ⊢
      rw [h1] at hP ⊢
      have hwn1 : w.heap.size ≤ n1 := by omega
      have hwn3 : w.heap.size ≤ n3 := by omega
      have hn13 : n1 < n3 := by omega
      clear h1 h3
      have hP1 := hP
      have hZ1 := hZ
      clear hP hZ hok
      obtain ⟨p0, p1, p2, p3⟩ := smIn4 hP1
      refine (CW.out _ hok1).mono ?_
      rintro r V1 ⟨A1, c1, rfl, hT1, rfl⟩
      clear CW hok1
      have CC := Lib.hid (cloneEn_any A1 c1 W V1 HWL.out hT1)
      clear hT1
      go_wp2_with fail
      refine CC.out.mono ?_
      rintro r w2 ⟨A', c', rfl, hS, hf, hb2⟩
      have hn1w : n1 < V1.heap.size := hP1.lt
      clear CC p0 p1 p2 p3
      have hP2 := hP1.below hb2
      have hZ2 := hZ1.below hb2
      have hB2 := below_then hB1 hb2
      clear hP1 hZ1 hB1 hb2
      obtain ⟨p0, p1, p2, p3⟩ := smIn4 hP2
      have pf := hP2.frozen
      have hfr1 : ∀ a, A' = some a → some a.block ≠ some n1 := fun a e e2 => by have := hf a e; have := Option.some.inj e2; omega
      have g1 := by_cell w2 n1 3 (.slice A' W.length c')
      have hS1 := SlV.keepN hS g1 (fun _ => hfr1)
      have hB3 := hB2.grown g1 hB2.size (fun k e => by have := Option.some.inj e; omega)
      have g2 := by_cell (w2.setCell ⟨n1, 3, none⟩ (.slice A' W.length c')) n1 0 (.int .i64 y.x.s)
      have hS2 := SlV.keepN hS1 g2 (fun _ => hfr1)
      have hB4 := hB3.grown g2 hB3.size (fun k e => by have := Option.some.inj e; omega)
      have g3 := by_cell ((w2.setCell ⟨n1, 3, none⟩ (.slice A' W.length c')).setCell ⟨n1, 0, none⟩ (.int .i64 y.x.s)) n1 2 (.int .i64 y.x.p)
      have hS3 := SlV.keepN hS2 g3 (fun _ => hfr1)
      have hB5 := hB4.grown g3 hB4.size (fun k e => by have := Option.some.inj e; omega)
      have hP3 := ((hP2.put ⟨A', c', ⟨y.x.s, y.x.t, y.x.p, W⟩⟩ 3 (.slice A' W.length c') rfl).put ⟨A', c', ⟨y.x.s, y.x.t, y.x.p, W⟩⟩ 0 (.int .i64 y.x.s) rfl).put ⟨A', c', ⟨y.x.s, y.x.t, y.x.p, W⟩⟩ 2 (.int .i64 y.x.p) rfl
      have hZ3 := ((hZ2.other n1 3 (.slice A' W.length c') (by omega)).other n1 0 (.int .i64 y.x.s) (by omega)).other n1 2 (.int .i64 y.x.p) (by omega)
      clear g1 g2 g3 hS hS1 hS2 hB2 hB3 hB4 hP2 hZ2 hfr1
      go_upto_region 6 with fail
      clear p0 p1 p2 p3 pf
      generalize ((w2.setCell ⟨n1, 3, none⟩ (.slice A' W.length c')).setCell ⟨n1, 0, none⟩ (.int .i64 y.x.s)).setCell ⟨n1, 2, none⟩ (.int .i64 (y.x.p)) = W9 at *
      go_wp2_with (first | (refine El.load smRow rfl _ rfl n1 0 rfl ⟨A', c', ⟨y.x.s, y.x.t, y.x.p, W⟩⟩ hP3.at #[.int .i64 y.x.s, .int .i64 y.x.t, .int .i64 y.x.p, .slice A' W.length c'] rfl ?_) | (refine El.store smRow rfl _ _ rfl n3 ⟨A', c', ⟨y.x.s, y.x.t, y.x.p, W⟩⟩ #[.int .i64 y.x.s, .int .i64 y.x.t, .int .i64 y.x.p, .slice A' W.length c'] rfl rfl rfl zeroSw hZ3 ?_) | fail)
      refine El.ret1 smRow (hZ3.set ⟨A', c', ⟨y.x.s, y.x.t, y.x.p, W⟩⟩ _ rfl) rfl rfl rfl _ rfl ?_
      exact ⟨⟨A', c', ⟨y.x.s, y.x.t, y.x.p, W⟩⟩, rfl, HV.out.symm, SlV.keepN hS3 (by_row _ n3 _) (sm_off hS3.1 hZ3), below_setRow hB5 hwn3 _⟩
    · obtain rfl : place = q := by omega
      obtain rfl : place - y.x.s = d := by omega
      clear hd
      rcases Int.lt_or_le y.x.p place with hmq | hmq
      · obtain rfl : place = P := by omega
        skip
        have CW := Lib.hid (fun (wx : World) (h : y.ok wx) => window_any y.A y.c y.x.es (place - y.x.s) wx h)
        generalize winL y.x.es (place - y.x.s) = W at *
        have hP : smE.In ((w.alloc (.cells #[.int .i64 y.x.s, .int .i64 y.x.t, .int .i64 y.x.p, .slice y.A y.x.es.length y.c] 36)).alloc (.cells #[.int .i64 0, .int .i64 0, .int .i64 0, .slice none 0 0] 36)) w.heap.size ⟨y.A, y.c, ⟨y.x.s, y.x.t, y.x.p, y.x.es⟩⟩ := (El.In.new (E := smE) w ⟨y.A, y.c, ⟨y.x.s, y.x.t, y.x.p, y.x.es⟩⟩ _ rfl).alloc _
        have hZ := two_boxes w #[.int .i64 y.x.s, .int .i64 y.x.t, .int .i64 y.x.p, .slice y.A y.x.es.length y.c] #[.int .i64 0, .int .i64 0, .int .i64 0, .slice none 0 0] zeroSw rfl
        have hB1 := below_alloc (below_alloc (Below.refl w.heap.size w) (.cells #[.int .i64 y.x.s, .int .i64 y.x.t, .int .i64 y.x.p, .slice y.A y.x.es.length y.c] 36)) (.cells #[.int .i64 0, .int .i64 0, .int .i64 0, .slice none 0 0] 36)
        have hok1 := hok.below hB1
        go_enter Try.func36, Try.ntmps36
        go_wp2_with fail
        generalize (w.alloc (.cells #[.int .i64 y.x.s, .int .i64 y.x.t, .int .i64 y.x.p, .slice y.A y.x.es.length y.c] 36)).alloc (.cells #[.int .i64 0, .int .i64 0, .int .i64 0, .slice none 0 0] 36) = V1 at *
        obtain ⟨n3, h3⟩ : ∃ n, w.heap.size + 1 = n := ⟨_, rfl⟩
        obtain ⟨n1, h1⟩ : ∃ n, w.heap.size = n := ⟨_, rfl⟩
        rw [h3] at hZ ⊢
        rw [h1] at hP ⊢
        have hwn1 : w.heap.size ≤ n1 := by omega
        have hwn3 : w.heap.size ≤ n3 := by omega
        have hn13 : n1 < n3 := by omega
        clear h1 h3
        have hP1 := hP
        have hZ1 := hZ
        clear hP hZ hok
        obtain ⟨p0, p1, p2, p3⟩ := smIn4 hP1
        refine (CW.out _ hok1).mono ?_
        rintro r V1 ⟨A1, c1, rfl, hT1, rfl⟩
        clear CW hok1
        have CC := Lib.hid (cloneEn_any A1 c1 W V1 HWL.out hT1)
        clear hT1
        go_wp2_with fail
        refine CC.out.mono ?_
        rintro r w2 ⟨A', c', rfl, hS, hf, hb2⟩
        have hn1w : n1 < V1.heap.size := hP1.lt
        clear CC p0 p1 p2 p3
        have hP2 := hP1.below hb2
        have hZ2 := hZ1.below hb2
        have hB2 := below_then hB1 hb2
        clear hP1 hZ1 hB1 hb2
        obtain ⟨p0, p1, p2, p3⟩ := smIn4 hP2
        have pf := hP2.frozen
        have hfr1 : ∀ a, A' = some a → some a.block ≠ some n1 := fun a e e2 => by have := hf a e; have := Option.some.inj e2; omega
        have g1 := by_cell w2 n1 3 (.slice A' W.length c')
        have hS1 := SlV.keepN hS g1 (fun _ => hfr1)
        have hB3 := hB2.grown g1 hB2.size (fun k e => by have := Option.some.inj e; omega)
        have g2 := by_cell (w2.setCell ⟨n1, 3, none⟩ (.slice A' W.length c')) n1 0 (.int .i64 place)
        have hS2 := SlV.keepN hS1 g2 (fun _ => hfr1)
        have hB4 := hB3.grown g2 hB3.size (fun k e => by have := Option.some.inj e; omega)
        have g3 := by_cell ((w2.setCell ⟨n1, 3, none⟩ (.slice A' W.length c')).setCell ⟨n1, 0, none⟩ (.int .i64 place)) n1 2 (.int .i64 place)
        have hS3 := SlV.keepN hS2 g3 (fun _ => hfr1)
        have hB5 := hB4.grown g3 hB4.size (fun k e => by have := Option.some.inj e; omega)
        have hP3 := ((hP2.put ⟨A', c', ⟨y.x.s, y.x.t, y.x.p, W⟩⟩ 3 (.slice A' W.length c') rfl).put ⟨A', c', ⟨place, y.x.t, y.x.p, W⟩⟩ 0 (.int .i64 place) rfl).put ⟨A', c', ⟨place, y.x.t, place, W⟩⟩ 2 (.int .i64 place) rfl
        have hZ3 := ((hZ2.other n1 3 (.slice A' W.length c') (by omega)).other n1 0 (.int .i64 place) (by omega)).other n1 2 (.int .i64 place) (by omega)
        clear g1 g2 g3 hS hS1 hS2 hB2 hB3 hB4 hP2 hZ2 hfr1
        go_upto_region 6 with fail
        clear p0 p1 p2 p3 pf
        generalize ((w2.setCell ⟨n1, 3, none⟩ (.slice A' W.length c')).setCell ⟨n1, 0, none⟩ (.int .i64 place)).setCell ⟨n1, 2, none⟩ (.int .i64 (place)) = W9 at *
        go_wp2_with (first | (refine El.load smRow rfl _ rfl n1 0 rfl ⟨A', c', ⟨place, y.x.t, place, W⟩⟩ hP3.at #[.int .i64 place, .int .i64 y.x.t, .int .i64 place, .slice A' W.length c'] rfl ?_) | (refine El.store smRow rfl _ _ rfl n3 ⟨A', c', ⟨place, y.x.t, place, W⟩⟩ #[.int .i64 place, .int .i64 y.x.t, .int .i64 place, .slice A' W.length c'] rfl rfl rfl zeroSw hZ3 ?_) | fail)
        refine El.ret1 smRow (hZ3.set ⟨A', c', ⟨place, y.x.t, place, W⟩⟩ _ rfl) rfl rfl rfl _ rfl ?_
        exact ⟨⟨A', c', ⟨place, y.x.t, place, W⟩⟩, rfl, HV.out.symm, SlV.keepN hS3 (by_row _ n3 _) (sm_off hS3.1 hZ3), below_setRow hB5 hwn3 _⟩
      · obtain rfl : y.x.p = P := by omega
        skip
        have CW := Lib.hid (fun (wx : World) (h : y.ok wx) => window_any y.A y.c y.x.es (place - y.x.s) wx h)
        generalize winL y.x.es (place - y.x.s) = W at *
        have hP : smE.In ((w.alloc (.cells #[.int .i64 y.x.s, .int .i64 y.x.t, .int .i64 y.x.p, .slice y.A y.x.es.length y.c] 36)).alloc (.cells #[.int .i64 0, .int .i64 0, .int .i64 0, .slice none 0 0] 36)) w.heap.size ⟨y.A, y.c, ⟨y.x.s, y.x.t, y.x.p, y.x.es⟩⟩ := (El.In.new (E := smE) w ⟨y.A, y.c, ⟨y.x.s, y.x.t, y.x.p, y.x.es⟩⟩ _ rfl).alloc _
        have hZ := two_boxes w #[.int .i64 y.x.s, .int .i64 y.x.t, .int .i64 y.x.p, .slice y.A y.x.es.length y.c] #[.int .i64 0, .int .i64 0, .int .i64 0, .slice none 0 0] zeroSw rfl
        have hB1 := below_alloc (below_alloc (Below.refl w.heap.size w) (.cells #[.int .i64 y.x.s, .int .i64 y.x.t, .int .i64 y.x.p, .slice y.A y.x.es.length y.c] 36)) (.cells #[.int .i64 0, .int .i64 0, .int .i64 0, .slice none 0 0] 36)
        have hok1 := hok.below hB1
        go_enter Try.func36, Try.ntmps36
        go_wp2_with fail
        generalize (w.alloc (.cells #[.int .i64 y.x.s, .int .i64 y.x.t, .int .i64 y.x.p, .slice y.A y.x.es.length y.c] 36)).alloc (.cells #[.int .i64 0, .int .i64 0, .int .i64 0, .slice none 0 0] 36) = V1 at *
        obtain ⟨n3, h3⟩ : ∃ n, w.heap.size + 1 = n := ⟨_, rfl⟩
        obtain ⟨n1, h1⟩ : ∃ n, w.heap.size = n := ⟨_, rfl⟩
        rw [h3] at hZ ⊢
        rw [h1] at hP ⊢
        have hwn1 : w.heap.size ≤ n1 := by omega
        have hwn3 : w.heap.size ≤ n3 := by omega
        have hn13 : n1 < n3 := by omega
        clear h1 h3
        have hP1 := hP
        have hZ1 := hZ
        clear hP hZ hok
        obtain ⟨p0, p1, p2, p3⟩ := smIn4 hP1
        refine (CW.out _ hok1).mono ?_
        rintro r V1 ⟨A1, c1, rfl, hT1, rfl⟩
        clear CW hok1
        have CC := Lib.hid (cloneEn_any A1 c1 W V1 HWL.out hT1)
        clear hT1
        go_wp2_with fail
        refine CC.out.mono ?_
        rintro r w2 ⟨A', c', rfl, hS, hf, hb2⟩
        have hn1w : n1 < V1.heap.size := hP1.lt
        clear CC p0 p1 p2 p3
        have hP2 := hP1.below hb2
        have hZ2 := hZ1.below hb2
        have hB2 := below_then hB1 hb2
        clear hP1 hZ1 hB1 hb2
        obtain ⟨p0, p1, p2, p3⟩ := smIn4 hP2
        have pf := hP2.frozen
        have hfr1 : ∀ a, A' = some a → some a.block ≠ some n1 := fun a e e2 => by have := hf a e; have := Option.some.inj e2; omega
        have g1 := by_cell w2 n1 3 (.slice A' W.length c')
        have hS1 := SlV.keepN hS g1 (fun _ => hfr1)
        have hB3 := hB2.grown g1 hB2.size (fun k e => by have := Option.some.inj e; omega)
        have g2 := by_cell (w2.setCell ⟨n1, 3, none⟩ (.slice A' W.length c')) n1 0 (.int .i64 place)
        have hS2 := SlV.keepN hS1 g2 (fun _ => hfr1)
        have hB4 := hB3.grown g2 hB3.size (fun k e => by have := Option.some.inj e; omega)
        have g3 := by_cell ((w2.setCell ⟨n1, 3, none⟩ (.slice A' W.length c')).setCell ⟨n1, 0, none⟩ (.int .i64 place)) n1 2 (.int .i64 y.x.p)
        have hS3 := SlV.keepN hS2 g3 (fun _ => hfr1)
        have hB5 := hB4.grown g3 hB4.size (fun k e => by have := Option.some.inj e; omega)
        have hP3 := ((hP2.put ⟨A', c', ⟨y.x.s, y.x.t, y.x.p, W⟩⟩ 3 (.slice A' W.length c') rfl).put ⟨A', c', ⟨place, y.x.t, y.x.p, W⟩⟩ 0 (.int .i64 place) rfl).put ⟨A', c', ⟨place, y.x.t, y.x.p, W⟩⟩ 2 (.int .i64 y.x.p) rfl
        have hZ3 := ((hZ2.other n1 3 (.slice A' W.length c') (by omega)).other n1 0 (.int .i64 place) (by omega)).other n1 2 (.int .i64 y.x.p) (by omega)
        clear g1 g2 g3 hS hS1 hS2 hB2 hB3 hB4 hP2 hZ2 hfr1
        go_upto_region 6 with fail
        clear p0 p1 p2 p3 pf
        generalize ((w2.setCell ⟨n1, 3, none⟩ (.slice A' W.length c')).setCell ⟨n1, 0, none⟩ (.int .i64 place)).setCell ⟨n1, 2, none⟩ (.int .i64 (y.x.p)) = W9 at *
        go_wp2_with (first | (refine El.load smRow rfl _ rfl n1 0 rfl ⟨A', c', ⟨place, y.x.t, y.x.p, W⟩⟩ hP3.at #[.int .i64 place, .int .i64 y.x.t, .int .i64 y.x.p, .slice A' W.length c'] rfl ?_) | (refine El.store smRow rfl _ _ rfl n3 ⟨A', c', ⟨place, y.x.t, y.x.p, W⟩⟩ #[.int .i64 place, .int .i64 y.x.t, .int .i64 y.x.p, .slice A' W.length c'] rfl rfl rfl zeroSw hZ3 ?_) | fail)
        refine El.ret1 smRow (hZ3.set ⟨A', c', ⟨place, y.x.t, y.x.p, W⟩⟩ _ rfl) rfl rfl rfl _ rfl ?_
        exact ⟨⟨A', c', ⟨place, y.x.t, y.x.p, W⟩⟩, rfl, HV.out.symm, SlV.keepN hS3 (by_row _ n3 _) (sm_off hS3.1 hZ3), below_setRow hB5 hwn3 _⟩
end Go.Proofs.Ytnglpkfkepfkkaa

/- The program's relays: lowered. -/
namespace Go.Proofs.Ytnglpkfkepfkkaa
open Go.RowKit Nam Cod Pln

def MergeQQ (F : Qw → Qw → Act) (R : Qw → Qw → World → Prop) : Exit → Act → World → Prop
  | .normal, a, w => ∃ x y, a = F x y ∧ R x y w
  | _, _, _ => False
theorem wp_mergeQQ {P : Program} {c : Code} {Q : Exit → Act → World → Prop} {a : Act} {w : World} (R : Qw → Qw → World → Prop) {F : Qw → Qw → Act} (h : c.wp P (MergeQQ F R) a w) (k : ∀ x y w, R x y w → Q .normal (F x y) w) : c.wp P Q a w :=
  Code.wp_mono (fun e a w h => by
    cases e with
    | normal => obtain ⟨x, y, rfl, hr⟩ := h; exact k x y w hr
    | _ => exact h.elim) h
def MergeSS (F : Sw → Sw → Act) (R : Sw → Sw → World → Prop) : Exit → Act → World → Prop
  | .normal, a, w => ∃ x y, a = F x y ∧ R x y w
  | _, _, _ => False
theorem wp_mergeSS {P : Program} {c : Code} {Q : Exit → Act → World → Prop} {a : Act} {w : World} (R : Sw → Sw → World → Prop) {F : Sw → Sw → Act} (h : c.wp P (MergeSS F R) a w) (k : ∀ x y w, R x y w → Q .normal (F x y) w) : c.wp P Q a w :=
  Code.wp_mono (fun e a w h => by
    cases e with
    | normal => obtain ⟨x, y, rfl, hr⟩ := h; exact k x y w hr
    | _ => exact h.elim) h
def lowR (p : Pn) (x : Rlv) (f : Fr) : Rlv := { x with above := f.boot, q := allowQ (ackQ x.q f.ack) f.grant, st := downS (winP p) (settleS x.st f.s f.t) f.start f.es, gs := f.gs.foldl (gifStep p.u x.node) x.gs }
theorem downR_low (p : Pn) (x : Rlv) (f : Fr) : downR p x f = { lowR p x f with gs := pruneG (lowR p x f).rs (lowR p x f).gs } := rfl
theorem gifStep_prog {u : List Int} {n : Int} (hD : ∀ d, belowU u d n = true → (kindL u d = 3 ↔ d ≠ n)) (l : List Gf) (g : Gf) : gifStep u n l g = if (decide (kindL u g.d = 3) && belowU u g.d n) = true then mergeG l g else l := by
  unfold gifStep
  by_cases hb : belowU u g.d n = true
  · by_cases hd : g.d = n
    · rw [if_neg (fun e => e.2 hd), decide_eq_false (fun e => (hD _ hb).1 e hd), Bool.false_and, if_neg (by decide)]
    · rw [if_pos ⟨hb, hd⟩, decide_eq_true ((hD _ hb).2 hd), hb, if_pos (by rfl)]
  · rw [if_neg (fun e => hb e.1), if_neg (by rw [Bool.and_eq_true]; exact fun e => hb e.2)]
def qW (x : Rlw) (q : Qw) : Rlw := { x with qA := q.A, qc := q.c, q := q.x }
def sW (x : Rlw) (s : Sw) : Rlw := { x with eA := s.A, ec := s.c, st := s.x }
def gW (x : Rlw) (A : Option Addr) (c : Nat) (l : List Gf) : Rlw := { x with gA := A, gc := c, gs := l }
theorem lo_boxes (p : Pnw) (x : Rlw) (m : Fw) (w : World) :
    pnE.In ((((w.alloc (.cells #[.slice p.A p.p.u.length p.c, .int .i64 p.p.q, .int .i64 p.p.r, .int .i64 p.p.b, .int .i64 p.p.l, .int .i64 p.p.w, .int .i64 p.p.c, .int .i64 p.p.k, .int .i64 p.p.i] 33)).alloc (.cells #[.int .i64 x.node, .int .i64 x.boot, .int .i64 x.above, .int .i64 x.st.s, .int .i64 x.st.t, .int .i64 x.st.p, .slice x.eA x.st.es.length x.ec, .int .i64 x.q.f, .int .i64 x.q.g, .slice x.qA x.q.os.length x.qc, .slice x.kA x.ks.length x.kc, .slice x.rA x.rs.length x.rc, .slice x.gA x.gs.length x.gc, .slice none 0 0, .slice none 0 0, .int .i64 0, .slice none 0 0, .slice none 0 0, .slice none 0 0, .slice none 0 0, .int .i64 0, .int .i64 0, .int .i64 0, .int .i64 0, .slice none 0 0, .int .i64 0] 48)).alloc (.cells #[.int .i64 m.x.a, .int .i64 m.x.b, .int .i64 m.x.boot, .int .i64 m.x.first, .slice m.oA m.x.os.length m.oc, .int .i64 m.x.pos, .slice m.rA m.x.rs.length m.rc, .int .i64 m.x.start, .slice m.eA m.x.es.length m.ec, .int .i64 m.x.ack, .int .i64 m.x.grant, .int .i64 m.x.s, .int .i64 m.x.t, .slice m.gA m.x.gs.length m.gc] 28)).alloc (.cells #[.int .i64 0, .int .i64 0, .int .i64 0, .int .i64 0, .int .i64 0, .int .i64 0, .slice none 0 0, .int .i64 0, .int .i64 0, .slice none 0 0, .slice none 0 0, .slice none 0 0, .slice none 0 0, .slice none 0 0, .slice none 0 0, .int .i64 0, .slice none 0 0, .slice none 0 0, .slice none 0 0, .slice none 0 0, .int .i64 0, .int .i64 0, .int .i64 0, .int .i64 0, .slice none 0 0, .int .i64 0] 48)) w.heap.size p ∧ ryE.In ((((w.alloc (.cells #[.slice p.A p.p.u.length p.c, .int .i64 p.p.q, .int .i64 p.p.r, .int .i64 p.p.b, .int .i64 p.p.l, .int .i64 p.p.w, .int .i64 p.p.c, .int .i64 p.p.k, .int .i64 p.p.i] 33)).alloc (.cells #[.int .i64 x.node, .int .i64 x.boot, .int .i64 x.above, .int .i64 x.st.s, .int .i64 x.st.t, .int .i64 x.st.p, .slice x.eA x.st.es.length x.ec, .int .i64 x.q.f, .int .i64 x.q.g, .slice x.qA x.q.os.length x.qc, .slice x.kA x.ks.length x.kc, .slice x.rA x.rs.length x.rc, .slice x.gA x.gs.length x.gc, .slice none 0 0, .slice none 0 0, .int .i64 0, .slice none 0 0, .slice none 0 0, .slice none 0 0, .slice none 0 0, .int .i64 0, .int .i64 0, .int .i64 0, .int .i64 0, .slice none 0 0, .int .i64 0] 48)).alloc (.cells #[.int .i64 m.x.a, .int .i64 m.x.b, .int .i64 m.x.boot, .int .i64 m.x.first, .slice m.oA m.x.os.length m.oc, .int .i64 m.x.pos, .slice m.rA m.x.rs.length m.rc, .int .i64 m.x.start, .slice m.eA m.x.es.length m.ec, .int .i64 m.x.ack, .int .i64 m.x.grant, .int .i64 m.x.s, .int .i64 m.x.t, .slice m.gA m.x.gs.length m.gc] 28)).alloc (.cells #[.int .i64 0, .int .i64 0, .int .i64 0, .int .i64 0, .int .i64 0, .int .i64 0, .slice none 0 0, .int .i64 0, .int .i64 0, .slice none 0 0, .slice none 0 0, .slice none 0 0, .slice none 0 0, .slice none 0 0, .slice none 0 0, .int .i64 0, .slice none 0 0, .slice none 0 0, .slice none 0 0, .slice none 0 0, .int .i64 0, .int .i64 0, .int .i64 0, .int .i64 0, .slice none 0 0, .int .i64 0] 48)) (w.heap.size + 1) x ∧ frE.In ((((w.alloc (.cells #[.slice p.A p.p.u.length p.c, .int .i64 p.p.q, .int .i64 p.p.r, .int .i64 p.p.b, .int .i64 p.p.l, .int .i64 p.p.w, .int .i64 p.p.c, .int .i64 p.p.k, .int .i64 p.p.i] 33)).alloc (.cells #[.int .i64 x.node, .int .i64 x.boot, .int .i64 x.above, .int .i64 x.st.s, .int .i64 x.st.t, .int .i64 x.st.p, .slice x.eA x.st.es.length x.ec, .int .i64 x.q.f, .int .i64 x.q.g, .slice x.qA x.q.os.length x.qc, .slice x.kA x.ks.length x.kc, .slice x.rA x.rs.length x.rc, .slice x.gA x.gs.length x.gc, .slice none 0 0, .slice none 0 0, .int .i64 0, .slice none 0 0, .slice none 0 0, .slice none 0 0, .slice none 0 0, .int .i64 0, .int .i64 0, .int .i64 0, .int .i64 0, .slice none 0 0, .int .i64 0] 48)).alloc (.cells #[.int .i64 m.x.a, .int .i64 m.x.b, .int .i64 m.x.boot, .int .i64 m.x.first, .slice m.oA m.x.os.length m.oc, .int .i64 m.x.pos, .slice m.rA m.x.rs.length m.rc, .int .i64 m.x.start, .slice m.eA m.x.es.length m.ec, .int .i64 m.x.ack, .int .i64 m.x.grant, .int .i64 m.x.s, .int .i64 m.x.t, .slice m.gA m.x.gs.length m.gc] 28)).alloc (.cells #[.int .i64 0, .int .i64 0, .int .i64 0, .int .i64 0, .int .i64 0, .int .i64 0, .slice none 0 0, .int .i64 0, .int .i64 0, .slice none 0 0, .slice none 0 0, .slice none 0 0, .slice none 0 0, .slice none 0 0, .slice none 0 0, .int .i64 0, .slice none 0 0, .slice none 0 0, .slice none 0 0, .slice none 0 0, .int .i64 0, .int .i64 0, .int .i64 0, .int .i64 0, .slice none 0 0, .int .i64 0] 48)) (w.heap.size + 2) m ∧ ryE.In ((((w.alloc (.cells #[.slice p.A p.p.u.length p.c, .int .i64 p.p.q, .int .i64 p.p.r, .int .i64 p.p.b, .int .i64 p.p.l, .int .i64 p.p.w, .int .i64 p.p.c, .int .i64 p.p.k, .int .i64 p.p.i] 33)).alloc (.cells #[.int .i64 x.node, .int .i64 x.boot, .int .i64 x.above, .int .i64 x.st.s, .int .i64 x.st.t, .int .i64 x.st.p, .slice x.eA x.st.es.length x.ec, .int .i64 x.q.f, .int .i64 x.q.g, .slice x.qA x.q.os.length x.qc, .slice x.kA x.ks.length x.kc, .slice x.rA x.rs.length x.rc, .slice x.gA x.gs.length x.gc, .slice none 0 0, .slice none 0 0, .int .i64 0, .slice none 0 0, .slice none 0 0, .slice none 0 0, .slice none 0 0, .int .i64 0, .int .i64 0, .int .i64 0, .int .i64 0, .slice none 0 0, .int .i64 0] 48)).alloc (.cells #[.int .i64 m.x.a, .int .i64 m.x.b, .int .i64 m.x.boot, .int .i64 m.x.first, .slice m.oA m.x.os.length m.oc, .int .i64 m.x.pos, .slice m.rA m.x.rs.length m.rc, .int .i64 m.x.start, .slice m.eA m.x.es.length m.ec, .int .i64 m.x.ack, .int .i64 m.x.grant, .int .i64 m.x.s, .int .i64 m.x.t, .slice m.gA m.x.gs.length m.gc] 28)).alloc (.cells #[.int .i64 0, .int .i64 0, .int .i64 0, .int .i64 0, .int .i64 0, .int .i64 0, .slice none 0 0, .int .i64 0, .int .i64 0, .slice none 0 0, .slice none 0 0, .slice none 0 0, .slice none 0 0, .slice none 0 0, .slice none 0 0, .int .i64 0, .slice none 0 0, .slice none 0 0, .slice none 0 0, .slice none 0 0, .int .i64 0, .int .i64 0, .int .i64 0, .int .i64 0, .slice none 0 0, .int .i64 0] 48)) (w.heap.size + 3) Rlw.zero ∧ Below w.heap.size w ((((w.alloc (.cells #[.slice p.A p.p.u.length p.c, .int .i64 p.p.q, .int .i64 p.p.r, .int .i64 p.p.b, .int .i64 p.p.l, .int .i64 p.p.w, .int .i64 p.p.c, .int .i64 p.p.k, .int .i64 p.p.i] 33)).alloc (.cells #[.int .i64 x.node, .int .i64 x.boot, .int .i64 x.above, .int .i64 x.st.s, .int .i64 x.st.t, .int .i64 x.st.p, .slice x.eA x.st.es.length x.ec, .int .i64 x.q.f, .int .i64 x.q.g, .slice x.qA x.q.os.length x.qc, .slice x.kA x.ks.length x.kc, .slice x.rA x.rs.length x.rc, .slice x.gA x.gs.length x.gc, .slice none 0 0, .slice none 0 0, .int .i64 0, .slice none 0 0, .slice none 0 0, .slice none 0 0, .slice none 0 0, .int .i64 0, .int .i64 0, .int .i64 0, .int .i64 0, .slice none 0 0, .int .i64 0] 48)).alloc (.cells #[.int .i64 m.x.a, .int .i64 m.x.b, .int .i64 m.x.boot, .int .i64 m.x.first, .slice m.oA m.x.os.length m.oc, .int .i64 m.x.pos, .slice m.rA m.x.rs.length m.rc, .int .i64 m.x.start, .slice m.eA m.x.es.length m.ec, .int .i64 m.x.ack, .int .i64 m.x.grant, .int .i64 m.x.s, .int .i64 m.x.t, .slice m.gA m.x.gs.length m.gc] 28)).alloc (.cells #[.int .i64 0, .int .i64 0, .int .i64 0, .int .i64 0, .int .i64 0, .int .i64 0, .slice none 0 0, .int .i64 0, .int .i64 0, .slice none 0 0, .slice none 0 0, .slice none 0 0, .slice none 0 0, .slice none 0 0, .slice none 0 0, .int .i64 0, .slice none 0 0, .slice none 0 0, .slice none 0 0, .slice none 0 0, .int .i64 0, .int .i64 0, .int .i64 0, .int .i64 0, .slice none 0 0, .int .i64 0] 48)) := by
  have b0 := below_alloc (Below.refl w.heap.size w) (.cells #[.slice p.A p.p.u.length p.c, .int .i64 p.p.q, .int .i64 p.p.r, .int .i64 p.p.b, .int .i64 p.p.l, .int .i64 p.p.w, .int .i64 p.p.c, .int .i64 p.p.k, .int .i64 p.p.i] 33)
  have b1 := below_alloc (Below.refl (w.alloc (.cells #[.slice p.A p.p.u.length p.c, .int .i64 p.p.q, .int .i64 p.p.r, .int .i64 p.p.b, .int .i64 p.p.l, .int .i64 p.p.w, .int .i64 p.p.c, .int .i64 p.p.k, .int .i64 p.p.i] 33)).heap.size (w.alloc (.cells #[.slice p.A p.p.u.length p.c, .int .i64 p.p.q, .int .i64 p.p.r, .int .i64 p.p.b, .int .i64 p.p.l, .int .i64 p.p.w, .int .i64 p.p.c, .int .i64 p.p.k, .int .i64 p.p.i] 33))) (.cells #[.int .i64 x.node, .int .i64 x.boot, .int .i64 x.above, .int .i64 x.st.s, .int .i64 x.st.t, .int .i64 x.st.p, .slice x.eA x.st.es.length x.ec, .int .i64 x.q.f, .int .i64 x.q.g, .slice x.qA x.q.os.length x.qc, .slice x.kA x.ks.length x.kc, .slice x.rA x.rs.length x.rc, .slice x.gA x.gs.length x.gc, .slice none 0 0, .slice none 0 0, .int .i64 0, .slice none 0 0, .slice none 0 0, .slice none 0 0, .slice none 0 0, .int .i64 0, .int .i64 0, .int .i64 0, .int .i64 0, .slice none 0 0, .int .i64 0] 48)
  have b2 := below_alloc (Below.refl ((w.alloc (.cells #[.slice p.A p.p.u.length p.c, .int .i64 p.p.q, .int .i64 p.p.r, .int .i64 p.p.b, .int .i64 p.p.l, .int .i64 p.p.w, .int .i64 p.p.c, .int .i64 p.p.k, .int .i64 p.p.i] 33)).alloc (.cells #[.int .i64 x.node, .int .i64 x.boot, .int .i64 x.above, .int .i64 x.st.s, .int .i64 x.st.t, .int .i64 x.st.p, .slice x.eA x.st.es.length x.ec, .int .i64 x.q.f, .int .i64 x.q.g, .slice x.qA x.q.os.length x.qc, .slice x.kA x.ks.length x.kc, .slice x.rA x.rs.length x.rc, .slice x.gA x.gs.length x.gc, .slice none 0 0, .slice none 0 0, .int .i64 0, .slice none 0 0, .slice none 0 0, .slice none 0 0, .slice none 0 0, .int .i64 0, .int .i64 0, .int .i64 0, .int .i64 0, .slice none 0 0, .int .i64 0] 48)).heap.size ((w.alloc (.cells #[.slice p.A p.p.u.length p.c, .int .i64 p.p.q, .int .i64 p.p.r, .int .i64 p.p.b, .int .i64 p.p.l, .int .i64 p.p.w, .int .i64 p.p.c, .int .i64 p.p.k, .int .i64 p.p.i] 33)).alloc (.cells #[.int .i64 x.node, .int .i64 x.boot, .int .i64 x.above, .int .i64 x.st.s, .int .i64 x.st.t, .int .i64 x.st.p, .slice x.eA x.st.es.length x.ec, .int .i64 x.q.f, .int .i64 x.q.g, .slice x.qA x.q.os.length x.qc, .slice x.kA x.ks.length x.kc, .slice x.rA x.rs.length x.rc, .slice x.gA x.gs.length x.gc, .slice none 0 0, .slice none 0 0, .int .i64 0, .slice none 0 0, .slice none 0 0, .slice none 0 0, .slice none 0 0, .int .i64 0, .int .i64 0, .int .i64 0, .int .i64 0, .slice none 0 0, .int .i64 0] 48))) (.cells #[.int .i64 m.x.a, .int .i64 m.x.b, .int .i64 m.x.boot, .int .i64 m.x.first, .slice m.oA m.x.os.length m.oc, .int .i64 m.x.pos, .slice m.rA m.x.rs.length m.rc, .int .i64 m.x.start, .slice m.eA m.x.es.length m.ec, .int .i64 m.x.ack, .int .i64 m.x.grant, .int .i64 m.x.s, .int .i64 m.x.t, .slice m.gA m.x.gs.length m.gc] 28)
  have b3 := below_alloc (Below.refl (((w.alloc (.cells #[.slice p.A p.p.u.length p.c, .int .i64 p.p.q, .int .i64 p.p.r, .int .i64 p.p.b, .int .i64 p.p.l, .int .i64 p.p.w, .int .i64 p.p.c, .int .i64 p.p.k, .int .i64 p.p.i] 33)).alloc (.cells #[.int .i64 x.node, .int .i64 x.boot, .int .i64 x.above, .int .i64 x.st.s, .int .i64 x.st.t, .int .i64 x.st.p, .slice x.eA x.st.es.length x.ec, .int .i64 x.q.f, .int .i64 x.q.g, .slice x.qA x.q.os.length x.qc, .slice x.kA x.ks.length x.kc, .slice x.rA x.rs.length x.rc, .slice x.gA x.gs.length x.gc, .slice none 0 0, .slice none 0 0, .int .i64 0, .slice none 0 0, .slice none 0 0, .slice none 0 0, .slice none 0 0, .int .i64 0, .int .i64 0, .int .i64 0, .int .i64 0, .slice none 0 0, .int .i64 0] 48)).alloc (.cells #[.int .i64 m.x.a, .int .i64 m.x.b, .int .i64 m.x.boot, .int .i64 m.x.first, .slice m.oA m.x.os.length m.oc, .int .i64 m.x.pos, .slice m.rA m.x.rs.length m.rc, .int .i64 m.x.start, .slice m.eA m.x.es.length m.ec, .int .i64 m.x.ack, .int .i64 m.x.grant, .int .i64 m.x.s, .int .i64 m.x.t, .slice m.gA m.x.gs.length m.gc] 28)).heap.size (((w.alloc (.cells #[.slice p.A p.p.u.length p.c, .int .i64 p.p.q, .int .i64 p.p.r, .int .i64 p.p.b, .int .i64 p.p.l, .int .i64 p.p.w, .int .i64 p.p.c, .int .i64 p.p.k, .int .i64 p.p.i] 33)).alloc (.cells #[.int .i64 x.node, .int .i64 x.boot, .int .i64 x.above, .int .i64 x.st.s, .int .i64 x.st.t, .int .i64 x.st.p, .slice x.eA x.st.es.length x.ec, .int .i64 x.q.f, .int .i64 x.q.g, .slice x.qA x.q.os.length x.qc, .slice x.kA x.ks.length x.kc, .slice x.rA x.rs.length x.rc, .slice x.gA x.gs.length x.gc, .slice none 0 0, .slice none 0 0, .int .i64 0, .slice none 0 0, .slice none 0 0, .slice none 0 0, .slice none 0 0, .int .i64 0, .int .i64 0, .int .i64 0, .int .i64 0, .slice none 0 0, .int .i64 0] 48)).alloc (.cells #[.int .i64 m.x.a, .int .i64 m.x.b, .int .i64 m.x.boot, .int .i64 m.x.first, .slice m.oA m.x.os.length m.oc, .int .i64 m.x.pos, .slice m.rA m.x.rs.length m.rc, .int .i64 m.x.start, .slice m.eA m.x.es.length m.ec, .int .i64 m.x.ack, .int .i64 m.x.grant, .int .i64 m.x.s, .int .i64 m.x.t, .slice m.gA m.x.gs.length m.gc] 28))) (.cells #[.int .i64 0, .int .i64 0, .int .i64 0, .int .i64 0, .int .i64 0, .int .i64 0, .slice none 0 0, .int .i64 0, .int .i64 0, .slice none 0 0, .slice none 0 0, .slice none 0 0, .slice none 0 0, .slice none 0 0, .slice none 0 0, .int .i64 0, .slice none 0 0, .slice none 0 0, .slice none 0 0, .slice none 0 0, .int .i64 0, .int .i64 0, .int .i64 0, .int .i64 0, .slice none 0 0, .int .i64 0] 48)
  have i0 : pnE.In (w.alloc (.cells #[.slice p.A p.p.u.length p.c, .int .i64 p.p.q, .int .i64 p.p.r, .int .i64 p.p.b, .int .i64 p.p.l, .int .i64 p.p.w, .int .i64 p.p.c, .int .i64 p.p.k, .int .i64 p.p.i] 33)) w.heap.size p := El.In.new (E := pnE) w p _ rfl
  have i1 : ryE.In ((w.alloc (.cells #[.slice p.A p.p.u.length p.c, .int .i64 p.p.q, .int .i64 p.p.r, .int .i64 p.p.b, .int .i64 p.p.l, .int .i64 p.p.w, .int .i64 p.p.c, .int .i64 p.p.k, .int .i64 p.p.i] 33)).alloc (.cells #[.int .i64 x.node, .int .i64 x.boot, .int .i64 x.above, .int .i64 x.st.s, .int .i64 x.st.t, .int .i64 x.st.p, .slice x.eA x.st.es.length x.ec, .int .i64 x.q.f, .int .i64 x.q.g, .slice x.qA x.q.os.length x.qc, .slice x.kA x.ks.length x.kc, .slice x.rA x.rs.length x.rc, .slice x.gA x.gs.length x.gc, .slice none 0 0, .slice none 0 0, .int .i64 0, .slice none 0 0, .slice none 0 0, .slice none 0 0, .slice none 0 0, .int .i64 0, .int .i64 0, .int .i64 0, .int .i64 0, .slice none 0 0, .int .i64 0] 48)) (w.alloc (.cells #[.slice p.A p.p.u.length p.c, .int .i64 p.p.q, .int .i64 p.p.r, .int .i64 p.p.b, .int .i64 p.p.l, .int .i64 p.p.w, .int .i64 p.p.c, .int .i64 p.p.k, .int .i64 p.p.i] 33)).heap.size x := El.In.new (E := ryE) _ x _ rfl
  have i2 : frE.In (((w.alloc (.cells #[.slice p.A p.p.u.length p.c, .int .i64 p.p.q, .int .i64 p.p.r, .int .i64 p.p.b, .int .i64 p.p.l, .int .i64 p.p.w, .int .i64 p.p.c, .int .i64 p.p.k, .int .i64 p.p.i] 33)).alloc (.cells #[.int .i64 x.node, .int .i64 x.boot, .int .i64 x.above, .int .i64 x.st.s, .int .i64 x.st.t, .int .i64 x.st.p, .slice x.eA x.st.es.length x.ec, .int .i64 x.q.f, .int .i64 x.q.g, .slice x.qA x.q.os.length x.qc, .slice x.kA x.ks.length x.kc, .slice x.rA x.rs.length x.rc, .slice x.gA x.gs.length x.gc, .slice none 0 0, .slice none 0 0, .int .i64 0, .slice none 0 0, .slice none 0 0, .slice none 0 0, .slice none 0 0, .int .i64 0, .int .i64 0, .int .i64 0, .int .i64 0, .slice none 0 0, .int .i64 0] 48)).alloc (.cells #[.int .i64 m.x.a, .int .i64 m.x.b, .int .i64 m.x.boot, .int .i64 m.x.first, .slice m.oA m.x.os.length m.oc, .int .i64 m.x.pos, .slice m.rA m.x.rs.length m.rc, .int .i64 m.x.start, .slice m.eA m.x.es.length m.ec, .int .i64 m.x.ack, .int .i64 m.x.grant, .int .i64 m.x.s, .int .i64 m.x.t, .slice m.gA m.x.gs.length m.gc] 28)) ((w.alloc (.cells #[.slice p.A p.p.u.length p.c, .int .i64 p.p.q, .int .i64 p.p.r, .int .i64 p.p.b, .int .i64 p.p.l, .int .i64 p.p.w, .int .i64 p.p.c, .int .i64 p.p.k, .int .i64 p.p.i] 33)).alloc (.cells #[.int .i64 x.node, .int .i64 x.boot, .int .i64 x.above, .int .i64 x.st.s, .int .i64 x.st.t, .int .i64 x.st.p, .slice x.eA x.st.es.length x.ec, .int .i64 x.q.f, .int .i64 x.q.g, .slice x.qA x.q.os.length x.qc, .slice x.kA x.ks.length x.kc, .slice x.rA x.rs.length x.rc, .slice x.gA x.gs.length x.gc, .slice none 0 0, .slice none 0 0, .int .i64 0, .slice none 0 0, .slice none 0 0, .slice none 0 0, .slice none 0 0, .int .i64 0, .int .i64 0, .int .i64 0, .int .i64 0, .slice none 0 0, .int .i64 0] 48)).heap.size m := El.In.new (E := frE) _ m _ rfl
  have i3 : ryE.In ((((w.alloc (.cells #[.slice p.A p.p.u.length p.c, .int .i64 p.p.q, .int .i64 p.p.r, .int .i64 p.p.b, .int .i64 p.p.l, .int .i64 p.p.w, .int .i64 p.p.c, .int .i64 p.p.k, .int .i64 p.p.i] 33)).alloc (.cells #[.int .i64 x.node, .int .i64 x.boot, .int .i64 x.above, .int .i64 x.st.s, .int .i64 x.st.t, .int .i64 x.st.p, .slice x.eA x.st.es.length x.ec, .int .i64 x.q.f, .int .i64 x.q.g, .slice x.qA x.q.os.length x.qc, .slice x.kA x.ks.length x.kc, .slice x.rA x.rs.length x.rc, .slice x.gA x.gs.length x.gc, .slice none 0 0, .slice none 0 0, .int .i64 0, .slice none 0 0, .slice none 0 0, .slice none 0 0, .slice none 0 0, .int .i64 0, .int .i64 0, .int .i64 0, .int .i64 0, .slice none 0 0, .int .i64 0] 48)).alloc (.cells #[.int .i64 m.x.a, .int .i64 m.x.b, .int .i64 m.x.boot, .int .i64 m.x.first, .slice m.oA m.x.os.length m.oc, .int .i64 m.x.pos, .slice m.rA m.x.rs.length m.rc, .int .i64 m.x.start, .slice m.eA m.x.es.length m.ec, .int .i64 m.x.ack, .int .i64 m.x.grant, .int .i64 m.x.s, .int .i64 m.x.t, .slice m.gA m.x.gs.length m.gc] 28)).alloc (.cells #[.int .i64 0, .int .i64 0, .int .i64 0, .int .i64 0, .int .i64 0, .int .i64 0, .slice none 0 0, .int .i64 0, .int .i64 0, .slice none 0 0, .slice none 0 0, .slice none 0 0, .slice none 0 0, .slice none 0 0, .slice none 0 0, .int .i64 0, .slice none 0 0, .slice none 0 0, .slice none 0 0, .slice none 0 0, .int .i64 0, .int .i64 0, .int .i64 0, .int .i64 0, .slice none 0 0, .int .i64 0] 48)) (((w.alloc (.cells #[.slice p.A p.p.u.length p.c, .int .i64 p.p.q, .int .i64 p.p.r, .int .i64 p.p.b, .int .i64 p.p.l, .int .i64 p.p.w, .int .i64 p.p.c, .int .i64 p.p.k, .int .i64 p.p.i] 33)).alloc (.cells #[.int .i64 x.node, .int .i64 x.boot, .int .i64 x.above, .int .i64 x.st.s, .int .i64 x.st.t, .int .i64 x.st.p, .slice x.eA x.st.es.length x.ec, .int .i64 x.q.f, .int .i64 x.q.g, .slice x.qA x.q.os.length x.qc, .slice x.kA x.ks.length x.kc, .slice x.rA x.rs.length x.rc, .slice x.gA x.gs.length x.gc, .slice none 0 0, .slice none 0 0, .int .i64 0, .slice none 0 0, .slice none 0 0, .slice none 0 0, .slice none 0 0, .int .i64 0, .int .i64 0, .int .i64 0, .int .i64 0, .slice none 0 0, .int .i64 0] 48)).alloc (.cells #[.int .i64 m.x.a, .int .i64 m.x.b, .int .i64 m.x.boot, .int .i64 m.x.first, .slice m.oA m.x.os.length m.oc, .int .i64 m.x.pos, .slice m.rA m.x.rs.length m.rc, .int .i64 m.x.start, .slice m.eA m.x.es.length m.ec, .int .i64 m.x.ack, .int .i64 m.x.grant, .int .i64 m.x.s, .int .i64 m.x.t, .slice m.gA m.x.gs.length m.gc] 28)).heap.size Rlw.zero := El.In.new (E := ryE) _ Rlw.zero _ rfl
  rw [alloc_size, alloc_size, alloc_size] at i3
  rw [alloc_size, alloc_size] at i2
  rw [alloc_size] at i1
  exact ⟨((i0.below b1).below b2).below b3, (i1.below b2).below b3, i2.below b3, i3, below_then (below_then (below_then b0 b1) b2) b3⟩
def LwQ (n2 n3 : Nat) (x : Rlw) (f : Fw) (w : World) : Prop := quE.At w n2 7 x.Q ∧ frE.In w n3 f
def LwS (n1 n2 n3 : Nat) (p : Pnw) (x : Rlw) (f : Fw) (w : World) : Prop := pnE.In w n1 p ∧ smE.At w n2 3 x.S ∧ frE.In w n3 f
set_option maxRecDepth 100000 in
set_option maxHeartbeats 8000000 in
theorem lowered19_any (p : Pnw) (x : Rlw) (f : Fw) (w : World) (up : Int) (n : Nat) (hPR : Pln.Right p.p) (hn : n ≤ 60) (hr : RlR p.p up n x.v) (hD : ∀ d, belowU p.p.u d x.node = true → (kindL p.p.u d = 3 ↔ d ≠ x.node)) (hf : FrT f.x) (hs : f.x.s ≤ 1073741824) (hT : inE.Sl w p.A p.p.u) (hx : x.ok w) (hfo : f.ok w) :
    Calls Try.prog 18 #[.agg #[.slice p.A p.p.u.length p.c, .int .i64 p.p.q, .int .i64 p.p.r, .int .i64 p.p.b, .int .i64 p.p.l, .int .i64 p.p.w, .int .i64 p.p.c, .int .i64 p.p.k, .int .i64 p.p.i], .agg #[.int .i64 x.node, .int .i64 x.boot, .int .i64 x.above, .int .i64 x.st.s, .int .i64 x.st.t, .int .i64 x.st.p, .slice x.eA x.st.es.length x.ec, .int .i64 x.q.f, .int .i64 x.q.g, .slice x.qA x.q.os.length x.qc, .slice x.kA x.ks.length x.kc, .slice x.rA x.rs.length x.rc, .slice x.gA x.gs.length x.gc, .slice none 0 0, .slice none 0 0, .int .i64 0, .slice none 0 0, .slice none 0 0, .slice none 0 0, .slice none 0 0, .int .i64 0, .int .i64 0, .int .i64 0, .int .i64 0, .slice none 0 0, .int .i64 0], .agg #[.int .i64 f.x.a, .int .i64 f.x.b, .int .i64 f.x.boot, .int .i64 f.x.first, .slice f.oA f.x.os.length f.oc, .int .i64 f.x.pos, .slice f.rA f.x.rs.length f.rc, .int .i64 f.x.start, .slice f.eA f.x.es.length f.ec, .int .i64 f.x.ack, .int .i64 f.x.grant, .int .i64 f.x.s, .int .i64 f.x.t, .slice f.gA f.x.gs.length f.gc]] w fun e w' => ∃ z : Rlw, e = .returned (.agg #[.int .i64 z.node, .int .i64 z.boot, .int .i64 z.above, .int .i64 z.st.s, .int .i64 z.st.t, .int .i64 z.st.p, .slice z.eA z.st.es.length z.ec, .int .i64 z.q.f, .int .i64 z.q.g, .slice z.qA z.q.os.length z.qc, .slice z.kA z.ks.length z.kc, .slice z.rA z.rs.length z.rc, .slice z.gA z.gs.length z.gc, .slice none 0 0, .slice none 0 0, .int .i64 0, .slice none 0 0, .slice none 0 0, .slice none 0 0, .slice none 0 0, .int .i64 0, .int .i64 0, .int .i64 0, .int .i64 0, .slice none 0 0, .int .i64 0]) ∧ z.ok w' ∧ z.v = lowR p.p x.v f.x ∧ Below w.heap.size w w' := by
  obtain ⟨hP, hE, hM, hR, hB⟩ := lo_boxes p x f w
  obtain ⟨rv, hrv⟩ : ∃ rv, lowR p.p x.v f.x = rv := ⟨_, rfl⟩
  rw [hrv]
  have HRV := Lib.hid hrv
  have hok := hx.below hB
  have HFO := Lib.hid hfo
  have HT := Lib.hid hT
  have HF := Lib.hid hf
  have HD := Lib.hid hD
  have HX := Lib.hid hr
  have HL := Lib.hid (lens19 hPR hr)
  have HB6 := Lib.hid hf.six
  have HQN := Lib.hid (qn19 hPR (by omega) hr)
  have HQN2 := Lib.hid (show QuN (ackQ x.q f.x.ack) by
    obtain ⟨a1, a2, a3, a4, a5⟩ := ackQ_b x.q f.x.ack
    have h1 : 1 ≤ x.q.f ∧ x.q.f + (x.q.os.length : Int) ≤ 1 + 64 * (n : Int) := hr.qf
    have h2 : 0 ≤ x.q.g ∧ x.q.g ≤ 1099511627776 := hr.qg
    have h3 : x.q.os.length ≤ 16 := (lens19 hPR hr).2.2.1
    exact ⟨by omega, by omega, by omega⟩)
  have HSN := Lib.hid (sn19 hPR hr)
  have HSR := Lib.hid (show SmR (settleS x.st f.x.s f.x.t) ∧ (settleS x.st f.x.s f.x.t).es.length ≤ 100 ∧ (settleS x.st f.x.s f.x.t).p ≤ 1099511627000 ∧ winP p.p ≤ 100 by
    obtain ⟨b1, b2, b3, b4, b5, b6⟩ := hf.six
    have s1 := settleS_R hr.st (place := f.x.s) (t := f.x.t) b5.2 b6.2
    have s2 := settleS_p x.st f.x.s f.x.t
    have s3 : (settleS x.st f.x.s f.x.t).es.length ≤ x.st.es.length := by
      obtain ⟨m, hm⟩ := settleS_es x.st f.x.s f.x.t
      rw [hm, List.length_drop]; omega
    have s4 : x.st.p ≤ 1073741824 + 64 * (n : Int) := hr.sp
    have s5 : x.st.es.length ≤ 80 := (lens19 hPR hr).2.1
    have s6 := winP_le hPR
    exact ⟨s1, by omega, by omega, by omega⟩)
  have CW := Lib.hid (fun (wx : World) (h : inE.Sl wx p.A p.p.u) => (show Calls Try.prog 37 #[.agg #[.slice p.A p.p.u.length p.c, .int .i64 p.p.q, .int .i64 p.p.r, .int .i64 p.p.b, .int .i64 p.p.l, .int .i64 p.p.w, .int .i64 p.p.c, .int .i64 p.p.k, .int .i64 p.p.i]] wx fun e w' => e = .returned (.int .i64 (winP p.p)) ∧ Below wx.heap.size wx w' from pWindow_any p wx h hPR.shp hPR.q))
  have CD := Lib.hid (fun (d : Int) (wx : World) (h : inE.Sl wx p.A p.p.u) => deviceBelow_any p d x.node wx h hPR.shp)
  clear hrv hx hT hfo hf hD hr hPR hs
  go_enter Try.func18, Try.ntmps18
  go_upto_region 1 with (first | (refine wpList_alloc_ry rfl rfl ?_) | fail)
  simp only [alloc_size, Nat.add_assoc, Nat.reduceAdd]
  generalize (((w.alloc (.cells #[.slice p.A p.p.u.length p.c, .int .i64 p.p.q, .int .i64 p.p.r, .int .i64 p.p.b, .int .i64 p.p.l, .int .i64 p.p.w, .int .i64 p.p.c, .int .i64 p.p.k, .int .i64 p.p.i] 33)).alloc (.cells #[.int .i64 x.node, .int .i64 x.boot, .int .i64 x.above, .int .i64 x.st.s, .int .i64 x.st.t, .int .i64 x.st.p, .slice x.eA x.st.es.length x.ec, .int .i64 x.q.f, .int .i64 x.q.g, .slice x.qA x.q.os.length x.qc, .slice x.kA x.ks.length x.kc, .slice x.rA x.rs.length x.rc, .slice x.gA x.gs.length x.gc, .slice none 0 0, .slice none 0 0, .int .i64 0, .slice none 0 0, .slice none 0 0, .slice none 0 0, .slice none 0 0, .int .i64 0, .int .i64 0, .int .i64 0, .int .i64 0, .slice none 0 0, .int .i64 0] 48)).alloc (.cells #[.int .i64 f.x.a, .int .i64 f.x.b, .int .i64 f.x.boot, .int .i64 f.x.first, .slice f.oA f.x.os.length f.oc, .int .i64 f.x.pos, .slice f.rA f.x.rs.length f.rc, .int .i64 f.x.start, .slice f.eA f.x.es.length f.ec, .int .i64 f.x.ack, .int .i64 f.x.grant, .int .i64 f.x.s, .int .i64 f.x.t, .slice f.gA f.x.gs.length f.gc] 28)).alloc (.cells #[.int .i64 0, .int .i64 0, .int .i64 0, .int .i64 0, .int .i64 0, .int .i64 0, .slice none 0 0, .int .i64 0, .int .i64 0, .slice none 0 0, .slice none 0 0, .slice none 0 0, .slice none 0 0, .slice none 0 0, .slice none 0 0, .int .i64 0, .slice none 0 0, .slice none 0 0, .slice none 0 0, .slice none 0 0, .int .i64 0, .int .i64 0, .int .i64 0, .int .i64 0, .slice none 0 0, .int .i64 0] 48) = W at *
  obtain ⟨n1, h1⟩ : ∃ n1, w.heap.size = n1 := ⟨_, rfl⟩
  obtain ⟨n2, h2⟩ : ∃ n2, w.heap.size + 1 = n2 := ⟨_, rfl⟩
  obtain ⟨n3, h3⟩ : ∃ n3, w.heap.size + 2 = n3 := ⟨_, rfl⟩
  obtain ⟨n4, h4⟩ : ∃ n4, w.heap.size + 3 = n4 := ⟨_, rfl⟩
  have hw2 : w.heap.size ≤ n2 := by omega
  have hw4 : w.heap.size ≤ n4 := by omega
  have e24 : n4 ≠ n2 := by omega
  have e32 : n3 ≠ n2 := by omega
  have e12 : n1 ≠ n2 := by omega
  rw [h4] at hR ⊢
  rw [h3] at hM ⊢
  rw [h2] at hE ⊢
  rw [h1] at hP ⊢
  clear h1 h2 h3 h4
  have c2 : W.cell? ⟨n2, 2, none⟩ = some (.int .i64 x.above) := hE.cell 2
  have m2 : W.cell? ⟨n3, 2, none⟩ = some (.int .i64 f.x.boot) := hM.cell 2
  have qf := hE.frozen
  go_upto_region 2 with fail
  clear qf c2 m2
  have g1 := by_cell W n2 2 (.int .i64 f.x.boot)
  replace hok : ({ x with above := f.x.boot } : Rlw).ok (W.setCell ⟨n2, 2, none⟩ (.int .i64 f.x.boot)) := by
    obtain ⟨a, b, c, d, e, g⟩ := hok.keepB hE g1
    exact ⟨a, b, c, d, e, g⟩
  replace hE := hE.put ({ x with above := f.x.boot } : Rlw) 2 (.int .i64 f.x.boot) rfl
  replace hR := hR.other n2 2 (.int .i64 f.x.boot) e24
  replace hM := hM.other n2 2 (.int .i64 f.x.boot) e32
  replace hP := hP.other n2 2 (.int .i64 f.x.boot) e12
  replace hB := Below.setCell hB (p := ⟨n2, 2, none⟩) hw2 (.int .i64 f.x.boot)
  clear g1
  generalize W.setCell ⟨n2, 2, none⟩ (.int .i64 f.x.boot) = V at *
  obtain ⟨y, hy⟩ : ∃ y, ({ x with above := f.x.boot } : Rlw) = y := ⟨_, rfl⟩
  have HY := Lib.hid (show y.v = { x.v with above := f.x.boot } by rw [← hy]; rfl)
  have hE2 : ryE.In V n2 y := by rw [← hy]; exact hE
  have hq : y.q = x.q := by rw [← hy]
  have CA := Lib.hid (fun (wx : World) (h : SlV opE wx y.qA y.qc y.q.os) => quAck_any y.Q f.x.ack wx (by show QuN y.q; rw [hq]; exact HQN.out) (by have h := HB6.out.2.2.1; omega) h)
  have HAQ := Lib.hid (show QuN (ackQ y.q f.x.ack) by rw [hq]; exact HQN2.out)
  rw [hy] at hok
  clear hE hy hq
  have hE := hE2
  clear hE2
  apply wp_mergeQQ (fun _ qz w' => qz.x = allowQ (ackQ y.q f.x.ack) f.x.grant ∧ ryE.In w' n2 (qW y qz) ∧ (qW y qz).ok w' ∧ pnE.In w' n1 p ∧ frE.In w' n3 f ∧ ryE.In w' n4 Rlw.zero ∧ Below w.heap.size w w')
  · refine region_anyG (S := LwQ n2 n3 y f) 9 (by kernel_rfl) ?_
    have hd : Below V.heap.size V V.drew := (Below.refl _ _).drew
    replace hE : ryE.In V.drew n2 y := hE
    replace hM : frE.In V.drew n3 f := hM
    replace hR : ryE.In V.drew n4 Rlw.zero := hR
    replace hP : pnE.In V.drew n1 p := hP
    replace hok := hok.below hd
    replace hB := hB.drew
    clear hd
    generalize V.drew = X at *
    have hS : LwQ n2 n3 y f X := ⟨ry_q hE, hM⟩
    refine anyG_take (i := 0) (v := .pointer (some ⟨n2, 7, none⟩)) rfl (by kernel_rfl) (by kernel_rfl) (by kernel_rfl) (by kernel_rfl) (by kernel_rfl) (fun _ _ _ h => h) (Or.inl ⟨by rfl, fun w' hSw => by go_simp⟩) hS ?_
    try simp only [Act.put, List.setIfInBounds_toArray, List.set_cons_zero, List.set_cons_succ]
    refine anyG_take (i := 1) (v := .agg #[.int .i64 y.Q.x.f, .int .i64 y.Q.x.g, .slice y.Q.A y.Q.x.os.length y.Q.c]) rfl (by kernel_rfl) (by kernel_rfl) (by kernel_rfl) (by kernel_rfl) (by kernel_rfl) (fun _ _ _ h => h) (Or.inl ⟨by rfl, fun w' hSw => El.exec_loadK quRow (.tmp 12) rfl rfl hSw.1 _ rfl⟩) hS ?_
    try simp only [Act.put, List.setIfInBounds_toArray, List.set_cons_zero, List.set_cons_succ]
    refine anyG_take (i := 2) (v := .pointer (some ⟨n3, 9, none⟩)) rfl (by kernel_rfl) (by kernel_rfl) (by kernel_rfl) (by kernel_rfl) (by kernel_rfl) (fun _ _ _ h => h) (Or.inl ⟨by rfl, fun w' hSw => by go_simp⟩) hS ?_
    try simp only [Act.put, List.setIfInBounds_toArray, List.set_cons_zero, List.set_cons_succ]
    refine anyG_take (i := 3) (v := .int .i64 f.x.ack) rfl (by kernel_rfl) (by kernel_rfl) (by kernel_rfl) (by kernel_rfl) (by kernel_rfl) (fun _ _ _ h => h) (Or.inl ⟨by rfl, fun w' hSw => by (have s : w'.cell? ⟨n3, 9, none⟩ = some (.int .i64 f.x.ack) := hSw.2.cell 9; go_simp)⟩) hS ?_
    try simp only [Act.put, List.setIfInBounds_toArray, List.set_cons_zero, List.set_cons_succ]
    refine anyG_take (i := 5) (v := .pointer (some ⟨n3, 10, none⟩)) rfl (by kernel_rfl) (by kernel_rfl) (by kernel_rfl) (by kernel_rfl) (by kernel_rfl) (fun _ _ _ h => h) (Or.inl ⟨by rfl, fun w' hSw => by go_simp⟩) hS ?_
    try simp only [Act.put, List.setIfInBounds_toArray, List.set_cons_zero, List.set_cons_succ]
    refine anyG_take (i := 6) (v := .int .i64 f.x.grant) rfl (by kernel_rfl) (by kernel_rfl) (by kernel_rfl) (by kernel_rfl) (by kernel_rfl) (fun _ _ _ h => h) (Or.inl ⟨by rfl, fun w' hSw => by (have s : w'.cell? ⟨n3, 10, none⟩ = some (.int .i64 f.x.grant) := hSw.2.cell 10; go_simp)⟩) hS ?_
    try simp only [Act.put, List.setIfInBounds_toArray, List.set_cons_zero, List.set_cons_succ]
    refine anyG_step (rs := [4]) (by kernel_rfl) (by simp) ?_
    refine AllG.cons rfl (fun K hK => ?_) AllG.nil
    go_simp
    refine (CA.out X hok.q).mono ?_
    rintro e W5 ⟨q5, rfl, hq5, hok5, hb5, _⟩
    have HQ5 := Lib.hid hq5
    clear hq5
    replace hP := hP.below hb5
    replace hE := hE.below hb5
    replace hM := hM.below hb5
    replace hR := hR.below hb5
    replace hok := hok.below hb5
    replace hB := below_then hB hb5
    clear hb5
    try go_wp2_with fail
    refine hK.out _ _ (⟨ry_q hE, hM⟩ : LwQ n2 n3 y f W5) ?_
    try simp only [Act.put, List.setIfInBounds_toArray, List.set_cons_zero, List.set_cons_succ]
    clear hK hS
    have hS : LwQ n2 n3 y f W5 := ⟨ry_q hE, hM⟩
    refine anyG_step (rs := [7]) (by kernel_rfl) (by simp) ?_
    refine AllG.cons rfl (fun K hK => ?_) AllG.nil
    go_simp
    refine (quAllow_any q5 f.x.grant W5 (by rw [HQ5.out]; exact HAQ.out) hok5).mono ?_
    rintro e W6 ⟨q6, rfl, hq6, hok6, hb6, _⟩
    have HQ6 := Lib.hid (show q6.x = allowQ (ackQ y.q f.x.ack) f.x.grant by rw [hq6, HQ5.out]; rfl)
    clear hq6
    replace hP := hP.below hb6
    replace hE := hE.below hb6
    replace hM := hM.below hb6
    replace hR := hR.below hb6
    replace hok := hok.below hb6
    replace hB := below_then hB hb6
    clear hb6
    try go_wp2_with fail
    refine hK.out _ _ (⟨ry_q hE, hM⟩ : LwQ n2 n3 y f W6) ?_
    try simp only [Act.put, List.setIfInBounds_toArray, List.set_cons_zero, List.set_cons_succ]
    clear hK hS
    have hS : LwQ n2 n3 y f W6 := ⟨ry_q hE, hM⟩
    refine anyG_take (i := 8) (v := .pointer (some ⟨n2, 7, none⟩)) rfl (by kernel_rfl) (by kernel_rfl) (by kernel_rfl) (by kernel_rfl) (by kernel_rfl) (fun _ _ _ h => h) (Or.inl ⟨by rfl, fun w' hSw => by go_simp⟩) hS ?_
    try simp only [Act.put, List.setIfInBounds_toArray, List.set_cons_zero, List.set_cons_succ]
    refine anyG_step (rs := [9]) (by kernel_rfl) (by simp) ?_
    refine AllG.last (n := 9) rfl (fun K hK => ?_)
    have hok1 : (qW y q6).ok W6 := ⟨hok.e, hok6, hok.k, hok.t, hok.r, hok.g⟩
    refine El.step_part (E := ryE) (T := 38) (k := 3) (by kernel_rfl) rfl _ _ rfl n2 7 y (qW y q6) [.int .i64 q6.x.f, .int .i64 q6.x.g, .slice q6.A q6.x.os.length q6.c] rfl (by intro v hv; simp only [List.mem_cons, List.not_mem_nil, or_false] at hv; rcases hv with rfl | rfl | rfl <;> rfl) rfl rfl hE rfl (by show 7 + 3 ≤ 26; omega) ?_
    refine hK.out _ _ ?_
    try simp only [Act.put, List.setIfInBounds_toArray, List.set_cons_zero, List.set_cons_succ]
    clear hK hS
    refine anyG_done (by kernel_rfl) ?_ _
    have hgr := by_row W6 n2 (ryE.c (qW y q6)).toArray
    refine ⟨q5, q6, rfl, HQ6.out, ?_, ?_, ?_, ?_, ?_, ?_⟩
    · exact hE.set (qW y q6) _ rfl
    · exact hok1.keepB hE hgr
    · exact hP.rowN n2 _ e12
    · exact hM.rowN n2 _ e32
    · exact hR.rowN n2 _ e24
    · exact below_setRow hB hw2 _
  rintro _ qz W5 ⟨hqz, hE, hok, hP, hM, hR, hB⟩
  obtain ⟨y2, hy2⟩ : ∃ z, qW y qz = z := ⟨_, rfl⟩
  rw [hy2] at hE hok
  have HZ := Lib.hid (show y2.v = { x.v with above := f.x.boot, q := allowQ (ackQ x.v.q f.x.ack) f.x.grant } by
    rw [← hy2]
    show ({ y.v with q := qz.x } : Rlv) = _
    have h2 : y.q = x.v.q := congrArg Rlv.q HY.out
    rw [hqz, HY.out, h2])
  clear hy2 hqz CA HAQ HQN HQN2 HY
  have hZst : y2.st = x.st := congrArg Rlv.st HZ.out
  have hSd : Below W5.heap.size W5 W5.drew := (Below.refl _ _).drew
  have CS := Lib.hid (fun (wx : World) (h : SlV enE wx y2.eA y2.ec y2.st.es) => smSettle_any y2.S f.x.s f.x.t wx (by show SmN y2.st; rw [hZst]; exact HSN.out) (by show SmR y2.st; rw [hZst]; exact HX.out.st) (by have h := HB6.out.2.2.2.2.1; omega) h)
  have HSR2 := Lib.hid (show SmR (settleS y2.st f.x.s f.x.t) ∧ (settleS y2.st f.x.s f.x.t).es.length ≤ 100 ∧ (settleS y2.st f.x.s f.x.t).p ≤ 1099511627000 ∧ winP p.p ≤ 100 by rw [hZst]; exact HSR.out)
  clear hZst HSR hSd
  obtain ⟨y, hyy⟩ : ∃ y, y2 = y := ⟨_, rfl⟩
  subst hyy
  have HSR := HSR2
  clear HSR2
  go_upto_region 3 with fail
  apply wp_mergeSS (fun _ sz w' => sz.x = downS (winP p.p) (settleS y2.st f.x.s f.x.t) f.x.start f.x.es ∧ ryE.In w' n2 (sW y2 sz) ∧ (sW y2 sz).ok w' ∧ pnE.In w' n1 p ∧ frE.In w' n3 f ∧ ryE.In w' n4 Rlw.zero ∧ Below w.heap.size w w')
  · refine region_anyG (S := LwS n1 n2 n3 p y2 f) 12 (by kernel_rfl) ?_
    have hd : Below W5.heap.size W5 W5.drew := (Below.refl _ _).drew
    replace hE : ryE.In W5.drew n2 y2 := hE
    replace hM : frE.In W5.drew n3 f := hM
    replace hR : ryE.In W5.drew n4 Rlw.zero := hR
    replace hP : pnE.In W5.drew n1 p := hP
    replace hok := hok.below hd
    replace hB := hB.drew
    clear hd
    generalize W5.drew = X at *
    have hS : LwS n1 n2 n3 p y2 f X := ⟨hP, ry_s hE, hM⟩
    refine anyG_take (i := 0) (v := .pointer (some ⟨n2, 3, none⟩)) rfl (by kernel_rfl) (by kernel_rfl) (by kernel_rfl) (by kernel_rfl) (by kernel_rfl) (fun _ _ _ h => h) (Or.inl ⟨by rfl, fun w' hSw => by go_simp⟩) hS ?_
    try simp only [Act.put, List.setIfInBounds_toArray, List.set_cons_zero, List.set_cons_succ]
    refine anyG_take (i := 1) (v := .agg #[.int .i64 y2.S.x.s, .int .i64 y2.S.x.t, .int .i64 y2.S.x.p, .slice y2.S.A y2.S.x.es.length y2.S.c]) rfl (by kernel_rfl) (by kernel_rfl) (by kernel_rfl) (by kernel_rfl) (by kernel_rfl) (fun _ _ _ h => h) (Or.inl ⟨by rfl, fun w' hSw => El.exec_loadK smRow (.tmp 21) rfl rfl hSw.2.1 _ rfl⟩) hS ?_
    try simp only [Act.put, List.setIfInBounds_toArray, List.set_cons_zero, List.set_cons_succ]
    refine anyG_take (i := 2) (v := .pointer (some ⟨n3, 11, none⟩)) rfl (by kernel_rfl) (by kernel_rfl) (by kernel_rfl) (by kernel_rfl) (by kernel_rfl) (fun _ _ _ h => h) (Or.inl ⟨by rfl, fun w' hSw => by go_simp⟩) hS ?_
    try simp only [Act.put, List.setIfInBounds_toArray, List.set_cons_zero, List.set_cons_succ]
    refine anyG_take (i := 3) (v := .int .i64 f.x.s) rfl (by kernel_rfl) (by kernel_rfl) (by kernel_rfl) (by kernel_rfl) (by kernel_rfl) (fun _ _ _ h => h) (Or.inl ⟨by rfl, fun w' hSw => by (have s : w'.cell? ⟨n3, 11, none⟩ = some (.int .i64 f.x.s) := hSw.2.2.cell 11; go_simp)⟩) hS ?_
    try simp only [Act.put, List.setIfInBounds_toArray, List.set_cons_zero, List.set_cons_succ]
    refine anyG_take (i := 4) (v := .pointer (some ⟨n3, 12, none⟩)) rfl (by kernel_rfl) (by kernel_rfl) (by kernel_rfl) (by kernel_rfl) (by kernel_rfl) (fun _ _ _ h => h) (Or.inl ⟨by rfl, fun w' hSw => by go_simp⟩) hS ?_
    try simp only [Act.put, List.setIfInBounds_toArray, List.set_cons_zero, List.set_cons_succ]
    refine anyG_take (i := 5) (v := .int .i64 f.x.t) rfl (by kernel_rfl) (by kernel_rfl) (by kernel_rfl) (by kernel_rfl) (by kernel_rfl) (fun _ _ _ h => h) (Or.inl ⟨by rfl, fun w' hSw => by (have s : w'.cell? ⟨n3, 12, none⟩ = some (.int .i64 f.x.t) := hSw.2.2.cell 12; go_simp)⟩) hS ?_
    try simp only [Act.put, List.setIfInBounds_toArray, List.set_cons_zero, List.set_cons_succ]
    refine anyG_take (i := 7) (v := .agg #[.int .i64 f.x.a, .int .i64 f.x.b, .int .i64 f.x.boot, .int .i64 f.x.first, .slice f.oA f.x.os.length f.oc, .int .i64 f.x.pos, .slice f.rA f.x.rs.length f.rc, .int .i64 f.x.start, .slice f.eA f.x.es.length f.ec, .int .i64 f.x.ack, .int .i64 f.x.grant, .int .i64 f.x.s, .int .i64 f.x.t, .slice f.gA f.x.gs.length f.gc]) rfl (by kernel_rfl) (by kernel_rfl) (by kernel_rfl) (by kernel_rfl) (by kernel_rfl) (fun _ _ _ h => h) (Or.inl ⟨by rfl, fun w' hSw => El.exec_loadK frRow (.tmp 5) rfl rfl hSw.2.2.at _ rfl⟩) hS ?_
    try simp only [Act.put, List.setIfInBounds_toArray, List.set_cons_zero, List.set_cons_succ]
    refine anyG_take (i := 8) (v := .agg #[.slice p.A p.p.u.length p.c, .int .i64 p.p.q, .int .i64 p.p.r, .int .i64 p.p.b, .int .i64 p.p.l, .int .i64 p.p.w, .int .i64 p.p.c, .int .i64 p.p.k, .int .i64 p.p.i]) rfl (by kernel_rfl) (by kernel_rfl) (by kernel_rfl) (by kernel_rfl) (by kernel_rfl) (fun _ _ _ h => h) (Or.inl ⟨by rfl, fun w' hSw => El.exec_loadK pnRow (.tmp 3) rfl rfl hSw.1.at _ rfl⟩) hS ?_
    try simp only [Act.put, List.setIfInBounds_toArray, List.set_cons_zero, List.set_cons_succ]
    refine anyG_step (rs := [6]) (by kernel_rfl) (by simp) ?_
    refine AllG.cons rfl (fun K hK => ?_) AllG.nil
    go_simp
    refine (CS.out X hok.e).mono ?_
    rintro e V1 ⟨q5, rfl, hq5, hok5, hb5⟩
    have HQ5 := Lib.hid hq5
    clear hq5
    replace hP := hP.below hb5
    replace hE := hE.below hb5
    replace hM := hM.below hb5
    replace hR := hR.below hb5
    replace hok := hok.below hb5
    replace hB := below_then hB hb5
    clear hb5
    try go_wp2_with fail
    refine hK.out _ _ (⟨hP, ry_s hE, hM⟩ : LwS n1 n2 n3 p y2 f V1) ?_
    try simp only [Act.put, List.setIfInBounds_toArray, List.set_cons_zero, List.set_cons_succ]
    clear hK hS
    have hS : LwS n1 n2 n3 p y2 f V1 := ⟨hP, ry_s hE, hM⟩
    refine anyG_step (rs := [9]) (by kernel_rfl) (by simp) ?_
    refine AllG.cons rfl (fun K hK => ?_) AllG.nil
    go_simp
    refine (CW.out V1 ((HT.out).below hB)).mono ?_
    rintro e V2 ⟨rfl, hb5⟩
    replace hP := hP.below hb5
    replace hE := hE.below hb5
    replace hM := hM.below hb5
    replace hR := hR.below hb5
    replace hok := hok.below hb5
    replace hB := below_then hB hb5
    try (replace hok5 := hok5.below hb5)
    clear hb5
    try go_wp2_with fail
    refine hK.out _ _ (⟨hP, ry_s hE, hM⟩ : LwS n1 n2 n3 p y2 f V2) ?_
    try simp only [Act.put, List.setIfInBounds_toArray, List.set_cons_zero, List.set_cons_succ]
    clear hK hS
    have hS : LwS n1 n2 n3 p y2 f V2 := ⟨hP, ry_s hE, hM⟩
    refine anyG_step (rs := [10]) (by kernel_rfl) (by simp) ?_
    refine AllG.cons rfl (fun K hK => ?_) AllG.nil
    go_simp
    refine (followed19_any q5 f (winP p.p) _ (by rw [HQ5.out]; exact HSR.out.1) (by rw [HQ5.out]; exact HSR.out.2.1) HSR.out.2.2.2 (by rw [HQ5.out]; exact HSR.out.2.2.1) HF.out hok5 (SlV.below HFO.out.e hB)).mono ?_
    rintro e W6 ⟨q6, rfl, hq6, hok6, hb6⟩
    have HQ6 := Lib.hid (show q6.x = downS (winP p.p) (settleS y2.st f.x.s f.x.t) f.x.start f.x.es by rw [hq6, HQ5.out]; rfl)
    clear hq6
    replace hP := hP.below hb6
    replace hE := hE.below hb6
    replace hM := hM.below hb6
    replace hR := hR.below hb6
    replace hok := hok.below hb6
    replace hB := below_then hB hb6
    clear hb6
    try go_wp2_with fail
    refine hK.out _ _ (⟨hP, ry_s hE, hM⟩ : LwS n1 n2 n3 p y2 f W6) ?_
    try simp only [Act.put, List.setIfInBounds_toArray, List.set_cons_zero, List.set_cons_succ]
    clear hK hS
    have hS : LwS n1 n2 n3 p y2 f W6 := ⟨hP, ry_s hE, hM⟩
    refine anyG_take (i := 11) (v := .pointer (some ⟨n2, 3, none⟩)) rfl (by kernel_rfl) (by kernel_rfl) (by kernel_rfl) (by kernel_rfl) (by kernel_rfl) (fun _ _ _ h => h) (Or.inl ⟨by rfl, fun w' hSw => by go_simp⟩) hS ?_
    try simp only [Act.put, List.setIfInBounds_toArray, List.set_cons_zero, List.set_cons_succ]
    refine anyG_step (rs := [12]) (by kernel_rfl) (by simp) ?_
    refine AllG.last (n := 12) rfl (fun K hK => ?_)
    have hok1 : (sW y2 q6).ok W6 := ⟨hok6, hok.q, hok.k, hok.t, hok.r, hok.g⟩
    refine El.step_part (E := ryE) (T := 36) (k := 4) (by kernel_rfl) rfl _ _ rfl n2 3 y2 (sW y2 q6) [.int .i64 q6.x.s, .int .i64 q6.x.t, .int .i64 q6.x.p, .slice q6.A q6.x.es.length q6.c] rfl (by intro v hv; simp only [List.mem_cons, List.not_mem_nil, or_false] at hv; rcases hv with rfl | rfl | rfl | rfl <;> rfl) rfl rfl hE rfl (by show 3 + 4 ≤ 26; omega) ?_
    refine hK.out _ _ ?_
    try simp only [Act.put, List.setIfInBounds_toArray, List.set_cons_zero, List.set_cons_succ]
    clear hK hS
    refine anyG_done (by kernel_rfl) ?_ _
    have hgr := by_row W6 n2 (ryE.c (sW y2 q6)).toArray
    refine ⟨q5, q6, rfl, HQ6.out, ?_, ?_, ?_, ?_, ?_, ?_⟩
    · exact hE.set (sW y2 q6) _ rfl
    · exact hok1.keepB hE hgr
    · exact hP.rowN n2 _ e12
    · exact hM.rowN n2 _ e32
    · exact hR.rowN n2 _ e24
    · exact below_setRow hB hw2 _
  rintro _ sz W6 ⟨hsz, hE, hok, hP, hM, hR, hB⟩
  obtain ⟨y3, hy3⟩ : ∃ z, sW y2 sz = z := ⟨_, rfl⟩
  rw [hy3] at hE hok
  have HZ3 := Lib.hid (show y3.v = { x.v with above := f.x.boot, q := allowQ (ackQ x.v.q f.x.ack) f.x.grant, st := downS (winP p.p) (settleS x.v.st f.x.s f.x.t) f.x.start f.x.es } by
    rw [← hy3]
    show ({ y2.v with st := sz.x } : Rlv) = _
    have h2 : y2.st = x.v.st := congrArg Rlv.st HZ.out
    rw [hsz, h2, HZ.out])
  clear hy3 hsz CS HSR HZ CW
  have HND := Lib.hid (show y3.node = x.node from congrArg Rlv.node HZ3.out)
  have HGS := Lib.hid (show y3.gs = x.gs from congrArg Rlv.gs HZ3.out)
  have HGR := Lib.hid (fun (k : Nat) => (by
    have h := gifs_len p.p.u x.node (f.x.gs.take k) x.gs
    have h1 : (f.x.gs.take k).length ≤ f.x.gs.length := by rw [List.length_take]; omega
    have h2 : x.gs.length ≤ 12 := HL.out.2.2.2.2
    have h3 := HF.out.e
    omega : ((f.x.gs.take k).foldl (gifStep p.p.u x.node) x.gs).length ≤ 20))
  have hg8 : f.x.gs.length ≤ 8 := HF.out.e.2.2.2.2.2.2.2
  have hE9 : ryE.In W6 n2 (gW y3 y3.gA y3.gc ((f.x.gs.take 0).foldl (gifStep p.p.u x.node) x.gs)) := by
    rw [show (f.x.gs.take 0).foldl (gifStep p.p.u x.node) x.gs = y3.gs from HGS.out.symm]
    exact hE
  have hok9 : (gW y3 y3.gA y3.gc ((f.x.gs.take 0).foldl (gifStep p.p.u x.node) x.gs)).ok W6 := by
    rw [show (f.x.gs.take 0).foldl (gifStep p.p.u x.node) x.gs = y3.gs from HGS.out.symm]
    exact hok
  have m13 : W6.cell? ⟨n3, 13, none⟩ = some (.slice f.gA f.x.gs.length f.gc) := hM.cell 13
  clear hE hok hM
  go_wp2_with fail
  clear m13
  go_loopw [36] (fun i wr => ∃ (k : Nat) (A : Option Addr) (c : Nat), k ≤ f.x.gs.length ∧ i = .int .i64 k ∧ ryE.In wr n2 (gW y3 A c ((f.x.gs.take k).foldl (gifStep p.p.u x.node) x.gs)) ∧ (gW y3 A c ((f.x.gs.take k).foldl (gifStep p.p.u x.node) x.gs)).ok wr ∧ pnE.In wr n1 p ∧ ryE.In wr n4 Rlw.zero ∧ Below w.heap.size w wr) (fun i _ => f.x.gs.length - (intOf i).toNat)
  case atStart => exact ⟨0, _, _, Nat.zero_le _, rfl, hE9, hok9, hP, hR, hB⟩
  case round =>
    clear hE9 hok9 hP hR hB
    obtain ⟨k, A, c, hk, rfl, hE, hok, hP, hR, hB⟩ := hrel
    by_cases hkl : k < f.x.gs.length
    · have f2 : decide ((k : Int) < (f.x.gs.length : Int)) = true := decide_eq_true (by omega)
      obtain ⟨b, off, eA, hbw, hc⟩ := (SlV.below HFO.out.g hB).1 (by omega)
      obtain ⟨g, hg⟩ : ∃ g, f.x.gs[k] = g := ⟨_, rfl⟩
      have hat : gfE.At wr b (off + k * 5) g := by
        have h := hc k hkl
        rw [hg] at h; exact h
      have hx := gfIdxH (cap := f.gc) eA hkl
      have HNX := Lib.hid (show (f.x.gs.take (k + 1)).foldl (gifStep p.p.u x.node) x.gs = if (decide (kindL p.p.u g.d = 3) && belowU p.p.u g.d x.node) = true then mergeG ((f.x.gs.take k).foldl (gifStep p.p.u x.node) x.gs) g else (f.x.gs.take k).foldl (gifStep p.p.u x.node) x.gs by
        rw [List.take_succ_eq_append_getElem hkl, List.foldl_append, hg, ← gifStep_prog HD.out]; rfl)
      have HLE := Lib.hid (HGR.out k)
      clear hc hg eA
      generalize (f.x.gs.take k).foldl (gifStep p.p.u x.node) x.gs = L at *
      have hN : gfE.In (wr.alloc (.cells #[.int .i64 g.d, .int .i64 g.i, .int .i64 g.c, .int .i64 g.t, .string g.s] 57)) wr.heap.size g := El.In.new (E := gfE) wr g _ rfl
      have hal := below_alloc (Below.refl wr.heap.size wr) (.cells #[.int .i64 g.d, .int .i64 g.i, .int .i64 g.c, .int .i64 g.t, .string g.s] 57)
      replace hE := hE.below hal
      replace hok := hok.below hal
      replace hP := hP.below hal
      replace hR := hR.below hal
      replace hB := below_then hB hal
      clear hal
      go_upto_region 7 with (first | (refine El.load gfRow rfl _ rfl b (off + k * 5) rfl g hat #[.int .i64 g.d, .int .i64 g.i, .int .i64 g.c, .int .i64 g.t, .string g.s] rfl ?_) | fail)
      clear hat hx hbw
      generalize wr.alloc (.cells #[.int .i64 g.d, .int .i64 g.i, .int .i64 g.c, .int .i64 g.t, .string g.s] 57) = V at *
      generalize wr.heap.size = n8 at *
      have c0 : V.cell? ⟨n2, 0, none⟩ = some (.int .i64 x.node) := by
        have h : V.cell? ⟨n2, 0, none⟩ = some (.int .i64 y3.node) := hE.cell 0
        rw [HND.out] at h; exact h
      have g0 : V.cell? ⟨n8, 0, none⟩ = some (.int .i64 g.d) := hN.cell 0
      have C := CD.out g.d V (HT.out.below hB)
      obtain ⟨bb, hbb⟩ : ∃ bb, (decide (kindL p.p.u g.d = 3) && belowU p.p.u g.d x.node) = bb := ⟨_, rfl⟩
      rw [hbb] at C HNX
      clear hbb
      go_wp2_with (first | (refine El.load pnRow rfl _ rfl n1 0 rfl p hP.at #[.slice p.A p.p.u.length p.c, .int .i64 p.p.q, .int .i64 p.p.r, .int .i64 p.p.b, .int .i64 p.p.l, .int .i64 p.p.w, .int .i64 p.p.c, .int .i64 p.p.k, .int .i64 p.p.i] rfl ?_) | fail)
      refine C.mono ?_
      rintro e w7 ⟨rfl, hb7⟩
      replace hE := hE.below hb7
      replace hok := hok.below hb7
      replace hP := hP.below hb7
      replace hR := hR.below hb7
      replace hB := below_then hB hb7
      replace hN := hN.below hb7
      clear hb7 C c0 g0
      cases bb with
      | false =>
        have HNV := Lib.hid (show (f.x.gs.take (k + 1)).foldl (gifStep p.p.u x.node) x.gs = L by rw [HNX.out, if_neg (by decide)])
        clear hN
        go_wp2_with fail
        go_roundw
        case rel => exact ⟨k + 1, A, c, by omega, by go_num, by rw [HNV.out]; exact hE, by rw [HNV.out]; exact hok, hP, hR, hB⟩
        case measure => simp [intOf]; omega
      | true =>
        have c12 : w7.cell? ⟨n2, 12, none⟩ = some (.slice A L.length c) := hE.cell 12
        obtain ⟨M, hM⟩ : ∃ M, mergeG L g = M := ⟨_, rfl⟩
        have CM := pMergeG_any A c L g w7 (by have := HLE.out; omega) hok.g
        rw [hM] at CM HNX
        have HNV := Lib.hid (show (f.x.gs.take (k + 1)).foldl (gifStep p.p.u x.node) x.gs = M by rw [HNX.out, if_pos rfl])
        clear hM
        go_wp2_with (first | (refine El.load gfRow rfl _ rfl n8 0 rfl g hN.at #[.int .i64 g.d, .int .i64 g.i, .int .i64 g.c, .int .i64 g.t, .string g.s] rfl ?_) | fail)
        refine CM.mono ?_
        rintro e w8 ⟨A', c', rfl, hS, hb8⟩
        replace hE := hE.below hb8
        replace hok := hok.below hb8
        replace hP := hP.below hb8
        replace hR := hR.below hb8
        replace hB := below_then hB hb8
        clear hb8 CM c12 hN
        have c12 : w8.cell? ⟨n2, 12, none⟩ = some (.slice A L.length c) := hE.cell 12
        have qf := hE.frozen
        have hg1 := by_cell w8 n2 12 (.slice A' M.length c')
        have hok1 : (gW y3 A' c' M).ok w8 := ⟨hok.e, hok.q, hok.k, hok.t, hok.r, hS⟩
        have hok2 := hok1.keepB hE hg1
        have hE2 := hE.put (gW y3 A' c' M) 12 (.slice A' M.length c') rfl
        clear hok1 hg1 hok
        go_wp2_with fail
        go_roundw
        case rel => exact ⟨k + 1, A', c', by omega, by go_num, by rw [HNV.out]; exact hE2, by rw [HNV.out]; exact hok2, hP.other n2 12 _ e12, hR.other n2 12 _ e24, Below.setCell hB (p := ⟨n2, 12, none⟩) hw2 _⟩
        case measure => simp [intOf]; omega
    · obtain rfl : k = f.x.gs.length := by omega
      rw [List.take_length] at hE hok
      obtain ⟨Z, hZ⟩ : ∃ Z, gW y3 A c (f.x.gs.foldl (gifStep p.p.u x.node) x.gs) = Z := ⟨_, rfl⟩
      have HV := Lib.hid (show Z.v = rv by
        rw [← HRV.out, ← hZ]
        show ({ y3.v with gs := f.x.gs.foldl (gifStep p.p.u x.node) x.gs } : Rlv) = _
        rw [HZ3.out]; rfl)
      rw [hZ] at hE hok
      clear hZ hkl hk
      go_wp2_with (first | (refine El.load ryRow rfl _ rfl n2 0 rfl Z hE.at #[.int .i64 Z.node, .int .i64 Z.boot, .int .i64 Z.above, .int .i64 Z.st.s, .int .i64 Z.st.t, .int .i64 Z.st.p, .slice Z.eA Z.st.es.length Z.ec, .int .i64 Z.q.f, .int .i64 Z.q.g, .slice Z.qA Z.q.os.length Z.qc, .slice Z.kA Z.ks.length Z.kc, .slice Z.rA Z.rs.length Z.rc, .slice Z.gA Z.gs.length Z.gc, .slice none 0 0, .slice none 0 0, .int .i64 0, .slice none 0 0, .slice none 0 0, .slice none 0 0, .slice none 0 0, .int .i64 0, .int .i64 0, .int .i64 0, .int .i64 0, .slice none 0 0, .int .i64 0] rfl ?_) | (refine El.store ryRow rfl _ _ rfl n4 Z #[.int .i64 Z.node, .int .i64 Z.boot, .int .i64 Z.above, .int .i64 Z.st.s, .int .i64 Z.st.t, .int .i64 Z.st.p, .slice Z.eA Z.st.es.length Z.ec, .int .i64 Z.q.f, .int .i64 Z.q.g, .slice Z.qA Z.q.os.length Z.qc, .slice Z.kA Z.ks.length Z.kc, .slice Z.rA Z.rs.length Z.rc, .slice Z.gA Z.gs.length Z.gc, .slice none 0 0, .slice none 0 0, .int .i64 0, .slice none 0 0, .slice none 0 0, .slice none 0 0, .slice none 0 0, .int .i64 0, .int .i64 0, .int .i64 0, .int .i64 0, .slice none 0 0, .int .i64 0] rfl rfl rfl Rlw.zero hR ?_) | fail)
      refine El.ret1 ryRow (hR.set Z _ rfl) rfl rfl rfl _ rfl ?_
      exact ⟨Z, rfl, hok.keepB hR (by_row _ _ _), HV.out, below_setRow hB hw4 _⟩
end Go.Proofs.Ytnglpkfkepfkkaa

/- The program's queues: Push. -/
namespace Go.Proofs.Ytnglpkfkepfkkaa
open Go.RowKit Nam Cod

set_option maxRecDepth 100000 in
set_option maxHeartbeats 4000000 in
theorem quPush_any (y : Qw) (o : Mv) (w : World) (hn : QuN y.x) (hok : y.ok w) :
    Calls Try.prog 40 #[.agg #[.int .i64 y.x.f, .int .i64 y.x.g, .slice y.A y.x.os.length y.c], .agg #[.int .i64 o.C, .int .i64 o.D, .int .i64 o.I, .int .i64 o.M, .int .i64 o.K, .int .i64 o.U, .string o.s]] w fun r w' => ∃ z : Qw, r = .returned (.agg #[.int .i64 z.x.f, .int .i64 z.x.g, .slice z.A z.x.os.length z.c]) ∧ z.x = pushQ y.x o ∧ z.ok w' ∧ Below w.heap.size w w' ∧ Near w.heap.size y z := by
  have hl := hn.l
  clear hn
  have hP : quE.In (((w.alloc (.cells #[.int .i64 y.x.f, .int .i64 y.x.g, .slice y.A y.x.os.length y.c] 38)).alloc (.cells #[.int .i64 o.C, .int .i64 o.D, .int .i64 o.I, .int .i64 o.M, .int .i64 o.K, .int .i64 o.U, .string o.s] 64)).alloc (.cells #[.int .i64 0, .int .i64 0, .slice none 0 0] 38)) w.heap.size y := ((El.In.new (E := quE) w y _ rfl).alloc _).alloc _
  have hE : opE.In (((w.alloc (.cells #[.int .i64 y.x.f, .int .i64 y.x.g, .slice y.A y.x.os.length y.c] 38)).alloc (.cells #[.int .i64 o.C, .int .i64 o.D, .int .i64 o.I, .int .i64 o.M, .int .i64 o.K, .int .i64 o.U, .string o.s] 64)).alloc (.cells #[.int .i64 0, .int .i64 0, .slice none 0 0] 38)) (w.alloc (.cells #[.int .i64 y.x.f, .int .i64 y.x.g, .slice y.A y.x.os.length y.c] 38)).heap.size o := (El.In.new (E := opE) (w.alloc (.cells #[.int .i64 y.x.f, .int .i64 y.x.g, .slice y.A y.x.os.length y.c] 38)) o _ rfl).alloc _
  have hZ : quE.In (((w.alloc (.cells #[.int .i64 y.x.f, .int .i64 y.x.g, .slice y.A y.x.os.length y.c] 38)).alloc (.cells #[.int .i64 o.C, .int .i64 o.D, .int .i64 o.I, .int .i64 o.M, .int .i64 o.K, .int .i64 o.U, .string o.s] 64)).alloc (.cells #[.int .i64 0, .int .i64 0, .slice none 0 0] 38)) ((w.alloc (.cells #[.int .i64 y.x.f, .int .i64 y.x.g, .slice y.A y.x.os.length y.c] 38)).alloc (.cells #[.int .i64 o.C, .int .i64 o.D, .int .i64 o.I, .int .i64 o.M, .int .i64 o.K, .int .i64 o.U, .string o.s] 64)).heap.size zeroQw := El.In.new (E := quE) ((w.alloc (.cells #[.int .i64 y.x.f, .int .i64 y.x.g, .slice y.A y.x.os.length y.c] 38)).alloc (.cells #[.int .i64 o.C, .int .i64 o.D, .int .i64 o.I, .int .i64 o.M, .int .i64 o.K, .int .i64 o.U, .string o.s] 64)) zeroQw _ rfl
  rw [alloc_size] at hE
  rw [alloc_size, alloc_size] at hZ
  have hB := below_alloc (below_alloc (below_alloc (Below.refl w.heap.size w) (.cells #[.int .i64 y.x.f, .int .i64 y.x.g, .slice y.A y.x.os.length y.c] 38)) (.cells #[.int .i64 o.C, .int .i64 o.D, .int .i64 o.I, .int .i64 o.M, .int .i64 o.K, .int .i64 o.U, .string o.s] 64)) (.cells #[.int .i64 0, .int .i64 0, .slice none 0 0] 38)
  replace hok := hok.below hB
  have hVs : (((w.alloc (.cells #[.int .i64 y.x.f, .int .i64 y.x.g, .slice y.A y.x.os.length y.c] 38)).alloc (.cells #[.int .i64 o.C, .int .i64 o.D, .int .i64 o.I, .int .i64 o.M, .int .i64 o.K, .int .i64 o.U, .string o.s] 64)).alloc (.cells #[.int .i64 0, .int .i64 0, .slice none 0 0] 38)).heap.size = w.heap.size + 1 + 1 + 1 := by rw [alloc_size, alloc_size, alloc_size]
  go_enter Try.func40, Try.ntmps40
  go_wp2_with fail
  generalize ((w.alloc (.cells #[.int .i64 y.x.f, .int .i64 y.x.g, .slice y.A y.x.os.length y.c] 38)).alloc (.cells #[.int .i64 o.C, .int .i64 o.D, .int .i64 o.I, .int .i64 o.M, .int .i64 o.K, .int .i64 o.U, .string o.s] 64)).alloc (.cells #[.int .i64 0, .int .i64 0, .slice none 0 0] 38) = V at *
  obtain ⟨n3, h3⟩ : ∃ n, w.heap.size + 1 + 1 = n := ⟨_, rfl⟩
  obtain ⟨n2, h2⟩ : ∃ n, w.heap.size + 1 = n := ⟨_, rfl⟩
  obtain ⟨n1, h1⟩ : ∃ n, w.heap.size = n := ⟨_, rfl⟩
  rw [h3] at hZ hVs ⊢
  rw [h2] at hE ⊢
  rw [h1] at hP ⊢
  have hwn1 : w.heap.size ≤ n1 := by omega
  have hwn3 : w.heap.size ≤ n3 := by omega
  have hn13 : n1 ≠ n3 := by omega
  clear h1 h2 h3
  have hb1 := below_alloc (Below.refl V.heap.size V) (.cells #[.int .i64 o.C, .int .i64 o.D, .int .i64 o.I, .int .i64 o.M, .int .i64 o.K, .int .i64 o.U, .string o.s] 64)
  have hT : opE.Sl (V.alloc (.cells #[.int .i64 o.C, .int .i64 o.D, .int .i64 o.I, .int .i64 o.M, .int .i64 o.K, .int .i64 o.U, .string o.s] 64)) (some ⟨V.heap.size, 0, none⟩) [o] := (El.In.new (E := opE) V o _ rfl).sl
  have hVs2 : (V.alloc (.cells #[.int .i64 o.C, .int .i64 o.D, .int .i64 o.I, .int .i64 o.M, .int .i64 o.K, .int .i64 o.U, .string o.s] 64)).heap.size = n3 + 1 + 1 := by rw [alloc_size, hVs]
  have hb2 := below_alloc hb1 (.cells #[.slice y.A y.x.os.length y.c, .slice (some ⟨V.heap.size, 0, none⟩) 1 1] 23)
  have hT2 := hT.below (below_alloc (Below.refl _ (V.alloc (.cells #[.int .i64 o.C, .int .i64 o.D, .int .i64 o.I, .int .i64 o.M, .int .i64 o.K, .int .i64 o.U, .string o.s] 64))) (.cells #[.slice y.A y.x.os.length y.c, .slice (some ⟨V.heap.size, 0, none⟩) 1 1] 23))
  have hok2 := hok.below hb2
  have hcells : ∀ j, j < 2 → ((V.alloc (.cells #[.int .i64 o.C, .int .i64 o.D, .int .i64 o.I, .int .i64 o.M, .int .i64 o.K, .int .i64 o.U, .string o.s] 64)).alloc (.cells #[.slice y.A y.x.os.length y.c, .slice (some ⟨V.heap.size, 0, none⟩) 1 1] 23)).cell? ⟨(V.alloc (.cells #[.int .i64 o.C, .int .i64 o.D, .int .i64 o.I, .int .i64 o.M, .int .i64 o.K, .int .i64 o.U, .string o.s] 64)).heap.size, j, none⟩ = some (.slice (pickQ y.A (some ⟨V.heap.size, 0, none⟩) j) (pickQ y.x.os [o] j).length (pickQ y.c 1 j)) := fun j hj => by
    match j, hj with
    | 0, _ => show _ = some (Value.slice y.A y.x.os.length y.c); go_simp
    | 1, _ => show _ = some (Value.slice (some ⟨V.heap.size, 0, none⟩) 1 1); go_simp
  have hcat : catE (pickQ y.x.os [o]) 2 = y.x.os ++ [o] := by
    show ([] ++ y.x.os) ++ [o] = _
    rw [List.nil_append]
  have CC := concatQ2_any (V.alloc (.cells #[.int .i64 o.C, .int .i64 o.D, .int .i64 o.I, .int .i64 o.M, .int .i64 o.K, .int .i64 o.U, .string o.s] 64)).heap.size (pickQ y.x.os [o]) (pickQ y.A (some ⟨V.heap.size, 0, none⟩)) (pickQ y.c 1) _ hcells
    (fun j hj => by
      match j, hj with
      | 0, _ => exact hok2.1
      | 1, _ => exact hT2)
    (fun j hj => by
      match j, hj with
      | 0, _ => exact hok2.2.1
      | 1, _ => exact fun e => by cases e)
    (by rw [hcat, List.length_append, List.length_singleton]; omega) (by rw [alloc_size (V.alloc (.cells #[.int .i64 o.C, .int .i64 o.D, .int .i64 o.I, .int .i64 o.M, .int .i64 o.K, .int .i64 o.U, .string o.s] 64))]; omega)
  rw [hcat, hVs2, hVs] at CC
  replace CC := Lib.hid CC
  replace hb1 := hb2
  replace hB := below_then hB hb2
  clear hcells hcat hok2 hT2 hT hok hVs2
  obtain ⟨p0, p1, p2⟩ := quIn3 hP
  go_wp2_with (first | (refine El.load opRow rfl _ rfl n2 0 rfl o hE.at #[.int .i64 o.C, .int .i64 o.D, .int .i64 o.I, .int .i64 o.M, .int .i64 o.K, .int .i64 o.U, .string o.s] rfl ?_) | fail)
  refine CC.out.mono ?_
  rintro r w3 ⟨A', c', rfl, hS, hfr, hb3⟩
  clear CC p0 p1 p2 hb2
  rw [← hVs] at hb3
  have hfr' : Frs w.heap.size A' := hfr.mono (by rw [alloc_size, alloc_size, hVs]; omega)
  obtain ⟨X, hX⟩ : ∃ X, y.x.os ++ [o] = X := ⟨_, rfl⟩
  rw [hX] at hS ⊢
  have HX := Lib.hid (show (⟨y.x.f, y.x.g, X⟩ : Qu) = pushQ y.x o by rw [← hX]; rfl)
  clear hX hfr
  replace hP := (hP.below hb1).below hb3
  replace hZ := (hZ.below hb1).below hb3
  replace hB := below_then hB hb3
  clear hb1 hb3 hVs hE
  obtain ⟨p0, p1, p2⟩ := quIn3 hP
  have pf := hP.frozen
  go_upto_region 2 with fail
  have hS1 := SlV.keepO hS (by_cell w3 n1 2 (.slice A' X.length c')) (qu_off hS.1 hP)
  replace hP := hP.put ⟨A', c', ⟨y.x.f, y.x.g, X⟩⟩ 2 (.slice A' X.length c') rfl
  replace hZ := hZ.other n1 2 (.slice A' X.length c') hn13.symm
  replace hB := hB.grown (by_cell w3 n1 2 (.slice A' X.length c')) hB.size (fun k e => by have := Option.some.inj e; omega)
  clear p0 p1 p2 pf hS
  generalize w3.setCell ⟨n1, 2, none⟩ (.slice A' X.length c') = w4 at *
  go_wp2_with (first | (refine El.load quRow rfl _ rfl n1 0 rfl ⟨A', c', ⟨y.x.f, y.x.g, X⟩⟩ hP.at #[.int .i64 y.x.f, .int .i64 y.x.g, .slice A' X.length c'] rfl ?_) | (refine El.store quRow rfl _ _ rfl n3 ⟨A', c', ⟨y.x.f, y.x.g, X⟩⟩ #[.int .i64 y.x.f, .int .i64 y.x.g, .slice A' X.length c'] rfl rfl rfl zeroQw hZ ?_) | fail)
  refine El.ret1 quRow (hZ.set ⟨A', c', ⟨y.x.f, y.x.g, X⟩⟩ _ rfl) rfl rfl rfl _ rfl ?_
  exact ⟨⟨A', c', ⟨y.x.f, y.x.g, X⟩⟩, rfl, HX.out, SlV.keepO hS1 (by_row _ n3 _) (qu_off hS1.1 hZ), below_setRow hB hwn3 _, near_new hfr'⟩
end Go.Proofs.Ytnglpkfkepfkkaa

/- The program's reports: an array of fields; there and back. -/
namespace Go.Proofs.Ytnglpkfkepfkkaa
open Go.RowKit Cod

def fdE : El Rp where
  e := 135
  k := 9
  c r := [.int .i64 r.d, .int .i64 r.i, .int .i64 r.b, .int .i64 r.t, .int .i64 r.m, .int .i64 r.p, .int .i64 r.c, .int .i64 r.s, .int .i64 r.k]
  len _ := rfl
  one p u h := by
    simp only [List.mem_cons, List.not_mem_nil, or_false] at h
    rcases h with rfl | rfl | rfl | rfl | rfl | rfl | rfl | rfl | rfl <;> rfl
  pos := by decide
theorem fdRow : fdE.Row Try.prog := ⟨by kernel_rfl, _, Try.underlying135, rfl⟩
theorem two_fd (w : World) (a : Array Value) (T : TypeId) : fdE.In ((w.alloc (.cells a T)).alloc (.cells #[.int .i64 0, .int .i64 0, .int .i64 0, .int .i64 0, .int .i64 0, .int .i64 0, .int .i64 0, .int .i64 0, .int .i64 0] 135)) (w.heap.size + 1) zeroRp := by
  have h := El.In.new (E := fdE) (w.alloc (.cells a T)) zeroRp _ rfl
  rw [alloc_size] at h; exact h
set_option maxRecDepth 100000 in
set_option maxHeartbeats 2000000 in
theorem fieldsOf_any (r : Rp) (w : World) : Calls Try.prog 79 #[.agg #[.int .i64 r.d, .int .i64 r.i, .int .i64 r.b, .int .i64 r.t, .int .i64 r.m, .int .i64 r.p, .int .i64 r.c, .int .i64 r.s, .int .i64 r.k]] w fun e w' => e = .returned (.agg #[.int .i64 r.d, .int .i64 r.i, .int .i64 r.b, .int .i64 r.t, .int .i64 r.m, .int .i64 r.p, .int .i64 r.c, .int .i64 r.s, .int .i64 r.k]) ∧ Below w.heap.size w w' := by
  have hP : rpE.In ((w.alloc (.cells #[.int .i64 r.d, .int .i64 r.i, .int .i64 r.b, .int .i64 r.t, .int .i64 r.m, .int .i64 r.p, .int .i64 r.c, .int .i64 r.s, .int .i64 r.k] 59)).alloc (.cells #[.int .i64 0, .int .i64 0, .int .i64 0, .int .i64 0, .int .i64 0, .int .i64 0, .int .i64 0, .int .i64 0, .int .i64 0] 135)) w.heap.size r := (El.In.new (E := rpE) w r _ rfl).alloc _
  have hQ := two_fd w #[.int .i64 r.d, .int .i64 r.i, .int .i64 r.b, .int .i64 r.t, .int .i64 r.m, .int .i64 r.p, .int .i64 r.c, .int .i64 r.s, .int .i64 r.k] 59
  have hB := below_alloc (below_alloc (Below.refl w.heap.size w) (.cells #[.int .i64 r.d, .int .i64 r.i, .int .i64 r.b, .int .i64 r.t, .int .i64 r.m, .int .i64 r.p, .int .i64 r.c, .int .i64 r.s, .int .i64 r.k] 59)) (.cells #[.int .i64 0, .int .i64 0, .int .i64 0, .int .i64 0, .int .i64 0, .int .i64 0, .int .i64 0, .int .i64 0, .int .i64 0] 135)
  go_enter Try.func79, Try.ntmps79
  go_upto_region 1 with fail
  generalize (w.alloc (.cells #[.int .i64 r.d, .int .i64 r.i, .int .i64 r.b, .int .i64 r.t, .int .i64 r.m, .int .i64 r.p, .int .i64 r.c, .int .i64 r.s, .int .i64 r.k] 59)).alloc (.cells #[.int .i64 0, .int .i64 0, .int .i64 0, .int .i64 0, .int .i64 0, .int .i64 0, .int .i64 0, .int .i64 0, .int .i64 0] 135) = W at *
  obtain ⟨n3, h3⟩ : ∃ n, w.heap.size + 1 = n := ⟨_, rfl⟩
  obtain ⟨n2, h2⟩ : ∃ n, w.heap.size = n := ⟨_, rfl⟩
  rw [h3] at hQ ⊢
  rw [h2] at hP ⊢
  have hwn3 : w.heap.size ≤ n3 := by omega
  clear h2 h3
  obtain ⟨p0, p1, p2, p3, p4, p5, p6, p7, p8⟩ := rpIn9 hP
  go_wp2_with (first | (refine El.store fdRow rfl _ _ rfl n3 r #[.int .i64 r.d, .int .i64 r.i, .int .i64 r.b, .int .i64 r.t, .int .i64 r.m, .int .i64 r.p, .int .i64 r.c, .int .i64 r.s, .int .i64 r.k] rfl rfl rfl zeroRp hQ ?_) | fail)
  refine El.ret1 fdRow (hQ.set r _ rfl) rfl rfl rfl #[.int .i64 r.d, .int .i64 r.i, .int .i64 r.b, .int .i64 r.t, .int .i64 r.m, .int .i64 r.p, .int .i64 r.c, .int .i64 r.s, .int .i64 r.k] rfl ?_
  exact ⟨rfl, below_setRow hB hwn3 _⟩

/-- Behind k numbers: all read, or it went wrong. -/
def fdState (s : ByteArray) (p : Nat) (bad : Bool) (k : Nat) (x : Rp) (q : Nat) (b : Bool) : Prop := (b = false ∧ bad = false ∧ isNums s k p = some ((rpL x).take k, q)) ∨ (b = true ∧ isRp s p bad = none)
theorem fdState.zero (s : ByteArray) (p : Nat) (bad : Bool) (x : Rp) : fdState s p bad 0 x p bad := by
  cases bad
  · exact Or.inl ⟨rfl, rfl, rfl⟩
  · exact Or.inr ⟨rfl, rfl⟩
theorem fdState.last {s : ByteArray} {p : Nat} {bad : Bool} {x : Rp} {q : Nat} (h : fdState s p bad 9 x q false) : isRp s p bad = if rpB x = true then some (x, q) else none := by
  rcases h with ⟨_, rfl, hn⟩ | ⟨h, _⟩
  · unfold isRp
    rw [if_neg (by decide), hn, Option.bind_some]
    rfl
  · cases h
end Go.Proofs.Ytnglpkfkepfkkaa

/- The program's reports: bounds, right, Right. -/
namespace Go.Proofs.Ytnglpkfkepfkkaa
open Go.RowKit Cod
def FdS (n : Nat) (r : Rp) (w : World) : Prop := w.cell? ⟨n, 0, none⟩ = some (.int .i64 r.d) ∧ w.cell? ⟨n, 1, none⟩ = some (.int .i64 r.i) ∧ w.cell? ⟨n, 2, none⟩ = some (.int .i64 r.b) ∧ w.cell? ⟨n, 3, none⟩ = some (.int .i64 r.t) ∧ w.cell? ⟨n, 4, none⟩ = some (.int .i64 r.m) ∧ w.cell? ⟨n, 5, none⟩ = some (.int .i64 r.p) ∧ w.cell? ⟨n, 6, none⟩ = some (.int .i64 r.c) ∧ w.cell? ⟨n, 7, none⟩ = some (.int .i64 r.s) ∧ w.cell? ⟨n, 8, none⟩ = some (.int .i64 r.k)
end Go.Proofs.Ytnglpkfkepfkkaa
