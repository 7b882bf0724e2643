/- Texts laid one behind the other: Qg, Qh, Qj, Tc, Td, Shf, Tf, Tg, El, Wa, Qk. -/
import Derived.Test.YtdkolkjgojamcaaB03
import Derived.Deep.CutBlock
import Derived.Deep.CutRange
import Derived.Shelf.Strings.Builder1
import Derived.Test.YtdkolkjgojamcaaChecked
import Derived.Lib.Builder
import Derived.Lib.AppendStr
import Derived.Deep.RegionHeld3
/- QueueOnce, given the program's calls: an acknowledgement that came changes nothing; what is acknowledged in two goes is acknowledged. -/
namespace Go.Proofs.Ytdkolkjgojamcaa
open Go.ChangeShapes Go.WideShapes Go.ChangeAt Go.RowKit Go.Deep Nam Cod

theorem cU2 : Try.prog.cellsOf 50 = 2 := by kernel_rfl
theorem cU1 : Try.prog.cellsOf 5 = 1 := by kernel_rfl

/-- Two bytes among the arguments. -/
theorem open_two {H : Type} {enc : TypeId × Value → H} {W : World} {base : Nat} {sp : Nat → Bool} {v : Value} {d : DataW H} {ps : List MemPlace}
    (hv : Value.okWide Try.prog W .any base 50 v) (h : DataW.Trod enc Try.prog W 0 sp true 50 v d ps) : ∃ a b : Nat, v = .agg #[.int .u8 a, .int .u8 b] ∧ a < 256 ∧ b < 256 := by
  obtain ⟨cs, rfl, hsz⟩ : ∃ cs : Array Value, v = .agg cs ∧ cs.size = 2 := by
    simp only [Value.okWide, Try.underlying50] at hv
    obtain ⟨cs, h1, h2, _⟩ := hv
    exact ⟨cs, h1, by rw [h2, cU2]⟩
  obtain ⟨fuel, hf⟩ := h
  obtain ⟨xs, m, rfl, _, hlen, hn, hel⟩ := DataW.trod_array Try.underlying50 hf
  have hcs : (Value.agg cs).cells.toList = cs.toList := rfl
  rw [hcs] at hel
  have hone : ∀ i, i < 2 → ∃ a : Nat, cs[i]? = some (.int .u8 a) ∧ a < 256 := by
    intro i hi
    have h1 := hel i hi
    rw [cU1, Nat.mul_one] at h1
    obtain ⟨x, hxk⟩ : ∃ x, xs[i]? = some x := ⟨_, List.getElem?_eq_getElem (by omega)⟩
    rw [hxk] at h1
    obtain ⟨n, e1, _, wf⟩ := DataW.trod_int Try.underlying5 h1
    have hb := bounds_u8 wf
    have h5 := congrArg (·[0]?) e1
    refine ⟨n.toNat, ?_, by omega⟩
    rw [Int.toNat_of_nonneg hb.1, ← Array.getElem?_toList]
    simpa using h5
  obtain ⟨a, ha, ha2⟩ := hone 0 (by decide)
  obtain ⟨b, hb, hb2⟩ := hone 1 (by decide)
  refine ⟨a, b, ?_, ha2, hb2⟩
  congr 1
  apply Array.ext_getElem?
  intro i
  match i with
  | 0 => rw [ha]; rfl
  | 1 => rw [hb]; rfl
  | i + 2 => rw [Array.getElem?_eq_none (by omega)]; simp


set_option maxRecDepth 100000 in
theorem once13_no (H : QueueCalls) (A : Option Addr) (c : Nat) (l : List Ad) (u v : Nat) (w : World) (hl : 60 < l.length) : Calls Try.prog 6 #[.slice A l.length c, .agg #[.int .u8 u, .int .u8 v]] w fun e w' => e = .returned (.bool true) ∧ Below w.heap.size w w' := by
  have hN := below_alloc (Below.refl w.heap.size w) (.cells #[.int .u8 u, .int .u8 v] 50)
  have hfin : ∀ wx, Below w.heap.size w wx → Below w.heap.size w wx := fun _ h => h
  go_enter Try.func6, Try.ntmps6
  go_wp2_with fail
  refine (awake13_any H _).mono ?_
  rintro r w2 ⟨rfl, hb2⟩
  go_wp2_with fail
  go_ret
  exact ⟨rfl, hfin _ (below_then hN hb2)⟩

set_option maxRecDepth 100000 in
set_option maxHeartbeats 4000000 in
theorem once13_yes (H : QueueCalls) (A : Option Addr) (c : Nat) (l : List Ad) (u v : Nat) (w : World) (hL : adE.Sl w A l) (hl : l.length ≤ 60) (hu : u < 256) (hv : v < 256) : Calls Try.prog 6 #[.slice A l.length c, .agg #[.int .u8 u, .int .u8 v]] w fun e w' => e = .returned (.bool true) ∧ Below w.heap.size w w' := by
  have hN := below_alloc (Below.refl w.heap.size w) (.cells #[.int .u8 u, .int .u8 v] 50)
  obtain ⟨t0, t1⟩ : (w.alloc (.cells #[.int .u8 u, .int .u8 v] 50)).cell? ⟨w.heap.size, 0, none⟩ = some (.int .u8 u) ∧ (w.alloc (.cells #[.int .u8 u, .int .u8 v] 50)).cell? ⟨w.heap.size, 1, none⟩ = some (.int .u8 v) := by
    constructor <;> go_simp
  have hb0 : w.heap.size < (w.alloc (.cells #[.int .u8 u, .int .u8 v] 50)).heap.size := by rw [alloc_size]; omega
  have HL := Lib.hid hL
  have h1000 : l.length ≤ 1000 := by omega
  clear hL
  go_enter Try.func6, Try.ntmps6
  go_wp2_with fail
  generalize w.alloc (.cells #[.int .u8 u, .int .u8 v] 50) = W0 at *
  obtain ⟨n0, hn0⟩ : ∃ n, w.heap.size = n := ⟨_, rfl⟩
  rw [hn0] at t0 t1 hb0 ⊢
  clear hn0
  have hfin : ∀ wx, Below W0.heap.size W0 wx → Below w.heap.size w wx := fun _ h => below_then hN h
  have hL0 := HL.out.below hN
  replace HL := Lib.hid hL0
  have HT := Lib.hid (fun (wx : World) (hb : Below W0.heap.size W0 wx) => (⟨by rw [(bcell hb).1 _ _ hb0]; exact t0, by rw [(bcell hb).1 _ _ hb0]; exact t1⟩ : wx.cell? ⟨n0, 0, none⟩ = some (.int .u8 u) ∧ wx.cell? ⟨n0, 1, none⟩ = some (.int .u8 v)))
  replace hN := Below.refl W0.heap.size W0
  clear t0 t1 hb0 hL0
  refine (H.new _).mono ?_
  rintro r w1 ⟨z0, rfl, hz0, hzo0, hb1⟩
  have HZ0 := Lib.hid hz0
  clear hz0
  replace hN := below_then hN hb1
  clear hb1
  have hP : quE.In (w1.alloc (.cells #[.int .i64 z0.x.f, .int .i64 z0.x.g, .slice z0.A z0.x.os.length z0.c] 26)) w1.heap.size z0 := El.In.new (E := quE) w1 z0 _ rfl
  have hal := below_alloc (Below.refl w1.heap.size w1) (.cells #[.int .i64 z0.x.f, .int .i64 z0.x.g, .slice z0.A z0.x.os.length z0.c] 26)
  have hwn1 := hN.size
  replace hN := below_then hN hal
  replace hzo0 := hzo0.below hal
  clear hal
  go_wp2_with fail
  generalize w1.alloc (.cells #[.int .i64 z0.x.f, .int .i64 z0.x.g, .slice z0.A z0.x.os.length z0.c] 26) = W1 at *
  obtain ⟨n1, hn1⟩ : ∃ n, w1.heap.size = n := ⟨_, rfl⟩
  rw [hn1] at hP hwn1 ⊢
  clear hn1
  have HF0 := Lib.hid (show fineTo l 0 from fun j hj hj0 => absurd hj0 (Nat.not_lt_zero j))
  go_loopw [6] (fun i wr => ∃ (k : Nat) (y : Qw), k ≤ l.length ∧ i = .int .i64 k ∧ Hid (y.x = qAt l k) ∧ Hid (fineTo l k) ∧ y.ok wr ∧ quE.In wr n1 y ∧ Below W0.heap.size W0 wr) (fun i _ => l.length - (intOf i).toNat)
  case atStart => exact ⟨0, z0, Nat.zero_le _, rfl, Lib.hid HZ0.out, HF0, hzo0, hP, hN⟩
  case round =>
    clear hP hN hzo0 HZ0 HF0
    obtain ⟨k, y, hk, rfl, hy, hf, ho, hP, hN⟩ := hrel
    by_cases hkl : k < l.length
    · skip
      obtain ⟨b, off, eA, hbw, hc⟩ := HL.out (by omega)
      have hx := adIdxH (cap := c) eA hkl
      have hat : adE.At wr b (off + k * 2) l[k] := (hc k hkl).below hN hbw
      have hbr := Nat.lt_of_lt_of_le hbw hN.size
      by_cases hfa : fineA l[k]
      rotate_left
      · obtain ⟨s0, s1⟩ := adAtH hat
        generalize l[k] = a at *
        obtain ⟨p0, p1, p2⟩ := quIn3 hP
        clear hc eA
        by_cases h1 : 549755813888 < a.n
        · clear hfa
          go_wp2_with fail
          refine (awake13_any H _).mono ?_
          rintro r w2 ⟨rfl, hb2⟩
          go_wp2_with fail
          go_ret
          exact ⟨rfl, hfin _ (below_then hN hb2)⟩
        · have h2 : a.n < -549755813888 := by unfold fineA at hfa; omega
          clear hfa
          go_wp2_with fail
          refine (awake13_any H _).mono ?_
          rintro r w2 ⟨rfl, hb2⟩
          go_wp2_with fail
          go_ret
          exact ⟨rfl, hfin _ (below_then hN hb2)⟩
      have HS := Lib.hid (fun (wx : World) (ho : y.ok wx) => stepped H h1000 hkl hf.out hy.out l[k] rfl hfa wx ho)
      have HF2 := Lib.hid (fineTo_next hf.out hkl hfa)
      generalize l[k] = a at *
      obtain ⟨s0, s1⟩ := adAtH hat
      have c1 : decide (549755813888 < a.n) = false := decide_eq_false (by have := hfa.2; omega)
      have c2 : decide (a.n < -549755813888) = false := decide_eq_false (by have := hfa.1; omega)
      clear hc
      clear eA
      go_wp2_with fail
      clear c1 c2 s0 s1
      refine region_anyG (S := PLQ n1 y b (off + k * 2) a) 7 (by kernel_rfl) ?_
      replace hP : quE.In wr.drew n1 y := hP
      replace hat : adE.At wr.drew b (off + k * 2) a := hat
      replace ho : y.ok wr.drew := ho
      replace hN := hN.drew
      replace hbr : b < wr.drew.heap.size := hbr
      skip
      generalize wr.drew = U at *
      have hS : PLQ n1 y b (off + k * 2) a U := ⟨quIn3 hP, adAtH hat⟩
      refine anyG_take (i := 0) (v := .agg #[.int .i64 y.x.f, .int .i64 y.x.g, .slice y.A y.x.os.length y.c]) rfl (by kernel_rfl) (by kernel_rfl) (by kernel_rfl) (by kernel_rfl) (by kernel_rfl) (fun _ _ _ h => h) (Or.inl ⟨by rfl, fun w' hSw => by (obtain ⟨⟨m0, m1, m2⟩, s0, s1⟩ := hSw; go_simp)⟩) hS ?_
      try simp only [Act.put, List.setIfInBounds_toArray, List.set_cons_zero, List.set_cons_succ]
      refine anyG_take (i := 1) (v := .slice A l.length c) rfl (by kernel_rfl) (by kernel_rfl) (by kernel_rfl) (by kernel_rfl) (by kernel_rfl) (fun _ _ _ h => h) (Or.inl ⟨by rfl, fun w' hSw => by (obtain ⟨⟨m0, m1, m2⟩, s0, s1⟩ := hSw; go_simp)⟩) hS ?_
      try simp only [Act.put, List.setIfInBounds_toArray, List.set_cons_zero, List.set_cons_succ]
      refine anyG_take (i := 2) (v := .int .i64 k) rfl (by kernel_rfl) (by kernel_rfl) (by kernel_rfl) (by kernel_rfl) (by kernel_rfl) (fun _ _ _ h => h) (Or.inl ⟨by rfl, fun w' hSw => by (obtain ⟨⟨m0, m1, m2⟩, s0, s1⟩ := hSw; go_simp)⟩) hS ?_
      try simp only [Act.put, List.setIfInBounds_toArray, List.set_cons_zero, List.set_cons_succ]
      refine anyG_take (i := 3) (v := .pointer (some ⟨b, off + k * 2, none⟩)) rfl (by kernel_rfl) (by kernel_rfl) (by kernel_rfl) (by kernel_rfl) (by kernel_rfl) (fun _ _ _ h => h) (Or.inl ⟨by rfl, fun w' hSw => by (obtain ⟨⟨m0, m1, m2⟩, s0, s1⟩ := hSw; go_simp)⟩) hS ?_
      try simp only [Act.put, List.setIfInBounds_toArray, List.set_cons_zero, List.set_cons_succ]
      refine anyG_take (i := 4) (v := .agg #[.int .i64 a.k, .int .i64 a.n]) rfl (by kernel_rfl) (by kernel_rfl) (by kernel_rfl) (by kernel_rfl) (by kernel_rfl) (fun _ _ _ h => h) (Or.inl ⟨by rfl, fun w' hSw => by (obtain ⟨⟨m0, m1, m2⟩, s0, s1⟩ := hSw; go_simp)⟩) hS ?_
      try simp only [Act.put, List.setIfInBounds_toArray, List.set_cons_zero, List.set_cons_succ]
      refine anyG_take (i := 5) (v := .int .i64 k) rfl (by kernel_rfl) (by kernel_rfl) (by kernel_rfl) (by kernel_rfl) (by kernel_rfl) (fun _ _ _ h => h) (Or.inl ⟨by rfl, fun w' hSw => by (obtain ⟨⟨m0, m1, m2⟩, s0, s1⟩ := hSw; go_simp)⟩) hS ?_
      try simp only [Act.put, List.setIfInBounds_toArray, List.set_cons_zero, List.set_cons_succ]
      refine anyG_step (rs := [6]) (by kernel_rfl) (by simp) ?_
      refine AllG.cons rfl (fun K hK => ?_) AllG.nil
      go_simp
      refine (HS.out U ho).mono ?_
      rintro r w1 ⟨z, rfl, hz0, hzo, hb1, hnr⟩
      have hz := Lib.hid hz0
      clear hz0 hS
      replace hP := hP.below hb1
      replace hat := hat.below hb1 hbr
      replace hN := hN.trans (hb1.mono hN.size)
      clear hb1
      clear ho
      try go_wp2_with fail
      refine hK.out _ _ (⟨quIn3 hP, adAtH hat⟩ : PLQ n1 y b (off + k * 2) a w1) ?_
      try simp only [Act.put, List.setIfInBounds_toArray, List.set_cons_zero, List.set_cons_succ]
      clear hK
      refine anyG_step (rs := [7]) (by kernel_rfl) (by simp) ?_
      refine AllG.last (n := 7) rfl (fun K hK => ?_)
      refine El.step_store quRow rfl _ _ rfl n1 z #[.int .i64 z.x.f, .int .i64 z.x.g, .slice z.A z.x.os.length z.c] rfl rfl rfl y hP ?_
      refine hK.out _ _ ?_
      clear hK
      refine anyG_done (by kernel_rfl) ?_ _
      have hP2 := hP.set z #[.int .i64 z.x.f, .int .i64 z.x.g, .slice z.A z.x.os.length z.c] rfl
      have hzo2 : z.ok (w1.setRow n1 #[.int .i64 z.x.f, .int .i64 z.x.g, .slice z.A z.x.os.length z.c]) := SlV.keepO hzo (by_row _ n1 _) (qu_off hzo.1 hP)
      have hN2 := below_setRow hN hwn1 #[.int .i64 z.x.f, .int .i64 z.x.g, .slice z.A z.x.os.length z.c]
      go_wp2_with fail
      exact ⟨⟨k + 1, z, by omega, by go_num, hz, HF2, hzo2, hP2, hN2⟩, by simp [intOf]; omega⟩
    · obtain rfl : k = l.length := by omega
      have hK := qAt_K h1000 l.length (Nat.le_refl _) hf.out
      rw [← hy.out] at hK
      have HNN := Lib.hid (hK.n h1000)
      have HF1 := Lib.hid hK.f1
      have HK := Lib.hid hK
      obtain ⟨t0, t1⟩ := HT.out _ hN
      clear hK hy hf HL hkl hk
      obtain ⟨p0, p1, p2⟩ := quIn3 hP
      rcases Nat.lt_or_ge v u with huv | huv
      · have m1 : min (u : Int) (v : Int) = v := by omega
        have m2 : max (u : Int) (v : Int) = u := by omega
        have m3 : (v : Int) < (u : Int) := by omega
        go_wp2_with fail
        go_quiet (fail)
        replace hP : quE.In (wr.drewN nq) n1 y := hP
        replace ho : y.ok (wr.drewN nq) := ho
        replace hN := below_drew hN nq
        have hab : ((v : Nat) : Int) ≤ ((u : Nat) : Int) := by omega
        have HQ1 := Lib.hid (ackQ_old y.x hab)
        have HQ2 := Lib.hid (ackQ_old y.x (Int.le_refl ((u : Nat) : Int)))
        have HQ3 := Lib.hid (ackQ_two y.x hab)
        have HQA := Lib.hid (show ∀ n : Nat, n < 256 → QuN (ackQ y.x n) from fun n hn => by
          obtain ⟨g1, g2, g3⟩ := ackQ_end y.x n
          have e1 := HK.out.f1
          have e2 := HK.out.fl
          have e5 := HNN.out.g
          have e3 := HNN.out.l
          have e4 := ackQ_len y.x n
          exact ⟨by omega, by omega, by omega⟩)
        have HQ0 := Lib.hid (ackQ_zero HF1.out)
        clear p0 p1 p2 t0 t1 m1 m2 m3 hab
        obtain ⟨p0, p1, p2⟩ := quIn3 hP
        go_wp2_with fail
        generalize wr.drewN nq = V at *
        refine (H.ackW y (u : Nat) V HNN.out (by omega) ho).mono ?_
        rintro r w2 ⟨z, rfl, hz0, hzo, hb2⟩
        have HZ := Lib.hid hz0
        clear hz0 p0 p1 p2
        replace hP := hP.below hb2
        replace ho := ho.below hb2
        replace hN := below_then hN hb2
        clear hb2
        have hX : quE.In (w2.alloc (.cells #[.int .i64 z.x.f, .int .i64 z.x.g, .slice z.A z.x.os.length z.c] 26)) w2.heap.size z := El.In.new (E := quE) w2 z _ rfl
        have hal := below_alloc (Below.refl w2.heap.size w2) (.cells #[.int .i64 z.x.f, .int .i64 z.x.g, .slice z.A z.x.os.length z.c] 26)
        replace hP := hP.below hal
        replace ho := ho.below hal
        replace hzo := hzo.below hal
        replace hN := below_then hN hal
        clear hal
        go_wp2_with fail
        generalize w2.alloc (.cells #[.int .i64 z.x.f, .int .i64 z.x.g, .slice z.A z.x.os.length z.c] 26) = W2 at *
        obtain ⟨n4, hn4⟩ : ∃ n, w2.heap.size = n := ⟨_, rfl⟩
        rw [hn4] at hX ⊢
        clear hn4
        have CAW := Lib.hid (fun (wx : World) => awake13_any H wx)
        have hzN : QuN z.x := by rw [HZ.out]; exact HQA.out _ (by omega)
        have CZA := Lib.hid (fun (wx : World) (h : z.ok wx) => (show Calls Try.prog 24 #[.agg #[.int .i64 z.x.f, .int .i64 z.x.g, .slice z.A z.x.os.length z.c], .int .i64 (v : Nat)] wx fun r w' => ∃ A' c', r = .returned (.agg #[.int .i64 z.x.f, .int .i64 z.x.g, .slice A' z.x.os.length c']) ∧ Qw.ok ⟨A', c', z.x⟩ w' ∧ Below wx.heap.size wx w' from (H.ackW z (v : Nat) wx hzN (by omega) h).mono (by
          rintro r w' ⟨⟨A', c', x⟩, rfl, hx, ho, hb⟩
          obtain rfl : x = z.x := by rw [show x = ackQ z.x _ from hx, HZ.out, HQ1.out]
          exact ⟨A', c', rfl, ho, hb⟩)))
        have CZB := Lib.hid (fun (wx : World) (h : z.ok wx) => (show Calls Try.prog 24 #[.agg #[.int .i64 z.x.f, .int .i64 z.x.g, .slice z.A z.x.os.length z.c], .int .i64 (u : Nat)] wx fun r w' => ∃ A' c', r = .returned (.agg #[.int .i64 z.x.f, .int .i64 z.x.g, .slice A' z.x.os.length c']) ∧ Qw.ok ⟨A', c', z.x⟩ w' ∧ Below wx.heap.size wx w' from (H.ackW z (u : Nat) wx hzN (by omega) h).mono (by
          rintro r w' ⟨⟨A', c', x⟩, rfl, hx, ho, hb⟩
          obtain rfl : x = z.x := by rw [show x = ackQ z.x _ from hx, HZ.out, HQ2.out]
          exact ⟨A', c', rfl, ho, hb⟩)))
        have CYA := Lib.hid (fun (wx : World) (h : y.ok wx) => (show Calls Try.prog 24 #[.agg #[.int .i64 y.x.f, .int .i64 y.x.g, .slice y.A y.x.os.length y.c], .int .i64 (v : Nat)] wx fun r w' => ∃ t : Qw, r = .returned (.agg #[.int .i64 t.x.f, .int .i64 t.x.g, .slice t.A t.x.os.length t.c]) ∧ t.x = ackQ y.x (v : Nat) ∧ t.ok w' ∧ Below wx.heap.size wx w' from H.ackW y (v : Nat) wx HNN.out (by omega) h))
        have CTB := Lib.hid (fun (t : Qw) (ht : t.x = ackQ y.x (v : Nat)) (wx : World) (h : t.ok wx) => (show Calls Try.prog 24 #[.agg #[.int .i64 t.x.f, .int .i64 t.x.g, .slice t.A t.x.os.length t.c], .int .i64 (u : Nat)] wx fun r w' => ∃ A' c', r = .returned (.agg #[.int .i64 z.x.f, .int .i64 z.x.g, .slice A' z.x.os.length c']) ∧ Qw.ok ⟨A', c', z.x⟩ w' ∧ Below wx.heap.size wx w' from (H.ackW t (u : Nat) wx (by rw [ht]; exact HQA.out _ (by omega)) (by omega) h).mono (by
          rintro r w' ⟨⟨A', c', x⟩, rfl, hx, ho, hb⟩
          obtain rfl : x = z.x := by rw [show x = ackQ t.x _ from hx, HZ.out, ht, HQ3.out]
          exact ⟨A', c', rfl, ho, hb⟩)))
        have CY0 := Lib.hid (fun (wx : World) (h : y.ok wx) => (show Calls Try.prog 24 #[.agg #[.int .i64 y.x.f, .int .i64 y.x.g, .slice y.A y.x.os.length y.c], .int .i64 0] wx fun r w' => ∃ A' c', r = .returned (.agg #[.int .i64 y.x.f, .int .i64 y.x.g, .slice A' y.x.os.length c']) ∧ Qw.ok ⟨A', c', y.x⟩ w' ∧ Below wx.heap.size wx w' from (H.ackW y 0 wx HNN.out (by decide) h).mono (by
          rintro r w' ⟨⟨A', c', x⟩, rfl, hx, ho, hb⟩
          obtain rfl : x = y.x := by rw [show x = ackQ y.x _ from hx, HQ0.out]
          exact ⟨A', c', rfl, ho, hb⟩)))
        have CSZ := Lib.hid (fun (A' : Option Addr) (c' : Nat) (wx : World) (h1 : Qw.ok ⟨A', c', z.x⟩ wx) (h2 : z.ok wx) => (show Calls Try.prog 15 #[.agg #[.int .i64 z.x.f, .int .i64 z.x.g, .slice A' z.x.os.length c'], .agg #[.int .i64 z.x.f, .int .i64 z.x.g, .slice z.A z.x.os.length z.c]] wx fun r w' => r = .returned (.bool true) ∧ Below wx.heap.size wx w' from refSameQu_any ⟨A', c', z.x⟩ z wx rfl h1 h2 hzN.l))
        have CSY := Lib.hid (fun (A' : Option Addr) (c' : Nat) (wx : World) (h1 : Qw.ok ⟨A', c', y.x⟩ wx) (h2 : y.ok wx) => (show Calls Try.prog 15 #[.agg #[.int .i64 y.x.f, .int .i64 y.x.g, .slice A' y.x.os.length c'], .agg #[.int .i64 y.x.f, .int .i64 y.x.g, .slice y.A y.x.os.length y.c]] wx fun r w' => r = .returned (.bool true) ∧ Below wx.heap.size wx w' from refSameQu_any ⟨A', c', y.x⟩ y wx rfl h1 h2 HNN.out.l))
        clear hzN HQ1 HQ2 HQ3 HQA HQ0 HZ HF1 HK hl h1000
        replace hP : quE.In W2.drew n1 y := hP
        replace hX : quE.In W2.drew n4 z := hX
        replace ho : y.ok W2.drew := ho
        replace hzo : z.ok W2.drew := hzo
        replace hN := hN.drew
        go_region_held3 (fun w' => (w'.cell? ⟨n1, 0, none⟩ = some (.int .i64 y.x.f) ∧ w'.cell? ⟨n1, 1, none⟩ = some (.int .i64 y.x.g) ∧ w'.cell? ⟨n1, 2, none⟩ = some (.slice y.A y.x.os.length y.c)) ∧ (w'.cell? ⟨n4, 0, none⟩ = some (.int .i64 z.x.f) ∧ w'.cell? ⟨n4, 1, none⟩ = some (.int .i64 z.x.g) ∧ w'.cell? ⟨n4, 2, none⟩ = some (.slice z.A z.x.os.length z.c))) (with_reducible exact ⟨quIn3 hP, quIn3 hX⟩) (first | (go_at_call 7; (with_reducible refine (CAW.out _).mono ?_); rintro r w6 ⟨rfl, hb6⟩; replace hP := hP.below hb6; replace hX := hX.below hb6; replace ho := ho.below hb6; replace hzo := hzo.below hb6; replace hN := below_then hN hb6; try replace h5 := h5.below hb6; try replace h6 := h6.below hb6; try replace h7 := h7.below hb6; try replace h8 := h8.below hb6; try replace h9 := h9.below hb6; clear hb6) | (go_at_call 24; (with_reducible refine (CZA.out _ hzo).mono ?_); rintro r w6 ⟨A5, c5, rfl, h5, hb6⟩; replace hP := hP.below hb6; replace hX := hX.below hb6; replace ho := ho.below hb6; replace hzo := hzo.below hb6; replace hN := below_then hN hb6; try replace h5 := h5.below hb6; try replace h6 := h6.below hb6; try replace h7 := h7.below hb6; try replace h8 := h8.below hb6; try replace h9 := h9.below hb6; clear hb6) | (go_at_call 24; (with_reducible refine (CZB.out _ hzo).mono ?_); rintro r w6 ⟨A6, c6, rfl, h6, hb6⟩; replace hP := hP.below hb6; replace hX := hX.below hb6; replace ho := ho.below hb6; replace hzo := hzo.below hb6; replace hN := below_then hN hb6; try replace h5 := h5.below hb6; try replace h6 := h6.below hb6; try replace h7 := h7.below hb6; try replace h8 := h8.below hb6; try replace h9 := h9.below hb6; clear hb6) | (go_at_call 24; (with_reducible refine (CYA.out _ ho).mono ?_); rintro r w6 ⟨t, rfl, ht0, h7, hb6⟩; have ht := Lib.hid ht0; clear ht0; replace hP := hP.below hb6; replace hX := hX.below hb6; replace ho := ho.below hb6; replace hzo := hzo.below hb6; replace hN := below_then hN hb6; try replace h5 := h5.below hb6; try replace h6 := h6.below hb6; try replace h7 := h7.below hb6; try replace h8 := h8.below hb6; try replace h9 := h9.below hb6; clear hb6) | (go_at_call 24; (with_reducible refine (CTB.out t ht.out _ h7).mono ?_); rintro r w6 ⟨A8, c8, rfl, h8, hb6⟩; replace hP := hP.below hb6; replace hX := hX.below hb6; replace ho := ho.below hb6; replace hzo := hzo.below hb6; replace hN := below_then hN hb6; try replace h5 := h5.below hb6; try replace h6 := h6.below hb6; try replace h7 := h7.below hb6; try replace h8 := h8.below hb6; try replace h9 := h9.below hb6; clear hb6) | (go_at_call 24; (with_reducible refine (CY0.out _ ho).mono ?_); rintro r w6 ⟨A9, c9, rfl, h9, hb6⟩; replace hP := hP.below hb6; replace hX := hX.below hb6; replace ho := ho.below hb6; replace hzo := hzo.below hb6; replace hN := below_then hN hb6; try replace h5 := h5.below hb6; try replace h6 := h6.below hb6; try replace h7 := h7.below hb6; try replace h8 := h8.below hb6; try replace h9 := h9.below hb6; clear hb6) | (go_at_call 15; (with_reducible first | refine (CSZ.out _ _ _ h5 hzo).mono ?_ | refine (CSZ.out _ _ _ h6 hzo).mono ?_ | refine (CSZ.out _ _ _ h8 hzo).mono ?_ | refine (CSY.out _ _ _ h9 ho).mono ?_); rintro r w6 ⟨rfl, hb6⟩; replace hP := hP.below hb6; replace hX := hX.below hb6; replace ho := ho.below hb6; replace hzo := hzo.below hb6; replace hN := below_then hN hb6; try replace h5 := h5.below hb6; try replace h6 := h6.below hb6; try replace h7 := h7.below hb6; try replace h8 := h8.below hb6; try replace h9 := h9.below hb6; clear hb6))
        go_wp2_with fail
        go_ret
        exact ⟨rfl, hfin _ hN⟩
      · rcases Nat.lt_or_ge u v with huw | huw
        · have m1 : min (u : Int) (v : Int) = u := by omega
          have m2 : max (u : Int) (v : Int) = v := by omega
          have m3 : (u : Int) < (v : Int) := by omega
          go_wp2_with fail
          go_quiet (fail)
          replace hP : quE.In (wr.drewN nq) n1 y := hP
          replace ho : y.ok (wr.drewN nq) := ho
          replace hN := below_drew hN nq
          have hab : ((u : Nat) : Int) ≤ ((v : Nat) : Int) := by omega
          have HQ1 := Lib.hid (ackQ_old y.x hab)
          have HQ2 := Lib.hid (ackQ_old y.x (Int.le_refl ((v : Nat) : Int)))
          have HQ3 := Lib.hid (ackQ_two y.x hab)
          have HQA := Lib.hid (show ∀ n : Nat, n < 256 → QuN (ackQ y.x n) from fun n hn => by
            obtain ⟨g1, g2, g3⟩ := ackQ_end y.x n
            have e1 := HK.out.f1
            have e2 := HK.out.fl
            have e5 := HNN.out.g
            have e3 := HNN.out.l
            have e4 := ackQ_len y.x n
            exact ⟨by omega, by omega, by omega⟩)
          have HQ0 := Lib.hid (ackQ_zero HF1.out)
          clear p0 p1 p2 t0 t1 m1 m2 m3 hab
          obtain ⟨p0, p1, p2⟩ := quIn3 hP
          go_wp2_with fail
          generalize wr.drewN nq = V at *
          refine (H.ackW y (v : Nat) V HNN.out (by omega) ho).mono ?_
          rintro r w2 ⟨z, rfl, hz0, hzo, hb2⟩
          have HZ := Lib.hid hz0
          clear hz0 p0 p1 p2
          replace hP := hP.below hb2
          replace ho := ho.below hb2
          replace hN := below_then hN hb2
          clear hb2
          have hX : quE.In (w2.alloc (.cells #[.int .i64 z.x.f, .int .i64 z.x.g, .slice z.A z.x.os.length z.c] 26)) w2.heap.size z := El.In.new (E := quE) w2 z _ rfl
          have hal := below_alloc (Below.refl w2.heap.size w2) (.cells #[.int .i64 z.x.f, .int .i64 z.x.g, .slice z.A z.x.os.length z.c] 26)
          replace hP := hP.below hal
          replace ho := ho.below hal
          replace hzo := hzo.below hal
          replace hN := below_then hN hal
          clear hal
          go_wp2_with fail
          generalize w2.alloc (.cells #[.int .i64 z.x.f, .int .i64 z.x.g, .slice z.A z.x.os.length z.c] 26) = W2 at *
          obtain ⟨n4, hn4⟩ : ∃ n, w2.heap.size = n := ⟨_, rfl⟩
          rw [hn4] at hX ⊢
          clear hn4
          have CAW := Lib.hid (fun (wx : World) => awake13_any H wx)
          have hzN : QuN z.x := by rw [HZ.out]; exact HQA.out _ (by omega)
          have CZA := Lib.hid (fun (wx : World) (h : z.ok wx) => (show Calls Try.prog 24 #[.agg #[.int .i64 z.x.f, .int .i64 z.x.g, .slice z.A z.x.os.length z.c], .int .i64 (u : Nat)] wx fun r w' => ∃ A' c', r = .returned (.agg #[.int .i64 z.x.f, .int .i64 z.x.g, .slice A' z.x.os.length c']) ∧ Qw.ok ⟨A', c', z.x⟩ w' ∧ Below wx.heap.size wx w' from (H.ackW z (u : Nat) wx hzN (by omega) h).mono (by
            rintro r w' ⟨⟨A', c', x⟩, rfl, hx, ho, hb⟩
            obtain rfl : x = z.x := by rw [show x = ackQ z.x _ from hx, HZ.out, HQ1.out]
            exact ⟨A', c', rfl, ho, hb⟩)))
          have CZB := Lib.hid (fun (wx : World) (h : z.ok wx) => (show Calls Try.prog 24 #[.agg #[.int .i64 z.x.f, .int .i64 z.x.g, .slice z.A z.x.os.length z.c], .int .i64 (v : Nat)] wx fun r w' => ∃ A' c', r = .returned (.agg #[.int .i64 z.x.f, .int .i64 z.x.g, .slice A' z.x.os.length c']) ∧ Qw.ok ⟨A', c', z.x⟩ w' ∧ Below wx.heap.size wx w' from (H.ackW z (v : Nat) wx hzN (by omega) h).mono (by
            rintro r w' ⟨⟨A', c', x⟩, rfl, hx, ho, hb⟩
            obtain rfl : x = z.x := by rw [show x = ackQ z.x _ from hx, HZ.out, HQ2.out]
            exact ⟨A', c', rfl, ho, hb⟩)))
          have CYA := Lib.hid (fun (wx : World) (h : y.ok wx) => (show Calls Try.prog 24 #[.agg #[.int .i64 y.x.f, .int .i64 y.x.g, .slice y.A y.x.os.length y.c], .int .i64 (u : Nat)] wx fun r w' => ∃ t : Qw, r = .returned (.agg #[.int .i64 t.x.f, .int .i64 t.x.g, .slice t.A t.x.os.length t.c]) ∧ t.x = ackQ y.x (u : Nat) ∧ t.ok w' ∧ Below wx.heap.size wx w' from H.ackW y (u : Nat) wx HNN.out (by omega) h))
          have CTB := Lib.hid (fun (t : Qw) (ht : t.x = ackQ y.x (u : Nat)) (wx : World) (h : t.ok wx) => (show Calls Try.prog 24 #[.agg #[.int .i64 t.x.f, .int .i64 t.x.g, .slice t.A t.x.os.length t.c], .int .i64 (v : Nat)] wx fun r w' => ∃ A' c', r = .returned (.agg #[.int .i64 z.x.f, .int .i64 z.x.g, .slice A' z.x.os.length c']) ∧ Qw.ok ⟨A', c', z.x⟩ w' ∧ Below wx.heap.size wx w' from (H.ackW t (v : Nat) wx (by rw [ht]; exact HQA.out _ (by omega)) (by omega) h).mono (by
            rintro r w' ⟨⟨A', c', x⟩, rfl, hx, ho, hb⟩
            obtain rfl : x = z.x := by rw [show x = ackQ t.x _ from hx, HZ.out, ht, HQ3.out]
            exact ⟨A', c', rfl, ho, hb⟩)))
          have CY0 := Lib.hid (fun (wx : World) (h : y.ok wx) => (show Calls Try.prog 24 #[.agg #[.int .i64 y.x.f, .int .i64 y.x.g, .slice y.A y.x.os.length y.c], .int .i64 0] wx fun r w' => ∃ A' c', r = .returned (.agg #[.int .i64 y.x.f, .int .i64 y.x.g, .slice A' y.x.os.length c']) ∧ Qw.ok ⟨A', c', y.x⟩ w' ∧ Below wx.heap.size wx w' from (H.ackW y 0 wx HNN.out (by decide) h).mono (by
            rintro r w' ⟨⟨A', c', x⟩, rfl, hx, ho, hb⟩
            obtain rfl : x = y.x := by rw [show x = ackQ y.x _ from hx, HQ0.out]
            exact ⟨A', c', rfl, ho, hb⟩)))
          have CSZ := Lib.hid (fun (A' : Option Addr) (c' : Nat) (wx : World) (h1 : Qw.ok ⟨A', c', z.x⟩ wx) (h2 : z.ok wx) => (show Calls Try.prog 15 #[.agg #[.int .i64 z.x.f, .int .i64 z.x.g, .slice A' z.x.os.length c'], .agg #[.int .i64 z.x.f, .int .i64 z.x.g, .slice z.A z.x.os.length z.c]] wx fun r w' => r = .returned (.bool true) ∧ Below wx.heap.size wx w' from refSameQu_any ⟨A', c', z.x⟩ z wx rfl h1 h2 hzN.l))
          have CSY := Lib.hid (fun (A' : Option Addr) (c' : Nat) (wx : World) (h1 : Qw.ok ⟨A', c', y.x⟩ wx) (h2 : y.ok wx) => (show Calls Try.prog 15 #[.agg #[.int .i64 y.x.f, .int .i64 y.x.g, .slice A' y.x.os.length c'], .agg #[.int .i64 y.x.f, .int .i64 y.x.g, .slice y.A y.x.os.length y.c]] wx fun r w' => r = .returned (.bool true) ∧ Below wx.heap.size wx w' from refSameQu_any ⟨A', c', y.x⟩ y wx rfl h1 h2 HNN.out.l))
          clear hzN HQ1 HQ2 HQ3 HQA HQ0 HZ HF1 HK hl h1000
          replace hP : quE.In W2.drew n1 y := hP
          replace hX : quE.In W2.drew n4 z := hX
          replace ho : y.ok W2.drew := ho
          replace hzo : z.ok W2.drew := hzo
          replace hN := hN.drew
          go_region_held3 (fun w' => (w'.cell? ⟨n1, 0, none⟩ = some (.int .i64 y.x.f) ∧ w'.cell? ⟨n1, 1, none⟩ = some (.int .i64 y.x.g) ∧ w'.cell? ⟨n1, 2, none⟩ = some (.slice y.A y.x.os.length y.c)) ∧ (w'.cell? ⟨n4, 0, none⟩ = some (.int .i64 z.x.f) ∧ w'.cell? ⟨n4, 1, none⟩ = some (.int .i64 z.x.g) ∧ w'.cell? ⟨n4, 2, none⟩ = some (.slice z.A z.x.os.length z.c))) (with_reducible exact ⟨quIn3 hP, quIn3 hX⟩) (first | (go_at_call 7; (with_reducible refine (CAW.out _).mono ?_); rintro r w6 ⟨rfl, hb6⟩; replace hP := hP.below hb6; replace hX := hX.below hb6; replace ho := ho.below hb6; replace hzo := hzo.below hb6; replace hN := below_then hN hb6; try replace h5 := h5.below hb6; try replace h6 := h6.below hb6; try replace h7 := h7.below hb6; try replace h8 := h8.below hb6; try replace h9 := h9.below hb6; clear hb6) | (go_at_call 24; (with_reducible refine (CZA.out _ hzo).mono ?_); rintro r w6 ⟨A5, c5, rfl, h5, hb6⟩; replace hP := hP.below hb6; replace hX := hX.below hb6; replace ho := ho.below hb6; replace hzo := hzo.below hb6; replace hN := below_then hN hb6; try replace h5 := h5.below hb6; try replace h6 := h6.below hb6; try replace h7 := h7.below hb6; try replace h8 := h8.below hb6; try replace h9 := h9.below hb6; clear hb6) | (go_at_call 24; (with_reducible refine (CZB.out _ hzo).mono ?_); rintro r w6 ⟨A6, c6, rfl, h6, hb6⟩; replace hP := hP.below hb6; replace hX := hX.below hb6; replace ho := ho.below hb6; replace hzo := hzo.below hb6; replace hN := below_then hN hb6; try replace h5 := h5.below hb6; try replace h6 := h6.below hb6; try replace h7 := h7.below hb6; try replace h8 := h8.below hb6; try replace h9 := h9.below hb6; clear hb6) | (go_at_call 24; (with_reducible refine (CYA.out _ ho).mono ?_); rintro r w6 ⟨t, rfl, ht0, h7, hb6⟩; have ht := Lib.hid ht0; clear ht0; replace hP := hP.below hb6; replace hX := hX.below hb6; replace ho := ho.below hb6; replace hzo := hzo.below hb6; replace hN := below_then hN hb6; try replace h5 := h5.below hb6; try replace h6 := h6.below hb6; try replace h7 := h7.below hb6; try replace h8 := h8.below hb6; try replace h9 := h9.below hb6; clear hb6) | (go_at_call 24; (with_reducible refine (CTB.out t ht.out _ h7).mono ?_); rintro r w6 ⟨A8, c8, rfl, h8, hb6⟩; replace hP := hP.below hb6; replace hX := hX.below hb6; replace ho := ho.below hb6; replace hzo := hzo.below hb6; replace hN := below_then hN hb6; try replace h5 := h5.below hb6; try replace h6 := h6.below hb6; try replace h7 := h7.below hb6; try replace h8 := h8.below hb6; try replace h9 := h9.below hb6; clear hb6) | (go_at_call 24; (with_reducible refine (CY0.out _ ho).mono ?_); rintro r w6 ⟨A9, c9, rfl, h9, hb6⟩; replace hP := hP.below hb6; replace hX := hX.below hb6; replace ho := ho.below hb6; replace hzo := hzo.below hb6; replace hN := below_then hN hb6; try replace h5 := h5.below hb6; try replace h6 := h6.below hb6; try replace h7 := h7.below hb6; try replace h8 := h8.below hb6; try replace h9 := h9.below hb6; clear hb6) | (go_at_call 15; (with_reducible first | refine (CSZ.out _ _ _ h5 hzo).mono ?_ | refine (CSZ.out _ _ _ h6 hzo).mono ?_ | refine (CSZ.out _ _ _ h8 hzo).mono ?_ | refine (CSY.out _ _ _ h9 ho).mono ?_); rintro r w6 ⟨rfl, hb6⟩; replace hP := hP.below hb6; replace hX := hX.below hb6; replace ho := ho.below hb6; replace hzo := hzo.below hb6; replace hN := below_then hN hb6; try replace h5 := h5.below hb6; try replace h6 := h6.below hb6; try replace h7 := h7.below hb6; try replace h8 := h8.below hb6; try replace h9 := h9.below hb6; clear hb6))
          go_wp2_with fail
          go_ret
          exact ⟨rfl, hfin _ hN⟩
        · obtain rfl : u = v := by omega
          have m1 : min (u : Int) (u : Int) = u := by omega
          have m2 : max (u : Int) (u : Int) = u := by omega
          have m3 : True := trivial
          go_wp2_with fail
          go_quiet (fail)
          replace hP : quE.In (wr.drewN nq) n1 y := hP
          replace ho : y.ok (wr.drewN nq) := ho
          replace hN := below_drew hN nq
          have hab : ((u : Nat) : Int) ≤ ((u : Nat) : Int) := by omega
          have HQ1 := Lib.hid (ackQ_old y.x hab)
          have HQ2 := Lib.hid (ackQ_old y.x (Int.le_refl ((u : Nat) : Int)))
          have HQ3 := Lib.hid (ackQ_two y.x hab)
          have HQA := Lib.hid (show ∀ n : Nat, n < 256 → QuN (ackQ y.x n) from fun n hn => by
            obtain ⟨g1, g2, g3⟩ := ackQ_end y.x n
            have e1 := HK.out.f1
            have e2 := HK.out.fl
            have e5 := HNN.out.g
            have e3 := HNN.out.l
            have e4 := ackQ_len y.x n
            exact ⟨by omega, by omega, by omega⟩)
          have HQ0 := Lib.hid (ackQ_zero HF1.out)
          clear p0 p1 p2 t0 t1 m1 m2 m3 hab
          obtain ⟨p0, p1, p2⟩ := quIn3 hP
          go_wp2_with fail
          generalize wr.drewN nq = V at *
          refine (H.ackW y (u : Nat) V HNN.out (by omega) ho).mono ?_
          rintro r w2 ⟨z, rfl, hz0, hzo, hb2⟩
          have HZ := Lib.hid hz0
          clear hz0 p0 p1 p2
          replace hP := hP.below hb2
          replace ho := ho.below hb2
          replace hN := below_then hN hb2
          clear hb2
          have hX : quE.In (w2.alloc (.cells #[.int .i64 z.x.f, .int .i64 z.x.g, .slice z.A z.x.os.length z.c] 26)) w2.heap.size z := El.In.new (E := quE) w2 z _ rfl
          have hal := below_alloc (Below.refl w2.heap.size w2) (.cells #[.int .i64 z.x.f, .int .i64 z.x.g, .slice z.A z.x.os.length z.c] 26)
          replace hP := hP.below hal
          replace ho := ho.below hal
          replace hzo := hzo.below hal
          replace hN := below_then hN hal
          clear hal
          go_wp2_with fail
          generalize w2.alloc (.cells #[.int .i64 z.x.f, .int .i64 z.x.g, .slice z.A z.x.os.length z.c] 26) = W2 at *
          obtain ⟨n4, hn4⟩ : ∃ n, w2.heap.size = n := ⟨_, rfl⟩
          rw [hn4] at hX ⊢
          clear hn4
          have CAW := Lib.hid (fun (wx : World) => awake13_any H wx)
          have hzN : QuN z.x := by rw [HZ.out]; exact HQA.out _ (by omega)
          have CZA := Lib.hid (fun (wx : World) (h : z.ok wx) => (show Calls Try.prog 24 #[.agg #[.int .i64 z.x.f, .int .i64 z.x.g, .slice z.A z.x.os.length z.c], .int .i64 (u : Nat)] wx fun r w' => ∃ A' c', r = .returned (.agg #[.int .i64 z.x.f, .int .i64 z.x.g, .slice A' z.x.os.length c']) ∧ Qw.ok ⟨A', c', z.x⟩ w' ∧ Below wx.heap.size wx w' from (H.ackW z (u : Nat) wx hzN (by omega) h).mono (by
            rintro r w' ⟨⟨A', c', x⟩, rfl, hx, ho, hb⟩
            obtain rfl : x = z.x := by rw [show x = ackQ z.x _ from hx, HZ.out, HQ1.out]
            exact ⟨A', c', rfl, ho, hb⟩)))
          have CZB := Lib.hid (fun (wx : World) (h : z.ok wx) => (show Calls Try.prog 24 #[.agg #[.int .i64 z.x.f, .int .i64 z.x.g, .slice z.A z.x.os.length z.c], .int .i64 (u : Nat)] wx fun r w' => ∃ A' c', r = .returned (.agg #[.int .i64 z.x.f, .int .i64 z.x.g, .slice A' z.x.os.length c']) ∧ Qw.ok ⟨A', c', z.x⟩ w' ∧ Below wx.heap.size wx w' from (H.ackW z (u : Nat) wx hzN (by omega) h).mono (by
            rintro r w' ⟨⟨A', c', x⟩, rfl, hx, ho, hb⟩
            obtain rfl : x = z.x := by rw [show x = ackQ z.x _ from hx, HZ.out, HQ2.out]
            exact ⟨A', c', rfl, ho, hb⟩)))
          have CYA := Lib.hid (fun (wx : World) (h : y.ok wx) => (show Calls Try.prog 24 #[.agg #[.int .i64 y.x.f, .int .i64 y.x.g, .slice y.A y.x.os.length y.c], .int .i64 (u : Nat)] wx fun r w' => ∃ t : Qw, r = .returned (.agg #[.int .i64 t.x.f, .int .i64 t.x.g, .slice t.A t.x.os.length t.c]) ∧ t.x = ackQ y.x (u : Nat) ∧ t.ok w' ∧ Below wx.heap.size wx w' from H.ackW y (u : Nat) wx HNN.out (by omega) h))
          have CTB := Lib.hid (fun (t : Qw) (ht : t.x = ackQ y.x (u : Nat)) (wx : World) (h : t.ok wx) => (show Calls Try.prog 24 #[.agg #[.int .i64 t.x.f, .int .i64 t.x.g, .slice t.A t.x.os.length t.c], .int .i64 (u : Nat)] wx fun r w' => ∃ A' c', r = .returned (.agg #[.int .i64 z.x.f, .int .i64 z.x.g, .slice A' z.x.os.length c']) ∧ Qw.ok ⟨A', c', z.x⟩ w' ∧ Below wx.heap.size wx w' from (H.ackW t (u : Nat) wx (by rw [ht]; exact HQA.out _ (by omega)) (by omega) h).mono (by
            rintro r w' ⟨⟨A', c', x⟩, rfl, hx, ho, hb⟩
            obtain rfl : x = z.x := by rw [show x = ackQ t.x _ from hx, HZ.out, ht, HQ3.out]
            exact ⟨A', c', rfl, ho, hb⟩)))
          have CY0 := Lib.hid (fun (wx : World) (h : y.ok wx) => (show Calls Try.prog 24 #[.agg #[.int .i64 y.x.f, .int .i64 y.x.g, .slice y.A y.x.os.length y.c], .int .i64 0] wx fun r w' => ∃ A' c', r = .returned (.agg #[.int .i64 y.x.f, .int .i64 y.x.g, .slice A' y.x.os.length c']) ∧ Qw.ok ⟨A', c', y.x⟩ w' ∧ Below wx.heap.size wx w' from (H.ackW y 0 wx HNN.out (by decide) h).mono (by
            rintro r w' ⟨⟨A', c', x⟩, rfl, hx, ho, hb⟩
            obtain rfl : x = y.x := by rw [show x = ackQ y.x _ from hx, HQ0.out]
            exact ⟨A', c', rfl, ho, hb⟩)))
          have CSZ := Lib.hid (fun (A' : Option Addr) (c' : Nat) (wx : World) (h1 : Qw.ok ⟨A', c', z.x⟩ wx) (h2 : z.ok wx) => (show Calls Try.prog 15 #[.agg #[.int .i64 z.x.f, .int .i64 z.x.g, .slice A' z.x.os.length c'], .agg #[.int .i64 z.x.f, .int .i64 z.x.g, .slice z.A z.x.os.length z.c]] wx fun r w' => r = .returned (.bool true) ∧ Below wx.heap.size wx w' from refSameQu_any ⟨A', c', z.x⟩ z wx rfl h1 h2 hzN.l))
          have CSY := Lib.hid (fun (A' : Option Addr) (c' : Nat) (wx : World) (h1 : Qw.ok ⟨A', c', y.x⟩ wx) (h2 : y.ok wx) => (show Calls Try.prog 15 #[.agg #[.int .i64 y.x.f, .int .i64 y.x.g, .slice A' y.x.os.length c'], .agg #[.int .i64 y.x.f, .int .i64 y.x.g, .slice y.A y.x.os.length y.c]] wx fun r w' => r = .returned (.bool true) ∧ Below wx.heap.size wx w' from refSameQu_any ⟨A', c', y.x⟩ y wx rfl h1 h2 HNN.out.l))
          clear hzN HQ1 HQ2 HQ3 HQA HQ0 HZ HF1 HK hl h1000
          replace hP : quE.In W2.drew n1 y := hP
          replace hX : quE.In W2.drew n4 z := hX
          replace ho : y.ok W2.drew := ho
          replace hzo : z.ok W2.drew := hzo
          replace hN := hN.drew
          go_region_held3 (fun w' => (w'.cell? ⟨n1, 0, none⟩ = some (.int .i64 y.x.f) ∧ w'.cell? ⟨n1, 1, none⟩ = some (.int .i64 y.x.g) ∧ w'.cell? ⟨n1, 2, none⟩ = some (.slice y.A y.x.os.length y.c)) ∧ (w'.cell? ⟨n4, 0, none⟩ = some (.int .i64 z.x.f) ∧ w'.cell? ⟨n4, 1, none⟩ = some (.int .i64 z.x.g) ∧ w'.cell? ⟨n4, 2, none⟩ = some (.slice z.A z.x.os.length z.c))) (with_reducible exact ⟨quIn3 hP, quIn3 hX⟩) (first | (go_at_call 7; (with_reducible refine (CAW.out _).mono ?_); rintro r w6 ⟨rfl, hb6⟩; replace hP := hP.below hb6; replace hX := hX.below hb6; replace ho := ho.below hb6; replace hzo := hzo.below hb6; replace hN := below_then hN hb6; try replace h5 := h5.below hb6; try replace h6 := h6.below hb6; try replace h7 := h7.below hb6; try replace h8 := h8.below hb6; try replace h9 := h9.below hb6; clear hb6) | (go_at_call 24; (with_reducible refine (CZA.out _ hzo).mono ?_); rintro r w6 ⟨A5, c5, rfl, h5, hb6⟩; replace hP := hP.below hb6; replace hX := hX.below hb6; replace ho := ho.below hb6; replace hzo := hzo.below hb6; replace hN := below_then hN hb6; try replace h5 := h5.below hb6; try replace h6 := h6.below hb6; try replace h7 := h7.below hb6; try replace h8 := h8.below hb6; try replace h9 := h9.below hb6; clear hb6) | (go_at_call 24; (with_reducible refine (CZB.out _ hzo).mono ?_); rintro r w6 ⟨A6, c6, rfl, h6, hb6⟩; replace hP := hP.below hb6; replace hX := hX.below hb6; replace ho := ho.below hb6; replace hzo := hzo.below hb6; replace hN := below_then hN hb6; try replace h5 := h5.below hb6; try replace h6 := h6.below hb6; try replace h7 := h7.below hb6; try replace h8 := h8.below hb6; try replace h9 := h9.below hb6; clear hb6) | (go_at_call 24; (with_reducible refine (CYA.out _ ho).mono ?_); rintro r w6 ⟨t, rfl, ht0, h7, hb6⟩; have ht := Lib.hid ht0; clear ht0; replace hP := hP.below hb6; replace hX := hX.below hb6; replace ho := ho.below hb6; replace hzo := hzo.below hb6; replace hN := below_then hN hb6; try replace h5 := h5.below hb6; try replace h6 := h6.below hb6; try replace h7 := h7.below hb6; try replace h8 := h8.below hb6; try replace h9 := h9.below hb6; clear hb6) | (go_at_call 24; (with_reducible refine (CTB.out t ht.out _ h7).mono ?_); rintro r w6 ⟨A8, c8, rfl, h8, hb6⟩; replace hP := hP.below hb6; replace hX := hX.below hb6; replace ho := ho.below hb6; replace hzo := hzo.below hb6; replace hN := below_then hN hb6; try replace h5 := h5.below hb6; try replace h6 := h6.below hb6; try replace h7 := h7.below hb6; try replace h8 := h8.below hb6; try replace h9 := h9.below hb6; clear hb6) | (go_at_call 24; (with_reducible refine (CY0.out _ ho).mono ?_); rintro r w6 ⟨A9, c9, rfl, h9, hb6⟩; replace hP := hP.below hb6; replace hX := hX.below hb6; replace ho := ho.below hb6; replace hzo := hzo.below hb6; replace hN := below_then hN hb6; try replace h5 := h5.below hb6; try replace h6 := h6.below hb6; try replace h7 := h7.below hb6; try replace h8 := h8.below hb6; try replace h9 := h9.below hb6; clear hb6) | (go_at_call 15; (with_reducible first | refine (CSZ.out _ _ _ h5 hzo).mono ?_ | refine (CSZ.out _ _ _ h6 hzo).mono ?_ | refine (CSZ.out _ _ _ h8 hzo).mono ?_ | refine (CSY.out _ _ _ h9 ho).mono ?_); rintro r w6 ⟨rfl, hb6⟩; replace hP := hP.below hb6; replace hX := hX.below hb6; replace ho := ho.below hb6; replace hzo := hzo.below hb6; replace hN := below_then hN hb6; try replace h5 := h5.below hb6; try replace h6 := h6.below hb6; try replace h7 := h7.below hb6; try replace h8 := h8.below hb6; try replace h9 := h9.below hb6; clear hb6))
          go_wp2_with fail
          go_ret
          exact ⟨rfl, hfin _ hN⟩
set_option maxRecDepth 100000 in
theorem once13_lifted (H0 : QueueCalls) (os : Os) (started : os.Started) (H : Type) (enc : TypeId × Value → H) :
    ReturnsInHanded {} Try.checked os 6 .any (Rows.queueOnceSpec.pre6 enc Try.prog Try.f6 Rows.queueOnceRow.domain false) (Rows.queueOnceSpec.post enc Try.prog Try.f6 false true false false) := by
  refine returnsInHanded_of_change (C := Try.checked) own started (by kernel_rfl) Try.func6
    (ChangeSpec.witness6 (enc := enc) (C := Try.checked) false ⟨#[], #[.slice none 0 0, .agg #[.int .u8 0, .int .u8 0]], []⟩ 8 (by kernel_rfl) (by kernel_rfl) (by kernel_rfl) (by kernel_rfl)) ?_
  intro W base args ds gs before hval0 hW _ _
  have hval : ∀ (j : Nat) t v, Try.f6.params[j]? = some t → args[j]? = some v → Value.okWide Try.prog W .any base t v := hval0
  have hW' := hW
  obtain ⟨p, q, hA0, hV, rfl, _, _⟩ := hW
  have hA : DataW.TrodAll enc Try.prog W 0 (fun _ => true) true Try.f6.params.toList args.toList ds p := hA0
  rw [Try.params6] at hA hval
  obtain ⟨v0, v1, d0, d1, p0, p1, rfl, rfl, rfl, h0, h1⟩ := trodAll_two hA
  obtain ⟨A, c, l, rfl, hL⟩ := open_ads (hval 0 22 v0 rfl rfl) h0
  obtain ⟨u, v, rfl, hu, hv⟩ := open_two (hval 1 50 v1 rfl rfl) h1
  have hc : Calls Try.prog 6 #[.slice A l.length c, .agg #[.int .u8 u, .int .u8 v]] W fun e w' => e = .returned (.bool true) ∧ Below W.heap.size W w' := by
    by_cases h : l.length ≤ 60
    · exact once13_yes H0 A c l u v W hL h hu hv
    · exact once13_no H0 A c l u v W (by omega)
  refine hc.mono fun e W' ⟨he, hb⟩ => ?_
  subst he
  exact ⟨_, rfl, Frm.law_post (by kernel_rfl) (by kernel_rfl) (by kernel_rfl) Try.underlying4 rfl rfl hW' hb⟩

theorem once13_holds (H0 : QueueCalls) : Rows.QueueOnceSaid :=
  OpenClaim.holds_of_wide 6 Try.f6 rfl rfl rfl rfl rfl rfl rfl ⟨rfl, rfl, rfl, rfl, rfl⟩ rfl rfl rfl rfl rfl (by kernel_rfl) Try.func6 (by kernel_rfl)
    (of_decide_eq_true (by kernel_rfl)) (by unfold Func.isWrapper; first | (rw [if_pos (by decide +kernel)]; kernel_rfl) | (rw [if_neg (by decide +kernel)]; exact ⟨rfl, rfl⟩))
    (fun os started H enc _ => once13_lifted H0 os started H enc)
end Go.Proofs.Ytdkolkjgojamcaa

/- QueueBack, given the program's calls: a queue is read from its bytes as it was; bytes that are read are those of what is read. -/
namespace Go.Proofs.Ytdkolkjgojamcaa
open Go.ChangeShapes Go.WideShapes Go.ChangeAt Go.RowKit Go.Deep Nam Cod

theorem quIn3' {w : World} {n c : Nat} {A : Option Addr} {x : Qu} (h : quE.In w n ⟨A, c, x⟩) : w.cell? ⟨n, 0, none⟩ = some (.int .i64 x.f) ∧ w.cell? ⟨n, 1, none⟩ = some (.int .i64 x.g) ∧ w.cell? ⟨n, 2, none⟩ = some (.slice A x.os.length c) := quIn3 h
theorem Qw.lt {w : World} {A : Option Addr} {c : Nat} {l : List Mv} (h : SlV opE w A c l) : 0 < l.length → ∀ a, A = some a → a.block < w.heap.size := fun h0 a e => by
  obtain ⟨b, off, e2, hb, _⟩ := h.1 h0
  rw [e] at e2; cases e2
  exact hb
theorem Qw.ok.grown {y : Qw} {w0 w w' : World} {n : Nat} (h0 : 0 < y.x.os.length → ∀ a, y.A = some a → a.block < n) (h : y.ok w) (hg : w.grownBy w' (some n)) : y.ok w' :=
  SlV.keepO h hg fun hl a e e2 => by
    have h1 := h0 hl a e
    have h2 := Option.some.inj e2
    omega
theorem quR_n {x : Qu} (h : QuR x) (hl : x.os.length ≤ 50000) : QuN x := by
  have h1 := h.f1
  have h2 := h.fm
  have h3 := h.g0
  have h4 := h.gm
  exact ⟨by omega, by omega, hl⟩
theorem qu_first {s : ByteArray} {x : Qu} {q : Nat} (hq : q ≤ s.size) (h : isQu s 0 false = some (x, q)) : s.extract 0 q = quBytes x := by
  obtain ⟨_, _, h3⟩ := qu_bytes h
  rw [List.drop_zero] at h3
  have hn : (L s).length = s.size := by simp [L]
  have hl := congrArg List.length h3
  rw [List.length_append, List.length_drop, hn] at hl
  apply L_inj
  have e : L (s.extract 0 q) = ((L s).drop 0).take (q - 0) := by
    unfold L
    simp [ByteArray.data_extract, List.extract_eq_take_drop]
  rw [e, List.drop_zero, Nat.sub_zero, h3, List.take_append_of_le_length (by omega), List.take_of_length_le (by omega)]
theorem quBytes_le {x : Qu} (h : QuR x) (hl : x.os.length ≤ 4096) : (quBytes x).size ≤ 1000000 := by
  have h0 := h.f1
  have h1 := h.fm
  have h2 := h.g0
  have h3 := h.gm
  have e1 := bytesOf_le10 (n := x.f) (i64_of (by omega))
  have e2 := bytesOf_le10 (n := x.g) (i64_of (by omega))
  have e3 := bytesOf_le10 (n := (x.os.length : Int)) (i64_of (by omega))
  have e4 := opsBytes_ok x.os h.ok
  unfold quBytes
  simp only [ByteArray.size_append]
  omega

set_option maxRecDepth 100000 in
theorem back13_no (H : QueueCalls) (A : Option Addr) (c : Nat) (l : List Ad) (s : ByteArray) (w : World) (h : ¬ (l.length ≤ 60 ∧ s.size ≤ 2000)) : Calls Try.prog 4 #[.slice A l.length c, .string s] w fun e w' => e = .returned (.bool true) ∧ Below w.heap.size w w' := by
  have hfin : ∀ wx, Below w.heap.size w wx → Below w.heap.size w wx := fun _ h => h
  have hN := Below.refl w.heap.size w
  by_cases h1 : l.length ≤ 60
  · have h2 : 2000 < s.size := Nat.lt_of_not_le fun h2 => h ⟨h1, h2⟩
    clear h
    go_enter Try.func4, Try.ntmps4
    go_wp2_with fail
    refine (awake13_any H _).mono ?_
    rintro r w2 ⟨rfl, hb2⟩
    go_wp2_with fail
    go_ret
    exact ⟨rfl, hfin _ (below_then hN hb2)⟩
  · clear h
    go_enter Try.func4, Try.ntmps4
    go_wp2_with fail
    refine (awake13_any H _).mono ?_
    rintro r w2 ⟨rfl, hb2⟩
    go_wp2_with fail
    go_ret
    exact ⟨rfl, hfin _ (below_then hN hb2)⟩

set_option maxRecDepth 100000 in
set_option maxHeartbeats 4000000 in
theorem back13_yes (HB : QueueBoth) (A : Option Addr) (c : Nat) (l : List Ad) (s : ByteArray) (w : World) (hL : adE.Sl w A l) (hl : l.length ≤ 60) (hs : s.size ≤ 2000) : Calls Try.prog 4 #[.slice A l.length c, .string s] w fun e w' => e = .returned (.bool true) ∧ Below w.heap.size w w' := by
  have H := HB.calls
  have HRD := HB.read
  have hfin : ∀ wx, Below w.heap.size w wx → Below w.heap.size w wx := fun _ h => h
  have hN := Below.refl w.heap.size w
  have HL := Lib.hid hL
  have h1000 : l.length ≤ 1000 := by omega
  clear hL HB
  go_enter Try.func4, Try.ntmps4
  go_wp2_with fail
  refine (H.new _).mono ?_
  rintro r w1 ⟨z0, rfl, hz0, hzo0, hb1⟩
  have HZ0 := Lib.hid hz0
  clear hz0
  replace hN := below_then hN hb1
  clear hb1
  have hP : quE.In (w1.alloc (.cells #[.int .i64 z0.x.f, .int .i64 z0.x.g, .slice z0.A z0.x.os.length z0.c] 26)) w1.heap.size z0 := El.In.new (E := quE) w1 z0 _ rfl
  have hal := below_alloc (Below.refl w1.heap.size w1) (.cells #[.int .i64 z0.x.f, .int .i64 z0.x.g, .slice z0.A z0.x.os.length z0.c] 26)
  have hwn1 := hN.size
  replace hN := below_then hN hal
  replace hzo0 := hzo0.below hal
  clear hal
  go_wp2_with fail
  generalize w1.alloc (.cells #[.int .i64 z0.x.f, .int .i64 z0.x.g, .slice z0.A z0.x.os.length z0.c] 26) = W1 at *
  obtain ⟨n1, hn1⟩ : ∃ n, w1.heap.size = n := ⟨_, rfl⟩
  rw [hn1] at hP hwn1 ⊢
  clear hn1
  have HF0 := Lib.hid (show fineTo l 0 from fun j hj hj0 => absurd hj0 (Nat.not_lt_zero j))
  go_loopw [6] (fun i wr => ∃ (k : Nat) (y : Qw), k ≤ l.length ∧ i = .int .i64 k ∧ Hid (y.x = qAt l k) ∧ Hid (fineTo l k) ∧ y.ok wr ∧ quE.In wr n1 y ∧ Below w.heap.size w wr) (fun i _ => l.length - (intOf i).toNat)
  case atStart => exact ⟨0, z0, Nat.zero_le _, rfl, Lib.hid HZ0.out, HF0, hzo0, hP, hN⟩
  case round =>
    clear hP hN hzo0 HZ0 HF0
    obtain ⟨k, y, hk, rfl, hy, hf, ho, hP, hN⟩ := hrel
    by_cases hkl : k < l.length
    · skip
      obtain ⟨b, off, eA, hbw, hc⟩ := HL.out (by omega)
      have hx := adIdxH (cap := c) eA hkl
      have hat : adE.At wr b (off + k * 2) l[k] := (hc k hkl).below hN hbw
      have hbr := Nat.lt_of_lt_of_le hbw hN.size
      by_cases hfa : fineA l[k]
      rotate_left
      · obtain ⟨s0, s1⟩ := adAtH hat
        generalize l[k] = a at *
        obtain ⟨p0, p1, p2⟩ := quIn3 hP
        clear hc eA
        by_cases h1 : 549755813888 < a.n
        · clear hfa
          go_wp2_with fail
          refine (awake13_any H _).mono ?_
          rintro r w2 ⟨rfl, hb2⟩
          go_wp2_with fail
          go_ret
          exact ⟨rfl, hfin _ (below_then hN hb2)⟩
        · have h2 : a.n < -549755813888 := by unfold fineA at hfa; omega
          clear hfa
          go_wp2_with fail
          refine (awake13_any H _).mono ?_
          rintro r w2 ⟨rfl, hb2⟩
          go_wp2_with fail
          go_ret
          exact ⟨rfl, hfin _ (below_then hN hb2)⟩
      have HS := Lib.hid (fun (wx : World) (ho : y.ok wx) => stepped H h1000 hkl hf.out hy.out l[k] rfl hfa wx ho)
      have HF2 := Lib.hid (fineTo_next hf.out hkl hfa)
      generalize l[k] = a at *
      obtain ⟨s0, s1⟩ := adAtH hat
      have c1 : decide (549755813888 < a.n) = false := decide_eq_false (by have := hfa.2; omega)
      have c2 : decide (a.n < -549755813888) = false := decide_eq_false (by have := hfa.1; omega)
      clear hc
      clear eA
      go_wp2_with fail
      clear c1 c2 s0 s1
      refine region_anyG (S := PLQ n1 y b (off + k * 2) a) 7 (by kernel_rfl) ?_
      replace hP : quE.In wr.drew n1 y := hP
      replace hat : adE.At wr.drew b (off + k * 2) a := hat
      replace ho : y.ok wr.drew := ho
      replace hN := hN.drew
      replace hbr : b < wr.drew.heap.size := hbr
      skip
      generalize wr.drew = U at *
      have hS : PLQ n1 y b (off + k * 2) a U := ⟨quIn3 hP, adAtH hat⟩
      refine anyG_take (i := 0) (v := .agg #[.int .i64 y.x.f, .int .i64 y.x.g, .slice y.A y.x.os.length y.c]) rfl (by kernel_rfl) (by kernel_rfl) (by kernel_rfl) (by kernel_rfl) (by kernel_rfl) (fun _ _ _ h => h) (Or.inl ⟨by rfl, fun w' hSw => by (obtain ⟨⟨m0, m1, m2⟩, s0, s1⟩ := hSw; go_simp)⟩) hS ?_
      try simp only [Act.put, List.setIfInBounds_toArray, List.set_cons_zero, List.set_cons_succ]
      refine anyG_take (i := 1) (v := .slice A l.length c) rfl (by kernel_rfl) (by kernel_rfl) (by kernel_rfl) (by kernel_rfl) (by kernel_rfl) (fun _ _ _ h => h) (Or.inl ⟨by rfl, fun w' hSw => by (obtain ⟨⟨m0, m1, m2⟩, s0, s1⟩ := hSw; go_simp)⟩) hS ?_
      try simp only [Act.put, List.setIfInBounds_toArray, List.set_cons_zero, List.set_cons_succ]
      refine anyG_take (i := 2) (v := .int .i64 k) rfl (by kernel_rfl) (by kernel_rfl) (by kernel_rfl) (by kernel_rfl) (by kernel_rfl) (fun _ _ _ h => h) (Or.inl ⟨by rfl, fun w' hSw => by (obtain ⟨⟨m0, m1, m2⟩, s0, s1⟩ := hSw; go_simp)⟩) hS ?_
      try simp only [Act.put, List.setIfInBounds_toArray, List.set_cons_zero, List.set_cons_succ]
      refine anyG_take (i := 3) (v := .pointer (some ⟨b, off + k * 2, none⟩)) rfl (by kernel_rfl) (by kernel_rfl) (by kernel_rfl) (by kernel_rfl) (by kernel_rfl) (fun _ _ _ h => h) (Or.inl ⟨by rfl, fun w' hSw => by (obtain ⟨⟨m0, m1, m2⟩, s0, s1⟩ := hSw; go_simp)⟩) hS ?_
      try simp only [Act.put, List.setIfInBounds_toArray, List.set_cons_zero, List.set_cons_succ]
      refine anyG_take (i := 4) (v := .agg #[.int .i64 a.k, .int .i64 a.n]) rfl (by kernel_rfl) (by kernel_rfl) (by kernel_rfl) (by kernel_rfl) (by kernel_rfl) (fun _ _ _ h => h) (Or.inl ⟨by rfl, fun w' hSw => by (obtain ⟨⟨m0, m1, m2⟩, s0, s1⟩ := hSw; go_simp)⟩) hS ?_
      try simp only [Act.put, List.setIfInBounds_toArray, List.set_cons_zero, List.set_cons_succ]
      refine anyG_take (i := 5) (v := .int .i64 k) rfl (by kernel_rfl) (by kernel_rfl) (by kernel_rfl) (by kernel_rfl) (by kernel_rfl) (fun _ _ _ h => h) (Or.inl ⟨by rfl, fun w' hSw => by (obtain ⟨⟨m0, m1, m2⟩, s0, s1⟩ := hSw; go_simp)⟩) hS ?_
      try simp only [Act.put, List.setIfInBounds_toArray, List.set_cons_zero, List.set_cons_succ]
      refine anyG_step (rs := [6]) (by kernel_rfl) (by simp) ?_
      refine AllG.cons rfl (fun K hK => ?_) AllG.nil
      go_simp
      refine (HS.out U ho).mono ?_
      rintro r w1 ⟨z, rfl, hz0, hzo, hb1, hnr⟩
      have hz := Lib.hid hz0
      clear hz0 hS
      replace hP := hP.below hb1
      replace hat := hat.below hb1 hbr
      replace hN := hN.trans (hb1.mono hN.size)
      clear hb1
      clear ho
      try go_wp2_with fail
      refine hK.out _ _ (⟨quIn3 hP, adAtH hat⟩ : PLQ n1 y b (off + k * 2) a w1) ?_
      try simp only [Act.put, List.setIfInBounds_toArray, List.set_cons_zero, List.set_cons_succ]
      clear hK
      refine anyG_step (rs := [7]) (by kernel_rfl) (by simp) ?_
      refine AllG.last (n := 7) rfl (fun K hK => ?_)
      refine El.step_store quRow rfl _ _ rfl n1 z #[.int .i64 z.x.f, .int .i64 z.x.g, .slice z.A z.x.os.length z.c] rfl rfl rfl y hP ?_
      refine hK.out _ _ ?_
      clear hK
      refine anyG_done (by kernel_rfl) ?_ _
      have hP2 := hP.set z #[.int .i64 z.x.f, .int .i64 z.x.g, .slice z.A z.x.os.length z.c] rfl
      have hzo2 : z.ok (w1.setRow n1 #[.int .i64 z.x.f, .int .i64 z.x.g, .slice z.A z.x.os.length z.c]) := SlV.keepO hzo (by_row _ n1 _) (qu_off hzo.1 hP)
      have hN2 := below_setRow hN hwn1 #[.int .i64 z.x.f, .int .i64 z.x.g, .slice z.A z.x.os.length z.c]
      go_wp2_with fail
      exact ⟨⟨k + 1, z, by omega, by go_num, hz, HF2, hzo2, hP2, hN2⟩, by simp [intOf]; omega⟩
    · obtain rfl : k = l.length := by omega
      have hK := qAt_K h1000 l.length (Nat.le_refl _) hf.out
      rw [← hy.out] at hK
      have hR := hK.r h1000
      have hNN := hK.n h1000
      have hWD : okW y.x.os := fun o ho => ⟨(opB_wide (hR.ok o ho)).1, Nat.le_trans (opB_wide (hR.ok o ho)).2.2.1 (by decide)⟩
      have hl4 : y.x.os.length ≤ 4096 := by
        have h1 := hK.fl
        have h2 := hK.f1
        omega
      have hBs := quBytes_le hR hl4
      have HSELF := Lib.hid (qu_self hR hl4)
      have CPR := Lib.hid (fun (wx : World) (ho : y.ok wx) => H.print y wx hNN ho hWD)
      have CSM := Lib.hid (fun (A2 : Option Addr) (c2 : Nat) (wx : World) (hz : y.ok wx) (ht : Qw.ok ⟨A2, c2, y.x⟩ wx) => (show Calls Try.prog 15 #[.agg #[.int .i64 y.x.f, .int .i64 y.x.g, .slice A2 y.x.os.length c2], .agg #[.int .i64 y.x.f, .int .i64 y.x.g, .slice y.A y.x.os.length y.c]] wx fun r w' => r = .returned (.bool true) ∧ Below wx.heap.size wx w' from refSameQu_any ⟨A2, c2, y.x⟩ y wx rfl ht hz hNN.l))
      generalize quBytes y.x = BY at *
      clear hR hNN hWD hy hf HL hkl hk hl hl4 hK h1000
      obtain ⟨p0, p1, p2⟩ := quIn3 hP
      go_wp2_with fail
      refine (CPR.out _ ho).mono ?_
      rintro r w2 ⟨rfl, hb2⟩
      clear p0 p1 p2 CPR
      replace hP := hP.below hb2
      replace ho := ho.below hb2
      replace hN := below_then hN hb2
      clear hb2
      have hr := Rd.new w2 46 BY 0 rfl
      have hal := below_alloc (Below.refl w2.heap.size w2) (.cells #[.string BY, .int .i64 0, .bool false] 46)
      have hA1 := Qw.lt ho
      have hn1r : n1 < w2.heap.size := hP.lt
      have hwr : w.heap.size ≤ w2.heap.size := hN.size
      replace hP := hP.below hal
      replace ho := ho.below hal
      replace hN := below_then hN hal
      clear hal
      go_wp2_with fail
      generalize w2.alloc (.cells #[.string BY, .int .i64 0, .bool false] 46) = W2 at *
      obtain ⟨nr, hnr⟩ : ∃ n, w2.heap.size = n := ⟨_, rfl⟩
      rw [hnr] at hr hn1r hwr hA1 ⊢
      clear hnr
      refine (HRD W2 nr 0 BY false hBs (Nat.zero_le _) hr).mono ?_
      rintro r w3 ⟨u, q1, bad1, rfl, huo, hr1, _, hg, hst⟩
      replace hP := hP.keep hg (fun e => by have := Option.some.inj e; omega)
      replace ho := Qw.ok.grown (w0 := W2) hA1 ho hg
      replace hN := below_by hN hg hwr
      clear hr hg
      obtain ⟨rfl, rfl, hux⟩ : q1 = BY.size ∧ bad1 = false ∧ u.x = y.x := by
        rcases hst with ⟨h, rfl⟩ | ⟨h, _⟩
        · rw [HSELF.out] at h; have h := Option.some.inj h; exact ⟨(congrArg Prod.snd h).symm, rfl, (congrArg Prod.fst h).symm⟩
        · rw [HSELF.out] at h; cases h
      clear hst HSELF
      obtain ⟨A2, c2, x2⟩ := u
      dsimp only at hux
      subst hux
      have hn12 : n1 < w3.heap.size := hP.lt
      have hwn2 : w.heap.size ≤ w3.heap.size := hN.size
      have hnr2 : nr < w3.heap.size := hr1.lt
      have hU : quE.In (w3.alloc (.cells #[.int .i64 y.x.f, .int .i64 y.x.g, .slice A2 y.x.os.length c2] 26)) w3.heap.size ⟨A2, c2, y.x⟩ := El.In.new (E := quE) w3 ⟨A2, c2, y.x⟩ _ rfl
      have hal := below_alloc (Below.refl w3.heap.size w3) (.cells #[.int .i64 y.x.f, .int .i64 y.x.g, .slice A2 y.x.os.length c2] 26)
      replace hP := hP.below hal
      replace ho := ho.below hal
      replace huo := huo.below hal
      replace hr1 := hr1.below hal
      replace hN := below_then hN hal
      clear hal
      dsimp only
      have hsz : (w3.alloc (.cells #[.int .i64 y.x.f, .int .i64 y.x.g, .slice A2 y.x.os.length c2] 26)).heap.size = w3.heap.size + 1 := alloc_size _ _
      go_wp2_with fail
      generalize w3.alloc (.cells #[.int .i64 y.x.f, .int .i64 y.x.g, .slice A2 y.x.os.length c2] 26) = W3 at *
      obtain ⟨n2, hn2⟩ : ∃ n, w3.heap.size = n := ⟨_, rfl⟩
      rw [hn2] at hU hn12 hwn2 hnr2 hsz ⊢
      clear hn2
      have hq := Rd.new W3 46 s 0 rfl
      have hal := below_alloc (Below.refl W3.heap.size W3) (.cells #[.string s, .int .i64 0, .bool false] 46)
      have hA1 := Qw.lt ho
      have hA2 := Qw.lt huo
      dsimp only at hA2
      rw [hsz] at hq hA1 hA2
      clear hsz
      replace hP := hP.below hal
      replace hU := hU.below hal
      replace ho := ho.below hal
      replace huo := huo.below hal
      replace hr1 := hr1.below hal
      replace hN := below_then hN hal
      clear hal
      go_wp2_with fail
      generalize W3.alloc (.cells #[.string s, .int .i64 0, .bool false] 46) = W4 at *
      obtain ⟨nq, hnq⟩ : ∃ n, n2 + 1 = n := ⟨_, rfl⟩
      have hq1 : n1 < nq := by omega
      have hq2 : n2 < nq := by omega
      have hq3 : nr < nq := by omega
      have hq4 : w.heap.size ≤ nq := by omega
      rw [hnq] at hq hA1 hA2 ⊢
      clear hnq
      refine (HRD W4 nq 0 s false (by omega) (Nat.zero_le _) hq).mono ?_
      clear hq
      rintro r w5 ⟨v, q2, bad2, rfl, hvo, hq, hq2s, hg, hst⟩
      replace hP := hP.keep hg (fun e => by have := Option.some.inj e; omega)
      replace hU := hU.keep hg (fun e => by have := Option.some.inj e; omega)
      replace hr1 := hr1.keep hg (fun e => by have := Option.some.inj e; omega)
      replace ho := Qw.ok.grown (w0 := W4) hA1 ho hg
      replace huo := Qw.ok.grown (w0 := W4) hA2 huo hg
      replace hN := below_by hN hg hq4
      have hn5 : n2 < w5.heap.size := hU.lt
      have hn6 : nq < w5.heap.size := hq.lt
      clear hg hA1 hA2
      have hV : quE.In (w5.alloc (.cells #[.int .i64 v.x.f, .int .i64 v.x.g, .slice v.A v.x.os.length v.c] 26)) w5.heap.size v := El.In.new (E := quE) w5 v _ rfl
      have hal := below_alloc (Below.refl w5.heap.size w5) (.cells #[.int .i64 v.x.f, .int .i64 v.x.g, .slice v.A v.x.os.length v.c] 26)
      replace hP := hP.below hal
      replace hU := hU.below hal
      replace ho := ho.below hal
      replace huo := huo.below hal
      replace hvo := hvo.below hal
      replace hr1 := hr1.below hal
      replace hq := hq.below hal
      replace hN := below_then hN hal
      clear hal
      go_wp2_with fail
      generalize w5.alloc (.cells #[.int .i64 v.x.f, .int .i64 v.x.g, .slice v.A v.x.os.length v.c] 26) = W5 at *
      obtain ⟨n3, hn3⟩ : ∃ n, w5.heap.size = n := ⟨_, rfl⟩
      rw [hn3] at hV hn5 hn6 ⊢
      clear hn3 hn5 hn6 hq1 hq2 hq3 hq4 hn12 hwn2 hnr2 hn1r hwr hwn1
      have CAW := Lib.hid (fun (wx : World) => awake13_any H wx)
      have CDN := Lib.hid (fun (wx : World) (hr : Rd 46 wx nr BY BY.size false) => (by
        have h := done_any (Nat.le_refl _) hr
        rw [show isDone BY BY.size false = true by unfold isDone; simp] at h
        exact h.mono (by
          rintro r w' ⟨h1, m, rfl⟩
          exact ⟨h1, below_drew (Below.refl _ _) m⟩) : Calls Try.prog 23 #[.pointer (some ⟨nr, 0, none⟩)] wx fun r w' => r = .returned (.bool true) ∧ Below wx.heap.size wx w'))
      rcases hst with ⟨h, rfl⟩ | ⟨_, rfl⟩
      · have hex := qu_first hq2s h
        obtain ⟨hR, hl4, _⟩ := qu_bytes h
        have hNN := quR_n hR (Nat.le_trans hl4 (by decide))
        have hWD : okW v.x.os := fun o ho => ⟨(opB_wide (hR.ok o ho)).1, Nat.le_trans (opB_wide (hR.ok o ho)).2.2.1 (by decide)⟩
        have CRT := Lib.hid (fun (wx : World) (ho : v.ok wx) => H.right v wx hNN hR ho)
        have CPV := Lib.hid (fun (wx : World) (ho : v.ok wx) => (by
          have h := H.print v wx hNN ho hWD
          rw [← hex] at h
          exact h : Calls Try.prog 20 #[.agg #[.int .i64 v.x.f, .int .i64 v.x.g, .slice v.A v.x.os.length v.c]] wx fun r w' => r = .returned (.string (s.extract 0 q2)) ∧ Below wx.heap.size wx w'))
        clear hR hl4 hNN hWD hex h
        have hq2i : (q2 : Int) ≤ (s.size : Int) := by omega
        replace hP : quE.In W5.drew n1 y := hP
        replace hU : quE.In W5.drew n2 ⟨A2, c2, y.x⟩ := hU
        replace hV : quE.In W5.drew n3 v := hV
        replace hr1 : Rd 46 W5.drew nr BY BY.size false := hr1
        replace hq : Rd 46 W5.drew nq s q2 false := hq
        replace ho : y.ok W5.drew := ho
        replace huo : Qw.ok ⟨A2, c2, y.x⟩ W5.drew := huo
        replace hvo : v.ok W5.drew := hvo
        replace hN := hN.drew
        go_region_held3 (fun w' => (w'.cell? ⟨n1, 0, none⟩ = some (.int .i64 y.x.f) ∧ w'.cell? ⟨n1, 1, none⟩ = some (.int .i64 y.x.g) ∧ w'.cell? ⟨n1, 2, none⟩ = some (.slice y.A y.x.os.length y.c)) ∧ (w'.cell? ⟨n2, 0, none⟩ = some (.int .i64 y.x.f) ∧ w'.cell? ⟨n2, 1, none⟩ = some (.int .i64 y.x.g) ∧ w'.cell? ⟨n2, 2, none⟩ = some (.slice A2 y.x.os.length c2)) ∧ (w'.cell? ⟨n3, 0, none⟩ = some (.int .i64 v.x.f) ∧ w'.cell? ⟨n3, 1, none⟩ = some (.int .i64 v.x.g) ∧ w'.cell? ⟨n3, 2, none⟩ = some (.slice v.A v.x.os.length v.c)) ∧ (w'.cell? ⟨nq, 0, none⟩ = some (.string s) ∧ w'.cell? ⟨nq, 1, none⟩ = some (.int .i64 (q2 : Int)) ∧ w'.cell? ⟨nq, 2, none⟩ = some (.bool false))) (with_reducible exact ⟨quIn3 hP, quIn3' hU, quIn3 hV, hq.cells⟩) (first | (go_at_call 7; (with_reducible refine (CAW.out _).mono ?_); rintro r w6 ⟨rfl, hb6⟩; have hP := hP.below hb6; have hU := hU.below hb6; have hV := hV.below hb6; have hr1 := hr1.below hb6; have hq := hq.below hb6; have ho := ho.below hb6; have huo := huo.below hb6; have hvo := hvo.below hb6; have hN := below_then hN hb6) | (go_at_call 23; (with_reducible refine (CDN.out _ hr1).mono ?_); rintro r w6 ⟨rfl, hb6⟩; have hP := hP.below hb6; have hU := hU.below hb6; have hV := hV.below hb6; have hr1 := hr1.below hb6; have hq := hq.below hb6; have ho := ho.below hb6; have huo := huo.below hb6; have hvo := hvo.below hb6; have hN := below_then hN hb6) | (go_at_call 15; (with_reducible refine (CSM.out _ _ _ ho huo).mono ?_); rintro r w6 ⟨rfl, hb6⟩; have hP := hP.below hb6; have hU := hU.below hb6; have hV := hV.below hb6; have hr1 := hr1.below hb6; have hq := hq.below hb6; have ho := ho.below hb6; have huo := huo.below hb6; have hvo := hvo.below hb6; have hN := below_then hN hb6) | (go_at_call 19; (with_reducible refine (CRT.out _ hvo).mono ?_); rintro r w6 ⟨rfl, hb6⟩; have hP := hP.below hb6; have hU := hU.below hb6; have hV := hV.below hb6; have hr1 := hr1.below hb6; have hq := hq.below hb6; have ho := ho.below hb6; have huo := huo.below hb6; have hvo := hvo.below hb6; have hN := below_then hN hb6) | (go_at_call 20; (with_reducible refine (CPV.out _ hvo).mono ?_); rintro r w6 ⟨rfl, hb6⟩; have hP := hP.below hb6; have hU := hU.below hb6; have hV := hV.below hb6; have hr1 := hr1.below hb6; have hq := hq.below hb6; have ho := ho.below hb6; have huo := huo.below hb6; have hvo := hvo.below hb6; have hN := below_then hN hb6))
        go_wp2_with fail
        go_ret
        exact ⟨rfl, hN⟩
      · obtain ⟨p0, p1, p2⟩ := quIn3 hP
        obtain ⟨u0, u1, u2⟩ := quIn3' hU
        obtain ⟨_, _, q2⟩ := hq.cells
        have k0 := cell_regrown p0
        have k1 := cell_regrown p1
        have k2 := cell_regrown p2
        have l0 := cell_regrown u0
        have l1 := cell_regrown u1
        have l2 := cell_regrown u2
        have m0 := cell_regrown q2
        have d1 : ∀ c os, Calls Try.prog 7 #[] (Sort.grow (redrawn W5 c) os) fun e w'' => e = .returned (.bool true) ∧ ∃ p : Regrown, w'' = Sort.grow (redrawn W5 p.d) p.os := fun c os => Calls.regrown_of (CAW.out _)
        have d2 : ∀ c os, Calls Try.prog 23 #[.pointer (some ⟨nr, 0, none⟩)] (Sort.grow (redrawn W5 c) os) fun e w'' => e = .returned (.bool true) ∧ ∃ p : Regrown, w'' = Sort.grow (redrawn W5 p.d) p.os := fun c os => Calls.regrown_of (CDN.out _ (hr1.below (below_regrown W5 c os)))
        have d3 : ∀ c os, Calls Try.prog 15 #[.agg #[.int .i64 y.x.f, .int .i64 y.x.g, .slice A2 y.x.os.length c2], .agg #[.int .i64 y.x.f, .int .i64 y.x.g, .slice y.A y.x.os.length y.c]] (Sort.grow (redrawn W5 c) os) fun e w'' => e = .returned (.bool true) ∧ ∃ p : Regrown, w'' = Sort.grow (redrawn W5 p.d) p.os := fun c os => Calls.regrown_of (CSM.out _ _ _ (ho.below (below_regrown W5 c os)) (huo.below (below_regrown W5 c os)))
        clear p0 p1 p2 u0 u1 u2 q2 hP hU hV
        refine wp_region_quiet_below (by kernel_rfl) (by kernel_rfl) ?_
        repeat (go_big_quiet_step ((with_reducible (first | exact d1 _ _ | exact d2 _ _ | exact d3 _ _))))
        refine wpQuiet_nil ?_
        intro _ hw'
        obtain ⟨⟨dq, osq⟩, hw''⟩ := hw'
        subst hw''
        go_wp2
        go_ret
        exact ⟨rfl, below_then hN (below_regrown W5 dq osq)⟩
set_option maxRecDepth 100000 in
theorem back13_lifted (H0 : QueueBoth) (os : Os) (started : os.Started) (H : Type) (enc : TypeId × Value → H) :
    ReturnsInHanded {} Try.checked os 4 .any (Rows.queueBackSpec.pre6 enc Try.prog Try.f4 Rows.queueBackRow.domain false) (Rows.queueBackSpec.post enc Try.prog Try.f4 false true false false) := by
  refine returnsInHanded_of_change (C := Try.checked) own started (by kernel_rfl) Try.func4
    (ChangeSpec.witness6 (enc := enc) (C := Try.checked) false ⟨#[], #[.slice none 0 0, .string ⟨#[]⟩], []⟩ 8 (by kernel_rfl) (by kernel_rfl) (by kernel_rfl) (by kernel_rfl)) ?_
  intro W base args ds gs before hval0 hW _ _
  have hval : ∀ (j : Nat) t v, Try.f4.params[j]? = some t → args[j]? = some v → Value.okWide Try.prog W .any base t v := hval0
  have hW' := hW
  obtain ⟨p, q, hA0, hV, rfl, _, _⟩ := hW
  have hA : DataW.TrodAll enc Try.prog W 0 (fun _ => true) true Try.f4.params.toList args.toList ds p := hA0
  rw [Try.params4] at hA hval
  obtain ⟨v0, v1, d0, d1, p0, p1, rfl, rfl, rfl, h0, h1⟩ := trodAll_two hA
  obtain ⟨A, c, l, rfl, hL⟩ := open_ads (hval 0 22 v0 rfl rfl) h0
  obtain ⟨s, rfl, _⟩ := open_str (hval 1 9 v1 rfl rfl) h1
  have hc : Calls Try.prog 4 #[.slice A l.length c, .string s] W fun e w' => e = .returned (.bool true) ∧ Below W.heap.size W w' := by
    by_cases h : l.length ≤ 60 ∧ s.size ≤ 2000
    · exact back13_yes H0 A c l s W hL h.1 h.2
    · exact back13_no H0.calls A c l s W h
  refine hc.mono fun e W' ⟨he, hb⟩ => ?_
  subst he
  exact ⟨_, rfl, Frm.law_post (by kernel_rfl) (by kernel_rfl) (by kernel_rfl) Try.underlying4 rfl rfl hW' hb⟩

theorem back13_holds (H0 : QueueBoth) : Rows.QueueBackSaid :=
  OpenClaim.holds_of_wide 4 Try.f4 rfl rfl rfl rfl rfl rfl rfl ⟨rfl, rfl, rfl, rfl, rfl⟩ rfl rfl rfl rfl rfl (by kernel_rfl) Try.func4 (by kernel_rfl)
    (of_decide_eq_true (by kernel_rfl)) (by unfold Func.isWrapper; first | (rw [if_pos (by decide +kernel)]; kernel_rfl) | (rw [if_neg (by decide +kernel)]; exact ⟨rfl, rfl⟩))
    (fun os started H enc _ => back13_lifted H0 os started H enc)
end Go.Proofs.Ytdkolkjgojamcaa

/- QueuePlays, given the program's calls: behind any steps the queue, what may be sent, and its bytes, are the document's. -/
namespace Go.Proofs.Ytdkolkjgojamcaa
open Go.ChangeShapes Go.WideShapes Go.ChangeAt Go.RowKit Go.Deep Nam Cod

set_option maxRecDepth 100000 in
theorem plays13_no (H : QueueCalls) (A : Option Addr) (c : Nat) (l : List Ad) (most : Int) (w : World) (hl : 100 < l.length) : Calls Try.prog 3 #[.slice A l.length c, .int .i64 most] w fun e w' => e = .returned (.bool true) ∧ Below w.heap.size w w' := by
  have hfin : ∀ wx, Below w.heap.size w wx → Below w.heap.size w wx := fun _ h => h
  have hN := Below.refl w.heap.size w
  go_enter Try.func3, Try.ntmps3
  go_wp2_with fail
  refine (awake13_any H _).mono ?_
  rintro r w2 ⟨rfl, hb2⟩
  go_wp2_with fail
  go_ret
  exact ⟨rfl, hfin _ (below_then hN hb2)⟩

set_option maxRecDepth 100000 in
set_option maxHeartbeats 4000000 in
theorem plays13_yes (H : QueueCalls) (A : Option Addr) (c : Nat) (l : List Ad) (most : Int) (w : World) (hL : adE.Sl w A l) (hl : l.length ≤ 100) (hmost : i64 most) : Calls Try.prog 3 #[.slice A l.length c, .int .i64 most] w fun e w' => e = .returned (.bool true) ∧ Below w.heap.size w w' := by
  have hfin : ∀ wx, Below w.heap.size w wx → Below w.heap.size w wx := fun _ h => h
  have hN := Below.refl w.heap.size w
  have HL := Lib.hid hL
  have h1000 : l.length ≤ 1000 := by omega
  have HMOST := Lib.hid hmost
  clear hL hmost
  go_enter Try.func3, Try.ntmps3
  go_wp2_with fail
  refine (H.new _).mono ?_
  rintro r w1 ⟨z0, rfl, hz0, hzo0, hb1⟩
  have HZ0 := Lib.hid hz0
  clear hz0
  replace hN := below_then hN hb1
  clear hb1
  go_wp2_with fail
  refine (refQuNew_any _).mono ?_
  rintro r w2 ⟨t0, rfl, ht0, hto0, hb1⟩
  have HT0 := Lib.hid ht0
  clear ht0
  replace hN := below_then hN hb1
  replace hzo0 := hzo0.below hb1
  clear hb1
  have hP : quE.In ((w2.alloc (.cells #[.int .i64 z0.x.f, .int .i64 z0.x.g, .slice z0.A z0.x.os.length z0.c] 26)).alloc (.cells #[.int .i64 t0.x.f, .int .i64 t0.x.g, .slice t0.A t0.x.os.length t0.c] 26)) w2.heap.size z0 := (El.In.new (E := quE) w2 z0 _ rfl).alloc _
  have hT := two_quB w2 #[.int .i64 z0.x.f, .int .i64 z0.x.g, .slice z0.A z0.x.os.length z0.c] #[.int .i64 t0.x.f, .int .i64 t0.x.g, .slice t0.A t0.x.os.length t0.c] t0 rfl
  have hal := below_alloc (below_alloc (Below.refl w2.heap.size w2) (.cells #[.int .i64 z0.x.f, .int .i64 z0.x.g, .slice z0.A z0.x.os.length z0.c] 26)) (.cells #[.int .i64 t0.x.f, .int .i64 t0.x.g, .slice t0.A t0.x.os.length t0.c] 26)
  have hwn1 := hN.size
  replace hN := below_then hN hal
  replace hzo0 := hzo0.below hal
  replace hto0 := hto0.below hal
  clear hal
  go_wp2_with fail
  generalize (w2.alloc (.cells #[.int .i64 z0.x.f, .int .i64 z0.x.g, .slice z0.A z0.x.os.length z0.c] 26)).alloc (.cells #[.int .i64 t0.x.f, .int .i64 t0.x.g, .slice t0.A t0.x.os.length t0.c] 26) = W1 at *
  obtain ⟨n2, hn2⟩ : ∃ n, w2.heap.size + 1 = n := ⟨_, rfl⟩
  obtain ⟨n1, hn1⟩ : ∃ n, w2.heap.size = n := ⟨_, rfl⟩
  have hn12 : n1 < n2 := by omega
  have hwn2 : w.heap.size ≤ n2 := by omega
  rw [hn2] at hT ⊢
  rw [hn1] at hP hwn1 ⊢
  clear hn1 hn2
  have HF0 := Lib.hid (show fineTo l 0 from fun j hj hj0 => absurd hj0 (Nat.not_lt_zero j))
  go_loopw [7] (fun i wr => ∃ (k : Nat) (y t : Qw), k ≤ l.length ∧ i = .int .i64 k ∧ Hid (y.x = qAt l k) ∧ Hid (t.x = qAt l k) ∧ Hid (fineTo l k) ∧ y.ok wr ∧ t.ok wr ∧ quE.In wr n1 y ∧ quE.In wr n2 t ∧ Below w.heap.size w wr) (fun i _ => l.length - (intOf i).toNat)
  case atStart => exact ⟨0, z0, t0, Nat.zero_le _, rfl, Lib.hid HZ0.out, Lib.hid HT0.out, HF0, hzo0, hto0, hP, hT, hN⟩
  case round =>
    clear hP hN hzo0 HZ0 HF0 HT0 hto0 hT
    obtain ⟨k, y, t, hk, rfl, hy, hty, hf, ho, hto, hP, hT, hN⟩ := hrel
    by_cases hkl : k < l.length
    · have HTX := Lib.hid (show qAt l (k + 1) = stepQ t.x l[k] k by rw [qAt_next l k hkl, hty.out])
      have HTN := Lib.hid (show QuN t.x by rw [hty.out]; exact (qAt_K h1000 k hk hf.out).n (by omega))
      have HAT := Lib.hid (show ∀ (b' o' : Nat), A = some ⟨b', o', none⟩ → ∀ wx : World, Below w.heap.size w wx → adE.At wx b' (o' + k * 2) l[k] from fun b' o' e wx hb => by
        obtain ⟨b, off, eA, hbw, hc⟩ := HL.out (by omega)
        rw [e] at eA
        cases eA
        exact (hc k hkl).below hb hbw)
      obtain ⟨b, off, eA, hbw, hc⟩ := HL.out (by omega)
      have hx := adIdxH (cap := c) eA hkl
      have hat : adE.At wr b (off + k * 2) l[k] := (hc k hkl).below hN hbw
      have hbr := Nat.lt_of_lt_of_le hbw hN.size
      by_cases hfa : fineA l[k]
      rotate_left
      · obtain ⟨s0, s1⟩ := adAtH hat
        generalize l[k] = a at *
        obtain ⟨p0, p1, p2⟩ := quIn3 hP
        clear hc eA
        by_cases h1 : 549755813888 < a.n
        · clear hfa
          go_wp2_with fail
          refine (awake13_any H _).mono ?_
          rintro r w2 ⟨rfl, hb2⟩
          go_wp2_with fail
          go_ret
          exact ⟨rfl, hfin _ (below_then hN hb2)⟩
        · have h2 : a.n < -549755813888 := by unfold fineA at hfa; omega
          clear hfa
          go_wp2_with fail
          refine (awake13_any H _).mono ?_
          rintro r w2 ⟨rfl, hb2⟩
          go_wp2_with fail
          go_ret
          exact ⟨rfl, hfin _ (below_then hN hb2)⟩
      have HS := Lib.hid (fun (wx : World) (ho : y.ok wx) => stepped H h1000 hkl hf.out hy.out l[k] rfl hfa wx ho)
      have HF2 := Lib.hid (fineTo_next hf.out hkl hfa)
      generalize l[k] = a at *
      obtain ⟨s0, s1⟩ := adAtH hat
      have c1 : decide (549755813888 < a.n) = false := decide_eq_false (by have := hfa.2; omega)
      have c2 : decide (a.n < -549755813888) = false := decide_eq_false (by have := hfa.1; omega)
      clear hc
      have HA2 := Lib.hid (HAT.out b off eA)
      clear eA HAT
      go_wp2_with fail
      clear c1 c2 s0 s1
      refine region_anyG (S := PLQ n1 y b (off + k * 2) a) 7 (by kernel_rfl) ?_
      replace hP : quE.In wr.drew n1 y := hP
      replace hat : adE.At wr.drew b (off + k * 2) a := hat
      replace ho : y.ok wr.drew := ho
      replace hN := hN.drew
      replace hbr : b < wr.drew.heap.size := hbr
      replace hT : quE.In wr.drew n2 t := hT
      replace hto : t.ok wr.drew := hto
      generalize wr.drew = U at *
      have hS : PLQ n1 y b (off + k * 2) a U := ⟨quIn3 hP, adAtH hat⟩
      refine anyG_take (i := 0) (v := .agg #[.int .i64 y.x.f, .int .i64 y.x.g, .slice y.A y.x.os.length y.c]) rfl (by kernel_rfl) (by kernel_rfl) (by kernel_rfl) (by kernel_rfl) (by kernel_rfl) (fun _ _ _ h => h) (Or.inl ⟨by rfl, fun w' hSw => by (obtain ⟨⟨m0, m1, m2⟩, s0, s1⟩ := hSw; go_simp)⟩) hS ?_
      try simp only [Act.put, List.setIfInBounds_toArray, List.set_cons_zero, List.set_cons_succ]
      refine anyG_take (i := 1) (v := .slice A l.length c) rfl (by kernel_rfl) (by kernel_rfl) (by kernel_rfl) (by kernel_rfl) (by kernel_rfl) (fun _ _ _ h => h) (Or.inl ⟨by rfl, fun w' hSw => by (obtain ⟨⟨m0, m1, m2⟩, s0, s1⟩ := hSw; go_simp)⟩) hS ?_
      try simp only [Act.put, List.setIfInBounds_toArray, List.set_cons_zero, List.set_cons_succ]
      refine anyG_take (i := 2) (v := .int .i64 k) rfl (by kernel_rfl) (by kernel_rfl) (by kernel_rfl) (by kernel_rfl) (by kernel_rfl) (fun _ _ _ h => h) (Or.inl ⟨by rfl, fun w' hSw => by (obtain ⟨⟨m0, m1, m2⟩, s0, s1⟩ := hSw; go_simp)⟩) hS ?_
      try simp only [Act.put, List.setIfInBounds_toArray, List.set_cons_zero, List.set_cons_succ]
      refine anyG_take (i := 3) (v := .pointer (some ⟨b, off + k * 2, none⟩)) rfl (by kernel_rfl) (by kernel_rfl) (by kernel_rfl) (by kernel_rfl) (by kernel_rfl) (fun _ _ _ h => h) (Or.inl ⟨by rfl, fun w' hSw => by (obtain ⟨⟨m0, m1, m2⟩, s0, s1⟩ := hSw; go_simp)⟩) hS ?_
      try simp only [Act.put, List.setIfInBounds_toArray, List.set_cons_zero, List.set_cons_succ]
      refine anyG_take (i := 4) (v := .agg #[.int .i64 a.k, .int .i64 a.n]) rfl (by kernel_rfl) (by kernel_rfl) (by kernel_rfl) (by kernel_rfl) (by kernel_rfl) (fun _ _ _ h => h) (Or.inl ⟨by rfl, fun w' hSw => by (obtain ⟨⟨m0, m1, m2⟩, s0, s1⟩ := hSw; go_simp)⟩) hS ?_
      try simp only [Act.put, List.setIfInBounds_toArray, List.set_cons_zero, List.set_cons_succ]
      refine anyG_take (i := 5) (v := .int .i64 k) rfl (by kernel_rfl) (by kernel_rfl) (by kernel_rfl) (by kernel_rfl) (by kernel_rfl) (fun _ _ _ h => h) (Or.inl ⟨by rfl, fun w' hSw => by (obtain ⟨⟨m0, m1, m2⟩, s0, s1⟩ := hSw; go_simp)⟩) hS ?_
      try simp only [Act.put, List.setIfInBounds_toArray, List.set_cons_zero, List.set_cons_succ]
      refine anyG_step (rs := [6]) (by kernel_rfl) (by simp) ?_
      refine AllG.cons rfl (fun K hK => ?_) AllG.nil
      go_simp
      refine (HS.out U ho).mono ?_
      rintro r w1 ⟨z, rfl, hz0, hzo, hb1, hnr⟩
      have hz := Lib.hid hz0
      clear hz0 hS
      replace hP := hP.below hb1
      replace hat := hat.below hb1 hbr
      replace hN := hN.trans (hb1.mono hN.size)
      replace hT := hT.below hb1
      replace hto := hto.below hb1
      clear hb1
      clear ho
      try go_wp2_with fail
      refine hK.out _ _ (⟨quIn3 hP, adAtH hat⟩ : PLQ n1 y b (off + k * 2) a w1) ?_
      try simp only [Act.put, List.setIfInBounds_toArray, List.set_cons_zero, List.set_cons_succ]
      clear hK
      refine anyG_step (rs := [7]) (by kernel_rfl) (by simp) ?_
      refine AllG.last (n := 7) rfl (fun K hK => ?_)
      refine El.step_store quRow rfl _ _ rfl n1 z #[.int .i64 z.x.f, .int .i64 z.x.g, .slice z.A z.x.os.length z.c] rfl rfl rfl y hP ?_
      refine hK.out _ _ ?_
      clear hK
      refine anyG_done (by kernel_rfl) ?_ _
      have hP2 := hP.set z #[.int .i64 z.x.f, .int .i64 z.x.g, .slice z.A z.x.os.length z.c] rfl
      have hzo2 : z.ok (w1.setRow n1 #[.int .i64 z.x.f, .int .i64 z.x.g, .slice z.A z.x.os.length z.c]) := SlV.keepO hzo (by_row _ n1 _) (qu_off hzo.1 hP)
      have hN2 := below_setRow hN hwn1 #[.int .i64 z.x.f, .int .i64 z.x.g, .slice z.A z.x.os.length z.c]
      have hT2 := hT.rowN n1 #[.int .i64 z.x.f, .int .i64 z.x.g, .slice z.A z.x.os.length z.c] (by omega)
      have hto2 := SlV.keepO hto (by_row w1 n1 #[.int .i64 z.x.f, .int .i64 z.x.g, .slice z.A z.x.os.length z.c]) (qu_off hto.1 hP)
      clear hP hT hN hat hzo hbr HS hto
      generalize w1.setRow n1 #[.int .i64 z.x.f, .int .i64 z.x.g, .slice z.A z.x.os.length z.c] = W2 at *
      have hP := hP2
      have hT := hT2
      have hzo := hzo2
      have hto : t.ok W2 := hto2
      have hN := hN2
      clear hP2 hT2 hzo2 hto2 hN2
      obtain ⟨s0, s1⟩ := adAtH (HA2.out W2 hN)
      go_upto_block 2 with fail
      go_cut [] from 42 to 70 (fun wx => ∃ t2 : Qw, Hid (t2.x = qAt l (k + 1)) ∧ t2.ok wx ∧ z.ok wx ∧ quE.In wx n1 z ∧ quE.In wx n2 t2 ∧ Below w.heap.size w wx)
      case first =>
        by_cases k0 : a.k = 0
        · have e0 : (a.k == 0) = true := by simp [k0]
          have HX := Lib.hid (show stepQ t.x a k = pushQ t.x (someO k) by unfold stepQ; rw [if_pos k0])
          have HSO := Lib.hid (fun wx => some13_any k (by omega) wx)
          clear k0
          generalize someO k = x at *
          go_wp2_with fail
          refine region_anyG (S := PLQ n2 t b (off + k * 2) a) 4 (by kernel_rfl) ?_
          replace hP : quE.In W2.drew n1 z := hP
          replace hT : quE.In W2.drew n2 t := hT
          replace hzo : z.ok W2.drew := hzo
          replace hto : t.ok W2.drew := hto
          replace hN := hN.drew
          generalize W2.drew = U at *
          have hS : PLQ n2 t b (off + k * 2) a U := ⟨quIn3 hT, adAtH (HA2.out U hN)⟩
          refine anyG_take (i := 0) (v := .agg #[.int .i64 t.x.f, .int .i64 t.x.g, .slice t.A t.x.os.length t.c]) rfl (by kernel_rfl) (by kernel_rfl) (by kernel_rfl) (by kernel_rfl) (by kernel_rfl) (fun _ _ _ h => h) (Or.inl ⟨by rfl, fun w' hSw => by (obtain ⟨⟨m0, m1, m2⟩, s0, s1⟩ := hSw; go_simp)⟩) hS ?_
          try simp only [Act.put, List.setIfInBounds_toArray, List.set_cons_zero, List.set_cons_succ]
          refine anyG_take (i := 1) (v := .int .i64 k) rfl (by kernel_rfl) (by kernel_rfl) (by kernel_rfl) (by kernel_rfl) (by kernel_rfl) (fun _ _ _ h => h) (Or.inl ⟨by rfl, fun w' hSw => by (obtain ⟨⟨m0, m1, m2⟩, s0, s1⟩ := hSw; go_simp)⟩) hS ?_
          try simp only [Act.put, List.setIfInBounds_toArray, List.set_cons_zero, List.set_cons_succ]
          refine anyG_step (rs := [2]) (by kernel_rfl) (by simp) ?_
          refine AllG.cons rfl (fun K hK => ?_) AllG.nil
          go_simp
          refine (HSO.out U).mono ?_
          rintro r w3 ⟨rfl, hb3⟩
          replace hto := hto.below hb3
          replace hP := hP.below hb3
          replace hT := hT.below hb3
          replace hzo := hzo.below hb3
          replace hN := below_then hN hb3
          clear hb3
          clear hS HSO
          try go_wp2_with fail
          refine hK.out _ _ (⟨quIn3 hT, adAtH (HA2.out _ hN)⟩ : PLQ n2 t b (off + k * 2) a w3) ?_
          try simp only [Act.put, List.setIfInBounds_toArray, List.set_cons_zero, List.set_cons_succ]
          clear hK
          refine anyG_step (rs := [3]) (by kernel_rfl) (by simp) ?_
          refine AllG.cons rfl (fun K hK => ?_) AllG.nil
          go_simp
          refine (refQuPush_any t x w3 (by have := HTN.out.l; omega) hto).mono ?_
          rintro r w4 ⟨t2, rfl, ht20, ht2o, hb3⟩
          have ht2 := Lib.hid ht20
          clear ht20
          replace hP := hP.below hb3
          replace hT := hT.below hb3
          replace hzo := hzo.below hb3
          replace hN := below_then hN hb3
          clear hb3
          try go_wp2_with fail
          refine hK.out _ _ (⟨quIn3 hT, adAtH (HA2.out _ hN)⟩ : PLQ n2 t b (off + k * 2) a w4) ?_
          try simp only [Act.put, List.setIfInBounds_toArray, List.set_cons_zero, List.set_cons_succ]
          clear hK
          refine anyG_step (rs := [4]) (by kernel_rfl) (by simp) ?_
          refine AllG.last (n := 4) rfl (fun K hK => ?_)
          refine El.step_store quRow rfl _ _ rfl n2 t2 #[.int .i64 t2.x.f, .int .i64 t2.x.g, .slice t2.A t2.x.os.length t2.c] rfl rfl rfl t hT ?_
          refine hK.out _ _ ?_
          clear hK
          refine anyG_done (by kernel_rfl) ?_ _
          go_wp2_with fail
          go_meet
          exact ⟨t2, Lib.hid (by rw [ht2.out, HTX.out, ← HX.out]), SlV.keepO ht2o (by_row _ n2 _) (qu_off ht2o.1 hT), SlV.keepO hzo (by_row _ n2 _) (qu_off hzo.1 hT), hP.rowN n2 _ (by omega), hT.set t2 _ rfl, below_setRow hN hwn2 _⟩
        · have e0 : (a.k == 0) = false := by simp [k0]
          by_cases k1 : a.k = 1
          · have e1 : (a.k == 1) = true := by simp [k1]
            have HX := Lib.hid (show stepQ t.x a k = ackQ t.x a.n by unfold stepQ; rw [if_neg k0, if_pos k1])
            clear k0 k1
            go_wp2_with fail
            refine region_anyG (S := PLQ n2 t b (off + k * 2) a) 7 (by kernel_rfl) ?_
            replace hP : quE.In W2.drew n1 z := hP
            replace hT : quE.In W2.drew n2 t := hT
            replace hzo : z.ok W2.drew := hzo
            replace hto : t.ok W2.drew := hto
            replace hN := hN.drew
            generalize W2.drew = U at *
            have hat := HA2.out U hN
            have hS : PLQ n2 t b (off + k * 2) a U := ⟨quIn3 hT, adAtH hat⟩
            refine anyG_take (i := 0) (v := .agg #[.int .i64 t.x.f, .int .i64 t.x.g, .slice t.A t.x.os.length t.c]) rfl (by kernel_rfl) (by kernel_rfl) (by kernel_rfl) (by kernel_rfl) (by kernel_rfl) (fun _ _ _ h => h) (Or.inl ⟨by rfl, fun w' hSw => by (obtain ⟨⟨m0, m1, m2⟩, s0, s1⟩ := hSw; go_simp)⟩) hS ?_
            try simp only [Act.put, List.setIfInBounds_toArray, List.set_cons_zero, List.set_cons_succ]
            refine anyG_take (i := 1) (v := .slice A l.length c) rfl (by kernel_rfl) (by kernel_rfl) (by kernel_rfl) (by kernel_rfl) (by kernel_rfl) (fun _ _ _ h => h) (Or.inl ⟨by rfl, fun w' hSw => by (obtain ⟨⟨m0, m1, m2⟩, s0, s1⟩ := hSw; go_simp)⟩) hS ?_
            try simp only [Act.put, List.setIfInBounds_toArray, List.set_cons_zero, List.set_cons_succ]
            refine anyG_take (i := 2) (v := .int .i64 k) rfl (by kernel_rfl) (by kernel_rfl) (by kernel_rfl) (by kernel_rfl) (by kernel_rfl) (fun _ _ _ h => h) (Or.inl ⟨by rfl, fun w' hSw => by (obtain ⟨⟨m0, m1, m2⟩, s0, s1⟩ := hSw; go_simp)⟩) hS ?_
            try simp only [Act.put, List.setIfInBounds_toArray, List.set_cons_zero, List.set_cons_succ]
            refine anyG_take (i := 3) (v := .pointer (some ⟨b, off + k * 2, none⟩)) rfl (by kernel_rfl) (by kernel_rfl) (by kernel_rfl) (by kernel_rfl) (by kernel_rfl) (fun _ _ _ h => h) (Or.inl ⟨by rfl, fun w' hSw => by (obtain ⟨⟨m0, m1, m2⟩, s0, s1⟩ := hSw; go_simp)⟩) hS ?_
            try simp only [Act.put, List.setIfInBounds_toArray, List.set_cons_zero, List.set_cons_succ]
            refine anyG_take (i := 4) (v := .pointer (some ⟨b, off + k * 2 + 1, none⟩)) rfl (by kernel_rfl) (by kernel_rfl) (by kernel_rfl) (by kernel_rfl) (by kernel_rfl) (fun _ _ _ h => h) (Or.inl ⟨by rfl, fun w' hSw => by (obtain ⟨⟨m0, m1, m2⟩, s0, s1⟩ := hSw; go_simp)⟩) hS ?_
            try simp only [Act.put, List.setIfInBounds_toArray, List.set_cons_zero, List.set_cons_succ]
            refine anyG_take (i := 5) (v := .int .i64 a.n) rfl (by kernel_rfl) (by kernel_rfl) (by kernel_rfl) (by kernel_rfl) (by kernel_rfl) (fun _ _ _ h => h) (Or.inl ⟨by rfl, fun w' hSw => by (obtain ⟨⟨m0, m1, m2⟩, s0, s1⟩ := hSw; go_simp)⟩) hS ?_
            try simp only [Act.put, List.setIfInBounds_toArray, List.set_cons_zero, List.set_cons_succ]
            refine anyG_step (rs := [6]) (by kernel_rfl) (by simp) ?_
            refine AllG.cons rfl (fun K hK => ?_) AllG.nil
            go_simp
            refine (refQuAck_any t a.n U HTN.out (by have := hfa.1; have := hfa.2; omega) hto).mono ?_
            rintro r w3 ⟨t2, rfl, ht20, ht2o, hb3⟩
            have ht2 := Lib.hid ht20
            clear ht20 hS
            replace hP := hP.below hb3
            replace hT := hT.below hb3
            replace hzo := hzo.below hb3
            replace hN := below_then hN hb3
            clear hb3
            try go_wp2_with fail
            refine hK.out _ _ (⟨quIn3 hT, adAtH (HA2.out _ hN)⟩ : PLQ n2 t b (off + k * 2) a w3) ?_
            try simp only [Act.put, List.setIfInBounds_toArray, List.set_cons_zero, List.set_cons_succ]
            clear hK
            refine anyG_step (rs := [7]) (by kernel_rfl) (by simp) ?_
            refine AllG.last (n := 7) rfl (fun K hK => ?_)
            refine El.step_store quRow rfl _ _ rfl n2 t2 #[.int .i64 t2.x.f, .int .i64 t2.x.g, .slice t2.A t2.x.os.length t2.c] rfl rfl rfl t hT ?_
            refine hK.out _ _ ?_
            clear hK
            refine anyG_done (by kernel_rfl) ?_ _
            go_wp2_with fail
            go_meet
            exact ⟨t2, Lib.hid (by rw [ht2.out, HTX.out, ← HX.out]), SlV.keepO ht2o (by_row _ n2 _) (qu_off ht2o.1 hT), SlV.keepO hzo (by_row _ n2 _) (qu_off hzo.1 hT), hP.rowN n2 _ (by omega), hT.set t2 _ rfl, below_setRow hN hwn2 _⟩
          · have e1 : (a.k == 1) = false := by simp [k1]
            by_cases k2 : a.k = 2
            · have e2 : (a.k == 2) = true := by simp [k2]
              have HX := Lib.hid (show stepQ t.x a k = allowQ t.x a.n by unfold stepQ; rw [if_neg k0, if_neg k1, if_pos k2])
              clear k0 k1 k2
              go_wp2_with fail
              refine region_anyG (S := PLQ n2 t b (off + k * 2) a) 7 (by kernel_rfl) ?_
              replace hP : quE.In W2.drew n1 z := hP
              replace hT : quE.In W2.drew n2 t := hT
              replace hzo : z.ok W2.drew := hzo
              replace hto : t.ok W2.drew := hto
              replace hN := hN.drew
              generalize W2.drew = U at *
              have hat := HA2.out U hN
              have hS : PLQ n2 t b (off + k * 2) a U := ⟨quIn3 hT, adAtH hat⟩
              refine anyG_take (i := 0) (v := .agg #[.int .i64 t.x.f, .int .i64 t.x.g, .slice t.A t.x.os.length t.c]) rfl (by kernel_rfl) (by kernel_rfl) (by kernel_rfl) (by kernel_rfl) (by kernel_rfl) (fun _ _ _ h => h) (Or.inl ⟨by rfl, fun w' hSw => by (obtain ⟨⟨m0, m1, m2⟩, s0, s1⟩ := hSw; go_simp)⟩) hS ?_
              try simp only [Act.put, List.setIfInBounds_toArray, List.set_cons_zero, List.set_cons_succ]
              refine anyG_take (i := 1) (v := .slice A l.length c) rfl (by kernel_rfl) (by kernel_rfl) (by kernel_rfl) (by kernel_rfl) (by kernel_rfl) (fun _ _ _ h => h) (Or.inl ⟨by rfl, fun w' hSw => by (obtain ⟨⟨m0, m1, m2⟩, s0, s1⟩ := hSw; go_simp)⟩) hS ?_
              try simp only [Act.put, List.setIfInBounds_toArray, List.set_cons_zero, List.set_cons_succ]
              refine anyG_take (i := 2) (v := .int .i64 k) rfl (by kernel_rfl) (by kernel_rfl) (by kernel_rfl) (by kernel_rfl) (by kernel_rfl) (fun _ _ _ h => h) (Or.inl ⟨by rfl, fun w' hSw => by (obtain ⟨⟨m0, m1, m2⟩, s0, s1⟩ := hSw; go_simp)⟩) hS ?_
              try simp only [Act.put, List.setIfInBounds_toArray, List.set_cons_zero, List.set_cons_succ]
              refine anyG_take (i := 3) (v := .pointer (some ⟨b, off + k * 2, none⟩)) rfl (by kernel_rfl) (by kernel_rfl) (by kernel_rfl) (by kernel_rfl) (by kernel_rfl) (fun _ _ _ h => h) (Or.inl ⟨by rfl, fun w' hSw => by (obtain ⟨⟨m0, m1, m2⟩, s0, s1⟩ := hSw; go_simp)⟩) hS ?_
              try simp only [Act.put, List.setIfInBounds_toArray, List.set_cons_zero, List.set_cons_succ]
              refine anyG_take (i := 4) (v := .pointer (some ⟨b, off + k * 2 + 1, none⟩)) rfl (by kernel_rfl) (by kernel_rfl) (by kernel_rfl) (by kernel_rfl) (by kernel_rfl) (fun _ _ _ h => h) (Or.inl ⟨by rfl, fun w' hSw => by (obtain ⟨⟨m0, m1, m2⟩, s0, s1⟩ := hSw; go_simp)⟩) hS ?_
              try simp only [Act.put, List.setIfInBounds_toArray, List.set_cons_zero, List.set_cons_succ]
              refine anyG_take (i := 5) (v := .int .i64 a.n) rfl (by kernel_rfl) (by kernel_rfl) (by kernel_rfl) (by kernel_rfl) (by kernel_rfl) (fun _ _ _ h => h) (Or.inl ⟨by rfl, fun w' hSw => by (obtain ⟨⟨m0, m1, m2⟩, s0, s1⟩ := hSw; go_simp)⟩) hS ?_
              try simp only [Act.put, List.setIfInBounds_toArray, List.set_cons_zero, List.set_cons_succ]
              refine anyG_step (rs := [6]) (by kernel_rfl) (by simp) ?_
              refine AllG.cons rfl (fun K hK => ?_) AllG.nil
              go_simp
              refine (refQuAllow_any t a.n U hto).mono ?_
              rintro r w3 ⟨t2, rfl, ht20, ht2o, hb3⟩
              have ht2 := Lib.hid ht20
              clear ht20 hS
              replace hP := hP.below hb3
              replace hT := hT.below hb3
              replace hzo := hzo.below hb3
              replace hN := below_then hN hb3
              clear hb3
              try go_wp2_with fail
              refine hK.out _ _ (⟨quIn3 hT, adAtH (HA2.out _ hN)⟩ : PLQ n2 t b (off + k * 2) a w3) ?_
              try simp only [Act.put, List.setIfInBounds_toArray, List.set_cons_zero, List.set_cons_succ]
              clear hK
              refine anyG_step (rs := [7]) (by kernel_rfl) (by simp) ?_
              refine AllG.last (n := 7) rfl (fun K hK => ?_)
              refine El.step_store quRow rfl _ _ rfl n2 t2 #[.int .i64 t2.x.f, .int .i64 t2.x.g, .slice t2.A t2.x.os.length t2.c] rfl rfl rfl t hT ?_
              refine hK.out _ _ ?_
              clear hK
              refine anyG_done (by kernel_rfl) ?_ _
              go_wp2_with fail
              go_meet
              exact ⟨t2, Lib.hid (by rw [ht2.out, HTX.out, ← HX.out]), SlV.keepO ht2o (by_row _ n2 _) (qu_off ht2o.1 hT), SlV.keepO hzo (by_row _ n2 _) (qu_off hzo.1 hT), hP.rowN n2 _ (by omega), hT.set t2 _ rfl, below_setRow hN hwn2 _⟩
            · have e2 : (a.k == 2) = false := by simp [k2]
              have HX := Lib.hid (show stepQ t.x a k = t.x by unfold stepQ; rw [if_neg k0, if_neg k1, if_neg k2])
              clear k0 k1 k2
              go_wp2_with fail
              go_meet
              exact ⟨t, Lib.hid (by rw [HTX.out, HX.out]), hto, hzo, hP, hT, hN⟩
      case rest =>
        clear hto s0 s1 hP hT hzo hN
        obtain ⟨t2, ht2, ht2o, hzo, hP, hT, hN⟩ := hcut
        as_aux_lemma =>
          have hK := qAt_K h1000 (k + 1) (by omega) HF2.out
          rw [← hz.out] at hK
          have hNN := hK.n (by omega)
          have hR := hK.r (by omega)
          have hzt : t2.x = z.x := by rw [ht2.out, hz.out]
          obtain ⟨A2, c2, x2⟩ := t2
          dsimp only at hzt
          subst hzt
          have CSM := Lib.hid (fun (wx : World) (h1 : z.ok wx) (h2 : Qw.ok ⟨A2, c2, z.x⟩ wx) => (show Calls Try.prog 15 #[.agg #[.int .i64 z.x.f, .int .i64 z.x.g, .slice z.A z.x.os.length z.c], .agg #[.int .i64 z.x.f, .int .i64 z.x.g, .slice A2 z.x.os.length c2]] wx fun r w' => r = .returned (.bool true) ∧ Below wx.heap.size wx w' from refSameQu_any z ⟨A2, c2, z.x⟩ wx rfl h1 h2 hNN.l))
          have CO := Lib.hid (fun (wx : World) (h1 : z.ok wx) => H.out z most wx hNN HMOST.out h1)
          have CX := Lib.hid (fun (wx : World) (h1 : Qw.ok ⟨A2, c2, z.x⟩ wx) => (show Calls Try.prog 18 #[.agg #[.int .i64 z.x.f, .int .i64 z.x.g, .slice A2 z.x.os.length c2], .int .i64 most] wx fun r w' => ∃ (A : Option Addr) (c : Nat), r = .returned (.slice A (outQ z.x most).length c) ∧ SlV opE w' A c (outQ z.x most) ∧ Below wx.heap.size wx w' from refQuOut_any ⟨A2, c2, z.x⟩ most wx hNN h1))
          have hOL : (outQ z.x most).length ≤ 50000 := Nat.le_trans (by unfold outQ; rw [List.length_take]; omega) hNN.l
          generalize outQ z.x most = OL at *
          have CSO := Lib.hid (fun (A4 A5 : Option Addr) (c4 c5 : Nat) (wx : World) (h1 : SlV opE wx A4 c4 OL) (h2 : SlV opE wx A5 c5 OL) => (show Calls Try.prog 16 #[.slice A4 OL.length c4, .slice A5 OL.length c5] wx fun r w' => r = .returned (.bool true) ∧ Below wx.heap.size wx w' from (sameOp_any A4 A5 c4 c5 OL OL wx hOL hOL h1.1 h2.1).mono (by
            rintro e w' ⟨bv, rfl, hbv, hb2⟩
            obtain rfl : bv = true := hbv.2 rfl
            exact ⟨rfl, hb2⟩)))
          have CRT := Lib.hid (fun (wx : World) (h1 : z.ok wx) => H.right z wx hNN hR h1)
          clear hK hNN hR hOL hn12
          go_wp2_with fail
          replace hP : quE.In wc.drew n1 z := hP
          replace hT : quE.In wc.drew n2 ⟨A2, c2, z.x⟩ := hT
          replace hzo : z.ok wc.drew := hzo
          replace ht2o : Qw.ok ⟨A2, c2, z.x⟩ wc.drew := ht2o
          replace hN := hN.drew
          go_region_held3 (fun w' => (w'.cell? ⟨n1, 0, none⟩ = some (.int .i64 z.x.f) ∧ w'.cell? ⟨n1, 1, none⟩ = some (.int .i64 z.x.g) ∧ w'.cell? ⟨n1, 2, none⟩ = some (.slice z.A z.x.os.length z.c)) ∧ (w'.cell? ⟨n2, 0, none⟩ = some (.int .i64 z.x.f) ∧ w'.cell? ⟨n2, 1, none⟩ = some (.int .i64 z.x.g) ∧ w'.cell? ⟨n2, 2, none⟩ = some (.slice A2 z.x.os.length c2))) (with_reducible exact ⟨quIn3 hP, quIn3' hT⟩) (first | (go_at_call 15; (with_reducible refine (CSM.out _ hzo ht2o).mono ?_); rintro r w6 ⟨rfl, hb6⟩; replace hP := hP.below hb6; replace hT := hT.below hb6; replace hzo := hzo.below hb6; replace ht2o := ht2o.below hb6; replace hN := below_then hN hb6; try replace hS4 := hS4.below hb6; try replace hS5 := hS5.below hb6; clear hb6) | (go_at_call 17; (with_reducible refine (CO.out _ hzo).mono ?_); rintro r w6 ⟨A4, c4, rfl, hS4, hb6⟩; replace hP := hP.below hb6; replace hT := hT.below hb6; replace hzo := hzo.below hb6; replace ht2o := ht2o.below hb6; replace hN := below_then hN hb6; try replace hS4 := hS4.below hb6; try replace hS5 := hS5.below hb6; clear hb6) | (go_at_call 18; (with_reducible refine (CX.out _ ht2o).mono ?_); rintro r w6 ⟨A5, c5, rfl, hS5, hb6⟩; replace hP := hP.below hb6; replace hT := hT.below hb6; replace hzo := hzo.below hb6; replace ht2o := ht2o.below hb6; replace hN := below_then hN hb6; try replace hS4 := hS4.below hb6; try replace hS5 := hS5.below hb6; clear hb6) | (go_at_call 16; (with_reducible refine (CSO.out _ _ _ _ _ hS4 hS5).mono ?_); rintro r w6 ⟨rfl, hb6⟩; replace hP := hP.below hb6; replace hT := hT.below hb6; replace hzo := hzo.below hb6; replace ht2o := ht2o.below hb6; replace hN := below_then hN hb6; try replace hS4 := hS4.below hb6; try replace hS5 := hS5.below hb6; clear hb6) | (go_at_call 19; (with_reducible refine (CRT.out _ hzo).mono ?_); rintro r w6 ⟨rfl, hb6⟩; replace hP := hP.below hb6; replace hT := hT.below hb6; replace hzo := hzo.below hb6; replace ht2o := ht2o.below hb6; replace hN := below_then hN hb6; try replace hS4 := hS4.below hb6; try replace hS5 := hS5.below hb6; clear hb6))
          go_wp2_with fail
          exact ⟨⟨k + 1, z, ⟨A2, c2, z.x⟩, by omega, by go_num, hz, ht2, HF2, hzo, ht2o, hP, hT, hN⟩, by simp [intOf]; omega⟩
    · obtain rfl : k = l.length := by omega
      as_aux_lemma =>
        have hK := qAt_K h1000 l.length (Nat.le_refl _) hf.out
        rw [← hy.out] at hK
        have hNN := hK.n h1000
        have hR := hK.r h1000
        have hWD : okW y.x.os := fun o ho => ⟨(opB_wide (hR.ok o ho)).1, Nat.le_trans (opB_wide (hR.ok o ho)).2.2.1 (by decide)⟩
        have hyt : t.x = y.x := by rw [hty.out, hy.out]
        obtain ⟨A2, c2, x2⟩ := t
        dsimp only at hyt
        subst hyt
        have CAW := Lib.hid (fun (wx : World) => awake13_any H wx)
        have CPR := Lib.hid (fun (wx : World) (h1 : y.ok wx) => H.print y wx hNN h1 hWD)
        have CPX := Lib.hid (fun (wx : World) (h1 : Qw.ok ⟨A2, c2, y.x⟩ wx) => (show Calls Try.prog 21 #[.agg #[.int .i64 y.x.f, .int .i64 y.x.g, .slice A2 y.x.os.length c2]] wx fun r w' => r = .returned (.string (quBytes y.x)) ∧ Below wx.heap.size wx w' from refQuPrint_any ⟨A2, c2, y.x⟩ wx hNN h1 (fun o ho => ⟨(hWD o ho).1, Nat.le_trans (hWD o ho).2 (by decide)⟩)))
        generalize quBytes y.x = BY at *
        clear hK hNN hR hWD hy hty
        go_wp2_with fail
        have hzo := ho
        have ht2o := hto
        replace hP : quE.In wr.drew n1 y := hP
        replace hT : quE.In wr.drew n2 ⟨A2, c2, y.x⟩ := hT
        replace hzo : y.ok wr.drew := hzo
        replace ht2o : Qw.ok ⟨A2, c2, y.x⟩ wr.drew := ht2o
        clear ho hto
        replace hN := hN.drew
        go_region_held3 (fun w' => (w'.cell? ⟨n1, 0, none⟩ = some (.int .i64 y.x.f) ∧ w'.cell? ⟨n1, 1, none⟩ = some (.int .i64 y.x.g) ∧ w'.cell? ⟨n1, 2, none⟩ = some (.slice y.A y.x.os.length y.c)) ∧ (w'.cell? ⟨n2, 0, none⟩ = some (.int .i64 y.x.f) ∧ w'.cell? ⟨n2, 1, none⟩ = some (.int .i64 y.x.g) ∧ w'.cell? ⟨n2, 2, none⟩ = some (.slice A2 y.x.os.length c2))) (with_reducible exact ⟨quIn3 hP, quIn3' hT⟩) (first | (go_at_call 7; (with_reducible refine (CAW.out _).mono ?_); rintro r w6 ⟨rfl, hb6⟩; replace hP := hP.below hb6; replace hT := hT.below hb6; replace hzo := hzo.below hb6; replace ht2o := ht2o.below hb6; replace hN := below_then hN hb6; try replace hS4 := hS4.below hb6; try replace hS5 := hS5.below hb6; clear hb6) | (go_at_call 20; (with_reducible refine (CPR.out _ hzo).mono ?_); rintro r w6 ⟨rfl, hb6⟩; replace hP := hP.below hb6; replace hT := hT.below hb6; replace hzo := hzo.below hb6; replace ht2o := ht2o.below hb6; replace hN := below_then hN hb6; try replace hS4 := hS4.below hb6; try replace hS5 := hS5.below hb6; clear hb6) | (go_at_call 21; (with_reducible refine (CPX.out _ ht2o).mono ?_); rintro r w6 ⟨rfl, hb6⟩; replace hP := hP.below hb6; replace hT := hT.below hb6; replace hzo := hzo.below hb6; replace ht2o := ht2o.below hb6; replace hN := below_then hN hb6; try replace hS4 := hS4.below hb6; try replace hS5 := hS5.below hb6; clear hb6))
        go_wp2_with fail
        go_ret
        exact ⟨rfl, hN⟩
set_option maxRecDepth 100000 in
theorem plays13_lifted (H0 : QueueCalls) (os : Os) (started : os.Started) (H : Type) (enc : TypeId × Value → H) :
    ReturnsInHanded {} Try.checked os 3 .any (Rows.queuePlaysSpec.pre6 enc Try.prog Try.f3 Rows.queuePlaysRow.domain false) (Rows.queuePlaysSpec.post enc Try.prog Try.f3 false true false false) := by
  refine returnsInHanded_of_change (C := Try.checked) own started (by kernel_rfl) Try.func3
    (ChangeSpec.witness6 (enc := enc) (C := Try.checked) false ⟨#[], #[.slice none 0 0, .int .i64 0], []⟩ 8 (by kernel_rfl) (by kernel_rfl) (by kernel_rfl) (by kernel_rfl)) ?_
  intro W base args ds gs before hval0 hW _ _
  have hval : ∀ (j : Nat) t v, Try.f3.params[j]? = some t → args[j]? = some v → Value.okWide Try.prog W .any base t v := hval0
  have hW' := hW
  obtain ⟨p, q, hA0, hV, rfl, _, _⟩ := hW
  have hA : DataW.TrodAll enc Try.prog W 0 (fun _ => true) true Try.f3.params.toList args.toList ds p := hA0
  rw [Try.params3] at hA hval
  obtain ⟨v0, v1, d0, d1, p0, p1, rfl, rfl, rfl, h0, h1⟩ := trodAll_two hA
  obtain ⟨A, c, l, rfl, hL⟩ := open_ads (hval 0 22 v0 rfl rfl) h0
  obtain ⟨most, rfl, hm⟩ := open_i64 (hval 1 3 v1 rfl rfl) h1
  have hc : Calls Try.prog 3 #[.slice A l.length c, .int .i64 most] W fun e w' => e = .returned (.bool true) ∧ Below W.heap.size W w' := by
    by_cases h : l.length ≤ 100
    · exact plays13_yes H0 A c l most W hL h hm
    · exact plays13_no H0 A c l most W (by omega)
  refine hc.mono fun e W' ⟨he, hb⟩ => ?_
  subst he
  exact ⟨_, rfl, Frm.law_post (by kernel_rfl) (by kernel_rfl) (by kernel_rfl) Try.underlying4 rfl rfl hW' hb⟩

theorem plays13_holds (H0 : QueueCalls) : Rows.QueuePlaysSaid :=
  OpenClaim.holds_of_wide 3 Try.f3 rfl rfl rfl rfl rfl rfl rfl ⟨rfl, rfl, rfl, rfl, rfl⟩ rfl rfl rfl rfl rfl (by kernel_rfl) Try.func3 (by kernel_rfl)
    (of_decide_eq_true (by kernel_rfl)) (by unfold Func.isWrapper; first | (rw [if_pos (by decide +kernel)]; kernel_rfl) | (rw [if_neg (by decide +kernel)]; exact ⟨rfl, rfl⟩))
    (fun os started H enc _ => plays13_lifted H0 os started H enc)
end Go.Proofs.Ytdkolkjgojamcaa

/- What may be a tree: of the program. -/
namespace Go.Proofs.Ytdkolkjgojamcaa
open Go.RowKit Tre Nam Cod

theorem okPl_five {n u : Int} {P : Prop} (h1 : ¬ 2 ≤ n → P) (h2 : 2 ≤ n → ¬ n < 64 → P) (h3 : 2 ≤ n → n < 64 → ¬ 0 ≤ u → P) (h4 : 2 ≤ n → n < 64 → 0 ≤ u → ¬ u < 64 → P) (h5 : 2 ≤ n → n < 64 → 0 ≤ u → u < 64 → P) : P := by
  by_cases a : 2 ≤ n
  · by_cases b : n < 64
    · by_cases c : 0 ≤ u
      · by_cases d : u < 64
        · exact h5 a b c d
        · exact h4 a b c d
      · exact h3 a b c
    · exact h2 a b
  · exact h1 a
theorem okPl_false {p : Pl} (h : ¬ (2 ≤ p.n ∧ p.n < 64 ∧ 0 ≤ p.u ∧ p.u < 64)) : okPl p = false := by
  unfold okPl; rw [decide_eq_false h]; rfl
theorem okPl_name {p : Pl} (h : 2 ≤ p.n ∧ p.n < 64 ∧ 0 ≤ p.u ∧ p.u < 64) : okPl p = isName (L p.s) := by
  unfold okPl; rw [decide_eq_true h]; rfl

/-- The places ahead of i may be, and rise. -/
def GoodTo (l : List Pl) (i : Nat) : Prop := ∀ k (h : k < l.length), k < i → okPl l[k] = true ∧ ∀ (h0 : 0 < k), (l[k - 1]'(by omega)).n < l[k].n
theorem goodTo_next {l : List Pl} {i : Nat} (h : GoodTo l i) (hi : i < l.length) (h1 : okPl l[i] = true) (h2 : ∀ (h0 : 0 < i), (l[i - 1]'(by omega)).n < l[i].n) : GoodTo l (i + 1) := by
  intro k hk hlt
  by_cases e : k = i
  · subst e; exact ⟨h1, h2⟩
  · exact h k hk (by omega)
theorem rising_of : ∀ {l : List Pl}, (∀ k (h : k < l.length) (h0 : 0 < k), (l[k - 1]'(by omega)).n < l[k].n) → rising l = true
  | [], _ => rfl
  | [_], _ => rfl
  | p :: q :: l, h => by
    unfold rising
    rw [Bool.and_eq_true, decide_eq_true_iff]
    refine ⟨h 1 (by simp) (by omega), rising_of (l := q :: l) fun k hk h0 => ?_⟩
    have := h (k + 1) (by simpa using hk) (by omega)
    obtain ⟨m, rfl⟩ : ∃ m, k = m + 1 := ⟨k - 1, by omega⟩
    simpa using this
def riseB (l : List Pl) : Bool := l.all okPl && rising l
theorem goodTo_all {l : List Pl} (h : GoodTo l l.length) : riseB l = true := by
  unfold riseB
  rw [Bool.and_eq_true, List.all_eq_true]
  refine ⟨fun p hp => ?_, rising_of fun k hk h0 => (h k hk hk).2 h0⟩
  obtain ⟨k, hk, rfl⟩ := List.getElem_of_mem hp
  exact (h k hk hk).1
theorem goodTo_back {l : List Pl} (h : riseB l = true) : (∀ k (h : k < l.length), okPl l[k] = true) ∧ Sorted l := by
  unfold riseB at h
  rw [Bool.and_eq_true, List.all_eq_true] at h
  exact ⟨fun k hk => h.1 _ (List.getElem_mem hk), rising_sorted h.2⟩
theorem goodTo_bad {l : List Pl} {i : Nat} (hi : i < l.length) (h : ¬ (okPl l[i] = true ∧ ∀ (h0 : 0 < i), (l[i - 1]'(by omega)).n < l[i].n)) : riseB l = false := by
  rcases e : riseB l with _ | _
  · rfl
  · obtain ⟨h1, h2⟩ := goodTo_back e
    exact absurd ⟨h1 i hi, fun h0 => h2 _ _ (by omega) hi (by omega)⟩ h

end Go.Proofs.Ytdkolkjgojamcaa

/- What may be a tree: Right of both. -/
namespace Go.Proofs.Ytdkolkjgojamcaa
open Go.RowKit Tre Nam Cod

def ringless (l : List Pl) : Bool := l.all fun p => !above l p.n p.u
theorem treeB_two (l : List Pl) : treeB l = (riseB l && ringless l) := by unfold treeB riseB ringless; rw [Bool.and_assoc]
def FreeTo (l : List Pl) (i : Nat) : Prop := ∀ k (h : k < l.length), k < i → above l l[k].n l[k].u = false
theorem free_next {l : List Pl} {i : Nat} (h : FreeTo l i) (hi : i < l.length) (h1 : above l l[i].n l[i].u = false) : FreeTo l (i + 1) := by
  intro k hk hlt
  by_cases e : k = i
  · subst e; exact h1
  · exact h k hk (by omega)
theorem free_all {l : List Pl} (h : FreeTo l l.length) : ringless l = true := by
  unfold ringless
  rw [List.all_eq_true]
  intro p hp
  obtain ⟨k, hk, rfl⟩ := List.getElem_of_mem hp
  rw [h k hk hk]; rfl
theorem free_bad {l : List Pl} {i : Nat} (hi : i < l.length) (h : above l l[i].n l[i].u = true) : ringless l = false := by
  rcases e : ringless l with _ | _
  · rfl
  · unfold ringless at e
    rw [List.all_eq_true] at e
    have := e _ (List.getElem_mem hi)
    rw [h] at this; exact this.symm

end Go.Proofs.Ytdkolkjgojamcaa

/- The library's contract of Builder.String, laid at this program's numbers. -/
namespace Go.Proofs.Ytdkolkjgojamcaa
open Go.Shelf
def lays169_ren : Go.Shelf.Ren := ⟨fun | 169 => 34 | n => n, fun | 70 => 55 | 9 => 9 | 0 => 0 | 72 => 58 | 37 => 56 | 127 => 75 | 3 => 3 | 5 => 5 | n => n, fun | n => n⟩
theorem lays169 : Go.Proofs.Lays.n169 Try.prog lays169_ren := {
  mixed := by kernel_rfl
  f169 := Try.func34.trans (congrArg some (by kernel_rfl))
  t0 := Try.underlying0
  a0 := Try.isAgg0
  z0 := Try.sizeOf0
  v0 := Try.zeroValue0
  t3 := Try.underlying3
  a3 := Try.isAgg3
  z3 := Try.sizeOf3
  v3 := Try.zeroValue3
  t9 := Try.underlying9
  a9 := Try.isAgg9
  z9 := Try.sizeOf9
  v9 := Try.zeroValue9
  t37 := Try.underlying56
  a37 := Try.isAgg56
  z37 := Try.sizeOf56
  v37 := Try.zeroValue56
  t70 := Try.underlying55
  a70 := Try.isAgg55
  z70 := Try.sizeOf55
  v70 := Try.zeroValue55
  t72 := Try.underlying58
  a72 := Try.isAgg58
  z72 := Try.sizeOf58
  v72 := Try.zeroValue58
  t127 := Try.underlying75
  a127 := Try.isAgg75
  z127 := Try.sizeOf75
  v127 := Try.zeroValue75 }
theorem builder_Extra_169 : Builder.Extra Try.prog lays169_ren := {
  sizeBuilder := by kernel_rfl
  liesBuilder := by kernel_rfl
  t5 := Try.underlying5
  a5 := Try.isAgg5
  z5 := Try.sizeOf5
  v5 := Try.zeroValue5
  infoByte := by kernel_rfl
  cellsByte := by kernel_rfl
  sizeByte := by kernel_rfl
  neB5 := by decide }
open Go.RowKit in
theorem builder_String_any (B b : Nat) (l : List UInt8) (w : World) (h : Lib.IsBuilder 58 5 B b (Lib.byteCells l) w) (hBw : B ≤ w.heap.size) :
    Calls Try.prog 34 #[.pointer (some ⟨b, 0, none⟩)] w fun e w' => e = .returned (.string ⟨l.toArray⟩) ∧ Below B w w' := Any.Builder_String_any lays169 builder_Extra_169 B b l w h hBw
end Go.Proofs.Ytdkolkjgojamcaa

/- The library's Builder: what WriteString does with one of the call's own. -/
namespace Go.Proofs.Ytdkolkjgojamcaa
open Go.RowKit

theorem bd_info : ∃ j, Try.prog.info? 58 = some j ∧ j.size = 2 := by
  have h : (Try.prog.info? 58).map (·.size) = some 2 := by kernel_rfl
  obtain ⟨j, hj, hjs⟩ := Option.map_eq_some_iff.1 h
  exact ⟨j, hj, hjs⟩
theorem bd_lies : liesAt Try.prog Try.prog.depth 58 (2 / Try.prog.cellsOf 58) 0 58 1 = true := by kernel_rfl
set_option maxRecDepth 100000 in
theorem ccheck_used (b : Nat) (w : World) (h0 : w.cell? ⟨b, 0, none⟩ = some (.pointer (some ⟨b, 0, none⟩))) :
    Calls Try.prog 42 #[.pointer (some ⟨b, 0, none⟩)] w fun e w' => e = .returned (.tuple #[]) ∧ w' = w := by
  obtain ⟨j, hj, _⟩ := bd_info
  go_enter Try.func42, Try.ntmps42
  go_wp2
  rw [Lib.run_neq_ptr_same w _ Try.underlying55 hj]
  go_wp2
  go_end0
  exact ⟨rfl, rfl⟩
set_option maxRecDepth 100000 in
theorem ccheck_new (b : Nat) (w : World) (h0 : w.cell? ⟨b, 0, none⟩ = some (.pointer none)) (hsh : w.shape? b = some (58, 2)) (hfz : w.frozen? ⟨b, 0, none⟩ = false) :
    Calls Try.prog 42 #[.pointer (some ⟨b, 0, none⟩)] w fun e w' => e = .returned (.tuple #[]) ∧ w' = w.setCell ⟨b, 0, none⟩ (.pointer (some ⟨b, 0, none⟩)) := by
  obtain ⟨j, hj, hjs⟩ := bd_info
  go_enter Try.func42, Try.ntmps42
  go_wp2
  rw [Lib.run_to_unsafe w ⟨b, 0, none⟩ Try.underlying55 Try.underlying84 hj (by rw [hjs]; decide) hsh (Nat.zero_lt_succ 1)]
  simp only [Result.andThen]
  rw [Oper.upon_value]
  go_wp2
  rw [run_callFunc_extern Try.func53 (by kernel_rfl) (by kernel_rfl) (by kernel_rfl) (e := Extern.AbiNoEscape.same) (by kernel_rfl)]
  rw [Lib.run_noEscape]
  simp only [Result.andThen]
  rw [Oper.upon_value]
  go_wp2
  rw [Lib.run_from_unsafe w ⟨b, 0, none⟩ Try.underlying84 Try.underlying55 hj hsh bd_lies]
  simp only [Result.andThen]
  rw [Oper.upon_value]
  go_wp2
  go_end0
  exact ⟨rfl, rfl⟩

/-- What is no row of bytes and isn't block b stays. -/
def Rest (b : Nat) (w w' : World) : Prop := ∀ k cs T fr, w.heap[k]? = some (.cells cs T fr) → k ≠ b → T ≠ 5 → w'.heap[k]? = w.heap[k]?
theorem Rest.then {b : Nat} {w w1 w2 : World} (h : Rest b w w1) (k : Rest b w1 w2) : Rest b w w2 := fun i cs T fr hi hne hT => by
  have h1 := h i cs T fr hi hne hT
  rw [k i cs T fr (h1.trans hi) hne hT, h1]
theorem Rest.cell (b : Nat) (w : World) (j : Nat) (v : Value) : Rest b w (w.setCell ⟨b, j, none⟩ v) := fun k _ _ _ _ hne _ => Below.heap_setCell _ _ _ _ hne

theorem ccheck_any (B b : Nat) (bs : List Value) (w : World) (h : Lib.IsBuilder 58 5 B b bs w) :
    Calls Try.prog 42 #[.pointer (some ⟨b, 0, none⟩)] w fun e w' => e = .returned (.tuple #[]) ∧ Lib.BuilderAt 58 5 B b (.pointer (some ⟨b, 0, none⟩)) bs w' ∧ Below B w w' ∧ Rest b w w' := by
  rcases h with h | h
  · refine (ccheck_new b w h.cell0 h.shape h.frozen0).mono ?_
    rintro e w' ⟨rfl, rfl⟩
    exact ⟨rfl, h.used _, (Below.refl B w).setCell (p := ⟨b, 0, none⟩) h.1 _, Rest.cell b w 0 _⟩
  · refine (ccheck_used b w h.cell0).mono ?_
    rintro e w' ⟨rfl, rfl⟩
    exact ⟨rfl, h, Below.refl B _, fun _ _ _ _ _ _ _ => rfl⟩

set_option maxHeartbeats 1000000 in
set_option maxRecDepth 100000 in
theorem wstr_any (B b : Nat) (bs : List Value) (s : ByteArray) (w : World) (h : Lib.IsBuilder 58 5 B b bs w) (hlen : bs.length + s.size ≤ 140737488355328) (hBw : B ≤ w.heap.size) :
    Calls Try.prog 31 #[.pointer (some ⟨b, 0, none⟩), .string s] w fun e w' => e = .returned (.tuple #[.int .i64 s.size, .nilIface]) ∧ Lib.IsBuilder 58 5 B b (bs ++ Lib.strCells s) w' ∧ Below B w w' ∧ Rest b w w' := by
  have X := builder_Extra_169
  obtain ⟨i0, hi, hz0, hz1, hz2⟩ := info_parts X.infoByte
  have C := ccheck_any B b bs w h
  go_enter Try.func31, Try.ntmps31
  go_wp2_with (go_at_call 42; (with_reducible refine C.mono ?_))
  rintro e w1 ⟨rfl, h1, hb1, hr1⟩
  obtain ⟨hB, v, hbk, hown, hne⟩ := h1
  have c0 : w1.cell? ⟨b, 0, none⟩ = some (.pointer (some ⟨b, 0, none⟩)) := by rw [Lib.cell_of_heap hbk]; rfl
  have c1 : w1.cell? ⟨b, 1, none⟩ = some v := by rw [Lib.cell_of_heap hbk]; rfl
  go_wp2_with (at_builtin; refine Lib.wpList_append_own_string _ rfl _ _ 56 9 rfl B 5 i0 Try.underlying56 Try.underlying9 hi hz0 hz1 hz2 _ _ _ rfl hown s rfl ?c3 ?c4 ?c5 ?_)
  case c3 => unfold maxLen; omega
  case c4 => omega
  case c5 => have := hb1.size; omega
  intro v' w2 hown' hgrow _
  have hlt : b < w1.heap.size := by
    rcases Nat.lt_or_ge b w1.heap.size with h' | h'
    · exact h'
    · simp [Array.getElem?_eq_none h'] at hbk
  have hb2 : w2.heap[b]? = some (.cells #[.pointer (some ⟨b, 0, none⟩), v] 58 (0, 0)) := by
    rw [hgrow.block b hlt (fun e => hne e.symm)]
    exact hbk
  have d0 : w2.cell? ⟨b, 0, none⟩ = some (.pointer (some ⟨b, 0, none⟩)) := by rw [Lib.cell_of_heap hb2]; rfl
  have d1 : w2.cell? ⟨b, 1, none⟩ = some v := by rw [Lib.cell_of_heap hb2]; rfl
  have f1 : w2.frozen? ⟨b, 1, none⟩ = false := Lib.frozen_of_heap hb2 1
  have hr2 : Rest b w1 w2 := fun k cs T fr hk hkb hT => by
    have hkl : k < w1.heap.size := by
      rcases Nat.lt_or_ge k w1.heap.size with h' | h'
      · exact h'
      · simp [Array.getElem?_eq_none h'] at hk
    exact hgrow.block k hkl (fun e => Lib.ownBlock_ne hown hk hT e.symm)
  obtain ⟨ao, n', cap, rfl⟩ : ∃ ao n' cap, v' = .slice ao n' cap := by
    rcases hown'.2 with ⟨hv, _⟩ | ⟨g, cap, cur, hv, _⟩
    · exact ⟨_, _, _, hv⟩
    · exact ⟨_, _, _, hv⟩
  go_wp2
  go_ret2
  refine ⟨rfl, Or.inr ?_, ?_, (hr1.then hr2).then (Rest.cell b w2 1 _)⟩
  · exact Lib.BuilderAt.put (T := 58) (e := 5) hB hb2 (bs' := bs ++ Lib.strCells s) (by simpa [Lib.strCells_length] using hown') X.neB5
  · exact (hb1.grown hgrow (by have := hb1.size; omega) (fun k hk => (hown.lt k hk).1)).setCell (p := ⟨b, 1, none⟩) hB _
end Go.Proofs.Ytdkolkjgojamcaa

/- What Print gives, of the program and of the document. -/
namespace Go.Proofs.Ytdkolkjgojamcaa
open Go.RowKit Tre Nam Cod

theorem strCells_app (a b : ByteArray) : Lib.strCells (a ++ b) = Lib.strCells a ++ Lib.strCells b := by
  unfold Lib.strCells; rw [← List.map_append]; congr 1
theorem back_L (x : ByteArray) : (⟨(L x).toArray⟩ : ByteArray) = x := by cases x; simp [L]
theorem headOf (l : List Pl) (n : Nat) (h : l.length ≤ 1000) : (bytesOf l.length).size ≤ 10 := bytesOf_le _ (by omega) (by omega)
theorem catL_take (l : List Pl) (k : Nat) (h : k < l.length) : catL (l.take (k + 1)) = catL (l.take k) ++ plBytes l[k] := by
  rw [List.take_succ_eq_append_getElem h, catL_snoc]
theorem take_le {l : List Pl} (hf : ∀ p ∈ l, Fit p) (k : Nat) : (catL (l.take k)).size ≤ 46 * l.length := by
  have h := catL_le (l.take k) (fun p hp => hf p (List.mem_of_mem_take hp))
  have : (l.take k).length ≤ l.length := by rw [List.length_take]; omega
  omega
theorem builder_new (w : World) : Lib.IsBuilder 58 5 w.heap.size w.heap.size [] (w.alloc (.cells #[.pointer none, .slice none 0 0] 58)) :=
  Or.inl ⟨Nat.le_refl _, _, heap_alloc_new w _, World.ownsRow_nil _ _ _ _, by simp [Value.ownBlock]⟩
theorem builder_below {B b : Nat} {bs : List Value} {w w' : World} (h : Lib.IsBuilder 58 5 B b bs w) (hb : Below w.heap.size w w') : Lib.IsBuilder 58 5 B b bs w' := by
  have key : ∀ p, Lib.BuilderAt 58 5 B b p bs w → Lib.BuilderAt 58 5 B b p bs w' := fun p h => by
    have hlt := h.lt
    obtain ⟨hB, v, hbk, hown, hne⟩ := h
    refine ⟨hB, v, (hb.block b hlt).trans hbk, hown.kept (row := none) ⟨hb.os, hb.tape, hb.output, hb.size, fun k hk _ => hb.block k hk⟩ ?_, hne⟩
    cases hv : v.ownBlock <;> simp
  rcases h with h | h
  · exact Or.inl (key _ h)
  · exact Or.inr (key _ h)
end Go.Proofs.Ytdkolkjgojamcaa

/- The program's entries: Right, Print. -/
namespace Go.Proofs.Ytdkolkjgojamcaa
open Go.RowKit Nam Cod

theorem op_mv (m : Mv) (w : World) (hs : m.s.size ≤ 9223372036854775807) :
    Calls Try.prog 41 #[.agg #[.int .i64 m.C, .int .i64 m.D, .int .i64 m.I, .int .i64 m.M, .int .i64 m.K, .int .i64 m.U, .string m.s]] w fun e w' => e = .returned (.bool (okB m)) ∧ Below w.heap.size w w' := opRight_any m.C m.D m.I m.M m.K m.U m.s w hs
theorem opP_mv (m : Mv) (w : World) (hw : Wide m.C m.D m.I m.M m.K m.U) (hs : m.s.size ≤ 1000000) :
    Calls Try.prog 33 #[.agg #[.int .i64 m.C, .int .i64 m.D, .int .i64 m.I, .int .i64 m.M, .int .i64 m.K, .int .i64 m.U, .string m.s]] w fun e w' => e = .returned (.string m.bytes) ∧ Below w.heap.size w w' := opPrint_any m.C m.D m.I m.M m.K m.U m.s w hw hs

end Go.Proofs.Ytdkolkjgojamcaa

/- Of the library, at operations and undos: Clone, Grow, Concat. -/
namespace Go.Proofs.Ytdkolkjgojamcaa
open Go.RowKit Tre Cod

def catE {α : Type} (F : Nat → List α) : Nat → List α
  | 0 => []
  | k + 1 => catE F k ++ F k
theorem catE_le {α : Type} (F : Nat → List α) (k : Nat) : ∀ n, k ≤ n → (catE F k).length ≤ (catE F n).length
  | 0, h => by obtain rfl : k = 0 := by omega
               exact Nat.le_refl _
  | n + 1, h => by
    by_cases e : k = n + 1
    · subst e; exact Nat.le_refl _
    · have := catE_le F k n (by omega)
      rw [catE, List.length_append]; omega

set_option maxRecDepth 100000 in
theorem cloneOp_any (A : Option Addr) (c : Nat) (l : List Mv) (w : World) (hl : l.length ≤ 50000) (hT : SlV opE w A c l) :
    Calls Try.prog 28 #[.slice A l.length c] w fun e w' => ∃ A' c', e = .returned (.slice A' l.length c') ∧ SlV opE w' A' c' l ∧ Frs w.heap.size A' ∧ Below w.heap.size w w' := by
  obtain ⟨hT, hz, hlc⟩ := hT
  have q : ∀ (w : World) (a : Option Addr) (n c n' c' : Nat), (binOp .eql 24 (.slice a n c) (.slice none n' c')).run Try.prog w = .ok (.bool a.isNone) w := fun w a n c n' c' => Lib.run_eql_slice_nil w _ _ a n c n' c' Try.underlying24
  cases A with
  | none =>
    obtain rfl := hT.none_nil
    obtain rfl := hz rfl
    go_enter Try.func28, Try.ntmps28
    go_wp2
    go_ret
    exact ⟨none, 0, rfl, SlV.nil _ _, frs_nil _, Below.refl _ _⟩
  | some a =>
    go_enter Try.func28, Try.ntmps28
    have hE := El.Own.empty (E := opE) w w.heap.size (Nat.le_refl _)
    have hb0 := below_alloc (Below.refl w.heap.size w) (.cells #[] 35)
    go_wp2_with (at_builtin; refine El.wpList_app opInn rfl _ _ rfl w.heap.size _ [] l rfl hE (some a) _ c rfl rfl (hT.below hb0) (fun e => by cases e) (by simp; omega) (by simp) ?_; intro v' w2 hown hg _)
    obtain ⟨A', c', rfl, hS⟩ := SlV.own hown
    go_wp2
    go_ret
    exact ⟨A', c', rfl, hS, hown.frs, below_own hb0 hg (hE.rows)⟩

theorem infoOp : (Try.prog.info? 35).map (fun i => (i.zero, i.size, i.bytes)) = some (some (.agg #[.int .i64 0, .int .i64 0, .int .i64 0, .int .i64 0, .int .i64 0, .int .i64 0, .string ⟨#[]⟩]), 7, 64) := by kernel_rfl
set_option maxRecDepth 100000 in
theorem growOp_any (B n : Nat) (w : World) (hn : n ≤ 1000) (hB : B ≤ w.heap.size) :
    Calls Try.prog 48 #[.slice none 0 0, .int .i64 n] w fun e w' => ∃ v, e = .returned v ∧ opE.Own w' B v [] ∧ Below w.heap.size w w' := by
  by_cases h0 : n = 0
  · subst h0
    go_enter Try.func48, Try.ntmps48
    go_wp2
    go_ret
    exact ⟨_, rfl, El.Own.nil _ B, Below.refl _ _⟩
  · obtain ⟨i, hi, hz, hz1, hz2⟩ := info_parts infoOp
    have hr := fun ty => Lib.run_append_nil_zeros (P := Try.prog) w 24 3 ty 35 i _ .i64 .i64 Try.underlying24 Try.underlying3 hi hz n (by omega) (by omega) (by omega) (by rw [hz2]; omega)
    have hg1 : n ≤ grownCap w n 0 35 := grownCap_ge w n 0 _
    have hg2 : grownCap w n 0 35 ≤ maxLen := grownCap_le_maxLen w n 0 35 (by unfold maxLen; omega)
    have hown : opE.Own (w.drew.alloc (.cells (Builtin.zeroCells (Value.agg #[.int .i64 0, .int .i64 0, .int .i64 0, .int .i64 0, .int .i64 0, .int .i64 0, .string ⟨#[]⟩]).cells n ++ Builtin.zeroCells (Value.agg #[.int .i64 0, .int .i64 0, .int .i64 0, .int .i64 0, .int .i64 0, .int .i64 0, .string ⟨#[]⟩]).cells (grownCap w n 0 35 - n)) 35)) B (.slice (some ⟨w.heap.size, 0, none⟩) 0 (grownCap w n 0 35)) [] := by
      refine World.ownsRow_made w.drew _ (grownCap w n 0 35) hB hg2 ?_
      rw [Array.size_append, size_zeroCells, size_zeroCells]
      show n * 7 + (grownCap w n 0 35 - n) * 7 = _ * 7
      omega
    have hnx : Below w.heap.size w (w.drew.alloc (.cells (Builtin.zeroCells (Value.agg #[.int .i64 0, .int .i64 0, .int .i64 0, .int .i64 0, .int .i64 0, .int .i64 0, .string ⟨#[]⟩]).cells n ++ Builtin.zeroCells (Value.agg #[.int .i64 0, .int .i64 0, .int .i64 0, .int .i64 0, .int .i64 0, .int .i64 0, .string ⟨#[]⟩]).cells (grownCap w n 0 35 - n)) 35)) := below_alloc (Below.refl _ w).drew _
    generalize grownCap w n 0 35 = cap at *
    generalize w.drew.alloc (.cells (Builtin.zeroCells (Value.agg #[.int .i64 0, .int .i64 0, .int .i64 0, .int .i64 0, .int .i64 0, .int .i64 0, .string ⟨#[]⟩]).cells n ++ Builtin.zeroCells (Value.agg #[.int .i64 0, .int .i64 0, .int .i64 0, .int .i64 0, .int .i64 0, .int .i64 0, .string ⟨#[]⟩]).cells (cap - n)) 35) = W at *
    go_enter Try.func48, Try.ntmps48
    go_wp2_with (at_builtin; refine Lib.wpList_append_run _ rfl _ _ 24 3 rfl _ _ rfl rfl _ _ (hr _) ?_)
    go_wp2
    go_ret
    exact ⟨_, rfl, hown, hnx⟩

set_option maxRecDepth 100000 in
theorem concatOp_any (sb : Nat) (F : Nat → List Mv) (A : Nat → Option Addr) (C : Nat → Nat) (w : World) (hcell : ∀ j, j < 3 → w.cell? ⟨sb, j, none⟩ = some (.slice (A j) (F j).length (C j)))
    (hT : ∀ j, j < 3 → opE.Sl w (A j) (F j)) (hc : ∀ j, j < 3 → A j = none → C j = 0) (hl : (catE F 3).length ≤ 1000) (hsb : sb < w.heap.size) :
    Calls Try.prog 40 #[.slice (some ⟨sb, 0, none⟩) 3 3] w fun e w' => ∃ A' cap', e = .returned (.slice A' (catE F 3).length cap') ∧ SlV opE w' A' cap' (catE F 3) ∧ Frs w.heap.size A' ∧ Below w.heap.size w w' := by
  have CG := fun n hn => growOp_any w.heap.size n w hn (Nat.le_refl _)
  have hle := fun k h => catE_le F k 3 h
  have HCL := Lib.hid hcell
  have HTT := Lib.hid hT
  have HCC := Lib.hid hc
  clear hcell hT hc
  go_enter Try.func40, Try.ntmps40
  go_wp2
  go_loop [3, 11] (fun x y => ∃ k : Nat, k ≤ 3 ∧ y = .int .i64 k ∧ x = .int .i64 (catE F k).length) (fun _ y => 3 - (intOf y).toNat)
  case atStart => exact ⟨0, Nat.zero_le _, rfl, rfl⟩
  case round =>
    obtain ⟨k, hk, rfl, rfl⟩ := hrel
    by_cases hlt : k < 3
    · have h1 := HCL.out k hlt
      have h2 := hle (k + 1) hlt
      have h3 : (catE F (k + 1)).length = (catE F k).length + (F k).length := by rw [catE, List.length_append]
      have H3 := Lib.hid h3
      have h4 : (catE F k).length + (F k).length ≤ 1000 := by omega
      generalize (catE F k).length = n at *
      generalize (F k).length = m at *
      clear h3
      go_wp2
      go_round
      case rel => exact ⟨k + 1, by omega, by go_num, by rw [H3.out]; go_num⟩
      case measure => simp [intOf]; omega
    · obtain rfl : k = 3 := by omega
      have CG := CG _ hl
      go_wp2_with fail
      refine CG.mono ?_
      rintro e w1 ⟨v, rfl, hown, hb1⟩
      clear CG
      go_wp2
      go_loopw [6, 27] (fun x y wr => ∃ (k : Nat) (v : Value), k ≤ 3 ∧ y = .int .i64 k ∧ x = v ∧ opE.Own wr w.heap.size v (catE F k) ∧ Below w.heap.size w wr) (fun _ y _ => 3 - (intOf y).toNat)
      case atStart => exact ⟨0, v, Nat.zero_le _, rfl, rfl, hown, hb1⟩
      case round =>
        clear hown hb1
        obtain ⟨k, v, hk, rfl, rfl, hown, hnx⟩ := hrel
        by_cases hlt : k < 3
        · have h1 := HCL.out k hlt
          rw [← (bcell hnx).1 _ _ hsb] at h1
          have h2 := hle (k + 1) hlt
          have h3 : (catE F (k + 1)).length = (catE F k).length + (F k).length := by rw [catE, List.length_append]
          have hTk := (HTT.out k hlt).below hnx
          have hck := HCC.out k hlt
          have hB := hnx.size
          go_wp2_with (at_builtin; refine El.wpList_app opInn rfl _ _ rfl w.heap.size _ (catE F k) (F k) rfl hown (A k) _ (C k) rfl rfl hTk hck (by omega) hB ?_; intro v' w2 hown2 hg2 _)
          go_roundw
          case rel => exact ⟨k + 1, v', by omega, by go_num, rfl, hown2, hnx.grown hg2 hB (fun j hj => (hown).rows j hj)⟩
          case measure => simp [intOf]; omega
        · obtain rfl : k = 3 := by omega
          obtain ⟨A', cap', rfl, hS⟩ := SlV.own hown
          go_wp2
          go_ret
          exact ⟨A', cap', rfl, hS, hown.frs, hnx⟩
end Go.Proofs.Ytdkolkjgojamcaa

/- The program's queues: Grow, Concat of operations; New, Right. -/
namespace Go.Proofs.Ytdkolkjgojamcaa
open Go.RowKit Nam Cod

set_option maxRecDepth 100000 in
theorem infoQ2 : (Try.prog.info? 35).map (fun i => (i.zero, i.size, i.bytes)) = some (some (.agg #[.int .i64 0, .int .i64 0, .int .i64 0, .int .i64 0, .int .i64 0, .int .i64 0, .string ⟨#[]⟩]), 7, 64) := by kernel_rfl
set_option maxRecDepth 100000 in
theorem growQ2_any (B n : Nat) (w : World) (hn : n ≤ 60000) (hB : B ≤ w.heap.size) :
    Calls Try.prog 48 #[.slice none 0 0, .int .i64 n] w fun e w' => ∃ v, e = .returned v ∧ opE.Own w' B v [] ∧ Below w.heap.size w w' := by
  by_cases h0 : n = 0
  · subst h0
    go_enter Try.func48, Try.ntmps48
    go_wp2
    go_ret
    exact ⟨_, rfl, El.Own.nil _ B, Below.refl _ _⟩
  · obtain ⟨i, hi, hz, hz1, hz2⟩ := info_parts infoQ2
    have hr := fun ty => Lib.run_append_nil_zeros (P := Try.prog) w 24 3 ty 35 i _ .i64 .i64 Try.underlying24 Try.underlying3 hi hz n (by omega) (by omega) (by omega) (by rw [hz2]; omega)
    have hg1 : n ≤ grownCap w n 0 35 := grownCap_ge w n 0 _
    have hg2 : grownCap w n 0 35 ≤ maxLen := grownCap_le_maxLen w n 0 35 (by unfold maxLen; omega)
    have hown : opE.Own (w.drew.alloc (.cells (Builtin.zeroCells (Value.agg #[.int .i64 0, .int .i64 0, .int .i64 0, .int .i64 0, .int .i64 0, .int .i64 0, .string ⟨#[]⟩]).cells n ++ Builtin.zeroCells (Value.agg #[.int .i64 0, .int .i64 0, .int .i64 0, .int .i64 0, .int .i64 0, .int .i64 0, .string ⟨#[]⟩]).cells (grownCap w n 0 35 - n)) 35)) B (.slice (some ⟨w.heap.size, 0, none⟩) 0 (grownCap w n 0 35)) [] := by
      refine World.ownsRow_made w.drew _ (grownCap w n 0 35) hB hg2 ?_
      rw [Array.size_append, size_zeroCells, size_zeroCells]
      show n * 7 + (grownCap w n 0 35 - n) * 7 = _ * 7
      omega
    have hnx : Below w.heap.size w (w.drew.alloc (.cells (Builtin.zeroCells (Value.agg #[.int .i64 0, .int .i64 0, .int .i64 0, .int .i64 0, .int .i64 0, .int .i64 0, .string ⟨#[]⟩]).cells n ++ Builtin.zeroCells (Value.agg #[.int .i64 0, .int .i64 0, .int .i64 0, .int .i64 0, .int .i64 0, .int .i64 0, .string ⟨#[]⟩]).cells (grownCap w n 0 35 - n)) 35)) := below_alloc (Below.refl _ w).drew _
    generalize grownCap w n 0 35 = cap at *
    generalize w.drew.alloc (.cells (Builtin.zeroCells (Value.agg #[.int .i64 0, .int .i64 0, .int .i64 0, .int .i64 0, .int .i64 0, .int .i64 0, .string ⟨#[]⟩]).cells n ++ Builtin.zeroCells (Value.agg #[.int .i64 0, .int .i64 0, .int .i64 0, .int .i64 0, .int .i64 0, .int .i64 0, .string ⟨#[]⟩]).cells (cap - n)) 35) = W at *
    go_enter Try.func48, Try.ntmps48
    go_wp2_with (at_builtin; refine Lib.wpList_append_run _ rfl _ _ 24 3 rfl _ _ rfl rfl _ _ (hr _) ?_)
    go_wp2
    go_ret
    exact ⟨_, rfl, hown, hnx⟩

set_option maxRecDepth 100000 in
theorem concatQ2_any (sb : Nat) (F : Nat → List Mv) (A : Nat → Option Addr) (C : Nat → Nat) (w : World) (hcell : ∀ j, j < 2 → w.cell? ⟨sb, j, none⟩ = some (.slice (A j) (F j).length (C j)))
    (hT : ∀ j, j < 2 → opE.Sl w (A j) (F j)) (hc : ∀ j, j < 2 → A j = none → C j = 0) (hl : (catE F 2).length ≤ 60000) (hsb : sb < w.heap.size) :
    Calls Try.prog 40 #[.slice (some ⟨sb, 0, none⟩) 2 2] w fun e w' => ∃ A' cap', e = .returned (.slice A' (catE F 2).length cap') ∧ SlV opE w' A' cap' (catE F 2) ∧ Frs w.heap.size A' ∧ Below w.heap.size w w' := by
  have CG := fun n hn => growQ2_any w.heap.size n w hn (Nat.le_refl _)
  have hle := fun k h => catE_le F k 2 h
  have HCL := Lib.hid hcell
  have HTT := Lib.hid hT
  have HCC := Lib.hid hc
  clear hcell hT hc
  go_enter Try.func40, Try.ntmps40
  go_wp2
  go_loop [3, 11] (fun x y => ∃ k : Nat, k ≤ 2 ∧ y = .int .i64 k ∧ x = .int .i64 (catE F k).length) (fun _ y => 2 - (intOf y).toNat)
  case atStart => exact ⟨0, Nat.zero_le _, rfl, rfl⟩
  case round =>
    obtain ⟨k, hk, rfl, rfl⟩ := hrel
    by_cases hlt : k < 2
    · have h1 := HCL.out k hlt
      have h2 := hle (k + 1) hlt
      have h3 : (catE F (k + 1)).length = (catE F k).length + (F k).length := by rw [catE, List.length_append]
      have H3 := Lib.hid h3
      have h4 : (catE F k).length + (F k).length ≤ 60000 := by omega
      generalize (catE F k).length = n at *
      generalize (F k).length = m at *
      clear h3
      go_wp2
      go_round
      case rel => exact ⟨k + 1, by omega, by go_num, by rw [H3.out]; go_num⟩
      case measure => simp [intOf]; omega
    · obtain rfl : k = 2 := by omega
      have CG := CG _ hl
      go_wp2_with fail
      refine CG.mono ?_
      rintro e w1 ⟨v, rfl, hown, hb1⟩
      clear CG
      go_wp2
      go_loopw [6, 27] (fun x y wr => ∃ (k : Nat) (v : Value), k ≤ 2 ∧ y = .int .i64 k ∧ x = v ∧ opE.Own wr w.heap.size v (catE F k) ∧ Below w.heap.size w wr) (fun _ y _ => 2 - (intOf y).toNat)
      case atStart => exact ⟨0, v, Nat.zero_le _, rfl, rfl, hown, hb1⟩
      case round =>
        clear hown hb1
        obtain ⟨k, v, hk, rfl, rfl, hown, hnx⟩ := hrel
        by_cases hlt : k < 2
        · have h1 := HCL.out k hlt
          rw [← (bcell hnx).1 _ _ hsb] at h1
          have h2 := hle (k + 1) hlt
          have h3 : (catE F (k + 1)).length = (catE F k).length + (F k).length := by rw [catE, List.length_append]
          have hTk := (HTT.out k hlt).below hnx
          have hck := HCC.out k hlt
          have hB := hnx.size
          go_wp2_with (at_builtin; refine El.wpList_app opInn rfl _ _ rfl w.heap.size _ (catE F k) (F k) rfl hown (A k) _ (C k) rfl rfl hTk hck (by omega) hB ?_; intro v' w2 hown2 hg2 _)
          go_roundw
          case rel => exact ⟨k + 1, v', by omega, by go_num, rfl, hown2, hnx.grown hg2 hB (fun j hj => (hown).rows j hj)⟩
          case measure => simp [intOf]; omega
        · obtain rfl : k = 2 := by omega
          obtain ⟨A', cap', rfl, hS⟩ := SlV.own hown
          go_wp2
          go_ret
          exact ⟨A', cap', rfl, hS, hown.frs, hnx⟩

def pickQ {α : Type} (a b : α) : Nat → α
  | 0 => a
  | _ => b

set_option maxRecDepth 100000 in
theorem quNew_any (w : World) : Calls Try.prog 8 #[] w fun r w' => ∃ z : Qw, r = .returned (.agg #[.int .i64 z.x.f, .int .i64 z.x.g, .slice z.A z.x.os.length z.c]) ∧ z.x = newQu ∧ z.ok w' ∧ Below w.heap.size w w' := by
  have hB := below_alloc (Below.refl w.heap.size w) (.cells #[.int .i64 1, .int .i64 0, .slice none 0 0] 26)
  have hP : quE.In (w.alloc (.cells #[.int .i64 1, .int .i64 0, .slice none 0 0] 26)) w.heap.size newQw := El.In.new (E := quE) w newQw _ rfl
  go_enter Try.func8, Try.ntmps8
  go_wp2_with fail
  refine El.ret1 quRow hP rfl rfl rfl #[.int .i64 1, .int .i64 0, .slice none 0 0] rfl ?_
  exact ⟨newQw, rfl, rfl, SlV.nil opE _, hB⟩

set_option maxRecDepth 100000 in
set_option maxHeartbeats 2000000 in
theorem quRightOps_yes (A : Option Addr) (cap : Nat) (l : List Mv) (w : World) (hT : opE.Sl w A l) (hl : l.length ≤ 100000) (hr : okL l) (hw : ∀ o ∈ l, o.s.size ≤ 1000000) :
    Calls Try.prog 30 #[.slice A l.length cap] w fun r w' => r = .returned (.bool true) ∧ Below w.heap.size w w' := by
  have HR := Lib.hid (show ∀ o ∈ l, okB o = true from hr)
  have HW := Lib.hid hw
  have hB := Below.refl w.heap.size w
  clear hr hw
  go_enter Try.func30, Try.ntmps30
  go_wp2_with fail
  go_loopw [7] (fun y wr => ∃ k : Nat, k ≤ l.length ∧ y = .int .i64 k ∧ Below w.heap.size w wr) (fun y _ => l.length - (intOf y).toNat)
  case atStart => exact ⟨0, Nat.zero_le _, rfl, hB⟩
  case round =>
    clear hB
    obtain ⟨k, hk, rfl, hB⟩ := hrel
    by_cases hkl : k < l.length
    · obtain ⟨b, off, eA, hbw, hc⟩ := hT (by omega)
      have hx := opIdxH (cap := cap) eA hkl
      have hat : opE.At wr b (off + k * 7) l[k] := (hc k hkl).below hB hbw
      have hxr := HR.out l[k] (List.getElem_mem _)
      have hxw := HW.out l[k] (List.getElem_mem _)
      generalize l[k] = x at *
      have C := Lib.hid (fun wx => (by
        have h := op_mv x wx (by omega)
        rw [hxr] at h
        exact h : Calls Try.prog 41 #[.agg #[.int .i64 x.C, .int .i64 x.D, .int .i64 x.I, .int .i64 x.M, .int .i64 x.K, .int .i64 x.U, .string x.s]] wx fun r w' => r = .returned (.bool true) ∧ Below wx.heap.size wx w'))
      clear hxr hxw
      have hal := below_alloc (Below.refl wr.heap.size wr) (.cells #[.int .i64 x.C, .int .i64 x.D, .int .i64 x.I, .int .i64 x.M, .int .i64 x.K, .int .i64 x.U, .string x.s] 35)
      have hE : opE.In (wr.alloc (.cells #[.int .i64 x.C, .int .i64 x.D, .int .i64 x.I, .int .i64 x.M, .int .i64 x.K, .int .i64 x.U, .string x.s] 35)) wr.heap.size x := El.In.new (E := opE) wr x _ rfl
      replace hB := hB.trans (hal.mono hB.size)
      clear hc eA hal
      go_wp2_with (first | (refine El.load opRow rfl _ rfl b (off + k * 7) rfl x hat #[.int .i64 x.C, .int .i64 x.D, .int .i64 x.I, .int .i64 x.M, .int .i64 x.K, .int .i64 x.U, .string x.s] rfl ?_) | (refine El.load opRow rfl _ rfl wr.heap.size 0 rfl x hE.at #[.int .i64 x.C, .int .i64 x.D, .int .i64 x.I, .int .i64 x.M, .int .i64 x.K, .int .i64 x.U, .string x.s] rfl ?_) | fail)
      refine (C.out _).mono ?_
      rintro r w2 ⟨rfl, hb2⟩
      replace hB := below_then hB hb2
      clear hb2 C hE hat
      go_wp2_with fail
      exact ⟨⟨k + 1, by omega, by go_num, hB⟩, by simp [intOf]; omega⟩
    · obtain rfl : k = l.length := by omega
      go_wp2_with fail
      go_ret
      exact ⟨rfl, hB⟩

set_option maxRecDepth 100000 in
theorem quRightNumbers_yes (y : Qw) (w : World) (hR : QuR y.x) : Calls Try.prog 29 #[.agg #[.int .i64 y.x.f, .int .i64 y.x.g, .slice y.A y.x.os.length y.c]] w fun r w' => r = .returned (.bool true) ∧ Below w.heap.size w w' := by
  have hP : quE.In (w.alloc (.cells #[.int .i64 y.x.f, .int .i64 y.x.g, .slice y.A y.x.os.length y.c] 26)) w.heap.size y := El.In.new (E := quE) w y _ rfl
  have hB := below_alloc (Below.refl w.heap.size w) (.cells #[.int .i64 y.x.f, .int .i64 y.x.g, .slice y.A y.x.os.length y.c] 26)
  obtain ⟨p0, p1, p2⟩ := quIn3 hP
  have f1 : decide (1 ≤ y.x.f) = true := decide_eq_true hR.f1
  have f2 : decide (y.x.f ≤ 1099511627776) = true := decide_eq_true hR.fm
  have f3 : decide (0 ≤ y.x.g) = true := decide_eq_true hR.g0
  have f4 : decide (y.x.g ≤ 1099511627776) = true := decide_eq_true hR.gm
  go_enter Try.func29, Try.ntmps29
  go_wp2_with fail
  go_ret
  exact ⟨rfl, hB⟩

set_option maxRecDepth 100000 in
set_option maxHeartbeats 2000000 in
theorem quRight_yes (y : Qw) (w : World) (hn : QuN y.x) (hR : QuR y.x) (hy : y.ok w) : Calls Try.prog 19 #[.agg #[.int .i64 y.x.f, .int .i64 y.x.g, .slice y.A y.x.os.length y.c]] w fun r w' => r = .returned (.bool true) ∧ Below w.heap.size w w' := by
  have hP : quE.In (w.alloc (.cells #[.int .i64 y.x.f, .int .i64 y.x.g, .slice y.A y.x.os.length y.c] 26)) w.heap.size y := El.In.new (E := quE) w y _ rfl
  have hB := below_alloc (Below.refl w.heap.size w) (.cells #[.int .i64 y.x.f, .int .i64 y.x.g, .slice y.A y.x.os.length y.c] 26)
  replace hy := hy.below hB
  have C1 := Lib.hid (fun (wx : World) => quRightNumbers_yes y wx hR)
  have C2 := Lib.hid (fun (wx : World) (hT : y.ok wx) => quRightOps_yes y.A y.c y.x.os wx hT.1 (by have := hn.l; omega) hR.ok (fun o ho => by have := (opB_wide (hR.ok o ho)).2.2.1; omega))
  clear hn hR
  go_enter Try.func19, Try.ntmps19
  go_wp2_with (first | (refine El.load quRow rfl _ rfl w.heap.size 0 rfl y hP.at #[.int .i64 y.x.f, .int .i64 y.x.g, .slice y.A y.x.os.length y.c] rfl ?_) | fail)
  refine (C1.out _).mono ?_
  rintro r w1 ⟨rfl, hb1⟩
  replace hP := hP.below hb1
  replace hy := hy.below hb1
  replace hB := below_then hB hb1
  clear hb1 C1
  obtain ⟨p0, p1, p2⟩ := quIn3 hP
  go_wp2_with fail
  refine (C2.out _ hy).mono ?_
  rintro r w2 ⟨rfl, hb2⟩
  go_wp2_with fail
  go_ret
  exact ⟨rfl, below_then hB hb2⟩
end Go.Proofs.Ytdkolkjgojamcaa
