/- RosterPuts is proved: a member put in its device's place is found there, all others stay, and one of a device that is not there changes nothing. No condition. -/
import Derived.Test.YtjjjpifdmgpnjaaB05
namespace Go.Proofs.Ytjjjpifdmgpnjaa
open Go.ChangeShapes Go.WideShapes Go.ChangeAt Go.RowKit Go.Deep Cod

theorem cutM_put (l : List Mb) (m : Mb) : cutM (putM l m) m.d = cutM l m.d := by
  have hc := cutM_le l m.d
  have hlen := putM_len l m
  refine cutM_is (by rw [hlen]; exact hc) (fun j h hj => ?_) (fun h => ?_)
  · have h0 : j < l.length := by omega
    have e : (putM l m)[j] = l[j] := List.getElem_set_ne (show cutM l m.d ≠ j by omega) h
    rw [e]
    exact cutM_lt l m.d j h0 hj
  · have e : (putM l m)[cutM l m.d] = m := List.getElem_set_self h
    rw [e]
theorem findM_put (l : List Mb) (m : Mb) : findM (putM l m) m.d = findM l m.d := by
  unfold findM
  rw [cutM_put, putM_len]
theorem findM_dev {l : List Mb} {d : Int} {k : Nat} (h : findM l d = k) (hk : k < l.length) : l[k].d = d := by
  unfold findM at h
  split at h
  · rename_i hc
    have e : cutM l d = k := by omega
    subst e
    exact cutM_at l d hc
  · omega
theorem mbEq_self (m : Mb) : mbEq m m = true := mbEq_iff.2 rfl
set_option maxRecDepth 100000 in
set_option maxHeartbeats 8000000 in
theorem puts16_none (H : RosterCalls) (A : Option Addr) (c : Nat) (l : List Mb) (m : Mb) (w : World) (hT : SlV mbE w A c l) (hq : ∀ m ∈ l, MbQ m) (hl : l.length ≤ reachBytes) (hm : MbQ m) (hf : findM l m.d = -1) :
    Calls Try.prog 7 #[.slice A l.length c, .agg #[.int .i64 m.d, .int .i64 m.i, .bool m.w, .int .i64 m.n, .int .i64 m.l, .int .i64 m.o, .int .i64 m.r.d, .int .i64 m.r.i, .int .i64 m.r.b, .int .i64 m.r.t, .int .i64 m.r.m, .int .i64 m.r.p, .int .i64 m.r.c, .int .i64 m.r.s, .int .i64 m.r.k, .string m.f]] w fun e w' => e = .returned (.bool true) ∧ Below w.heap.size w w' := by
  have hP : mbE.In (w.alloc (.cells #[.int .i64 m.d, .int .i64 m.i, .bool m.w, .int .i64 m.n, .int .i64 m.l, .int .i64 m.o, .int .i64 m.r.d, .int .i64 m.r.i, .int .i64 m.r.b, .int .i64 m.r.t, .int .i64 m.r.m, .int .i64 m.r.p, .int .i64 m.r.c, .int .i64 m.r.s, .int .i64 m.r.k, .string m.f] 39)) w.heap.size m := El.In.new (E := mbE) w m _ rfl
  have hB := below_alloc (Below.refl w.heap.size w) (.cells #[.int .i64 m.d, .int .i64 m.i, .bool m.w, .int .i64 m.n, .int .i64 m.l, .int .i64 m.o, .int .i64 m.r.d, .int .i64 m.r.i, .int .i64 m.r.b, .int .i64 m.r.t, .int .i64 m.r.m, .int .i64 m.r.p, .int .i64 m.r.c, .int .i64 m.r.s, .int .i64 m.r.k, .string m.f] 39)
  have HWH := Lib.hid (fun (wx : World) (hb : Below w.heap.size w wx) => whole16_any A c l wx (by unfold reachBytes at hl; omega) (hT.1.below hb) (fun m hm => by have := (hq m hm).f; unfold maxLen at this; omega))
  have HA := Lib.hid (fun wx => awake16_any H wx)
  have HT := Lib.hid hT
  have hmf := hm.f
  unfold maxLen at hmf
  clear hT hq hl hm
  go_enter Try.func7, Try.ntmps7
  go_upto_region 1 with fail
  generalize w.alloc (.cells #[.int .i64 m.d, .int .i64 m.i, .bool m.w, .int .i64 m.n, .int .i64 m.l, .int .i64 m.o, .int .i64 m.r.d, .int .i64 m.r.i, .int .i64 m.r.b, .int .i64 m.r.t, .int .i64 m.r.m, .int .i64 m.r.p, .int .i64 m.r.c, .int .i64 m.r.s, .int .i64 m.r.k, .string m.f] 39) = W at *
  obtain ⟨n1, h1⟩ : ∃ n, w.heap.size = n := ⟨_, rfl⟩
  rw [h1] at hP ⊢
  clear h1
  go_wp2_with fail
  refine (HWH.out _ hB).mono ?_
  rintro e w2 ⟨bv, rfl, hbv, hb2⟩
  replace hB := below_then hB hb2
  replace hP := hP.below hb2
  clear hb2 HWH
  cases bv with
  | false =>
    go_wp2_with fail
    refine (HA.out _).mono ?_
    rintro e w3 ⟨rfl, hb3⟩
    go_wp2_with fail
    go_ret
    exact ⟨rfl, below_then hB hb3⟩
  | true =>
    obtain ⟨h4, hs⟩ := hbv.out rfl
    clear hs hbv
    by_cases hfz : 1000 < m.f.size
    · have f1 : decide ((1000 : Int) < (m.f.size : Int)) = true := decide_eq_true (by omega)
      have f2 : decide (1000 < m.f.size) = true := decide_eq_true hfz
      have p15 := (mbIn16 hP).2.2.2.2.2.2.2.2.2.2.2.2.2.2.2
      clear hfz
      go_wp2_with fail
      refine (HA.out _).mono ?_
      rintro e w3 ⟨rfl, hb3⟩
      go_wp2_with fail
      go_ret
      exact ⟨rfl, below_then hB hb3⟩
    · have f1 : decide ((1000 : Int) < (m.f.size : Int)) = false := decide_eq_false (by omega)
      have f2 : decide (1000 < m.f.size) = false := decide_eq_false hfz
      clear hfz
      have H4 := Lib.hid h4
      have D3 := Lib.hid (fun wx (hb : Below w.heap.size w wx) => H.find A c l m.d wx (by have := H4.out; omega) (SlV.below HT.out hb))
      have D4 := Lib.hid (fun wx (hb : Below w.heap.size w wx) => H.put A c l m wx (by have := H4.out; omega) (SlV.below HT.out hb))
      have D5 := Lib.hid (fun (A' : Option Addr) (c' : Nat) wx (hT' : SlV mbE wx A' c' (putM l m)) => (by
        have h := H.find A' c' (putM l m) m.d wx (by rw [putM_len]; have := H4.out; omega) hT'
        rw [findM_put, putM_len] at h
        exact h : Calls Try.prog 12 #[.slice A' l.length c', .int .i64 m.d] wx fun e w' => e = .returned (.int .i64 (findM l m.d)) ∧ Below wx.heap.size wx w'))
      obtain ⟨p0, _, _, _, _, _, _, _, _, _, _, _, _, _, _, p15⟩ := mbIn16 hP
      have HPM := Lib.hid (putM_none hf)
      rw [hf] at D3 D5
      clear hf
      go_wp2_with fail
      refine (D3.out _ hB).mono ?_
      rintro e w4 ⟨rfl, hb4⟩
      replace hB := below_then hB hb4
      replace hP := hP.below hb4
      clear hb4 D3 p0 p15
      go_wp2_with (first | (refine El.load mbRow rfl _ rfl n1 0 rfl m hP.at #[.int .i64 m.d, .int .i64 m.i, .bool m.w, .int .i64 m.n, .int .i64 m.l, .int .i64 m.o, .int .i64 m.r.d, .int .i64 m.r.i, .int .i64 m.r.b, .int .i64 m.r.t, .int .i64 m.r.m, .int .i64 m.r.p, .int .i64 m.r.c, .int .i64 m.r.s, .int .i64 m.r.k, .string m.f] rfl ?_) | fail)
      refine (D4.out _ hB).mono ?_
      rintro e w5 ⟨A5, c5, rfl, hS5, hb5⟩
      replace hB := below_then hB hb5
      replace hP := hP.below hb5
      clear hb5 D4
      rw [HPM.out] at D5 hS5
      go_wp2_with fail
      go_loopw [7] (fun y wr => ∃ k : Nat, k ≤ l.length ∧ y = .int .i64 k ∧ SlV mbE wr A5 c5 l ∧ mbE.In wr n1 m ∧ Below w.heap.size w wr) (fun y _ => l.length - (intOf y).toNat)
      case atStart => exact ⟨0, Nat.zero_le _, rfl, hS5, hP, hB⟩
      case round =>
        clear hS5 hP hB
        obtain ⟨k, hk, rfl, hS5, hP, hB⟩ := hrel
        by_cases hkl : k < l.length
        · obtain ⟨b, off, eA, hbw, hc⟩ := HT.out.1 (by omega)
          obtain ⟨b2, off2, eA2, hbw2, hc2⟩ := hS5.1 (by omega)
          have hx := mbIdx (cap := c) eA hkl
          have hx2 := mbIdx (cap := c5) eA2 hkl
          have hat : mbE.At wr b (off + k * 16) l[k] := (hc k hkl).below hB hbw
          have hat2 : mbE.At wr b2 (off2 + k * 16) l[k] := hc2 k hkl
          generalize l[k] = x at *
          obtain ⟨s0, s1, s2, s3, s4, s5, s6, s7, s8, s9, s10, s11, s12, s13, s14, s15⟩ := mbAt16 hat
          obtain ⟨t0, t1, t2, t3, t4, t5, t6, t7, t8, t9, t10, t11, t12, t13, t14, t15⟩ := mbAt16 hat2
          have e1 : ((k : Int) == -1) = false := beq_eq_false_iff_ne.2 (by omega)
          have e2 : ((k : Int) != -1) = true := by simp [e1]
          have e3 : decide ((k : Int) = -1) = false := decide_eq_false (by omega)
          have e4 : decide (¬ (k : Int) = -1) = true := decide_eq_true (by omega)
          have hrun := fun w => run_eqMb x x w
          rw [mbEq_self] at hrun
          clear hc hc2 hat hat2 eA eA2
          go_wp2
          go_quiet (fail)
          clear s0 s1 s2 s3 s4 s5 s6 s7 s8 s9 s10 s11 s12 s13 s14 s15 t0 t1 t2 t3 t4 t5 t6 t7 t8 t9 t10 t11 t12 t13 t14 t15
          have hdr : Below wr.heap.size wr (wr.drewN nq) := below_drew (Below.refl _ _) nq
          replace hS5 := SlV.below hS5 hdr
          replace hP := hP.below hdr
          replace hB := below_then hB hdr
          go_wp2_with fail
          exact ⟨⟨k + 1, by omega, by go_num, hS5, hP, hB⟩, by simp [intOf]; omega⟩
        · obtain rfl : k = l.length := by omega
          as_aux_lemma =>
            have kp := cell_regrown (mbIn16 hP).1
            go_wp2
            have d1 : ∀ d os, Calls Try.prog 9 #[] (Sort.grow (redrawn wr d) os) fun e w'' => e = .returned (.bool true) ∧ ∃ p : Regrown, w'' = Sort.grow (redrawn wr p.d) p.os := fun d os => Calls.regrown_of (HA.out _)
            have d2 : ∀ d os, Calls Try.prog 12 #[.slice A5 l.length c5, .int .i64 m.d] (Sort.grow (redrawn wr d) os) fun e w'' => e = .returned (.int .i64 (-1)) ∧ ∃ p : Regrown, w'' = Sort.grow (redrawn wr p.d) p.os := fun d os => Calls.regrown_of (D5.out A5 c5 _ (SlV.below hS5 (below_regrown wr d os)))
            refine wp_region_quiet_below (by kernel_rfl) (by kernel_rfl) ?_
            repeat (go_big_quiet_step ((with_reducible (first | exact d1 _ _ | exact d2 _ _))))
            refine wpQuiet_nil ?_
            intro _ hw'
            obtain ⟨⟨dq, osq⟩, hw''⟩ := hw'
            subst hw''
            go_wp2
            go_ret
            exact ⟨rfl, below_then hB (below_regrown wr dq osq)⟩

set_option maxRecDepth 100000 in
set_option maxHeartbeats 8000000 in
theorem puts16_some (H : RosterCalls) (A : Option Addr) (c : Nat) (l : List Mb) (m : Mb) (w : World) (hT : SlV mbE w A c l) (hq : ∀ m ∈ l, MbQ m) (hl : l.length ≤ reachBytes) (hm : MbQ m) (k0 : Nat) (hf : findM l m.d = k0) (hk0 : k0 < l.length) :
    Calls Try.prog 7 #[.slice A l.length c, .agg #[.int .i64 m.d, .int .i64 m.i, .bool m.w, .int .i64 m.n, .int .i64 m.l, .int .i64 m.o, .int .i64 m.r.d, .int .i64 m.r.i, .int .i64 m.r.b, .int .i64 m.r.t, .int .i64 m.r.m, .int .i64 m.r.p, .int .i64 m.r.c, .int .i64 m.r.s, .int .i64 m.r.k, .string m.f]] w fun e w' => e = .returned (.bool true) ∧ Below w.heap.size w w' := by
  have hP : mbE.In (w.alloc (.cells #[.int .i64 m.d, .int .i64 m.i, .bool m.w, .int .i64 m.n, .int .i64 m.l, .int .i64 m.o, .int .i64 m.r.d, .int .i64 m.r.i, .int .i64 m.r.b, .int .i64 m.r.t, .int .i64 m.r.m, .int .i64 m.r.p, .int .i64 m.r.c, .int .i64 m.r.s, .int .i64 m.r.k, .string m.f] 39)) w.heap.size m := El.In.new (E := mbE) w m _ rfl
  have hB := below_alloc (Below.refl w.heap.size w) (.cells #[.int .i64 m.d, .int .i64 m.i, .bool m.w, .int .i64 m.n, .int .i64 m.l, .int .i64 m.o, .int .i64 m.r.d, .int .i64 m.r.i, .int .i64 m.r.b, .int .i64 m.r.t, .int .i64 m.r.m, .int .i64 m.r.p, .int .i64 m.r.c, .int .i64 m.r.s, .int .i64 m.r.k, .string m.f] 39)
  have HWH := Lib.hid (fun (wx : World) (hb : Below w.heap.size w wx) => whole16_any A c l wx (by unfold reachBytes at hl; omega) (hT.1.below hb) (fun m hm => by have := (hq m hm).f; unfold maxLen at this; omega))
  have HA := Lib.hid (fun wx => awake16_any H wx)
  have HT := Lib.hid hT
  have hmf := hm.f
  unfold maxLen at hmf
  clear hT hq hl hm
  go_enter Try.func7, Try.ntmps7
  go_upto_region 1 with fail
  generalize w.alloc (.cells #[.int .i64 m.d, .int .i64 m.i, .bool m.w, .int .i64 m.n, .int .i64 m.l, .int .i64 m.o, .int .i64 m.r.d, .int .i64 m.r.i, .int .i64 m.r.b, .int .i64 m.r.t, .int .i64 m.r.m, .int .i64 m.r.p, .int .i64 m.r.c, .int .i64 m.r.s, .int .i64 m.r.k, .string m.f] 39) = W at *
  obtain ⟨n1, h1⟩ : ∃ n, w.heap.size = n := ⟨_, rfl⟩
  rw [h1] at hP ⊢
  clear h1
  go_wp2_with fail
  refine (HWH.out _ hB).mono ?_
  rintro e w2 ⟨bv, rfl, hbv, hb2⟩
  replace hB := below_then hB hb2
  replace hP := hP.below hb2
  clear hb2 HWH
  cases bv with
  | false =>
    go_wp2_with fail
    refine (HA.out _).mono ?_
    rintro e w3 ⟨rfl, hb3⟩
    go_wp2_with fail
    go_ret
    exact ⟨rfl, below_then hB hb3⟩
  | true =>
    obtain ⟨h4, hs⟩ := hbv.out rfl
    clear hs hbv
    by_cases hfz : 1000 < m.f.size
    · have f1 : decide ((1000 : Int) < (m.f.size : Int)) = true := decide_eq_true (by omega)
      have f2 : decide (1000 < m.f.size) = true := decide_eq_true hfz
      have p15 := (mbIn16 hP).2.2.2.2.2.2.2.2.2.2.2.2.2.2.2
      clear hfz
      go_wp2_with fail
      refine (HA.out _).mono ?_
      rintro e w3 ⟨rfl, hb3⟩
      go_wp2_with fail
      go_ret
      exact ⟨rfl, below_then hB hb3⟩
    · have f1 : decide ((1000 : Int) < (m.f.size : Int)) = false := decide_eq_false (by omega)
      have f2 : decide (1000 < m.f.size) = false := decide_eq_false hfz
      clear hfz
      have H4 := Lib.hid h4
      have D3 := Lib.hid (fun wx (hb : Below w.heap.size w wx) => H.find A c l m.d wx (by have := H4.out; omega) (SlV.below HT.out hb))
      have D4 := Lib.hid (fun wx (hb : Below w.heap.size w wx) => H.put A c l m wx (by have := H4.out; omega) (SlV.below HT.out hb))
      have D5 := Lib.hid (fun (A' : Option Addr) (c' : Nat) wx (hT' : SlV mbE wx A' c' (putM l m)) => (by
        have h := H.find A' c' (putM l m) m.d wx (by rw [putM_len]; have := H4.out; omega) hT'
        rw [findM_put, putM_len] at h
        exact h : Calls Try.prog 12 #[.slice A' l.length c', .int .i64 m.d] wx fun e w' => e = .returned (.int .i64 (findM l m.d)) ∧ Below wx.heap.size wx w'))
      obtain ⟨p0, _, _, _, _, _, _, _, _, _, _, _, _, _, _, p15⟩ := mbIn16 hP
      have HPM := Lib.hid (putM_at hf).2
      have HDV := Lib.hid (findM_dev hf hk0)
      rw [hf] at D3 D5
      clear hf
      go_wp2_with fail
      refine (D3.out _ hB).mono ?_
      rintro e w4 ⟨rfl, hb4⟩
      replace hB := below_then hB hb4
      replace hP := hP.below hb4
      clear hb4 D3 p0 p15
      go_wp2_with (first | (refine El.load mbRow rfl _ rfl n1 0 rfl m hP.at #[.int .i64 m.d, .int .i64 m.i, .bool m.w, .int .i64 m.n, .int .i64 m.l, .int .i64 m.o, .int .i64 m.r.d, .int .i64 m.r.i, .int .i64 m.r.b, .int .i64 m.r.t, .int .i64 m.r.m, .int .i64 m.r.p, .int .i64 m.r.c, .int .i64 m.r.s, .int .i64 m.r.k, .string m.f] rfl ?_) | fail)
      refine (D4.out _ hB).mono ?_
      rintro e w5 ⟨A5, c5, rfl, hS5, hb5⟩
      replace hB := below_then hB hb5
      replace hP := hP.below hb5
      clear hb5 D4
      have HPL := Lib.hid (putM_len l m)
      go_wp2_with fail
      go_loopw [7] (fun y wr => ∃ k : Nat, k ≤ l.length ∧ y = .int .i64 k ∧ SlV mbE wr A5 c5 (putM l m) ∧ mbE.In wr n1 m ∧ Below w.heap.size w wr) (fun y _ => l.length - (intOf y).toNat)
      case atStart => exact ⟨0, Nat.zero_le _, rfl, hS5, hP, hB⟩
      case round =>
        clear hS5 hP hB
        obtain ⟨k, hk, rfl, hS5, hP, hB⟩ := hrel
        by_cases hkl : k < l.length
        · obtain ⟨b, off, eA, hbw, hc⟩ := HT.out.1 (by omega)
          have hkp : k < (putM l m).length := by rw [HPL.out]; exact hkl
          obtain ⟨b2, off2, eA2, hbw2, hc2⟩ := hS5.1 (by omega)
          have hx := mbIdx (cap := c) eA hkl
          have hx2 := mbIdx (cap := c5) eA2 hkl
          have hat : mbE.At wr b (off + k * 16) l[k] := (hc k hkl).below hB hbw
          have hat2 : mbE.At wr b2 (off2 + k * 16) (putM l m)[k] := hc2 k hkp
          by_cases hkk : k = k0
          · have hpk : (putM l m)[k] = m := by
              have h2 : (l.set k0 m)[k]? = some m := by rw [hkk]; exact List.getElem?_set_self hk0
              have h3 : (putM l m)[k]? = some m := by rw [HPM.out]; exact h2
              rw [List.getElem?_eq_getElem hkp] at h3
              exact Option.some.inj h3
            rw [hpk] at hat2
            have e1 : ((k : Int) == (k0 : Int)) = true := beq_iff_eq.2 (by omega)
            have e2 : ((k : Int) != (k0 : Int)) = false := by rw [bne_eq_false_iff_eq]; omega
            have e3 : decide ((k : Int) = (k0 : Int)) = true := decide_eq_true (by omega)
            have e4 : decide (¬ (k : Int) = (k0 : Int)) = false := decide_eq_false (by omega)
            have HKK := Lib.hid hkk
            clear hkk hpk
            generalize hmx : m = x at *
            clear hmx
            as_aux_lemma =>
              obtain ⟨s0, s1, s2, s3, s4, s5, s6, s7, s8, s9, s10, s11, s12, s13, s14, s15⟩ := mbIn16 hP
              obtain ⟨t0, t1, t2, t3, t4, t5, t6, t7, t8, t9, t10, t11, t12, t13, t14, t15⟩ := mbAt16 hat2
              have hrun := fun w => run_eqMb x x w
              rw [mbEq_self] at hrun
              clear hc hc2 hat hat2 eA eA2
              go_wp2
              go_quiet (fail)
              clear s0 s1 s2 s3 s4 s5 s6 s7 s8 s9 s10 s11 s12 s13 s14 s15 t0 t1 t2 t3 t4 t5 t6 t7 t8 t9 t10 t11 t12 t13 t14 t15
              have hdr : Below wr.heap.size wr (wr.drewN nq) := below_drew (Below.refl _ _) nq
              replace hS5 := SlV.below hS5 hdr
              replace hP := hP.below hdr
              replace hB := below_then hB hdr
              go_wp2_with fail
              exact ⟨⟨k + 1, by omega, by go_num, hS5, hP, hB⟩, by simp [intOf]; omega⟩
          · have hpk : (putM l m)[k] = l[k] := by
              have h2 : (l.set k0 m)[k]? = l[k]? := List.getElem?_set_ne (fun e => hkk e.symm)
              have h3 : (putM l m)[k]? = l[k]? := by rw [HPM.out]; exact h2
              rw [List.getElem?_eq_getElem hkp, List.getElem?_eq_getElem hkl] at h3
              exact Option.some.inj h3
            rw [hpk] at hat2
            clear hpk
            generalize l[k] = x at *
            have e1 : ((k : Int) == (k0 : Int)) = false := beq_eq_false_iff_ne.2 (by omega)
            have e2 : ((k : Int) != (k0 : Int)) = true := by rw [bne_iff_ne]; omega
            have e3 : decide ((k : Int) = (k0 : Int)) = false := decide_eq_false (by omega)
            have e4 : decide (¬ (k : Int) = (k0 : Int)) = true := decide_eq_true (by omega)
            have HKK := Lib.hid hkk
            clear hkk
            as_aux_lemma =>
              obtain ⟨s0, s1, s2, s3, s4, s5, s6, s7, s8, s9, s10, s11, s12, s13, s14, s15⟩ := mbAt16 hat
              obtain ⟨t0, t1, t2, t3, t4, t5, t6, t7, t8, t9, t10, t11, t12, t13, t14, t15⟩ := mbAt16 hat2
              have hrun := fun w => run_eqMb x x w
              rw [mbEq_self] at hrun
              clear hc hc2 hat hat2 eA eA2
              go_wp2
              go_quiet (fail)
              clear s0 s1 s2 s3 s4 s5 s6 s7 s8 s9 s10 s11 s12 s13 s14 s15 t0 t1 t2 t3 t4 t5 t6 t7 t8 t9 t10 t11 t12 t13 t14 t15
              have hdr : Below wr.heap.size wr (wr.drewN nq) := below_drew (Below.refl _ _) nq
              replace hS5 := SlV.below hS5 hdr
              replace hP := hP.below hdr
              replace hB := below_then hB hdr
              go_wp2_with fail
              exact ⟨⟨k + 1, by omega, by go_num, hS5, hP, hB⟩, by simp [intOf]; omega⟩
        · obtain rfl : k = l.length := by omega
          obtain ⟨b, off, eA, hbw, hc⟩ := HT.out.1 (by omega)
          have hx := mbIdx (cap := c) eA hk0
          have hat : mbE.At wr b (off + k0 * 16) l[k0] := (hc k0 hk0).below hB hbw
          have h0 := (mbAt16 hat).1
          rw [HDV.out] at h0
          clear hc eA hat
          as_aux_lemma =>
            have kp := cell_regrown (mbIn16 hP).1
            have kq := cell_regrown h0
            have g1 : decide ((k0 : Int) < 0) = false := decide_eq_false (by omega)
            clear h0
            go_wp2
            have d1 : ∀ d os, Calls Try.prog 9 #[] (Sort.grow (redrawn wr d) os) fun e w'' => e = .returned (.bool true) ∧ ∃ p : Regrown, w'' = Sort.grow (redrawn wr p.d) p.os := fun d os => Calls.regrown_of (HA.out _)
            have d2 : ∀ d os, Calls Try.prog 12 #[.slice A5 l.length c5, .int .i64 m.d] (Sort.grow (redrawn wr d) os) fun e w'' => e = .returned (.int .i64 k0) ∧ ∃ p : Regrown, w'' = Sort.grow (redrawn wr p.d) p.os := fun d os => Calls.regrown_of (D5.out A5 c5 _ (SlV.below hS5 (below_regrown wr d os)))
            refine wp_region_quiet_below (by kernel_rfl) (by kernel_rfl) ?_
            repeat (go_big_quiet_step ((with_reducible (first | exact d1 _ _ | exact d2 _ _))))
            refine wpQuiet_nil ?_
            intro _ hw'
            obtain ⟨⟨dq, osq⟩, hw''⟩ := hw'
            subst hw''
            go_wp2
            go_ret
            exact ⟨rfl, below_then hB (below_regrown wr dq osq)⟩
set_option maxRecDepth 100000 in
theorem puts16_lifted (H0 : RosterCalls) (os : Os) (started : os.Started) (H : Type) (enc : TypeId × Value → H) :
    ReturnsInHanded {} Try.checked os 7 .any (Rows.rosterPutsSpec.pre6 enc Try.prog Try.f7 Rows.rosterPutsRow.domain false) (Rows.rosterPutsSpec.post enc Try.prog Try.f7 false true false false) := by
  refine handed_sized (C := Try.checked) own started (by kernel_rfl) Try.func7
    (ChangeSpec.witness6 (enc := enc) (C := Try.checked) false ⟨#[], #[.slice none 0 0, .agg #[.int .i64 0, .int .i64 0, .bool false, .int .i64 0, .int .i64 0, .int .i64 0, .int .i64 0, .int .i64 0, .int .i64 0, .int .i64 0, .int .i64 0, .int .i64 0, .int .i64 0, .int .i64 0, .int .i64 0, .string ⟨#[]⟩]], []⟩ 8 (by kernel_rfl) (by kernel_rfl) (by kernel_rfl) (by kernel_rfl)) ?_
  intro W base args ds gs before hval0 hW hL0
  have hval : ∀ (j : Nat) t v, Try.f7.params[j]? = some t → args[j]? = some v → Value.okWide Try.prog W .any base t v := hval0
  have hW' := hW
  obtain ⟨p, q, hA0, hV, rfl, _, _⟩ := hW
  have hA : DataW.TrodAll enc Try.prog W 0 (fun _ => true) true Try.f7.params.toList args.toList ds p := hA0
  rw [Try.params7] at hA hval
  obtain ⟨v0, v1, d0, d1, p0, p1, rfl, rfl, rfl, h0, h1⟩ := trodAll_two hA
  simp only [Try.params7, List.cons_append, List.nil_append, DataW.weightsEach, List.all_append, Bool.and_eq_true] at hL0
  obtain ⟨A, c, l, rfl, hS, hn, hq⟩ := open_mbsN (hval 0 22 v0 rfl rfl) h0 hL0.1
  obtain ⟨m, rfl, hm⟩ := open_mb (hval 1 39 v1 rfl rfl) h1
  have hc : Calls Try.prog 7 #[.slice A l.length c, .agg #[.int .i64 m.d, .int .i64 m.i, .bool m.w, .int .i64 m.n, .int .i64 m.l, .int .i64 m.o, .int .i64 m.r.d, .int .i64 m.r.i, .int .i64 m.r.b, .int .i64 m.r.t, .int .i64 m.r.m, .int .i64 m.r.p, .int .i64 m.r.c, .int .i64 m.r.s, .int .i64 m.r.k, .string m.f]] W fun e w' => e = .returned (.bool true) ∧ Below W.heap.size W w' := by
    rcases findM_cases l m.d with hf | ⟨k0, hf, hk0⟩
    · exact puts16_none H0 A c l m W hS hq hn hm hf
    · exact puts16_some H0 A c l m W hS hq hn hm k0 hf hk0
  refine hc.mono fun e W' ⟨he, hb⟩ => ?_
  subst he
  exact ⟨_, rfl, Frm.law_post (by kernel_rfl) (by kernel_rfl) (by kernel_rfl) Try.underlying4 rfl rfl hW' hb⟩

theorem puts16_holds (H0 : RosterCalls) : Rows.RosterPutsSaid :=
  OpenClaim.holds_of_wide 7 Try.f7 rfl rfl rfl rfl rfl rfl rfl ⟨rfl, rfl, rfl, rfl, rfl⟩ rfl rfl rfl rfl rfl (by kernel_rfl) Try.func7 (by kernel_rfl)
    (of_decide_eq_true (by kernel_rfl)) (by unfold Func.isWrapper; first | (rw [if_pos (by decide +kernel)]; kernel_rfl) | (rw [if_neg (by decide +kernel)]; exact ⟨rfl, rfl⟩))
    (fun os started H enc _ => puts16_lifted H0 os started H enc)
end Go.Proofs.Ytjjjpifdmgpnjaa

namespace Go.Proofs.Ytjjjpifdmgpnjaa
theorem rosterPuts_all : Rows.RosterPutsSaid := puts16_holds rosterCalls
end Go.Proofs.Ytjjjpifdmgpnjaa
