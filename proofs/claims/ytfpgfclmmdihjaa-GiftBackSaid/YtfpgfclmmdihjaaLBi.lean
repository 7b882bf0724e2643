/- GiftBack is proved: the chunks of a snapshot, one behind the other, are the snapshot, and it thaws to the place, the clock, the past and the counts that were frozen. No condition. -/
import Derived.Test.YtfpgfclmmdihjaaB10
namespace Go.Proofs.Ytfpgfclmmdihjaa
open Go.ChangeShapes Go.WideShapes Go.ChangeAt Go.RowKit Go.Deep Nam Cod Tre Pst

set_option maxRecDepth 100000 in
theorem open_u83 {H : Type} {enc : TypeId × Value → H} {W : World} {base : Nat} {sp : Nat → Bool} {v : Value} {d : DataW H} {ps : List MemPlace}
    (hv : Value.okWide Try.prog W .any base 43 v) (h : DataW.Trod enc Try.prog W 0 sp true 43 v d ps) : ∃ a b c : Nat, v = .agg #[.int .u8 a, .int .u8 b, .int .u8 c] ∧ a < 256 ∧ b < 256 ∧ c < 256 := by
  obtain ⟨cs, rfl, hsz⟩ : ∃ cs : Array Value, v = .agg cs ∧ cs.size = 3 := by
    simp only [Value.okWide, Try.underlying43] at hv
    obtain ⟨cs, h1, h2, _⟩ := hv
    exact ⟨cs, h1, by rw [h2]; kernel_rfl⟩
  obtain ⟨fuel, hf⟩ := h
  obtain ⟨xs, m, rfl, _, hlen, hn, hel⟩ := DataW.trod_array Try.underlying43 hf
  have hcs : (Value.agg cs).cells.toList = cs.toList := rfl
  rw [hcs] at hel
  have hone : ∀ i, i < 3 → ∃ a : Nat, cs[i]? = some (.int .u8 a) ∧ a < 256 := by
    intro i hi
    have h1 := hel i hi
    rw [show Try.prog.cellsOf 5 = 1 by kernel_rfl, Nat.mul_one] at h1
    obtain ⟨x, hxk⟩ : ∃ x, xs[i]? = some x := ⟨_, List.getElem?_eq_getElem (by omega)⟩
    rw [hxk] at h1
    obtain ⟨n, e1, _, wf⟩ := DataW.trod_int Try.underlying5 h1
    have hb := bounds_u8 wf
    have h5 := congrArg (·[0]?) e1
    refine ⟨n.toNat, ?_, by omega⟩
    rw [Int.toNat_of_nonneg hb.1, ← Array.getElem?_toList]
    simpa using h5
  obtain ⟨a, ha, ha2⟩ := hone 0 (by decide)
  obtain ⟨b, hb, hb2⟩ := hone 1 (by decide)
  obtain ⟨c, hc, hc2⟩ := hone 2 (by decide)
  refine ⟨a, b, c, ?_, ha2, hb2, hc2⟩
  congr 1
  apply Array.ext_getElem?
  intro i
  match i with
  | 0 => rw [ha]; rfl
  | 1 => rw [hb]; rfl
  | 2 => rw [hc]; rfl
  | i + 3 => rw [Array.getElem?_eq_none (by omega)]; simp



theorem ext_L (s : ByteArray) (a b : Nat) : L (s.extract a b) = ((L s).drop a).take (b - a) := by
  unfold L
  simp [ByteArray.data_extract, List.extract_eq_take_drop]
theorem ext_app (s : ByteArray) {a b : Nat} (h : a ≤ b) : s.extract 0 a ++ s.extract a b = s.extract 0 b := by
  apply L_inj
  rw [L_app, ext_L, ext_L, ext_L, List.drop_zero, Nat.sub_zero, Nat.sub_zero]
  conv => rhs; rw [show b = a + (b - a) by omega, List.take_add]
theorem ext_all (s : ByteArray) : s.extract 0 s.size = s := by
  apply L_inj
  rw [ext_L, List.drop_zero, Nat.sub_zero, List.take_of_length_le (by rw [L_len]; omega)]
/-- What the chunks' numbers come to. -/
theorem chunk_math {n z k : Nat} (hz : 1 ≤ z) (hn : n ≤ 1000000) (hz2 : z ≤ 256) : ∃ N : Nat, chunksV n z = N ∧ 1 ≤ N ∧ N ≤ 1000300 ∧ n ≤ N * z ∧ (k < N → k * z ≤ n) ∧ (k + 1 < N → (k + 1) * z ≤ n) := by
  have h0 : chunksV n (z : Int) = max 1 (((n : Int) + z - 1) / z) := if_neg (by omega)
  obtain ⟨Q, hQ⟩ : ∃ Q, ((n : Int) + z - 1) / z = Q := ⟨_, rfl⟩
  rw [hQ] at h0
  have hzp : (0 : Int) < z := by omega
  have q0 : 0 ≤ Q := by rw [← hQ]; exact Int.ediv_nonneg (by omega) (by omega)
  have q1 : Q * z ≤ (n : Int) + z - 1 := by rw [← hQ]; exact Int.ediv_mul_le _ (by omega)
  have q2 : (n : Int) + z - 1 < (Q + 1) * z := by rw [← hQ]; exact Int.lt_ediv_add_one_mul_self _ hzp
  obtain ⟨N, rfl⟩ : ∃ N : Nat, Q = N := ⟨Q.toNat, by omega⟩
  have q3 : N * z ≤ n + z - 1 := by
    have : ((N * z : Nat) : Int) ≤ (n : Int) + z - 1 := by rw [Int.natCast_mul]; exact q1
    omega
  have q4 : n + z - 1 < (N + 1) * z := by
    have : (n : Int) + z - 1 < (((N + 1) * z : Nat) : Int) := by rw [Int.natCast_mul]; exact q2
    omega
  have q5 : (N + 1) * z = N * z + z := by rw [Nat.add_mul, Nat.one_mul]
  have q6 : N ≤ N * z := Nat.le_mul_of_pos_right _ hz
  refine ⟨max 1 N, by omega, by omega, by omega, ?_, fun hk => ?_, fun hk => ?_⟩
  · rcases Nat.le_total 1 N with h | h
    · rw [Nat.max_eq_right h]; omega
    · rw [Nat.max_eq_left h, Nat.one_mul]
      have : N * z ≤ 1 * z := Nat.mul_le_mul_right _ h
      omega
  · by_cases hk2 : k + 1 ≤ N
    · have h1 : (k + 1) * z ≤ N * z := Nat.mul_le_mul_right _ hk2
      have h2 : (k + 1) * z = k * z + z := by rw [Nat.add_mul, Nat.one_mul]
      omega
    · obtain rfl : k = 0 := by omega
      omega
  · have h1 : (k + 2) * z ≤ N * z := Nat.mul_le_mul_right _ (by omega)
    have h2 : (k + 2) * z = (k + 1) * z + z := by rw [show k + 2 = (k + 1) + 1 from rfl, Nat.add_mul, Nat.one_mul]
    omega
set_option maxRecDepth 100000 in
set_option maxHeartbeats 16000000 in
theorem back17_any (H : GiftCalls) (y : Pw) (A : Option Addr) (c : Nat) (l : List En) (b0 b1 b2 : Nat) (w : World) (g0 : b0 < 256) (g1 : b1 < 256) (g2 : b2 < 256) (hok : PastOk w y) (hlen : PaLen y) (hwb : ∀ p ∈ y.base, p.s.size ≤ 9223372036854775807) (hwo : ∀ m ∈ y.ops, m.s.size ≤ 9223372036854775807) (hT : enE.Sl w A l) (hlw : ∀ e ∈ l, e.o.s.size ≤ 9223372036854775807) : Calls Try.prog 5 #[.agg #[.slice y.bA y.base.length y.bc, .int .i64 y.t, .slice y.oA y.ops.length y.oc, .slice y.uA y.us.length y.uc, .slice y.wA y.now.length y.wc], .slice A l.length c, .agg #[.int .u8 b0, .int .u8 b1, .int .u8 b2]] w fun r w' => r = .returned (.bool true) ∧ Below w.heap.size w w' := by
  have hP : pwE.In ((w.alloc (.cells #[.slice y.bA y.base.length y.bc, .int .i64 y.t, .slice y.oA y.ops.length y.oc, .slice y.uA y.us.length y.uc, .slice y.wA y.now.length y.wc] 27)).alloc (.cells #[.int .u8 b0, .int .u8 b1, .int .u8 b2] 43)) w.heap.size y := (El.In.new (E := pwE) w y _ rfl).alloc _
  obtain ⟨u0, u1, u2⟩ : ((w.alloc (.cells #[.slice y.bA y.base.length y.bc, .int .i64 y.t, .slice y.oA y.ops.length y.oc, .slice y.uA y.us.length y.uc, .slice y.wA y.now.length y.wc] 27)).alloc (.cells #[.int .u8 b0, .int .u8 b1, .int .u8 b2] 43)).cell? ⟨w.heap.size + 1, 0, none⟩ = some (.int .u8 b0) ∧ ((w.alloc (.cells #[.slice y.bA y.base.length y.bc, .int .i64 y.t, .slice y.oA y.ops.length y.oc, .slice y.uA y.us.length y.uc, .slice y.wA y.now.length y.wc] 27)).alloc (.cells #[.int .u8 b0, .int .u8 b1, .int .u8 b2] 43)).cell? ⟨w.heap.size + 1, 1, none⟩ = some (.int .u8 b1) ∧ ((w.alloc (.cells #[.slice y.bA y.base.length y.bc, .int .i64 y.t, .slice y.oA y.ops.length y.oc, .slice y.uA y.us.length y.uc, .slice y.wA y.now.length y.wc] 27)).alloc (.cells #[.int .u8 b0, .int .u8 b1, .int .u8 b2] 43)).cell? ⟨w.heap.size + 1, 2, none⟩ = some (.int .u8 b2) := by
    refine ⟨?_, ?_, ?_⟩ <;> go_simp
  have hB := below_alloc (below_alloc (Below.refl w.heap.size w) (.cells #[.slice y.bA y.base.length y.bc, .int .i64 y.t, .slice y.oA y.ops.length y.oc, .slice y.uA y.us.length y.uc, .slice y.wA y.now.length y.wc] 27)) (.cells #[.int .u8 b0, .int .u8 b1, .int .u8 b2] 43)
  have HOK := Lib.hid hok
  have HT := Lib.hid hT
  have HLW := Lib.hid hlw
  obtain ⟨l1, l2, l3, l4⟩ := hlen
  have hrb : reachBytes ≤ 140737488355328 := by decide
  clear hok hT hlw
  go_enter Try.func5, Try.ntmps5
  go_upto_region 1 with fail
  generalize (w.alloc (.cells #[.slice y.bA y.base.length y.bc, .int .i64 y.t, .slice y.oA y.ops.length y.oc, .slice y.uA y.us.length y.uc, .slice y.wA y.now.length y.wc] 27)).alloc (.cells #[.int .u8 b0, .int .u8 b1, .int .u8 b2] 43) = W at *
  obtain ⟨n2, hn2⟩ : ∃ n, w.heap.size + 1 = n := ⟨_, rfl⟩
  obtain ⟨n1, hn1⟩ : ∃ n, w.heap.size = n := ⟨_, rfl⟩
  have hw1 : w.heap.size ≤ n1 := by omega
  rw [hn2] at u0 u1 u2 ⊢
  rw [hn1] at hP ⊢
  clear hn1 hn2
  have hn2W : n2 < W.heap.size := World.block_lt_of_cell? _ _ u0
  obtain ⟨p0, p1, p2, p3, p4⟩ := pwIn5 hP
  by_cases ho : 40 < y.ops.length
  · have e1 : decide ((40 : Int) < (y.ops.length : Int)) = true := decide_eq_true (by omega)
    have e2 : decide (40 < y.ops.length) = true := decide_eq_true ho
    go_wp2_with fail
    refine (awake17_any H _).mono ?_
    rintro r w1 ⟨rfl, hb1⟩
    go_wp2_with fail
    go_ret
    exact ⟨rfl, below_then hB hb1⟩
  · have e1 : decide ((40 : Int) < (y.ops.length : Int)) = false := decide_eq_false (by omega)
    have e2 : decide (40 < y.ops.length) = false := decide_eq_false ho
    by_cases hl : 30 < l.length
    · have e3 : decide ((30 : Int) < (l.length : Int)) = true := decide_eq_true (by omega)
      have e4 : decide (30 < l.length) = true := decide_eq_true hl
      go_wp2_with fail
      refine (awake17_any H _).mono ?_
      rintro r w1 ⟨rfl, hb1⟩
      go_wp2_with fail
      go_ret
      exact ⟨rfl, below_then hB hb1⟩
    · have e3 : decide ((30 : Int) < (l.length : Int)) = false := decide_eq_false (by omega)
      have e4 : decide (30 < l.length) = false := decide_eq_false hl
      have CR := Lib.hid (fun bv hbv => refPastRightG_any y W (HOK.out.below hB) (by omega) (by omega) (by omega) (by omega) hwb hwo bv hbv)
      by_cases hR : PastR y.v
      · have CT := Lib.hid (CR.out true ⟨fun _ => hR, fun _ => rfl⟩)
        have HI := Lib.hid (inv_of_right hR)
        have HLL := Lib.hid (show l.length ≤ 30 by omega)
        have HOO := Lib.hid (show y.ops.length ≤ 40 by omega)
        have HLN := Lib.hid (show y.base.length ≤ 140737488355328 ∧ y.us.length ≤ 140737488355328 ∧ y.now.length ≤ 140737488355328 by omega)
        clear hR CR l1 l2 l3 l4 hrb hwb hwo
        go_wp2_with fail
        refine CT.out.mono ?_
        clear p0 p1 p2 p3 p4 e1 e2 e3 e4 CT ho hl
        rintro r w1 ⟨rfl, hb1⟩
        have HA := Lib.hid (fun wx => awake17_any H wx)
        have HH := Lib.hid H
        have HU := Lib.hid (fun wx (hb : Below W.heap.size W wx) => (⟨((bcell hb).1 n2 0 hn2W).trans u0, ((bcell hb).1 n2 1 hn2W).trans u1, ((bcell hb).1 n2 2 hn2W).trans u2⟩ : wx.cell? ⟨n2, 0, none⟩ = some (.int .u8 b0) ∧ wx.cell? ⟨n2, 1, none⟩ = some (.int .u8 b1) ∧ wx.cell? ⟨n2, 2, none⟩ = some (.int .u8 b2)))
        have HP := Lib.hid (fun wx (hb : Below W.heap.size W wx) => hP.below hb)
        have HBW := Lib.hid (fun wx (hb : Below W.heap.size W wx) => (below_then hB hb : Below w.heap.size w wx))
        clear H u0 u1 u2 hP
        have hN0 := hb1
        clear hb1
        as_aux_lemma =>
          have HK0 := Lib.hid (fun (j : Nat) (h : j < l.length) (hj : j < 0) => (absurd hj (Nat.not_lt_zero j) : entB l[j] = true))
          have hM0 : SlV cnE w1 none 0 (tallies (l.take 0)) := by rw [List.take_zero]; exact SlV.nil cnE _
          go_wp2_with fail
          go_loopw [7, 8] (fun x z wq => ∃ (k : Nat) (A3 : Option Addr) (c3 : Nat), k ≤ l.length ∧ x = .slice A3 (tallies (l.take k)).length c3 ∧ z = .int .i64 k ∧ SlV cnE wq A3 c3 (tallies (l.take k)) ∧ Hid (∀ j (h : j < l.length), j < k → entB l[j] = true) ∧ Below W.heap.size W wq) (fun _ z _ => l.length - (intOf z).toNat)
          case atStart => exact ⟨0, none, 0, Nat.zero_le _, by rw [List.take_zero]; rfl, rfl, hM0, HK0, hN0⟩
          case round =>
            clear hM0 HK0 hN0
            obtain ⟨k, A3, c3, hk, rfl, rfl, hM, HK, hN⟩ := hrel
            by_cases hkl : k < l.length
            · obtain ⟨b, off, eA, hbw, hc⟩ := HT.out (by omega)
              have hx := enIdxP (cap := c) eA hkl
              have hNw := HBW.out _ hN
              have hat : enE.At wr b (off + k * 10) l[k] := (hc k hkl).below hNw hbw
              have hbr := Nat.lt_of_lt_of_le hbw hNw.size
              have HNX := Lib.hid (tallies_next l k hkl)
              have hlen := (tallies_inv l k hk).2.1
              have hlx := HLW.out l[k] (List.getElem_mem _)
              have hll := HLL.out
              have HKN := Lib.hid (fun (h : entB l[k] = true) (j : Nat) (hj : j < l.length) (hjk : j < k + 1) => (by
                by_cases e : j < k
                · exact HK.out j hj e
                · obtain rfl : j = k := by omega
                  exact h : entB l[j] = true))
              generalize l[k] = x at *
              generalize tallies (l.take k) = M at *
              have CR := Lib.hid (fun wx => refEntRight_any x wx hlx)
              have HTL := Lib.hid (fun wx (hS : SlV cnE wx A3 c3 M) => refTally_any A3 c3 M x wx (by omega) hS)
              obtain ⟨bv, hbv⟩ : ∃ bv, entB x = bv := ⟨_, rfl⟩
              rw [hbv] at CR HKN
              clear hc eA hlen hlx hbv hNw
              go_wp2_with (first | (refine El.load enRow rfl _ rfl b (off + k * 10) rfl x hat #[.int .i64 x.k, .int .i64 x.d, .int .i64 x.i, .int .i64 x.o.C, .int .i64 x.o.D, .int .i64 x.o.I, .int .i64 x.o.M, .int .i64 x.o.K, .int .i64 x.o.U, .string x.o.s] rfl ?_) | fail)
              refine (CR.out _).mono ?_
              rintro r w3 ⟨rfl, hb3⟩
              cases bv with
              | false =>
                have hN3 := HBW.out _ (below_then hN hb3)
                clear hM hb3 hat hx CR HTL HNX HKN HK hN
                go_wp2_with fail
                refine (HA.out _).mono ?_
                rintro r w4 ⟨rfl, hb4⟩
                go_wp2_with fail
                go_ret
                exact ⟨rfl, below_then hN3 hb4⟩
              | true =>
                have hN3 := below_then hN hb3
                have hat3 := hat.below hb3 hbr
                have hM3 := SlV.below hM hb3
                have HKN2 := Lib.hid (HKN.out rfl)
                clear hM hb3 hat CR HKN HK hN
                go_wp2_with (first | (refine El.load enRow rfl _ rfl b (off + k * 10) rfl x hat3 #[.int .i64 x.k, .int .i64 x.d, .int .i64 x.i, .int .i64 x.o.C, .int .i64 x.o.D, .int .i64 x.o.I, .int .i64 x.o.M, .int .i64 x.o.K, .int .i64 x.o.U, .string x.o.s] rfl ?_) | fail)
                refine (HTL.out _ hM3).mono ?_
                rintro r w4 ⟨A4, c4, rfl, hM4, hb4⟩
                go_wp2_with fail
                exact ⟨⟨k + 1, A4, c4, by omega, by rw [HNX.out], by go_num, by rw [HNX.out]; exact hM4, HKN2, below_then hN3 hb4⟩, by simp [intOf]; omega⟩
            · obtain rfl : k = l.length := by omega
              obtain ⟨hris, hgood⟩ := tallies_ok l l.length (Nat.le_refl _) HK.out
              rw [List.take_length] at hM hris hgood ⊢
              generalize tallies l = M at *
              have hm12 := ris_len12 hris (fun c hc => (hgood c hc).1)
              have hcb := ris_cnsB hris (fun c hc => (hgood c hc).1)
              have HW := Lib.hid (fun c (hc : c ∈ M) => (hgood c hc).2)
              have hsis := snap_is ⟨(b0 : Nat), (b1 : Nat), y.v, M⟩ HI.out (by have := HOO.out; exact Nat.le_trans this (by decide)) ⟨by dsimp only; omega, by dsimp only; omega⟩ ⟨by dsimp only; omega, by dsimp only; omega⟩ hcb (fun c hc => cnW_raw (HW.out c hc)) hm12
              have hsz : (snBytes ⟨(b0 : Nat), (b1 : Nat), y.v, M⟩).size ≤ 1000000 := by
                have h1 := past_le HI.out (by have := HOO.out; exact Nat.le_trans this (by decide))
                have h2 := bytesOf_le10 (n := (b0 : Int)) (by unfold i64; omega)
                have h3 := bytesOf_le10 (n := (b1 : Int)) (by unfold i64; omega)
                have h4 := bytesOf_le10 (n := (M.length : Int)) (by unfold i64; omega)
                have h5 := cnCat_le (fun c hc => HW.out c hc) M.length
                rw [List.take_length] at h5
                unfold snBytes Kd.part
                simp only [ByteArray.size_append]
                omega
              have HFEW := Lib.hid (by
                have h := snap_few ⟨(b0 : Nat), (b1 : Nat), y.v, M⟩ ⟨#[]⟩ HI.out (by have := HOO.out; exact Nat.le_trans this (by decide)) (by unfold i64; dsimp only; omega) (by unfold i64; dsimp only; omega)
                rw [show snBytes ⟨(b0 : Nat), (b1 : Nat), y.v, M⟩ ++ ⟨#[]⟩ = snBytes ⟨(b0 : Nat), (b1 : Nat), y.v, M⟩ from L_inj (by rw [L_app]; simp [L])] at h
                exact h : ∀ V q, isSnapP (snBytes ⟨(b0 : Nat), (b1 : Nat), y.v, M⟩) = some (V, q) → V.ops.length ≤ 800)
              have HF := Lib.hid (fun wx (hb : Below w.heap.size w wx) (hm : SlV cnE wx A3 c3 M) => HH.out.freeze (b0 : Nat) (b1 : Nat) y A3 c3 M wx (by unfold i64; omega) (by unfold i64; omega) HI.out (by have := HOO.out; omega) (HOK.out.below hb) (by omega) (fun c hc => HW.out c hc) hm)
              generalize snBytes ⟨(b0 : Nat), (b1 : Nat), y.v, M⟩ = X at *
              obtain ⟨u0, u1, u2⟩ := HU.out _ hN
              obtain ⟨z, hz⟩ : ∃ z : Nat, b2 + 1 = z := ⟨_, rfl⟩
              have i2 : IntKind.i64.wrap (1 + (b2 : Int)) = (z : Int) := by rw [IntKind.wrap_i64]; omega
              have hz1 : 1 ≤ z := by omega
              have hz2 : z ≤ 256 := by omega
              clear hz
              have HSIS := Lib.hid hsis
              have HXS := Lib.hid hsz
              clear hris hgood hcb HK hkl hk hsis hsz
              go_upto_region 10 with fail
              go_quiet (fail)
              have hd := below_drew (Below.refl wr.heap.size wr) nq
              replace hM := SlV.below hM hd
              replace hN := below_then hN hd
              clear hd u0 u1 u2 i2
              generalize wr.drewN nq = V at *
              have hp := HP.out _ hN
              go_wp2_with (first | (refine El.load pwRow rfl _ rfl n1 0 rfl y hp.at #[.slice y.bA y.base.length y.bc, .int .i64 y.t, .slice y.oA y.ops.length y.oc, .slice y.uA y.us.length y.uc, .slice y.wA y.now.length y.wc] rfl ?_) | fail)
              refine (HF.out _ (HBW.out _ hN) hM).mono ?_
              rintro e w5 ⟨rfl, hb5⟩
              replace hM := SlV.below hM hb5
              replace hN := below_then hN hb5
              clear hb5 hp HF
              have hxs := HXS.out
              have HCM := Lib.hid (fun k => chunk_math (n := X.size) (z := z) (k := k) hz1 hxs hz2)
              obtain ⟨N, hNe, hN1, hN2, hNz, _, _⟩ := HCM.out 0
              have CC := Lib.hid (fun wx => HH.out.chunks X (z : Nat) wx hxs (by unfold i64; omega) (by omega))
              rw [hNe] at CC
              have HNE := Lib.hid hNe
              clear hNe
              go_wp2_with fail
              refine (CC.out _).mono ?_
              rintro e w6 ⟨rfl, hb6⟩
              replace hM := SlV.below hM hb6
              replace hN := below_then hN hb6
              clear hb6 CC
              go_wp2_with fail
              as_aux_lemma =>
                go_loopw [14, 15] (fun t i wq => ∃ k : Nat, k ≤ N ∧ i = .int .i64 k ∧ t = .string (X.extract 0 (min X.size (k * z))) ∧ SlV cnE wq A3 c3 M ∧ Below W.heap.size W wq) (fun _ i _ => N - (intOf i).toNat)
                case atStart => exact ⟨0, Nat.zero_le _, rfl, by rw [Nat.zero_mul, Nat.min_zero]; exact congrArg Value.string (L_inj (by rw [ext_L]; simp [L])), hM, hN⟩
                case round =>
                  clear hM hN
                  obtain ⟨k, hk, rfl, rfl, hM, hN⟩ := hrel
                  by_cases hkl : k < N
                  · obtain ⟨N2, hne, _, _, _, q1, q2⟩ := HCM.out k
                    obtain rfl : N2 = N := by have := HNE.out; omega
                    have q1 := q1 hkl
                    have hm : (k + 1) * z = k * z + z := by rw [Nat.add_mul, Nat.one_mul]
                    have HCV := Lib.hid (show cutV X (z : Nat) (k : Nat) ⟨1, 1, 0, 0, 0, 0, 0, 0, 0⟩ = (⟨1, 1, (k : Nat), (N2 : Nat), X.extract (k * z) (min X.size ((k + 1) * z))⟩, true) by
                      unfold cutV
                      rw [hne, if_pos (by omega)]
                      simp only [Int.toNat_natCast])
                    have hds : (X.extract (k * z) (min X.size ((k + 1) * z))).size = min X.size ((k + 1) * z) - k * z := by rw [ByteArray.size_extract]; omega
                    have HNX := Lib.hid (show X.extract 0 (min X.size ((k + 1) * z)) = X.extract 0 (min X.size (k * z)) ++ X.extract (k * z) (min X.size ((k + 1) * z)) by
                      rw [Nat.min_eq_right q1]
                      exact (ext_app X (by omega)).symm)
                    have hts : (X.extract 0 (min X.size (k * z))).size ≤ X.size := by rw [ByteArray.size_extract]; omega
                    have hd1 : (X.extract (k * z) (min X.size ((k + 1) * z))).size ≤ z := by omega
                    have hd2 : (X.extract (k * z) (min X.size ((k + 1) * z))).size < z → ¬ k + 1 < N2 := fun h h2 => by have := q2 h2; omega
                    generalize X.extract (k * z) (min X.size ((k + 1) * z)) = D at *
                    generalize X.extract 0 (min X.size (k * z)) = T at *
                    have CC := Lib.hid (fun wx => (show Calls Try.prog 22 #[.string X, .int .i64 (z : Nat), .int .i64 (k : Nat), .agg #[.int .i64 1, .int .i64 1, .int .i64 0, .int .i64 0, .int .i64 0, .int .i64 0, .int .i64 0, .int .i64 0, .int .i64 0]] wx fun e w' => e = .returned (.tuple #[.agg #[.int .i64 1, .int .i64 1, .int .i64 (k : Nat), .int .i64 (N2 : Nat), .string D], .bool true]) ∧ Below wx.heap.size wx w' from
                      (HH.out.cut X (z : Nat) (k : Nat) ⟨1, 1, 0, 0, 0, 0, 0, 0, 0⟩ wx HXS.out (by unfold i64; omega) (by omega) (by unfold i64; omega)).mono (by
                        rintro e w' ⟨g, bb, he, rfl, hb⟩
                        rw [HCV.out] at he
                        injection he with e1 e2
                        subst e1 e2
                        exact ⟨rfl, hb⟩)))
                    have htd : ¬ 9223372036854775807 < T.size + D.size := by omega
                    have e1 : decide ((z : Int) < (D.size : Int)) = false := decide_eq_false (by omega)
                    have e1' : decide (z < D.size) = false := decide_eq_false (by omega)
                    clear q1 q2 hm hds hts hne
                    go_wp2_with fail
                    refine (CC.out _).mono ?_
                    rintro e w7 ⟨rfl, hb7⟩
                    replace hM := SlV.below hM hb7
                    replace hN := below_then hN hb7
                    have hG : gfE.In (w7.alloc (.cells #[.int .i64 1, .int .i64 1, .int .i64 (k : Nat), .int .i64 (N2 : Nat), .string D] 37)) w7.heap.size ⟨1, 1, (k : Nat), (N2 : Nat), D⟩ := El.In.new (E := gfE) w7 ⟨1, 1, (k : Nat), (N2 : Nat), D⟩ _ rfl
                    have hal := below_alloc (Below.refl w7.heap.size w7) (.cells #[.int .i64 1, .int .i64 1, .int .i64 (k : Nat), .int .i64 (N2 : Nat), .string D] 37)
                    replace hM := SlV.below hM hal
                    replace hN := below_then hN hal
                    clear hb7 hal CC
                    go_upto_region 18 with fail
                    generalize w7.alloc (.cells #[.int .i64 1, .int .i64 1, .int .i64 (k : Nat), .int .i64 (N2 : Nat), .string D] 37) = V7 at *
                    generalize w7.heap.size = n7 at *
                    obtain ⟨_, _, s2, s3, s4⟩ := gfIn5 hG
                    dsimp only at s2 s3 s4
                    by_cases hlt : D.size < z
                    · have hkn := hd2 hlt
                      have e2 : decide ((D.size : Int) < (z : Int)) = true := decide_eq_true (by omega)
                      have e2' : decide (D.size < z) = true := decide_eq_true hlt
                      have e3 : IntKind.i64.wrap ((N2 : Int) - 1) = (N2 : Int) - 1 := by rw [IntKind.wrap_i64]; omega
                      have e4 : decide ((k : Int) < (N2 : Int) - 1) = false := decide_eq_false (by omega)
                      clear hlt hkn hd2 hd1
                      go_wp2_with fail
                      exact ⟨⟨k + 1, by omega, by go_num, by rw [HNX.out], hM, hN⟩, by simp [intOf]; omega⟩
                    · have e2 : decide ((D.size : Int) < (z : Int)) = false := decide_eq_false (by omega)
                      have e2' : decide (D.size < z) = false := decide_eq_false hlt
                      clear hlt hd2 hd1
                      go_wp2_with fail
                      exact ⟨⟨k + 1, by omega, by go_num, by rw [HNX.out], hM, hN⟩, by simp [intOf]; omega⟩
                  · obtain rfl : k = N := by omega
                    rw [Nat.min_eq_left hNz, ext_all]
                    have CT := Lib.hid (fun wx => HH.out.thaw X wx HXS.out HFEW.out)
                    clear hNz hkl hk HCM HNE hN1 hN2 hz1 hz2
                    go_wp2_with fail
                    refine (CT.out _).mono ?_
                    rintro e w8 ⟨x, bx, rfl, hxo, hb8, hx⟩
                    rw [HSIS.out] at hx
                    obtain ⟨hxe, hbx⟩ : some (⟨(b0 : Nat), (b1 : Nat), y.v, M⟩ : Sn) = some x.v ∧ bx = true := by
                      rcases hx with ⟨h1, h2⟩ | ⟨h1, _, _⟩
                      · exact ⟨h1, h2⟩
                      · cases h1
                    subst hbx
                    injection hxe with hxe
                    clear hx CT
                    obtain ⟨xp, xc, xy, xA, xcc, xl⟩ := x
                    simp only [Sw.v, Sn.mk.injEq] at hxe
                    obtain ⟨rfl, rfl, hxy, rfl⟩ := hxe
                    replace hM := SlV.below hM hb8
                    replace hN := below_then hN hb8
                    clear hb8
                    obtain ⟨hxp, hxc⟩ := hxo
                    dsimp only at hxp hxc ⊢
                    have hZ : stE.In (w8.alloc (.cells #[.int .i64 0, .int .i64 0, .int .i64 0, .int .i64 0, .int .i64 0, .int .i64 0, .slice none 0 0, .int .i64 0, .int .i64 0, .slice none 0 0, .slice none 0 0, .slice none 0 0, .slice none 0 0, .slice none 0 0, .slice none 0 0, .int .i64 0, .slice none 0 0, .slice none 0 0, .slice none 0 0, .slice none 0 0, .int .i64 0, .int .i64 0, .int .i64 0, .int .i64 0, .slice none 0 0, .int .i64 0] 65)) w8.heap.size Sw.zero := El.In.new (E := stE) w8 Sw.zero _ rfl
                    have hbS := below_setRow (below_alloc (Below.refl w8.heap.size w8) (.cells #[.int .i64 0, .int .i64 0, .int .i64 0, .int .i64 0, .int .i64 0, .int .i64 0, .slice none 0 0, .int .i64 0, .int .i64 0, .slice none 0 0, .slice none 0 0, .slice none 0 0, .slice none 0 0, .slice none 0 0, .slice none 0 0, .int .i64 0, .slice none 0 0, .slice none 0 0, .slice none 0 0, .slice none 0 0, .int .i64 0, .int .i64 0, .int .i64 0, .int .i64 0, .slice none 0 0, .int .i64 0] 65)) (Nat.le_refl _) #[.int .i64 0, .int .i64 0, .int .i64 0, .int .i64 (b0 : Nat), .int .i64 xy.t, .int .i64 (b0 : Nat), .slice none 0 0, .int .i64 0, .int .i64 0, .slice none 0 0, .slice none 0 0, .slice none 0 0, .slice none 0 0, .slice none 0 0, .slice xy.bA xy.base.length xy.bc, .int .i64 xy.t, .slice xy.oA xy.ops.length xy.oc, .slice xy.uA xy.us.length xy.uc, .slice xy.wA xy.now.length xy.wc, .slice xA M.length xcc, .int .i64 0, .int .i64 0, .int .i64 (b1 : Nat), .int .i64 0, .slice none 0 0, .int .i64 0]
                    have hE : stE.In ((w8.alloc (.cells #[.int .i64 0, .int .i64 0, .int .i64 0, .int .i64 0, .int .i64 0, .int .i64 0, .slice none 0 0, .int .i64 0, .int .i64 0, .slice none 0 0, .slice none 0 0, .slice none 0 0, .slice none 0 0, .slice none 0 0, .slice none 0 0, .int .i64 0, .slice none 0 0, .slice none 0 0, .slice none 0 0, .slice none 0 0, .int .i64 0, .int .i64 0, .int .i64 0, .int .i64 0, .slice none 0 0, .int .i64 0] 65)).setRow w8.heap.size #[.int .i64 0, .int .i64 0, .int .i64 0, .int .i64 (b0 : Nat), .int .i64 xy.t, .int .i64 (b0 : Nat), .slice none 0 0, .int .i64 0, .int .i64 0, .slice none 0 0, .slice none 0 0, .slice none 0 0, .slice none 0 0, .slice none 0 0, .slice xy.bA xy.base.length xy.bc, .int .i64 xy.t, .slice xy.oA xy.ops.length xy.oc, .slice xy.uA xy.us.length xy.uc, .slice xy.wA xy.now.length xy.wc, .slice xA M.length xcc, .int .i64 0, .int .i64 0, .int .i64 (b1 : Nat), .int .i64 0, .slice none 0 0, .int .i64 0]) w8.heap.size (⟨(b0 : Nat), (b1 : Nat), xy, xA, xcc, M⟩ : Sw) := hZ.set (⟨(b0 : Nat), (b1 : Nat), xy, xA, xcc, M⟩ : Sw) _ rfl
                    replace hM := SlV.below hM hbS
                    replace hxc := SlV.below hxc hbS
                    replace hxp := hxp.below hbS
                    replace hN := below_then hN hbS
                    clear hbS
                    go_upto_region 22 with (first | (refine wpList_alloc_st rfl rfl ?_) | (refine El.store stRow rfl _ _ rfl w8.heap.size (⟨(b0 : Nat), (b1 : Nat), xy, xA, xcc, M⟩ : Sw) #[.int .i64 0, .int .i64 0, .int .i64 0, .int .i64 (b0 : Nat), .int .i64 xy.t, .int .i64 (b0 : Nat), .slice none 0 0, .int .i64 0, .int .i64 0, .slice none 0 0, .slice none 0 0, .slice none 0 0, .slice none 0 0, .slice none 0 0, .slice xy.bA xy.base.length xy.bc, .int .i64 xy.t, .slice xy.oA xy.ops.length xy.oc, .slice xy.uA xy.us.length xy.uc, .slice xy.wA xy.now.length xy.wc, .slice xA M.length xcc, .int .i64 0, .int .i64 0, .int .i64 (b1 : Nat), .int .i64 0, .slice none 0 0, .int .i64 0] rfl rfl rfl Sw.zero hZ ?_) | fail)
                    clear hZ
                    generalize (w8.alloc (.cells #[.int .i64 0, .int .i64 0, .int .i64 0, .int .i64 0, .int .i64 0, .int .i64 0, .slice none 0 0, .int .i64 0, .int .i64 0, .slice none 0 0, .slice none 0 0, .slice none 0 0, .slice none 0 0, .slice none 0 0, .slice none 0 0, .int .i64 0, .slice none 0 0, .slice none 0 0, .slice none 0 0, .slice none 0 0, .int .i64 0, .int .i64 0, .int .i64 0, .int .i64 0, .slice none 0 0, .int .i64 0] 65)).setRow w8.heap.size #[.int .i64 0, .int .i64 0, .int .i64 0, .int .i64 (b0 : Nat), .int .i64 xy.t, .int .i64 (b0 : Nat), .slice none 0 0, .int .i64 0, .int .i64 0, .slice none 0 0, .slice none 0 0, .slice none 0 0, .slice none 0 0, .slice none 0 0, .slice xy.bA xy.base.length xy.bc, .int .i64 xy.t, .slice xy.oA xy.ops.length xy.oc, .slice xy.uA xy.us.length xy.uc, .slice xy.wA xy.now.length xy.wc, .slice xA M.length xcc, .int .i64 0, .int .i64 0, .int .i64 (b1 : Nat), .int .i64 0, .slice none 0 0, .int .i64 0] = V9 at *
                    generalize w8.heap.size = n9 at *
                    have s19 : V9.cell? ⟨n9, 19, none⟩ = some (.slice xA M.length xcc) := hE.cell 19
                    go_wp2_with fail
                    clear s19
                    have HSC := Lib.hid hxc
                    have HSM := Lib.hid hM
                    have HXP := Lib.hid hxp
                    have HN9 := Lib.hid hN
                    have HM12 := Lib.hid hm12
                    clear hxc hM hxp hN
                    go_loopw [20] (fun i wr => ∃ k : Nat, k ≤ M.length ∧ i = .int .i64 k ∧ Below V9.heap.size V9 wr) (fun i _ => M.length - (intOf i).toNat)
                    case atStart => exact ⟨0, Nat.zero_le _, rfl, Below.refl _ _⟩
                    case round =>
                      obtain ⟨k2, hk2, rfl, hN⟩ := hrel
                      by_cases hkm : k2 < M.length
                      · obtain ⟨d1, o1, e1, hw1, hc1⟩ := HSC.out.1 (by omega)
                        obtain ⟨d2, o2, e2, hw2, hc2⟩ := HSM.out.1 (by omega)
                        have hx := cnIdxP (cap := xcc) e1 hkm
                        have hy := cnIdxP (cap := c3) e2 hkm
                        have hat : cnE.At wr d1 (o1 + k2 * 3) M[k2] := (hc1 k2 hkm).below hN hw1
                        have hat' : cnE.At wr d2 (o2 + k2 * 3) M[k2] := (hc2 k2 hkm).below hN hw2
                        obtain ⟨s0, s1, s2⟩ := cnAt3 hat
                        obtain ⟨t0, t1, t2⟩ := cnAt3 hat'
                        have s19 : wr.cell? ⟨n9, 19, none⟩ = some (.slice xA M.length xcc) := (hE.below hN).cell 19
                        generalize M[k2] = xm at *
                        clear hc1 hc2 hat hat' e1 e2
                        go_wp2_with fail
                        go_quiet (fail)
                        go_wp2_with fail
                        exact ⟨⟨k2 + 1, by omega, by go_num, below_drew hN nq⟩, by simp [intOf]; omega⟩
                      · obtain rfl : k2 = M.length := by omega
                        have hE9 := hE.below hN
                        have hBW := below_then HN9.out hN
                        go_wp2_with fail
                        refine (HA.out _).mono ?_
                        rintro r w10 ⟨rfl, hb10⟩
                        have hb9 := below_then hN hb10
                        replace hE9 := hE.below hb9
                        have hBW10 := below_then hBW hb10
                        have hp := HP.out _ hBW10
                        have hv := HI.out
                        have q1 : xy.base.length ≤ 50000 := by have h1 := tree_len hv.tree; have h2 : y.v.base.length = xy.v.base.length := (by rw [hxy]); have h3 : xy.v.base.length = xy.base.length := rfl; omega
                        have q2 : xy.ops.length ≤ 50000 := by have h1 := HOO.out; have h2 : y.v.ops.length = xy.v.ops.length := (by rw [hxy]); have h3 : xy.v.ops.length = xy.ops.length := rfl; have h4 : y.v.ops.length = y.ops.length := rfl; omega
                        have q3 : xy.us.length ≤ 50000 := by have h1 := hv.ulen; have h5 := HOO.out; have h2 : y.v.us.length = xy.v.us.length := (by rw [hxy]); have h3 : xy.v.us.length = xy.us.length := rfl; have h4 : y.v.ops.length = y.ops.length := rfl; omega
                        have q4 : xy.now.length ≤ 50000 := by have h1 := tree_len hv.ntree; have h2 : y.v.now.length = xy.v.now.length := (by rw [hxy]); have h3 : xy.v.now.length = xy.now.length := rfl; omega
                        have CS := Lib.hid (samePast_any xy y w10 (HXP.out.below hb9) (HOK.out.below (HBW.out _ hBW10)) hxy q1 q2 q3 q4)
                        have HXT := Lib.hid (show xy.t = y.t from (congrArg Pv.t hxy).symm)
                        have s3 : w10.cell? ⟨n9, 3, none⟩ = some (.int .i64 (b0 : Nat)) := hE9.cell 3
                        have s5 : w10.cell? ⟨n9, 5, none⟩ = some (.int .i64 (b0 : Nat)) := hE9.cell 5
                        have s4 : w10.cell? ⟨n9, 4, none⟩ = some (.int .i64 y.t) := by rw [← HXT.out]; exact hE9.cell 4
                        have s6 : w10.cell? ⟨n9, 6, none⟩ = some (.slice none 0 0) := hE9.cell 6
                        have s22 : w10.cell? ⟨n9, 22, none⟩ = some (.int .i64 (b1 : Nat)) := hE9.cell 22
                        have s14 : w10.cell? ⟨n9, 14, none⟩ = some (.slice xy.bA xy.base.length xy.bc) := hE9.cell 14
                        have s15 : w10.cell? ⟨n9, 15, none⟩ = some (.int .i64 xy.t) := hE9.cell 15
                        have s16 : w10.cell? ⟨n9, 16, none⟩ = some (.slice xy.oA xy.ops.length xy.oc) := hE9.cell 16
                        have s17 : w10.cell? ⟨n9, 17, none⟩ = some (.slice xy.uA xy.us.length xy.uc) := hE9.cell 17
                        have s18 : w10.cell? ⟨n9, 18, none⟩ = some (.slice xy.wA xy.now.length xy.wc) := hE9.cell 18
                        obtain ⟨p0, p1, p2, p3, p4⟩ := pwIn5 hp
                        have hBw := HBW.out _ hBW10
                        clear hxy hv q1 q2 q3 q4 hE hE9 hp hBW hb9 hb10 hN
                        as_aux_lemma =>
                          go_wp2_with fail
                          refine CS.out.mono ?_
                          clear s3 s4 s5 s6 s22 s14 s15 s16 s17 s18 p0 p1 p2 p3 p4
                          rintro r w11 ⟨rfl, hb11⟩
                          go_wp2_with fail
                          go_ret
                          exact ⟨rfl, below_then hBw hb11⟩
      · have CF := Lib.hid (CR.out false ⟨fun h => (by cases h), fun h => absurd h hR⟩)
        clear hR CR
        go_wp2_with fail
        refine CF.out.mono ?_
        rintro r w1 ⟨rfl, hb1⟩
        replace hB := below_then hB hb1
        clear p0 p1 p2 p3 p4 CF hb1
        go_wp2_with fail
        refine (awake17_any H _).mono ?_
        rintro r w1 ⟨rfl, hb1⟩
        go_wp2_with fail
        go_ret
        exact ⟨rfl, below_then hB hb1⟩
set_option maxRecDepth 100000 in
theorem back17_lifted (H0 : GiftCalls) (os : Os) (started : os.Started) (H : Type) (enc : TypeId × Value → H) :
    ReturnsInHanded {} Try.checked os 5 .any (Rows.giftBackSpec.pre6 enc Try.prog Try.f5 Rows.giftBackRow.domain false) (Rows.giftBackSpec.post enc Try.prog Try.f5 false true false false) := by
  refine handed_sizedP (C := Try.checked) own started (by kernel_rfl) Try.func5
    (ChangeSpec.witness6 (enc := enc) (C := Try.checked) false ⟨#[], #[.agg #[.slice none 0 0, .int .i64 0, .slice none 0 0, .slice none 0 0, .slice none 0 0], .slice none 0 0, .agg #[.int .u8 0, .int .u8 0, .int .u8 0]], []⟩ 8 (by kernel_rfl) (by kernel_rfl) (by kernel_rfl) (by kernel_rfl)) ?_
  intro W base args ds gs before hval0 hW hL0
  have hval : ∀ (j : Nat) t v, Try.f5.params[j]? = some t → args[j]? = some v → Value.okWide Try.prog W .any base t v := hval0
  have hW' := hW
  obtain ⟨p, q, hA0, hV, rfl, _, _⟩ := hW
  have hA : DataW.TrodAll enc Try.prog W 0 (fun _ => true) true Try.f5.params.toList args.toList ds p := hA0
  rw [Try.params5] at hA hval
  obtain ⟨v0, v1, v2, d0, d1, d2, p0, p1, p2, rfl, rfl, rfl, h0, h1, h2⟩ := trodAll_three hA
  simp only [Try.params5, List.cons_append, List.nil_append, DataW.weightsEach, List.all_append, Bool.and_eq_true] at hL0
  obtain ⟨y, rfl, hok, hwd, hlen⟩ := open_pastN (hval 0 27 v0 rfl rfl) h0 hL0.1
  obtain ⟨A, c, l, rfl, hS, _, _, hw⟩ := open_ens (hval 1 42 v1 rfl rfl) h1
  obtain ⟨b0, b1, b2, rfl, g0, g1, g2⟩ := open_u83 (hval 2 43 v2 rfl rfl) h2
  have hc : Calls Try.prog 5 #[.agg #[.slice y.bA y.base.length y.bc, .int .i64 y.t, .slice y.oA y.ops.length y.oc, .slice y.uA y.us.length y.uc, .slice y.wA y.now.length y.wc], .slice A l.length c, .agg #[.int .u8 b0, .int .u8 b1, .int .u8 b2]] W fun e w' => e = .returned (.bool true) ∧ Below W.heap.size W w' := by
    exact back17_any H0 y A c l b0 b1 b2 W g0 g1 g2 hok hlen (fun p hp => by have h := (hwd.1 p hp).2.2; unfold maxLen at h; omega) (fun m hm => by have h := (hwd.2 m hm).2; unfold maxLen at h; omega) hS (fun e he => by have h := (hw e he).2; unfold maxLen at h; omega)
  refine hc.mono fun e W' ⟨he, hb⟩ => ?_
  subst he
  exact ⟨_, rfl, Frm.law_post (by kernel_rfl) (by kernel_rfl) (by kernel_rfl) Try.underlying4 rfl rfl hW' hb⟩

theorem back17_holds (H0 : GiftCalls) : Rows.GiftBackSaid :=
  OpenClaim.holds_of_wide 5 Try.f5 rfl rfl rfl rfl rfl rfl rfl ⟨rfl, rfl, rfl, rfl, rfl⟩ rfl rfl rfl rfl rfl (by kernel_rfl) Try.func5 (by kernel_rfl)
    (of_decide_eq_true (by kernel_rfl)) (by unfold Func.isWrapper; first | (rw [if_pos (by decide +kernel)]; kernel_rfl) | (rw [if_neg (by decide +kernel)]; exact ⟨rfl, rfl⟩))
    (fun os started H enc _ => back17_lifted H0 os started H enc)
end Go.Proofs.Ytfpgfclmmdihjaa

namespace Go.Proofs.Ytfpgfclmmdihjaa
theorem giftBack_all : Rows.GiftBackSaid := back17_holds giftCalls
end Go.Proofs.Ytfpgfclmmdihjaa
