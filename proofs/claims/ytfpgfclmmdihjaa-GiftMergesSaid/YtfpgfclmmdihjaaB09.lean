/- Texts laid one behind the other: Pl, Pq, Pt, Pu, Bc, Bd, Pd, Be, Bf. -/
import Derived.Test.YtfpgfclmmdihjaaB08
import Derived.Deep.CutRange
import Derived.BigRegion
/- GiftCounts, given the program's calls: the counts that any bytes begin with are the document's; counts that may be are read as they were. -/
namespace Go.Proofs.Ytfpgfclmmdihjaa
open Go.ChangeShapes Go.WideShapes Go.ChangeAt Go.RowKit Go.Deep Nam Cod Tre Pst

theorem cnt_good {e : En} (h : entB e = true) {c : Cn} (hc : cntOf e = some c) : cnB c = true ∧ CnW c := by
  unfold cntOf at hc
  unfold entB at h
  split at hc
  · rename_i h1
    rw [if_pos h1, Bool.and_eq_true] at h
    have h2 := h.2
    unfold okB opB atB cntB at h2
    simp only [Bool.and_eq_true, decide_eq_true_iff] at h2
    injection hc with hc
    subst hc
    refine ⟨?_, ?_⟩
    · unfold cnB; rw [decide_eq_true_iff]; dsimp only; omega
    · unfold CnW i64; dsimp only; omega
  · split at hc
    · rename_i h1 h3
      rw [if_neg h1, if_pos (Or.inr h3), Bool.and_eq_true] at h
      have h2 := h.1
      unfold lifeB at h2
      rw [decide_eq_true_iff] at h2
      injection hc with hc
      subst hc
      refine ⟨?_, ?_⟩
      · unfold cnB; rw [decide_eq_true_iff]; dsimp only; omega
      · unfold CnW i64; dsimp only; omega
    · cases hc
theorem tallies_ok (l : List En) : ∀ k, k ≤ l.length → (∀ j (h : j < l.length), j < k → entB l[j] = true) → RisC (tallies (l.take k)) ∧ ∀ c ∈ tallies (l.take k), cnB c = true ∧ CnW c
  | 0, _, _ => ⟨by rw [List.take_zero]; exact List.Pairwise.nil, fun c hc => by rw [List.take_zero] at hc; cases hc⟩
  | k + 1, hk, h => by
    obtain ⟨h1, h2⟩ := tallies_ok l k (by omega) (fun j hj hjk => h j hj (by omega))
    have hb := h k (by omega) (by omega)
    rw [tallies_next l k (by omega)]
    refine ⟨tally_ris h1 _, fun c hc => ?_⟩
    unfold tally at hc
    cases hce : cntOf l[k] with
    | none => rw [hce] at hc; exact h2 c hc
    | some c0 =>
      rw [hce] at hc
      rcases mem_putC h1 hc with rfl | ⟨h3, _⟩
      · exact cnt_good hb hce
      · exact h2 c h3
theorem ris_len12 {l : List Cn} (hr : RisC l) (h : ∀ c ∈ l, cnB c = true) : l.length ≤ 12 := by
  have h1 : ∀ k (hk : k < l.length), (k : Int) ≤ l[k].d := fun k => by
    induction k with
    | zero =>
      intro hk
      have := h l[0] (List.getElem_mem _)
      unfold cnB at this
      rw [decide_eq_true_iff] at this
      omega
    | succ k ih =>
      intro hk
      have h2 := List.pairwise_iff_getElem.1 hr k (k + 1) (by omega) hk (by omega)
      have h3 := ih (by omega)
      omega
  by_cases h0 : l.length = 0
  · omega
  · have h2 := h1 (l.length - 1) (by omega)
    have h3 := h (l[l.length - 1]'(by omega)) (List.getElem_mem _)
    unfold cnB at h3
    rw [decide_eq_true_iff] at h3
    omega
theorem ris_cnsB {l : List Cn} (hr : RisC l) (h : ∀ c ∈ l, cnB c = true) : cnsB l = true := by
  rw [cnsB_iff]
  intro j hj _
  refine ⟨h _ (List.getElem_mem _), fun h0 => ?_⟩
  rw [List.getD_eq_getElem?_getD, List.getElem?_eq_getElem (show j - 1 < l.length by omega)]
  exact List.pairwise_iff_getElem.1 hr (j - 1) j (by omega) hj (by omega)
theorem cnW_raw {c : Cn} (h : CnW c) : cnRaw c = true := cnRaw_iff.2 h
theorem cat_cn {l : List Cn} (h : ∀ c ∈ l, CnW c) (k : Nat) : (cnK.cat (l.take k)).size ≤ 30 * l.length := cnCat_le h k

set_option maxRecDepth 100000 in
set_option maxHeartbeats 2000000 in
theorem counts17_no (H : GiftCalls) (s : ByteArray) (A : Option Addr) (c : Nat) (l : List En) (w : World) (h : 1000 < s.size ∨ 30 < l.length) (hs : s.size ≤ 9223372036854775807) : Calls Try.prog 7 #[.string s, .slice A l.length c] w fun r w' => r = .returned (.bool true) ∧ Below w.heap.size w w' := by
  by_cases h1 : 1000 < s.size
  · have f1 : decide ((1000 : Int) < (s.size : Int)) = true := decide_eq_true (by omega)
    have f2 : decide (1000 < s.size) = true := decide_eq_true h1
    go_enter Try.func7, Try.ntmps7
    go_wp2_with fail
    refine (awake17_any H _).mono ?_
    rintro r w1 ⟨rfl, hb1⟩
    go_wp2_with fail
    go_ret
    exact ⟨rfl, hb1⟩
  · have f1 : decide ((1000 : Int) < (s.size : Int)) = false := decide_eq_false (by omega)
    have f2 : decide (1000 < s.size) = false := decide_eq_false h1
    have f3 : decide ((30 : Int) < (l.length : Int)) = true := decide_eq_true (by omega)
    have f4 : decide (30 < l.length) = true := decide_eq_true (by omega)
    go_enter Try.func7, Try.ntmps7
    go_wp2_with fail
    refine (awake17_any H _).mono ?_
    rintro r w1 ⟨rfl, hb1⟩
    go_wp2_with fail
    go_ret
    exact ⟨rfl, hb1⟩
/-- What both have read: the same list. -/
theorem cns_both {s : ByteArray} {p : Nat} {bad : Bool} {l l' : List Cn} {q q' : Nat} {b b' : Bool} (h : cnsStep s p bad l q b) (h' : cnsStep s p bad l' q' b') : l = l' ∧ b = b' ∧ (b = true ∨ q = q') := by
  rcases h with ⟨h, rfl⟩ | ⟨h, rfl, rfl⟩
  · rcases h' with ⟨h', rfl⟩ | ⟨h', _, _⟩
    · rw [h] at h'
      injection h' with h'
      injection h' with e1 e2
      exact ⟨e1, rfl, Or.inr e2⟩
    · rw [h] at h'; cases h'
  · rcases h' with ⟨h', _⟩ | ⟨_, rfl, rfl⟩
    · rw [h] at h'; cases h'
    · exact ⟨rfl, rfl, Or.inl rfl⟩
theorem cns_len {s : ByteArray} {p : Nat} {bad : Bool} {l : List Cn} {q : Nat} {b : Bool} (h : cnsStep s p bad l q b) : l.length ≤ 12 := by
  rcases h with ⟨h, _⟩ | ⟨_, rfl, _⟩
  · unfold isCns at h
    cases hp : cnK.isPart 12 s p bad with
    | none => rw [hp] at h; cases h
    | some a =>
      obtain ⟨L1, qL⟩ := a
      rw [hp, Option.bind_some] at h
      split at h
      · injection h with h
        injection h with h1 h2
        have := (cnK.part_bytes hp).1
        subst h1
        omega
      · cases h
  · exact Nat.zero_le _
theorem enIdxP {A : Option Addr} {b off len cap k : Nat} (hA : A = some ⟨b, off, none⟩) (h : k < len) : ∀ w, (Instr.indexAt 42 (.slice A len cap) (.int .i64 k)).run Try.prog w = .ok (.pointer (some ⟨b, off + k * 10, none⟩)) w := fun w => by
  subst hA
  have h2 : (k : Int) < (len : Int) := by omega
  go_simp
theorem SlV.keepR {w w' : World} {A : Option Addr} {c : Nat} {l : List Cn} {T : TypeId} {b q : Nat} {s : ByteArray} {bd : Bool} (h : SlV cnE w A c l) (hR : Rd T w b s q bd) (hg : w.grownBy w' (some b)) : SlV cnE w' A c l := by
  refine ⟨fun h0 => ?_, h.2⟩
  obtain ⟨b1, off, e, hl, hc⟩ := h.1 h0
  have hne : b1 ≠ b := by
    rintro rfl
    have hat : cnE.At w b1 off l[0] := by have h := hc 0 h0; simpa using h
    obtain ⟨s0, s1, s2⟩ := cnAt3 hat
    have f := fun i => cell_of_row w b1 i _ T (0, 0) hR
    rw [f] at s0 s1 s2
    match off with
    | 0 => simp at s0
    | 1 => simp at s1
    | 2 => simp at s0
    | n + 3 => simp at s0
  exact ⟨b1, off, e, Nat.lt_of_lt_of_le hl hg.size, fun i hi => (hc i hi).grown hg (fun e => hne (Option.some.inj e))⟩
set_option maxRecDepth 100000 in
set_option maxHeartbeats 16000000 in
theorem counts17_yes (H : GiftCalls) (s : ByteArray) (A : Option Addr) (c : Nat) (l : List En) (w : World) (hs : s.size ≤ 1000) (hl : l.length ≤ 30) (hT : enE.Sl w A l) (hlw : ∀ e ∈ l, e.o.s.size ≤ 9223372036854775807) : Calls Try.prog 7 #[.string s, .slice A l.length c] w fun r w' => r = .returned (.bool true) ∧ Below w.heap.size w w' := by
  have f1 : decide ((1000 : Int) < (s.size : Int)) = false := decide_eq_false (by omega)
  have f2 : decide (1000 < s.size) = false := decide_eq_false (by omega)
  have f3 : decide ((30 : Int) < (l.length : Int)) = false := decide_eq_false (by omega)
  have f4 : decide (30 < l.length) = false := decide_eq_false (by omega)
  have HA := Lib.hid (fun wx => awake17_any H wx)
  have HH := Lib.hid H
  have HT := Lib.hid hT
  have HLW := Lib.hid hlw
  have hRa := (Rd.new w 75 s 0 rfl).below (below_alloc (Below.refl _ (w.alloc (.cells #[.string s, .int .i64 0, .bool false] 75))) (.cells #[.string s, .int .i64 0, .bool false] 77))
  have hRb := Rd.new (w.alloc (.cells #[.string s, .int .i64 0, .bool false] 75)) 77 s 0 rfl
  rw [alloc_size] at hRb
  have hB := below_alloc (below_alloc (Below.refl w.heap.size w) (.cells #[.string s, .int .i64 0, .bool false] 75)) (.cells #[.string s, .int .i64 0, .bool false] 77)
  clear H hT hlw
  go_enter Try.func7, Try.ntmps7
  go_wp2_with fail
  clear f1 f2 f3 f4
  generalize (w.alloc (.cells #[.string s, .int .i64 0, .bool false] 75)).alloc (.cells #[.string s, .int .i64 0, .bool false] 77) = W at *
  obtain ⟨nb, hnb⟩ : ∃ n, w.heap.size + 1 = n := ⟨_, rfl⟩
  obtain ⟨na, hna⟩ : ∃ n, w.heap.size = n := ⟨_, rfl⟩
  have hne : na ≠ nb := by omega
  have hwa : w.heap.size ≤ na := by omega
  have hwb : w.heap.size ≤ nb := by omega
  rw [hnb] at hRb ⊢
  rw [hna] at hRa ⊢
  clear hna hnb
  refine (HH.out.counts W na 0 s false (by omega) (Nat.zero_le _) hRa).mono ?_
  rintro e w1 ⟨A1, c1, LS, q1, b1, rfl, hS1, hRa1, hq1, hg1, st1⟩
  have hRb1 := hRb.keep hg1 (fun e => hne (Option.some.inj e).symm)
  replace hB := hB.grown hg1 hB.size (fun k e => by cases e; exact hwa)
  clear hRa hRb hg1
  have hra := hRa1.lt
  go_wp2_with fail
  refine (refReadCounts_uni w1 nb 0 s false (by omega) (Nat.zero_le _) hRb1).mono ?_
  rintro e w2 ⟨A2, c2, L2, q2, b2, rfl, hS2, hRb2, hq2, hg2, st2⟩
  obtain ⟨eL, eb, hqq⟩ := cns_both st1 st2
  have hL12 := cns_len st1
  subst eL
  subst eb
  have hS1' := SlV.keepR hS1 hRb1 hg2
  have hRa2 := hRa1.keep hg2 (fun e => hne (Option.some.inj e))
  replace hB := hB.grown hg2 hB.size (fun k e => by cases e; exact hwb)
  clear st1 st2 hS1 hRa1 hRb1 hg2 hra
  obtain ⟨r0, r1, r2⟩ := hRa2.cells
  obtain ⟨t0, t1, t2⟩ := hRb2.cells
  clear hRa2 hRb2
  have hb0 := Below.refl w2.heap.size w2
  go_upto_region 5 with fail
  go_cut [69] from 36 to 69 (fun v wx => v = .bool false ∧ Below w2.heap.size w2 wx)
  case first =>
    cases b1 with
    | true =>
      go_quiet (fail)
      go_wp2_with fail
      go_meet
      exact ⟨rfl, below_drew hb0 nq⟩
    | false =>
      obtain rfl : q1 = q2 := hqq.resolve_left (by decide)
      go_quiet (fail)
      go_wp2_with fail
      go_meet
      exact ⟨rfl, below_drew hb0 nq⟩
  case rest =>
    obtain ⟨rfl, hbx⟩ := hcut
    as_aux_lemma =>
      clear r0 r1 r2 t0 t1 t2 hqq hb0
      have HS1 := Lib.hid (SlV.below hS1' hbx)
      have HS2 := Lib.hid (SlV.below hS2 hbx)
      replace hB := below_then hB hbx
      clear hS1' hS2 hbx
      go_wp2_with fail
      -- 9 the loop's slot, HS1 HS2 and c1 c2 where the two lists lie, LS the list, wc what Below is of, $8 the region
      go_loopw [9] (fun y wr => ∃ k : Nat, k ≤ LS.length ∧ y = .int .i64 k ∧ Below wc.heap.size wc wr) (fun y _ => LS.length - (intOf y).toNat)
      case atStart => exact ⟨0, Nat.zero_le _, rfl, Below.refl _ _⟩
      case round =>
        obtain ⟨k, hk, rfl, hN⟩ := hrel
        by_cases hkl : k < LS.length
        · obtain ⟨b1, o1, e1, hw1, hc1⟩ := HS1.out.1 (by omega)
          obtain ⟨b2, o2, e2, hw2, hc2⟩ := HS2.out.1 (by omega)
          have hx := cnIdxP (cap := c1) e1 hkl
          have hy := cnIdxP (cap := c2) e2 hkl
          have hat : cnE.At wr b1 (o1 + k * 3) LS[k] := (hc1 k hkl).below hN hw1
          have hat' : cnE.At wr b2 (o2 + k * 3) LS[k] := (hc2 k hkl).below hN hw2
          obtain ⟨s0, s1, s2⟩ := cnAt3 hat
          obtain ⟨t0, t1, t2⟩ := cnAt3 hat'
          generalize LS[k] = x at *
          clear hc1 hc2 hat hat' e1 e2
          go_wp2_with fail
          go_quiet (fail)
          go_wp2_with fail
          exact ⟨⟨k + 1, by omega, by go_num, below_drew hN nq⟩, by simp [intOf]; omega⟩
        · obtain rfl : k = LS.length := by omega
          have hBw := below_then hB hN
          clear hB hN HS1 HS2 hkl hk
          have HK0 := Lib.hid (fun (j : Nat) (h : j < l.length) (hj : j < 0) => (absurd hj (Nat.not_lt_zero j) : entB l[j] = true))
          have hM0 : SlV cnE wr none 0 (tallies (l.take 0)) := by rw [List.take_zero]; exact SlV.nil cnE _
          go_wp2_with fail
          go_loopw [10, 12] (fun x y wq => ∃ (k : Nat) (A3 : Option Addr) (c3 : Nat), k ≤ l.length ∧ x = .slice A3 (tallies (l.take k)).length c3 ∧ y = .int .i64 k ∧ SlV cnE wq A3 c3 (tallies (l.take k)) ∧ Hid (∀ j (h : j < l.length), j < k → entB l[j] = true) ∧ Below w.heap.size w wq) (fun _ y _ => l.length - (intOf y).toNat)
          case atStart => exact ⟨0, none, 0, Nat.zero_le _, by rw [List.take_zero]; rfl, rfl, hM0, HK0, hBw⟩
          case round =>
            clear hM0 HK0 hBw
            obtain ⟨k, A3, c3, hk, rfl, rfl, hM, HK, hN⟩ := hrel
            by_cases hkl : k < l.length
            · obtain ⟨b, off, eA, hbw, hc⟩ := HT.out (by omega)
              have hx := enIdxP (cap := c) eA hkl
              have hat : enE.At wr b (off + k * 10) l[k] := (hc k hkl).below hN hbw
              have hbr := Nat.lt_of_lt_of_le hbw hN.size
              have HNX := Lib.hid (tallies_next l k hkl)
              have hlen := (tallies_inv l k hk).2.1
              have hlx := HLW.out l[k] (List.getElem_mem _)
              have HKN := Lib.hid (fun (h : entB l[k] = true) (j : Nat) (hj : j < l.length) (hjk : j < k + 1) => (by
                by_cases e : j < k
                · exact HK.out j hj e
                · obtain rfl : j = k := by omega
                  exact h : entB l[j] = true))
              generalize l[k] = x at *
              generalize tallies (l.take k) = M at *
              have CR := Lib.hid (fun wx => refEntRight_any x wx hlx)
              have HTL := Lib.hid (fun wx (hS : SlV cnE wx A3 c3 M) => refTally_any A3 c3 M x wx (by omega) hS)
              obtain ⟨bv, hbv⟩ : ∃ bv, entB x = bv := ⟨_, rfl⟩
              rw [hbv] at CR HKN
              clear hc eA hlen hlx hbv
              go_wp2_with (first | (refine El.load enRow rfl _ rfl b (off + k * 10) rfl x hat #[.int .i64 x.k, .int .i64 x.d, .int .i64 x.i, .int .i64 x.o.C, .int .i64 x.o.D, .int .i64 x.o.I, .int .i64 x.o.M, .int .i64 x.o.K, .int .i64 x.o.U, .string x.o.s] rfl ?_) | fail)
              refine (CR.out _).mono ?_
              rintro r w3 ⟨rfl, hb3⟩
              cases bv with
              | false =>
                have hN3 := below_then hN hb3
                clear hM hb3 hat hx CR HTL HNX HKN HK hN
                go_wp2_with fail
                refine (HA.out _).mono ?_
                rintro r w4 ⟨rfl, hb4⟩
                go_wp2_with fail
                go_ret
                exact ⟨rfl, below_then hN3 hb4⟩
              | true =>
                have hN3 := below_then hN hb3
                have hat3 := hat.below hb3 hbr
                have hM3 := SlV.below hM hb3
                have HKN2 := Lib.hid (HKN.out rfl)
                clear hM hb3 hat CR HKN HK hN
                go_wp2_with (first | (refine El.load enRow rfl _ rfl b (off + k * 10) rfl x hat3 #[.int .i64 x.k, .int .i64 x.d, .int .i64 x.i, .int .i64 x.o.C, .int .i64 x.o.D, .int .i64 x.o.I, .int .i64 x.o.M, .int .i64 x.o.K, .int .i64 x.o.U, .string x.o.s] rfl ?_) | fail)
                refine (HTL.out _ hM3).mono ?_
                rintro r w4 ⟨A4, c4, rfl, hM4, hb4⟩
                go_wp2_with fail
                exact ⟨⟨k + 1, A4, c4, by omega, by rw [HNX.out], by go_num, by rw [HNX.out]; exact hM4, HKN2, below_then hN3 hb4⟩, by simp [intOf]; omega⟩
            · obtain rfl : k = l.length := by omega
              obtain ⟨hris, hgood⟩ := tallies_ok l l.length (Nat.le_refl _) HK.out
              rw [List.take_length] at hM hris hgood ⊢
              generalize tallies l = M at *
              have hm12 := ris_len12 hris (fun c hc => (hgood c hc).1)
              have hcb := ris_cnsB hris (fun c hc => (hgood c hc).1)
              have HW := Lib.hid (fun c (hc : c ∈ M) => (hgood c hc).2)
              have HCB := Lib.hid hcb
              have HCAT := Lib.hid (cnCat_le (fun c hc => (hgood c hc).2))
              clear hris hgood hcb HK hkl hk
              go_wp2_with fail
              go_loopw [11, 13] (fun v i wq => ∃ k : Nat, k ≤ M.length ∧ i = .int .i64 k ∧ v = .string (cnK.cat (M.take k)) ∧ SlV cnE wq A3 c3 M ∧ Below w.heap.size w wq) (fun _ i _ => M.length - (intOf i).toNat)
              case atStart => exact ⟨0, Nat.zero_le _, rfl, by rw [List.take_zero]; rfl, hM, hN⟩
              case round =>
                clear hM hN
                obtain ⟨k, hk, rfl, rfl, hM, hN⟩ := hrel
                by_cases hkl : k < M.length
                · obtain ⟨b, off, eA, hbw, hc⟩ := hM.1 (by omega)
                  have hx := cnIdxF (cap := c3) eA hkl
                  have hat : cnE.At wr b (off + k * 3) M[k] := hc k hkl
                  have hzk := HCAT.out k
                  have HNX := Lib.hid (show cnK.cat (M.take (k + 1)) = cnK.cat (M.take k) ++ cnBytes M[k] by rw [cnK.cat_next M k hkl]; rfl)
                  obtain ⟨i1, i2, i3⟩ := HW.out M[k] (List.getElem_mem _)
                  generalize M[k] = x at *
                  generalize cnK.cat (M.take k) = Z at *
                  have D1 := Lib.hid (fun wx => num_any x.d wx i1.1 i1.2)
                  have D2 := Lib.hid (fun wx => num_any x.i wx i2.1 i2.2)
                  have D3 := Lib.hid (fun wx => num_any x.n wx i3.1 i3.2)
                  have z1 := bytesOf_le10 i1
                  have z2 := bytesOf_le10 i2
                  have z3 := bytesOf_le10 i3
                  have HX := Lib.hid (show cnBytes x = bytesOf x.d ++ bytesOf x.i ++ bytesOf x.n from rfl)
                  generalize cnBytes x = Bx at *
                  generalize bytesOf x.d = x1 at *
                  generalize bytesOf x.i = x2 at *
                  generalize bytesOf x.n = x3 at *
                  have HNV := Lib.hid (show cnK.cat (M.take (k + 1)) = Z ++ x1 ++ x2 ++ x3 by rw [HNX.out, HX.out]; simp only [ByteArray.append_assoc])
                  have y1 : ¬ 9223372036854775807 < Z.size + x1.size := by omega
                  have y2 : ¬ 9223372036854775807 < Z.size + x1.size + x2.size := by omega
                  have y3 : ¬ 9223372036854775807 < Z.size + x1.size + x2.size + x3.size := by omega
                  clear hc eA i1 i2 i3 hzk HNX HX z1 z2 z3
                  go_upto_region 23 with fail
                  replace hat : cnE.At wr.drew b (off + k * 3) x := hat
                  replace hM : SlV cnE wr.drew A3 c3 M := hM
                  replace hN := hN.drew
                  replace hbw : b < wr.drew.heap.size := hbw
                  go_region_held3 (fun w' => w'.cell? ⟨b, off + k * 3, none⟩ = some (.int .i64 x.d) ∧ w'.cell? ⟨b, off + k * 3 + 1, none⟩ = some (.int .i64 x.i) ∧ w'.cell? ⟨b, off + k * 3 + 2, none⟩ = some (.int .i64 x.n)) (with_reducible exact cnAt3 hat) (first | (go_at_call 27; (with_reducible first | refine (D1.out _).mono ?_ | refine (D2.out _).mono ?_ | refine (D3.out _).mono ?_); rintro e w3 ⟨rfl, hb3⟩; have hat := hat.below hb3 hbw; have hbw := Nat.lt_of_lt_of_le hbw hb3.size; have hM := SlV.below hM hb3; have hN := below_then hN hb3))
                  all_goals
                    clear hat hbw y1 y2 y3 D1 D2 D3 hx
                    go_wp2_with fail
                    exact ⟨⟨k + 1, by omega, by go_num, by rw [HNV.out], hM, hN⟩, by simp [intOf]; omega⟩
                · obtain rfl : k = M.length := by omega
                  rw [List.take_length]
                  have hzk := HCAT.out M.length
                  rw [List.take_length] at hzk
                  have C4 := Lib.hid (fun wx => num_any (M.length : Int) wx (by omega) (by omega))
                  have z4 := bytesOf_le10 (n := (M.length : Int)) (by unfold i64; omega)
                  have hX : bytesOf M.length ++ cnK.cat M = cnK.part M := rfl
                  have hXis := cns_there ⟨#[]⟩ ⟨#[]⟩ HCB.out (fun c hc => cnW_raw (HW.out c hc)) hm12
                  rw [show (ByteArray.mk #[]) ++ (cnK.part M ++ ⟨#[]⟩) = cnK.part M from L_inj (by rw [L_app, L_app]; simp [L]), show (ByteArray.mk #[]).size = 0 from rfl, Nat.zero_add] at hXis
                  have hXs : (cnK.part M).size ≤ 1000 := by rw [← hX, ByteArray.size_append]; omega
                  have hy : ¬ 9223372036854775807 < (bytesOf M.length).size + (cnK.cat M).size := by omega
                  rw [← hX] at hXis hXs
                  clear hX hzk
                  generalize bytesOf (M.length : Int) = x4 at *
                  generalize cnK.cat M = x5 at *
                  go_wp2_with fail
                  refine (C4.out _).mono ?_
                  rintro e w4 ⟨rfl, hb4⟩
                  replace hM := SlV.below hM hb4
                  replace hN := below_then hN hb4
                  have hRr := Rd.new w4 75 (x4 ++ x5) 0 rfl
                  have hal := below_alloc (Below.refl w4.heap.size w4) (.cells #[.string (x4 ++ x5), .int .i64 0, .bool false] 75)
                  have hN0 := hN.size
                  replace hM := SlV.below hM hal
                  replace hN := below_then hN hal
                  clear hb4 hal C4 z4
                  go_upto_region 25 with fail
                  clear hy
                  generalize x4 ++ x5 = X at *
                  generalize w4.alloc (.cells #[.string X, .int .i64 0, .bool false] 75) = V4 at *
                  generalize w4.heap.size = nr at *
                  go_wp2_with fail
                  refine (HH.out.counts V4 nr 0 X false (by omega) (Nat.zero_le _) hRr).mono ?_
                  rintro e w5 ⟨A5, c5, L5, q5, b5, rfl, hS5, hR5, hq5, hg5, st5⟩
                  obtain ⟨e1, e2, e3⟩ : L5 = M ∧ q5 = X.size ∧ b5 = false := by
                    rcases st5 with ⟨h, hb⟩ | ⟨h, _, _⟩
                    · rw [hXis] at h
                      injection h with h
                      injection h with h1 h2
                      exact ⟨h1.symm, h2.symm, hb⟩
                    · rw [hXis] at h; cases h
                  subst e1
                  subst e3
                  rw [e2] at hR5
                  replace hM := SlV.keepR hM hRr hg5
                  replace hN := hN.grown hg5 hN.size (fun k e => by cases e; exact hN0)
                  have CD := done_any (Nat.le_refl _) hR5
                  rw [show isDone X X.size false = true by unfold isDone; simp] at CD
                  have HCD := Lib.hid CD
                  clear st5 hq5 hg5 hR5 hRr CD hXis e2 hN0
                  go_wp2_with fail
                  refine HCD.out.mono ?_
                  rintro e w6 ⟨rfl, n6, rfl⟩
                  have hd6 := below_drew (Below.refl w5.heap.size w5) n6
                  have HS5 := Lib.hid (SlV.below hS5 hd6)
                  have HSM := Lib.hid (SlV.below hM hd6)
                  replace hN := below_then hN hd6
                  clear hS5 hM hd6 HCD
                  generalize w5.drewN n6 = W6 at *
                  have hN0 := hN
                  clear hN
                  go_wp2_with fail
                  -- 16 the loop's slot, HS5 HSM and c5 c3 where the two lists lie, L5 the list, W6 what Below is of, $8 the region
                  go_loopw [16] (fun y wr => ∃ k : Nat, k ≤ L5.length ∧ y = .int .i64 k ∧ Below W6.heap.size W6 wr) (fun y _ => L5.length - (intOf y).toNat)
                  case atStart => exact ⟨0, Nat.zero_le _, rfl, Below.refl _ _⟩
                  case round =>
                    obtain ⟨k, hk, rfl, hN⟩ := hrel
                    by_cases hkl : k < L5.length
                    · obtain ⟨b1, o1, e1, hw1, hc1⟩ := HS5.out.1 (by omega)
                      obtain ⟨b2, o2, e2, hw2, hc2⟩ := HSM.out.1 (by omega)
                      have hx := cnIdxP (cap := c5) e1 hkl
                      have hy := cnIdxP (cap := c3) e2 hkl
                      have hat : cnE.At wr b1 (o1 + k * 3) L5[k] := (hc1 k hkl).below hN hw1
                      have hat' : cnE.At wr b2 (o2 + k * 3) L5[k] := (hc2 k hkl).below hN hw2
                      obtain ⟨s0, s1, s2⟩ := cnAt3 hat
                      obtain ⟨t0, t1, t2⟩ := cnAt3 hat'
                      generalize L5[k] = x at *
                      clear hc1 hc2 hat hat' e1 e2
                      go_wp2_with fail
                      go_quiet (fail)
                      go_wp2_with fail
                      exact ⟨⟨k + 1, by omega, by go_num, below_drew hN nq⟩, by simp [intOf]; omega⟩
                    · obtain rfl : k = L5.length := by omega
                      have hBw := below_then hN0 hN
                      go_wp2_with fail
                      refine (HA.out _).mono ?_
                      rintro r w7 ⟨rfl, hb7⟩
                      go_wp2_with fail
                      go_ret
                      exact ⟨rfl, below_then hBw hb7⟩
set_option maxRecDepth 100000 in
theorem counts17_lifted (H0 : GiftCalls) (os : Os) (started : os.Started) (H : Type) (enc : TypeId × Value → H) :
    ReturnsInHanded {} Try.checked os 7 .any (Rows.giftCountsSpec.pre6 enc Try.prog Try.f7 Rows.giftCountsRow.domain false) (Rows.giftCountsSpec.post enc Try.prog Try.f7 false true false false) := by
  refine returnsInHanded_of_change (C := Try.checked) own started (by kernel_rfl) Try.func7
    (ChangeSpec.witness6 (enc := enc) (C := Try.checked) false ⟨#[], #[.string ⟨#[]⟩, .slice none 0 0], []⟩ 8 (by kernel_rfl) (by kernel_rfl) (by kernel_rfl) (by kernel_rfl)) ?_
  intro W base args ds gs before hval0 hW _ _
  have hval : ∀ (j : Nat) t v, Try.f7.params[j]? = some t → args[j]? = some v → Value.okWide Try.prog W .any base t v := hval0
  have hW' := hW
  obtain ⟨p, q, hA0, hV, rfl, _, _⟩ := hW
  have hA : DataW.TrodAll enc Try.prog W 0 (fun _ => true) true Try.f7.params.toList args.toList ds p := hA0
  rw [Try.params7] at hA hval
  obtain ⟨v0, v1, d0, d1, p0, p1, rfl, rfl, rfl, h0, h1⟩ := trodAll_two hA
  obtain ⟨s, rfl, hsz⟩ := open_str (hval 0 9 v0 rfl rfl) h0
  obtain ⟨A, c, l, rfl, hS, _, _, hw⟩ := open_ens (hval 1 42 v1 rfl rfl) h1
  have hc : Calls Try.prog 7 #[.string s, .slice A l.length c] W fun e w' => e = .returned (.bool true) ∧ Below W.heap.size W w' := by
    by_cases h : s.size ≤ 1000 ∧ l.length ≤ 30
    · exact counts17_yes H0 s A c l W h.1 h.2 hS (fun e he => by have h := (hw e he).2; unfold maxLen at h; omega)
    · exact counts17_no H0 s A c l W (by omega) (by unfold maxLen at hsz; omega)
  refine hc.mono fun e W' ⟨he, hb⟩ => ?_
  subst he
  exact ⟨_, rfl, Frm.law_post (by kernel_rfl) (by kernel_rfl) (by kernel_rfl) Try.underlying4 rfl rfl hW' hb⟩

theorem counts17_holds (H0 : GiftCalls) : Rows.GiftCountsSaid :=
  OpenClaim.holds_of_wide 7 Try.f7 rfl rfl rfl rfl rfl rfl rfl ⟨rfl, rfl, rfl, rfl, rfl⟩ rfl rfl rfl rfl rfl (by kernel_rfl) Try.func7 (by kernel_rfl)
    (of_decide_eq_true (by kernel_rfl)) (by unfold Func.isWrapper; first | (rw [if_pos (by decide +kernel)]; kernel_rfl) | (rw [if_neg (by decide +kernel)]; exact ⟨rfl, rfl⟩))
    (fun os started H enc _ => counts17_lifted H0 os started H enc)
end Go.Proofs.Ytfpgfclmmdihjaa

/- The document's Thaw, of any bytes (3,000 at most). -/
namespace Go.Proofs.Ytfpgfclmmdihjaa
open Go.RowKit Tre Cod Pst Nam

theorem SlV.keepRG {α : Type} {E : El α} {w w' : World} {A : Option Addr} {c : Nat} {l : List α} {b : Nat} (h : SlV E w A c l) (hno : ∀ off (h : 0 < l.length), ¬ E.At w b off l[0]) (hg : w.grownBy w' (some b)) : SlV E w' A c l := by
  refine ⟨fun h0 => ?_, h.2⟩
  obtain ⟨b1, off, e, hl, hc⟩ := h.1 h0
  have hne : b1 ≠ b := by
    rintro rfl
    exact hno _ h0 (hc 0 h0)
  exact ⟨b1, off, e, Nat.lt_of_lt_of_le hl hg.size, fun i hi => (hc i hi).grown hg (fun e => hne (Option.some.inj e))⟩
theorem PastOk.keepR {w w' : World} {y : Pw} {T : TypeId} {b q : Nat} {s : ByteArray} {bd : Bool} (h : PastOk w y) (hR : Rd T w b s q bd) (hg : w.grownBy w' (some b)) : PastOk w' y := by
  have f := fun i => cell_of_row w b i _ T (0, 0) hR
  have hp : ∀ off x, ¬ plE.At w b off x := fun off x ha => by
    have s0 := ha 0 _ rfl
    have s1 := ha 1 _ rfl
    rw [f] at s0 s1
    match off with
    | 0 => simp at s0
    | 1 => simp at s1
    | 2 => simp at s0
    | n + 3 => simp at s0
  have ho : ∀ off x, ¬ opE.At w b off x := fun off x ha => by
    have s0 := ha 3 _ rfl
    rw [f] at s0
    simp at s0
  have hu : ∀ off x, ¬ unE.At w b off x := fun off x ha => by
    have s0 := ha 3 _ rfl
    rw [f] at s0
    simp at s0
  exact ⟨h.b.keepRG (fun o _ => hp o _) hg, h.o.keepRG (fun o _ => ho o _) hg, h.u.keepRG (fun o _ => hu o _) hg, h.w.keepRG (fun o _ => hp o _) hg⟩
theorem st_zeros : ∀ v ∈ stE.c Sw.zero, v = .int .i64 0 ∨ v = .slice none 0 0 := by
  intro v hv
  simp only [stE, Sw.zero, Pw.zero, List.length_nil, List.mem_cons, List.not_mem_nil, or_false] at hv
  rcases hv with rfl | rfl | rfl | rfl | rfl | rfl | rfl | rfl | rfl | rfl | rfl | rfl | rfl | rfl | rfl | rfl | rfl | rfl | rfl | rfl | rfl | rfl | rfl | rfl | rfl | rfl <;> simp
theorem st_zero_at {w : World} {n i : Nat} {v : Value} (hZ : stE.In w n Sw.zero) (h : w.cell? ⟨n, i, none⟩ = some v) : v = .int .i64 0 ∨ v = .slice none 0 0 := by
  rw [hZ.cell] at h
  exact st_zeros v (List.mem_of_getElem? h)
theorem PastOk.keepZ {w w' : World} {y : Pw} {n : Nat} (h : PastOk w y) (hZ : stE.In w n Sw.zero) (hg : w.grownBy w' (some n)) : PastOk w' y := by
  have hp : ∀ off x, ¬ plE.At w n off x := fun off x ha => by
    rcases st_zero_at hZ (ha 2 _ rfl) with h | h <;> cases h
  have ho : ∀ off x, ¬ opE.At w n off x := fun off x ha => by
    rcases st_zero_at hZ (ha 6 _ rfl) with h | h <;> cases h
  have hu : ∀ off x, ¬ unE.At w n off x := fun off x ha => by
    rcases st_zero_at hZ (ha 2 _ rfl) with h | h <;> cases h
  exact ⟨h.b.keepRG (fun o _ => hp o _) hg, h.o.keepRG (fun o _ => ho o _) hg, h.u.keepRG (fun o _ => hu o _) hg, h.w.keepRG (fun o _ => hp o _) hg⟩
theorem cns_keepZ {w w' : World} {A : Option Addr} {c : Nat} {l : List Cn} {n : Nat} (h : SlV cnE w A c l) (hgd : goodC l l.length) (hZ : stE.In w n Sw.zero) (hg : w.grownBy w' (some n)) : SlV cnE w' A c l :=
  h.keepRG (fun off h0 ha => by
    have h1 := (hgd 0 h0 h0).1
    unfold cnB at h1
    have h1 := of_decide_eq_true h1
    rcases st_zero_at hZ (ha 1 _ rfl) with h | h
    · injection h with _ h
      omega
    · cases h) hg
theorem cnsStep_good {s : ByteArray} {p : Nat} {bad : Bool} {l : List Cn} {q : Nat} {b : Bool} (h : cnsStep s p bad l q b) : goodC l l.length := by
  rcases h with ⟨h, _⟩ | ⟨_, rfl, _⟩
  · unfold isCns at h
    rw [Option.bind_eq_some_iff] at h
    obtain ⟨a, _, h⟩ := h
    split at h
    · rename_i hc
      injection h with h
      rw [h] at hc
      exact cnsB_iff.1 hc
    · cases h
  · intro j hj
    exact absurd hj (Nat.not_lt_zero _)

theorem isPast_bad (s : ByteArray) (p : Nat) : isPast s p true = none := by
  unfold isPast isTree
  rw [isCount_badF]; rfl
theorem isCns_bad (s : ByteArray) (p : Nat) : isCns s p true = none := by
  apply isCns_no
  unfold Kd.isPart
  rw [isCount_badF]; rfl
theorem thaw_val {s : ByteArray} {v1 v2 : Int} {q1 q2 q3 q4 : Nat} {b1 b2 b3 b4 : Bool} {y : Pv} {l : List Cn} (h1 : numStep s 0 false v1 q1 b1) (h2 : numStep s q1 b1 v2 q2 b2) (h3 : (isPast s q2 b2 = some (y, q3) ∧ b3 = false) ∨ (isPast s q2 b2 = none ∧ b3 = true)) (h4 : cnsStep s q3 b3 l q4 b4) :
    isSnap s = if isDone s q4 b4 = true ∧ (0 ≤ v1 ∧ v1 ≤ 1099511627776) ∧ 0 ≤ v2 ∧ v2 ≤ 1099511627776 then some ⟨v1, v2, y, l⟩ else none := by
  have hbad : ∀ q, isDone s q true = false := fun q => by unfold isDone; simp
  rcases h4 with ⟨h4, rfl⟩ | ⟨h4, _, rfl⟩
  · rcases h3 with ⟨h3, rfl⟩ | ⟨_, rfl⟩
    · rcases h2 with ⟨h2, rfl⟩ | ⟨_, _, rfl⟩
      · rcases h1 with ⟨h1, rfl⟩ | ⟨_, _, rfl⟩
        · have hd : isDone s q4 false = true ↔ q4 = s.size := by unfold isDone; simp
          unfold isSnap
          rw [h1, Option.bind_some]
          dsimp only
          rw [h2, Option.bind_some]
          dsimp only
          rw [h3, Option.bind_some]
          dsimp only
          rw [h4, Option.bind_some]
          dsimp only
          simp only [hd]
        · rw [isNum_bad] at h2; cases h2
      · rw [isPast_bad] at h3; cases h3
    · rw [isCns_bad] at h4; cases h4
  · rw [hbad, if_neg (fun h => by cases h.1)]
    unfold isSnap
    rcases h1 with ⟨h1, rfl⟩ | ⟨h1, _, _⟩
    · rw [h1, Option.bind_some]
      dsimp only
      rcases h2 with ⟨h2, rfl⟩ | ⟨h2, _, _⟩
      · rw [h2, Option.bind_some]
        dsimp only
        rcases h3 with ⟨h3, rfl⟩ | ⟨h3, _⟩
        · rw [h3, Option.bind_some]
          dsimp only
          rw [h4]; rfl
        · rw [h3]; rfl
      · rw [h2]; rfl
    · rw [h1]; rfl
end Go.Proofs.Ytfpgfclmmdihjaa

/- The program's readOps of a past, of any bytes. -/
namespace Go.Proofs.Ytfpgfclmmdihjaa
open Go.RowKit Tre Cod Nam

theorem cntT_m {w : World} {b p : Nat} {s : ByteArray} {bad : Bool} (most : Nat) (hs : s.size ≤ 1000000) (hp : p ≤ s.size) (hr : Rd 75 w b s p bad) :
    Calls Try.prog 47 #[.pointer (some ⟨b, 0, none⟩), .int .i64 most] w fun e w' => ∃ v q bad', e = .returned (.int .i64 (v : Nat)) ∧ v ≤ most ∧ Rd 75 w' b s q bad' ∧ q ≤ s.size ∧ w.grownBy w' (some b) ∧ cStepF most s p bad v q bad' := by
  rcases h : isCount s p bad most with _ | ⟨v, q⟩
  · exact (count_no hs hp hr h).mono fun e w' ⟨he, ⟨q, hq, hr'⟩, hg⟩ => ⟨0, q, true, he, by omega, hr', hq, hg, Or.inr ⟨h, rfl, rfl⟩⟩
  · obtain ⟨h1, h2, h3⟩ := isCount_some h
    obtain ⟨n, rfl⟩ : ∃ n : Nat, v = n := ⟨v.toNat, by omega⟩
    exact (count_yes hs hp hr h).mono fun e w' ⟨he, hr', hg⟩ => ⟨n, q, false, he, by omega, hr', (isNum_some h1).2.2.1, hg, Or.inl ⟨h, rfl⟩⟩
theorem opStay {s : ByteArray} {p : Nat} {o : Mv} {q : Nat} {b : Bool} (h : opStep s p true o q b) : b = true := by
  rcases h with ⟨h, _⟩ | ⟨_, _, h⟩
  · unfold isOp at h
    rw [isNum_bad] at h; cases h
  · exact h
theorem opsNext {s : ByteArray} {p : Nat} {bad : Bool} {n : Nat} {l : List Mv} {q : Nat} {bd : Bool} {o : Mv} {q2 : Nat} {b2 : Bool} (h : pAt opK 4096 s p bad n l q bd) (hj : l.length < n) (hx : opStep s q bd o q2 b2) : pAt opK 4096 s p bad n (l ++ [o]) q2 b2 := by
  cases bd
  · exact h.next hj (hx.imp (fun h => h) (fun h => ⟨h.1, h.2.2⟩))
  · rcases h with ⟨h, _⟩ | ⟨_, h⟩
    · cases h
    · exact Or.inr ⟨opStay hx, h⟩
set_option maxRecDepth 100000 in
set_option maxHeartbeats 4000000 in
theorem pReadOps_uni {w : World} {b p : Nat} {s : ByteArray} {bad : Bool} (hs : s.size ≤ 1000000) (hp : p ≤ s.size) (hr : Rd 75 w b s p bad) :
    Calls Try.prog 68 #[.pointer (some ⟨b, 0, none⟩)] w fun e w' => ∃ A c l q bd, e = .returned (.slice A l.length c) ∧ SlV opE w' A c l ∧ Frs w.heap.size A ∧ l.length ≤ 4096 ∧ Rd 75 w' b s q bd ∧ q ≤ s.size ∧ w.grownBy w' (some b) ∧ pStep opK 4096 s p bad l q bd := by
  have hbw := hr.lt
  go_enter Try.func68, Try.ntmps68
  go_wp2_with fail
  refine (cntT_m 4096 hs hp hr).mono ?_
  rintro e w1 ⟨n, q0, b0, rfl, hn, hR, hq0, hG, hst⟩
  have HS := Lib.hid (pAt.start (K := opK) hst)
  have hsz := hG.size
  clear hr hst
  go_wp2_with (at_make; refine El.wpList_make opInn zeroMv op_zero rfl _ _ rfl w.heap.size 0 n rfl rfl (by omega) (Nat.zero_le _) hsz ?_; intro w2 hO hg2 hg2s)
  replace hO : opE.Own w2 w.heap.size (.slice (some ⟨w1.heap.size, 0, none⟩) 0 n) [] := hO
  replace hR := hR.keep hg2 (by simp)
  replace hG := by_own hG hg2 (fun k e => by cases e)
  clear hg2 hg2s hsz
  generalize w1.heap.size = nb at *
  go_loopw [4, 10] (fun x y wr => ∃ (l : List Mv) (q : Nat) (bd : Bool), y = .int .i64 (l.length : Nat) ∧ Hid (l.length ≤ n) ∧ opE.Own wr w.heap.size x l ∧ Rd 75 wr b s q bd ∧ q ≤ s.size ∧ w.grownBy wr (some b) ∧ Hid (pAt opK 4096 s p bad n l q bd)) (fun _ y _ => n - (intOf y).toNat)
  case atStart => exact ⟨[], q0, b0, rfl, Lib.hid (Nat.zero_le _), hO, hR, hq0, hG, HS⟩
  case round =>
    clear hO hR hG HS hq0
    obtain ⟨l, q, bd, rfl, hl, hO, hR, hq, hG, HS⟩ := hrel
    by_cases hlt : l.length < n
    · have f5 : decide ((l.length : Int) < (n : Int)) = true := decide_eq_true (by omega)
      have f6 : decide (l.length < n) = true := decide_eq_true hlt
      have HLT := Lib.hid hlt
      have w1 : IntKind.i64.wrap ((l.length : Int) + 1) = ((l.length + 1 : Nat) : Int) := by rw [IntKind.wrap_i64]; omega
      clear hlt
      go_wp2_with fail
      refine (opRead_uni hs hq hR).mono ?_
      clear hR hq f5 f6
      rintro e w3 ⟨m, q2, b2, rfl, hR, hq, hg3, hst⟩
      have HN := Lib.hid (opsNext HS.out HLT.out hst)
      replace hO := hO.kept hg3 (Or.inr (fun e => by have := (hO.lt b e).1; omega))
      replace hG := by_trans hG hg3
      have hb4 := below_alloc (Below.refl _ w3) (.cells #[.int .i64 m.C, .int .i64 m.D, .int .i64 m.I, .int .i64 m.M, .int .i64 m.K, .int .i64 m.U, .string m.s] 48)
      have hE : opE.Sl (w3.alloc (.cells #[.int .i64 m.C, .int .i64 m.D, .int .i64 m.I, .int .i64 m.M, .int .i64 m.K, .int .i64 m.U, .string m.s] 48)) (some ⟨w3.heap.size, 0, none⟩) [m] := (El.In.new (E := opE) w3 m _ rfl).sl
      replace hO := hO.below hb4
      replace hR := hR.below hb4
      replace hG := by_trans hG (by_below hb4 _)
      have hB := hG.size
      clear hg3 hb4 hst HS
      go_wp2_with (at_builtin; refine El.wpList_app opInn rfl _ _ rfl w.heap.size _ l [m] rfl hO (some ⟨w3.heap.size, 0, none⟩) 1 1 rfl rfl hE (fun e => by cases e) (by have := HLT.out; rw [List.length_singleton]; omega) hB ?_; intro v' w5 hO5 hg5 _)
      replace hR := hR.keep hg5 (fun e => by have := (hO.lt b e.symm).1; omega)
      replace hG := by_own hG hg5 (fun k e => (hO.lt k e).1)
      go_wp2
      go_roundw
      case rel => exact ⟨l ++ [m], q2, b2, by rw [List.length_append]; rfl, Lib.hid (by have := HLT.out; rw [List.length_append, List.length_singleton]; omega), hO5, hR, hq, hG, HN⟩
      case measure => have := HLT.out; simp [intOf]; omega
    · have f5 : decide ((l.length : Int) < (n : Int)) = false := decide_eq_false (by omega)
      have f6 : decide (l.length < n) = false := decide_eq_false hlt
      have HPS := Lib.hid (show pStep opK 4096 s p bad l q bd by
        cases bd
        · exact HS.out.good hlt hl.out
        · exact HS.out.ill)
      have hl4 : l.length ≤ 4096 := by have := hl.out; omega
      obtain ⟨A, c, rfl, hS, h0, hc⟩ := hO.sl
      have HSL := Lib.hid (⟨⟨hS, h0, hc⟩, hO.frs⟩ : SlV opE wr A c l ∧ Frs w.heap.size A)
      clear hS h0 hc hO hlt
      go_wp2_with fail
      go_ret
      exact ⟨A, c, l, q, bd, rfl, HSL.out.1, HSL.out.2, hl4, hR, hq, hG, HPS.out⟩
end Go.Proofs.Ytfpgfclmmdihjaa

/- The program's Read of a past, of any bytes. -/
namespace Go.Proofs.Ytfpgfclmmdihjaa
open Go.RowKit Tre Cod Pst Nam

theorem past_partT {s : ByteArray} {p q1 q2 q3 : Nat} {bad b1 b2 : Bool} {base : List Pl} {t : Nat} {l : List Mv} (h1 : treeStep s p bad base q1 b1) (h2 : cStepF 1099511627776 s q1 b1 t q2 b2) (h3 : pStep opK 4096 s q2 b2 l q3 false) : isTree s p bad = some (base, q1) ∧ opK.isPart 4096 s q2 false = some (l, q3) ∧ isPast s p bad = if opsB l t = true then some (pastOf base t l, q3) else none := by
  rcases h3 with ⟨h3, _⟩ | ⟨_, h3⟩
  · rcases h2 with ⟨h2, rfl⟩ | ⟨_, _, rfl⟩
    · rcases h1 with ⟨h1, rfl⟩ | ⟨_, _, rfl⟩
      · refine ⟨h1, h3, ?_⟩
        unfold isPast
        rw [h1, Option.bind_some]
        dsimp only
        rw [h2, Option.bind_some]
        dsimp only
        rw [h3, Option.bind_some]
      · rw [isCount_badF] at h2; cases h2
    · unfold Kd.isPart at h3
      rw [isCount_badF] at h3; cases h3
  · cases h3
theorem past_illT {s : ByteArray} {p q1 q2 q3 : Nat} {bad b1 b2 : Bool} {base : List Pl} {t : Nat} {l : List Mv} (h1 : treeStep s p bad base q1 b1) (h2 : cStepF 1099511627776 s q1 b1 t q2 b2) (h3 : pStep opK 4096 s q2 b2 l q3 true) : isPast s p bad = none := by
  unfold isPast
  rcases h1 with ⟨h1, rfl⟩ | ⟨h1, _, _⟩
  · rw [h1, Option.bind_some]
    dsimp only
    rcases h2 with ⟨h2, rfl⟩ | ⟨h2, _, _⟩
    · rw [h2, Option.bind_some]
      dsimp only
      rcases h3 with ⟨_, h3⟩ | ⟨h3, _⟩
      · cases h3
      · rw [h3]; rfl
    · rw [h2]; rfl
  · rw [h1]; rfl
set_option maxRecDepth 100000 in
set_option maxHeartbeats 16000000 in
theorem pPastRead_uni (w : World) (b p : Nat) (s : ByteArray) (bad : Bool) (hs : s.size ≤ 1000000) (hp : p ≤ s.size) (hr : Rd 75 w b s p bad) (hfew : ∀ V q, isPast s p bad = some (V, q) → V.ops.length ≤ 800) :
    Calls Try.prog 48 #[.pointer (some ⟨b, 0, none⟩)] w fun e w' => ∃ (y : Pw) (q : Nat) (bd : Bool), e = .returned (.agg #[.slice y.bA y.base.length y.bc, .int .i64 y.t, .slice y.oA y.ops.length y.oc, .slice y.uA y.us.length y.uc, .slice y.wA y.now.length y.wc]) ∧ PastOk w' y ∧ Rd 75 w' b s q bd ∧ q ≤ s.size ∧ w.grownBy w' (some b) ∧ ((isPast s p bad = some (y.v, q) ∧ bd = false) ∨ (isPast s p bad = none ∧ y = Pw.zero ∧ bd = true)) := by
  have hbw := hr.lt
  have HF := Lib.hid hfew
  clear hfew
  go_enter Try.func48, Try.ntmps48
  go_upto_region 1 with fail
  have hZ : pwE.In (w.alloc (.cells #[.slice none 0 0, .int .i64 0, .slice none 0 0, .slice none 0 0, .slice none 0 0] 27)) w.heap.size Pw.zero := El.In.new (E := pwE) w Pw.zero #[.slice none 0 0, .int .i64 0, .slice none 0 0, .slice none 0 0, .slice none 0 0] rfl
  have hB := below_alloc (Below.refl w.heap.size w) (.cells #[.slice none 0 0, .int .i64 0, .slice none 0 0, .slice none 0 0, .slice none 0 0] 27)
  have hR := hr.below hB
  have hG := by_below hB (some b)
  have hsz : w.heap.size < (w.alloc (.cells #[.slice none 0 0, .int .i64 0, .slice none 0 0, .slice none 0 0, .slice none 0 0] 27)).heap.size := by rw [alloc_size]; omega
  obtain ⟨n2, h2⟩ : ∃ n, w.heap.size = n := ⟨_, rfl⟩
  have hn2 : w.heap.size ≤ n2 := by omega
  have e2 : b ≠ n2 := by omega
  have i2 : some n2 ≠ some b := fun e => e2 (Option.some.inj e).symm
  generalize w.alloc (.cells #[.slice none 0 0, .int .i64 0, .slice none 0 0, .slice none 0 0, .slice none 0 0] 27) = W0 at *
  have h20 : n2 < W0.heap.size := by omega
  have hb0 : b < W0.heap.size := by omega
  rw [h2] at hZ ⊢
  clear hB hr hsz
  go_wp2_with fail
  refine (treeRead_slv hs hp hR).mono ?_
  rintro e w1 ⟨A1, c1, base, q1, b1, rfl, hS1, hF1, hl64, hR, hq1, hg, st1⟩
  replace hZ := hZ.keep hg i2
  replace hG := by_trans hG hg
  have h01 := hg.size
  clear hg
  go_upto_region 2 with fail
  go_wp2_with fail
  refine (cntT_m 1099511627776 hs hq1 hR).mono ?_
  rintro e w2 ⟨t, q2, b2, rfl, ht, hR, hq2, hg, st2⟩
  replace hZ := hZ.keep hg i2
  replace hG := by_trans hG hg
  have hS2 := hS1.keep hF1 hg hb0
  have h02 := Nat.le_trans h01 hg.size
  clear hg hS1 h01
  go_upto_region 3 with fail
  go_wp2_with fail
  refine (pReadOps_uni hs hq2 hR).mono ?_
  rintro e w3 ⟨A3, c3, l, q, bd, rfl, hO, hFo, hl4, hR, hq, hg, st3⟩
  replace hZ := hZ.keep hg i2
  replace hG := by_trans hG hg
  have hS3 := hS2.keep hF1 hg hb0
  have h03 := Nat.le_trans h02 hg.size
  have HST := Lib.hid (And.intro st1 (And.intro st2 st3))
  clear hg hS2 st1 st2 st3
  go_upto_region 4 with fail
  obtain ⟨r0, r1, r2⟩ := hR.cells
  cases bd
  · have hpt := past_partT HST.out.1 HST.out.2.1 HST.out.2.2
    have hokl : ∀ m ∈ l, m.ok := fun m hm => (opK.part_bytes hpt.2.1).2.1 m hm
    have hiff := opsB_iff (t := (t : Int)) hokl
    obtain ⟨bv, hbv⟩ : ∃ bv, opsB l t = bv := ⟨_, rfl⟩
    rw [hbv] at hiff hpt
    have CR := rightOps_any A3 c3 l t w3 (by omega) (fun m hm => by have := (opB_wide (hokl m hm)).2.2.1; omega) hO.1 bv hiff
    have HP := Lib.hid hpt
    clear hpt hokl hiff hbv HST
    go_wp2_with fail
    refine CR.mono ?_
    rintro e w4 ⟨rfl, hb4⟩
    replace hZ := hZ.below hb4
    replace hR := hR.below hb4
    replace hG := by_trans hG (by_below hb4 (some b))
    have hO4 := hO.below hb4
    have hS4 := hS3.below hb4
    have h04 := Nat.le_trans h03 hb4.size
    clear CR hb4 hO hS3 r0 r1 r2
    cases bv
    · have HI := Lib.hid (show isPast s p bad = none from HP.out.2.2)
      obtain ⟨r0, r1, r2⟩ := hR.cells
      have rf := hR.frozen
      replace hZ := hZ.other b 2 (.bool true) (fun e => e2 e.symm)
      replace hG := by_set hG 2 (.bool true)
      replace hR := hR.setBad
      go_wp2_with (first | (refine El.store pwRow rfl _ _ rfl n2 Pw.zero #[.slice none 0 0, .int .i64 0, .slice none 0 0, .slice none 0 0, .slice none 0 0] rfl rfl rfl Pw.zero hZ ?_) | fail)
      refine El.ret1 pwRow (hZ.set Pw.zero _ rfl) rfl rfl rfl #[.slice none 0 0, .int .i64 0, .slice none 0 0, .slice none 0 0, .slice none 0 0] rfl ?_
      exact ⟨Pw.zero, q, true, rfl, PastOk.zero _, hR.row n2 _ e2, hq, by_setRow hG n2 _ hn2, Or.inr ⟨HI.out, rfl, rfl⟩⟩
    · have HI := Lib.hid (show isPast s p bad = some (pastOf base t l, q) from HP.out.2.2)
      have hl8 : l.length ≤ 800 := HF.out _ _ HI.out
      have hsr := (treeB_facts (isTree_tree HP.out.1)).2.1
      have CF := mvFold_any A1 c1 base A3 c3 l w4 (by omega) hsr hS4 hO4.1
      go_wp2_with fail
      refine CF.mono ?_
      rintro e w5 ⟨A5, c5, U5, uc5, rfl, hF1', hF2', hfr1, hfr2, hb5⟩
      replace hZ := hZ.below hb5
      replace hR := hR.below hb5
      replace hG := by_trans hG (by_below hb5 (some b))
      have hO5 := hO4.below hb5
      have hS5 := hS4.below hb5
      have HPO := Lib.hid (show (⟨base, t, l, (foldL base (mvs l)).2, (foldL base (mvs l)).1⟩ : Pv) = pastOf base t l from rfl)
      have h24 : n2 < w4.heap.size := by omega
      have h23 : n2 < w2.heap.size := by omega
      clear CF hb5 hO4 hS4
      generalize (foldL base (mvs l)).1 = now1 at *
      generalize (foldL base (mvs l)).2 = us1 at *
      go_wp2_with (first | (refine El.store pwRow rfl _ _ rfl n2 ⟨A1, c1, base, t, A3, c3, l, U5, uc5, us1, A5, c5, now1⟩ #[.slice A1 base.length c1, .int .i64 t, .slice A3 l.length c3, .slice U5 us1.length uc5, .slice A5 now1.length c5] rfl rfl rfl Pw.zero hZ ?_) | fail)
      refine El.ret1 pwRow (hZ.set ⟨A1, c1, base, t, A3, c3, l, U5, uc5, us1, A5, c5, now1⟩ _ rfl) rfl rfl rfl #[.slice A1 base.length c1, .int .i64 t, .slice A3 l.length c3, .slice U5 us1.length uc5, .slice A5 now1.length c5] rfl ?_
      exact ⟨⟨A1, c1, base, t, A3, c3, l, U5, uc5, us1, A5, c5, now1⟩, q, false, rfl, ⟨hS5.keep hF1 (by_row _ n2 _) h20, SlV.keep hO5 hFo (by_row _ n2 _) h23, hF2'.keep hfr2 (by_row _ n2 _) h24, hF1'.keep hfr1 (by_row _ n2 _) h24⟩, hR.row n2 _ e2, hq, by_setRow hG n2 _ hn2, Or.inl ⟨by rw [HI.out, ← HPO.out]; rfl, rfl⟩⟩
  · have HI := Lib.hid (show isPast s p bad = none from past_illT HST.out.1 HST.out.2.1 HST.out.2.2)
    clear HST
    have rf := hR.frozen
    replace hZ := hZ.other b 2 (.bool true) (fun e => e2 e.symm)
    replace hG := by_set hG 2 (.bool true)
    replace hR := hR.setBad
    go_wp2_with (first | (refine El.store pwRow rfl _ _ rfl n2 Pw.zero #[.slice none 0 0, .int .i64 0, .slice none 0 0, .slice none 0 0, .slice none 0 0] rfl rfl rfl Pw.zero hZ ?_) | fail)
    refine El.ret1 pwRow (hZ.set Pw.zero _ rfl) rfl rfl rfl #[.slice none 0 0, .int .i64 0, .slice none 0 0, .slice none 0 0, .slice none 0 0] rfl ?_
    exact ⟨Pw.zero, q, true, rfl, PastOk.zero _, hR.row n2 _ e2, hq, by_setRow hG n2 _ hn2, Or.inr ⟨HI.out, rfl, rfl⟩⟩
end Go.Proofs.Ytfpgfclmmdihjaa

/- The program's ReadCounts. -/
namespace Go.Proofs.Ytfpgfclmmdihjaa
open Go.RowKit Nam Cod

theorem two_cn (w : World) (a : Array Value) (T : TypeId) : cnE.In ((w.alloc (.cells a T)).alloc (.cells #[.int .i64 0, .int .i64 0, .int .i64 0] 69)) (w.heap.size + 1) zeroCn := by
  have h := El.In.new (E := cnE) (w.alloc (.cells a T)) zeroCn _ rfl
  rw [alloc_size] at h; exact h
set_option maxRecDepth 100000 in
set_option maxHeartbeats 8000000 in
theorem cnRead1_uni {w : World} {b p : Nat} {s : ByteArray} {bad : Bool} (hs : s.size ≤ 1000000) (hp : p ≤ s.size) (hr : Rd 75 w b s p bad) :
    Calls Try.prog 50 #[.pointer (some ⟨b, 0, none⟩)] w fun e w' => ∃ (x : Cn) (q : Nat) (bad' : Bool), e = .returned (.agg #[.int .i64 x.d, .int .i64 x.i, .int .i64 x.n]) ∧ Rd 75 w' b s q bad' ∧ q ≤ s.size ∧ w.grownBy w' (some b) ∧ ((isCn s p bad = some (x, q) ∧ bad' = false) ∨ (isCn s p bad = none ∧ bad' = true)) := by
  have hbw := hr.lt
  go_enter Try.func50, Try.ntmps50
  go_upto_region 2 with fail
  have hZ : cnE.In ((w.alloc (.cells #[.int .i64 0, .int .i64 0, .int .i64 0] 69)).alloc (.cells #[.int .i64 0, .int .i64 0, .int .i64 0] 69)) w.heap.size zeroCn := (El.In.new (E := cnE) w zeroCn #[.int .i64 0, .int .i64 0, .int .i64 0] rfl).alloc _
  have hY := two_cn w #[.int .i64 0, .int .i64 0, .int .i64 0] 69
  have hB := below_alloc (below_alloc (Below.refl w.heap.size w) (.cells #[.int .i64 0, .int .i64 0, .int .i64 0] 69)) (.cells #[.int .i64 0, .int .i64 0, .int .i64 0] 69)
  have hR := hr.below hB
  have hG := by_below hB (some b)
  obtain ⟨n3, h3⟩ : ∃ n, w.heap.size + 1 = n := ⟨_, rfl⟩
  obtain ⟨n2, h2⟩ : ∃ n, w.heap.size = n := ⟨_, rfl⟩
  have hn2 : w.heap.size ≤ n2 := by omega
  have hwn : w.heap.size ≤ n3 := by omega
  have e2 : b ≠ n2 := by omega
  have e3 : b ≠ n3 := by omega
  have e4 : n2 ≠ n3 := by omega
  have i2 : some n2 ≠ some b := fun e => e2 (Option.some.inj e).symm
  have i3 : some n3 ≠ some b := fun e => e3 (Option.some.inj e).symm
  generalize (w.alloc (.cells #[.int .i64 0, .int .i64 0, .int .i64 0] 69)).alloc (.cells #[.int .i64 0, .int .i64 0, .int .i64 0] 69) = W0 at *
  rw [h3] at hY ⊢
  rw [h2] at hZ ⊢
  clear h2 h3 hB hr
  go_wp2_with fail
  refine (num_uni hs hp hR).mono ?_
  rintro e w1 ⟨v1, q1, b1, rfl, hR, hq1, hg, st1⟩
  replace hZ := hZ.keep hg i2
  replace hY := hY.keep hg i3
  replace hG := by_trans hG hg
  clear hg
  have kc := hY.cell 0
  have kf := hY.frozen
  replace kc : w1.cell? ⟨n3, 0, none⟩ = some (.int .i64 0) := kc
  replace hY := hY.put ⟨v1, 0, 0⟩ 0 (.int .i64 v1) rfl
  replace hZ := hZ.other n3 0 (.int .i64 v1) e4
  replace hR := hR.other n3 0 (.int .i64 v1) e3
  replace hG := by_setNew hG n3 0 (.int .i64 v1) hwn
  go_upto_region 3 with fail
  clear kc kf
  generalize w1.setCell ⟨n3, 0, none⟩ (.int .i64 v1) = W1 at *
  go_wp2_with fail
  refine (num_uni hs hq1 hR).mono ?_
  rintro e w2 ⟨v2, q2, b2, rfl, hR, hq2, hg, st2⟩
  replace hZ := hZ.keep hg i2
  replace hY := hY.keep hg i3
  replace hG := by_trans hG hg
  clear hg
  have kc := hY.cell 1
  have kf := hY.frozen
  replace kc : w2.cell? ⟨n3, 1, none⟩ = some (.int .i64 0) := kc
  replace hY := hY.put ⟨v1, v2, 0⟩ 1 (.int .i64 v2) rfl
  replace hZ := hZ.other n3 1 (.int .i64 v2) e4
  replace hR := hR.other n3 1 (.int .i64 v2) e3
  replace hG := by_setNew hG n3 1 (.int .i64 v2) hwn
  go_upto_region 4 with fail
  clear kc kf
  generalize w2.setCell ⟨n3, 1, none⟩ (.int .i64 v2) = W2 at *
  go_wp2_with fail
  refine (num_uni hs hq2 hR).mono ?_
  rintro e w3 ⟨v3, q3, b3, rfl, hR, hq3, hg, st3⟩
  replace hZ := hZ.keep hg i2
  replace hY := hY.keep hg i3
  replace hG := by_trans hG hg
  clear hg
  have kc := hY.cell 2
  have kf := hY.frozen
  replace kc : w3.cell? ⟨n3, 2, none⟩ = some (.int .i64 0) := kc
  replace hY := hY.put ⟨v1, v2, v3⟩ 2 (.int .i64 v3) rfl
  replace hZ := hZ.other n3 2 (.int .i64 v3) e4
  replace hR := hR.other n3 2 (.int .i64 v3) e3
  replace hG := by_setNew hG n3 2 (.int .i64 v3) hwn
  go_upto_region 5 with fail
  clear kc kf
  generalize w3.setCell ⟨n3, 2, none⟩ (.int .i64 v3) = W3 at *
  have HG := Lib.hid (cn_step st1 st2 st3)
  clear st1 st2 st3
  obtain ⟨x, hx⟩ : ∃ x : Cn, (⟨v1, v2, v3⟩ : Cn) = x := ⟨_, rfl⟩
  rw [hx] at hY HG
  clear hx
  go_wp2_with (first | (refine El.load cnRow rfl _ rfl n3 0 rfl x hY.at #[.int .i64 x.d, .int .i64 x.i, .int .i64 x.n] rfl ?_) | (refine El.store cnRow rfl _ _ rfl n2 x #[.int .i64 x.d, .int .i64 x.i, .int .i64 x.n] rfl rfl rfl zeroCn hZ ?_) | fail)
  refine El.ret1 cnRow (hZ.set x _ rfl) rfl rfl rfl #[.int .i64 x.d, .int .i64 x.i, .int .i64 x.n] rfl ?_
  exact ⟨x, q3, b3, rfl, hR.row n2 _ e2, hq3, by_setRow hG n2 _ hn2, HG.out⟩

/-- Two neighbours: as the walk asks. -/
def riseC (l : List Cn) (k : Nat) (x : Cn) : Prop := 0 < k → (l.getD (k - 1) zeroCn).d < x.d
theorem goodC_of_not {l : List Cn} {k : Nat} (hk : k < l.length) (h : ¬ (cnB l[k] = true ∧ riseC l k l[k])) : cnsB l = false := by
  cases hc : cnsB l
  · rfl
  · exact absurd (cnsB_iff.1 hc k hk hk) h
set_option maxRecDepth 100000 in
set_option maxHeartbeats 8000000 in
theorem cnRight_any (A : Option Addr) (c : Nat) (l : List Cn) (w : World) (hl : l.length ≤ 1000) (hT : cnE.Sl w A l) : Calls Try.prog 51 #[.slice A l.length c] w fun e w' => e = .returned (.bool (cnsB l)) ∧ Below w.heap.size w w' := by
  have HT := Lib.hid hT
  have hB := Below.refl w.heap.size w
  have HK0 := Lib.hid (show goodC l 0 from fun j _ hj => absurd hj (Nat.not_lt_zero _))
  clear hT
  go_enter Try.func51, Try.ntmps51
  go_wp2_with fail
  go_loopw [7] (fun y wr => ∃ k : Nat, k ≤ l.length ∧ y = .int .i64 k ∧ Hid (goodC l k) ∧ Below w.heap.size w wr) (fun y _ => l.length - (intOf y).toNat)
  case atStart => exact ⟨0, Nat.zero_le _, rfl, HK0, hB⟩
  case round =>
    clear HK0 hB
    obtain ⟨k, hk, rfl, HK, hB⟩ := hrel
    by_cases hkl : k < l.length
    · obtain ⟨b, off, eA, hbw, hc⟩ := HT.out (by omega)
      have hx := cnIdxP (cap := c) eA hkl
      have hat : cnE.At wr b (off + k * 3) l[k] := (hc k hkl).below hB hbw
      obtain ⟨x, hxx⟩ : ∃ x, l[k] = x := ⟨_, rfl⟩
      rw [hxx] at hat
      have hX : cnE.In (wr.alloc (.cells #[.int .i64 x.d, .int .i64 x.i, .int .i64 x.n] 69)) wr.heap.size x := El.In.new (E := cnE) wr x _ rfl
      have hal := below_alloc (Below.refl wr.heap.size wr) (.cells #[.int .i64 x.d, .int .i64 x.i, .int .i64 x.n] 69)
      replace hB := below_then hB hal
      have HXX := Lib.hid hxx
      have HXP := Lib.hid (fun (h : k - 1 < l.length) => cnIdxP (cap := c) (k := k - 1) (len := l.length) eA h)
      clear hxx hal eA
      go_upto_region 4 with (first | (refine El.load cnRow rfl _ rfl b (off + k * 3) rfl x hat #[.int .i64 x.d, .int .i64 x.i, .int .i64 x.n] rfl ?_) | fail)
      have hxx := HXX.out
      clear HXX hat hx
      generalize wr.alloc (.cells #[.int .i64 x.d, .int .i64 x.i, .int .i64 x.n] 69) = V at *
      generalize wr.heap.size = nx at *
      obtain ⟨x0, x1, x2⟩ := cnIn3 hX
      clear hX
      have hcb := True.intro
      by_cases a0 : x.d < 0
      · have g0 : decide (x.d < 0) = true := decide_eq_true a0
        clear hcb
        have HV := Lib.hid (show cnsB l = false from goodC_of_not hkl (by rw [hxx]; exact (fun h => by have h1 := of_decide_eq_true (show decide (0 ≤ x.d ∧ x.d < 12 ∧ 1 ≤ x.i ∧ 0 ≤ x.n) = true from h.1); omega)))
        clear hxx
        go_quiet (fail)
        have hqb := below_drew (Below.refl V.heap.size V) nq
        replace hB := below_then hB hqb
        clear hqb x0 x1 x2
        generalize V.drewN nq = V1 at *
        go_wp2_with fail
        go_ret
        exact ⟨by rw [HV.out]; rfl, hB⟩
      · have g0 : decide (x.d < 0) = false := decide_eq_false a0
        by_cases a1 : 12 ≤ x.d
        · have g1 : decide (12 ≤ x.d) = true := decide_eq_true a1
          clear hcb
          have HV := Lib.hid (show cnsB l = false from goodC_of_not hkl (by rw [hxx]; exact (fun h => by have h1 := of_decide_eq_true (show decide (0 ≤ x.d ∧ x.d < 12 ∧ 1 ≤ x.i ∧ 0 ≤ x.n) = true from h.1); omega)))
          clear hxx
          go_quiet (fail)
          have hqb := below_drew (Below.refl V.heap.size V) nq
          replace hB := below_then hB hqb
          clear hqb x0 x1 x2
          generalize V.drewN nq = V1 at *
          go_wp2_with fail
          go_ret
          exact ⟨by rw [HV.out]; rfl, hB⟩
        · have g1 : decide (12 ≤ x.d) = false := decide_eq_false a1
          by_cases a2 : x.i < 1
          · have g2 : decide (x.i < 1) = true := decide_eq_true a2
            clear hcb
            have HV := Lib.hid (show cnsB l = false from goodC_of_not hkl (by rw [hxx]; exact (fun h => by have h1 := of_decide_eq_true (show decide (0 ≤ x.d ∧ x.d < 12 ∧ 1 ≤ x.i ∧ 0 ≤ x.n) = true from h.1); omega)))
            clear hxx
            go_quiet (fail)
            have hqb := below_drew (Below.refl V.heap.size V) nq
            replace hB := below_then hB hqb
            clear hqb x0 x1 x2
            generalize V.drewN nq = V1 at *
            go_wp2_with fail
            go_ret
            exact ⟨by rw [HV.out]; rfl, hB⟩
          · have g2 : decide (x.i < 1) = false := decide_eq_false a2
            by_cases a3 : x.n < 0
            · have g3 : decide (x.n < 0) = true := decide_eq_true a3
              clear hcb
              have HV := Lib.hid (show cnsB l = false from goodC_of_not hkl (by rw [hxx]; exact (fun h => by have h1 := of_decide_eq_true (show decide (0 ≤ x.d ∧ x.d < 12 ∧ 1 ≤ x.i ∧ 0 ≤ x.n) = true from h.1); omega)))
              clear hxx
              go_quiet (fail)
              have hqb := below_drew (Below.refl V.heap.size V) nq
              replace hB := below_then hB hqb
              clear hqb x0 x1 x2
              generalize V.drewN nq = V1 at *
              go_wp2_with fail
              go_ret
              exact ⟨by rw [HV.out]; rfl, hB⟩
            · have g3 : decide (x.n < 0) = false := decide_eq_false a3
              clear hcb
              have hcb : cnB x = true := by exact decide_eq_true (show 0 ≤ x.d ∧ x.d < 12 ∧ 1 ≤ x.i ∧ 0 ≤ x.n by omega)
              by_cases hk0 : k = 0
              · have e1 : decide ((0 : Int) < (k : Int)) = false := decide_eq_false (by omega)
                have e2 : decide (0 < k) = false := decide_eq_false (by omega)
                have HK0 := Lib.hid hk0
                clear a0 a1 a2 a3 hk0
                have HNG := Lib.hid (show goodC l (k + 1) from goodC_next HK.out hkl (by rw [hxx]; exact hcb) (by rw [hxx]; exact (fun h0 => absurd h0 (by have := HK0.out; omega))))
                clear hxx hcb
                go_quiet (fail)
                have hqb := below_drew (Below.refl V.heap.size V) nq
                replace hB := below_then hB hqb
                clear hqb x0 x1 x2
                generalize V.drewN nq = V1 at *
                go_wp2_with fail
                exact ⟨⟨k + 1, by omega, by go_num, HNG, hB⟩, by simp [intOf]; omega⟩
              · have e1 : decide ((0 : Int) < (k : Int)) = true := decide_eq_true (by omega)
                have e2 : decide (0 < k) = true := decide_eq_true (by omega)
                have e3 : IntKind.i64.wrap ((k : Int) - 1) = ((k - 1 : Nat) : Int) := by rw [IntKind.wrap_i64]; omega
                have hkp : k - 1 < l.length := by omega
                have hxp := HXP.out hkp
                have hat : cnE.At V b (off + (k - 1) * 3) l[k - 1] := (hc (k - 1) hkp).below hB hbw
                have t0 := (cnAt3 hat).1
                have hgd : l.getD (k - 1) zeroCn = l[k - 1] := by rw [List.getD_eq_getElem?_getD, List.getElem?_eq_getElem hkp]; rfl
                clear hat a0 a1 a2 a3 hc hbw
                generalize l[k - 1] = y at *
                have HGD := Lib.hid hgd
                clear hgd
                by_cases hp2 : x.d ≤ y.d
                · have e4 : decide (x.d ≤ y.d) = true := decide_eq_true hp2
                  have HP2 := Lib.hid hp2
                  clear hp2
                  clear hcb
                  have HV := Lib.hid (show cnsB l = false from goodC_of_not hkl (by rw [hxx]; exact (fun h => by have h1 := h.2 (by omega); rw [HGD.out] at h1; have := HP2.out; omega)))
                  clear hxx
                  go_quiet (fail)
                  have hqb := below_drew (Below.refl V.heap.size V) nq
                  replace hB := below_then hB hqb
                  clear hqb x0 x1 x2
                  generalize V.drewN nq = V1 at *
                  go_wp2_with fail
                  go_ret
                  exact ⟨by rw [HV.out]; rfl, hB⟩
                · have e4 : decide (x.d ≤ y.d) = false := decide_eq_false hp2
                  have HP2 := Lib.hid hp2
                  clear hp2
                  have HNG := Lib.hid (show goodC l (k + 1) from goodC_next HK.out hkl (by rw [hxx]; exact hcb) (by rw [hxx]; exact (fun _ => by rw [HGD.out]; have := HP2.out; omega)))
                  clear hxx hcb
                  go_quiet (fail)
                  have hqb := below_drew (Below.refl V.heap.size V) nq
                  replace hB := below_then hB hqb
                  clear hqb x0 x1 x2
                  generalize V.drewN nq = V1 at *
                  go_wp2_with fail
                  exact ⟨⟨k + 1, by omega, by go_num, HNG, hB⟩, by simp [intOf]; omega⟩
    · obtain rfl : k = l.length := by omega
      have HV := Lib.hid (show cnsB l = true from cnsB_iff.2 HK.out)
      go_wp2_with fail
      go_ret
      exact ⟨by rw [HV.out]; rfl, hB⟩
theorem isCns_of {s : ByteArray} {p : Nat} {bad : Bool} {l : List Cn} {q : Nat} (h : cnK.isPart 12 s p bad = some (l, q)) : isCns s p bad = if cnsB l = true then some (l, q) else none := by
  unfold isCns
  rw [h, Option.bind_some]
theorem isCns_none2 {s : ByteArray} {p : Nat} {bad : Bool} (h : cnK.isPart 12 s p bad = none) : isCns s p bad = none := by
  unfold isCns
  rw [h]; rfl
set_option maxRecDepth 100000 in
set_option maxHeartbeats 8000000 in
theorem pReadCountsF_uni (w : World) (b p : Nat) (s : ByteArray) (bad : Bool) (hs : s.size ≤ 1000000) (hp : p ≤ s.size) (hr : Rd 75 w b s p bad) :
    Calls Try.prog 25 #[.pointer (some ⟨b, 0, none⟩)] w fun e w' => ∃ (A : Option Addr) (c : Nat) (l : List Cn) (q : Nat) (bad' : Bool), e = .returned (.slice A l.length c) ∧ SlV cnE w' A c l ∧ Frs w.heap.size A ∧ Rd 75 w' b s q bad' ∧ q ≤ s.size ∧ w.grownBy w' (some b) ∧ cnsStep s p bad l q bad' := by
  have hbw := hr.lt
  have hGw := by_below (Below.refl w.heap.size w) (some b)
  go_enter Try.func25, Try.ntmps25
  go_wp2_with fail
  refine (cntT_m 12 hs hp hr).mono ?_
  rintro e w1 ⟨n, q0, b0, rfl, hnm, hR, hq0, hg, st⟩
  have HS := Lib.hid (pAt.start (K := cnK) st)
  replace hGw := by_trans hGw hg
  have HNM := Lib.hid hnm
  clear hr hg st hnm
  go_wp2_with fail
  go_loopw [4] (fun x wr => ∃ (v : Value) (l : List Cn) (q : Nat) (bd : Bool), x = v ∧ cnE.Own wr w.heap.size v l ∧ Hid (l.length ≤ n) ∧ Rd 75 wr b s q bd ∧ q ≤ s.size ∧ w.grownBy wr (some b) ∧ Hid (pAt cnK 12 s p bad n l q bd)) (fun x _ => n - lenP x)
  case atStart => exact ⟨_, [], q0, b0, rfl, El.Own.nil w1 w.heap.size, Lib.hid (Nat.zero_le _), hR, hq0, hGw, HS⟩
  case round =>
    clear hR hGw HS hq0
    obtain ⟨v, l, q, bd, rfl, hO, hl, hR, hq, hG, HS⟩ := hrel
    have hlv := own_lenP hO
    obtain ⟨A, c, rfl, hS⟩ := SlV.own hO
    have hF := hO.frs
    obtain ⟨r0, r1, r2⟩ := hR.cells
    cases bd
    · by_cases hlt : l.length < n
      · have HLE := Lib.hid (show l.length + 1 ≤ 12 by have := HNM.out; omega)
        have f5 : decide ((l.length : Int) < (n : Int)) = true := decide_eq_true (by omega)
        have f6 : decide (l.length < n) = true := decide_eq_true hlt
        have CR := cnRead1_uni hs hq hR
        have HLT := Lib.hid hlt
        clear hS hlv hlt
        go_wp2_with fail
        refine CR.mono ?_
        clear CR hR r0 r1 r2 f5 f6
        rintro e w3 ⟨x, q2, b2, rfl, hR, hq2, hg3, hst⟩
        have HN := Lib.hid (HS.out.next HLT.out hst)
        replace hO := hO.kept hg3 (Or.inr (fun e => by have := (hO.lt b e).1; omega))
        replace hG := by_trans hG hg3
        have hb4 := below_alloc (Below.refl _ w3) (.cells #[.int .i64 x.d, .int .i64 x.i, .int .i64 x.n] 69)
        have hE : cnE.Sl (w3.alloc (.cells #[.int .i64 x.d, .int .i64 x.i, .int .i64 x.n] 69)) (some ⟨w3.heap.size, 0, none⟩) [x] := (El.In.new (E := cnE) w3 x _ rfl).sl
        replace hO := hO.below hb4
        replace hR := hR.below hb4
        replace hG := by_trans hG (by_below hb4 _)
        have hB := hG.size
        clear hg3 hb4 hst
        go_wp2_with (at_builtin; refine El.wpList_app cnInn rfl _ _ rfl w.heap.size _ l [x] rfl hO (some ⟨w3.heap.size, 0, none⟩) 1 1 rfl rfl hE (fun e => by cases e) (by have := HLE.out; rw [List.length_singleton]; omega) hB ?_; intro v' w5 hO5 hg5 _)
        replace hR := hR.keep hg5 (fun e => by have := (hO.lt b e.symm).1; omega)
        replace hG := by_ownP hG hg5 (fun k e => (hO.lt k e).1)
        have hlv5 := own_lenP hO5
        rw [List.length_append, List.length_singleton] at hlv5
        go_wp2
        go_roundw
        case rel => exact ⟨v', l ++ [x], q2, b2, rfl, hO5, Lib.hid (by rw [List.length_append, List.length_singleton]; have := HLT.out; omega), hR, hq2, hG, HN⟩
        case measure =>
          have h1 := HLT.out
          show n - lenP v' < n - l.length
          omega
      · have HP := Lib.hid (HS.out.good hlt hl.out)
        have f5 : decide ((l.length : Int) < (n : Int)) = false := decide_eq_false (by omega)
        have f6 : decide (l.length < n) = false := decide_eq_false hlt
        have hpart : cnK.isPart 12 s p bad = some (l, q) := by
          rcases HP.out with ⟨h, _⟩ | ⟨_, h⟩
          · exact h
          · cases h
        have hms := isCns_of hpart
        have CR := Lib.hid (cnRight_any A c l wr (by have := HNM.out; have := hl.out; omega) hS.1)
        clear hlv hlt hpart HP HS
        cases hN : cnsB l
        · rw [hN] at CR
          rw [hN, if_neg (by decide)] at hms
          have HG := Lib.hid hms
          clear hms hN hS
          go_wp2_with fail
          refine CR.out.mono ?_
          clear CR r0 r1 r2
          rintro r w6 ⟨rfl, hb6⟩
          replace hR := hR.below hb6
          replace hG := by_trans hG (by_below hb6 _)
          obtain ⟨r0, r1, r2⟩ := hR.cells
          clear hb6
          have hR2 := hR.setBad
          have hG2 := by_set hG 2 (.bool true)
          have rf := hR.frozen
          clear hR hG hO
          go_wp2_with fail
          go_ret
          exact ⟨none, 0, [], q, true, rfl, SlV.nil _ _, frs_nil _, hR2, hq, hG2, Or.inr ⟨HG.out, rfl, rfl⟩⟩
        · rw [hN] at CR
          rw [hN, if_pos rfl] at hms
          have HG := Lib.hid hms
          clear hms hN
          go_wp2_with fail
          refine CR.out.mono ?_
          clear CR r0 r1 r2
          rintro r w6 ⟨rfl, hb6⟩
          replace hR := hR.below hb6
          replace hG := by_trans hG (by_below hb6 _)
          replace hS := SlV.below hS hb6
          clear hb6 hO
          go_wp2_with fail
          go_ret
          exact ⟨A, c, l, q, false, rfl, hS, hF, hR, hq, hG, Or.inl ⟨HG.out, rfl⟩⟩
    · have HG := Lib.hid (isCns_none2 (by
        rcases HS.out.ill with ⟨_, h⟩ | ⟨h, _⟩
        · cases h
        · exact h))
      clear hS HS
      by_cases hlt : l.length < n
      · have f5 : decide ((l.length : Int) < (n : Int)) = true := decide_eq_true (by omega)
        have f6 : decide (l.length < n) = true := decide_eq_true hlt
        clear hlv hlt
        have hR2 := hR.setBad
        have hG2 := by_set hG 2 (.bool true)
        have rf := hR.frozen
        clear hR hG hO
        go_wp2_with fail
        go_ret
        exact ⟨none, 0, [], q, true, rfl, SlV.nil _ _, frs_nil _, hR2, hq, hG2, Or.inr ⟨HG.out, rfl, rfl⟩⟩
      · have f5 : decide ((l.length : Int) < (n : Int)) = false := decide_eq_false (by omega)
        have f6 : decide (l.length < n) = false := decide_eq_false hlt
        clear hlv hlt
        have hR2 := hR.setBad
        have hG2 := by_set hG 2 (.bool true)
        have rf := hR.frozen
        clear hR hG hO
        go_wp2_with fail
        go_ret
        exact ⟨none, 0, [], q, true, rfl, SlV.nil _ _, frs_nil _, hR2, hq, hG2, Or.inr ⟨HG.out, rfl, rfl⟩⟩

theorem pReadCounts_uni (w : World) (b p : Nat) (s : ByteArray) (bad : Bool) (hs : s.size ≤ 1000000) (hp : p ≤ s.size) (hr : Rd 75 w b s p bad) :
    Calls Try.prog 25 #[.pointer (some ⟨b, 0, none⟩)] w fun e w' => ∃ (A : Option Addr) (c : Nat) (l : List Cn) (q : Nat) (bad' : Bool), e = .returned (.slice A l.length c) ∧ SlV cnE w' A c l ∧ Rd 75 w' b s q bad' ∧ q ≤ s.size ∧ w.grownBy w' (some b) ∧ cnsStep s p bad l q bad' :=
  (pReadCountsF_uni w b p s bad hs hp hr).mono fun _ _ ⟨A, c, l, q, bd, h1, h2, _, h3⟩ => ⟨A, c, l, q, bd, h1, h2, h3⟩
end Go.Proofs.Ytfpgfclmmdihjaa

/- The program's Thaw, of any bytes. -/
namespace Go.Proofs.Ytfpgfclmmdihjaa
open Go.RowKit Tre Cod Pst Nam

/-- A state on its way: its stream's three numbers, its clock, its past, its counts. -/
structure Sx where
  s : Int
  t : Int
  p : Int
  clock : Int
  y : Pw
  cA : Option Addr
  cc : Nat
  l : List Cn
def Sx.zero : Sx := ⟨0, 0, 0, 0, Pw.zero, none, 0, []⟩
def stX : El Sx where
  e := 65
  k := 26
  c x := [.int .i64 0, .int .i64 0, .int .i64 0, .int .i64 x.s, .int .i64 x.t, .int .i64 x.p, .slice none 0 0, .int .i64 0, .int .i64 0, .slice none 0 0, .slice none 0 0, .slice none 0 0, .slice none 0 0, .slice none 0 0, .slice x.y.bA x.y.base.length x.y.bc, .int .i64 x.y.t, .slice x.y.oA x.y.ops.length x.y.oc, .slice x.y.uA x.y.us.length x.y.uc, .slice x.y.wA x.y.now.length x.y.wc, .slice x.cA x.l.length x.cc, .int .i64 0, .int .i64 0, .int .i64 x.clock, .int .i64 0, .slice none 0 0, .int .i64 0]
  len _ := rfl
  one p u h := by
    simp only [List.mem_cons, List.not_mem_nil, or_false] at h
    rcases h with rfl | rfl | rfl | rfl | rfl | rfl | rfl | rfl | rfl | rfl | rfl | rfl | rfl | rfl | rfl | rfl | rfl | rfl | rfl | rfl | rfl | rfl | rfl | rfl | rfl | rfl <;> rfl
  pos := by decide
theorem stXRow : stX.Row Try.prog := ⟨by kernel_rfl, _, Try.underlying65, rfl⟩
theorem stX_cells (x : Sx) : ∀ v ∈ stX.c x, (∃ k, v = .int .i64 k) ∨ ∃ a m c, v = .slice a m c := by
  intro v hv
  simp only [stX, List.mem_cons, List.not_mem_nil, or_false] at hv
  rcases hv with rfl | rfl | rfl | rfl | rfl | rfl | rfl | rfl | rfl | rfl | rfl | rfl | rfl | rfl | rfl | rfl | rfl | rfl | rfl | rfl | rfl | rfl | rfl | rfl | rfl | rfl <;> first | exact Or.inl ⟨_, rfl⟩ | exact Or.inr ⟨_, _, _, rfl⟩
theorem stX_cell {w : World} {n i : Nat} {v : Value} {x : Sx} (hZ : stX.In w n x) (h : w.cell? ⟨n, i, none⟩ = some v) : (∃ k, v = .int .i64 k) ∨ ∃ a m c, v = .slice a m c := by
  rw [hZ.cell] at h
  exact stX_cells x v (List.mem_of_getElem? h)
theorem PastOk.keepS {w w' : World} {y : Pw} {n : Nat} {x : Sx} (h : PastOk w y) (hZ : stX.In w n x) (hg : w.grownBy w' (some n)) : PastOk w' y := by
  have hp : ∀ off x, ¬ plE.At w n off x := fun off x ha => by
    rcases stX_cell hZ (ha 2 _ rfl) with ⟨_, h⟩ | ⟨_, _, _, h⟩ <;> cases h
  have ho : ∀ off x, ¬ opE.At w n off x := fun off x ha => by
    rcases stX_cell hZ (ha 6 _ rfl) with ⟨_, h⟩ | ⟨_, _, _, h⟩ <;> cases h
  have hu : ∀ off x, ¬ unE.At w n off x := fun off x ha => by
    rcases stX_cell hZ (ha 2 _ rfl) with ⟨_, h⟩ | ⟨_, _, _, h⟩ <;> cases h
  exact ⟨h.b.keepRG (fun o _ => hp o _) hg, h.o.keepRG (fun o _ => ho o _) hg, h.u.keepRG (fun o _ => hu o _) hg, h.w.keepRG (fun o _ => hp o _) hg⟩
theorem SlV.keepF {α : Type} {E : El α} {w w' : World} {A : Option Addr} {c : Nat} {l : List α} {B n : Nat} (h : SlV E w A c l) (hf : Frs B A) (hn : n < B) (hg : w.grownBy w' (some n)) : SlV E w' A c l :=
  ⟨h.1.keep hg (fun a e e2 => by have h1 := hf a e; have h2 := Option.some.inj e2; omega), h.2⟩
/-- A part of a state stored. -/
theorem wpList_store_stX {T : TypeId} {k : Nat} (hT : (Try.prog.info? T).map (·.size) = some k) {ops : Array Oper} {rest : List Oper} {o : Oper} {a : Act} {w : World} {Q : Exit → Act → World → Prop} (hgd : o.guard = none) (x y : Operand) (ho : o.op = .store T x y)
    (b off : Nat) (p z : Sx) (vs : List Value) (hvl : vs.length = k) (h1 : ∀ v ∈ vs, v.oneCell' = true) (hx : a.eval x = .pointer (some ⟨b, off, none⟩)) (hy : a.eval y = .agg vs.toArray) (hg : stX.In w b p) (hz : (stX.c p).take off ++ vs ++ (stX.c p).drop (off + vs.length) = stX.c z) (hfit : off + vs.length ≤ 26)
    (h : wpList Try.prog ops Q rest (a.put o.dst undef) (w.setRow b (stX.c z).toArray)) : wpList Try.prog ops Q (o :: rest) a w :=
  wpList_plain hgd fun _ hK => by
    have hs := run_storeCells_at (P := Try.prog) b off 65 vs 0 (stX.c p).toArray w hg (by show off + 0 + vs.length ≤ 26; omega) h1
    rw [Nat.add_zero, hz] at hs
    have hv : (storeVar T ⟨b, off, none⟩ (.agg vs.toArray)).run Try.prog w = .ok () (w.setRow b (stX.c z).toArray) := by
      cases hq : Try.prog.info? T with
      | none => simp [hq] at hT
      | some inf =>
        have hinf : inf.size = k := by simpa [hq] using hT
        simp [storeVar, sizeOf, typeInfo, hq, Value.cells, hinf, hvl, hs]
    unfold Oper.wp execOp
    simp only [ho, hx, hy, Instr.storeAt, Instr.sureAddr, Sem.run_bind, Sem.run_pure, Result.andThen_ok, hv]
    exact hK _ _ h

def cntStepX (s : ByteArray) (p : Nat) (bad : Bool) (most v : Int) (q : Nat) (bad' : Bool) : Prop := (isCount s p bad most = some (v, q) ∧ bad' = false) ∨ (isCount s p bad most = none ∧ v = 0 ∧ bad' = true)
theorem countX_uni {w : World} {b p : Nat} {s : ByteArray} {bad : Bool} (most : Int) (hs : s.size ≤ 1000000) (hp : p ≤ s.size) (hr : Rd 75 w b s p bad) :
    Calls Try.prog 47 #[.pointer (some ⟨b, 0, none⟩), .int .i64 most] w fun e w' => ∃ v q bad', e = .returned (.int .i64 v) ∧ Rd 75 w' b s q bad' ∧ q ≤ s.size ∧ w.grownBy w' (some b) ∧ cntStepX s p bad most v q bad' := by
  rcases h : isCount s p bad most with _ | ⟨v, q⟩
  · exact (count_no hs hp hr h).mono fun e w' ⟨he, ⟨q, hq, hr'⟩, hg⟩ => ⟨0, q, true, he, hr', hq, hg, Or.inr ⟨h, rfl, rfl⟩⟩
  · obtain ⟨h1, h2⟩ := isCount_some h
    exact (count_yes hs hp hr h).mono fun e w' ⟨he, hr', hg⟩ => ⟨v, q, false, he, hr', (isNum_some h1).2.2.1, hg, Or.inl ⟨h, rfl⟩⟩
/-- A number from 0 to m, or none. -/
theorem cntX_num {s : ByteArray} {p : Nat} {bad : Bool} {m v : Int} {q : Nat} (h1 : isNum s p bad = some (v, q)) (h2 : 0 ≤ v ∧ v ≤ m) : isCount s p bad m = some (v, q) := by
  unfold isCount
  rw [h1]
  dsimp only
  rw [if_pos h2]
theorem snap_parts {s : ByteArray} {x : Sn} (h : isSnap s = some x) : ∃ q1 q2 q3, isCount s 0 false 1099511627776 = some (x.pos, q1) ∧ isCount s q1 false 1099511627776 = some (x.clock, q2) ∧ isPast s q2 false = some (x.p, q3) ∧ isCns s q3 false = some (x.l, s.size) := by
  unfold isSnap at h
  simp only [Option.bind_eq_some_iff] at h
  obtain ⟨a, ha, b, hb, c, hc, d, hd, h⟩ := h
  split at h
  · rename_i hh
    injection h with h
    subst h
    refine ⟨a.2, b.2, c.2, cntX_num ha hh.2.1, cntX_num hb hh.2.2, hc, ?_⟩
    rw [hd, ← hh.1]
  · cases h
theorem thawX_val {s : ByteArray} {v1 v2 : Int} {q1 q2 q3 q4 : Nat} {b1 b2 b3 b4 : Bool} {y : Pv} {l : List Cn} (h1 : cntStepX s 0 false 1099511627776 v1 q1 b1) (h2 : cntStepX s q1 b1 1099511627776 v2 q2 b2) (h3 : (isPast s q2 b2 = some (y, q3) ∧ b3 = false) ∨ (isPast s q2 b2 = none ∧ b3 = true)) (h4 : cnsStep s q3 b3 l q4 b4) :
    isSnap s = if isDone s q4 b4 = true then some ⟨v1, v2, y, l⟩ else none := by
  by_cases hd : isDone s q4 b4 = true
  · rw [if_pos hd]
    have hb4 : b4 = false := by
      cases b4
      · rfl
      · unfold isDone at hd; simp at hd
    subst hb4
    have hq : q4 = s.size := by unfold isDone at hd; simpa using hd
    rcases h4 with ⟨h4, _⟩ | ⟨_, _, h⟩
    · rcases h3 with ⟨h3, rfl⟩ | ⟨_, rfl⟩
      · rcases h2 with ⟨h2, rfl⟩ | ⟨_, _, rfl⟩
        · rcases h1 with ⟨h1, rfl⟩ | ⟨_, _, rfl⟩
          · obtain ⟨g1, r1⟩ := isCount_some h1
            obtain ⟨g2, r2⟩ := isCount_some h2
            unfold isSnap
            rw [g1, Option.bind_some]
            dsimp only
            rw [g2, Option.bind_some]
            dsimp only
            rw [h3, Option.bind_some]
            dsimp only
            rw [h4, Option.bind_some]
            dsimp only
            rw [if_pos ⟨hq, r1, r2⟩]
          · rw [isCount_badF] at h2; cases h2
        · rw [isPast_bad] at h3; cases h3
      · rw [isCns_bad] at h4; cases h4
    · cases h
  · rw [if_neg hd]
    cases hx : isSnap s with
    | none => rfl
    | some x =>
      exfalso
      apply hd
      obtain ⟨p1, p2, p3, g1, g2, g3, g4⟩ := snap_parts hx
      rcases h1 with ⟨h1, rfl⟩ | ⟨h1, _, _⟩
      · rw [g1] at h1
        injection h1 with h1
        injection h1 with _ h1
        subst h1
        rcases h2 with ⟨h2, rfl⟩ | ⟨h2, _, _⟩
        · rw [g2] at h2
          injection h2 with h2
          injection h2 with _ h2
          subst h2
          rcases h3 with ⟨h3, rfl⟩ | ⟨h3, _⟩
          · rw [g3] at h3
            injection h3 with h3
            injection h3 with _ h3
            subst h3
            rcases h4 with ⟨h4, rfl⟩ | ⟨h4, _, _⟩
            · rw [g4] at h4
              injection h4 with h4
              injection h4 with _ h4
              subst h4
              unfold isDone
              simp
            · rw [g4] at h4; cases h4
          · rw [g3] at h3; cases h3
        · rw [g2] at h2; cases h2
      · rw [g1] at h1; cases h1
theorem fewX {s : ByteArray} {v1 v2 : Int} {q1 q2 : Nat} {b1 b2 : Bool} (h1 : cntStepX s 0 false 1099511627776 v1 q1 b1) (h2 : cntStepX s q1 b1 1099511627776 v2 q2 b2) (hf : ∀ V q, isSnapP s = some (V, q) → V.ops.length ≤ 800) : ∀ V q, isPast s q2 b2 = some (V, q) → V.ops.length ≤ 800 := fun V q h => by
  rcases h2 with ⟨h2, rfl⟩ | ⟨_, _, rfl⟩
  · rcases h1 with ⟨h1, rfl⟩ | ⟨_, _, rfl⟩
    · refine hf V q ?_
      unfold isSnapP
      rw [(isCount_some h1).1, Option.bind_some]
      dsimp only
      rw [(isCount_some h2).1, Option.bind_some]
      exact h
    · rw [isCount_badF] at h2; cases h2
  · rw [isPast_bad] at h; cases h
set_option maxRecDepth 100000 in
set_option maxHeartbeats 16000000 in
theorem pThaw_any (s : ByteArray) (w : World) (hs : s.size ≤ 1000000) (hfew : ∀ V q, isSnapP s = some (V, q) → V.ops.length ≤ 800) :
    Calls Try.prog 23 #[.string s] w fun e w' => ∃ (x : Sw) (b : Bool), e = .returned (.tuple #[.agg #[.int .i64 0, .int .i64 0, .int .i64 0, .int .i64 x.pos, .int .i64 x.y.t, .int .i64 x.pos, .slice none 0 0, .int .i64 0, .int .i64 0, .slice none 0 0, .slice none 0 0, .slice none 0 0, .slice none 0 0, .slice none 0 0, .slice x.y.bA x.y.base.length x.y.bc, .int .i64 x.y.t, .slice x.y.oA x.y.ops.length x.y.oc, .slice x.y.uA x.y.us.length x.y.uc, .slice x.y.wA x.y.now.length x.y.wc, .slice x.cA x.l.length x.cc, .int .i64 0, .int .i64 0, .int .i64 x.clock, .int .i64 0, .slice none 0 0, .int .i64 0], .bool b]) ∧ x.ok w' ∧ Below w.heap.size w w' ∧ ((isSnap s = some x.v ∧ b = true) ∨ (isSnap s = none ∧ x = Sw.zero ∧ b = false)) := by
  have HF := Lib.hid hfew
  clear hfew
  go_enter Try.func23, Try.ntmps23
  go_upto_region 2 with (first | (refine wpList_alloc_st rfl rfl ?_) | fail)
  have hR := Rd.new (w.alloc (.cells #[.int .i64 0, .int .i64 0, .int .i64 0, .int .i64 0, .int .i64 0, .int .i64 0, .slice none 0 0, .int .i64 0, .int .i64 0, .slice none 0 0, .slice none 0 0, .slice none 0 0, .slice none 0 0, .slice none 0 0, .slice none 0 0, .int .i64 0, .slice none 0 0, .slice none 0 0, .slice none 0 0, .slice none 0 0, .int .i64 0, .int .i64 0, .int .i64 0, .int .i64 0, .slice none 0 0, .int .i64 0] 65)) 75 s 0 rfl
  rw [show (w.alloc (.cells #[.int .i64 0, .int .i64 0, .int .i64 0, .int .i64 0, .int .i64 0, .int .i64 0, .slice none 0 0, .int .i64 0, .int .i64 0, .slice none 0 0, .slice none 0 0, .slice none 0 0, .slice none 0 0, .slice none 0 0, .slice none 0 0, .int .i64 0, .slice none 0 0, .slice none 0 0, .slice none 0 0, .slice none 0 0, .int .i64 0, .int .i64 0, .int .i64 0, .int .i64 0, .slice none 0 0, .int .i64 0] 65)).heap.size = w.heap.size + 1 from alloc_size _ _] at hR
  have hZ : stE.In ((w.alloc (.cells #[.int .i64 0, .int .i64 0, .int .i64 0, .int .i64 0, .int .i64 0, .int .i64 0, .slice none 0 0, .int .i64 0, .int .i64 0, .slice none 0 0, .slice none 0 0, .slice none 0 0, .slice none 0 0, .slice none 0 0, .slice none 0 0, .int .i64 0, .slice none 0 0, .slice none 0 0, .slice none 0 0, .slice none 0 0, .int .i64 0, .int .i64 0, .int .i64 0, .int .i64 0, .slice none 0 0, .int .i64 0] 65)).alloc (.cells #[.string s, .int .i64 0, .bool false] 75)) w.heap.size Sw.zero := (El.In.new (E := stE) w Sw.zero #[.int .i64 0, .int .i64 0, .int .i64 0, .int .i64 0, .int .i64 0, .int .i64 0, .slice none 0 0, .int .i64 0, .int .i64 0, .slice none 0 0, .slice none 0 0, .slice none 0 0, .slice none 0 0, .slice none 0 0, .slice none 0 0, .int .i64 0, .slice none 0 0, .slice none 0 0, .slice none 0 0, .slice none 0 0, .int .i64 0, .int .i64 0, .int .i64 0, .int .i64 0, .slice none 0 0, .int .i64 0] rfl).alloc _
  have hB := below_alloc (below_alloc (Below.refl w.heap.size w) (.cells #[.int .i64 0, .int .i64 0, .int .i64 0, .int .i64 0, .int .i64 0, .int .i64 0, .slice none 0 0, .int .i64 0, .int .i64 0, .slice none 0 0, .slice none 0 0, .slice none 0 0, .slice none 0 0, .slice none 0 0, .slice none 0 0, .int .i64 0, .slice none 0 0, .slice none 0 0, .slice none 0 0, .slice none 0 0, .int .i64 0, .int .i64 0, .int .i64 0, .int .i64 0, .slice none 0 0, .int .i64 0] 65)) (.cells #[.string s, .int .i64 0, .bool false] 75)
  generalize (w.alloc (.cells #[.int .i64 0, .int .i64 0, .int .i64 0, .int .i64 0, .int .i64 0, .int .i64 0, .slice none 0 0, .int .i64 0, .int .i64 0, .slice none 0 0, .slice none 0 0, .slice none 0 0, .slice none 0 0, .slice none 0 0, .slice none 0 0, .int .i64 0, .slice none 0 0, .slice none 0 0, .slice none 0 0, .slice none 0 0, .int .i64 0, .int .i64 0, .int .i64 0, .int .i64 0, .slice none 0 0, .int .i64 0] 65)).alloc (.cells #[.string s, .int .i64 0, .bool false] 75) = W0 at *
  obtain ⟨n2, h2⟩ : ∃ n, w.heap.size = n := ⟨_, rfl⟩
  obtain ⟨b, h3⟩ : ∃ n, w.heap.size + 1 = n := ⟨_, rfl⟩
  have hn2 : w.heap.size ≤ n2 := by omega
  have hnb : w.heap.size ≤ b := by omega
  have e2 : b ≠ n2 := by omega
  have i2 : some n2 ≠ some b := fun e => e2 (Option.some.inj e).symm
  rw [h3] at hR ⊢
  rw [h2] at hZ ⊢
  clear h2 h3
  have hY : stX.In (W0.alloc (.cells #[.int .i64 0, .int .i64 0, .int .i64 0, .int .i64 0, .int .i64 0, .int .i64 0, .slice none 0 0, .int .i64 0, .int .i64 0, .slice none 0 0, .slice none 0 0, .slice none 0 0, .slice none 0 0, .slice none 0 0, .slice none 0 0, .int .i64 0, .slice none 0 0, .slice none 0 0, .slice none 0 0, .slice none 0 0, .int .i64 0, .int .i64 0, .int .i64 0, .int .i64 0, .slice none 0 0, .int .i64 0] 65)) W0.heap.size Sx.zero := El.In.new (E := stX) W0 Sx.zero #[.int .i64 0, .int .i64 0, .int .i64 0, .int .i64 0, .int .i64 0, .int .i64 0, .slice none 0 0, .int .i64 0, .int .i64 0, .slice none 0 0, .slice none 0 0, .slice none 0 0, .slice none 0 0, .slice none 0 0, .slice none 0 0, .int .i64 0, .slice none 0 0, .slice none 0 0, .slice none 0 0, .slice none 0 0, .int .i64 0, .int .i64 0, .int .i64 0, .int .i64 0, .slice none 0 0, .int .i64 0] rfl
  have hal := below_alloc (Below.refl W0.heap.size W0) (.cells #[.int .i64 0, .int .i64 0, .int .i64 0, .int .i64 0, .int .i64 0, .int .i64 0, .slice none 0 0, .int .i64 0, .int .i64 0, .slice none 0 0, .slice none 0 0, .slice none 0 0, .slice none 0 0, .slice none 0 0, .slice none 0 0, .int .i64 0, .slice none 0 0, .slice none 0 0, .slice none 0 0, .slice none 0 0, .int .i64 0, .int .i64 0, .int .i64 0, .int .i64 0, .slice none 0 0, .int .i64 0] 65)
  have e5 : b ≠ W0.heap.size := Nat.ne_of_lt hR.lt
  have f5 : n2 ≠ W0.heap.size := Nat.ne_of_lt hZ.lt
  have hn5 : w.heap.size ≤ W0.heap.size := hB.size
  replace hR := hR.below hal
  replace hZ := hZ.below hal
  replace hB := below_then hB hal
  clear hal
  go_upto_region 3 with (first | (refine wpList_alloc_st rfl rfl ?_) | fail)
  generalize W0.alloc (.cells #[.int .i64 0, .int .i64 0, .int .i64 0, .int .i64 0, .int .i64 0, .int .i64 0, .slice none 0 0, .int .i64 0, .int .i64 0, .slice none 0 0, .slice none 0 0, .slice none 0 0, .slice none 0 0, .slice none 0 0, .slice none 0 0, .int .i64 0, .slice none 0 0, .slice none 0 0, .slice none 0 0, .slice none 0 0, .int .i64 0, .int .i64 0, .int .i64 0, .int .i64 0, .slice none 0 0, .int .i64 0] 65) = W at *
  generalize W0.heap.size = n5 at *
  have i5 : some n5 ≠ some b := fun e => e5 (Option.some.inj e).symm
  go_wp2_with fail
  refine (countX_uni 1099511627776 hs (Nat.zero_le _) hR).mono ?_
  rintro e w1 ⟨v1, q1, b1, rfl, hR, hq1, hg, st1⟩
  replace hB := below_by hB hg hnb
  replace hZ := hZ.keep hg i2
  replace hY := hY.keep hg i5
  clear hg
  go_wp2_with fail
  refine (countX_uni 1099511627776 hs hq1 hR).mono ?_
  rintro e w2 ⟨v2, q2, b2, rfl, hR, hq2, hg, st2⟩
  replace hB := below_by hB hg hnb
  replace hZ := hZ.keep hg i2
  replace hY := hY.keep hg i5
  clear hg
  have kc := hY.cell 22
  have kf := hY.frozen
  replace kc : w2.cell? ⟨n5, 22, none⟩ = some (.int .i64 0) := kc
  replace hY := hY.put ⟨0, 0, 0, v2, Pw.zero, none, 0, []⟩ 22 (.int .i64 v2) rfl
  replace hZ := hZ.other n5 22 (.int .i64 v2) f5
  replace hR := hR.other n5 22 (.int .i64 v2) e5
  replace hB := Below.setCell hB (p := ⟨n5, 22, none⟩) hn5 (.int .i64 v2)
  go_upto_region 5 with fail
  clear kc kf
  generalize w2.setCell ⟨n5, 22, none⟩ (.int .i64 v2) = W2 at *
  go_wp2_with fail
  refine (pPastRead_uni _ _ _ _ _ hs hq2 hR (fewX st1 st2 HF.out)).mono ?_
  rintro e w3 ⟨y, q3, b3, rfl, hP, hR, hq3, hg, st3⟩
  replace hB := below_by hB hg hnb
  replace hZ := hZ.keep hg i2
  replace hY := hY.keep hg i5
  clear hg
  have HST := Lib.hid (And.intro st1 (And.intro st2 st3))
  clear st1 st2 st3
  go_upto_region 6 with (first | (refine wpList_store_stX (T := 27) (k := 5) (by kernel_rfl) rfl _ _ rfl n5 14 ⟨0, 0, 0, v2, Pw.zero, none, 0, []⟩ ⟨0, 0, 0, v2, y, none, 0, []⟩ [.slice y.bA y.base.length y.bc, .int .i64 y.t, .slice y.oA y.ops.length y.oc, .slice y.uA y.us.length y.uc, .slice y.wA y.now.length y.wc] rfl (by intro v hv; simp only [List.mem_cons, List.not_mem_nil, or_false] at hv; rcases hv with rfl | rfl | rfl | rfl | rfl <;> rfl) rfl rfl hY rfl (by show 14 + 5 ≤ 26; omega) ?_) | fail)
  replace hP := hP.keepS hY (by_row w3 n5 (stX.c ⟨0, 0, 0, v2, y, none, 0, []⟩).toArray)
  replace hY := hY.set ⟨0, 0, 0, v2, y, none, 0, []⟩ (stX.c ⟨0, 0, 0, v2, y, none, 0, []⟩).toArray rfl
  replace hR := hR.row n5 (stX.c ⟨0, 0, 0, v2, y, none, 0, []⟩).toArray e5
  replace hZ := hZ.rowN n5 (stX.c ⟨0, 0, 0, v2, y, none, 0, []⟩).toArray f5
  replace hB := below_setRow hB hn5 (stX.c ⟨0, 0, 0, v2, y, none, 0, []⟩).toArray
  generalize w3.setRow n5 (stX.c ⟨0, 0, 0, v2, y, none, 0, []⟩).toArray = W4 at *
  go_wp2_with fail
  refine (pReadCountsF_uni _ _ _ _ _ hs hq3 hR).mono ?_
  rintro e w5 ⟨A, c, l, q4, b4, rfl, hL, hF, hR5, hq4, hg, st4⟩
  have hn5B : n5 < W4.heap.size := hY.lt
  have hn2B : n2 < W4.heap.size := hZ.lt
  replace hP := hP.keepR hR hg
  replace hB := below_by hB hg hnb
  replace hZ := hZ.keep hg i2
  replace hY := hY.keep hg i5
  clear hR hg
  have kc := hY.cell 19
  have kf := hY.frozen
  replace kc : w5.cell? ⟨n5, 19, none⟩ = some (.slice none 0 0) := kc
  have hgr := by_set (by_below (Below.refl w5.heap.size w5) (some n5)) 19 (.slice A l.length c)
  replace hP := hP.keepS hY hgr
  replace hL := hL.keepF hF hn5B hgr
  replace hY := hY.put ⟨0, 0, 0, v2, y, A, c, l⟩ 19 (.slice A l.length c) rfl
  replace hZ := hZ.other n5 19 (.slice A l.length c) f5
  replace hR := hR5.other n5 19 (.slice A l.length c) e5
  replace hB := Below.setCell hB (p := ⟨n5, 19, none⟩) hn5 (.slice A l.length c)
  clear hR5 hgr
  go_upto_region 7 with fail
  clear kc kf
  generalize w5.setCell ⟨n5, 19, none⟩ (.slice A l.length c) = W5 at *
  obtain ⟨h1, h2, h3⟩ := HST.out
  have hval := thawX_val h1 h2 (h3.imp (fun h => h) (fun h => ⟨h.1, h.2.2⟩)) st4
  clear st4 h1 h2 h3 HST
  have cD := done_any hq4 hR
  obtain ⟨d, hd⟩ : ∃ d, isDone s q4 b4 = d := ⟨_, rfl⟩
  rw [hd] at cD hval
  go_wp2_with fail
  refine cD.mono ?_
  rintro e w6 ⟨rfl, n, rfl⟩
  replace hB := below_drew hB n
  replace hP : PastOk (W5.drewN n) y := hP.below (below_drew (Below.refl _ _) n)
  replace hL : SlV cnE (W5.drewN n) A c l := hL.below (below_drew (Below.refl _ _) n)
  replace hZ : stE.In (W5.drewN n) n2 Sw.zero := hZ
  replace hY : stX.In (W5.drewN n) n5 ⟨0, 0, 0, v2, y, A, c, l⟩ := hY
  have HV := Lib.hid hval
  clear cD hd hR hval
  generalize W5.drewN n = W6 at *
  cases d
  · have HI := Lib.hid (show isSnap s = none by rw [HV.out]; exact if_neg (fun h => by cases h))
    clear HV hY hP hL
    go_wp2_with (first | (refine El.store stRow rfl _ _ rfl n2 Sw.zero #[.int .i64 0, .int .i64 0, .int .i64 0, .int .i64 0, .int .i64 0, .int .i64 0, .slice none 0 0, .int .i64 0, .int .i64 0, .slice none 0 0, .slice none 0 0, .slice none 0 0, .slice none 0 0, .slice none 0 0, .slice none 0 0, .int .i64 0, .slice none 0 0, .slice none 0 0, .slice none 0 0, .slice none 0 0, .int .i64 0, .int .i64 0, .int .i64 0, .int .i64 0, .slice none 0 0, .int .i64 0] rfl rfl rfl Sw.zero hZ ?_) | fail)
    refine El.ret2 stRow (hZ.set Sw.zero #[.int .i64 0, .int .i64 0, .int .i64 0, .int .i64 0, .int .i64 0, .int .i64 0, .slice none 0 0, .int .i64 0, .int .i64 0, .slice none 0 0, .slice none 0 0, .slice none 0 0, .slice none 0 0, .slice none 0 0, .slice none 0 0, .int .i64 0, .slice none 0 0, .slice none 0 0, .slice none 0 0, .slice none 0 0, .int .i64 0, .int .i64 0, .int .i64 0, .int .i64 0, .slice none 0 0, .int .i64 0] rfl) rfl rfl rfl rfl #[.int .i64 0, .int .i64 0, .int .i64 0, .int .i64 0, .int .i64 0, .int .i64 0, .slice none 0 0, .int .i64 0, .int .i64 0, .slice none 0 0, .slice none 0 0, .slice none 0 0, .slice none 0 0, .slice none 0 0, .slice none 0 0, .int .i64 0, .slice none 0 0, .slice none 0 0, .slice none 0 0, .slice none 0 0, .int .i64 0, .int .i64 0, .int .i64 0, .int .i64 0, .slice none 0 0, .int .i64 0] rfl ?_
    exact ⟨Sw.zero, false, rfl, Sw.ok.zero _, below_setRow hB hn2 _, Or.inr ⟨HI.out, rfl, rfl⟩⟩
  · have HI := Lib.hid (show isSnap s = some (⟨v1, v2, y, A, c, l⟩ : Sw).v by rw [HV.out]; exact if_pos rfl)
    clear HV
    have t15 : W6.cell? ⟨n5, 15, none⟩ = some (.int .i64 y.t) := hY.cell 15
    go_upto_region 10 with (first | (refine wpList_store_stX (T := 58) (k := 4) (by kernel_rfl) rfl _ _ rfl n5 3 ⟨0, 0, 0, v2, y, A, c, l⟩ ⟨v1, y.t, v1, v2, y, A, c, l⟩ [.int .i64 v1, .int .i64 y.t, .int .i64 v1, .slice none 0 0] rfl (by intro v hv; simp only [List.mem_cons, List.not_mem_nil, or_false] at hv; rcases hv with rfl | rfl | rfl | rfl <;> rfl) rfl rfl hY rfl (by show 3 + 4 ≤ 26; omega) ?_) | fail)
    have hgr := by_row W6 n5 (stX.c ⟨v1, y.t, v1, v2, y, A, c, l⟩).toArray
    replace hP := hP.keepS hY hgr
    replace hL := hL.keepF hF hn5B hgr
    replace hY := hY.set ⟨v1, y.t, v1, v2, y, A, c, l⟩ (stX.c ⟨v1, y.t, v1, v2, y, A, c, l⟩).toArray rfl
    replace hZ := hZ.rowN n5 (stX.c ⟨v1, y.t, v1, v2, y, A, c, l⟩).toArray f5
    replace hB := below_setRow hB hn5 (stX.c ⟨v1, y.t, v1, v2, y, A, c, l⟩).toArray
    clear t15 hgr
    generalize W6.setRow n5 (stX.c ⟨v1, y.t, v1, v2, y, A, c, l⟩).toArray = W7 at *
    go_wp2_with (first | (refine El.load stXRow rfl _ rfl n5 0 rfl ⟨v1, y.t, v1, v2, y, A, c, l⟩ hY.at #[.int .i64 0, .int .i64 0, .int .i64 0, .int .i64 v1, .int .i64 y.t, .int .i64 v1, .slice none 0 0, .int .i64 0, .int .i64 0, .slice none 0 0, .slice none 0 0, .slice none 0 0, .slice none 0 0, .slice none 0 0, .slice y.bA y.base.length y.bc, .int .i64 y.t, .slice y.oA y.ops.length y.oc, .slice y.uA y.us.length y.uc, .slice y.wA y.now.length y.wc, .slice A l.length c, .int .i64 0, .int .i64 0, .int .i64 v2, .int .i64 0, .slice none 0 0, .int .i64 0] rfl ?_) | (refine El.store stRow rfl _ _ rfl n2 (⟨v1, v2, y, A, c, l⟩ : Sw) #[.int .i64 0, .int .i64 0, .int .i64 0, .int .i64 v1, .int .i64 y.t, .int .i64 v1, .slice none 0 0, .int .i64 0, .int .i64 0, .slice none 0 0, .slice none 0 0, .slice none 0 0, .slice none 0 0, .slice none 0 0, .slice y.bA y.base.length y.bc, .int .i64 y.t, .slice y.oA y.ops.length y.oc, .slice y.uA y.us.length y.uc, .slice y.wA y.now.length y.wc, .slice A l.length c, .int .i64 0, .int .i64 0, .int .i64 v2, .int .i64 0, .slice none 0 0, .int .i64 0] rfl rfl rfl Sw.zero hZ ?_) | fail)
    refine El.ret2 stRow (hZ.set (⟨v1, v2, y, A, c, l⟩ : Sw) #[.int .i64 0, .int .i64 0, .int .i64 0, .int .i64 v1, .int .i64 y.t, .int .i64 v1, .slice none 0 0, .int .i64 0, .int .i64 0, .slice none 0 0, .slice none 0 0, .slice none 0 0, .slice none 0 0, .slice none 0 0, .slice y.bA y.base.length y.bc, .int .i64 y.t, .slice y.oA y.ops.length y.oc, .slice y.uA y.us.length y.uc, .slice y.wA y.now.length y.wc, .slice A l.length c, .int .i64 0, .int .i64 0, .int .i64 v2, .int .i64 0, .slice none 0 0, .int .i64 0] rfl) rfl rfl rfl rfl #[.int .i64 0, .int .i64 0, .int .i64 0, .int .i64 v1, .int .i64 y.t, .int .i64 v1, .slice none 0 0, .int .i64 0, .int .i64 0, .slice none 0 0, .slice none 0 0, .slice none 0 0, .slice none 0 0, .slice none 0 0, .slice y.bA y.base.length y.bc, .int .i64 y.t, .slice y.oA y.ops.length y.oc, .slice y.uA y.us.length y.uc, .slice y.wA y.now.length y.wc, .slice A l.length c, .int .i64 0, .int .i64 0, .int .i64 v2, .int .i64 0, .slice none 0 0, .int .i64 0] rfl ?_
    exact ⟨⟨v1, v2, y, A, c, l⟩, true, rfl, ⟨hP.keepZ hZ (by_row _ n2 _), hL.keepF hF hn2B (by_row _ n2 _)⟩, below_setRow hB hn2 _, Or.inl ⟨HI.out, rfl⟩⟩
end Go.Proofs.Ytfpgfclmmdihjaa

/- The document's Chunks, Cut. -/
namespace Go.Proofs.Ytfpgfclmmdihjaa
open Go.RowKit Nam Cod

theorem cut_math {n a c : Nat} (hc : 1 ≤ c) (h : (a : Int) < max 1 (((n : Int) + c - 1) / c)) (hn : n ≤ 1000000) (hc2 : c ≤ 1099511627776) : a * c ≤ n ∧ a * c ≤ min n ((a + 1) * c) ∧ (a + 1) * c ≤ 2199023255552 ∧ a + 1 ≤ (a + 1) * c := by
  have h9 : a + 1 ≤ (a + 1) * c := Nat.le_mul_of_pos_right _ hc
  have hm : (a + 1) * c = a * c + c := by rw [Nat.add_mul, Nat.one_mul]
  have hmi : ((a : Int) + 1) * c = ((a * c : Nat) : Int) + c := by rw [Int.add_mul, Int.one_mul, Int.natCast_mul]
  by_cases h1 : (a : Int) + 1 ≤ ((n : Int) + c - 1) / c
  · have h2 := (Int.le_ediv_iff_mul_le (show (0 : Int) < c by omega)).1 h1
    rw [hmi] at h2
    rw [hm]
    omega
  · have h2 : a = 0 := by omega
    subst h2
    rw [hm]
    omega
end Go.Proofs.Ytfpgfclmmdihjaa

/- The program's Chunks, Cut. -/
namespace Go.Proofs.Ytfpgfclmmdihjaa
open Go.RowKit Nam Cod

theorem size0_iff (s : ByteArray) : s.size = 0 ↔ s = ⟨#[]⟩ := by
  constructor
  · intro h
    obtain ⟨d⟩ := s
    have h2 : d.size = 0 := h
    rw [Array.eq_empty_of_size_eq_zero h2]
  · rintro rfl; rfl
theorem chunks_more {n : Nat} {z : Int} (hn : 1 ≤ n) (hz : 1 ≤ z) : max 1 (((n : Int) + z - 1) / z) = ((n : Int) - 1) / z + 1 := by
  have h1 : (n : Int) + z - 1 = ((n : Int) - 1) + z := by omega
  have h2 : (((n : Int) - 1) + z) / z = ((n : Int) - 1) / z + 1 := Int.add_ediv_of_dvd_right (Int.dvd_refl z) |>.trans (by rw [Int.ediv_self (by omega)])
  have h3 : 0 ≤ ((n : Int) - 1) / z := Int.ediv_nonneg (by omega) (by omega)
  rw [h1, h2]
  omega
theorem quo_le {n : Nat} {z : Int} (hn : 1 ≤ n) (hz : 1 ≤ z) : 0 ≤ ((n : Int) - 1) / z ∧ ((n : Int) - 1) / z ≤ n := by
  have h3 : 0 ≤ ((n : Int) - 1) / z := Int.ediv_nonneg (by omega) (by omega)
  have h4 : ((n : Int) - 1) / z ≤ (n : Int) - 1 := Int.ediv_le_self z (by omega)
  omega
set_option maxRecDepth 100000 in
set_option maxHeartbeats 2000000 in
theorem pChunks_any (s : ByteArray) (z : Int) (w : World) (hs : s.size ≤ 1000000) (hz : i64 z) (hz2 : z ≤ 1099511627776) : Calls Try.prog 21 #[.string s, .int .i64 z] w fun e w' => e = .returned (.int .i64 (chunksV s.size z)) ∧ w = w' := by
  by_cases h : z < 1
  · have hv : chunksV s.size z = 0 := if_pos h
    rw [hv]
    have f1 : decide (z < 1) = true := decide_eq_true h
    clear hv h
    go_enter Try.func21, Try.ntmps21
    go_wp2_with fail
    go_ret
    exact ⟨rfl, rfl⟩
  · have hv : chunksV s.size z = max 1 (((s.size : Int) + z - 1) / z) := if_neg h
    have f1 : decide (z < 1) = false := decide_eq_false h
    by_cases h0 : s.size = 0
    · have hv1 : chunksV s.size z = 1 := by
        rw [hv, h0, show (((0 : Nat) : Int) + z - 1) / z = 0 from Int.ediv_eq_zero_of_lt (by omega) (by omega)]; rfl
      rw [hv1]
      obtain rfl := (size0_iff s).1 h0
      clear hv hv1 h h0
      go_enter Try.func21, Try.ntmps21
      go_wp2_with fail
      go_ret
      exact ⟨rfl, rfl⟩
    · rw [chunks_more (by omega) (by omega)] at hv
      rw [hv]
      obtain ⟨q0, q1⟩ := quo_le (n := s.size) (z := z) (by omega) (by omega)
      have hne : ¬ s = ⟨#[]⟩ := fun e => h0 ((size0_iff s).2 e)
      have he : s.toList.isEmpty = false := by
        rw [Lib.toList_data s]
        cases hh : s.data.toList with
        | nil =>
          exfalso
          apply h0
          show s.data.size = 0
          rw [← Array.length_toList, hh]; rfl
        | cons _ _ => rfl
      have he2 : ¬ s.toList = [] := fun h => by rw [h] at he; cases he
      have e1 : IntKind.i64.wrap ((s.size : Int) - 1) = (s.size : Int) - 1 := by rw [IntKind.wrap_i64]; omega
      go_enter Try.func21, Try.ntmps21
      go_wp2_with fail
      go_ret
      exact ⟨rfl, rfl⟩

theorem cut_end {s : ByteArray} {lo c : Nat} (hlo : lo ≤ s.size) : (s.extract lo s.size).extract 0 (min c (s.size - lo)) = s.extract lo (min s.size (lo + c)) := by
  rw [ByteArray.extract_extract]
  congr 1
  omega
set_option maxRecDepth 100000 in
set_option maxHeartbeats 4000000 in
theorem pCut_any (s : ByteArray) (z i : Int) (r : Rp) (w : World) (hs : s.size ≤ 1000000) (hz : i64 z) (hz2 : z ≤ 1099511627776) (hi : i64 i) : Calls Try.prog 22 #[.string s, .int .i64 z, .int .i64 i, .agg #[.int .i64 r.d, .int .i64 r.i, .int .i64 r.b, .int .i64 r.t, .int .i64 r.m, .int .i64 r.p, .int .i64 r.c, .int .i64 r.s, .int .i64 r.k]] w fun e w' => ∃ (g : Gf) (b : Bool), cutV s z i r = (g, b) ∧ e = .returned (.tuple #[.agg #[.int .i64 g.d, .int .i64 g.i, .int .i64 g.c, .int .i64 g.t, .string g.s], .bool b]) ∧ Below w.heap.size w w' := by
  have hP : rpE.In ((w.alloc (.cells #[.int .i64 r.d, .int .i64 r.i, .int .i64 r.b, .int .i64 r.t, .int .i64 r.m, .int .i64 r.p, .int .i64 r.c, .int .i64 r.s, .int .i64 r.k] 56)).alloc (.cells #[.int .i64 0, .int .i64 0, .int .i64 0, .int .i64 0, .string ⟨#[]⟩] 37)) w.heap.size r := (El.In.new (E := rpE) w r _ rfl).alloc _
  have hZ : gfE.In ((w.alloc (.cells #[.int .i64 r.d, .int .i64 r.i, .int .i64 r.b, .int .i64 r.t, .int .i64 r.m, .int .i64 r.p, .int .i64 r.c, .int .i64 r.s, .int .i64 r.k] 56)).alloc (.cells #[.int .i64 0, .int .i64 0, .int .i64 0, .int .i64 0, .string ⟨#[]⟩] 37)) (w.heap.size + 1) zeroGf := by
    have h := El.In.new (E := gfE) (w.alloc (.cells #[.int .i64 r.d, .int .i64 r.i, .int .i64 r.b, .int .i64 r.t, .int .i64 r.m, .int .i64 r.p, .int .i64 r.c, .int .i64 r.s, .int .i64 r.k] 56)) zeroGf _ rfl
    rw [alloc_size] at h; exact h
  have hB := below_alloc (below_alloc (Below.refl w.heap.size w) (.cells #[.int .i64 r.d, .int .i64 r.i, .int .i64 r.b, .int .i64 r.t, .int .i64 r.m, .int .i64 r.p, .int .i64 r.c, .int .i64 r.s, .int .i64 r.k] 56)) (.cells #[.int .i64 0, .int .i64 0, .int .i64 0, .int .i64 0, .string ⟨#[]⟩] 37)
  have C := Lib.hid (fun wx => pChunks_any s z wx hs hz hz2)
  obtain ⟨n, hn⟩ : ∃ n, chunksV s.size z = n := ⟨_, rfl⟩
  rw [hn] at C
  go_enter Try.func22, Try.ntmps22
  go_upto_region 1 with fail
  generalize (w.alloc (.cells #[.int .i64 r.d, .int .i64 r.i, .int .i64 r.b, .int .i64 r.t, .int .i64 r.m, .int .i64 r.p, .int .i64 r.c, .int .i64 r.s, .int .i64 r.k] 56)).alloc (.cells #[.int .i64 0, .int .i64 0, .int .i64 0, .int .i64 0, .string ⟨#[]⟩] 37) = W at *
  obtain ⟨n8, h8⟩ : ∃ n, w.heap.size + 1 = n := ⟨_, rfl⟩
  obtain ⟨n7, h7⟩ : ∃ n, w.heap.size = n := ⟨_, rfl⟩
  have hw8 : w.heap.size ≤ n8 := by omega
  have hne : n7 ≠ n8 := by omega
  rw [h8] at hZ ⊢
  rw [h7] at hP ⊢
  clear h8 h7
  go_wp2_with fail
  refine (C.out _).mono ?_
  rintro e w1 ⟨rfl, rfl⟩
  clear C
  by_cases h0 : i < 0
  · have hv : cutV s z i r = (zeroGf, false) := by unfold cutV; rw [if_neg (by omega)]
    have HV := Lib.hid hv
    have f1 : decide (i < 0) = true := decide_eq_true h0
    clear hv h0 hn
    go_wp2_with (first | (refine El.store gfRow rfl _ _ rfl n8 zeroGf #[.int .i64 0, .int .i64 0, .int .i64 0, .int .i64 0, .string ⟨#[]⟩] rfl rfl rfl zeroGf hZ ?_) | fail)
    refine El.ret2 gfRow (hZ.set zeroGf _ rfl) rfl rfl rfl rfl #[.int .i64 0, .int .i64 0, .int .i64 0, .int .i64 0, .string ⟨#[]⟩] rfl ?_
    exact ⟨zeroGf, false, HV.out, rfl, below_setRow hB hw8 _⟩
  · have f1 : decide (i < 0) = false := decide_eq_false h0
    by_cases h1 : n ≤ i
    · have hv : cutV s z i r = (zeroGf, false) := by unfold cutV; rw [hn, if_neg (by omega)]
      have HV := Lib.hid hv
      have f2 : decide (n ≤ i) = true := decide_eq_true h1
      clear hv h0 h1 hn
      go_wp2_with (first | (refine El.store gfRow rfl _ _ rfl n8 zeroGf #[.int .i64 0, .int .i64 0, .int .i64 0, .int .i64 0, .string ⟨#[]⟩] rfl rfl rfl zeroGf hZ ?_) | fail)
      refine El.ret2 gfRow (hZ.set zeroGf _ rfl) rfl rfl rfl rfl #[.int .i64 0, .int .i64 0, .int .i64 0, .int .i64 0, .string ⟨#[]⟩] rfl ?_
      exact ⟨zeroGf, false, HV.out, rfl, below_setRow hB hw8 _⟩
    · have f2 : decide (n ≤ i) = false := decide_eq_false h1
      have hz1 : ¬ z < 1 := fun h => by
        have : chunksV s.size z = 0 := if_pos h
        omega
      obtain ⟨c, rfl⟩ : ∃ c : Nat, z = c := ⟨z.toNat, by omega⟩
      obtain ⟨a, rfl⟩ : ∃ a : Nat, i = a := ⟨i.toNat, by omega⟩
      have hn2 : n = max 1 (((s.size : Int) + c - 1) / c) := by rw [← hn]; exact if_neg hz1
      obtain ⟨m1, m2, m3, m5⟩ := cut_math (n := s.size) (a := a) (c := c) (by omega) (by rw [← hn2]; omega) hs (by omega)
      have hv : cutV s c a r = (⟨r.d, r.i, a, n, s.extract (a * c) (min s.size ((a + 1) * c))⟩, true) := by
        unfold cutV; rw [hn, if_pos (by omega)]; simp only [Int.toNat_natCast]
      have i1 : (a : Int) * (c : Int) = ((a * c : Nat) : Int) := by rw [Int.natCast_mul]
      have hm : (a + 1) * c = a * c + c := by rw [Nat.add_mul, Nat.one_mul]
      rw [hm, ← cut_end m1] at hv
      have HV := Lib.hid hv
      obtain ⟨lo, hlo⟩ : ∃ lo, a * c = lo := ⟨_, rfl⟩
      rw [hlo] at m1 i1 HV
      have e1 : IntKind.i64.wrap ((a : Int) * (c : Int)) = (lo : Int) := by rw [i1, IntKind.wrap_i64]; omega
      have hTs : (s.extract lo s.size).size = s.size - lo := by rw [ByteArray.size_extract]; omega
      obtain ⟨q0, q1, _, _, _, _, _, _, _⟩ := rpIn9 hP
      have HTS := Lib.hid hTs
      clear hn hn2 hlo hm i1 hv m2 m3 m5 hTs
      go_upto_region 5 with fail
      have hTs := HTS.out
      generalize s.extract lo s.size = T at *
      obtain ⟨k, hk⟩ : ∃ k, min c (s.size - lo) = k := ⟨_, rfl⟩
      have e4 : min (c : Int) (T.size : Int) = (k : Int) := by omega
      have m4 : k ≤ T.size := by omega
      rw [hk] at HV
      clear hk hTs HTS e1
      obtain ⟨D, hD⟩ : ∃ D, T.extract 0 k = D := ⟨_, rfl⟩
      rw [hD] at HV
      go_upto_region 6 with fail
      clear hD e4 m4
      go_wp2_with (first | (refine El.store gfRow rfl _ _ rfl n8 ⟨r.d, r.i, a, n, D⟩ #[.int .i64 r.d, .int .i64 r.i, .int .i64 (a : Nat), .int .i64 n, .string D] rfl rfl rfl zeroGf hZ ?_) | fail)
      refine El.ret2 gfRow (hZ.set ⟨r.d, r.i, a, n, D⟩ #[.int .i64 r.d, .int .i64 r.i, .int .i64 (a : Nat), .int .i64 n, .string D] rfl) rfl rfl rfl rfl #[.int .i64 r.d, .int .i64 r.i, .int .i64 (a : Nat), .int .i64 n, .string D] rfl ?_
      exact ⟨⟨r.d, r.i, a, n, D⟩, true, HV.out, rfl, below_setRow hB hw8 _⟩
end Go.Proofs.Ytfpgfclmmdihjaa

/- The program's gifts: all calls. -/
namespace Go.Proofs.Ytfpgfclmmdihjaa
open Go.RowKit Nam Cod Tre Pst

theorem giftCalls : GiftCalls where
  freeze pos clock y A c l w h1 h2 hI hl60 hok hl hw hT := pFreeze_any pos clock y A c l w h1 h2 hI hl60 hok hl hw hT.1
  counts w b p s bad hs hp hr := pReadCounts_uni w b p s bad hs hp hr
  thaw s w hs hf := pThaw_any s w hs hf
  chunks s z w hs hz hz2 := (pChunks_any s z w hs hz hz2).mono fun e w' ⟨h1, h2⟩ => ⟨h1, by rw [← h2]; exact Below.refl _ _⟩
  cut s z i r w hs hz hz2 hi := pCut_any s z i r w hs hz hz2 hi
  newer a b w := pNewerG_any a b w
  merge A c l g w hl hT := pMergeG_any A c l g w hl hT
  wanted g A c l w hl hT := pWantedG_any g A c l w hl hT.1
end Go.Proofs.Ytfpgfclmmdihjaa
