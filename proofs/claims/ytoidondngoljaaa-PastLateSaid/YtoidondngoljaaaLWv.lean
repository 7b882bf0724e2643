/- PastLate is proved: what comes too late, or a second time, changes nothing. Conditions: none. -/
import Derived.Test.YtoidondngoljaaaB06
import Derived.Test.YtoidondngoljaaaRows
namespace Go.Proofs.Ytoidondngoljaaa
open Go.ChangeShapes Go.WideShapes Go.ChangeAt Go.RowKit Go.Deep Nam Cod Tre Pst

theorem late_no (A : Option Addr) (c : Nat) (l : List Mv) (t : Int) (w : World) (hsz : ∀ m ∈ l, m.s.size ≤ 9223372036854775807) (hT : opE.Sl w A l) (h : ¬ Fine l) :
    Calls Try.prog 7 #[.slice A l.length c, .int .u8 t] w fun e w' => e = .returned (.bool true) ∧ Below w.heap.size w w' := by
  have C1 := fine_any A c l w hsz hT false ⟨fun e => (by cases e), fun k => absurd k h⟩
  go_enter Try.func7, Try.ntmps7
  go_wp2_with (first | (go_at_call 10; (with_reducible refine C1.mono ?_); rintro e w1 ⟨rfl, hb1⟩) | (go_at_call 11; (with_reducible refine (awake_any _).mono ?_); rintro e w2 ⟨rfl, hb2⟩))
  go_ret
  exact ⟨rfl, below_then hb1 hb2⟩


set_option maxRecDepth 100000 in
set_option maxHeartbeats 8000000 in
theorem late_walk (A : Option Addr) (c : Nat) (l : List Mv) (t : Int) (w : World) (hsz : ∀ m ∈ l, m.s.size ≤ 9223372036854775807) (hT : opE.Sl w A l) (hf : Fine l) (ht : 0 ≤ t ∧ t ≤ 255) :
    Calls Try.prog 7 #[.slice A l.length c, .int .u8 t] w fun e w' => e = .returned (.bool true) ∧ Below w.heap.size w w' := by
  have C1 := fine_any A c l w hsz hT true ⟨fun _ => hf, fun _ => rfl⟩
  have hwr : IntKind.i64.wrap t = t := IntWalk.i64_in _ (by omega)
  obtain ⟨hl, hok⟩ := hf
  have hLA := late_all hok t
  have hI := (stG_inv hok [] l.length).1
  have hIl := (stG_inv hok [] l.length).2
  have CG := fun wx (h : opE.Sl wx A l) => grown_any A c l none 0 [] wx hl hok h (El.Sl.nil wx none) (fun t h => by cases h)
  obtain ⟨G, hG⟩ : ∃ G, stG l [] l.length = G := ⟨_, rfl⟩
  rw [hG] at hLA hI hIl CG
  obtain ⟨V, hV⟩ : ∃ V, settleV G t = V := ⟨_, rfl⟩
  rw [hV] at hLA
  have hIV : PInv V := by rw [← hV]; exact hI.settle (by omega)
  have hVl : V.ops.length ≤ 60 := by rw [← hV]; have := settleV_len G t; omega
  have HG := Lib.hid CG
  have HLA := Lib.hid hLA
  have HI := Lib.hid hI
  have HIL := Lib.hid hIl
  have HV := Lib.hid hV
  have HIV := Lib.hid hIV
  have HVL := Lib.hid hVl
  have HBL := Lib.hid (⟨tree_len hIV.tree, by have := hIV.ulen; omega, tree_len hIV.ntree⟩ : V.base.length ≤ 62 ∧ V.us.length ≤ 60 ∧ V.now.length ≤ 62)
  clear CG hG hLA hI hIl hV hIV hVl
  go_enter Try.func7, Try.ntmps7
  go_wp2_with fail
  refine C1.mono ?_
  rintro e w1 ⟨rfl, hb1⟩
  clear C1
  go_wp2_with fail
  refine (HG.out w1 (hT.below hb1)).mono ?_
  rintro e w2 ⟨y1, rfl, hy1, hv1, hb2⟩
  have hB2 := below_then hb1 hb2
  clear hb1 hb2 HG
  have hz : pwE.In (w2.alloc (.cells #[.slice none 0 0, .int .i64 0, .slice none 0 0, .slice none 0 0, .slice none 0 0] 29)) w2.heap.size Pw.zero := El.In.new (E := pwE) w2 Pw.zero #[.slice none 0 0, .int .i64 0, .slice none 0 0, .slice none 0 0, .slice none 0 0] rfl
  have hP1 := hz.set y1 #[.slice y1.bA y1.base.length y1.bc, .int .i64 y1.t, .slice y1.oA y1.ops.length y1.oc, .slice y1.uA y1.us.length y1.uc, .slice y1.wA y1.now.length y1.wc] rfl
  have hbz : Below w2.heap.size w2 ((w2.alloc (.cells #[.slice none 0 0, .int .i64 0, .slice none 0 0, .slice none 0 0, .slice none 0 0] 29)).setRow w2.heap.size #[.slice y1.bA y1.base.length y1.bc, .int .i64 y1.t, .slice y1.oA y1.ops.length y1.oc, .slice y1.uA y1.us.length y1.uc, .slice y1.wA y1.now.length y1.wc]) := below_setRow (below_alloc (Below.refl _ _) _) (Nat.le_refl _) _
  go_wp2_with (first | (refine El.store pwRow rfl _ _ rfl w2.heap.size y1 #[.slice y1.bA y1.base.length y1.bc, .int .i64 y1.t, .slice y1.oA y1.ops.length y1.oc, .slice y1.uA y1.us.length y1.uc, .slice y1.wA y1.now.length y1.wc] rfl rfl rfl Pw.zero hz ?_) | (refine El.load pwRow rfl _ rfl w2.heap.size 0 rfl y1 hP1.at #[.slice y1.bA y1.base.length y1.bc, .int .i64 y1.t, .slice y1.oA y1.ops.length y1.oc, .slice y1.uA y1.us.length y1.uc, .slice y1.wA y1.now.length y1.wc] rfl ?_) | fail)
  try simp only [Act.put, List.setIfInBounds_toArray, List.set_cons_zero, List.set_cons_succ]
  replace hy1 := hy1.below hbz
  have hn5w : w.heap.size ≤ w2.heap.size := hB2.size
  replace hB2 := below_then hB2 hbz
  generalize (w2.alloc (.cells #[.slice none 0 0, .int .i64 0, .slice none 0 0, .slice none 0 0, .slice none 0 0] 29)).setRow w2.heap.size #[.slice y1.bA y1.base.length y1.bc, .int .i64 y1.t, .slice y1.oA y1.ops.length y1.oc, .slice y1.uA y1.us.length y1.uc, .slice y1.wA y1.now.length y1.wc] = W2 at *
  generalize w2.heap.size = n5 at *
  clear hz hbz
  refine (settlec y1 t W2 hy1 hv1 HI.out (by have := HIL.out; omega) HV.out).mono ?_
  rintro e W3 ⟨y, rfl, hy, hyv, hb3⟩
  have hP3 := hP1.below hb3
  go_wp2_with (first | (refine El.store pwRow rfl _ _ rfl n5 y #[.slice y.bA y.base.length y.bc, .int .i64 y.t, .slice y.oA y.ops.length y.oc, .slice y.uA y.us.length y.uc, .slice y.wA y.now.length y.wc] rfl rfl rfl y1 hP3 ?_) | fail)
  try simp only [Act.put, List.setIfInBounds_toArray, List.set_cons_zero, List.set_cons_succ]
  have hP := hP3.set y #[.slice y.bA y.base.length y.bc, .int .i64 y.t, .slice y.oA y.ops.length y.oc, .slice y.uA y.us.length y.uc, .slice y.wA y.now.length y.wc] rfl
  replace hy := hy.off hP3 (by_row W3 n5 #[.slice y.bA y.base.length y.bc, .int .i64 y.t, .slice y.oA y.ops.length y.oc, .slice y.uA y.us.length y.uc, .slice y.wA y.now.length y.wc])
  have hB := below_setRow (below_then hB2 hb3) hn5w #[.slice y.bA y.base.length y.bc, .int .i64 y.t, .slice y.oA y.ops.length y.oc, .slice y.uA y.us.length y.uc, .slice y.wA y.now.length y.wc]
  generalize W3.setRow n5 #[.slice y.bA y.base.length y.bc, .int .i64 y.t, .slice y.oA y.ops.length y.oc, .slice y.uA y.us.length y.uc, .slice y.wA y.now.length y.wc] = W4 at *
  clear hP3 hP1 hb3 hB2 hy1 hv1
  go_loopw [7] (fun yi wr => ∃ k : Nat, k ≤ l.length ∧ yi = .int .i64 k ∧ pwE.In wr n5 y ∧ PastOk wr y ∧ Below w.heap.size w wr) (fun yi _ => l.length - (intOf yi).toNat)
  case atStart => exact ⟨0, Nat.zero_le _, rfl, hP, hy, hB⟩
  case round =>
    clear hP hy hB
    obtain ⟨k, hk, rfl, hP, hy, hB⟩ := hrel
    by_cases hkl : k < l.length
    · obtain ⟨b, off, rfl, hbw, hc⟩ := hT (by omega)
      have hat : opE.At wr b (off + k * 7) l[k] := (hc k hkl).below hB hbw
      have hbW := Nat.lt_of_lt_of_le hbw hB.size
      have hla := HLA.out k hkl
      obtain ⟨m, hm⟩ : ∃ m, l[k] = m := ⟨_, rfl⟩
      rw [hm] at hat hla
      have HADD := Lib.hid (fun wx (h : PastOk wx y) => addc y m wx h hyv HIV.out (by have := HVL.out; omega) hla)
      clear hla hc hm
      go_wp2_with fail
      generalize wr = W at *
      apply wp_merge (fun z kk w' => z.v = V ∧ W.heap.size ≤ kk ∧ pwE.In w' kk z ∧ PastOk w' z ∧ Below W.heap.size W w')
      · have hn1 := hP.lt
        refine region_anyG (S := PoS n5 y b (off + k * 7) m) 10 (by kernel_rfl) ?_
        have hd : Below W.heap.size W W.drew := (Below.refl _ _).drew
        replace hP : pwE.In W.drew n5 y := hP
        replace hy : PastOk W.drew y := hy.below hd
        replace hat : opE.At W.drew b (off + k * 7) m := hat
        replace hbW : b < W.drew.heap.size := hbW
        generalize W.drew = V at *
        have hS : PoS n5 y b (off + k * 7) m V := ⟨pwIn5 hP, opAt hat⟩
        refine anyG_take (i := 0) (v := .agg #[.slice y.bA y.base.length y.bc, .int .i64 y.t, .slice y.oA y.ops.length y.oc, .slice y.uA y.us.length y.uc, .slice y.wA y.now.length y.wc]) rfl (by kernel_rfl) (by kernel_rfl) (by kernel_rfl) (by kernel_rfl) (by kernel_rfl) (fun _ _ _ h => h) (Or.inl ⟨by rfl, fun w' hSw => by (obtain ⟨⟨s0, s1, s2, s3, s4⟩, s5, s6, s7, s8, s9, s10, s11⟩ := hSw; go_simp)⟩) hS ?_
        try simp only [Act.put, List.setIfInBounds_toArray, List.set_cons_zero, List.set_cons_succ]
        refine anyG_take (i := 1) (v := .slice (some ⟨b, off, none⟩) l.length c) rfl (by kernel_rfl) (by kernel_rfl) (by kernel_rfl) (by kernel_rfl) (by kernel_rfl) (fun _ _ _ h => h) (Or.inl ⟨by rfl, fun w' hSw => by (obtain ⟨⟨s0, s1, s2, s3, s4⟩, s5, s6, s7, s8, s9, s10, s11⟩ := hSw; go_simp)⟩) hS ?_
        try simp only [Act.put, List.setIfInBounds_toArray, List.set_cons_zero, List.set_cons_succ]
        refine anyG_take (i := 2) (v := .int .i64 k) rfl (by kernel_rfl) (by kernel_rfl) (by kernel_rfl) (by kernel_rfl) (by kernel_rfl) (fun _ _ _ h => h) (Or.inl ⟨by rfl, fun w' hSw => by (obtain ⟨⟨s0, s1, s2, s3, s4⟩, s5, s6, s7, s8, s9, s10, s11⟩ := hSw; go_simp)⟩) hS ?_
        try simp only [Act.put, List.setIfInBounds_toArray, List.set_cons_zero, List.set_cons_succ]
        refine anyG_take (i := 3) (v := .pointer (some ⟨b, off + k * 7, none⟩)) rfl (by kernel_rfl) (by kernel_rfl) (by kernel_rfl) (by kernel_rfl) (by kernel_rfl) (fun _ _ _ h => h) (Or.inl ⟨by rfl, fun w' hSw => by (obtain ⟨⟨s0, s1, s2, s3, s4⟩, s5, s6, s7, s8, s9, s10, s11⟩ := hSw; go_simp)⟩) hS ?_
        try simp only [Act.put, List.setIfInBounds_toArray, List.set_cons_zero, List.set_cons_succ]
        refine anyG_take (i := 4) (v := .agg #[.int .i64 m.C, .int .i64 m.D, .int .i64 m.I, .int .i64 m.M, .int .i64 m.K, .int .i64 m.U, .string m.s]) rfl (by kernel_rfl) (by kernel_rfl) (by kernel_rfl) (by kernel_rfl) (by kernel_rfl) (fun _ _ _ h => h) (Or.inl ⟨by rfl, fun w' hSw => by (obtain ⟨⟨s0, s1, s2, s3, s4⟩, s5, s6, s7, s8, s9, s10, s11⟩ := hSw; go_simp)⟩) hS ?_
        try simp only [Act.put, List.setIfInBounds_toArray, List.set_cons_zero, List.set_cons_succ]
        have hda : Below W.heap.size W (V.alloc (.cells #[.slice none 0 0, .int .i64 0, .slice none 0 0, .slice none 0 0, .slice none 0 0] 29)) := hd.alloc hd.size (.cells #[.slice none 0 0, .int .i64 0, .slice none 0 0, .slice none 0 0, .slice none 0 0] 29)
        have hz : pwE.In (V.alloc (.cells #[.slice none 0 0, .int .i64 0, .slice none 0 0, .slice none 0 0, .slice none 0 0] 29)) V.heap.size Pw.zero := El.In.new (E := pwE) V Pw.zero #[.slice none 0 0, .int .i64 0, .slice none 0 0, .slice none 0 0, .slice none 0 0] rfl
        refine anyG_step (rs := [5, 9]) (by kernel_rfl) (by simp) ?_
        refine AllG.cons rfl (fun K hK => ?_) (AllG.cons rfl (fun K hK => ?_) AllG.nil)
        · skip
          go_simp
          refine (HADD.out V hy).mono ?_
          rintro e W6 ⟨z, rfl, hyz, hvz, hb6⟩
          have hP6 := hP.below hb6
          have hB6 := hd.trans (hb6.mono hd.size)
          have hat6 := hat.below hb6 hbW
          have hbl6 := Nat.lt_of_lt_of_le hbW hb6.size
          have hS6 : PoS n5 y b (off + k * 7) m W6 := ⟨pwIn5 hP6, opAt hat6⟩
          try go_wp2_with fail
          refine hK.out _ _ hS6 ?_
          try simp only [Act.put, List.setIfInBounds_toArray, List.set_cons_zero, List.set_cons_succ]
          clear hK hS
          have hS := hS6
          have hz6 : pwE.In (W6.alloc (.cells #[.slice none 0 0, .int .i64 0, .slice none 0 0, .slice none 0 0, .slice none 0 0] 29)) W6.heap.size Pw.zero := El.In.new (E := pwE) W6 Pw.zero #[.slice none 0 0, .int .i64 0, .slice none 0 0, .slice none 0 0, .slice none 0 0] rfl
          refine anyG_plain (i := 6) (v := .tuple #[.agg #[.slice z.bA z.base.length z.bc, .int .i64 z.t, .slice z.oA z.ops.length z.oc, .slice z.uA z.us.length z.uc, .slice z.wA z.now.length z.wc], .bool false]) rfl (by kernel_rfl) (by kernel_rfl) (by kernel_rfl) (by kernel_rfl) (fun _ _ _ h => h) (Or.inl ⟨by rfl, fun w' => by go_simp⟩) (fun _ => hS) ?_
          try simp only [Act.put, List.setIfInBounds_toArray, List.set_cons_zero, List.set_cons_succ]
          refine anyG_plain (i := 7) (v := .agg #[.slice z.bA z.base.length z.bc, .int .i64 z.t, .slice z.oA z.ops.length z.oc, .slice z.uA z.us.length z.uc, .slice z.wA z.now.length z.wc]) rfl (by kernel_rfl) (by kernel_rfl) (by kernel_rfl) (by kernel_rfl) (fun _ _ _ h => h) (Or.inl ⟨by rfl, fun w' => by go_simp⟩) (fun _ => hS) ?_
          try simp only [Act.put, List.setIfInBounds_toArray, List.set_cons_zero, List.set_cons_succ]
          refine anyG_plain (i := 8) (v := .bool false) rfl (by kernel_rfl) (by kernel_rfl) (by kernel_rfl) (by kernel_rfl) (fun _ _ _ h => h) (Or.inl ⟨by rfl, fun w' => by go_simp⟩) (fun _ => hS) ?_
          try simp only [Act.put, List.setIfInBounds_toArray, List.set_cons_zero, List.set_cons_succ]
          refine anyG_step (rs := [9]) (by kernel_rfl) (by simp) ?_
          refine AllG.cons rfl (fun K hK => ?_) AllG.nil
          have hata := hat6.below (below_alloc (Below.refl W6.heap.size W6) (.cells #[.slice none 0 0, .int .i64 0, .slice none 0 0, .slice none 0 0, .slice none 0 0] 29)) hbl6
          have hSa : PoS n5 y b (off + k * 7) m (W6.alloc (.cells #[.slice none 0 0, .int .i64 0, .slice none 0 0, .slice none 0 0, .slice none 0 0] 29)) := ⟨pwIn5 (hP6.alloc (.cells #[.slice none 0 0, .int .i64 0, .slice none 0 0, .slice none 0 0, .slice none 0 0] 29)), opAt hata⟩
          go_simp
          refine hK.out _ _ hSa ?_
          try simp only [Act.put, List.setIfInBounds_toArray, List.set_cons_zero, List.set_cons_succ]
          clear hK hS
          have hS := hSa
          have hyz' := hyz.below (below_alloc (Below.refl W6.heap.size W6) (.cells #[.slice none 0 0, .int .i64 0, .slice none 0 0, .slice none 0 0, .slice none 0 0] 29))
          have hBz := hB6.alloc hB6.size (.cells #[.slice none 0 0, .int .i64 0, .slice none 0 0, .slice none 0 0, .slice none 0 0] 29)
          have hkW : W.heap.size ≤ W6.heap.size := hB6.size
          generalize W6.alloc (.cells #[.slice none 0 0, .int .i64 0, .slice none 0 0, .slice none 0 0, .slice none 0 0] 29) = W7 at *
          generalize W6.heap.size = nA at *
          refine anyG_step (rs := [10]) (by kernel_rfl) (by simp) ?_
          refine AllG.last (n := 10) rfl (fun K hK => ?_)
          refine El.step_store pwRow rfl _ _ rfl nA z #[.slice z.bA z.base.length z.bc, .int .i64 z.t, .slice z.oA z.ops.length z.oc, .slice z.uA z.us.length z.uc, .slice z.wA z.now.length z.wc] rfl rfl rfl Pw.zero hz6 ?_
          refine hK.out _ _ ?_
          try simp only [Act.put, List.setIfInBounds_toArray, List.set_cons_zero, List.set_cons_succ]
          clear hK hS
          refine anyG_plain_after (i := 11) (v := .bool false) rfl (by kernel_rfl) (by kernel_rfl) (by kernel_rfl) (by kernel_rfl) (fun _ _ _ h => h) (Or.inl ⟨by rfl, fun w' => by go_simp⟩) (by kernel_rfl) ?_
          try simp only [Act.put, List.setIfInBounds_toArray, List.set_cons_zero, List.set_cons_succ]
          refine anyG_done (by kernel_rfl) ?_ _
          have hPz := (hz6).set z #[.slice z.bA z.base.length z.bc, .int .i64 z.t, .slice z.oA z.ops.length z.oc, .slice z.uA z.us.length z.uc, .slice z.wA z.now.length z.wc] rfl
          exact ⟨z, nA, rfl, hvz, hkW, hPz, hyz'.off hz6 (by_row _ _ _), below_setRow hBz hkW _⟩
        · skip
          have hata := hat.below (below_alloc (Below.refl V.heap.size V) (.cells #[.slice none 0 0, .int .i64 0, .slice none 0 0, .slice none 0 0, .slice none 0 0] 29)) hbW
          have hSa : PoS n5 y b (off + k * 7) m (V.alloc (.cells #[.slice none 0 0, .int .i64 0, .slice none 0 0, .slice none 0 0, .slice none 0 0] 29)) := ⟨pwIn5 (hP.alloc (.cells #[.slice none 0 0, .int .i64 0, .slice none 0 0, .slice none 0 0, .slice none 0 0] 29)), opAt hata⟩
          go_simp
          refine hK.out _ _ hSa ?_
          try simp only [Act.put, List.setIfInBounds_toArray, List.set_cons_zero, List.set_cons_succ]
          clear hK hS
          have hS := hSa
          have hya := hy.below (below_alloc (Below.refl V.heap.size V) (.cells #[.slice none 0 0, .int .i64 0, .slice none 0 0, .slice none 0 0, .slice none 0 0] 29))
          have hPa := hP.alloc (.cells #[.slice none 0 0, .int .i64 0, .slice none 0 0, .slice none 0 0, .slice none 0 0] 29)
          have hbWa : b < (V.alloc (.cells #[.slice none 0 0, .int .i64 0, .slice none 0 0, .slice none 0 0, .slice none 0 0] 29)).heap.size := by rw [alloc_size]; omega
          have hkW : W.heap.size ≤ V.heap.size := hd.size
          generalize V.alloc (.cells #[.slice none 0 0, .int .i64 0, .slice none 0 0, .slice none 0 0, .slice none 0 0] 29) = V7 at *
          generalize V.heap.size = nA at *
          refine anyG_step (rs := [5]) (by kernel_rfl) (by simp) ?_
          refine AllG.cons rfl (fun K hK => ?_) AllG.nil
          go_simp
          refine (HADD.out V7 hya).mono ?_
          rintro e W6 ⟨z, rfl, hyz, hvz, hb6⟩
          have hP6 := hPa.below hb6
          have hB6 := hda.trans (hb6.mono hda.size)
          have hat6 := hata.below hb6 hbWa
          have hbl6 := Nat.lt_of_lt_of_le hbWa hb6.size
          have hS6 : PoS n5 y b (off + k * 7) m W6 := ⟨pwIn5 hP6, opAt hat6⟩
          try go_wp2_with fail
          refine hK.out _ _ hS6 ?_
          try simp only [Act.put, List.setIfInBounds_toArray, List.set_cons_zero, List.set_cons_succ]
          clear hK hS
          have hS := hS6
          have hz6 := hz.below hb6
          refine anyG_plain (i := 6) (v := .tuple #[.agg #[.slice z.bA z.base.length z.bc, .int .i64 z.t, .slice z.oA z.ops.length z.oc, .slice z.uA z.us.length z.uc, .slice z.wA z.now.length z.wc], .bool false]) rfl (by kernel_rfl) (by kernel_rfl) (by kernel_rfl) (by kernel_rfl) (fun _ _ _ h => h) (Or.inl ⟨by rfl, fun w' => by go_simp⟩) (fun _ => hS) ?_
          try simp only [Act.put, List.setIfInBounds_toArray, List.set_cons_zero, List.set_cons_succ]
          refine anyG_plain (i := 7) (v := .agg #[.slice z.bA z.base.length z.bc, .int .i64 z.t, .slice z.oA z.ops.length z.oc, .slice z.uA z.us.length z.uc, .slice z.wA z.now.length z.wc]) rfl (by kernel_rfl) (by kernel_rfl) (by kernel_rfl) (by kernel_rfl) (fun _ _ _ h => h) (Or.inl ⟨by rfl, fun w' => by go_simp⟩) (fun _ => hS) ?_
          try simp only [Act.put, List.setIfInBounds_toArray, List.set_cons_zero, List.set_cons_succ]
          refine anyG_plain (i := 8) (v := .bool false) rfl (by kernel_rfl) (by kernel_rfl) (by kernel_rfl) (by kernel_rfl) (fun _ _ _ h => h) (Or.inl ⟨by rfl, fun w' => by go_simp⟩) (fun _ => hS) ?_
          try simp only [Act.put, List.setIfInBounds_toArray, List.set_cons_zero, List.set_cons_succ]
          refine anyG_step (rs := [10]) (by kernel_rfl) (by simp) ?_
          refine AllG.last (n := 10) rfl (fun K hK => ?_)
          refine El.step_store pwRow rfl _ _ rfl nA z #[.slice z.bA z.base.length z.bc, .int .i64 z.t, .slice z.oA z.ops.length z.oc, .slice z.uA z.us.length z.uc, .slice z.wA z.now.length z.wc] rfl rfl rfl Pw.zero hz6 ?_
          refine hK.out _ _ ?_
          try simp only [Act.put, List.setIfInBounds_toArray, List.set_cons_zero, List.set_cons_succ]
          clear hK hS
          refine anyG_plain_after (i := 11) (v := .bool false) rfl (by kernel_rfl) (by kernel_rfl) (by kernel_rfl) (by kernel_rfl) (fun _ _ _ h => h) (Or.inl ⟨by rfl, fun w' => by go_simp⟩) (by kernel_rfl) ?_
          try simp only [Act.put, List.setIfInBounds_toArray, List.set_cons_zero, List.set_cons_succ]
          refine anyG_done (by kernel_rfl) ?_ _
          have hPz := (hz6).set z #[.slice z.bA z.base.length z.bc, .int .i64 z.t, .slice z.oA z.ops.length z.oc, .slice z.uA z.us.length z.uc, .slice z.wA z.now.length z.wc] rfl
          exact ⟨z, nA, rfl, hvz, hkW, hPz, hyz.off hz6 (by_row _ _ _), below_setRow hB6 hkW _⟩
      rintro z nz w' ⟨hvz, hnz, hPz, hyz, hbz⟩
      replace hP := hP.below hbz
      replace hy := hy.below hbz
      replace hB := hB.trans (hbz.mono hB.size)
      have hl1 : y.base.length ≤ 62 := by have h : y.base = y.v.base := rfl; rw [h, hyv]; exact HBL.out.1
      have hl2 : y.ops.length ≤ 60 := by have h : y.ops = y.v.ops := rfl; rw [h, hyv]; exact HVL.out
      have hl3 : y.us.length ≤ 60 := by have h : y.us = y.v.us := rfl; rw [h, hyv]; exact HBL.out.2.1
      have hl4 : y.now.length ≤ 62 := by have h : y.now = y.v.now := rfl; rw [h, hyv]; exact HBL.out.2.2
      have HSM := Lib.hid (samePast_any y z w' hy hyz (hvz.trans hyv.symm) (by omega) (by omega) (by omega) (by omega))
      clear hbz hl1 hl2 hl3 hl4 HADD
      obtain ⟨p0, p1, p2, p3, p4⟩ := pwIn5 hP
      obtain ⟨q0, q1, q2, q3, q4⟩ := pwIn5 hPz
      go_wp2_with fail
      clear p0 p1 p2 p3 p4 q0 q1 q2 q3 q4
      refine HSM.out.mono ?_
      rintro e w9 ⟨rfl, hb9⟩
      go_wp2_with fail
      have hP9 := hP.below hb9
      have hy9 := hy.below hb9
      have hB9 := hB.trans (hb9.mono hB.size)
      exact ⟨⟨k + 1, by omega, by go_num, hP9, hy9, hB9⟩, by simp [intOf]; omega⟩
    · go_wp2_with (go_at_call 11; (with_reducible refine (awake_any _).mono ?_); rintro e w9 ⟨rfl, hb9⟩)
      go_ret
      exact ⟨rfl, hB.trans (hb9.mono hB.size)⟩

set_option maxRecDepth 100000 in
theorem late_lifted (os : Os) (started : os.Started) (H : Type) (enc : TypeId × Value → H) :
    ReturnsInHanded {} Try.checked os 7 .any (Rows.pastLateSpec.pre6 enc Try.prog Try.f7 Rows.pastLateRow.domain false) (Rows.pastLateSpec.post enc Try.prog Try.f7 false true false false) := by
  refine returnsInHanded_of_change (C := Try.checked) own started (by kernel_rfl) Try.func7
    (ChangeSpec.witness6 (enc := enc) (C := Try.checked) false ⟨#[], #[.slice none 0 0, .int .u8 0], []⟩ 8 (by kernel_rfl) (by kernel_rfl) (by kernel_rfl) (by kernel_rfl)) ?_
  intro W base args ds gs before hval0 hW _ _
  have hval : ∀ (j : Nat) t v, Try.f7.params[j]? = some t → args[j]? = some v → Value.okWide Try.prog W .any base t v := hval0
  have hW' := hW
  obtain ⟨p, q, hA0, hV, rfl, _, _⟩ := hW
  have hA : DataW.TrodAll enc Try.prog W 0 (fun _ => true) true Try.f7.params.toList args.toList ds p := hA0
  rw [Try.params7] at hA hval
  obtain ⟨v0, v1, d0, d1, p0, p1, rfl, rfl, rfl, h0, h1⟩ := trodAll_two hA
  obtain ⟨A, cap, l, rfl, hT, _, _, hw⟩ := open_ops (hval 0 22 v0 rfl rfl) h0
  obtain ⟨t, rfl, ht⟩ := open_u8 (hval 1 5 v1 rfl rfl) h1
  have hc : Calls Try.prog 7 #[.slice A l.length cap, .int .u8 t] W fun e w' => e = .returned (.bool true) ∧ Below W.heap.size W w' := by
    by_cases hf : Fine l
    · exact late_walk A cap l t W (opsz hw) hT hf ht
    · exact late_no A cap l t W (opsz hw) hT hf
  refine hc.mono fun e W' ⟨he, hb⟩ => ?_
  subst he
  exact ⟨_, rfl, Frm.law_post (by kernel_rfl) (by kernel_rfl) (by kernel_rfl) Try.underlying4 rfl rfl hW' hb⟩

theorem late_holds : Rows.PastLateSaid :=
  OpenClaim.holds_of_wide 7 Try.f7 rfl rfl rfl rfl rfl rfl rfl ⟨rfl, rfl, rfl, rfl, rfl⟩ rfl rfl rfl rfl rfl (by kernel_rfl) Try.func7 (by kernel_rfl)
    (of_decide_eq_true (by kernel_rfl)) (by unfold Func.isWrapper; first | (rw [if_pos (by decide +kernel)]; kernel_rfl) | (rw [if_neg (by decide +kernel)]; exact ⟨rfl, rfl⟩))
    (fun os started H enc _ => late_lifted os started H enc)
end Go.Proofs.Ytoidondngoljaaa
