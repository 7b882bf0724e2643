/- PastPlays is proved: whatever operations come and whatever is settled between, the past is the document's, and so are the counts of a device's operations, and its bytes. Conditions: none. -/
import Derived.Test.YtoidondngoljaaaD08
import Derived.Test.YtoidondngoljaaaRows
import Derived.Deep.CutRange
namespace Go.Proofs.Ytoidondngoljaaa
open Go.ChangeShapes Go.WideShapes Go.ChangeAt Go.RowKit Go.Deep Nam Cod Tre Pst

theorem plays_no (A : Option Addr) (c : Nat) (l : List Mv) (TA : Option Addr) (tc : Nat) (at_ : List Int) (w : World) (hsz : ∀ m ∈ l, m.s.size ≤ 9223372036854775807) (hT : opE.Sl w A l) (h : ¬ Fine l) :
    Calls Try.prog 3 #[.slice A l.length c, .slice TA at_.length tc] w fun e w' => e = .returned (.bool true) ∧ Below w.heap.size w w' := by
  have C1 := fine_any A c l w hsz hT false ⟨fun e => (by cases e), fun k => absurd k h⟩
  go_enter Try.func3, Try.ntmps3
  go_wp2_with (first | (go_at_call 10; (with_reducible refine C1.mono ?_); rintro e w1 ⟨rfl, hb1⟩) | (go_at_call 11; (with_reducible refine (awake_any _).mono ?_); rintro e w2 ⟨rfl, hb2⟩))
  go_ret
  exact ⟨rfl, below_then hb1 hb2⟩


def TwoQ (n1 : Nat) (y1 : Pw) (n2 : Nat) (y2 : Pw) (w : World) : Prop := PaS n1 y1 w ∧ PaS n2 y2 w
def TwoB (n1 : Nat) (y1 : Pw) (n2 : Nat) (y2 : Pw) (b o : Nat) (t : Int) (w : World) : Prop := PaS n1 y1 w ∧ PaS n2 y2 w ∧ w.cell? ⟨b, o, none⟩ = some (.int .u8 t)

set_option maxRecDepth 100000 in
set_option maxHeartbeats 8000000 in
theorem plays_walk (A : Option Addr) (c : Nat) (l : List Mv) (TA : Option Addr) (tc : Nat) (at_ : List Int) (w : World) (hsz : ∀ m ∈ l, m.s.size ≤ 9223372036854775807) (hT : opE.Sl w A l) (hat0 : byE.Sl w TA at_) (hby : ∀ t ∈ at_, 0 ≤ t ∧ t ≤ 255) (hf : Fine l) :
    Calls Try.prog 3 #[.slice A l.length c, .slice TA at_.length tc] w fun e w' => e = .returned (.bool true) ∧ Below w.heap.size w w' := by
  have C1 := fine_any A c l w hsz hT true ⟨fun _ => hf, fun _ => rfl⟩
  obtain ⟨hl, hok⟩ := hf
  go_enter Try.func3, Try.ntmps3
  go_wp2_with fail
  refine C1.mono ?_
  rintro e w1 ⟨rfl, hB1⟩
  clear C1
  have hP1 : pwE.In ((w1.alloc (.cells #[.slice none 0 0, .int .i64 0, .slice none 0 0, .slice none 0 0, .slice none 0 0] 29)).alloc (.cells #[.slice none 0 0, .int .i64 0, .slice none 0 0, .slice none 0 0, .slice none 0 0] 29)) w1.heap.size Pw.zero := (El.In.new (E := pwE) w1 Pw.zero #[.slice none 0 0, .int .i64 0, .slice none 0 0, .slice none 0 0, .slice none 0 0] rfl).alloc _
  have hP2 : pwE.In ((w1.alloc (.cells #[.slice none 0 0, .int .i64 0, .slice none 0 0, .slice none 0 0, .slice none 0 0] 29)).alloc (.cells #[.slice none 0 0, .int .i64 0, .slice none 0 0, .slice none 0 0, .slice none 0 0] 29)) (w1.heap.size + 1) Pw.zero := by
    have h := El.In.new (E := pwE) (w1.alloc (.cells #[.slice none 0 0, .int .i64 0, .slice none 0 0, .slice none 0 0, .slice none 0 0] 29)) Pw.zero #[.slice none 0 0, .int .i64 0, .slice none 0 0, .slice none 0 0, .slice none 0 0] rfl
    rw [alloc_size] at h; exact h
  have hB := hB1.trans (below_alloc (below_alloc (Below.refl w1.heap.size w1) (.cells #[.slice none 0 0, .int .i64 0, .slice none 0 0, .slice none 0 0, .slice none 0 0] 29)) (.cells #[.slice none 0 0, .int .i64 0, .slice none 0 0, .slice none 0 0, .slice none 0 0] 29) |>.mono hB1.size)
  go_wp2_with fail
  generalize ((w1.alloc (.cells #[.slice none 0 0, .int .i64 0, .slice none 0 0, .slice none 0 0, .slice none 0 0] 29)).alloc (.cells #[.slice none 0 0, .int .i64 0, .slice none 0 0, .slice none 0 0, .slice none 0 0] 29)) = W0 at *
  obtain ⟨n6, h6⟩ : ∃ n, w1.heap.size + 1 = n := ⟨_, rfl⟩
  rw [h6] at hP2 ⊢
  obtain ⟨n5, h5⟩ : ∃ n, w1.heap.size = n := ⟨_, rfl⟩
  rw [h5] at hP1 ⊢
  have hn5w : w.heap.size ≤ n5 := by have := hB1.size; omega
  have hn6w : w.heap.size ≤ n6 := by have := hB1.size; omega
  have hn56 : n5 ≠ n6 := by omega
  clear h5 h6 hB1
  go_loopw [7] (fun yi wr => ∃ (k : Nat) (P : Pv) (y1 y2 : Pw), k ≤ l.length ∧ yi = .int .i64 k ∧ PInv P ∧ P.ops.length ≤ k ∧ y1.v = P ∧ y2.v = P ∧ pwE.In wr n5 y1 ∧ PastOk wr y1 ∧ pwE.In wr n6 y2 ∧ PastOk wr y2 ∧ Below w.heap.size w wr) (fun yi _ => l.length - (intOf yi).toNat)
  case atStart => exact ⟨0, Pv.zero, Pw.zero, Pw.zero, Nat.zero_le _, rfl, PInv.zero, Nat.le_refl _, rfl, rfl, hP1, PastOk.zero _, hP2, PastOk.zero _, hB⟩
  case round =>
    clear hP1 hP2 hB
    obtain ⟨k, P, y1, y2, hk, rfl, hPI, hPl, hv1, hv2, hP1, hy1, hP2, hy2, hB⟩ := hrel
    by_cases hkl : k < l.length
    · obtain ⟨b, off, rfl, hbw, hc⟩ := hT (by omega)
      have hat : opE.At wr b (off + k * 7) l[k] := (hc k hkl).below hB hbw
      have hbW := Nat.lt_of_lt_of_le hbw hB.size
      have hmo := hok l[k] (List.getElem_mem _)
      obtain ⟨m, hm⟩ : ∃ m, l[k] = m := ⟨_, rfl⟩
      rw [hm] at hat hmo
      have hat00 : opE.At w b (off + k * 7) m := by rw [← hm]; exact hc k hkl
      have hI2 := hPI.add hmo
      have hl2 := addV_len P m
      have hbl := tree_len hPI.tree
      obtain ⟨V, hV⟩ : ∃ V, (addV P m).1 = V := ⟨_, rfl⟩
      obtain ⟨bb, hbb⟩ : ∃ bb, (addV P m).2 = bb := ⟨_, rfl⟩
      rw [hV] at hI2 hl2
      have HADD1 := Lib.hid (fun wx (h : PastOk wx y1) => addc y1 m wx h hv1 hPI (by omega) (show addV P m = (V, bb) by rw [← hV, ← hbb]))
      have HADD2 := Lib.hid (fun wx (h : PastOk wx y2) => refaddc y2 m wx h hv2 (by omega) (show addV P m = (V, bb) by rw [← hV, ← hbb]))
      have HI2 := Lib.hid hI2
      have HL2 := Lib.hid (show V.ops.length ≤ k + 1 by omega)
      have HC := Lib.hid hat00
      clear hI2 hl2 hbl hV hbb hv1 hv2 hPI hPl hmo hc hm hat00
      classical
      obtain ⟨sb, hsb⟩ : ∃ sb : Bool, sb = true ↔ ∃ h : k < at_.length, at_[k] < 60 := ⟨decide (∃ h : k < at_.length, at_[k] < 60), by simp⟩
      have HSB := Lib.hid hsb
      clear hsb
      go_wp2_with fail
      generalize wr = W at *
      have hP := hP1
      have hy := hy1
      apply wp_merge (fun z kk w' => z.v = V ∧ W.heap.size ≤ kk ∧ pwE.In w' kk z ∧ PastOk w' z ∧ Below W.heap.size W w')
      · have hn1 := hP.lt
        refine region_anyG (S := PoS n5 y1 b (off + k * 7) m) 10 (by kernel_rfl) ?_
        have hd : Below W.heap.size W W.drew := (Below.refl _ _).drew
        replace hP : pwE.In W.drew n5 y1 := hP
        replace hy : PastOk W.drew y1 := hy.below hd
        replace hat : opE.At W.drew b (off + k * 7) m := hat
        replace hbW : b < W.drew.heap.size := hbW
        generalize W.drew = V at *
        have hS : PoS n5 y1 b (off + k * 7) m V := ⟨pwIn5 hP, opAt hat⟩
        refine anyG_take (i := 0) (v := .agg #[.slice y1.bA y1.base.length y1.bc, .int .i64 y1.t, .slice y1.oA y1.ops.length y1.oc, .slice y1.uA y1.us.length y1.uc, .slice y1.wA y1.now.length y1.wc]) rfl (by kernel_rfl) (by kernel_rfl) (by kernel_rfl) (by kernel_rfl) (by kernel_rfl) (fun _ _ _ h => h) (Or.inl ⟨by rfl, fun w' hSw => by (obtain ⟨⟨s0, s1, s2, s3, s4⟩, s5, s6, s7, s8, s9, s10, s11⟩ := hSw; go_simp)⟩) hS ?_
        try simp only [Act.put, List.setIfInBounds_toArray, List.set_cons_zero, List.set_cons_succ]
        refine anyG_take (i := 1) (v := .slice (some ⟨b, off, none⟩) l.length c) rfl (by kernel_rfl) (by kernel_rfl) (by kernel_rfl) (by kernel_rfl) (by kernel_rfl) (fun _ _ _ h => h) (Or.inl ⟨by rfl, fun w' hSw => by (obtain ⟨⟨s0, s1, s2, s3, s4⟩, s5, s6, s7, s8, s9, s10, s11⟩ := hSw; go_simp)⟩) hS ?_
        try simp only [Act.put, List.setIfInBounds_toArray, List.set_cons_zero, List.set_cons_succ]
        refine anyG_take (i := 2) (v := .int .i64 k) rfl (by kernel_rfl) (by kernel_rfl) (by kernel_rfl) (by kernel_rfl) (by kernel_rfl) (fun _ _ _ h => h) (Or.inl ⟨by rfl, fun w' hSw => by (obtain ⟨⟨s0, s1, s2, s3, s4⟩, s5, s6, s7, s8, s9, s10, s11⟩ := hSw; go_simp)⟩) hS ?_
        try simp only [Act.put, List.setIfInBounds_toArray, List.set_cons_zero, List.set_cons_succ]
        refine anyG_take (i := 3) (v := .pointer (some ⟨b, off + k * 7, none⟩)) rfl (by kernel_rfl) (by kernel_rfl) (by kernel_rfl) (by kernel_rfl) (by kernel_rfl) (fun _ _ _ h => h) (Or.inl ⟨by rfl, fun w' hSw => by (obtain ⟨⟨s0, s1, s2, s3, s4⟩, s5, s6, s7, s8, s9, s10, s11⟩ := hSw; go_simp)⟩) hS ?_
        try simp only [Act.put, List.setIfInBounds_toArray, List.set_cons_zero, List.set_cons_succ]
        refine anyG_take (i := 4) (v := .agg #[.int .i64 m.C, .int .i64 m.D, .int .i64 m.I, .int .i64 m.M, .int .i64 m.K, .int .i64 m.U, .string m.s]) rfl (by kernel_rfl) (by kernel_rfl) (by kernel_rfl) (by kernel_rfl) (by kernel_rfl) (fun _ _ _ h => h) (Or.inl ⟨by rfl, fun w' hSw => by (obtain ⟨⟨s0, s1, s2, s3, s4⟩, s5, s6, s7, s8, s9, s10, s11⟩ := hSw; go_simp)⟩) hS ?_
        try simp only [Act.put, List.setIfInBounds_toArray, List.set_cons_zero, List.set_cons_succ]
        have hda : Below W.heap.size W (V.alloc (.cells #[.slice none 0 0, .int .i64 0, .slice none 0 0, .slice none 0 0, .slice none 0 0] 29)) := hd.alloc hd.size (.cells #[.slice none 0 0, .int .i64 0, .slice none 0 0, .slice none 0 0, .slice none 0 0] 29)
        have hz : pwE.In (V.alloc (.cells #[.slice none 0 0, .int .i64 0, .slice none 0 0, .slice none 0 0, .slice none 0 0] 29)) V.heap.size Pw.zero := El.In.new (E := pwE) V Pw.zero #[.slice none 0 0, .int .i64 0, .slice none 0 0, .slice none 0 0, .slice none 0 0] rfl
        refine anyG_step (rs := [5, 9]) (by kernel_rfl) (by simp) ?_
        refine AllG.cons rfl (fun K hK => ?_) (AllG.cons rfl (fun K hK => ?_) AllG.nil)
        · skip
          go_simp
          refine (HADD1.out V hy).mono ?_
          rintro e W6 ⟨z, rfl, hyz, hvz, hb6⟩
          have hP6 := hP.below hb6
          have hB6 := hd.trans (hb6.mono hd.size)
          have hat6 := hat.below hb6 hbW
          have hbl6 := Nat.lt_of_lt_of_le hbW hb6.size
          have hS6 : PoS n5 y1 b (off + k * 7) m W6 := ⟨pwIn5 hP6, opAt hat6⟩
          try go_wp2_with fail
          refine hK.out _ _ hS6 ?_
          try simp only [Act.put, List.setIfInBounds_toArray, List.set_cons_zero, List.set_cons_succ]
          clear hK hS
          have hS := hS6
          have hz6 : pwE.In (W6.alloc (.cells #[.slice none 0 0, .int .i64 0, .slice none 0 0, .slice none 0 0, .slice none 0 0] 29)) W6.heap.size Pw.zero := El.In.new (E := pwE) W6 Pw.zero #[.slice none 0 0, .int .i64 0, .slice none 0 0, .slice none 0 0, .slice none 0 0] rfl
          refine anyG_plain (i := 6) (v := .tuple #[.agg #[.slice z.bA z.base.length z.bc, .int .i64 z.t, .slice z.oA z.ops.length z.oc, .slice z.uA z.us.length z.uc, .slice z.wA z.now.length z.wc], .bool bb]) rfl (by kernel_rfl) (by kernel_rfl) (by kernel_rfl) (by kernel_rfl) (fun _ _ _ h => h) (Or.inl ⟨by rfl, fun w' => by go_simp⟩) (fun _ => hS) ?_
          try simp only [Act.put, List.setIfInBounds_toArray, List.set_cons_zero, List.set_cons_succ]
          refine anyG_plain (i := 7) (v := .agg #[.slice z.bA z.base.length z.bc, .int .i64 z.t, .slice z.oA z.ops.length z.oc, .slice z.uA z.us.length z.uc, .slice z.wA z.now.length z.wc]) rfl (by kernel_rfl) (by kernel_rfl) (by kernel_rfl) (by kernel_rfl) (fun _ _ _ h => h) (Or.inl ⟨by rfl, fun w' => by go_simp⟩) (fun _ => hS) ?_
          try simp only [Act.put, List.setIfInBounds_toArray, List.set_cons_zero, List.set_cons_succ]
          refine anyG_plain (i := 8) (v := .bool bb) rfl (by kernel_rfl) (by kernel_rfl) (by kernel_rfl) (by kernel_rfl) (fun _ _ _ h => h) (Or.inl ⟨by rfl, fun w' => by go_simp⟩) (fun _ => hS) ?_
          try simp only [Act.put, List.setIfInBounds_toArray, List.set_cons_zero, List.set_cons_succ]
          refine anyG_step (rs := [9]) (by kernel_rfl) (by simp) ?_
          refine AllG.cons rfl (fun K hK => ?_) AllG.nil
          have hata := hat6.below (below_alloc (Below.refl W6.heap.size W6) (.cells #[.slice none 0 0, .int .i64 0, .slice none 0 0, .slice none 0 0, .slice none 0 0] 29)) hbl6
          have hSa : PoS n5 y1 b (off + k * 7) m (W6.alloc (.cells #[.slice none 0 0, .int .i64 0, .slice none 0 0, .slice none 0 0, .slice none 0 0] 29)) := ⟨pwIn5 (hP6.alloc (.cells #[.slice none 0 0, .int .i64 0, .slice none 0 0, .slice none 0 0, .slice none 0 0] 29)), opAt hata⟩
          go_simp
          refine hK.out _ _ hSa ?_
          try simp only [Act.put, List.setIfInBounds_toArray, List.set_cons_zero, List.set_cons_succ]
          clear hK hS
          have hS := hSa
          have hyz' := hyz.below (below_alloc (Below.refl W6.heap.size W6) (.cells #[.slice none 0 0, .int .i64 0, .slice none 0 0, .slice none 0 0, .slice none 0 0] 29))
          have hBz := hB6.alloc hB6.size (.cells #[.slice none 0 0, .int .i64 0, .slice none 0 0, .slice none 0 0, .slice none 0 0] 29)
          have hkW : W.heap.size ≤ W6.heap.size := hB6.size
          generalize W6.alloc (.cells #[.slice none 0 0, .int .i64 0, .slice none 0 0, .slice none 0 0, .slice none 0 0] 29) = W7 at *
          generalize W6.heap.size = nA at *
          refine anyG_step (rs := [10]) (by kernel_rfl) (by simp) ?_
          refine AllG.last (n := 10) rfl (fun K hK => ?_)
          refine El.step_store pwRow rfl _ _ rfl nA z #[.slice z.bA z.base.length z.bc, .int .i64 z.t, .slice z.oA z.ops.length z.oc, .slice z.uA z.us.length z.uc, .slice z.wA z.now.length z.wc] rfl rfl rfl Pw.zero hz6 ?_
          refine hK.out _ _ ?_
          try simp only [Act.put, List.setIfInBounds_toArray, List.set_cons_zero, List.set_cons_succ]
          clear hK hS
          refine anyG_plain_after (i := 11) (v := .bool bb) rfl (by kernel_rfl) (by kernel_rfl) (by kernel_rfl) (by kernel_rfl) (fun _ _ _ h => h) (Or.inl ⟨by rfl, fun w' => by go_simp⟩) (by kernel_rfl) ?_
          try simp only [Act.put, List.setIfInBounds_toArray, List.set_cons_zero, List.set_cons_succ]
          refine anyG_done (by kernel_rfl) ?_ _
          have hPz := (hz6).set z #[.slice z.bA z.base.length z.bc, .int .i64 z.t, .slice z.oA z.ops.length z.oc, .slice z.uA z.us.length z.uc, .slice z.wA z.now.length z.wc] rfl
          exact ⟨z, nA, rfl, hvz, hkW, hPz, hyz'.off hz6 (by_row _ _ _), below_setRow hBz hkW _⟩
        · skip
          have hata := hat.below (below_alloc (Below.refl V.heap.size V) (.cells #[.slice none 0 0, .int .i64 0, .slice none 0 0, .slice none 0 0, .slice none 0 0] 29)) hbW
          have hSa : PoS n5 y1 b (off + k * 7) m (V.alloc (.cells #[.slice none 0 0, .int .i64 0, .slice none 0 0, .slice none 0 0, .slice none 0 0] 29)) := ⟨pwIn5 (hP.alloc (.cells #[.slice none 0 0, .int .i64 0, .slice none 0 0, .slice none 0 0, .slice none 0 0] 29)), opAt hata⟩
          go_simp
          refine hK.out _ _ hSa ?_
          try simp only [Act.put, List.setIfInBounds_toArray, List.set_cons_zero, List.set_cons_succ]
          clear hK hS
          have hS := hSa
          have hya := hy.below (below_alloc (Below.refl V.heap.size V) (.cells #[.slice none 0 0, .int .i64 0, .slice none 0 0, .slice none 0 0, .slice none 0 0] 29))
          have hPa := hP.alloc (.cells #[.slice none 0 0, .int .i64 0, .slice none 0 0, .slice none 0 0, .slice none 0 0] 29)
          have hbWa : b < (V.alloc (.cells #[.slice none 0 0, .int .i64 0, .slice none 0 0, .slice none 0 0, .slice none 0 0] 29)).heap.size := by rw [alloc_size]; omega
          have hkW : W.heap.size ≤ V.heap.size := hd.size
          generalize V.alloc (.cells #[.slice none 0 0, .int .i64 0, .slice none 0 0, .slice none 0 0, .slice none 0 0] 29) = V7 at *
          generalize V.heap.size = nA at *
          refine anyG_step (rs := [5]) (by kernel_rfl) (by simp) ?_
          refine AllG.cons rfl (fun K hK => ?_) AllG.nil
          go_simp
          refine (HADD1.out V7 hya).mono ?_
          rintro e W6 ⟨z, rfl, hyz, hvz, hb6⟩
          have hP6 := hPa.below hb6
          have hB6 := hda.trans (hb6.mono hda.size)
          have hat6 := hata.below hb6 hbWa
          have hbl6 := Nat.lt_of_lt_of_le hbWa hb6.size
          have hS6 : PoS n5 y1 b (off + k * 7) m W6 := ⟨pwIn5 hP6, opAt hat6⟩
          try go_wp2_with fail
          refine hK.out _ _ hS6 ?_
          try simp only [Act.put, List.setIfInBounds_toArray, List.set_cons_zero, List.set_cons_succ]
          clear hK hS
          have hS := hS6
          have hz6 := hz.below hb6
          refine anyG_plain (i := 6) (v := .tuple #[.agg #[.slice z.bA z.base.length z.bc, .int .i64 z.t, .slice z.oA z.ops.length z.oc, .slice z.uA z.us.length z.uc, .slice z.wA z.now.length z.wc], .bool bb]) rfl (by kernel_rfl) (by kernel_rfl) (by kernel_rfl) (by kernel_rfl) (fun _ _ _ h => h) (Or.inl ⟨by rfl, fun w' => by go_simp⟩) (fun _ => hS) ?_
          try simp only [Act.put, List.setIfInBounds_toArray, List.set_cons_zero, List.set_cons_succ]
          refine anyG_plain (i := 7) (v := .agg #[.slice z.bA z.base.length z.bc, .int .i64 z.t, .slice z.oA z.ops.length z.oc, .slice z.uA z.us.length z.uc, .slice z.wA z.now.length z.wc]) rfl (by kernel_rfl) (by kernel_rfl) (by kernel_rfl) (by kernel_rfl) (fun _ _ _ h => h) (Or.inl ⟨by rfl, fun w' => by go_simp⟩) (fun _ => hS) ?_
          try simp only [Act.put, List.setIfInBounds_toArray, List.set_cons_zero, List.set_cons_succ]
          refine anyG_plain (i := 8) (v := .bool bb) rfl (by kernel_rfl) (by kernel_rfl) (by kernel_rfl) (by kernel_rfl) (fun _ _ _ h => h) (Or.inl ⟨by rfl, fun w' => by go_simp⟩) (fun _ => hS) ?_
          try simp only [Act.put, List.setIfInBounds_toArray, List.set_cons_zero, List.set_cons_succ]
          refine anyG_step (rs := [10]) (by kernel_rfl) (by simp) ?_
          refine AllG.last (n := 10) rfl (fun K hK => ?_)
          refine El.step_store pwRow rfl _ _ rfl nA z #[.slice z.bA z.base.length z.bc, .int .i64 z.t, .slice z.oA z.ops.length z.oc, .slice z.uA z.us.length z.uc, .slice z.wA z.now.length z.wc] rfl rfl rfl Pw.zero hz6 ?_
          refine hK.out _ _ ?_
          try simp only [Act.put, List.setIfInBounds_toArray, List.set_cons_zero, List.set_cons_succ]
          clear hK hS
          refine anyG_plain_after (i := 11) (v := .bool bb) rfl (by kernel_rfl) (by kernel_rfl) (by kernel_rfl) (by kernel_rfl) (fun _ _ _ h => h) (Or.inl ⟨by rfl, fun w' => by go_simp⟩) (by kernel_rfl) ?_
          try simp only [Act.put, List.setIfInBounds_toArray, List.set_cons_zero, List.set_cons_succ]
          refine anyG_done (by kernel_rfl) ?_ _
          have hPz := (hz6).set z #[.slice z.bA z.base.length z.bc, .int .i64 z.t, .slice z.oA z.ops.length z.oc, .slice z.uA z.us.length z.uc, .slice z.wA z.now.length z.wc] rfl
          exact ⟨z, nA, rfl, hvz, hkW, hPz, hyz.off hz6 (by_row _ _ _), below_setRow hB6 hkW _⟩
      rintro x1 nx w' ⟨hvx, hnx1, hPx, hyx, hbx⟩
      replace hP1 := hP1.below hbx
      replace hP2 := hP2.below hbx
      replace hy2 := hy2.below hbx
      replace hB := hB.trans (hbx.mono hB.size)
      replace hat := hat.below hbx hbW
      replace hbW := Nat.lt_of_lt_of_le hbW hbx.size
      have hn5x : n5 ≠ nx := by have := hP.lt; omega
      clear hP hy hy1 hbx hnx1 HADD1
      have hnxlt := hPx.lt
      have hn6lt := hP2.lt
      have hn5lt := hP1.lt
      go_wp2_with fail
      generalize w' = W at *
      have hP := hP2
      have hy := hy2
      apply wp_merge (fun z kk w' => z.v = V ∧ W.heap.size ≤ kk ∧ pwE.In w' kk z ∧ PastOk w' z ∧ Below W.heap.size W w')
      · have hn1 := hP.lt
        refine region_anyG (S := PoS n6 y2 b (off + k * 7) m) 10 (by kernel_rfl) ?_
        have hd : Below W.heap.size W W.drew := (Below.refl _ _).drew
        replace hP : pwE.In W.drew n6 y2 := hP
        replace hy : PastOk W.drew y2 := hy.below hd
        replace hat : opE.At W.drew b (off + k * 7) m := hat
        replace hbW : b < W.drew.heap.size := hbW
        generalize W.drew = V at *
        have hS : PoS n6 y2 b (off + k * 7) m V := ⟨pwIn5 hP, opAt hat⟩
        refine anyG_take (i := 0) (v := .agg #[.slice y2.bA y2.base.length y2.bc, .int .i64 y2.t, .slice y2.oA y2.ops.length y2.oc, .slice y2.uA y2.us.length y2.uc, .slice y2.wA y2.now.length y2.wc]) rfl (by kernel_rfl) (by kernel_rfl) (by kernel_rfl) (by kernel_rfl) (by kernel_rfl) (fun _ _ _ h => h) (Or.inl ⟨by rfl, fun w' hSw => by (obtain ⟨⟨s0, s1, s2, s3, s4⟩, s5, s6, s7, s8, s9, s10, s11⟩ := hSw; go_simp)⟩) hS ?_
        try simp only [Act.put, List.setIfInBounds_toArray, List.set_cons_zero, List.set_cons_succ]
        refine anyG_take (i := 1) (v := .slice (some ⟨b, off, none⟩) l.length c) rfl (by kernel_rfl) (by kernel_rfl) (by kernel_rfl) (by kernel_rfl) (by kernel_rfl) (fun _ _ _ h => h) (Or.inl ⟨by rfl, fun w' hSw => by (obtain ⟨⟨s0, s1, s2, s3, s4⟩, s5, s6, s7, s8, s9, s10, s11⟩ := hSw; go_simp)⟩) hS ?_
        try simp only [Act.put, List.setIfInBounds_toArray, List.set_cons_zero, List.set_cons_succ]
        refine anyG_take (i := 2) (v := .int .i64 k) rfl (by kernel_rfl) (by kernel_rfl) (by kernel_rfl) (by kernel_rfl) (by kernel_rfl) (fun _ _ _ h => h) (Or.inl ⟨by rfl, fun w' hSw => by (obtain ⟨⟨s0, s1, s2, s3, s4⟩, s5, s6, s7, s8, s9, s10, s11⟩ := hSw; go_simp)⟩) hS ?_
        try simp only [Act.put, List.setIfInBounds_toArray, List.set_cons_zero, List.set_cons_succ]
        refine anyG_take (i := 3) (v := .pointer (some ⟨b, off + k * 7, none⟩)) rfl (by kernel_rfl) (by kernel_rfl) (by kernel_rfl) (by kernel_rfl) (by kernel_rfl) (fun _ _ _ h => h) (Or.inl ⟨by rfl, fun w' hSw => by (obtain ⟨⟨s0, s1, s2, s3, s4⟩, s5, s6, s7, s8, s9, s10, s11⟩ := hSw; go_simp)⟩) hS ?_
        try simp only [Act.put, List.setIfInBounds_toArray, List.set_cons_zero, List.set_cons_succ]
        refine anyG_take (i := 4) (v := .agg #[.int .i64 m.C, .int .i64 m.D, .int .i64 m.I, .int .i64 m.M, .int .i64 m.K, .int .i64 m.U, .string m.s]) rfl (by kernel_rfl) (by kernel_rfl) (by kernel_rfl) (by kernel_rfl) (by kernel_rfl) (fun _ _ _ h => h) (Or.inl ⟨by rfl, fun w' hSw => by (obtain ⟨⟨s0, s1, s2, s3, s4⟩, s5, s6, s7, s8, s9, s10, s11⟩ := hSw; go_simp)⟩) hS ?_
        try simp only [Act.put, List.setIfInBounds_toArray, List.set_cons_zero, List.set_cons_succ]
        have hda : Below W.heap.size W (V.alloc (.cells #[.slice none 0 0, .int .i64 0, .slice none 0 0, .slice none 0 0, .slice none 0 0] 29)) := hd.alloc hd.size (.cells #[.slice none 0 0, .int .i64 0, .slice none 0 0, .slice none 0 0, .slice none 0 0] 29)
        have hz : pwE.In (V.alloc (.cells #[.slice none 0 0, .int .i64 0, .slice none 0 0, .slice none 0 0, .slice none 0 0] 29)) V.heap.size Pw.zero := El.In.new (E := pwE) V Pw.zero #[.slice none 0 0, .int .i64 0, .slice none 0 0, .slice none 0 0, .slice none 0 0] rfl
        refine anyG_step (rs := [5, 9]) (by kernel_rfl) (by simp) ?_
        refine AllG.cons rfl (fun K hK => ?_) (AllG.cons rfl (fun K hK => ?_) AllG.nil)
        · skip
          go_simp
          refine (HADD2.out V hy).mono ?_
          rintro e W6 ⟨z, rfl, hyz, hvz, hb6⟩
          have hP6 := hP.below hb6
          have hB6 := hd.trans (hb6.mono hd.size)
          have hat6 := hat.below hb6 hbW
          have hbl6 := Nat.lt_of_lt_of_le hbW hb6.size
          have hS6 : PoS n6 y2 b (off + k * 7) m W6 := ⟨pwIn5 hP6, opAt hat6⟩
          try go_wp2_with fail
          refine hK.out _ _ hS6 ?_
          try simp only [Act.put, List.setIfInBounds_toArray, List.set_cons_zero, List.set_cons_succ]
          clear hK hS
          have hS := hS6
          have hz6 : pwE.In (W6.alloc (.cells #[.slice none 0 0, .int .i64 0, .slice none 0 0, .slice none 0 0, .slice none 0 0] 29)) W6.heap.size Pw.zero := El.In.new (E := pwE) W6 Pw.zero #[.slice none 0 0, .int .i64 0, .slice none 0 0, .slice none 0 0, .slice none 0 0] rfl
          refine anyG_plain (i := 6) (v := .tuple #[.agg #[.slice z.bA z.base.length z.bc, .int .i64 z.t, .slice z.oA z.ops.length z.oc, .slice z.uA z.us.length z.uc, .slice z.wA z.now.length z.wc], .bool bb]) rfl (by kernel_rfl) (by kernel_rfl) (by kernel_rfl) (by kernel_rfl) (fun _ _ _ h => h) (Or.inl ⟨by rfl, fun w' => by go_simp⟩) (fun _ => hS) ?_
          try simp only [Act.put, List.setIfInBounds_toArray, List.set_cons_zero, List.set_cons_succ]
          refine anyG_plain (i := 7) (v := .agg #[.slice z.bA z.base.length z.bc, .int .i64 z.t, .slice z.oA z.ops.length z.oc, .slice z.uA z.us.length z.uc, .slice z.wA z.now.length z.wc]) rfl (by kernel_rfl) (by kernel_rfl) (by kernel_rfl) (by kernel_rfl) (fun _ _ _ h => h) (Or.inl ⟨by rfl, fun w' => by go_simp⟩) (fun _ => hS) ?_
          try simp only [Act.put, List.setIfInBounds_toArray, List.set_cons_zero, List.set_cons_succ]
          refine anyG_plain (i := 8) (v := .bool bb) rfl (by kernel_rfl) (by kernel_rfl) (by kernel_rfl) (by kernel_rfl) (fun _ _ _ h => h) (Or.inl ⟨by rfl, fun w' => by go_simp⟩) (fun _ => hS) ?_
          try simp only [Act.put, List.setIfInBounds_toArray, List.set_cons_zero, List.set_cons_succ]
          refine anyG_step (rs := [9]) (by kernel_rfl) (by simp) ?_
          refine AllG.cons rfl (fun K hK => ?_) AllG.nil
          have hata := hat6.below (below_alloc (Below.refl W6.heap.size W6) (.cells #[.slice none 0 0, .int .i64 0, .slice none 0 0, .slice none 0 0, .slice none 0 0] 29)) hbl6
          have hSa : PoS n6 y2 b (off + k * 7) m (W6.alloc (.cells #[.slice none 0 0, .int .i64 0, .slice none 0 0, .slice none 0 0, .slice none 0 0] 29)) := ⟨pwIn5 (hP6.alloc (.cells #[.slice none 0 0, .int .i64 0, .slice none 0 0, .slice none 0 0, .slice none 0 0] 29)), opAt hata⟩
          go_simp
          refine hK.out _ _ hSa ?_
          try simp only [Act.put, List.setIfInBounds_toArray, List.set_cons_zero, List.set_cons_succ]
          clear hK hS
          have hS := hSa
          have hyz' := hyz.below (below_alloc (Below.refl W6.heap.size W6) (.cells #[.slice none 0 0, .int .i64 0, .slice none 0 0, .slice none 0 0, .slice none 0 0] 29))
          have hBz := hB6.alloc hB6.size (.cells #[.slice none 0 0, .int .i64 0, .slice none 0 0, .slice none 0 0, .slice none 0 0] 29)
          have hkW : W.heap.size ≤ W6.heap.size := hB6.size
          generalize W6.alloc (.cells #[.slice none 0 0, .int .i64 0, .slice none 0 0, .slice none 0 0, .slice none 0 0] 29) = W7 at *
          generalize W6.heap.size = nA at *
          refine anyG_step (rs := [10]) (by kernel_rfl) (by simp) ?_
          refine AllG.last (n := 10) rfl (fun K hK => ?_)
          refine El.step_store pwRow rfl _ _ rfl nA z #[.slice z.bA z.base.length z.bc, .int .i64 z.t, .slice z.oA z.ops.length z.oc, .slice z.uA z.us.length z.uc, .slice z.wA z.now.length z.wc] rfl rfl rfl Pw.zero hz6 ?_
          refine hK.out _ _ ?_
          try simp only [Act.put, List.setIfInBounds_toArray, List.set_cons_zero, List.set_cons_succ]
          clear hK hS
          refine anyG_plain_after (i := 11) (v := .bool bb) rfl (by kernel_rfl) (by kernel_rfl) (by kernel_rfl) (by kernel_rfl) (fun _ _ _ h => h) (Or.inl ⟨by rfl, fun w' => by go_simp⟩) (by kernel_rfl) ?_
          try simp only [Act.put, List.setIfInBounds_toArray, List.set_cons_zero, List.set_cons_succ]
          refine anyG_done (by kernel_rfl) ?_ _
          have hPz := (hz6).set z #[.slice z.bA z.base.length z.bc, .int .i64 z.t, .slice z.oA z.ops.length z.oc, .slice z.uA z.us.length z.uc, .slice z.wA z.now.length z.wc] rfl
          exact ⟨z, nA, rfl, hvz, hkW, hPz, hyz'.off hz6 (by_row _ _ _), below_setRow hBz hkW _⟩
        · skip
          have hata := hat.below (below_alloc (Below.refl V.heap.size V) (.cells #[.slice none 0 0, .int .i64 0, .slice none 0 0, .slice none 0 0, .slice none 0 0] 29)) hbW
          have hSa : PoS n6 y2 b (off + k * 7) m (V.alloc (.cells #[.slice none 0 0, .int .i64 0, .slice none 0 0, .slice none 0 0, .slice none 0 0] 29)) := ⟨pwIn5 (hP.alloc (.cells #[.slice none 0 0, .int .i64 0, .slice none 0 0, .slice none 0 0, .slice none 0 0] 29)), opAt hata⟩
          go_simp
          refine hK.out _ _ hSa ?_
          try simp only [Act.put, List.setIfInBounds_toArray, List.set_cons_zero, List.set_cons_succ]
          clear hK hS
          have hS := hSa
          have hya := hy.below (below_alloc (Below.refl V.heap.size V) (.cells #[.slice none 0 0, .int .i64 0, .slice none 0 0, .slice none 0 0, .slice none 0 0] 29))
          have hPa := hP.alloc (.cells #[.slice none 0 0, .int .i64 0, .slice none 0 0, .slice none 0 0, .slice none 0 0] 29)
          have hbWa : b < (V.alloc (.cells #[.slice none 0 0, .int .i64 0, .slice none 0 0, .slice none 0 0, .slice none 0 0] 29)).heap.size := by rw [alloc_size]; omega
          have hkW : W.heap.size ≤ V.heap.size := hd.size
          generalize V.alloc (.cells #[.slice none 0 0, .int .i64 0, .slice none 0 0, .slice none 0 0, .slice none 0 0] 29) = V7 at *
          generalize V.heap.size = nA at *
          refine anyG_step (rs := [5]) (by kernel_rfl) (by simp) ?_
          refine AllG.cons rfl (fun K hK => ?_) AllG.nil
          go_simp
          refine (HADD2.out V7 hya).mono ?_
          rintro e W6 ⟨z, rfl, hyz, hvz, hb6⟩
          have hP6 := hPa.below hb6
          have hB6 := hda.trans (hb6.mono hda.size)
          have hat6 := hata.below hb6 hbWa
          have hbl6 := Nat.lt_of_lt_of_le hbWa hb6.size
          have hS6 : PoS n6 y2 b (off + k * 7) m W6 := ⟨pwIn5 hP6, opAt hat6⟩
          try go_wp2_with fail
          refine hK.out _ _ hS6 ?_
          try simp only [Act.put, List.setIfInBounds_toArray, List.set_cons_zero, List.set_cons_succ]
          clear hK hS
          have hS := hS6
          have hz6 := hz.below hb6
          refine anyG_plain (i := 6) (v := .tuple #[.agg #[.slice z.bA z.base.length z.bc, .int .i64 z.t, .slice z.oA z.ops.length z.oc, .slice z.uA z.us.length z.uc, .slice z.wA z.now.length z.wc], .bool bb]) rfl (by kernel_rfl) (by kernel_rfl) (by kernel_rfl) (by kernel_rfl) (fun _ _ _ h => h) (Or.inl ⟨by rfl, fun w' => by go_simp⟩) (fun _ => hS) ?_
          try simp only [Act.put, List.setIfInBounds_toArray, List.set_cons_zero, List.set_cons_succ]
          refine anyG_plain (i := 7) (v := .agg #[.slice z.bA z.base.length z.bc, .int .i64 z.t, .slice z.oA z.ops.length z.oc, .slice z.uA z.us.length z.uc, .slice z.wA z.now.length z.wc]) rfl (by kernel_rfl) (by kernel_rfl) (by kernel_rfl) (by kernel_rfl) (fun _ _ _ h => h) (Or.inl ⟨by rfl, fun w' => by go_simp⟩) (fun _ => hS) ?_
          try simp only [Act.put, List.setIfInBounds_toArray, List.set_cons_zero, List.set_cons_succ]
          refine anyG_plain (i := 8) (v := .bool bb) rfl (by kernel_rfl) (by kernel_rfl) (by kernel_rfl) (by kernel_rfl) (fun _ _ _ h => h) (Or.inl ⟨by rfl, fun w' => by go_simp⟩) (fun _ => hS) ?_
          try simp only [Act.put, List.setIfInBounds_toArray, List.set_cons_zero, List.set_cons_succ]
          refine anyG_step (rs := [10]) (by kernel_rfl) (by simp) ?_
          refine AllG.last (n := 10) rfl (fun K hK => ?_)
          refine El.step_store pwRow rfl _ _ rfl nA z #[.slice z.bA z.base.length z.bc, .int .i64 z.t, .slice z.oA z.ops.length z.oc, .slice z.uA z.us.length z.uc, .slice z.wA z.now.length z.wc] rfl rfl rfl Pw.zero hz6 ?_
          refine hK.out _ _ ?_
          try simp only [Act.put, List.setIfInBounds_toArray, List.set_cons_zero, List.set_cons_succ]
          clear hK hS
          refine anyG_plain_after (i := 11) (v := .bool bb) rfl (by kernel_rfl) (by kernel_rfl) (by kernel_rfl) (by kernel_rfl) (fun _ _ _ h => h) (Or.inl ⟨by rfl, fun w' => by go_simp⟩) (by kernel_rfl) ?_
          try simp only [Act.put, List.setIfInBounds_toArray, List.set_cons_zero, List.set_cons_succ]
          refine anyG_done (by kernel_rfl) ?_ _
          have hPz := (hz6).set z #[.slice z.bA z.base.length z.bc, .int .i64 z.t, .slice z.oA z.ops.length z.oc, .slice z.uA z.us.length z.uc, .slice z.wA z.now.length z.wc] rfl
          exact ⟨z, nA, rfl, hvz, hkW, hPz, hyz.off hz6 (by_row _ _ _), below_setRow hB6 hkW _⟩
      rintro z nz w' ⟨hvz, hnz, hPz, hyz, hbz⟩
      replace hP1 := hP1.below hbz
      replace hP2 := hP2.below hbz
      replace hPx := hPx.below hbz
      replace hyx := hyx.below hbz
      replace hB := hB.trans (hbz.mono hB.size)
      have hnz6 : n6 ≠ nz := by omega
      have hn5z : n5 ≠ nz := by omega
      have hxz : nx ≠ nz := by omega
      clear hP hy hy2 hbz hat hbW HADD2 hnz
      go_wp2_with fail
      refine region_anyG (S := TwoQ nx x1 nz z) 3 (by kernel_rfl) ?_
      replace hP1 : pwE.In w'.drew n5 y1 := hP1
      replace hP2 : pwE.In w'.drew n6 y2 := hP2
      replace hPx : pwE.In w'.drew nx x1 := hPx
      replace hPz : pwE.In w'.drew nz z := hPz
      replace hyx : PastOk w'.drew x1 := hyx.below (Below.refl _ _).drew
      replace hyz : PastOk w'.drew z := hyz.below (Below.refl _ _).drew
      replace hB := hB.drew
      generalize w'.drew = V9 at *
      have hS : TwoQ nx x1 nz z V9 := ⟨pwIn5 hPx, pwIn5 hPz⟩
      refine anyG_take (i := 0) (v := .agg #[.slice x1.bA x1.base.length x1.bc, .int .i64 x1.t, .slice x1.oA x1.ops.length x1.oc, .slice x1.uA x1.us.length x1.uc, .slice x1.wA x1.now.length x1.wc]) rfl (by kernel_rfl) (by kernel_rfl) (by kernel_rfl) (by kernel_rfl) (by kernel_rfl) (fun _ _ _ h => h) (Or.inl ⟨by rfl, fun w' hSw => by (obtain ⟨⟨s0, s1, s2, s3, s4⟩, s5, s6, s7, s8, s9⟩ := hSw; go_simp)⟩) hS ?_
      try simp only [Act.put, List.setIfInBounds_toArray, List.set_cons_zero, List.set_cons_succ]
      refine anyG_take (i := 1) (v := .agg #[.slice z.bA z.base.length z.bc, .int .i64 z.t, .slice z.oA z.ops.length z.oc, .slice z.uA z.us.length z.uc, .slice z.wA z.now.length z.wc]) rfl (by kernel_rfl) (by kernel_rfl) (by kernel_rfl) (by kernel_rfl) (by kernel_rfl) (fun _ _ _ h => h) (Or.inl ⟨by rfl, fun w' hSw => by (obtain ⟨⟨s0, s1, s2, s3, s4⟩, s5, s6, s7, s8, s9⟩ := hSw; go_simp)⟩) hS ?_
      try simp only [Act.put, List.setIfInBounds_toArray, List.set_cons_zero, List.set_cons_succ]
      refine anyG_step (rs := [2]) (by kernel_rfl) (by simp) ?_
      refine AllG.cons rfl (fun K hK => ?_) AllG.nil
      refine El.step_store pwRow rfl _ _ rfl n5 x1 #[.slice x1.bA x1.base.length x1.bc, .int .i64 x1.t, .slice x1.oA x1.ops.length x1.oc, .slice x1.uA x1.us.length x1.uc, .slice x1.wA x1.now.length x1.wc] rfl rfl rfl y1 hP1 ?_
      have hg1 := by_row V9 n5 #[.slice x1.bA x1.base.length x1.bc, .int .i64 x1.t, .slice x1.oA x1.ops.length x1.oc, .slice x1.uA x1.us.length x1.uc, .slice x1.wA x1.now.length x1.wc]
      have hPx2 := hPx.keep hg1 (fun e => hn5x (Option.some.inj e).symm)
      have hPz2 := hPz.keep hg1 (fun e => hn5z (Option.some.inj e).symm)
      have hP22 := hP2.keep hg1 (fun e => hn56 (Option.some.inj e).symm)
      have hS2 : TwoQ nx x1 nz z (V9.setRow n5 #[.slice x1.bA x1.base.length x1.bc, .int .i64 x1.t, .slice x1.oA x1.ops.length x1.oc, .slice x1.uA x1.us.length x1.uc, .slice x1.wA x1.now.length x1.wc]) := ⟨pwIn5 hPx2, pwIn5 hPz2⟩
      refine hK.out _ _ hS2 ?_
      try simp only [Act.put, List.setIfInBounds_toArray, List.set_cons_zero, List.set_cons_succ]
      clear hK hS
      have hS := hS2
      refine anyG_step (rs := [3]) (by kernel_rfl) (by simp) ?_
      refine AllG.last (n := 3) rfl (fun K hK => ?_)
      refine El.step_store pwRow rfl _ _ rfl n6 z #[.slice z.bA z.base.length z.bc, .int .i64 z.t, .slice z.oA z.ops.length z.oc, .slice z.uA z.us.length z.uc, .slice z.wA z.now.length z.wc] rfl rfl rfl y2 hP22 ?_
      refine hK.out _ _ ?_
      try simp only [Act.put, List.setIfInBounds_toArray, List.set_cons_zero, List.set_cons_succ]
      clear hK hS hS2
      refine anyG_done (by kernel_rfl) ?_ _
      have hg2 := by_row (V9.setRow n5 #[.slice x1.bA x1.base.length x1.bc, .int .i64 x1.t, .slice x1.oA x1.ops.length x1.oc, .slice x1.uA x1.us.length x1.uc, .slice x1.wA x1.now.length x1.wc]) n6 #[.slice z.bA z.base.length z.bc, .int .i64 z.t, .slice z.oA z.ops.length z.oc, .slice z.uA z.us.length z.uc, .slice z.wA z.now.length z.wc]
      have hA1 := (hP1.set x1 #[.slice x1.bA x1.base.length x1.bc, .int .i64 x1.t, .slice x1.oA x1.ops.length x1.oc, .slice x1.uA x1.us.length x1.uc, .slice x1.wA x1.now.length x1.wc] rfl).rowN n6 #[.slice z.bA z.base.length z.bc, .int .i64 z.t, .slice z.oA z.ops.length z.oc, .slice z.uA z.us.length z.uc, .slice z.wA z.now.length z.wc] hn56
      have hA2 := hP22.set z #[.slice z.bA z.base.length z.bc, .int .i64 z.t, .slice z.oA z.ops.length z.oc, .slice z.uA z.us.length z.uc, .slice z.wA z.now.length z.wc] rfl
      have hA3 := (hyx.off hP1 hg1).off hP22 hg2
      have hA4 := (hyz.off hP1 hg1).off hP22 hg2
      have hA5 := below_setRow (below_setRow hB hn5w #[.slice x1.bA x1.base.length x1.bc, .int .i64 x1.t, .slice x1.oA x1.ops.length x1.oc, .slice x1.uA x1.us.length x1.uc, .slice x1.wA x1.now.length x1.wc]) hn6w #[.slice z.bA z.base.length z.bc, .int .i64 z.t, .slice z.oA z.ops.length z.oc, .slice z.uA z.us.length z.uc, .slice z.wA z.now.length z.wc]
      generalize (V9.setRow n5 #[.slice x1.bA x1.base.length x1.bc, .int .i64 x1.t, .slice x1.oA x1.ops.length x1.oc, .slice x1.uA x1.us.length x1.uc, .slice x1.wA x1.now.length x1.wc]).setRow n6 #[.slice z.bA z.base.length z.bc, .int .i64 z.t, .slice z.oA z.ops.length z.oc, .slice z.uA z.us.length z.uc, .slice z.wA z.now.length z.wc] = W9 at *
      clear hg1 hg2 hPx hPz hPx2 hPz2 hP22 hP1 hP2 hyx hyz hB hn5x hnxlt hn6lt hn5lt hnz6 hn5z hxz
      go_upto_region 10 with fail
      go_cut [52] from 16 to 128 (fun v wx => v = .bool sb ∧ wx = W9)
      case first =>
        by_cases hka : k < at_.length
        · obtain ⟨tb, toff, rfl, htb, htc⟩ := hat0 (by omega)
          have htat : byE.At W9 tb (toff + k * 1) at_[k] := (htc k hka).below hA5 htb
          have htc0 : W9.cell? ⟨tb, toff + k, none⟩ = some (.int .u8 at_[k]) := by have h := htat 0 _ rfl; rw [Nat.mul_one] at h; exact h
          obtain ⟨s, hs⟩ : ∃ s, at_[k] = s := ⟨_, rfl⟩
          have hbs : sb = decide (s < 60) := by
            rw [Bool.eq_iff_iff, HSB.out, decide_eq_true_iff, ← hs]
            exact ⟨fun ⟨_, h⟩ => h, fun h => ⟨hka, h⟩⟩
          rw [hs] at htc0
          have HE := Lib.hid hbs
          clear htc htat hs hbs
          by_cases hs60 : s < 60
          · have hd60 : decide (s < 60) = true := decide_eq_true hs60
            go_wp2_with fail
            go_meet
            exact ⟨by rw [HE.out, hd60], rfl⟩
          · have hd60 : decide (s < 60) = false := decide_eq_false hs60
            go_wp2_with fail
            go_meet
            exact ⟨by rw [HE.out, hd60], rfl⟩
        · have hbs : sb = false := by
            cases hh : sb
            · rfl
            · exact absurd (HSB.out.1 hh).1 hka
          have HE := Lib.hid hbs
          clear hbs
          go_wp2_with fail
          go_meet
          exact ⟨by rw [HE.out], rfl⟩
      case rest =>
        obtain ⟨rfl, hwc⟩ := hcut
        subst hwc
        try generalize wc = W9 at *
        obtain ⟨V', hV'⟩ : ∃ V', (if sb = true then settleV V (at_.getD k 0) else V) = V' := ⟨_, rfl⟩
        have hg0 : 0 ≤ at_.getD k 0 := by
          by_cases hka : k < at_.length
          · have h := (hby at_[k] (List.getElem_mem _)).1
            simpa [hka] using h
          · simp [hka]
        have hI3 : PInv V' ∧ V'.ops.length ≤ k + 1 := by
          rw [← hV']
          cases sb
          · exact ⟨HI2.out, HL2.out⟩
          · have h1 := settleV_len V (at_.getD k 0)
            have h2 := HL2.out
            exact ⟨HI2.out.settle (by
              by_cases hka : k < at_.length
              · have h := (hby at_[k] (List.getElem_mem _)).2
                have e : at_.getD k 0 = at_[k] := by simp [hka]
                omega
              · have e : at_.getD k 0 = 0 := by simp [hka]
                omega), by show (settleV V (at_.getD k 0)).ops.length ≤ k + 1; omega⟩
        have HV' := Lib.hid hV'
        have HI3 := Lib.hid hI3
        clear hV' hg0 hI3
        go_upto_if 52 with fail
        go_cut [] from 16 to 128 (fun wx => ∃ z1 z2 : Pw, z1.v = V' ∧ z2.v = V' ∧ pwE.In wx n5 z1 ∧ PastOk wx z1 ∧ pwE.In wx n6 z2 ∧ PastOk wx z2 ∧ Below w.heap.size w wx)
        case first =>
          cases sb
          · have e : V = V' := HV'.out
            go_wp2_with fail
            go_meet
            exact ⟨x1, z, hvx.trans e, hvz.trans e, hA1, hA3, hA2, hA4, hA5⟩
          · obtain ⟨hka, hlt⟩ := HSB.out.1 rfl
            obtain ⟨tb, toff, rfl, htb, htc⟩ := hat0 (by omega)
            have htat : byE.At W9 tb (toff + k * 1) at_[k] := (htc k hka).below hA5 htb
            have htc0 : W9.cell? ⟨tb, toff + k, none⟩ = some (.int .u8 at_[k]) := by have h := htat 0 _ rfl; rw [Nat.mul_one] at h; exact h
            have hVs0 : settleV V (at_.getD k 0) = V' := HV'.out
            have hgd : at_.getD k 0 = at_[k] := by simp [hka]
            have hbt := hby at_[k] (List.getElem_mem _)
            obtain ⟨s, hs⟩ : ∃ s, at_[k] = s := ⟨_, rfl⟩
            rw [hgd, hs] at hVs0
            rw [hs] at htc0 hbt hlt
            have htl9 : tb < W9.heap.size := Nat.lt_of_lt_of_le htb hA5.size
            have HVS := Lib.hid hVs0
            clear htc htat hs hVs0 hgd
            have hwr : IntKind.i64.wrap s = s := IntWalk.i64_in _ (by omega)
            go_wp2_with fail
            refine region_anyG (S := TwoB n5 x1 n6 z tb (toff + k) s) 14 (by kernel_rfl) ?_
            replace hA1 : pwE.In W9.drew n5 x1 := hA1
            replace hA2 : pwE.In W9.drew n6 z := hA2
            replace hA3 : PastOk W9.drew x1 := hA3.below (Below.refl _ _).drew
            replace hA4 : PastOk W9.drew z := hA4.below (Below.refl _ _).drew
            replace htc0 : W9.drew.cell? ⟨tb, toff + k, none⟩ = some (.int .u8 s) := htc0
            replace htl9 : tb < W9.drew.heap.size := htl9
            replace hA5 := hA5.drew
            generalize W9.drew = V9 at *
            have hS : TwoB n5 x1 n6 z tb (toff + k) s V9 := ⟨pwIn5 hA1, pwIn5 hA2, htc0⟩
            refine anyG_take (i := 0) (v := .agg #[.slice x1.bA x1.base.length x1.bc, .int .i64 x1.t, .slice x1.oA x1.ops.length x1.oc, .slice x1.uA x1.us.length x1.uc, .slice x1.wA x1.now.length x1.wc]) rfl (by kernel_rfl) (by kernel_rfl) (by kernel_rfl) (by kernel_rfl) (by kernel_rfl) (fun _ _ _ h => h) (Or.inl ⟨by rfl, fun w' hSw => by (obtain ⟨⟨s0, s1, s2, s3, s4⟩, ⟨s5, s6, s7, s8, s9⟩, s10⟩ := hSw; go_simp)⟩) hS ?_
            try simp only [Act.put, List.setIfInBounds_toArray, List.set_cons_zero, List.set_cons_succ]
            refine anyG_take (i := 1) (v := .slice (some ⟨tb, toff, none⟩) at_.length tc) rfl (by kernel_rfl) (by kernel_rfl) (by kernel_rfl) (by kernel_rfl) (by kernel_rfl) (fun _ _ _ h => h) (Or.inl ⟨by rfl, fun w' hSw => by (obtain ⟨⟨s0, s1, s2, s3, s4⟩, ⟨s5, s6, s7, s8, s9⟩, s10⟩ := hSw; go_simp)⟩) hS ?_
            try simp only [Act.put, List.setIfInBounds_toArray, List.set_cons_zero, List.set_cons_succ]
            refine anyG_take (i := 2) (v := .int .i64 k) rfl (by kernel_rfl) (by kernel_rfl) (by kernel_rfl) (by kernel_rfl) (by kernel_rfl) (fun _ _ _ h => h) (Or.inl ⟨by rfl, fun w' hSw => by (obtain ⟨⟨s0, s1, s2, s3, s4⟩, ⟨s5, s6, s7, s8, s9⟩, s10⟩ := hSw; go_simp)⟩) hS ?_
            try simp only [Act.put, List.setIfInBounds_toArray, List.set_cons_zero, List.set_cons_succ]
            refine anyG_take (i := 3) (v := .pointer (some ⟨tb, toff + k, none⟩)) rfl (by kernel_rfl) (by kernel_rfl) (by kernel_rfl) (by kernel_rfl) (by kernel_rfl) (fun _ _ _ h => h) (Or.inl ⟨by rfl, fun w' hSw => by (obtain ⟨⟨s0, s1, s2, s3, s4⟩, ⟨s5, s6, s7, s8, s9⟩, s10⟩ := hSw; go_simp)⟩) hS ?_
            try simp only [Act.put, List.setIfInBounds_toArray, List.set_cons_zero, List.set_cons_succ]
            refine anyG_take (i := 4) (v := .int .u8 s) rfl (by kernel_rfl) (by kernel_rfl) (by kernel_rfl) (by kernel_rfl) (by kernel_rfl) (fun _ _ _ h => h) (Or.inl ⟨by rfl, fun w' hSw => by (obtain ⟨⟨s0, s1, s2, s3, s4⟩, ⟨s5, s6, s7, s8, s9⟩, s10⟩ := hSw; go_simp)⟩) hS ?_
            try simp only [Act.put, List.setIfInBounds_toArray, List.set_cons_zero, List.set_cons_succ]
            refine anyG_take (i := 5) (v := .int .i64 s) rfl (by kernel_rfl) (by kernel_rfl) (by kernel_rfl) (by kernel_rfl) (by kernel_rfl) (fun _ _ _ h => h) (Or.inl ⟨by rfl, fun w' hSw => by (obtain ⟨⟨s0, s1, s2, s3, s4⟩, ⟨s5, s6, s7, s8, s9⟩, s10⟩ := hSw; go_simp)⟩) hS ?_
            try simp only [Act.put, List.setIfInBounds_toArray, List.set_cons_zero, List.set_cons_succ]
            refine anyG_path (i := 7) (v := .agg #[.slice z.bA z.base.length z.bc, .int .i64 z.t, .slice z.oA z.ops.length z.oc, .slice z.uA z.us.length z.uc, .slice z.wA z.now.length z.wc]) [13] rfl (by kernel_rfl) (by kernel_rfl) (by kernel_rfl) (by kernel_rfl) (by kernel_rfl) (fun _ _ _ h => h) (Or.inl ⟨by rfl, fun w' hSw => by (obtain ⟨⟨s0, s1, s2, s3, s4⟩, ⟨s5, s6, s7, s8, s9⟩, s10⟩ := hSw; go_simp)⟩) hS ?_
            try simp only [Act.put, List.setIfInBounds_toArray, List.set_cons_zero, List.set_cons_succ]
            refine anyG_plain (i := 8) (v := .slice (some ⟨tb, toff, none⟩) at_.length tc) rfl (by kernel_rfl) (by kernel_rfl) (by kernel_rfl) (by kernel_rfl) (fun _ _ _ h => h) (Or.inl ⟨by rfl, fun w' => by go_simp⟩) (fun _ => hS) ?_
            try simp only [Act.put, List.setIfInBounds_toArray, List.set_cons_zero, List.set_cons_succ]
            refine anyG_plain (i := 9) (v := .int .i64 k) rfl (by kernel_rfl) (by kernel_rfl) (by kernel_rfl) (by kernel_rfl) (fun _ _ _ h => h) (Or.inl ⟨by rfl, fun w' => by go_simp⟩) (fun _ => hS) ?_
            try simp only [Act.put, List.setIfInBounds_toArray, List.set_cons_zero, List.set_cons_succ]
            refine anyG_plain (i := 10) (v := .pointer (some ⟨tb, toff + k, none⟩)) rfl (by kernel_rfl) (by kernel_rfl) (by kernel_rfl) (by kernel_rfl) (fun _ _ _ h => h) (Or.inl ⟨by rfl, fun w' => by go_simp⟩) (fun _ => hS) ?_
            try simp only [Act.put, List.setIfInBounds_toArray, List.set_cons_zero, List.set_cons_succ]
            refine anyG_path (i := 11) (v := .int .u8 s) [13, 12] rfl (by kernel_rfl) (by kernel_rfl) (by kernel_rfl) (by kernel_rfl) (by kernel_rfl) (fun _ _ _ h => h) (Or.inl ⟨by rfl, fun w' hSw => by (obtain ⟨⟨s0, s1, s2, s3, s4⟩, ⟨s5, s6, s7, s8, s9⟩, s10⟩ := hSw; go_simp)⟩) hS ?_
            try simp only [Act.put, List.setIfInBounds_toArray, List.set_cons_zero, List.set_cons_succ]
            refine anyG_plain (i := 12) (v := .int .i64 s) rfl (by kernel_rfl) (by kernel_rfl) (by kernel_rfl) (by kernel_rfl) (fun _ _ _ h => h) (Or.inl ⟨by rfl, fun w' => by go_simp⟩) (fun _ => hS) ?_
            try simp only [Act.put, List.setIfInBounds_toArray, List.set_cons_zero, List.set_cons_succ]
            refine anyG_step (rs := [6]) (by kernel_rfl) (by simp) ?_
            refine AllG.cons rfl (fun K hK => ?_) AllG.nil
            go_simp
            refine (settlec x1 s V9 hA3 hvx HI2.out (by have := HL2.out; omega) HVS.out).mono ?_
            rintro e Wa ⟨z1, rfl, hz1, hzv1, hba⟩
            have hPa := hA1.below hba
            have hQa := hA2.below hba
            have hza := hA4.below hba
            have hBa := hA5.trans (hba.mono hA5.size)
            have hta : Wa.cell? ⟨tb, toff + k, none⟩ = some (.int .u8 s) := by rw [(bcell hba).1 _ _ htl9]; exact htc0
            have hSa : TwoB n5 x1 n6 z tb (toff + k) s Wa := ⟨pwIn5 hPa, pwIn5 hQa, hta⟩
            try go_wp2_with fail
            refine hK.out _ _ hSa ?_
            try simp only [Act.put, List.setIfInBounds_toArray, List.set_cons_zero, List.set_cons_succ]
            clear hK hS hA1 hA2 hA3 hA4 hA5 hba
            have hS := hSa
            refine anyG_step (rs := [13]) (by kernel_rfl) (by simp) ?_
            refine AllG.cons rfl (fun K hK => ?_) AllG.nil
            go_simp
            refine (refsettlec z s Wa hza hvz (by have := HL2.out; have := tree_len HI2.out.tree; omega) HVS.out).mono ?_
            rintro e Wb ⟨z2, rfl, hz2, hzv2, hbb⟩
            have hPb := hPa.below hbb
            have hQb := hQa.below hbb
            have hz1b := hz1.below hbb
            have hBb := hBa.trans (hbb.mono hBa.size)
            have htb2 : Wb.cell? ⟨tb, toff + k, none⟩ = some (.int .u8 s) := by rw [(bcell hbb).1 _ _ (Nat.lt_of_lt_of_le htb hBa.size)]; exact hta
            have hSb : TwoB n5 x1 n6 z tb (toff + k) s Wb := ⟨pwIn5 hPb, pwIn5 hQb, htb2⟩
            try go_wp2_with fail
            refine hK.out _ _ hSb ?_
            try simp only [Act.put, List.setIfInBounds_toArray, List.set_cons_zero, List.set_cons_succ]
            clear hK hS hSa hPa hQa hza hBa hbb hta hz1
            have hS := hSb
            refine anyG_step (rs := [14]) (by kernel_rfl) (by simp) ?_
            refine AllG.last (n := 14) rfl (fun K hK => ?_)
            refine El.step_store pwRow rfl _ _ rfl n5 z1 #[.slice z1.bA z1.base.length z1.bc, .int .i64 z1.t, .slice z1.oA z1.ops.length z1.oc, .slice z1.uA z1.us.length z1.uc, .slice z1.wA z1.now.length z1.wc] rfl rfl rfl x1 hPb ?_
            refine hK.out _ _ ?_
            try simp only [Act.put, List.setIfInBounds_toArray, List.set_cons_zero, List.set_cons_succ]
            clear hK hS hSb
            have hg1 := by_row Wb n5 #[.slice z1.bA z1.base.length z1.bc, .int .i64 z1.t, .slice z1.oA z1.ops.length z1.oc, .slice z1.uA z1.us.length z1.uc, .slice z1.wA z1.now.length z1.wc]
            have hQc := hQb.keep hg1 (fun e => hn56 (Option.some.inj e).symm)
            refine anyG_step (rs := [15]) (by kernel_rfl) (by simp) ?_
            refine AllG.after rfl (by kernel_rfl) (fun K hK => ?_) AllG.nil
            refine El.step_store pwRow rfl _ _ rfl n6 z2 #[.slice z2.bA z2.base.length z2.bc, .int .i64 z2.t, .slice z2.oA z2.ops.length z2.oc, .slice z2.uA z2.us.length z2.uc, .slice z2.wA z2.now.length z2.wc] rfl rfl rfl z hQc ?_
            refine hK.out _ _ ?_
            try simp only [Act.put, List.setIfInBounds_toArray, List.set_cons_zero, List.set_cons_succ]
            clear hK
            refine anyG_done (by kernel_rfl) ?_ _
            have hg2 := by_row (Wb.setRow n5 #[.slice z1.bA z1.base.length z1.bc, .int .i64 z1.t, .slice z1.oA z1.ops.length z1.oc, .slice z1.uA z1.us.length z1.uc, .slice z1.wA z1.now.length z1.wc]) n6 #[.slice z2.bA z2.base.length z2.bc, .int .i64 z2.t, .slice z2.oA z2.ops.length z2.oc, .slice z2.uA z2.us.length z2.uc, .slice z2.wA z2.now.length z2.wc]
            have hE1 := (hPb.set z1 #[.slice z1.bA z1.base.length z1.bc, .int .i64 z1.t, .slice z1.oA z1.ops.length z1.oc, .slice z1.uA z1.us.length z1.uc, .slice z1.wA z1.now.length z1.wc] rfl).rowN n6 #[.slice z2.bA z2.base.length z2.bc, .int .i64 z2.t, .slice z2.oA z2.ops.length z2.oc, .slice z2.uA z2.us.length z2.uc, .slice z2.wA z2.now.length z2.wc] hn56
            have hE2 := hQc.set z2 #[.slice z2.bA z2.base.length z2.bc, .int .i64 z2.t, .slice z2.oA z2.ops.length z2.oc, .slice z2.uA z2.us.length z2.uc, .slice z2.wA z2.now.length z2.wc] rfl
            have hE3 := (hz1b.off hPb hg1).off hQc hg2
            have hE4 := (hz2.off hPb hg1).off hQc hg2
            have hE5 := below_setRow (below_setRow hBb hn5w #[.slice z1.bA z1.base.length z1.bc, .int .i64 z1.t, .slice z1.oA z1.ops.length z1.oc, .slice z1.uA z1.us.length z1.uc, .slice z1.wA z1.now.length z1.wc]) hn6w #[.slice z2.bA z2.base.length z2.bc, .int .i64 z2.t, .slice z2.oA z2.ops.length z2.oc, .slice z2.uA z2.us.length z2.uc, .slice z2.wA z2.now.length z2.wc]
            generalize (Wb.setRow n5 #[.slice z1.bA z1.base.length z1.bc, .int .i64 z1.t, .slice z1.oA z1.ops.length z1.oc, .slice z1.uA z1.us.length z1.uc, .slice z1.wA z1.now.length z1.wc]).setRow n6 #[.slice z2.bA z2.base.length z2.bc, .int .i64 z2.t, .slice z2.oA z2.ops.length z2.oc, .slice z2.uA z2.us.length z2.uc, .slice z2.wA z2.now.length z2.wc] = Wc at *
            go_wp2_with fail
            go_meet
            exact ⟨z1, z2, hzv1, hzv2, hE1, hE3, hE2, hE4, hE5⟩
        case rest =>
          obtain ⟨z1, z2, hz1, hz2, hP1, hy1, hP2, hy2, hB⟩ := hcut
          clear hA1 hA2 hA3 hA4 hA5 hvx hvz
          have hat : opE.At wc b (off + k * 7) m := HC.out.below hB hbw
          have hI : PInv z1.v := by rw [hz1]; exact HI3.out.1
          have hl3 := HI3.out.2
          have hb1 : z1.base.length ≤ 62 := tree_len hI.tree
          have hb2 : z1.ops.length ≤ 60 := by have h : z1.ops = z1.v.ops := rfl; rw [h, hz1]; omega
          have hb3 : z1.us.length ≤ 60 := by have h := hI.ulen; have h2 : z1.v.ops = z1.ops := rfl; rw [h2] at h; have h3 : z1.v.us = z1.us := rfl; rw [h3] at h; omega
          have hb4 : z1.now.length ≤ 62 := tree_len hI.ntree
          have hb5 : z2.ops.length ≤ 60 := by have h : z2.ops = z2.v.ops := rfl; rw [h, hz2]; omega
          obtain ⟨N1, hN1⟩ : ∃ N : Nat, ownV V' m.D m.I = N := ⟨_, rfl⟩
          obtain ⟨N2, hN2⟩ : ∃ N : Nat, ofV V' m.D = N := ⟨_, rfl⟩
          have R1 := Lib.hid (fun (d : Nat) (os : Array Obj) => hy1.below (below_regrown wc d os))
          have R2 := Lib.hid (fun (d : Nat) (os : Array Obj) => hy2.below (below_regrown wc d os))
          have HD1 := Lib.hid (fun wx (h1 : PastOk wx z1) (h2 : PastOk wx z2) => samePast_any z1 z2 wx h1 h2 (hz2.trans hz1.symm) (by omega) (by omega) (by omega) (by omega))
          have HD2 := Lib.hid (fun wx (h1 : PastOk wx z1) => pRight_any z1 wx h1 (by omega) (by omega) (by omega) (by omega) (fun p hp => by have := (tree_fit hI.tree p hp).s; omega) (fun m hm => by have := opB_wide (hI.ok m hm); omega) true ⟨fun _ => hI.right, fun _ => rfl⟩)
          have C3 := fun wx (h1 : PastOk wx z1) => pOwn_any z1 m.D m.I wx h1 (by omega)
          have C4 := fun wx (h1 : PastOk wx z2) => refOwn_any z2 m.D m.I wx h1 (by omega)
          have C5 := fun wx (h1 : PastOk wx z1) => pOf_any z1 m.D wx h1 (by omega)
          have C6 := fun wx (h1 : PastOk wx z2) => refOf_any z2 m.D wx h1 (by omega)
          rw [hz1, hN1] at C3
          rw [hz2, hN1] at C4
          rw [hz1, hN2] at C5
          rw [hz2, hN2] at C6
          have HC3 := Lib.hid C3
          have HC4 := Lib.hid C4
          have HC5 := Lib.hid C5
          have HC6 := Lib.hid C6
          have HZ := Lib.hid (⟨hz1, hz2⟩ : z1.v = V' ∧ z2.v = V')
          clear C3 C4 C5 C6 hz1 hz2 hN1 hN2 hI hl3 hb1 hb2 hb3 hb4 hb5
          have d1 : ∀ d os, Calls Try.prog 16 #[.agg #[.slice z1.bA z1.base.length z1.bc, .int .i64 z1.t, .slice z1.oA z1.ops.length z1.oc, .slice z1.uA z1.us.length z1.uc, .slice z1.wA z1.now.length z1.wc], .agg #[.slice z2.bA z2.base.length z2.bc, .int .i64 z2.t, .slice z2.oA z2.ops.length z2.oc, .slice z2.uA z2.us.length z2.uc, .slice z2.wA z2.now.length z2.wc]] (Sort.grow (redrawn wc d) os) fun e w'' => e = .returned (.bool true) ∧ ∃ p : Regrown, w'' = Sort.grow (redrawn wc p.d) p.os := fun d os => Calls.regrown_of (HD1.out _ (R1.out d os) (R2.out d os))
          have d2 : ∀ d os, Calls Try.prog 17 #[.agg #[.slice z1.bA z1.base.length z1.bc, .int .i64 z1.t, .slice z1.oA z1.ops.length z1.oc, .slice z1.uA z1.us.length z1.uc, .slice z1.wA z1.now.length z1.wc]] (Sort.grow (redrawn wc d) os) fun e w'' => e = .returned (.bool true) ∧ ∃ p : Regrown, w'' = Sort.grow (redrawn wc p.d) p.os := fun d os => Calls.regrown_of (HD2.out _ (R1.out d os))
          have d3 : ∀ d os, Calls Try.prog 18 #[.agg #[.slice z1.bA z1.base.length z1.bc, .int .i64 z1.t, .slice z1.oA z1.ops.length z1.oc, .slice z1.uA z1.us.length z1.uc, .slice z1.wA z1.now.length z1.wc], .int .i64 m.D, .int .i64 m.I] (Sort.grow (redrawn wc d) os) fun e w'' => e = .returned (.int .i64 N1) ∧ ∃ p : Regrown, w'' = Sort.grow (redrawn wc p.d) p.os := fun d os => Calls.regrown_of (HC3.out _ (R1.out d os))
          have d4 : ∀ d os, Calls Try.prog 19 #[.agg #[.slice z2.bA z2.base.length z2.bc, .int .i64 z2.t, .slice z2.oA z2.ops.length z2.oc, .slice z2.uA z2.us.length z2.uc, .slice z2.wA z2.now.length z2.wc], .int .i64 m.D, .int .i64 m.I] (Sort.grow (redrawn wc d) os) fun e w'' => e = .returned (.int .i64 N1) ∧ ∃ p : Regrown, w'' = Sort.grow (redrawn wc p.d) p.os := fun d os => Calls.regrown_of (HC4.out _ (R2.out d os))
          have d5 : ∀ d os, Calls Try.prog 20 #[.agg #[.slice z1.bA z1.base.length z1.bc, .int .i64 z1.t, .slice z1.oA z1.ops.length z1.oc, .slice z1.uA z1.us.length z1.uc, .slice z1.wA z1.now.length z1.wc], .int .i64 m.D] (Sort.grow (redrawn wc d) os) fun e w'' => e = .returned (.int .i64 N2) ∧ ∃ p : Regrown, w'' = Sort.grow (redrawn wc p.d) p.os := fun d os => Calls.regrown_of (HC5.out _ (R1.out d os))
          have d6 : ∀ d os, Calls Try.prog 21 #[.agg #[.slice z2.bA z2.base.length z2.bc, .int .i64 z2.t, .slice z2.oA z2.ops.length z2.oc, .slice z2.uA z2.us.length z2.uc, .slice z2.wA z2.now.length z2.wc], .int .i64 m.D] (Sort.grow (redrawn wc d) os) fun e w'' => e = .returned (.int .i64 N2) ∧ ∃ p : Regrown, w'' = Sort.grow (redrawn wc p.d) p.os := fun d os => Calls.regrown_of (HC6.out _ (R2.out d os))
          obtain ⟨p0, p1, p2, p3, p4⟩ := pwIn5 hP1
          obtain ⟨q0, q1, q2, q3, q4⟩ := pwIn5 hP2
          obtain ⟨t0, t1, t2, t3, t4, t5, t6⟩ := opAt hat
          have k0 := cell_regrown p0
          have k1 := cell_regrown p1
          have k2 := cell_regrown p2
          have k3 := cell_regrown p3
          have k4 := cell_regrown p4
          have j0 := cell_regrown q0
          have j1 := cell_regrown q1
          have j2 := cell_regrown q2
          have j3 := cell_regrown q3
          have j4 := cell_regrown q4
          have i1 := cell_regrown t1
          have i2 := cell_regrown t2
          clear p0 p1 p2 p3 p4 q0 q1 q2 q3 q4 t0 t1 t2 t3 t4 t5 t6 hat
          go_wp2_with fail
          refine wp_region_quiet_below (by kernel_rfl) (by kernel_rfl) ?_
          repeat (go_big_quiet_step ((with_reducible (first | exact d1 _ _ | exact d2 _ _ | exact d3 _ _ | exact d4 _ _ | exact d5 _ _ | exact d6 _ _))))
          refine wpQuiet_nil ?_
          intro _ hw'
          obtain ⟨⟨dq, osq⟩, hw''⟩ := hw'
          subst hw''
          have hq := below_regrown wc dq osq
          replace hP1 := hP1.below hq
          replace hP2 := hP2.below hq
          replace hy1 := hy1.below hq
          replace hy2 := hy2.below hq
          replace hB := hB.trans (hq.mono hB.size)
          clear d1 d2 d3 d4 d5 d6 k0 k1 k2 k3 k4 j0 j1 j2 j3 j4 i1 i2 R1 R2
          generalize Sort.grow (redrawn wc dq) osq = W1 at *
          go_wp2_with fail
          exact ⟨⟨k + 1, V', z1, z2, by omega, by go_num, HI3.out.1, HI3.out.2, HZ.out.1, HZ.out.2, hP1, hy1, hP2, hy2, hB⟩, by simp [intOf]; omega⟩
    · have hI1 : PInv y1.v := by rw [hv1]; exact hPI
      have hI2 : PInv y2.v := by rw [hv2]; exact hPI
      have ho1 : y1.ops.length ≤ 60 := by have h : y1.ops = y1.v.ops := rfl; rw [h, hv1]; omega
      have ho2 : y2.ops.length ≤ 60 := by have h : y2.ops = y2.v.ops := rfl; rw [h, hv2]; omega
      have hb1 : y1.base.length ≤ 62 := tree_len hI1.tree
      have hb2 : y2.base.length ≤ 62 := tree_len hI2.tree
      have ht1 : i64 y1.t := by have h0 : 0 ≤ y1.t := hI1.t0; have h1 : y1.t ≤ 1099511627776 := hI1.t1; unfold i64; omega
      have ht2 : i64 y2.t := by have h0 : 0 ≤ y2.t := hI2.t0; have h1 : y2.t ≤ 1099511627776 := hI2.t1; unfold i64; omega
      obtain ⟨T, hTT⟩ : ∃ T, pastBytes P = T := ⟨_, rfl⟩
      have C1 := fun wx (h : PastOk wx y1) => pPrint_any y1 wx h (by omega) (by omega) (tree_fit hI1.tree) ht1 hI1.ok (tree_bytes hI1.tree)
      have C2 := fun wx (h : PastOk wx y2) => pastRefPrint_any y2 wx h (by omega) (by omega) (tree_fit hI2.tree) ht2 hI2.ok (tree_bytes hI2.tree)
      rw [hv1, hTT] at C1
      rw [hv2, hTT] at C2
      have HC1 := Lib.hid C1
      have HC2 := Lib.hid C2
      clear C1 C2 hTT hI1 hI2 ho1 ho2 hb1 hb2 ht1 ht2 hv1 hv2 hPI hPl
      go_wp2_with fail
      replace hP1 : pwE.In wr.drew n5 y1 := hP1
      replace hP2 : pwE.In wr.drew n6 y2 := hP2
      replace hy1 : PastOk wr.drew y1 := hy1.below (Below.refl _ _).drew
      replace hy2 : PastOk wr.drew y2 := hy2.below (Below.refl _ _).drew
      replace hB : Below w.heap.size w wr.drew := hB.drew
      go_region_held3 (fun w' => (w'.cell? ⟨n5, 0, none⟩ = some (.slice y1.bA y1.base.length y1.bc) ∧ w'.cell? ⟨n5, 1, none⟩ = some (.int .i64 y1.t) ∧ w'.cell? ⟨n5, 2, none⟩ = some (.slice y1.oA y1.ops.length y1.oc) ∧ w'.cell? ⟨n5, 3, none⟩ = some (.slice y1.uA y1.us.length y1.uc) ∧ w'.cell? ⟨n5, 4, none⟩ = some (.slice y1.wA y1.now.length y1.wc)) ∧ w'.cell? ⟨n6, 0, none⟩ = some (.slice y2.bA y2.base.length y2.bc) ∧ w'.cell? ⟨n6, 1, none⟩ = some (.int .i64 y2.t) ∧ w'.cell? ⟨n6, 2, none⟩ = some (.slice y2.oA y2.ops.length y2.oc) ∧ w'.cell? ⟨n6, 3, none⟩ = some (.slice y2.uA y2.us.length y2.uc) ∧ w'.cell? ⟨n6, 4, none⟩ = some (.slice y2.wA y2.now.length y2.wc)) (with_reducible exact ⟨pwIn5 hP1, pwIn5 hP2⟩) (first | (go_at_call 11; (with_reducible refine (awake_any _).mono ?_); rintro e w3 ⟨rfl, hb3⟩; have hP1 := hP1.below hb3; have hP2 := hP2.below hb3; have hy1 := hy1.below hb3; have hy2 := hy2.below hb3; have hB := hB.trans (hb3.mono hB.size)) | (go_at_call 22; (with_reducible refine (HC1.out _ hy1).mono ?_); rintro e w3 ⟨rfl, hb3⟩; have hP1 := hP1.below hb3; have hP2 := hP2.below hb3; have hy1 := hy1.below hb3; have hy2 := hy2.below hb3; have hB := hB.trans (hb3.mono hB.size)) | (go_at_call 23; (with_reducible refine (HC2.out _ hy2).mono ?_); rintro e w3 ⟨rfl, hb3⟩; have hP1 := hP1.below hb3; have hP2 := hP2.below hb3; have hy1 := hy1.below hb3; have hy2 := hy2.below hb3; have hB := hB.trans (hb3.mono hB.size)))
      go_wp2_with fail
      go_ret
      exact ⟨rfl, hB⟩

set_option maxRecDepth 100000 in
theorem plays_lifted (os : Os) (started : os.Started) (H : Type) (enc : TypeId × Value → H) :
    ReturnsInHanded {} Try.checked os 3 .any (Rows.pastPlaysSpec.pre6 enc Try.prog Try.f3 Rows.pastPlaysRow.domain false) (Rows.pastPlaysSpec.post enc Try.prog Try.f3 false true false false) := by
  refine returnsInHanded_of_change (C := Try.checked) own started (by kernel_rfl) Try.func3
    (ChangeSpec.witness6 (enc := enc) (C := Try.checked) false ⟨#[], #[.slice none 0 0, .slice none 0 0], []⟩ 8 (by kernel_rfl) (by kernel_rfl) (by kernel_rfl) (by kernel_rfl)) ?_
  intro W base args ds gs before hval0 hW _ _
  have hval : ∀ (j : Nat) t v, Try.f3.params[j]? = some t → args[j]? = some v → Value.okWide Try.prog W .any base t v := hval0
  have hW' := hW
  obtain ⟨p, q, hA0, hV, rfl, _, _⟩ := hW
  have hA : DataW.TrodAll enc Try.prog W 0 (fun _ => true) true Try.f3.params.toList args.toList ds p := hA0
  rw [Try.params3] at hA hval
  obtain ⟨v0, v1, d0, d1, p0, p1, rfl, rfl, rfl, h0, h1⟩ := trodAll_two hA
  obtain ⟨A, cap, l, rfl, hT, _, _, hw⟩ := open_ops (hval 0 22 v0 rfl rfl) h0
  obtain ⟨TA, tc, at_, rfl, hat0, _, _, hby⟩ := open_bytes (hval 1 23 v1 rfl rfl) h1
  have hc : Calls Try.prog 3 #[.slice A l.length cap, .slice TA at_.length tc] W fun e w' => e = .returned (.bool true) ∧ Below W.heap.size W w' := by
    by_cases hf : Fine l
    · exact plays_walk A cap l TA tc at_ W (opsz hw) hT hat0 hby hf
    · exact plays_no A cap l TA tc at_ W (opsz hw) hT hf
  refine hc.mono fun e W' ⟨he, hb⟩ => ?_
  subst he
  exact ⟨_, rfl, Frm.law_post (by kernel_rfl) (by kernel_rfl) (by kernel_rfl) Try.underlying4 rfl rfl hW' hb⟩

theorem plays_holds : Rows.PastPlaysSaid :=
  OpenClaim.holds_of_wide 3 Try.f3 rfl rfl rfl rfl rfl rfl rfl ⟨rfl, rfl, rfl, rfl, rfl⟩ rfl rfl rfl rfl rfl (by kernel_rfl) Try.func3 (by kernel_rfl)
    (of_decide_eq_true (by kernel_rfl)) (by unfold Func.isWrapper; first | (rw [if_pos (by decide +kernel)]; kernel_rfl) | (rw [if_neg (by decide +kernel)]; exact ⟨rfl, rfl⟩))
    (fun os started H enc _ => plays_lifted os started H enc)
end Go.Proofs.Ytoidondngoljaaa
