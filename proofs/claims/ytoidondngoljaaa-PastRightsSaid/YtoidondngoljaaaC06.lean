/- Texts laid one behind the other: Wt, Wu, Xc. -/
import Derived.Test.YtoidondngoljaaaC05
/- Of the law: grown. -/
namespace Go.Proofs.Ytoidondngoljaaa
open Go.RowKit Tre Cod Pst Nam

def byE : El Int where
  e := 5
  k := 1
  c x := [.int .u8 x]
  len _ := rfl
  one p u h := by
    simp only [List.mem_cons, List.not_mem_nil, or_false] at h
    subst h; rfl
  pos := by decide
def PoS (n : Nat) (y : Pw) (b o : Nat) (m : Mv) (w : World) : Prop := PaS n y w ∧ (w.cell? ⟨b, o, none⟩ = some (.int .i64 m.C) ∧ w.cell? ⟨b, o + 1, none⟩ = some (.int .i64 m.D) ∧ w.cell? ⟨b, o + 2, none⟩ = some (.int .i64 m.I) ∧ w.cell? ⟨b, o + 3, none⟩ = some (.int .i64 m.M) ∧ w.cell? ⟨b, o + 4, none⟩ = some (.int .i64 m.K) ∧ w.cell? ⟨b, o + 5, none⟩ = some (.int .i64 m.U) ∧ w.cell? ⟨b, o + 6, none⟩ = some (.string m.s))
/-- The past behind k operations. -/
def stG (l : List Mv) (at_ : List Int) : Nat → Pv
  | 0 => Pv.zero
  | k + 1 => match l[k]? with
    | none => stG l at_ k
    | some m => match at_[k]? with
      | none => (addV (stG l at_ k) m).1
      | some t => if t < 40 then settleV (addV (stG l at_ k) m).1 t else (addV (stG l at_ k) m).1
theorem stG_next {l : List Mv} {at_ : List Int} {k : Nat} {m : Mv} (h : k < l.length) (hm : l[k] = m) : stG l at_ (k + 1) = match at_[k]? with
      | none => (addV (stG l at_ k) m).1
      | some t => if t < 40 then settleV (addV (stG l at_ k) m).1 t else (addV (stG l at_ k) m).1 := by
  rw [stG, List.getElem?_eq_getElem h, hm]
theorem stG_inv {l : List Mv} (hl : ∀ m ∈ l, m.ok) (at_ : List Int) : ∀ k, PInv (stG l at_ k) ∧ (stG l at_ k).ops.length ≤ k
  | 0 => ⟨PInv.zero, Nat.le_refl _⟩
  | k + 1 => by
    obtain ⟨h1, h2⟩ := stG_inv hl at_ k
    by_cases hk : k < l.length
    · rw [stG_next hk rfl]
      have h3 := h1.add (hl l[k] (List.getElem_mem _))
      have h4 := addV_len (stG l at_ k) l[k]
      cases at_[k]? with
      | none => exact ⟨h3, by simp only; omega⟩
      | some t =>
        simp only
        by_cases ht : t < 40
        · rw [if_pos ht]
          have h5 := settleV_len (addV (stG l at_ k) l[k]).1 t
          exact ⟨h3.settle (by omega), by omega⟩
        · rw [if_neg ht]; exact ⟨h3, by omega⟩
    · rw [stG, List.getElem?_eq_none (by omega)]
      exact ⟨h1, by simp only; omega⟩
theorem addV_gt {q : Pv} {m : Mv} (h : (addV q m).2 = true) : q.t < m.C := by
  unfold addV at h
  split at h
  · cases h
  · omega


def PtS (n : Nat) (y : Pw) (b o : Nat) (t : Int) (w : World) : Prop := PaS n y w ∧ w.cell? ⟨b, o, none⟩ = some (.int .u8 t)
set_option maxRecDepth 100000 in
set_option maxHeartbeats 8000000 in
theorem grown_any (A : Option Addr) (c : Nat) (l : List Mv) (TA : Option Addr) (tc : Nat) (at_ : List Int) (w : World) (hl : l.length ≤ 60) (hok : ∀ m ∈ l, m.ok) (hT : opE.Sl w A l) (hat0 : byE.Sl w TA at_) (hby : ∀ t ∈ at_, 0 ≤ t ∧ t ≤ 255) :
    Calls Try.prog 25 #[.slice A l.length c, .slice TA at_.length tc] w fun e w' => ∃ y : Pw, e = .returned (.tuple #[.agg #[.slice y.bA y.base.length y.bc, .int .i64 y.t, .slice y.oA y.ops.length y.oc, .slice y.uA y.us.length y.uc, .slice y.wA y.now.length y.wc], .bool true]) ∧ PastOk w' y ∧ y.v = stG l at_ l.length ∧ Below w.heap.size w w' := by
  have hR : pwE.In ((w.alloc (.cells #[.slice none 0 0, .int .i64 0, .slice none 0 0, .slice none 0 0, .slice none 0 0] 29)).alloc (.cells #[.slice none 0 0, .int .i64 0, .slice none 0 0, .slice none 0 0, .slice none 0 0] 29)) w.heap.size Pw.zero := (El.In.new (E := pwE) w Pw.zero #[.slice none 0 0, .int .i64 0, .slice none 0 0, .slice none 0 0, .slice none 0 0] rfl).alloc _
  have hP : pwE.In ((w.alloc (.cells #[.slice none 0 0, .int .i64 0, .slice none 0 0, .slice none 0 0, .slice none 0 0] 29)).alloc (.cells #[.slice none 0 0, .int .i64 0, .slice none 0 0, .slice none 0 0, .slice none 0 0] 29)) (w.heap.size + 1) Pw.zero := by
    have h := El.In.new (E := pwE) (w.alloc (.cells #[.slice none 0 0, .int .i64 0, .slice none 0 0, .slice none 0 0, .slice none 0 0] 29)) Pw.zero #[.slice none 0 0, .int .i64 0, .slice none 0 0, .slice none 0 0, .slice none 0 0] rfl
    rw [alloc_size] at h; exact h
  have hB := below_alloc (below_alloc (Below.refl w.heap.size w) (.cells #[.slice none 0 0, .int .i64 0, .slice none 0 0, .slice none 0 0, .slice none 0 0] 29)) (.cells #[.slice none 0 0, .int .i64 0, .slice none 0 0, .slice none 0 0, .slice none 0 0] 29)
  go_enter Try.func25, Try.ntmps25
  go_wp2_with fail
  generalize ((w.alloc (.cells #[.slice none 0 0, .int .i64 0, .slice none 0 0, .slice none 0 0, .slice none 0 0] 29)).alloc (.cells #[.slice none 0 0, .int .i64 0, .slice none 0 0, .slice none 0 0, .slice none 0 0] 29)) = W0 at *
  obtain ⟨n6, h6⟩ : ∃ n, w.heap.size + 1 = n := ⟨_, rfl⟩
  rw [h6] at hP ⊢
  obtain ⟨n4, h4⟩ : ∃ n, w.heap.size = n := ⟨_, rfl⟩
  rw [h4] at hR ⊢
  have HN := Lib.hid (show w.heap.size ≤ n4 ∧ n6 = n4 + 1 by omega)
  have hn46 : n4 ≠ n6 := by omega
  clear h4 h6
  go_loopw [7] (fun yi wr => ∃ (k : Nat) (y : Pw), k ≤ l.length ∧ yi = .int .i64 k ∧ y.v = stG l at_ k ∧ pwE.In wr n6 y ∧ PastOk wr y ∧ pwE.In wr n4 Pw.zero ∧ Below w.heap.size w wr) (fun yi _ => l.length - (intOf yi).toNat)
  case atStart => exact ⟨0, Pw.zero, Nat.zero_le _, rfl, rfl, hP, PastOk.zero _, hR, hB⟩
  case round =>
    clear hP hR hB
    obtain ⟨k, y, hk, rfl, hyv, hP, hy, hR, hB⟩ := hrel
    by_cases hkl : k < l.length
    · obtain ⟨b, off, rfl, hbw, hc⟩ := hT (by omega)
      have hat : opE.At wr b (off + k * 7) l[k] := (hc k hkl).below hB hbw
      have hbW := Nat.lt_of_lt_of_le hbw hB.size
      have hmo := hok l[k] (List.getElem_mem _)
      have hnext := stG_next (at_ := at_) hkl rfl
      have hinv := (stG_inv hok at_ k).1
      have hinl := (stG_inv hok at_ k).2
      obtain ⟨m, hm⟩ : ∃ m, l[k] = m := ⟨_, rfl⟩
      rw [hm] at hat hmo hnext
      rw [← hyv] at hnext hinv hinl
      have hI2 := hinv.add hmo
      have hlen2 := addV_len y.v m
      obtain ⟨V, hV⟩ : ∃ V, (addV y.v m).1 = V := ⟨_, rfl⟩
      obtain ⟨bb, hbb⟩ : ∃ bb, (addV y.v m).2 = bb := ⟨_, rfl⟩
      have hgt : bb = true → y.t < m.C := fun h => addV_gt (by rw [hbb]; exact h)
      rw [hV] at hnext hI2 hlen2
      have HADD := Lib.hid (fun wx (h : PastOk wx y) => addc y m wx h rfl hinv (by omega) (show addV y.v m = (V, bb) by rw [← hV, ← hbb]))
      have HNX := Lib.hid hnext
      have HI2 := Lib.hid hI2
      have HL2 := Lib.hid (show V.ops.length ≤ 60 by omega)
      have HGT := Lib.hid hgt
      clear hnext hI2 hlen2 hgt hV hbb hinv hinl hc hm hmo
      go_wp2_with fail
      generalize wr = W at *
      apply wp_merge (fun z kk w' => z.v = V ∧ W.heap.size ≤ kk ∧ pwE.In w' kk z ∧ PastOk w' z ∧ Below W.heap.size W w')
      · have hn1 := hP.lt
        refine region_anyG (S := PoS n6 y b (off + k * 7) m) 10 (by kernel_rfl) ?_
        have hd : Below W.heap.size W W.drew := (Below.refl _ _).drew
        replace hP : pwE.In W.drew n6 y := hP
        replace hy : PastOk W.drew y := hy.below hd
        replace hat : opE.At W.drew b (off + k * 7) m := hat
        replace hbW : b < W.drew.heap.size := hbW
        generalize W.drew = V at *
        have hS : PoS n6 y b (off + k * 7) m V := ⟨pwIn5 hP, opAt hat⟩
        refine anyG_take (i := 0) (v := .agg #[.slice y.bA y.base.length y.bc, .int .i64 y.t, .slice y.oA y.ops.length y.oc, .slice y.uA y.us.length y.uc, .slice y.wA y.now.length y.wc]) rfl (by kernel_rfl) (by kernel_rfl) (by kernel_rfl) (by kernel_rfl) (by kernel_rfl) (fun _ _ _ h => h) (Or.inl ⟨by rfl, fun w' hSw => by (obtain ⟨⟨s0, s1, s2, s3, s4⟩, s5, s6, s7, s8, s9, s10, s11⟩ := hSw; go_simp)⟩) hS ?_
        try simp only [Act.put, List.setIfInBounds_toArray, List.set_cons_zero, List.set_cons_succ]
        refine anyG_take (i := 1) (v := .slice (some ⟨b, off, none⟩) l.length c) rfl (by kernel_rfl) (by kernel_rfl) (by kernel_rfl) (by kernel_rfl) (by kernel_rfl) (fun _ _ _ h => h) (Or.inl ⟨by rfl, fun w' hSw => by (obtain ⟨⟨s0, s1, s2, s3, s4⟩, s5, s6, s7, s8, s9, s10, s11⟩ := hSw; go_simp)⟩) hS ?_
        try simp only [Act.put, List.setIfInBounds_toArray, List.set_cons_zero, List.set_cons_succ]
        refine anyG_take (i := 2) (v := .int .i64 k) rfl (by kernel_rfl) (by kernel_rfl) (by kernel_rfl) (by kernel_rfl) (by kernel_rfl) (fun _ _ _ h => h) (Or.inl ⟨by rfl, fun w' hSw => by (obtain ⟨⟨s0, s1, s2, s3, s4⟩, s5, s6, s7, s8, s9, s10, s11⟩ := hSw; go_simp)⟩) hS ?_
        try simp only [Act.put, List.setIfInBounds_toArray, List.set_cons_zero, List.set_cons_succ]
        refine anyG_take (i := 3) (v := .pointer (some ⟨b, off + k * 7, none⟩)) rfl (by kernel_rfl) (by kernel_rfl) (by kernel_rfl) (by kernel_rfl) (by kernel_rfl) (fun _ _ _ h => h) (Or.inl ⟨by rfl, fun w' hSw => by (obtain ⟨⟨s0, s1, s2, s3, s4⟩, s5, s6, s7, s8, s9, s10, s11⟩ := hSw; go_simp)⟩) hS ?_
        try simp only [Act.put, List.setIfInBounds_toArray, List.set_cons_zero, List.set_cons_succ]
        refine anyG_take (i := 4) (v := .agg #[.int .i64 m.C, .int .i64 m.D, .int .i64 m.I, .int .i64 m.M, .int .i64 m.K, .int .i64 m.U, .string m.s]) rfl (by kernel_rfl) (by kernel_rfl) (by kernel_rfl) (by kernel_rfl) (by kernel_rfl) (fun _ _ _ h => h) (Or.inl ⟨by rfl, fun w' hSw => by (obtain ⟨⟨s0, s1, s2, s3, s4⟩, s5, s6, s7, s8, s9, s10, s11⟩ := hSw; go_simp)⟩) hS ?_
        try simp only [Act.put, List.setIfInBounds_toArray, List.set_cons_zero, List.set_cons_succ]
        have hda : Below W.heap.size W (V.alloc (.cells #[.slice none 0 0, .int .i64 0, .slice none 0 0, .slice none 0 0, .slice none 0 0] 29)) := hd.alloc hd.size (.cells #[.slice none 0 0, .int .i64 0, .slice none 0 0, .slice none 0 0, .slice none 0 0] 29)
        have hz : pwE.In (V.alloc (.cells #[.slice none 0 0, .int .i64 0, .slice none 0 0, .slice none 0 0, .slice none 0 0] 29)) V.heap.size Pw.zero := El.In.new (E := pwE) V Pw.zero #[.slice none 0 0, .int .i64 0, .slice none 0 0, .slice none 0 0, .slice none 0 0] rfl
        refine anyG_step (rs := [5, 9]) (by kernel_rfl) (by simp) ?_
        refine AllG.cons rfl (fun K hK => ?_) (AllG.cons rfl (fun K hK => ?_) AllG.nil)
        · skip
          go_simp
          refine (HADD.out V hy).mono ?_
          rintro e W6 ⟨z, rfl, hyz, hvz, hb6⟩
          have hP6 := hP.below hb6
          have hB6 := hd.trans (hb6.mono hd.size)
          have hat6 := hat.below hb6 hbW
          have hbl6 := Nat.lt_of_lt_of_le hbW hb6.size
          have hS6 : PoS n6 y b (off + k * 7) m W6 := ⟨pwIn5 hP6, opAt hat6⟩
          try go_wp2_with fail
          refine hK.out _ _ hS6 ?_
          try simp only [Act.put, List.setIfInBounds_toArray, List.set_cons_zero, List.set_cons_succ]
          clear hK hS
          have hS := hS6
          have hz6 : pwE.In (W6.alloc (.cells #[.slice none 0 0, .int .i64 0, .slice none 0 0, .slice none 0 0, .slice none 0 0] 29)) W6.heap.size Pw.zero := El.In.new (E := pwE) W6 Pw.zero #[.slice none 0 0, .int .i64 0, .slice none 0 0, .slice none 0 0, .slice none 0 0] rfl
          refine anyG_plain (i := 6) (v := .tuple #[.agg #[.slice z.bA z.base.length z.bc, .int .i64 z.t, .slice z.oA z.ops.length z.oc, .slice z.uA z.us.length z.uc, .slice z.wA z.now.length z.wc], .bool bb]) rfl (by kernel_rfl) (by kernel_rfl) (by kernel_rfl) (by kernel_rfl) (fun _ _ _ h => h) (Or.inl ⟨by rfl, fun w' => by go_simp⟩) (fun _ => hS) ?_
          try simp only [Act.put, List.setIfInBounds_toArray, List.set_cons_zero, List.set_cons_succ]
          refine anyG_plain (i := 7) (v := .agg #[.slice z.bA z.base.length z.bc, .int .i64 z.t, .slice z.oA z.ops.length z.oc, .slice z.uA z.us.length z.uc, .slice z.wA z.now.length z.wc]) rfl (by kernel_rfl) (by kernel_rfl) (by kernel_rfl) (by kernel_rfl) (fun _ _ _ h => h) (Or.inl ⟨by rfl, fun w' => by go_simp⟩) (fun _ => hS) ?_
          try simp only [Act.put, List.setIfInBounds_toArray, List.set_cons_zero, List.set_cons_succ]
          refine anyG_plain (i := 8) (v := .bool bb) rfl (by kernel_rfl) (by kernel_rfl) (by kernel_rfl) (by kernel_rfl) (fun _ _ _ h => h) (Or.inl ⟨by rfl, fun w' => by go_simp⟩) (fun _ => hS) ?_
          try simp only [Act.put, List.setIfInBounds_toArray, List.set_cons_zero, List.set_cons_succ]
          refine anyG_step (rs := [9]) (by kernel_rfl) (by simp) ?_
          refine AllG.cons rfl (fun K hK => ?_) AllG.nil
          have hata := hat6.below (below_alloc (Below.refl W6.heap.size W6) (.cells #[.slice none 0 0, .int .i64 0, .slice none 0 0, .slice none 0 0, .slice none 0 0] 29)) hbl6
          have hSa : PoS n6 y b (off + k * 7) m (W6.alloc (.cells #[.slice none 0 0, .int .i64 0, .slice none 0 0, .slice none 0 0, .slice none 0 0] 29)) := ⟨pwIn5 (hP6.alloc (.cells #[.slice none 0 0, .int .i64 0, .slice none 0 0, .slice none 0 0, .slice none 0 0] 29)), opAt hata⟩
          go_simp
          refine hK.out _ _ hSa ?_
          try simp only [Act.put, List.setIfInBounds_toArray, List.set_cons_zero, List.set_cons_succ]
          clear hK hS
          have hS := hSa
          have hyz' := hyz.below (below_alloc (Below.refl W6.heap.size W6) (.cells #[.slice none 0 0, .int .i64 0, .slice none 0 0, .slice none 0 0, .slice none 0 0] 29))
          have hBz := hB6.alloc hB6.size (.cells #[.slice none 0 0, .int .i64 0, .slice none 0 0, .slice none 0 0, .slice none 0 0] 29)
          have hkW : W.heap.size ≤ W6.heap.size := hB6.size
          generalize W6.alloc (.cells #[.slice none 0 0, .int .i64 0, .slice none 0 0, .slice none 0 0, .slice none 0 0] 29) = W7 at *
          generalize W6.heap.size = nA at *
          refine anyG_step (rs := [10]) (by kernel_rfl) (by simp) ?_
          refine AllG.last (n := 10) rfl (fun K hK => ?_)
          refine El.step_store pwRow rfl _ _ rfl nA z #[.slice z.bA z.base.length z.bc, .int .i64 z.t, .slice z.oA z.ops.length z.oc, .slice z.uA z.us.length z.uc, .slice z.wA z.now.length z.wc] rfl rfl rfl Pw.zero hz6 ?_
          refine hK.out _ _ ?_
          try simp only [Act.put, List.setIfInBounds_toArray, List.set_cons_zero, List.set_cons_succ]
          clear hK hS
          refine anyG_plain_after (i := 11) (v := .bool bb) rfl (by kernel_rfl) (by kernel_rfl) (by kernel_rfl) (by kernel_rfl) (fun _ _ _ h => h) (Or.inl ⟨by rfl, fun w' => by go_simp⟩) (by kernel_rfl) ?_
          try simp only [Act.put, List.setIfInBounds_toArray, List.set_cons_zero, List.set_cons_succ]
          refine anyG_done (by kernel_rfl) ?_ _
          have hPz := (hz6).set z #[.slice z.bA z.base.length z.bc, .int .i64 z.t, .slice z.oA z.ops.length z.oc, .slice z.uA z.us.length z.uc, .slice z.wA z.now.length z.wc] rfl
          exact ⟨z, nA, rfl, hvz, hkW, hPz, hyz'.off hz6 (by_row _ _ _), below_setRow hBz hkW _⟩
        · skip
          have hata := hat.below (below_alloc (Below.refl V.heap.size V) (.cells #[.slice none 0 0, .int .i64 0, .slice none 0 0, .slice none 0 0, .slice none 0 0] 29)) hbW
          have hSa : PoS n6 y b (off + k * 7) m (V.alloc (.cells #[.slice none 0 0, .int .i64 0, .slice none 0 0, .slice none 0 0, .slice none 0 0] 29)) := ⟨pwIn5 (hP.alloc (.cells #[.slice none 0 0, .int .i64 0, .slice none 0 0, .slice none 0 0, .slice none 0 0] 29)), opAt hata⟩
          go_simp
          refine hK.out _ _ hSa ?_
          try simp only [Act.put, List.setIfInBounds_toArray, List.set_cons_zero, List.set_cons_succ]
          clear hK hS
          have hS := hSa
          have hya := hy.below (below_alloc (Below.refl V.heap.size V) (.cells #[.slice none 0 0, .int .i64 0, .slice none 0 0, .slice none 0 0, .slice none 0 0] 29))
          have hPa := hP.alloc (.cells #[.slice none 0 0, .int .i64 0, .slice none 0 0, .slice none 0 0, .slice none 0 0] 29)
          have hbWa : b < (V.alloc (.cells #[.slice none 0 0, .int .i64 0, .slice none 0 0, .slice none 0 0, .slice none 0 0] 29)).heap.size := by rw [alloc_size]; omega
          have hkW : W.heap.size ≤ V.heap.size := hd.size
          generalize V.alloc (.cells #[.slice none 0 0, .int .i64 0, .slice none 0 0, .slice none 0 0, .slice none 0 0] 29) = V7 at *
          generalize V.heap.size = nA at *
          refine anyG_step (rs := [5]) (by kernel_rfl) (by simp) ?_
          refine AllG.cons rfl (fun K hK => ?_) AllG.nil
          go_simp
          refine (HADD.out V7 hya).mono ?_
          rintro e W6 ⟨z, rfl, hyz, hvz, hb6⟩
          have hP6 := hPa.below hb6
          have hB6 := hda.trans (hb6.mono hda.size)
          have hat6 := hata.below hb6 hbWa
          have hbl6 := Nat.lt_of_lt_of_le hbWa hb6.size
          have hS6 : PoS n6 y b (off + k * 7) m W6 := ⟨pwIn5 hP6, opAt hat6⟩
          try go_wp2_with fail
          refine hK.out _ _ hS6 ?_
          try simp only [Act.put, List.setIfInBounds_toArray, List.set_cons_zero, List.set_cons_succ]
          clear hK hS
          have hS := hS6
          have hz6 := hz.below hb6
          refine anyG_plain (i := 6) (v := .tuple #[.agg #[.slice z.bA z.base.length z.bc, .int .i64 z.t, .slice z.oA z.ops.length z.oc, .slice z.uA z.us.length z.uc, .slice z.wA z.now.length z.wc], .bool bb]) rfl (by kernel_rfl) (by kernel_rfl) (by kernel_rfl) (by kernel_rfl) (fun _ _ _ h => h) (Or.inl ⟨by rfl, fun w' => by go_simp⟩) (fun _ => hS) ?_
          try simp only [Act.put, List.setIfInBounds_toArray, List.set_cons_zero, List.set_cons_succ]
          refine anyG_plain (i := 7) (v := .agg #[.slice z.bA z.base.length z.bc, .int .i64 z.t, .slice z.oA z.ops.length z.oc, .slice z.uA z.us.length z.uc, .slice z.wA z.now.length z.wc]) rfl (by kernel_rfl) (by kernel_rfl) (by kernel_rfl) (by kernel_rfl) (fun _ _ _ h => h) (Or.inl ⟨by rfl, fun w' => by go_simp⟩) (fun _ => hS) ?_
          try simp only [Act.put, List.setIfInBounds_toArray, List.set_cons_zero, List.set_cons_succ]
          refine anyG_plain (i := 8) (v := .bool bb) rfl (by kernel_rfl) (by kernel_rfl) (by kernel_rfl) (by kernel_rfl) (fun _ _ _ h => h) (Or.inl ⟨by rfl, fun w' => by go_simp⟩) (fun _ => hS) ?_
          try simp only [Act.put, List.setIfInBounds_toArray, List.set_cons_zero, List.set_cons_succ]
          refine anyG_step (rs := [10]) (by kernel_rfl) (by simp) ?_
          refine AllG.last (n := 10) rfl (fun K hK => ?_)
          refine El.step_store pwRow rfl _ _ rfl nA z #[.slice z.bA z.base.length z.bc, .int .i64 z.t, .slice z.oA z.ops.length z.oc, .slice z.uA z.us.length z.uc, .slice z.wA z.now.length z.wc] rfl rfl rfl Pw.zero hz6 ?_
          refine hK.out _ _ ?_
          try simp only [Act.put, List.setIfInBounds_toArray, List.set_cons_zero, List.set_cons_succ]
          clear hK hS
          refine anyG_plain_after (i := 11) (v := .bool bb) rfl (by kernel_rfl) (by kernel_rfl) (by kernel_rfl) (by kernel_rfl) (fun _ _ _ h => h) (Or.inl ⟨by rfl, fun w' => by go_simp⟩) (by kernel_rfl) ?_
          try simp only [Act.put, List.setIfInBounds_toArray, List.set_cons_zero, List.set_cons_succ]
          refine anyG_done (by kernel_rfl) ?_ _
          have hPz := (hz6).set z #[.slice z.bA z.base.length z.bc, .int .i64 z.t, .slice z.oA z.ops.length z.oc, .slice z.uA z.us.length z.uc, .slice z.wA z.now.length z.wc] rfl
          exact ⟨z, nA, rfl, hvz, hkW, hPz, hyz.off hz6 (by_row _ _ _), below_setRow hB6 hkW _⟩
      rintro z nz w' ⟨hvz, hnz, hPz, hyz, hbz⟩
      replace hP := hP.below hbz
      replace hR := hR.below hbz
      replace hB := hB.trans (hbz.mono hB.size)
      replace hat := hat.below hbz hbW
      have hbz2 := hbz
      clear hbz hy
      obtain ⟨t0, t1, t2, t3, t4, t5, t6⟩ := opAt hat
      have p1 := (pwIn5 hP).2.1
      clear t1 t2 t3 t4 t5 t6
      have hcases : (bb = true ∧ decide (y.t < m.C) = true) ∨ (bb = false ∧ decide (y.t < m.C) = true) ∨ (bb = false ∧ decide (y.t < m.C) = false) := by
        cases bb
        · by_cases h : y.t < m.C
          · exact Or.inr (Or.inl ⟨rfl, decide_eq_true h⟩)
          · exact Or.inr (Or.inr ⟨rfl, decide_eq_false h⟩)
        · exact Or.inl ⟨rfl, decide_eq_true (HGT.out rfl)⟩
      by_cases hka : k < at_.length
      · obtain ⟨tb, toff, rfl, htb, htc⟩ := hat0 (by omega)
        have hbt := hby at_[k] (List.getElem_mem _)
        have htat : byE.At w' tb (toff + k * 1) at_[k] := (htc k hka).below hB htb
        have htc0 : w'.cell? ⟨tb, toff + k, none⟩ = some (.int .u8 at_[k]) := by have h := htat 0 _ rfl; rw [Nat.mul_one] at h; exact h
        have hsome : at_[k]? = some at_[k] := List.getElem?_eq_getElem hka
        have hn6t : tb ≠ n6 := by
          intro e; subst e
          have h1 := hP.cell (toff + k)
          rw [htc0] at h1
          have := htb
          have := HN.out
          omega
        obtain ⟨s, hs⟩ : ∃ s, at_[k] = s := ⟨_, rfl⟩
        rw [hs] at htc0 hbt hsome
        have htc9 : ∀ q, ((w'.drewN q).setRow n6 #[.slice z.bA z.base.length z.bc, .int .i64 z.t, .slice z.oA z.ops.length z.oc, .slice z.uA z.us.length z.uc, .slice z.wA z.now.length z.wc]).cell? ⟨tb, toff + k, none⟩ = some (.int .u8 s) := fun q => (by_row (w'.drewN q) n6 #[.slice z.bA z.base.length z.bc, .int .i64 z.t, .slice z.oA z.ops.length z.oc, .slice z.uA z.us.length z.uc, .slice z.wA z.now.length z.wc]).cell htc0 (fun e => hn6t (Option.some.inj e))
        clear htc htat hs HADD
        have hwr : IntKind.i64.wrap s = s := IntWalk.i64_in _ (by omega)
        by_cases hs40 : s < 40
        · have HNX2 := Lib.hid (show stG l at_ (k + 1) = settleV V s by rw [HNX.out, hsome]; exact if_pos hs40)
          clear hsome
          have hd40 : decide (s < 40) = true := decide_eq_true hs40
          rcases hcases with ⟨rfl, hlt⟩ | ⟨rfl, hlt⟩ | ⟨rfl, hlt⟩
          all_goals
            go_wp2_with fail
            go_quiet (fail)
            go_wp2_with (first | (refine El.load pwRow rfl _ rfl nz 0 rfl z hPz.at #[.slice z.bA z.base.length z.bc, .int .i64 z.t, .slice z.oA z.ops.length z.oc, .slice z.uA z.us.length z.uc, .slice z.wA z.now.length z.wc] rfl ?_) | (refine El.store pwRow rfl _ _ rfl n6 z #[.slice z.bA z.base.length z.bc, .int .i64 z.t, .slice z.oA z.ops.length z.oc, .slice z.uA z.us.length z.uc, .slice z.wA z.now.length z.wc] rfl rfl rfl y hP ?_) | fail)
            have hdr := below_drew (Below.refl w'.heap.size w') nq
            have hPd := hP.below hdr
            have hP8 := hPd.set z #[.slice z.bA z.base.length z.bc, .int .i64 z.t, .slice z.oA z.ops.length z.oc, .slice z.uA z.us.length z.uc, .slice z.wA z.now.length z.wc] rfl
            have hy8 := (hyz.below hdr).off hPd (by_row (w'.drewN nq) n6 #[.slice z.bA z.base.length z.bc, .int .i64 z.t, .slice z.oA z.ops.length z.oc, .slice z.uA z.us.length z.uc, .slice z.wA z.now.length z.wc])
            have hR8 := (hR.below hdr).rowN n6 #[.slice z.bA z.base.length z.bc, .int .i64 z.t, .slice z.oA z.ops.length z.oc, .slice z.uA z.us.length z.uc, .slice z.wA z.now.length z.wc] hn46
            have hB8 := below_setRow (hB.trans (hdr.mono hB.size)) (show w.heap.size ≤ n6 by have := HN.out; omega) #[.slice z.bA z.base.length z.bc, .int .i64 z.t, .slice z.oA z.ops.length z.oc, .slice z.uA z.us.length z.uc, .slice z.wA z.now.length z.wc]
            have htc8 := htc9 nq
            clear htc9
            generalize (w'.drewN nq).setRow n6 #[.slice z.bA z.base.length z.bc, .int .i64 z.t, .slice z.oA z.ops.length z.oc, .slice z.uA z.us.length z.uc, .slice z.wA z.now.length z.wc] = W8 at *
            refine region_anyG (S := PtS n6 z tb (toff + k) s) 7 (by kernel_rfl) ?_
            replace hP8 : pwE.In W8.drew n6 z := hP8
            replace hR8 : pwE.In W8.drew n4 Pw.zero := hR8
            replace hy8 : PastOk W8.drew z := hy8.below (Below.refl _ _).drew
            replace htc8 : W8.drew.cell? ⟨tb, toff + k, none⟩ = some (.int .u8 s) := htc8
            replace hB8 := hB8.drew
            generalize W8.drew = V8 at *
            have hS : PtS n6 z tb (toff + k) s V8 := ⟨pwIn5 hP8, htc8⟩
            refine anyG_take (i := 0) (v := .agg #[.slice z.bA z.base.length z.bc, .int .i64 z.t, .slice z.oA z.ops.length z.oc, .slice z.uA z.us.length z.uc, .slice z.wA z.now.length z.wc]) rfl (by kernel_rfl) (by kernel_rfl) (by kernel_rfl) (by kernel_rfl) (by kernel_rfl) (fun _ _ _ h => h) (Or.inl ⟨by rfl, fun w' hSw => by (obtain ⟨⟨s0, s1, s2, s3, s4⟩, s5⟩ := hSw; go_simp)⟩) hS ?_
            try simp only [Act.put, List.setIfInBounds_toArray, List.set_cons_zero, List.set_cons_succ]
            refine anyG_take (i := 1) (v := .slice (some ⟨tb, toff, none⟩) at_.length tc) rfl (by kernel_rfl) (by kernel_rfl) (by kernel_rfl) (by kernel_rfl) (by kernel_rfl) (fun _ _ _ h => h) (Or.inl ⟨by rfl, fun w' hSw => by (obtain ⟨⟨s0, s1, s2, s3, s4⟩, s5⟩ := hSw; go_simp)⟩) hS ?_
            try simp only [Act.put, List.setIfInBounds_toArray, List.set_cons_zero, List.set_cons_succ]
            refine anyG_take (i := 2) (v := .int .i64 k) rfl (by kernel_rfl) (by kernel_rfl) (by kernel_rfl) (by kernel_rfl) (by kernel_rfl) (fun _ _ _ h => h) (Or.inl ⟨by rfl, fun w' hSw => by (obtain ⟨⟨s0, s1, s2, s3, s4⟩, s5⟩ := hSw; go_simp)⟩) hS ?_
            try simp only [Act.put, List.setIfInBounds_toArray, List.set_cons_zero, List.set_cons_succ]
            refine anyG_take (i := 3) (v := .pointer (some ⟨tb, toff + k, none⟩)) rfl (by kernel_rfl) (by kernel_rfl) (by kernel_rfl) (by kernel_rfl) (by kernel_rfl) (fun _ _ _ h => h) (Or.inl ⟨by rfl, fun w' hSw => by (obtain ⟨⟨s0, s1, s2, s3, s4⟩, s5⟩ := hSw; go_simp)⟩) hS ?_
            try simp only [Act.put, List.setIfInBounds_toArray, List.set_cons_zero, List.set_cons_succ]
            refine anyG_take (i := 4) (v := .int .u8 s) rfl (by kernel_rfl) (by kernel_rfl) (by kernel_rfl) (by kernel_rfl) (by kernel_rfl) (fun _ _ _ h => h) (Or.inl ⟨by rfl, fun w' hSw => by (obtain ⟨⟨s0, s1, s2, s3, s4⟩, s5⟩ := hSw; go_simp)⟩) hS ?_
            try simp only [Act.put, List.setIfInBounds_toArray, List.set_cons_zero, List.set_cons_succ]
            refine anyG_take (i := 5) (v := .int .i64 s) rfl (by kernel_rfl) (by kernel_rfl) (by kernel_rfl) (by kernel_rfl) (by kernel_rfl) (fun _ _ _ h => h) (Or.inl ⟨by rfl, fun w' hSw => by (obtain ⟨⟨s0, s1, s2, s3, s4⟩, s5⟩ := hSw; go_simp)⟩) hS ?_
            try simp only [Act.put, List.setIfInBounds_toArray, List.set_cons_zero, List.set_cons_succ]
            refine anyG_step (rs := [6]) (by kernel_rfl) (by simp) ?_
            refine AllG.cons rfl (fun K hK => ?_) AllG.nil
            go_simp
            refine (settlec z s V8 hy8 hvz HI2.out (by have := HL2.out; omega) rfl).mono ?_
            rintro e W9 ⟨z2, rfl, hy9, hv9, hb9⟩
            have hP9 := hP8.below hb9
            have hR9 := hR8.below hb9
            have hB9 := hB8.trans (hb9.mono hB8.size)
            have htl9 : tb < V8.heap.size := by have := hB8.size; omega
            have htc9 : W9.cell? ⟨tb, toff + k, none⟩ = some (.int .u8 s) := by rw [(bcell hb9).1 _ _ htl9]; exact htc8
            have hS9 : PtS n6 z tb (toff + k) s W9 := ⟨pwIn5 hP9, htc9⟩
            try go_wp2_with fail
            refine hK.out _ _ hS9 ?_
            try simp only [Act.put, List.setIfInBounds_toArray, List.set_cons_zero, List.set_cons_succ]
            clear hK hS
            have hS := hS9
            refine anyG_step (rs := [7]) (by kernel_rfl) (by simp) ?_
            refine AllG.last (n := 7) rfl (fun K hK => ?_)
            refine El.step_store pwRow rfl _ _ rfl n6 z2 #[.slice z2.bA z2.base.length z2.bc, .int .i64 z2.t, .slice z2.oA z2.ops.length z2.oc, .slice z2.uA z2.us.length z2.uc, .slice z2.wA z2.now.length z2.wc] rfl rfl rfl z hP9 ?_
            refine hK.out _ _ ?_
            try simp only [Act.put, List.setIfInBounds_toArray, List.set_cons_zero, List.set_cons_succ]
            clear hK hS
            refine anyG_done (by kernel_rfl) ?_ _
            have hPz := hP9.set z2 #[.slice z2.bA z2.base.length z2.bc, .int .i64 z2.t, .slice z2.oA z2.ops.length z2.oc, .slice z2.uA z2.us.length z2.uc, .slice z2.wA z2.now.length z2.wc] rfl
            have hyz2 := hy9.off hP9 (by_row W9 n6 #[.slice z2.bA z2.base.length z2.bc, .int .i64 z2.t, .slice z2.oA z2.ops.length z2.oc, .slice z2.uA z2.us.length z2.uc, .slice z2.wA z2.now.length z2.wc])
            have hRz := hR9.rowN n6 #[.slice z2.bA z2.base.length z2.bc, .int .i64 z2.t, .slice z2.oA z2.ops.length z2.oc, .slice z2.uA z2.us.length z2.uc, .slice z2.wA z2.now.length z2.wc] hn46
            have hBz := below_setRow hB9 (show w.heap.size ≤ n6 by have := HN.out; omega) #[.slice z2.bA z2.base.length z2.bc, .int .i64 z2.t, .slice z2.oA z2.ops.length z2.oc, .slice z2.uA z2.us.length z2.uc, .slice z2.wA z2.now.length z2.wc]
            go_wp2_with fail
            exact ⟨⟨k + 1, z2, by omega, by go_num, by rw [HNX2.out]; exact hv9, hPz, hyz2, hRz, hBz⟩, by simp [intOf]; omega⟩
        · have HNX2 := Lib.hid (show stG l at_ (k + 1) = V by rw [HNX.out, hsome]; exact if_neg hs40)
          clear hsome
          have hd40 : decide (s < 40) = false := decide_eq_false hs40
          rcases hcases with ⟨rfl, hlt⟩ | ⟨rfl, hlt⟩ | ⟨rfl, hlt⟩
          all_goals
            go_wp2_with fail
            go_quiet (fail)
            go_wp2_with (first | (refine El.load pwRow rfl _ rfl nz 0 rfl z hPz.at #[.slice z.bA z.base.length z.bc, .int .i64 z.t, .slice z.oA z.ops.length z.oc, .slice z.uA z.us.length z.uc, .slice z.wA z.now.length z.wc] rfl ?_) | (refine El.store pwRow rfl _ _ rfl n6 z #[.slice z.bA z.base.length z.bc, .int .i64 z.t, .slice z.oA z.ops.length z.oc, .slice z.uA z.us.length z.uc, .slice z.wA z.now.length z.wc] rfl rfl rfl y hP ?_) | fail)
            have hdr := below_drew (Below.refl w'.heap.size w') nq
            have hPd := hP.below hdr
            have hP8 := hPd.set z #[.slice z.bA z.base.length z.bc, .int .i64 z.t, .slice z.oA z.ops.length z.oc, .slice z.uA z.us.length z.uc, .slice z.wA z.now.length z.wc] rfl
            have hy8 := (hyz.below hdr).off hPd (by_row (w'.drewN nq) n6 #[.slice z.bA z.base.length z.bc, .int .i64 z.t, .slice z.oA z.ops.length z.oc, .slice z.uA z.us.length z.uc, .slice z.wA z.now.length z.wc])
            have hR8 := (hR.below hdr).rowN n6 #[.slice z.bA z.base.length z.bc, .int .i64 z.t, .slice z.oA z.ops.length z.oc, .slice z.uA z.us.length z.uc, .slice z.wA z.now.length z.wc] hn46
            have hB8 := below_setRow (hB.trans (hdr.mono hB.size)) (show w.heap.size ≤ n6 by have := HN.out; omega) #[.slice z.bA z.base.length z.bc, .int .i64 z.t, .slice z.oA z.ops.length z.oc, .slice z.uA z.us.length z.uc, .slice z.wA z.now.length z.wc]
            exact ⟨⟨k + 1, z, by omega, by go_num, by rw [HNX2.out]; exact hvz, hP8, hy8, hR8, hB8⟩, by simp [intOf]; omega⟩
      · have hnone : at_[k]? = none := List.getElem?_eq_none (by omega)
        have HNX2 := Lib.hid (show stG l at_ (k + 1) = V by rw [HNX.out, hnone])
        clear hnone HADD
        rcases hcases with ⟨rfl, hlt⟩ | ⟨rfl, hlt⟩ | ⟨rfl, hlt⟩
        all_goals
          go_wp2_with fail
          go_quiet (fail)
          go_wp2_with (first | (refine El.load pwRow rfl _ rfl nz 0 rfl z hPz.at #[.slice z.bA z.base.length z.bc, .int .i64 z.t, .slice z.oA z.ops.length z.oc, .slice z.uA z.us.length z.uc, .slice z.wA z.now.length z.wc] rfl ?_) | (refine El.store pwRow rfl _ _ rfl n6 z #[.slice z.bA z.base.length z.bc, .int .i64 z.t, .slice z.oA z.ops.length z.oc, .slice z.uA z.us.length z.uc, .slice z.wA z.now.length z.wc] rfl rfl rfl y hP ?_) | fail)
          have hdr := below_drew (Below.refl w'.heap.size w') nq
          have hPd := hP.below hdr
          have hP8 := hPd.set z #[.slice z.bA z.base.length z.bc, .int .i64 z.t, .slice z.oA z.ops.length z.oc, .slice z.uA z.us.length z.uc, .slice z.wA z.now.length z.wc] rfl
          have hy8 := (hyz.below hdr).off hPd (by_row (w'.drewN nq) n6 #[.slice z.bA z.base.length z.bc, .int .i64 z.t, .slice z.oA z.ops.length z.oc, .slice z.uA z.us.length z.uc, .slice z.wA z.now.length z.wc])
          have hR8 := (hR.below hdr).rowN n6 #[.slice z.bA z.base.length z.bc, .int .i64 z.t, .slice z.oA z.ops.length z.oc, .slice z.uA z.us.length z.uc, .slice z.wA z.now.length z.wc] hn46
          have hB8 := below_setRow (hB.trans (hdr.mono hB.size)) (show w.heap.size ≤ n6 by have := HN.out; omega) #[.slice z.bA z.base.length z.bc, .int .i64 z.t, .slice z.oA z.ops.length z.oc, .slice z.uA z.us.length z.uc, .slice z.wA z.now.length z.wc]
          exact ⟨⟨k + 1, z, by omega, by go_num, by rw [HNX2.out]; exact hvz, hP8, hy8, hR8, hB8⟩, by simp [intOf]; omega⟩
    · obtain rfl : k = l.length := by omega
      go_wp2_with (first | (refine El.load pwRow rfl _ rfl n6 0 rfl y hP.at #[.slice y.bA y.base.length y.bc, .int .i64 y.t, .slice y.oA y.ops.length y.oc, .slice y.uA y.us.length y.uc, .slice y.wA y.now.length y.wc] rfl ?_) | (refine El.store pwRow rfl _ _ rfl n4 y #[.slice y.bA y.base.length y.bc, .int .i64 y.t, .slice y.oA y.ops.length y.oc, .slice y.uA y.us.length y.uc, .slice y.wA y.now.length y.wc] rfl rfl rfl Pw.zero hR ?_))
      refine El.ret2 pwRow (v := .bool true) (hR.set y #[.slice y.bA y.base.length y.bc, .int .i64 y.t, .slice y.oA y.ops.length y.oc, .slice y.uA y.us.length y.uc, .slice y.wA y.now.length y.wc] rfl) rfl rfl rfl rfl #[.slice y.bA y.base.length y.bc, .int .i64 y.t, .slice y.oA y.ops.length y.oc, .slice y.uA y.us.length y.uc, .slice y.wA y.now.length y.wc] rfl ?_
      exact ⟨y, rfl, hy.off hR (by_row _ _ _), hyv, below_setRow hB HN.out.1 _⟩
end Go.Proofs.Ytoidondngoljaaa

/- Slices among the arguments, opened. -/
namespace Go.Proofs.Ytoidondngoljaaa
open Go.ChangeShapes Go.WideShapes Go.ChangeAt Go.RowKit Go.Deep Nam Cod Tre Pst

set_option maxRecDepth 100000 in
theorem open_list {α : Type} (E : El α) (Q : α → Prop) {st : TypeId} (hu : Try.prog.underlying st = some (.slice E.e)) (hk : Try.prog.cellsOf E.e = E.k) [Inhabited α] {H : Type} {enc : TypeId × Value → H} {W : World} {base : Nat} {v : Value} {d : DataW H} {ps : List MemPlace}
    (hrd : ∀ {base : Nat} {sp : Nat → Bool} {held : Bool} {fuel : Nat} {cs : List Value} {x : DataW H × List MemPlace}, DataW.trod enc Try.prog W base sp held fuel E.e cs = some x → ∃ a, cs = E.c a ∧ Q a)
    (hv : Value.okWide Try.prog W .any base st v) (h : DataW.Trod enc Try.prog W 0 (fun _ => true) true st v d ps) :
    ∃ (A : Option Addr) (cap : Nat) (l : List α), v = .slice A l.length cap ∧ E.Sl W A l ∧ l.length ≤ cap ∧ (A = none → cap = 0) ∧ ∀ p ∈ l, Q p := by
  obtain ⟨a0, len, cap, rfl, _⟩ := okWide_slice hu hv
  obtain ⟨fuel, hf⟩ := h
  rcases open_slice hu hf with ⟨hcs, hx⟩ | ⟨a, len', cap', m, n, D, Pls, hcs, _, hle, hm, hmm, hx, hi⟩
  · simp [Value.cells] at hcs
    obtain ⟨rfl, rfl, rfl⟩ := hcs
    exact ⟨none, 0, [], rfl, El.Sl.nil W none, Nat.le_refl _, fun _ => rfl, fun p hp => by cases hp⟩
  · simp [Value.cells] at hcs
    obtain ⟨rfl, rfl, rfl⟩ := hcs
    simp only [if_true] at hmm
    have hv : ∀ i, i < m → ∃ p : α, Q p ∧ W.cells? 0 (a.add (i * E.k)) E.k = some (E.c p) := by
      intro i him
      obtain ⟨cs', h1, h2⟩ := hi i him
      rw [hk] at h1
      obtain ⟨p, rfl, hw⟩ := hrd h2
      exact ⟨p, hw, h1⟩
    obtain ⟨f, hf2⟩ := choose_lt hv
    have hlen : ((List.range len).map f).length = len := by simp
    refine ⟨some a, cap, (List.range len).map f, by rw [hlen], fun h => ?_, by rw [hlen]; exact hle, (fun e => by cases e), fun p hp => ?_⟩
    · rw [hlen] at h
      obtain ⟨bb, off, spot⟩ := a
      have cell : ∀ i, i < len → ∀ j v, (E.c (f i))[j]? = some v → W.cell? (((⟨bb, off, spot⟩ : Addr).add (i * E.k)).add j) = some v := by
        intro i hil j v hv
        obtain ⟨_, _, hcell⟩ := World.cells?_some (hf2 i (by omega)).2
        have hj : j < E.k := by have := (List.getElem?_eq_some_iff.1 hv).1; rw [E.len] at this; exact this
        have := hcell j hj
        rw [this]; exact hv
      have h00 : ∃ v, (E.c (f 0))[0]? = some v := ⟨(E.c (f 0))[0]'(by rw [E.len]; exact E.pos), List.getElem?_eq_getElem _⟩
      obtain ⟨v0, hv0⟩ := h00
      have hspot : spot = none := by
        have := cell 0 h 0 _ hv0
        simpa [Addr.add] using World.cell?_spot this
      subst hspot
      refine ⟨bb, off, rfl, (by have h9 := block_lt_of_cell (cell 0 h 0 _ hv0); rw [add_plain, add_plain] at h9; exact h9), fun i hil => ?_⟩
      have hil' : i < len := by rw [hlen] at hil; exact hil
      have he : ((List.range len).map f)[i] = f i := by simp
      rw [he]
      intro j u hu
      have := cell i hil' j u hu
      rwa [add_plain, add_plain] at this
    · obtain ⟨i, hi2, rfl⟩ := List.mem_map.1 hp
      exact (hf2 i (by have := List.mem_range.1 hi2; omega)).1

def WideMv (m : Mv) : Prop := Wide m.C m.D m.I m.M m.K m.U ∧ m.s.size ≤ maxLen
set_option maxRecDepth 100000 in
theorem open_ops {H : Type} {enc : TypeId × Value → H} {W : World} {base : Nat} {v : Value} {d : DataW H} {ps : List MemPlace}
    (hv : Value.okWide Try.prog W .any base 22 v) (h : DataW.Trod enc Try.prog W 0 (fun _ => true) true 22 v d ps) :
    ∃ (A : Option Addr) (cap : Nat) (l : List Mv), v = .slice A l.length cap ∧ opE.Sl W A l ∧ l.length ≤ cap ∧ (A = none → cap = 0) ∧ ∀ m ∈ l, WideMv m :=
  open_list opE WideMv Try.underlying22 cells25 (fun h => by
    obtain ⟨C, D, I, M, K, U, t, rfl, hw, ht⟩ := read_op h
    exact ⟨⟨C, D, I, M, K, U, t⟩, rfl, hw, ht⟩) hv h
set_option maxRecDepth 100000 in
theorem open_bytes {H : Type} {enc : TypeId × Value → H} {W : World} {base : Nat} {v : Value} {d : DataW H} {ps : List MemPlace}
    (hv : Value.okWide Try.prog W .any base 23 v) (h : DataW.Trod enc Try.prog W 0 (fun _ => true) true 23 v d ps) :
    ∃ (A : Option Addr) (cap : Nat) (l : List Int), v = .slice A l.length cap ∧ byE.Sl W A l ∧ l.length ≤ cap ∧ (A = none → cap = 0) ∧ ∀ t ∈ l, 0 ≤ t ∧ t ≤ 255 :=
  open_list byE (fun t => 0 ≤ t ∧ t ≤ 255) Try.underlying23 cells5 (fun h => by
    obtain ⟨x, e, _, wf⟩ := DataW.trod_int Try.underlying5 h
    have hb := bounds_u8 wf
    exact ⟨x, e, by omega, by omega⟩) hv h
set_option maxRecDepth 100000 in
theorem open_u8 {H : Type} {enc : TypeId × Value → H} {W : World} {base : Nat} {sp : Nat → Bool} {v : Value} {d : DataW H} {ps : List MemPlace}
    (hv : Value.okWide Try.prog W .any base 5 v) (h : DataW.Trod enc Try.prog W 0 sp true 5 v d ps) : ∃ t : Int, v = .int .u8 t ∧ 0 ≤ t ∧ t ≤ 255 := by
  obtain ⟨a, rfl, _, _, wf⟩ := open_int Try.underlying5 hv h
  have hb := bounds_u8 wf
  exact ⟨a, rfl, by omega, by omega⟩
theorem opsz {l : List Mv} (h : ∀ m ∈ l, WideMv m) : ∀ m ∈ l, m.s.size ≤ 9223372036854775807 := fun m hm => Nat.le_trans (h m hm).2 (by unfold maxLen; omega)
end Go.Proofs.Ytoidondngoljaaa

/- A past among the arguments, opened. -/
namespace Go.Proofs.Ytoidondngoljaaa
open Go.ChangeShapes Go.WideShapes Go.ChangeAt Go.RowKit Go.Deep Nam Cod Tre Pst

set_option maxRecDepth 100000 in
/-- A slice among the cells of an argument. -/
theorem open_cells {α : Type} (E : El α) (Q : α → Prop) {st : TypeId} (hu : Try.prog.underlying st = some (.slice E.e)) (hk : Try.prog.cellsOf E.e = E.k) [Inhabited α] {H : Type} {enc : TypeId × Value → H} {W : World} {fuel : Nat} {cs : List Value} {x : DataW H × List MemPlace}
    (hrd : ∀ {base : Nat} {sp : Nat → Bool} {held : Bool} {fuel : Nat} {cs : List Value} {x : DataW H × List MemPlace}, DataW.trod enc Try.prog W base sp held fuel E.e cs = some x → ∃ a, cs = E.c a ∧ Q a)
    (hf : DataW.trod enc Try.prog W 0 (fun _ => true) true fuel st cs = some x) :
    ∃ (A : Option Addr) (cap : Nat) (l : List α), cs = [.slice A l.length cap] ∧ SlV E W A cap l ∧ ∀ p ∈ l, Q p := by
  rcases open_slice hu hf with ⟨hcs, hx⟩ | ⟨a, len, cap, m, n, D, Pls, hcs, _, hle, hm, hmm, hx, hi⟩
  · exact ⟨none, 0, [], hcs, SlV.nil E W, fun p hp => by cases hp⟩
  · simp only [if_true] at hmm
    have hv : ∀ i, i < m → ∃ p : α, Q p ∧ W.cells? 0 (a.add (i * E.k)) E.k = some (E.c p) := by
      intro i him
      obtain ⟨cs', h1, h2⟩ := hi i him
      rw [hk] at h1
      obtain ⟨p, rfl, hw⟩ := hrd h2
      exact ⟨p, hw, h1⟩
    obtain ⟨f, hf2⟩ := choose_lt hv
    have hlen : ((List.range len).map f).length = len := by simp
    refine ⟨some a, cap, (List.range len).map f, by rw [hlen]; exact hcs, ⟨fun h => ?_, (fun e => by cases e), by rw [hlen]; exact hle⟩, fun p hp => ?_⟩
    · rw [hlen] at h
      obtain ⟨bb, off, spot⟩ := a
      have cell : ∀ i, i < len → ∀ j v, (E.c (f i))[j]? = some v → W.cell? (((⟨bb, off, spot⟩ : Addr).add (i * E.k)).add j) = some v := by
        intro i hil j v hv
        obtain ⟨_, _, hcell⟩ := World.cells?_some (hf2 i (by omega)).2
        have hj : j < E.k := by have := (List.getElem?_eq_some_iff.1 hv).1; rw [E.len] at this; exact this
        have := hcell j hj
        rw [this]; exact hv
      have h00 : ∃ v, (E.c (f 0))[0]? = some v := ⟨(E.c (f 0))[0]'(by rw [E.len]; exact E.pos), List.getElem?_eq_getElem _⟩
      obtain ⟨v0, hv0⟩ := h00
      have hspot : spot = none := by
        have := cell 0 h 0 _ hv0
        simpa [Addr.add] using World.cell?_spot this
      subst hspot
      refine ⟨bb, off, rfl, (by have h9 := block_lt_of_cell (cell 0 h 0 _ hv0); rw [add_plain, add_plain] at h9; exact h9), fun i hil => ?_⟩
      have hil' : i < len := by rw [hlen] at hil; exact hil
      have he : ((List.range len).map f)[i] = f i := by simp
      rw [he]
      intro j u hu
      have := cell i hil' j u hu
      rwa [add_plain, add_plain] at this
    · obtain ⟨i, hi2, rfl⟩ := List.mem_map.1 hp
      exact (hf2 i (by have := List.mem_range.1 hi2; omega)).1

instance unInh : Inhabited Un := ⟨⟨⟨0, 0, ⟨#[]⟩⟩, false, false⟩⟩
theorem cellsBool : Try.prog.cellsOf 4 = 1 := by kernel_rfl
theorem cellsUn : Try.prog.cellsOf 60 = 5 := by kernel_rfl
theorem cellsPa : Try.prog.cellsOf 29 = 5 := by kernel_rfl
theorem cellsPls : Try.prog.cellsOf 26 = 1 := by kernel_rfl
theorem cellsOps : Try.prog.cellsOf 22 = 1 := by kernel_rfl
theorem cellsUns : Try.prog.cellsOf 27 = 1 := by kernel_rfl

set_option maxRecDepth 100000 in
/-- Five cells that read as an undo. -/
theorem read_un {H : Type} {enc : TypeId × Value → H} {W : World} {base : Nat} {sp : Nat → Bool} {held : Bool} {fuel : Nat} {cs : List Value} {x : DataW H × List MemPlace}
    (h : DataW.trod enc Try.prog W base sp held fuel 60 cs = some x) : ∃ u : Un, cs = unE.c u ∧ True := by
  obtain ⟨xs, n, _, _, hl, hlen, hf⟩ := DataW.trod_struct Try.underlying60 h
  have hl5 : cs.length = 5 := hl.trans cellsUn
  have hl3 : xs.length = 3 := hlen
  match cs, hl5, xs, hl3 with
  | [c0, c1, c2, c3, c4], _, [y0, y1, y2], _ =>
    have h0 := hf 0 _ rfl
    have h1 := hf 1 _ rfl
    have h2 := hf 2 _ rfl
    simp [cells24, cellsBool] at h0 h1 h2
    obtain ⟨p, e0, _⟩ := read_pl h0
    obtain ⟨b1, e1, _⟩ := DataW.trod_bool Try.underlying4 h1
    obtain ⟨b2, e2, _⟩ := DataW.trod_bool Try.underlying4 h2
    simp at e0 e1 e2
    obtain ⟨rfl, rfl, rfl⟩ := e0
    subst e1 e2
    exact ⟨⟨p, b1, b2⟩, rfl, trivial⟩

set_option maxRecDepth 100000 in
/-- Five cells that read as a past. -/
theorem read_past {H : Type} {enc : TypeId × Value → H} {W : World} {fuel : Nat} {cs : List Value} {x : DataW H × List MemPlace}
    (h : DataW.trod enc Try.prog W 0 (fun _ => true) true fuel 29 cs = some x) : ∃ x : Pw, cs = pwE.c x ∧ PastOk W x ∧ (∀ p ∈ x.base, WidePl p) ∧ ∀ m ∈ x.ops, WideMv m := by
  obtain ⟨xs, n, _, _, hl, hlen, hf⟩ := DataW.trod_struct Try.underlying29 h
  have hl5 : cs.length = 5 := hl.trans cellsPa
  have hl3 : xs.length = 5 := hlen
  match cs, hl5, xs, hl3 with
  | [c0, c1, c2, c3, c4], _, [y0, y1, y2, y3, y4], _ =>
    have h0 := hf 0 _ rfl
    have h1 := hf 1 _ rfl
    have h2 := hf 2 _ rfl
    have h3 := hf 3 _ rfl
    have h4 := hf 4 _ rfl
    simp [cells3, cellsPls, cellsOps, cellsUns] at h0 h1 h2 h3 h4
    obtain ⟨bA, bc, base, e0, v0, q0⟩ := open_cells plE WidePl Try.underlying26 cells24 (fun h => read_pl h) h0
    obtain ⟨t, e1, _, _⟩ := DataW.trod_int Try.underlying3 h1
    obtain ⟨oA, oc, ops, e2, v2, q2⟩ := open_cells opE WideMv Try.underlying22 cells25 (fun h => by
      obtain ⟨C, D, I, M, K, U, t, rfl, hw, ht⟩ := read_op h
      exact ⟨⟨C, D, I, M, K, U, t⟩, rfl, hw, ht⟩) h2
    obtain ⟨uA, uc, us, e3, v3, _⟩ := open_cells unE (fun _ => True) Try.underlying27 cellsUn (fun h => read_un h) h3
    obtain ⟨wA, wc, now, e4, v4, _⟩ := open_cells plE WidePl Try.underlying26 cells24 (fun h => read_pl h) h4
    simp at e0 e1 e2 e3 e4
    subst e0 e1 e2 e3 e4
    exact ⟨⟨bA, bc, base, t, oA, oc, ops, uA, uc, us, wA, wc, now⟩, rfl, ⟨v0, v2, v3, v4⟩, q0, q2⟩

set_option maxRecDepth 100000 in
theorem open_past {H : Type} {enc : TypeId × Value → H} {W : World} {base : Nat} {v : Value} {d : DataW H} {ps : List MemPlace}
    (hv : Value.okWide Try.prog W .any base 29 v) (h : DataW.Trod enc Try.prog W 0 (fun _ => true) true 29 v d ps) : ∃ x : Pw, v = .agg #[.slice x.bA x.base.length x.bc, .int .i64 x.t, .slice x.oA x.ops.length x.oc, .slice x.uA x.us.length x.uc, .slice x.wA x.now.length x.wc] ∧ PastOk W x ∧ (∀ p ∈ x.base, WidePl p) ∧ ∀ m ∈ x.ops, WideMv m := by
  obtain ⟨cs, rfl, _⟩ := okWide_struct Try.underlying29 hv
  obtain ⟨fuel, hf⟩ := h
  obtain ⟨x, e, hw⟩ := read_past hf
  refine ⟨x, ?_, hw⟩
  obtain ⟨l⟩ := cs
  simp [Value.cells] at e
  rw [e]
  rfl
end Go.Proofs.Ytoidondngoljaaa
