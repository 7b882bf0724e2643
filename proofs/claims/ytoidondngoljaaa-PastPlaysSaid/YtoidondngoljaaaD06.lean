/- Texts laid one behind the other: Wt, Wu, Wj, Xa, Shf, Tf, Tg, Vl, Wn. -/
import Derived.Test.YtoidondngoljaaaD05
import Derived.Shelf.Strings.Builder1
import Derived.Test.YtoidondngoljaaaChecked
import Derived.Lib.Builder
import Derived.Lib.AppendStr
import Derived.Deep.RegionHeld3
/- Of the law: grown. -/
namespace Go.Proofs.Ytoidondngoljaaa
open Go.RowKit Tre Cod Pst Nam

def byE : El Int where
  e := 5
  k := 1
  c x := [.int .u8 x]
  len _ := rfl
  one p u h := by
    simp only [List.mem_cons, List.not_mem_nil, or_false] at h
    subst h; rfl
  pos := by decide
def PoS (n : Nat) (y : Pw) (b o : Nat) (m : Mv) (w : World) : Prop := PaS n y w ∧ (w.cell? ⟨b, o, none⟩ = some (.int .i64 m.C) ∧ w.cell? ⟨b, o + 1, none⟩ = some (.int .i64 m.D) ∧ w.cell? ⟨b, o + 2, none⟩ = some (.int .i64 m.I) ∧ w.cell? ⟨b, o + 3, none⟩ = some (.int .i64 m.M) ∧ w.cell? ⟨b, o + 4, none⟩ = some (.int .i64 m.K) ∧ w.cell? ⟨b, o + 5, none⟩ = some (.int .i64 m.U) ∧ w.cell? ⟨b, o + 6, none⟩ = some (.string m.s))
/-- The past behind k operations. -/
def stG (l : List Mv) (at_ : List Int) : Nat → Pv
  | 0 => Pv.zero
  | k + 1 => match l[k]? with
    | none => stG l at_ k
    | some m => match at_[k]? with
      | none => (addV (stG l at_ k) m).1
      | some t => if t < 40 then settleV (addV (stG l at_ k) m).1 t else (addV (stG l at_ k) m).1
theorem stG_next {l : List Mv} {at_ : List Int} {k : Nat} {m : Mv} (h : k < l.length) (hm : l[k] = m) : stG l at_ (k + 1) = match at_[k]? with
      | none => (addV (stG l at_ k) m).1
      | some t => if t < 40 then settleV (addV (stG l at_ k) m).1 t else (addV (stG l at_ k) m).1 := by
  rw [stG, List.getElem?_eq_getElem h, hm]
theorem stG_inv {l : List Mv} (hl : ∀ m ∈ l, m.ok) (at_ : List Int) : ∀ k, PInv (stG l at_ k) ∧ (stG l at_ k).ops.length ≤ k
  | 0 => ⟨PInv.zero, Nat.le_refl _⟩
  | k + 1 => by
    obtain ⟨h1, h2⟩ := stG_inv hl at_ k
    by_cases hk : k < l.length
    · rw [stG_next hk rfl]
      have h3 := h1.add (hl l[k] (List.getElem_mem _))
      have h4 := addV_len (stG l at_ k) l[k]
      cases at_[k]? with
      | none => exact ⟨h3, by simp only; omega⟩
      | some t =>
        simp only
        by_cases ht : t < 40
        · rw [if_pos ht]
          have h5 := settleV_len (addV (stG l at_ k) l[k]).1 t
          exact ⟨h3.settle (by omega), by omega⟩
        · rw [if_neg ht]; exact ⟨h3, by omega⟩
    · rw [stG, List.getElem?_eq_none (by omega)]
      exact ⟨h1, by simp only; omega⟩
theorem addV_gt {q : Pv} {m : Mv} (h : (addV q m).2 = true) : q.t < m.C := by
  unfold addV at h
  split at h
  · cases h
  · omega


def PtS (n : Nat) (y : Pw) (b o : Nat) (t : Int) (w : World) : Prop := PaS n y w ∧ w.cell? ⟨b, o, none⟩ = some (.int .u8 t)
set_option maxRecDepth 100000 in
set_option maxHeartbeats 8000000 in
theorem grown_any (A : Option Addr) (c : Nat) (l : List Mv) (TA : Option Addr) (tc : Nat) (at_ : List Int) (w : World) (hl : l.length ≤ 60) (hok : ∀ m ∈ l, m.ok) (hT : opE.Sl w A l) (hat0 : byE.Sl w TA at_) (hby : ∀ t ∈ at_, 0 ≤ t ∧ t ≤ 255) :
    Calls Try.prog 25 #[.slice A l.length c, .slice TA at_.length tc] w fun e w' => ∃ y : Pw, e = .returned (.tuple #[.agg #[.slice y.bA y.base.length y.bc, .int .i64 y.t, .slice y.oA y.ops.length y.oc, .slice y.uA y.us.length y.uc, .slice y.wA y.now.length y.wc], .bool true]) ∧ PastOk w' y ∧ y.v = stG l at_ l.length ∧ Below w.heap.size w w' := by
  have hR : pwE.In ((w.alloc (.cells #[.slice none 0 0, .int .i64 0, .slice none 0 0, .slice none 0 0, .slice none 0 0] 29)).alloc (.cells #[.slice none 0 0, .int .i64 0, .slice none 0 0, .slice none 0 0, .slice none 0 0] 29)) w.heap.size Pw.zero := (El.In.new (E := pwE) w Pw.zero #[.slice none 0 0, .int .i64 0, .slice none 0 0, .slice none 0 0, .slice none 0 0] rfl).alloc _
  have hP : pwE.In ((w.alloc (.cells #[.slice none 0 0, .int .i64 0, .slice none 0 0, .slice none 0 0, .slice none 0 0] 29)).alloc (.cells #[.slice none 0 0, .int .i64 0, .slice none 0 0, .slice none 0 0, .slice none 0 0] 29)) (w.heap.size + 1) Pw.zero := by
    have h := El.In.new (E := pwE) (w.alloc (.cells #[.slice none 0 0, .int .i64 0, .slice none 0 0, .slice none 0 0, .slice none 0 0] 29)) Pw.zero #[.slice none 0 0, .int .i64 0, .slice none 0 0, .slice none 0 0, .slice none 0 0] rfl
    rw [alloc_size] at h; exact h
  have hB := below_alloc (below_alloc (Below.refl w.heap.size w) (.cells #[.slice none 0 0, .int .i64 0, .slice none 0 0, .slice none 0 0, .slice none 0 0] 29)) (.cells #[.slice none 0 0, .int .i64 0, .slice none 0 0, .slice none 0 0, .slice none 0 0] 29)
  go_enter Try.func25, Try.ntmps25
  go_wp2_with fail
  generalize ((w.alloc (.cells #[.slice none 0 0, .int .i64 0, .slice none 0 0, .slice none 0 0, .slice none 0 0] 29)).alloc (.cells #[.slice none 0 0, .int .i64 0, .slice none 0 0, .slice none 0 0, .slice none 0 0] 29)) = W0 at *
  obtain ⟨n6, h6⟩ : ∃ n, w.heap.size + 1 = n := ⟨_, rfl⟩
  rw [h6] at hP ⊢
  obtain ⟨n4, h4⟩ : ∃ n, w.heap.size = n := ⟨_, rfl⟩
  rw [h4] at hR ⊢
  have HN := Lib.hid (show w.heap.size ≤ n4 ∧ n6 = n4 + 1 by omega)
  have hn46 : n4 ≠ n6 := by omega
  clear h4 h6
  go_loopw [7] (fun yi wr => ∃ (k : Nat) (y : Pw), k ≤ l.length ∧ yi = .int .i64 k ∧ y.v = stG l at_ k ∧ pwE.In wr n6 y ∧ PastOk wr y ∧ pwE.In wr n4 Pw.zero ∧ Below w.heap.size w wr) (fun yi _ => l.length - (intOf yi).toNat)
  case atStart => exact ⟨0, Pw.zero, Nat.zero_le _, rfl, rfl, hP, PastOk.zero _, hR, hB⟩
  case round =>
    clear hP hR hB
    obtain ⟨k, y, hk, rfl, hyv, hP, hy, hR, hB⟩ := hrel
    by_cases hkl : k < l.length
    · obtain ⟨b, off, rfl, hbw, hc⟩ := hT (by omega)
      have hat : opE.At wr b (off + k * 7) l[k] := (hc k hkl).below hB hbw
      have hbW := Nat.lt_of_lt_of_le hbw hB.size
      have hmo := hok l[k] (List.getElem_mem _)
      have hnext := stG_next (at_ := at_) hkl rfl
      have hinv := (stG_inv hok at_ k).1
      have hinl := (stG_inv hok at_ k).2
      obtain ⟨m, hm⟩ : ∃ m, l[k] = m := ⟨_, rfl⟩
      rw [hm] at hat hmo hnext
      rw [← hyv] at hnext hinv hinl
      have hI2 := hinv.add hmo
      have hlen2 := addV_len y.v m
      obtain ⟨V, hV⟩ : ∃ V, (addV y.v m).1 = V := ⟨_, rfl⟩
      obtain ⟨bb, hbb⟩ : ∃ bb, (addV y.v m).2 = bb := ⟨_, rfl⟩
      have hgt : bb = true → y.t < m.C := fun h => addV_gt (by rw [hbb]; exact h)
      rw [hV] at hnext hI2 hlen2
      have HADD := Lib.hid (fun wx (h : PastOk wx y) => addc y m wx h rfl hinv (by omega) (show addV y.v m = (V, bb) by rw [← hV, ← hbb]))
      have HNX := Lib.hid hnext
      have HI2 := Lib.hid hI2
      have HL2 := Lib.hid (show V.ops.length ≤ 60 by omega)
      have HGT := Lib.hid hgt
      clear hnext hI2 hlen2 hgt hV hbb hinv hinl hc hm hmo
      go_wp2_with fail
      generalize wr = W at *
      apply wp_merge (fun z kk w' => z.v = V ∧ W.heap.size ≤ kk ∧ pwE.In w' kk z ∧ PastOk w' z ∧ Below W.heap.size W w')
      · have hn1 := hP.lt
        refine region_anyG (S := PoS n6 y b (off + k * 7) m) 10 (by kernel_rfl) ?_
        have hd : Below W.heap.size W W.drew := (Below.refl _ _).drew
        replace hP : pwE.In W.drew n6 y := hP
        replace hy : PastOk W.drew y := hy.below hd
        replace hat : opE.At W.drew b (off + k * 7) m := hat
        replace hbW : b < W.drew.heap.size := hbW
        generalize W.drew = V at *
        have hS : PoS n6 y b (off + k * 7) m V := ⟨pwIn5 hP, opAt hat⟩
        refine anyG_take (i := 0) (v := .agg #[.slice y.bA y.base.length y.bc, .int .i64 y.t, .slice y.oA y.ops.length y.oc, .slice y.uA y.us.length y.uc, .slice y.wA y.now.length y.wc]) rfl (by kernel_rfl) (by kernel_rfl) (by kernel_rfl) (by kernel_rfl) (by kernel_rfl) (fun _ _ _ h => h) (Or.inl ⟨by rfl, fun w' hSw => by (obtain ⟨⟨s0, s1, s2, s3, s4⟩, s5, s6, s7, s8, s9, s10, s11⟩ := hSw; go_simp)⟩) hS ?_
        try simp only [Act.put, List.setIfInBounds_toArray, List.set_cons_zero, List.set_cons_succ]
        refine anyG_take (i := 1) (v := .slice (some ⟨b, off, none⟩) l.length c) rfl (by kernel_rfl) (by kernel_rfl) (by kernel_rfl) (by kernel_rfl) (by kernel_rfl) (fun _ _ _ h => h) (Or.inl ⟨by rfl, fun w' hSw => by (obtain ⟨⟨s0, s1, s2, s3, s4⟩, s5, s6, s7, s8, s9, s10, s11⟩ := hSw; go_simp)⟩) hS ?_
        try simp only [Act.put, List.setIfInBounds_toArray, List.set_cons_zero, List.set_cons_succ]
        refine anyG_take (i := 2) (v := .int .i64 k) rfl (by kernel_rfl) (by kernel_rfl) (by kernel_rfl) (by kernel_rfl) (by kernel_rfl) (fun _ _ _ h => h) (Or.inl ⟨by rfl, fun w' hSw => by (obtain ⟨⟨s0, s1, s2, s3, s4⟩, s5, s6, s7, s8, s9, s10, s11⟩ := hSw; go_simp)⟩) hS ?_
        try simp only [Act.put, List.setIfInBounds_toArray, List.set_cons_zero, List.set_cons_succ]
        refine anyG_take (i := 3) (v := .pointer (some ⟨b, off + k * 7, none⟩)) rfl (by kernel_rfl) (by kernel_rfl) (by kernel_rfl) (by kernel_rfl) (by kernel_rfl) (fun _ _ _ h => h) (Or.inl ⟨by rfl, fun w' hSw => by (obtain ⟨⟨s0, s1, s2, s3, s4⟩, s5, s6, s7, s8, s9, s10, s11⟩ := hSw; go_simp)⟩) hS ?_
        try simp only [Act.put, List.setIfInBounds_toArray, List.set_cons_zero, List.set_cons_succ]
        refine anyG_take (i := 4) (v := .agg #[.int .i64 m.C, .int .i64 m.D, .int .i64 m.I, .int .i64 m.M, .int .i64 m.K, .int .i64 m.U, .string m.s]) rfl (by kernel_rfl) (by kernel_rfl) (by kernel_rfl) (by kernel_rfl) (by kernel_rfl) (fun _ _ _ h => h) (Or.inl ⟨by rfl, fun w' hSw => by (obtain ⟨⟨s0, s1, s2, s3, s4⟩, s5, s6, s7, s8, s9, s10, s11⟩ := hSw; go_simp)⟩) hS ?_
        try simp only [Act.put, List.setIfInBounds_toArray, List.set_cons_zero, List.set_cons_succ]
        have hda : Below W.heap.size W (V.alloc (.cells #[.slice none 0 0, .int .i64 0, .slice none 0 0, .slice none 0 0, .slice none 0 0] 29)) := hd.alloc hd.size (.cells #[.slice none 0 0, .int .i64 0, .slice none 0 0, .slice none 0 0, .slice none 0 0] 29)
        have hz : pwE.In (V.alloc (.cells #[.slice none 0 0, .int .i64 0, .slice none 0 0, .slice none 0 0, .slice none 0 0] 29)) V.heap.size Pw.zero := El.In.new (E := pwE) V Pw.zero #[.slice none 0 0, .int .i64 0, .slice none 0 0, .slice none 0 0, .slice none 0 0] rfl
        refine anyG_step (rs := [5, 9]) (by kernel_rfl) (by simp) ?_
        refine AllG.cons rfl (fun K hK => ?_) (AllG.cons rfl (fun K hK => ?_) AllG.nil)
        · skip
          go_simp
          refine (HADD.out V hy).mono ?_
          rintro e W6 ⟨z, rfl, hyz, hvz, hb6⟩
          have hP6 := hP.below hb6
          have hB6 := hd.trans (hb6.mono hd.size)
          have hat6 := hat.below hb6 hbW
          have hbl6 := Nat.lt_of_lt_of_le hbW hb6.size
          have hS6 : PoS n6 y b (off + k * 7) m W6 := ⟨pwIn5 hP6, opAt hat6⟩
          try go_wp2_with fail
          refine hK.out _ _ hS6 ?_
          try simp only [Act.put, List.setIfInBounds_toArray, List.set_cons_zero, List.set_cons_succ]
          clear hK hS
          have hS := hS6
          have hz6 : pwE.In (W6.alloc (.cells #[.slice none 0 0, .int .i64 0, .slice none 0 0, .slice none 0 0, .slice none 0 0] 29)) W6.heap.size Pw.zero := El.In.new (E := pwE) W6 Pw.zero #[.slice none 0 0, .int .i64 0, .slice none 0 0, .slice none 0 0, .slice none 0 0] rfl
          refine anyG_plain (i := 6) (v := .tuple #[.agg #[.slice z.bA z.base.length z.bc, .int .i64 z.t, .slice z.oA z.ops.length z.oc, .slice z.uA z.us.length z.uc, .slice z.wA z.now.length z.wc], .bool bb]) rfl (by kernel_rfl) (by kernel_rfl) (by kernel_rfl) (by kernel_rfl) (fun _ _ _ h => h) (Or.inl ⟨by rfl, fun w' => by go_simp⟩) (fun _ => hS) ?_
          try simp only [Act.put, List.setIfInBounds_toArray, List.set_cons_zero, List.set_cons_succ]
          refine anyG_plain (i := 7) (v := .agg #[.slice z.bA z.base.length z.bc, .int .i64 z.t, .slice z.oA z.ops.length z.oc, .slice z.uA z.us.length z.uc, .slice z.wA z.now.length z.wc]) rfl (by kernel_rfl) (by kernel_rfl) (by kernel_rfl) (by kernel_rfl) (fun _ _ _ h => h) (Or.inl ⟨by rfl, fun w' => by go_simp⟩) (fun _ => hS) ?_
          try simp only [Act.put, List.setIfInBounds_toArray, List.set_cons_zero, List.set_cons_succ]
          refine anyG_plain (i := 8) (v := .bool bb) rfl (by kernel_rfl) (by kernel_rfl) (by kernel_rfl) (by kernel_rfl) (fun _ _ _ h => h) (Or.inl ⟨by rfl, fun w' => by go_simp⟩) (fun _ => hS) ?_
          try simp only [Act.put, List.setIfInBounds_toArray, List.set_cons_zero, List.set_cons_succ]
          refine anyG_step (rs := [9]) (by kernel_rfl) (by simp) ?_
          refine AllG.cons rfl (fun K hK => ?_) AllG.nil
          have hata := hat6.below (below_alloc (Below.refl W6.heap.size W6) (.cells #[.slice none 0 0, .int .i64 0, .slice none 0 0, .slice none 0 0, .slice none 0 0] 29)) hbl6
          have hSa : PoS n6 y b (off + k * 7) m (W6.alloc (.cells #[.slice none 0 0, .int .i64 0, .slice none 0 0, .slice none 0 0, .slice none 0 0] 29)) := ⟨pwIn5 (hP6.alloc (.cells #[.slice none 0 0, .int .i64 0, .slice none 0 0, .slice none 0 0, .slice none 0 0] 29)), opAt hata⟩
          go_simp
          refine hK.out _ _ hSa ?_
          try simp only [Act.put, List.setIfInBounds_toArray, List.set_cons_zero, List.set_cons_succ]
          clear hK hS
          have hS := hSa
          have hyz' := hyz.below (below_alloc (Below.refl W6.heap.size W6) (.cells #[.slice none 0 0, .int .i64 0, .slice none 0 0, .slice none 0 0, .slice none 0 0] 29))
          have hBz := hB6.alloc hB6.size (.cells #[.slice none 0 0, .int .i64 0, .slice none 0 0, .slice none 0 0, .slice none 0 0] 29)
          have hkW : W.heap.size ≤ W6.heap.size := hB6.size
          generalize W6.alloc (.cells #[.slice none 0 0, .int .i64 0, .slice none 0 0, .slice none 0 0, .slice none 0 0] 29) = W7 at *
          generalize W6.heap.size = nA at *
          refine anyG_step (rs := [10]) (by kernel_rfl) (by simp) ?_
          refine AllG.last (n := 10) rfl (fun K hK => ?_)
          refine El.step_store pwRow rfl _ _ rfl nA z #[.slice z.bA z.base.length z.bc, .int .i64 z.t, .slice z.oA z.ops.length z.oc, .slice z.uA z.us.length z.uc, .slice z.wA z.now.length z.wc] rfl rfl rfl Pw.zero hz6 ?_
          refine hK.out _ _ ?_
          try simp only [Act.put, List.setIfInBounds_toArray, List.set_cons_zero, List.set_cons_succ]
          clear hK hS
          refine anyG_plain_after (i := 11) (v := .bool bb) rfl (by kernel_rfl) (by kernel_rfl) (by kernel_rfl) (by kernel_rfl) (fun _ _ _ h => h) (Or.inl ⟨by rfl, fun w' => by go_simp⟩) (by kernel_rfl) ?_
          try simp only [Act.put, List.setIfInBounds_toArray, List.set_cons_zero, List.set_cons_succ]
          refine anyG_done (by kernel_rfl) ?_ _
          have hPz := (hz6).set z #[.slice z.bA z.base.length z.bc, .int .i64 z.t, .slice z.oA z.ops.length z.oc, .slice z.uA z.us.length z.uc, .slice z.wA z.now.length z.wc] rfl
          exact ⟨z, nA, rfl, hvz, hkW, hPz, hyz'.off hz6 (by_row _ _ _), below_setRow hBz hkW _⟩
        · skip
          have hata := hat.below (below_alloc (Below.refl V.heap.size V) (.cells #[.slice none 0 0, .int .i64 0, .slice none 0 0, .slice none 0 0, .slice none 0 0] 29)) hbW
          have hSa : PoS n6 y b (off + k * 7) m (V.alloc (.cells #[.slice none 0 0, .int .i64 0, .slice none 0 0, .slice none 0 0, .slice none 0 0] 29)) := ⟨pwIn5 (hP.alloc (.cells #[.slice none 0 0, .int .i64 0, .slice none 0 0, .slice none 0 0, .slice none 0 0] 29)), opAt hata⟩
          go_simp
          refine hK.out _ _ hSa ?_
          try simp only [Act.put, List.setIfInBounds_toArray, List.set_cons_zero, List.set_cons_succ]
          clear hK hS
          have hS := hSa
          have hya := hy.below (below_alloc (Below.refl V.heap.size V) (.cells #[.slice none 0 0, .int .i64 0, .slice none 0 0, .slice none 0 0, .slice none 0 0] 29))
          have hPa := hP.alloc (.cells #[.slice none 0 0, .int .i64 0, .slice none 0 0, .slice none 0 0, .slice none 0 0] 29)
          have hbWa : b < (V.alloc (.cells #[.slice none 0 0, .int .i64 0, .slice none 0 0, .slice none 0 0, .slice none 0 0] 29)).heap.size := by rw [alloc_size]; omega
          have hkW : W.heap.size ≤ V.heap.size := hd.size
          generalize V.alloc (.cells #[.slice none 0 0, .int .i64 0, .slice none 0 0, .slice none 0 0, .slice none 0 0] 29) = V7 at *
          generalize V.heap.size = nA at *
          refine anyG_step (rs := [5]) (by kernel_rfl) (by simp) ?_
          refine AllG.cons rfl (fun K hK => ?_) AllG.nil
          go_simp
          refine (HADD.out V7 hya).mono ?_
          rintro e W6 ⟨z, rfl, hyz, hvz, hb6⟩
          have hP6 := hPa.below hb6
          have hB6 := hda.trans (hb6.mono hda.size)
          have hat6 := hata.below hb6 hbWa
          have hbl6 := Nat.lt_of_lt_of_le hbWa hb6.size
          have hS6 : PoS n6 y b (off + k * 7) m W6 := ⟨pwIn5 hP6, opAt hat6⟩
          try go_wp2_with fail
          refine hK.out _ _ hS6 ?_
          try simp only [Act.put, List.setIfInBounds_toArray, List.set_cons_zero, List.set_cons_succ]
          clear hK hS
          have hS := hS6
          have hz6 := hz.below hb6
          refine anyG_plain (i := 6) (v := .tuple #[.agg #[.slice z.bA z.base.length z.bc, .int .i64 z.t, .slice z.oA z.ops.length z.oc, .slice z.uA z.us.length z.uc, .slice z.wA z.now.length z.wc], .bool bb]) rfl (by kernel_rfl) (by kernel_rfl) (by kernel_rfl) (by kernel_rfl) (fun _ _ _ h => h) (Or.inl ⟨by rfl, fun w' => by go_simp⟩) (fun _ => hS) ?_
          try simp only [Act.put, List.setIfInBounds_toArray, List.set_cons_zero, List.set_cons_succ]
          refine anyG_plain (i := 7) (v := .agg #[.slice z.bA z.base.length z.bc, .int .i64 z.t, .slice z.oA z.ops.length z.oc, .slice z.uA z.us.length z.uc, .slice z.wA z.now.length z.wc]) rfl (by kernel_rfl) (by kernel_rfl) (by kernel_rfl) (by kernel_rfl) (fun _ _ _ h => h) (Or.inl ⟨by rfl, fun w' => by go_simp⟩) (fun _ => hS) ?_
          try simp only [Act.put, List.setIfInBounds_toArray, List.set_cons_zero, List.set_cons_succ]
          refine anyG_plain (i := 8) (v := .bool bb) rfl (by kernel_rfl) (by kernel_rfl) (by kernel_rfl) (by kernel_rfl) (fun _ _ _ h => h) (Or.inl ⟨by rfl, fun w' => by go_simp⟩) (fun _ => hS) ?_
          try simp only [Act.put, List.setIfInBounds_toArray, List.set_cons_zero, List.set_cons_succ]
          refine anyG_step (rs := [10]) (by kernel_rfl) (by simp) ?_
          refine AllG.last (n := 10) rfl (fun K hK => ?_)
          refine El.step_store pwRow rfl _ _ rfl nA z #[.slice z.bA z.base.length z.bc, .int .i64 z.t, .slice z.oA z.ops.length z.oc, .slice z.uA z.us.length z.uc, .slice z.wA z.now.length z.wc] rfl rfl rfl Pw.zero hz6 ?_
          refine hK.out _ _ ?_
          try simp only [Act.put, List.setIfInBounds_toArray, List.set_cons_zero, List.set_cons_succ]
          clear hK hS
          refine anyG_plain_after (i := 11) (v := .bool bb) rfl (by kernel_rfl) (by kernel_rfl) (by kernel_rfl) (by kernel_rfl) (fun _ _ _ h => h) (Or.inl ⟨by rfl, fun w' => by go_simp⟩) (by kernel_rfl) ?_
          try simp only [Act.put, List.setIfInBounds_toArray, List.set_cons_zero, List.set_cons_succ]
          refine anyG_done (by kernel_rfl) ?_ _
          have hPz := (hz6).set z #[.slice z.bA z.base.length z.bc, .int .i64 z.t, .slice z.oA z.ops.length z.oc, .slice z.uA z.us.length z.uc, .slice z.wA z.now.length z.wc] rfl
          exact ⟨z, nA, rfl, hvz, hkW, hPz, hyz.off hz6 (by_row _ _ _), below_setRow hB6 hkW _⟩
      rintro z nz w' ⟨hvz, hnz, hPz, hyz, hbz⟩
      replace hP := hP.below hbz
      replace hR := hR.below hbz
      replace hB := hB.trans (hbz.mono hB.size)
      replace hat := hat.below hbz hbW
      have hbz2 := hbz
      clear hbz hy
      obtain ⟨t0, t1, t2, t3, t4, t5, t6⟩ := opAt hat
      have p1 := (pwIn5 hP).2.1
      clear t1 t2 t3 t4 t5 t6
      have hcases : (bb = true ∧ decide (y.t < m.C) = true) ∨ (bb = false ∧ decide (y.t < m.C) = true) ∨ (bb = false ∧ decide (y.t < m.C) = false) := by
        cases bb
        · by_cases h : y.t < m.C
          · exact Or.inr (Or.inl ⟨rfl, decide_eq_true h⟩)
          · exact Or.inr (Or.inr ⟨rfl, decide_eq_false h⟩)
        · exact Or.inl ⟨rfl, decide_eq_true (HGT.out rfl)⟩
      by_cases hka : k < at_.length
      · obtain ⟨tb, toff, rfl, htb, htc⟩ := hat0 (by omega)
        have hbt := hby at_[k] (List.getElem_mem _)
        have htat : byE.At w' tb (toff + k * 1) at_[k] := (htc k hka).below hB htb
        have htc0 : w'.cell? ⟨tb, toff + k, none⟩ = some (.int .u8 at_[k]) := by have h := htat 0 _ rfl; rw [Nat.mul_one] at h; exact h
        have hsome : at_[k]? = some at_[k] := List.getElem?_eq_getElem hka
        have hn6t : tb ≠ n6 := by
          intro e; subst e
          have h1 := hP.cell (toff + k)
          rw [htc0] at h1
          have := htb
          have := HN.out
          omega
        obtain ⟨s, hs⟩ : ∃ s, at_[k] = s := ⟨_, rfl⟩
        rw [hs] at htc0 hbt hsome
        have htc9 : ∀ q, ((w'.drewN q).setRow n6 #[.slice z.bA z.base.length z.bc, .int .i64 z.t, .slice z.oA z.ops.length z.oc, .slice z.uA z.us.length z.uc, .slice z.wA z.now.length z.wc]).cell? ⟨tb, toff + k, none⟩ = some (.int .u8 s) := fun q => (by_row (w'.drewN q) n6 #[.slice z.bA z.base.length z.bc, .int .i64 z.t, .slice z.oA z.ops.length z.oc, .slice z.uA z.us.length z.uc, .slice z.wA z.now.length z.wc]).cell htc0 (fun e => hn6t (Option.some.inj e))
        clear htc htat hs HADD
        have hwr : IntKind.i64.wrap s = s := IntWalk.i64_in _ (by omega)
        by_cases hs40 : s < 40
        · have HNX2 := Lib.hid (show stG l at_ (k + 1) = settleV V s by rw [HNX.out, hsome]; exact if_pos hs40)
          clear hsome
          have hd40 : decide (s < 40) = true := decide_eq_true hs40
          rcases hcases with ⟨rfl, hlt⟩ | ⟨rfl, hlt⟩ | ⟨rfl, hlt⟩
          all_goals
            go_wp2_with fail
            go_quiet (fail)
            go_wp2_with (first | (refine El.load pwRow rfl _ rfl nz 0 rfl z hPz.at #[.slice z.bA z.base.length z.bc, .int .i64 z.t, .slice z.oA z.ops.length z.oc, .slice z.uA z.us.length z.uc, .slice z.wA z.now.length z.wc] rfl ?_) | (refine El.store pwRow rfl _ _ rfl n6 z #[.slice z.bA z.base.length z.bc, .int .i64 z.t, .slice z.oA z.ops.length z.oc, .slice z.uA z.us.length z.uc, .slice z.wA z.now.length z.wc] rfl rfl rfl y hP ?_) | fail)
            have hdr := below_drew (Below.refl w'.heap.size w') nq
            have hPd := hP.below hdr
            have hP8 := hPd.set z #[.slice z.bA z.base.length z.bc, .int .i64 z.t, .slice z.oA z.ops.length z.oc, .slice z.uA z.us.length z.uc, .slice z.wA z.now.length z.wc] rfl
            have hy8 := (hyz.below hdr).off hPd (by_row (w'.drewN nq) n6 #[.slice z.bA z.base.length z.bc, .int .i64 z.t, .slice z.oA z.ops.length z.oc, .slice z.uA z.us.length z.uc, .slice z.wA z.now.length z.wc])
            have hR8 := (hR.below hdr).rowN n6 #[.slice z.bA z.base.length z.bc, .int .i64 z.t, .slice z.oA z.ops.length z.oc, .slice z.uA z.us.length z.uc, .slice z.wA z.now.length z.wc] hn46
            have hB8 := below_setRow (hB.trans (hdr.mono hB.size)) (show w.heap.size ≤ n6 by have := HN.out; omega) #[.slice z.bA z.base.length z.bc, .int .i64 z.t, .slice z.oA z.ops.length z.oc, .slice z.uA z.us.length z.uc, .slice z.wA z.now.length z.wc]
            have htc8 := htc9 nq
            clear htc9
            generalize (w'.drewN nq).setRow n6 #[.slice z.bA z.base.length z.bc, .int .i64 z.t, .slice z.oA z.ops.length z.oc, .slice z.uA z.us.length z.uc, .slice z.wA z.now.length z.wc] = W8 at *
            refine region_anyG (S := PtS n6 z tb (toff + k) s) 7 (by kernel_rfl) ?_
            replace hP8 : pwE.In W8.drew n6 z := hP8
            replace hR8 : pwE.In W8.drew n4 Pw.zero := hR8
            replace hy8 : PastOk W8.drew z := hy8.below (Below.refl _ _).drew
            replace htc8 : W8.drew.cell? ⟨tb, toff + k, none⟩ = some (.int .u8 s) := htc8
            replace hB8 := hB8.drew
            generalize W8.drew = V8 at *
            have hS : PtS n6 z tb (toff + k) s V8 := ⟨pwIn5 hP8, htc8⟩
            refine anyG_take (i := 0) (v := .agg #[.slice z.bA z.base.length z.bc, .int .i64 z.t, .slice z.oA z.ops.length z.oc, .slice z.uA z.us.length z.uc, .slice z.wA z.now.length z.wc]) rfl (by kernel_rfl) (by kernel_rfl) (by kernel_rfl) (by kernel_rfl) (by kernel_rfl) (fun _ _ _ h => h) (Or.inl ⟨by rfl, fun w' hSw => by (obtain ⟨⟨s0, s1, s2, s3, s4⟩, s5⟩ := hSw; go_simp)⟩) hS ?_
            try simp only [Act.put, List.setIfInBounds_toArray, List.set_cons_zero, List.set_cons_succ]
            refine anyG_take (i := 1) (v := .slice (some ⟨tb, toff, none⟩) at_.length tc) rfl (by kernel_rfl) (by kernel_rfl) (by kernel_rfl) (by kernel_rfl) (by kernel_rfl) (fun _ _ _ h => h) (Or.inl ⟨by rfl, fun w' hSw => by (obtain ⟨⟨s0, s1, s2, s3, s4⟩, s5⟩ := hSw; go_simp)⟩) hS ?_
            try simp only [Act.put, List.setIfInBounds_toArray, List.set_cons_zero, List.set_cons_succ]
            refine anyG_take (i := 2) (v := .int .i64 k) rfl (by kernel_rfl) (by kernel_rfl) (by kernel_rfl) (by kernel_rfl) (by kernel_rfl) (fun _ _ _ h => h) (Or.inl ⟨by rfl, fun w' hSw => by (obtain ⟨⟨s0, s1, s2, s3, s4⟩, s5⟩ := hSw; go_simp)⟩) hS ?_
            try simp only [Act.put, List.setIfInBounds_toArray, List.set_cons_zero, List.set_cons_succ]
            refine anyG_take (i := 3) (v := .pointer (some ⟨tb, toff + k, none⟩)) rfl (by kernel_rfl) (by kernel_rfl) (by kernel_rfl) (by kernel_rfl) (by kernel_rfl) (fun _ _ _ h => h) (Or.inl ⟨by rfl, fun w' hSw => by (obtain ⟨⟨s0, s1, s2, s3, s4⟩, s5⟩ := hSw; go_simp)⟩) hS ?_
            try simp only [Act.put, List.setIfInBounds_toArray, List.set_cons_zero, List.set_cons_succ]
            refine anyG_take (i := 4) (v := .int .u8 s) rfl (by kernel_rfl) (by kernel_rfl) (by kernel_rfl) (by kernel_rfl) (by kernel_rfl) (fun _ _ _ h => h) (Or.inl ⟨by rfl, fun w' hSw => by (obtain ⟨⟨s0, s1, s2, s3, s4⟩, s5⟩ := hSw; go_simp)⟩) hS ?_
            try simp only [Act.put, List.setIfInBounds_toArray, List.set_cons_zero, List.set_cons_succ]
            refine anyG_take (i := 5) (v := .int .i64 s) rfl (by kernel_rfl) (by kernel_rfl) (by kernel_rfl) (by kernel_rfl) (by kernel_rfl) (fun _ _ _ h => h) (Or.inl ⟨by rfl, fun w' hSw => by (obtain ⟨⟨s0, s1, s2, s3, s4⟩, s5⟩ := hSw; go_simp)⟩) hS ?_
            try simp only [Act.put, List.setIfInBounds_toArray, List.set_cons_zero, List.set_cons_succ]
            refine anyG_step (rs := [6]) (by kernel_rfl) (by simp) ?_
            refine AllG.cons rfl (fun K hK => ?_) AllG.nil
            go_simp
            refine (settlec z s V8 hy8 hvz HI2.out (by have := HL2.out; omega) rfl).mono ?_
            rintro e W9 ⟨z2, rfl, hy9, hv9, hb9⟩
            have hP9 := hP8.below hb9
            have hR9 := hR8.below hb9
            have hB9 := hB8.trans (hb9.mono hB8.size)
            have htl9 : tb < V8.heap.size := by have := hB8.size; omega
            have htc9 : W9.cell? ⟨tb, toff + k, none⟩ = some (.int .u8 s) := by rw [(bcell hb9).1 _ _ htl9]; exact htc8
            have hS9 : PtS n6 z tb (toff + k) s W9 := ⟨pwIn5 hP9, htc9⟩
            try go_wp2_with fail
            refine hK.out _ _ hS9 ?_
            try simp only [Act.put, List.setIfInBounds_toArray, List.set_cons_zero, List.set_cons_succ]
            clear hK hS
            have hS := hS9
            refine anyG_step (rs := [7]) (by kernel_rfl) (by simp) ?_
            refine AllG.last (n := 7) rfl (fun K hK => ?_)
            refine El.step_store pwRow rfl _ _ rfl n6 z2 #[.slice z2.bA z2.base.length z2.bc, .int .i64 z2.t, .slice z2.oA z2.ops.length z2.oc, .slice z2.uA z2.us.length z2.uc, .slice z2.wA z2.now.length z2.wc] rfl rfl rfl z hP9 ?_
            refine hK.out _ _ ?_
            try simp only [Act.put, List.setIfInBounds_toArray, List.set_cons_zero, List.set_cons_succ]
            clear hK hS
            refine anyG_done (by kernel_rfl) ?_ _
            have hPz := hP9.set z2 #[.slice z2.bA z2.base.length z2.bc, .int .i64 z2.t, .slice z2.oA z2.ops.length z2.oc, .slice z2.uA z2.us.length z2.uc, .slice z2.wA z2.now.length z2.wc] rfl
            have hyz2 := hy9.off hP9 (by_row W9 n6 #[.slice z2.bA z2.base.length z2.bc, .int .i64 z2.t, .slice z2.oA z2.ops.length z2.oc, .slice z2.uA z2.us.length z2.uc, .slice z2.wA z2.now.length z2.wc])
            have hRz := hR9.rowN n6 #[.slice z2.bA z2.base.length z2.bc, .int .i64 z2.t, .slice z2.oA z2.ops.length z2.oc, .slice z2.uA z2.us.length z2.uc, .slice z2.wA z2.now.length z2.wc] hn46
            have hBz := below_setRow hB9 (show w.heap.size ≤ n6 by have := HN.out; omega) #[.slice z2.bA z2.base.length z2.bc, .int .i64 z2.t, .slice z2.oA z2.ops.length z2.oc, .slice z2.uA z2.us.length z2.uc, .slice z2.wA z2.now.length z2.wc]
            go_wp2_with fail
            exact ⟨⟨k + 1, z2, by omega, by go_num, by rw [HNX2.out]; exact hv9, hPz, hyz2, hRz, hBz⟩, by simp [intOf]; omega⟩
        · have HNX2 := Lib.hid (show stG l at_ (k + 1) = V by rw [HNX.out, hsome]; exact if_neg hs40)
          clear hsome
          have hd40 : decide (s < 40) = false := decide_eq_false hs40
          rcases hcases with ⟨rfl, hlt⟩ | ⟨rfl, hlt⟩ | ⟨rfl, hlt⟩
          all_goals
            go_wp2_with fail
            go_quiet (fail)
            go_wp2_with (first | (refine El.load pwRow rfl _ rfl nz 0 rfl z hPz.at #[.slice z.bA z.base.length z.bc, .int .i64 z.t, .slice z.oA z.ops.length z.oc, .slice z.uA z.us.length z.uc, .slice z.wA z.now.length z.wc] rfl ?_) | (refine El.store pwRow rfl _ _ rfl n6 z #[.slice z.bA z.base.length z.bc, .int .i64 z.t, .slice z.oA z.ops.length z.oc, .slice z.uA z.us.length z.uc, .slice z.wA z.now.length z.wc] rfl rfl rfl y hP ?_) | fail)
            have hdr := below_drew (Below.refl w'.heap.size w') nq
            have hPd := hP.below hdr
            have hP8 := hPd.set z #[.slice z.bA z.base.length z.bc, .int .i64 z.t, .slice z.oA z.ops.length z.oc, .slice z.uA z.us.length z.uc, .slice z.wA z.now.length z.wc] rfl
            have hy8 := (hyz.below hdr).off hPd (by_row (w'.drewN nq) n6 #[.slice z.bA z.base.length z.bc, .int .i64 z.t, .slice z.oA z.ops.length z.oc, .slice z.uA z.us.length z.uc, .slice z.wA z.now.length z.wc])
            have hR8 := (hR.below hdr).rowN n6 #[.slice z.bA z.base.length z.bc, .int .i64 z.t, .slice z.oA z.ops.length z.oc, .slice z.uA z.us.length z.uc, .slice z.wA z.now.length z.wc] hn46
            have hB8 := below_setRow (hB.trans (hdr.mono hB.size)) (show w.heap.size ≤ n6 by have := HN.out; omega) #[.slice z.bA z.base.length z.bc, .int .i64 z.t, .slice z.oA z.ops.length z.oc, .slice z.uA z.us.length z.uc, .slice z.wA z.now.length z.wc]
            exact ⟨⟨k + 1, z, by omega, by go_num, by rw [HNX2.out]; exact hvz, hP8, hy8, hR8, hB8⟩, by simp [intOf]; omega⟩
      · have hnone : at_[k]? = none := List.getElem?_eq_none (by omega)
        have HNX2 := Lib.hid (show stG l at_ (k + 1) = V by rw [HNX.out, hnone])
        clear hnone HADD
        rcases hcases with ⟨rfl, hlt⟩ | ⟨rfl, hlt⟩ | ⟨rfl, hlt⟩
        all_goals
          go_wp2_with fail
          go_quiet (fail)
          go_wp2_with (first | (refine El.load pwRow rfl _ rfl nz 0 rfl z hPz.at #[.slice z.bA z.base.length z.bc, .int .i64 z.t, .slice z.oA z.ops.length z.oc, .slice z.uA z.us.length z.uc, .slice z.wA z.now.length z.wc] rfl ?_) | (refine El.store pwRow rfl _ _ rfl n6 z #[.slice z.bA z.base.length z.bc, .int .i64 z.t, .slice z.oA z.ops.length z.oc, .slice z.uA z.us.length z.uc, .slice z.wA z.now.length z.wc] rfl rfl rfl y hP ?_) | fail)
          have hdr := below_drew (Below.refl w'.heap.size w') nq
          have hPd := hP.below hdr
          have hP8 := hPd.set z #[.slice z.bA z.base.length z.bc, .int .i64 z.t, .slice z.oA z.ops.length z.oc, .slice z.uA z.us.length z.uc, .slice z.wA z.now.length z.wc] rfl
          have hy8 := (hyz.below hdr).off hPd (by_row (w'.drewN nq) n6 #[.slice z.bA z.base.length z.bc, .int .i64 z.t, .slice z.oA z.ops.length z.oc, .slice z.uA z.us.length z.uc, .slice z.wA z.now.length z.wc])
          have hR8 := (hR.below hdr).rowN n6 #[.slice z.bA z.base.length z.bc, .int .i64 z.t, .slice z.oA z.ops.length z.oc, .slice z.uA z.us.length z.uc, .slice z.wA z.now.length z.wc] hn46
          have hB8 := below_setRow (hB.trans (hdr.mono hB.size)) (show w.heap.size ≤ n6 by have := HN.out; omega) #[.slice z.bA z.base.length z.bc, .int .i64 z.t, .slice z.oA z.ops.length z.oc, .slice z.uA z.us.length z.uc, .slice z.wA z.now.length z.wc]
          exact ⟨⟨k + 1, z, by omega, by go_num, by rw [HNX2.out]; exact hvz, hP8, hy8, hR8, hB8⟩, by simp [intOf]; omega⟩
    · obtain rfl : k = l.length := by omega
      go_wp2_with (first | (refine El.load pwRow rfl _ rfl n6 0 rfl y hP.at #[.slice y.bA y.base.length y.bc, .int .i64 y.t, .slice y.oA y.ops.length y.oc, .slice y.uA y.us.length y.uc, .slice y.wA y.now.length y.wc] rfl ?_) | (refine El.store pwRow rfl _ _ rfl n4 y #[.slice y.bA y.base.length y.bc, .int .i64 y.t, .slice y.oA y.ops.length y.oc, .slice y.uA y.us.length y.uc, .slice y.wA y.now.length y.wc] rfl rfl rfl Pw.zero hR ?_))
      refine El.ret2 pwRow (v := .bool true) (hR.set y #[.slice y.bA y.base.length y.bc, .int .i64 y.t, .slice y.oA y.ops.length y.oc, .slice y.uA y.us.length y.uc, .slice y.wA y.now.length y.wc] rfl) rfl rfl rfl rfl #[.slice y.bA y.base.length y.bc, .int .i64 y.t, .slice y.oA y.ops.length y.oc, .slice y.uA y.us.length y.uc, .slice y.wA y.now.length y.wc] rfl ?_
      exact ⟨y, rfl, hy.off hR (by_row _ _ _), hyv, below_setRow hB HN.out.1 _⟩
end Go.Proofs.Ytoidondngoljaaa

/- Slices among the arguments, opened. -/
namespace Go.Proofs.Ytoidondngoljaaa
open Go.ChangeShapes Go.WideShapes Go.ChangeAt Go.RowKit Go.Deep Nam Cod Tre Pst

set_option maxRecDepth 100000 in
theorem open_list {α : Type} (E : El α) (Q : α → Prop) {st : TypeId} (hu : Try.prog.underlying st = some (.slice E.e)) (hk : Try.prog.cellsOf E.e = E.k) [Inhabited α] {H : Type} {enc : TypeId × Value → H} {W : World} {base : Nat} {v : Value} {d : DataW H} {ps : List MemPlace}
    (hrd : ∀ {base : Nat} {sp : Nat → Bool} {held : Bool} {fuel : Nat} {cs : List Value} {x : DataW H × List MemPlace}, DataW.trod enc Try.prog W base sp held fuel E.e cs = some x → ∃ a, cs = E.c a ∧ Q a)
    (hv : Value.okWide Try.prog W .any base st v) (h : DataW.Trod enc Try.prog W 0 (fun _ => true) true st v d ps) :
    ∃ (A : Option Addr) (cap : Nat) (l : List α), v = .slice A l.length cap ∧ E.Sl W A l ∧ l.length ≤ cap ∧ (A = none → cap = 0) ∧ ∀ p ∈ l, Q p := by
  obtain ⟨a0, len, cap, rfl, _⟩ := okWide_slice hu hv
  obtain ⟨fuel, hf⟩ := h
  rcases open_slice hu hf with ⟨hcs, hx⟩ | ⟨a, len', cap', m, n, D, Pls, hcs, _, hle, hm, hmm, hx, hi⟩
  · simp [Value.cells] at hcs
    obtain ⟨rfl, rfl, rfl⟩ := hcs
    exact ⟨none, 0, [], rfl, El.Sl.nil W none, Nat.le_refl _, fun _ => rfl, fun p hp => by cases hp⟩
  · simp [Value.cells] at hcs
    obtain ⟨rfl, rfl, rfl⟩ := hcs
    simp only [if_true] at hmm
    have hv : ∀ i, i < m → ∃ p : α, Q p ∧ W.cells? 0 (a.add (i * E.k)) E.k = some (E.c p) := by
      intro i him
      obtain ⟨cs', h1, h2⟩ := hi i him
      rw [hk] at h1
      obtain ⟨p, rfl, hw⟩ := hrd h2
      exact ⟨p, hw, h1⟩
    obtain ⟨f, hf2⟩ := choose_lt hv
    have hlen : ((List.range len).map f).length = len := by simp
    refine ⟨some a, cap, (List.range len).map f, by rw [hlen], fun h => ?_, by rw [hlen]; exact hle, (fun e => by cases e), fun p hp => ?_⟩
    · rw [hlen] at h
      obtain ⟨bb, off, spot⟩ := a
      have cell : ∀ i, i < len → ∀ j v, (E.c (f i))[j]? = some v → W.cell? (((⟨bb, off, spot⟩ : Addr).add (i * E.k)).add j) = some v := by
        intro i hil j v hv
        obtain ⟨_, _, hcell⟩ := World.cells?_some (hf2 i (by omega)).2
        have hj : j < E.k := by have := (List.getElem?_eq_some_iff.1 hv).1; rw [E.len] at this; exact this
        have := hcell j hj
        rw [this]; exact hv
      have h00 : ∃ v, (E.c (f 0))[0]? = some v := ⟨(E.c (f 0))[0]'(by rw [E.len]; exact E.pos), List.getElem?_eq_getElem _⟩
      obtain ⟨v0, hv0⟩ := h00
      have hspot : spot = none := by
        have := cell 0 h 0 _ hv0
        simpa [Addr.add] using World.cell?_spot this
      subst hspot
      refine ⟨bb, off, rfl, (by have h9 := block_lt_of_cell (cell 0 h 0 _ hv0); rw [add_plain, add_plain] at h9; exact h9), fun i hil => ?_⟩
      have hil' : i < len := by rw [hlen] at hil; exact hil
      have he : ((List.range len).map f)[i] = f i := by simp
      rw [he]
      intro j u hu
      have := cell i hil' j u hu
      rwa [add_plain, add_plain] at this
    · obtain ⟨i, hi2, rfl⟩ := List.mem_map.1 hp
      exact (hf2 i (by have := List.mem_range.1 hi2; omega)).1

def WideMv (m : Mv) : Prop := Wide m.C m.D m.I m.M m.K m.U ∧ m.s.size ≤ maxLen
set_option maxRecDepth 100000 in
theorem open_ops {H : Type} {enc : TypeId × Value → H} {W : World} {base : Nat} {v : Value} {d : DataW H} {ps : List MemPlace}
    (hv : Value.okWide Try.prog W .any base 22 v) (h : DataW.Trod enc Try.prog W 0 (fun _ => true) true 22 v d ps) :
    ∃ (A : Option Addr) (cap : Nat) (l : List Mv), v = .slice A l.length cap ∧ opE.Sl W A l ∧ l.length ≤ cap ∧ (A = none → cap = 0) ∧ ∀ m ∈ l, WideMv m :=
  open_list opE WideMv Try.underlying22 cells25 (fun h => by
    obtain ⟨C, D, I, M, K, U, t, rfl, hw, ht⟩ := read_op h
    exact ⟨⟨C, D, I, M, K, U, t⟩, rfl, hw, ht⟩) hv h
set_option maxRecDepth 100000 in
theorem open_bytes {H : Type} {enc : TypeId × Value → H} {W : World} {base : Nat} {v : Value} {d : DataW H} {ps : List MemPlace}
    (hv : Value.okWide Try.prog W .any base 23 v) (h : DataW.Trod enc Try.prog W 0 (fun _ => true) true 23 v d ps) :
    ∃ (A : Option Addr) (cap : Nat) (l : List Int), v = .slice A l.length cap ∧ byE.Sl W A l ∧ l.length ≤ cap ∧ (A = none → cap = 0) ∧ ∀ t ∈ l, 0 ≤ t ∧ t ≤ 255 :=
  open_list byE (fun t => 0 ≤ t ∧ t ≤ 255) Try.underlying23 cells5 (fun h => by
    obtain ⟨x, e, _, wf⟩ := DataW.trod_int Try.underlying5 h
    have hb := bounds_u8 wf
    exact ⟨x, e, by omega, by omega⟩) hv h
set_option maxRecDepth 100000 in
theorem open_u8 {H : Type} {enc : TypeId × Value → H} {W : World} {base : Nat} {sp : Nat → Bool} {v : Value} {d : DataW H} {ps : List MemPlace}
    (hv : Value.okWide Try.prog W .any base 5 v) (h : DataW.Trod enc Try.prog W 0 sp true 5 v d ps) : ∃ t : Int, v = .int .u8 t ∧ 0 ≤ t ∧ t ≤ 255 := by
  obtain ⟨a, rfl, _, _, wf⟩ := open_int Try.underlying5 hv h
  have hb := bounds_u8 wf
  exact ⟨a, rfl, by omega, by omega⟩
theorem opsz {l : List Mv} (h : ∀ m ∈ l, WideMv m) : ∀ m ∈ l, m.s.size ≤ 9223372036854775807 := fun m hm => Nat.le_trans (h m hm).2 (by unfold maxLen; omega)
end Go.Proofs.Ytoidondngoljaaa

/- Same of two pasts that are the same; which past is right, of the program: the parts. -/
namespace Go.Proofs.Ytoidondngoljaaa
open Go.RowKit Tre Cod Pst

set_option maxRecDepth 100000 in
set_option maxHeartbeats 4000000 in
theorem samePast_any (x y : Pw) (w : World) (hx : PastOk w x) (hy : PastOk w y) (he : y.v = x.v) (hl1 : x.base.length ≤ 50000) (hl2 : x.ops.length ≤ 50000) (hl3 : x.us.length ≤ 50000) (hl4 : x.now.length ≤ 50000) :
    Calls Try.prog 16 #[.agg #[.slice x.bA x.base.length x.bc, .int .i64 x.t, .slice x.oA x.ops.length x.oc, .slice x.uA x.us.length x.uc, .slice x.wA x.now.length x.wc], .agg #[.slice y.bA y.base.length y.bc, .int .i64 y.t, .slice y.oA y.ops.length y.oc, .slice y.uA y.us.length y.uc, .slice y.wA y.now.length y.wc]] w fun e w' => e = .returned (.bool true) ∧ Below w.heap.size w w' := by
  obtain ⟨bA, bc, base, t, oA, oc, ops, uA, uc, us, wA, wc, now⟩ := x
  obtain ⟨bA', bc', base', t', oA', oc', ops', uA', uc', us', wA', wc', now'⟩ := y
  simp only [Pw.v, Pv.mk.injEq] at he
  obtain ⟨rfl, rfl, rfl, rfl, rfl⟩ := he
  simp only at hl1 hl2 hl3 hl4
  have hP : pwE.In ((w.alloc (.cells #[.slice bA base'.length bc, .int .i64 t', .slice oA ops'.length oc, .slice uA us'.length uc, .slice wA now'.length wc] 29)).alloc (.cells #[.slice bA' base'.length bc', .int .i64 t', .slice oA' ops'.length oc', .slice uA' us'.length uc', .slice wA' now'.length wc'] 29)) w.heap.size ⟨bA, bc, base', t', oA, oc, ops', uA, uc, us', wA, wc, now'⟩ := (El.In.new (E := pwE) w ⟨bA, bc, base', t', oA, oc, ops', uA, uc, us', wA, wc, now'⟩ _ rfl).alloc _
  have hQ : pwE.In ((w.alloc (.cells #[.slice bA base'.length bc, .int .i64 t', .slice oA ops'.length oc, .slice uA us'.length uc, .slice wA now'.length wc] 29)).alloc (.cells #[.slice bA' base'.length bc', .int .i64 t', .slice oA' ops'.length oc', .slice uA' us'.length uc', .slice wA' now'.length wc'] 29)) (w.heap.size + 1) ⟨bA', bc', base', t', oA', oc', ops', uA', uc', us', wA', wc', now'⟩ := by
    have h := El.In.new (E := pwE) (w.alloc (.cells #[.slice bA base'.length bc, .int .i64 t', .slice oA ops'.length oc, .slice uA us'.length uc, .slice wA now'.length wc] 29)) ⟨bA', bc', base', t', oA', oc', ops', uA', uc', us', wA', wc', now'⟩ _ rfl
    rw [alloc_size] at h; exact h
  have hB := below_alloc (below_alloc (Below.refl w.heap.size w) (.cells #[.slice bA base'.length bc, .int .i64 t', .slice oA ops'.length oc, .slice uA us'.length uc, .slice wA now'.length wc] 29)) (.cells #[.slice bA' base'.length bc', .int .i64 t', .slice oA' ops'.length oc', .slice uA' us'.length uc', .slice wA' now'.length wc'] 29)
  replace hx := hx.below hB
  replace hy := hy.below hB
  have C1 : ∀ wx, PastOk wx ⟨bA, bc, base', t', oA, oc, ops', uA, uc, us', wA, wc, now'⟩ → PastOk wx ⟨bA', bc', base', t', oA', oc', ops', uA', uc', us', wA', wc', now'⟩ → _ := fun wx h1 h2 => samePl_any bA bA' bc bc' base' base' wx hl1 hl1 h1.b.1 h2.b.1
  have C2 : ∀ wx, PastOk wx ⟨bA, bc, base', t', oA, oc, ops', uA, uc, us', wA, wc, now'⟩ → PastOk wx ⟨bA', bc', base', t', oA', oc', ops', uA', uc', us', wA', wc', now'⟩ → _ := fun wx h1 h2 => samePl_any wA wA' wc wc' now' now' wx hl4 hl4 h1.w.1 h2.w.1
  have C3 : ∀ wx, PastOk wx ⟨bA, bc, base', t', oA, oc, ops', uA, uc, us', wA, wc, now'⟩ → PastOk wx ⟨bA', bc', base', t', oA', oc', ops', uA', uc', us', wA', wc', now'⟩ → _ := fun wx h1 h2 => sameOp_any oA oA' oc oc' ops' ops' wx hl2 hl2 h1.o.1 h2.o.1
  have C4 : ∀ wx, PastOk wx ⟨bA, bc, base', t', oA, oc, ops', uA, uc, us', wA, wc, now'⟩ → PastOk wx ⟨bA', bc', base', t', oA', oc', ops', uA', uc', us', wA', wc', now'⟩ → _ := fun wx h1 h2 => sameUn_any uA uA' uc uc' us' us' wx hl3 hl3 h1.u.1 h2.u.1
  have HC1 := Lib.hid C1
  have HC2 := Lib.hid C2
  have HC3 := Lib.hid C3
  have HC4 := Lib.hid C4
  clear C1 C2 C3 C4
  go_enter Try.func16, Try.ntmps16
  go_wp2_with fail
  generalize ((w.alloc (.cells #[.slice bA base'.length bc, .int .i64 t', .slice oA ops'.length oc, .slice uA us'.length uc, .slice wA now'.length wc] 29)).alloc (.cells #[.slice bA' base'.length bc', .int .i64 t', .slice oA' ops'.length oc', .slice uA' us'.length uc', .slice wA' now'.length wc'] 29)) = W at *
  obtain ⟨n1, h1⟩ : ∃ n, w.heap.size + 1 = n := ⟨_, rfl⟩
  rw [h1] at hQ ⊢
  obtain ⟨n0, h0⟩ : ∃ n, w.heap.size = n := ⟨_, rfl⟩
  rw [h0] at hP ⊢
  clear h0 h1
  refine (HC1.out _ hx hy).mono ?_
  rintro e W1 ⟨b, rfl, hb, hbl⟩
  obtain rfl : b = true := by simpa using hb
  replace hP := hP.below hbl
  replace hQ := hQ.below hbl
  replace hx := hx.below hbl
  replace hy := hy.below hbl
  replace hB := hB.trans (hbl.mono (by have := hB.size; omega))
  clear hbl hb HC1
  obtain ⟨p0, p1, p2, p3, p4⟩ := pwIn5 hP
  obtain ⟨q0, q1, q2, q3, q4⟩ := pwIn5 hQ
  go_wp2_with fail
  clear p0 p1 p2 p3 p4 q0 q1 q2 q3 q4
  refine (HC2.out _ hx hy).mono ?_
  rintro e W2 ⟨b, rfl, hb, hbl⟩
  obtain rfl : b = true := by simpa using hb
  replace hP := hP.below hbl
  replace hQ := hQ.below hbl
  replace hx := hx.below hbl
  replace hy := hy.below hbl
  replace hB := hB.trans (hbl.mono (by have := hB.size; omega))
  clear hbl hb HC2
  obtain ⟨p0, p1, p2, p3, p4⟩ := pwIn5 hP
  obtain ⟨q0, q1, q2, q3, q4⟩ := pwIn5 hQ
  go_wp2_with fail
  clear p0 p1 p2 p3 p4 q0 q1 q2 q3 q4
  refine (HC3.out _ hx hy).mono ?_
  rintro e W3 ⟨b, rfl, hb, hbl⟩
  obtain rfl : b = true := by simpa using hb
  replace hP := hP.below hbl
  replace hQ := hQ.below hbl
  replace hx := hx.below hbl
  replace hy := hy.below hbl
  replace hB := hB.trans (hbl.mono (by have := hB.size; omega))
  clear hbl hb HC3
  obtain ⟨p0, p1, p2, p3, p4⟩ := pwIn5 hP
  obtain ⟨q0, q1, q2, q3, q4⟩ := pwIn5 hQ
  go_wp2_with fail
  clear p0 p1 p2 p3 p4 q0 q1 q2 q3 q4
  refine (HC4.out _ hx hy).mono ?_
  rintro e W4 ⟨b, rfl, hb, hbl⟩
  obtain rfl : b = true := by simpa using hb
  replace hP := hP.below hbl
  replace hQ := hQ.below hbl
  replace hx := hx.below hbl
  replace hy := hy.below hbl
  replace hB := hB.trans (hbl.mono (by have := hB.size; omega))
  clear hbl hb HC4
  go_wp2_with fail
  go_ret
  exact ⟨rfl, hB⟩
end Go.Proofs.Ytoidondngoljaaa

/- Of operations that come with nothing settled between: what is there, and what comes too late. -/
namespace Go.Proofs.Ytoidondngoljaaa
open Go.ChangeShapes Go.WideShapes Go.ChangeAt Go.RowKit Go.Deep Nam Cod Tre Pst

/-- Nothing is settled in between: every operation's moment is there. -/
theorem stG_has {l : List Mv} (hl : ∀ m ∈ l, m.ok) : ∀ k, k ≤ l.length → (stG l [] k).t = 0 ∧ ∀ i (h : i < l.length), i < k → has Mv.C Mv.D (stG l [] k).ops l[i] = true
  | 0, _ => ⟨rfl, fun i h hi => by omega⟩
  | k + 1, hk => by
    obtain ⟨h1, h2⟩ := stG_has hl k (by omega)
    have hI := (stG_inv hl [] k).1
    have hn : stG l [] (k + 1) = (addV (stG l [] k) l[k]).1 := by rw [stG_next (at_ := []) (show k < l.length by omega) rfl]; rfl
    rw [hn]
    generalize stG l [] k = q at *
    have hC := (ok_C (hl l[k] (List.getElem_mem _))).1
    have hgt : ¬ l[k].C ≤ q.t := by omega
    rcases hh : has Mv.C Mv.D q.ops l[k] with _ | _
    · rw [addV_new' hgt hh]
      refine ⟨h1, fun i h hi => ?_⟩
      have hr := ris_ins hI.ris hh
      show has Mv.C Mv.D (insL Mv.C Mv.D q.ops l[k]) l[i] = true
      rw [has_iff hr]
      by_cases e : i = k
      · subst e; exact ⟨l[i], (mem_ins _ _ _).2 (Or.inl rfl), ⟨rfl, rfl⟩⟩
      · obtain ⟨x, hx, hs⟩ := (has_iff hI.ris l[i]).1 (h2 i h (by omega))
        exact ⟨x, (mem_ins _ _ _).2 (Or.inr hx), hs⟩
    · rw [addV_same' hgt hh]
      refine ⟨h1, fun i h hi => ?_⟩
      by_cases e : i = k
      · subst e; exact hh
      · exact h2 i h (by omega)
theorem late_all {l : List Mv} (hl : ∀ m ∈ l, m.ok) (t : Int) (i : Nat) (h : i < l.length) : addV (settleV (stG l [] l.length) t) l[i] = (settleV (stG l [] l.length) t, false) := by
  obtain ⟨h1, h2⟩ := stG_has hl l.length (Nat.le_refl _)
  have hI := (stG_inv hl [] l.length).1
  have h3 := h2 i h h
  generalize stG l [] l.length = q at *
  have hC := (ok_C (hl l[i] (List.getElem_mem _))).1
  by_cases ht : t ≤ q.t
  · rw [settleV_late' ht]
    exact addV_same' (by omega) h3
  · rw [hI.settle_eq ht]
    by_cases hct : l[i].C ≤ t
    · exact addV_late' hct
    · refine addV_same' hct ?_
      show has Mv.C Mv.D (q.ops.drop (upto Mv.C q.ops t)) l[i] = true
      rw [← has_cut hI.ris (by omega)]; exact h3

end Go.Proofs.Ytoidondngoljaaa

/- The library's contract of Builder.String, laid at this program's numbers. -/
namespace Go.Proofs.Ytoidondngoljaaa
open Go.Shelf
def lays169_ren : Go.Shelf.Ren := ⟨fun | 169 => 57 | n => n, fun | 70 => 77 | 9 => 9 | 0 => 0 | 72 => 79 | 37 => 23 | 127 => 104 | 3 => 3 | 5 => 5 | n => n, fun | n => n⟩
theorem lays169 : Go.Proofs.Lays.n169 Try.prog lays169_ren := {
  mixed := by kernel_rfl
  f169 := Try.func57.trans (congrArg some (by kernel_rfl))
  t0 := Try.underlying0
  a0 := Try.isAgg0
  z0 := Try.sizeOf0
  v0 := Try.zeroValue0
  t3 := Try.underlying3
  a3 := Try.isAgg3
  z3 := Try.sizeOf3
  v3 := Try.zeroValue3
  t9 := Try.underlying9
  a9 := Try.isAgg9
  z9 := Try.sizeOf9
  v9 := Try.zeroValue9
  t37 := Try.underlying23
  a37 := Try.isAgg23
  z37 := Try.sizeOf23
  v37 := Try.zeroValue23
  t70 := Try.underlying77
  a70 := Try.isAgg77
  z70 := Try.sizeOf77
  v70 := Try.zeroValue77
  t72 := Try.underlying79
  a72 := Try.isAgg79
  z72 := Try.sizeOf79
  v72 := Try.zeroValue79
  t127 := Try.underlying104
  a127 := Try.isAgg104
  z127 := Try.sizeOf104
  v127 := Try.zeroValue104 }
theorem builder_Extra_169 : Builder.Extra Try.prog lays169_ren := {
  sizeBuilder := by kernel_rfl
  liesBuilder := by kernel_rfl
  t5 := Try.underlying5
  a5 := Try.isAgg5
  z5 := Try.sizeOf5
  v5 := Try.zeroValue5
  infoByte := by kernel_rfl
  cellsByte := by kernel_rfl
  sizeByte := by kernel_rfl
  neB5 := by decide }
open Go.RowKit in
theorem builder_String_any (B b : Nat) (l : List UInt8) (w : World) (h : Lib.IsBuilder 79 5 B b (Lib.byteCells l) w) (hBw : B ≤ w.heap.size) :
    Calls Try.prog 57 #[.pointer (some ⟨b, 0, none⟩)] w fun e w' => e = .returned (.string ⟨l.toArray⟩) ∧ Below B w w' := Any.Builder_String_any lays169 builder_Extra_169 B b l w h hBw
end Go.Proofs.Ytoidondngoljaaa

/- The library's Builder: what WriteString does with one of the call's own. -/
namespace Go.Proofs.Ytoidondngoljaaa
open Go.RowKit

theorem bd_info : ∃ j, Try.prog.info? 79 = some j ∧ j.size = 2 := by
  have h : (Try.prog.info? 79).map (·.size) = some 2 := by kernel_rfl
  obtain ⟨j, hj, hjs⟩ := Option.map_eq_some_iff.1 h
  exact ⟨j, hj, hjs⟩
theorem bd_lies : liesAt Try.prog Try.prog.depth 79 (2 / Try.prog.cellsOf 79) 0 79 1 = true := by kernel_rfl
set_option maxRecDepth 100000 in
theorem ccheck_used (b : Nat) (w : World) (h0 : w.cell? ⟨b, 0, none⟩ = some (.pointer (some ⟨b, 0, none⟩))) :
    Calls Try.prog 78 #[.pointer (some ⟨b, 0, none⟩)] w fun e w' => e = .returned (.tuple #[]) ∧ w' = w := by
  obtain ⟨j, hj, _⟩ := bd_info
  go_enter Try.func78, Try.ntmps78
  go_wp2
  rw [Lib.run_neq_ptr_same w _ Try.underlying77 hj]
  go_wp2
  go_end0
  exact ⟨rfl, rfl⟩
set_option maxRecDepth 100000 in
theorem ccheck_new (b : Nat) (w : World) (h0 : w.cell? ⟨b, 0, none⟩ = some (.pointer none)) (hsh : w.shape? b = some (79, 2)) (hfz : w.frozen? ⟨b, 0, none⟩ = false) :
    Calls Try.prog 78 #[.pointer (some ⟨b, 0, none⟩)] w fun e w' => e = .returned (.tuple #[]) ∧ w' = w.setCell ⟨b, 0, none⟩ (.pointer (some ⟨b, 0, none⟩)) := by
  obtain ⟨j, hj, hjs⟩ := bd_info
  go_enter Try.func78, Try.ntmps78
  go_wp2
  rw [Lib.run_to_unsafe w ⟨b, 0, none⟩ Try.underlying77 Try.underlying119 hj (by rw [hjs]; decide) hsh (Nat.zero_lt_succ 1)]
  simp only [Result.andThen]
  rw [Oper.upon_value]
  go_wp2
  rw [run_callFunc_extern Try.func98 (by kernel_rfl) (by kernel_rfl) (by kernel_rfl) (e := Extern.AbiNoEscape.same) (by kernel_rfl)]
  rw [Lib.run_noEscape]
  simp only [Result.andThen]
  rw [Oper.upon_value]
  go_wp2
  rw [Lib.run_from_unsafe w ⟨b, 0, none⟩ Try.underlying119 Try.underlying77 hj hsh bd_lies]
  simp only [Result.andThen]
  rw [Oper.upon_value]
  go_wp2
  go_end0
  exact ⟨rfl, rfl⟩

/-- What is no row of bytes and isn't block b stays. -/
def Rest (b : Nat) (w w' : World) : Prop := ∀ k cs T fr, w.heap[k]? = some (.cells cs T fr) → k ≠ b → T ≠ 5 → w'.heap[k]? = w.heap[k]?
theorem Rest.then {b : Nat} {w w1 w2 : World} (h : Rest b w w1) (k : Rest b w1 w2) : Rest b w w2 := fun i cs T fr hi hne hT => by
  have h1 := h i cs T fr hi hne hT
  rw [k i cs T fr (h1.trans hi) hne hT, h1]
theorem Rest.cell (b : Nat) (w : World) (j : Nat) (v : Value) : Rest b w (w.setCell ⟨b, j, none⟩ v) := fun k _ _ _ _ hne _ => Below.heap_setCell _ _ _ _ hne

theorem ccheck_any (B b : Nat) (bs : List Value) (w : World) (h : Lib.IsBuilder 79 5 B b bs w) :
    Calls Try.prog 78 #[.pointer (some ⟨b, 0, none⟩)] w fun e w' => e = .returned (.tuple #[]) ∧ Lib.BuilderAt 79 5 B b (.pointer (some ⟨b, 0, none⟩)) bs w' ∧ Below B w w' ∧ Rest b w w' := by
  rcases h with h | h
  · refine (ccheck_new b w h.cell0 h.shape h.frozen0).mono ?_
    rintro e w' ⟨rfl, rfl⟩
    exact ⟨rfl, h.used _, (Below.refl B w).setCell (p := ⟨b, 0, none⟩) h.1 _, Rest.cell b w 0 _⟩
  · refine (ccheck_used b w h.cell0).mono ?_
    rintro e w' ⟨rfl, rfl⟩
    exact ⟨rfl, h, Below.refl B _, fun _ _ _ _ _ _ _ => rfl⟩

set_option maxHeartbeats 1000000 in
set_option maxRecDepth 100000 in
theorem wstr_any (B b : Nat) (bs : List Value) (s : ByteArray) (w : World) (h : Lib.IsBuilder 79 5 B b bs w) (hlen : bs.length + s.size ≤ 140737488355328) (hBw : B ≤ w.heap.size) :
    Calls Try.prog 53 #[.pointer (some ⟨b, 0, none⟩), .string s] w fun e w' => e = .returned (.tuple #[.int .i64 s.size, .nilIface]) ∧ Lib.IsBuilder 79 5 B b (bs ++ Lib.strCells s) w' ∧ Below B w w' ∧ Rest b w w' := by
  have X := builder_Extra_169
  obtain ⟨i0, hi, hz0, hz1, hz2⟩ := info_parts X.infoByte
  have C := ccheck_any B b bs w h
  go_enter Try.func53, Try.ntmps53
  go_wp2_with (go_at_call 78; (with_reducible refine C.mono ?_))
  rintro e w1 ⟨rfl, h1, hb1, hr1⟩
  obtain ⟨hB, v, hbk, hown, hne⟩ := h1
  have c0 : w1.cell? ⟨b, 0, none⟩ = some (.pointer (some ⟨b, 0, none⟩)) := by rw [Lib.cell_of_heap hbk]; rfl
  have c1 : w1.cell? ⟨b, 1, none⟩ = some v := by rw [Lib.cell_of_heap hbk]; rfl
  go_wp2_with (at_builtin; refine Lib.wpList_append_own_string _ rfl _ _ 23 9 rfl B 5 i0 Try.underlying23 Try.underlying9 hi hz0 hz1 hz2 _ _ _ rfl hown s rfl ?c3 ?c4 ?c5 ?_)
  case c3 => unfold maxLen; omega
  case c4 => omega
  case c5 => have := hb1.size; omega
  intro v' w2 hown' hgrow _
  have hlt : b < w1.heap.size := by
    rcases Nat.lt_or_ge b w1.heap.size with h' | h'
    · exact h'
    · simp [Array.getElem?_eq_none h'] at hbk
  have hb2 : w2.heap[b]? = some (.cells #[.pointer (some ⟨b, 0, none⟩), v] 79 (0, 0)) := by
    rw [hgrow.block b hlt (fun e => hne e.symm)]
    exact hbk
  have d0 : w2.cell? ⟨b, 0, none⟩ = some (.pointer (some ⟨b, 0, none⟩)) := by rw [Lib.cell_of_heap hb2]; rfl
  have d1 : w2.cell? ⟨b, 1, none⟩ = some v := by rw [Lib.cell_of_heap hb2]; rfl
  have f1 : w2.frozen? ⟨b, 1, none⟩ = false := Lib.frozen_of_heap hb2 1
  have hr2 : Rest b w1 w2 := fun k cs T fr hk hkb hT => by
    have hkl : k < w1.heap.size := by
      rcases Nat.lt_or_ge k w1.heap.size with h' | h'
      · exact h'
      · simp [Array.getElem?_eq_none h'] at hk
    exact hgrow.block k hkl (fun e => Lib.ownBlock_ne hown hk hT e.symm)
  obtain ⟨ao, n', cap, rfl⟩ : ∃ ao n' cap, v' = .slice ao n' cap := by
    rcases hown'.2 with ⟨hv, _⟩ | ⟨g, cap, cur, hv, _⟩
    · exact ⟨_, _, _, hv⟩
    · exact ⟨_, _, _, hv⟩
  go_wp2
  go_ret2
  refine ⟨rfl, Or.inr ?_, ?_, (hr1.then hr2).then (Rest.cell b w2 1 _)⟩
  · exact Lib.BuilderAt.put (T := 79) (e := 5) hB hb2 (bs' := bs ++ Lib.strCells s) (by simpa [Lib.strCells_length] using hown') X.neB5
  · exact (hb1.grown hgrow (by have := hb1.size; omega) (fun k hk => (hown.lt k hk).1)).setCell (p := ⟨b, 1, none⟩) hB _
end Go.Proofs.Ytoidondngoljaaa

/- What Print gives, of the program and of the document. -/
namespace Go.Proofs.Ytoidondngoljaaa
open Go.RowKit Tre Nam Cod

theorem strCells_app (a b : ByteArray) : Lib.strCells (a ++ b) = Lib.strCells a ++ Lib.strCells b := by
  unfold Lib.strCells; rw [← List.map_append]; congr 1
theorem back_L (x : ByteArray) : (⟨(L x).toArray⟩ : ByteArray) = x := by cases x; simp [L]
theorem headOf (l : List Pl) (n : Nat) (h : l.length ≤ 1000) : (bytesOf l.length).size ≤ 10 := bytesOf_le _ (by omega) (by omega)
theorem catL_take (l : List Pl) (k : Nat) (h : k < l.length) : catL (l.take (k + 1)) = catL (l.take k) ++ plBytes l[k] := by
  rw [List.take_succ_eq_append_getElem h, catL_snoc]
theorem take_le {l : List Pl} (hf : ∀ p ∈ l, Fit p) (k : Nat) : (catL (l.take k)).size ≤ 46 * l.length := by
  have h := catL_le (l.take k) (fun p hp => hf p (List.mem_of_mem_take hp))
  have : (l.take k).length ≤ l.length := by rw [List.length_take]; omega
  omega
theorem builder_new (w : World) : Lib.IsBuilder 79 5 w.heap.size w.heap.size [] (w.alloc (.cells #[.pointer none, .slice none 0 0] 79)) :=
  Or.inl ⟨Nat.le_refl _, _, heap_alloc_new w _, World.ownsRow_nil _ _ _ _, by simp [Value.ownBlock]⟩
theorem builder_below {B b : Nat} {bs : List Value} {w w' : World} (h : Lib.IsBuilder 79 5 B b bs w) (hb : Below w.heap.size w w') : Lib.IsBuilder 79 5 B b bs w' := by
  have key : ∀ p, Lib.BuilderAt 79 5 B b p bs w → Lib.BuilderAt 79 5 B b p bs w' := fun p h => by
    have hlt := h.lt
    obtain ⟨hB, v, hbk, hown, hne⟩ := h
    refine ⟨hB, v, (hb.block b hlt).trans hbk, hown.kept (row := none) ⟨hb.os, hb.tape, hb.output, hb.size, fun k hk _ => hb.block k hk⟩ ?_, hne⟩
    cases hv : v.ownBlock <;> simp
  rcases h with h | h
  · exact Or.inl (key _ h)
  · exact Or.inr (key _ h)
theorem PlIn.rest {w w' : World} {b k : Nat} {p : Pl} (h : PlIn w k p) (hr : Rest b w w') (hne : k ≠ b) : PlIn w' k p := (hr k _ _ _ h hne (by decide)).trans h

set_option maxRecDepth 100000 in
set_option maxHeartbeats 4000000 in
theorem print_any (A : Option Addr) (cap : Nat) (l : List Pl) (w : World) (hl : l.length ≤ 1000) (hf : ∀ p ∈ l, Fit p) (hT : Tr w A l) :
    Calls Try.prog 54 #[.slice A l.length cap] w fun e w' => e = .returned (.string (treeBytes l)) ∧ Below w.heap.size w w' := by
  have cn := fun w => num_any (l.length : Int) w (by omega) (by omega)
  have hh := headOf l 0 hl
  have hT0 : treeBytes l = bytesOf l.length ++ catL l := rfl
  have HT0 := Lib.hid hT0
  generalize bytesOf (l.length : Int) = H at *
  have CN := Lib.hid cn
  clear hT0 cn
  go_enter Try.func54, Try.ntmps54
  go_wp2_with fail
  have hb0 := builder_new w
  have hB0 := below_alloc (Below.refl w.heap.size w) (.cells #[.pointer none, .slice none 0 0] 79)
  have hlt0 : w.heap.size < (w.alloc (.cells #[.pointer none, .slice none 0 0] 79)).heap.size := by simp
  generalize w.alloc (.cells #[.pointer none, .slice none 0 0] 79) = W0 at *
  refine (CN.out _).mono ?_
  rintro e w1 ⟨rfl, hb1⟩
  have hbd := builder_below hb0 hb1
  have hB1 := below_then hB0 hb1
  have hlt1 := Nat.lt_of_lt_of_le hlt0 hb1.size
  clear hb0 hB0 hb1 hlt0
  go_wp2_with fail
  refine (wstr_any _ _ _ H _ hbd (by simp; omega) (Nat.le_of_lt hlt1)).mono ?_
  rintro e w2 ⟨rfl, hbd2, hB2', hr2⟩
  have hB2 := hB1.trans hB2'
  have hlt2 : w.heap.size < w2.heap.size := by rcases hbd2 with h | h <;> exact h.lt
  clear hbd hB1 hlt1 CN hB2' hr2
  have e0 : [] ++ Lib.strCells H = Lib.strCells (H ++ catL (l.take 0)) := by simp [catL]; rw [bempty]
  rw [e0] at hbd2
  clear e0
  go_wp2
  go_loopw [12] (fun x wr => ∃ k : Nat, k ≤ l.length ∧ x = .int .i64 k ∧ Lib.IsBuilder 79 5 w.heap.size w.heap.size (Lib.strCells (H ++ catL (l.take k))) wr ∧ Below w.heap.size w wr ∧ w.heap.size < wr.heap.size) (fun x _ => l.length - (intOf x).toNat)
  case atStart => exact ⟨0, Nat.zero_le _, rfl, hbd2, hB2, hlt2⟩
  case round =>
    clear hbd2 hB2 hlt2
    obtain ⟨k, hk, rfl, hbd, hnx, hsz⟩ := hrel
    have htl := take_le hf k
    by_cases hlt : k < l.length
    · obtain ⟨bb, off, hAe, hbw, hc⟩ := hT (by omega)
      have hbr := Nat.lt_of_lt_of_le hbw hnx.size
      have hat := (hc k hlt).below hnx hbw
      have hft := hf _ (List.getElem_mem hlt)
      have hcat := catL_take l k hlt
      obtain ⟨p, hp⟩ : ∃ p, l[k] = p := ⟨_, rfl⟩
      rw [hp] at hat hft hcat
      obtain ⟨q0, q1, q2⟩ := hat
      have hcat2 : H ++ catL (l.take (k + 1)) = (H ++ catL (l.take k)) ++ (bytesOf p.n ++ bytesOf p.u ++ textOf p.s) := by rw [hcat, ByteArray.append_assoc]; rfl
      have z := plBytes_le hft
      unfold plBytes at z
      have n1 := fun w => num_any p.n w hft.n1 hft.n2
      have n2 := fun w => num_any p.u w hft.u1 hft.u2
      have n3 := fun w => text_any p.s w (by have := hft.s; omega)
      have hXs : (H ++ catL (l.take k)).size = H.size + (catL (l.take k)).size := ByteArray.size_append
      generalize catL (l.take k) = T at *
      generalize H ++ T = X at *
      generalize bytesOf p.n = x1 at *
      generalize bytesOf p.u = x2 at *
      generalize textOf p.s = x3 at *
      simp only [ByteArray.size_append] at z
      have y1 : ¬ 9223372036854775807 < x1.size + x2.size := by omega
      have y2 : ¬ 9223372036854775807 < x1.size + x2.size + x3.size := by omega
      have HC := Lib.hid hcat2
      have N1 := Lib.hid n1
      have N2 := Lib.hid n2
      have N3 := Lib.hid n3
      have HF := Lib.hid hf
      clear hcat hcat2 n1 n2 n3 hc hf hp hft
      subst hAe
      go_wp2
      have hO := PlIn.new wr p
      have hbd := builder_below hbd (below_alloc (Below.refl _ wr) (.cells #[.int .i64 p.n, .int .i64 p.u, .string p.s] 58))
      have hnx := below_alloc hnx (.cells #[.int .i64 p.n, .int .i64 p.u, .string p.s] 58)
      have hsz1 : w.heap.size < (wr.alloc (.cells #[.int .i64 p.n, .int .i64 p.u, .string p.s] 58)).heap.size := by simp; omega
      have hpb : wr.heap.size ≠ w.heap.size := by omega
      generalize wr.alloc (.cells #[.int .i64 p.n, .int .i64 p.u, .string p.s] 58) = W at *
      generalize wr.heap.size = pb at *
      have hO : PlIn W.drew pb p := hO
      have hbd : Lib.IsBuilder 79 5 w.heap.size w.heap.size (Lib.strCells X) W.drew := hbd
      have hN : Below w.heap.size w W.drew := hnx.drew
      have hL : w.heap.size < W.drew.heap.size := hsz1
      clear hnx hsz1 q0 q1 q2 hsz
      go_region_held3 (fun w' => w'.cell? ⟨pb, 0, none⟩ = some (.int .i64 p.n) ∧ w'.cell? ⟨pb, 1, none⟩ = some (.int .i64 p.u) ∧ w'.cell? ⟨pb, 2, none⟩ = some (.string p.s)) (first | exact hO.cells) (first | (go_at_call 55; (with_reducible refine (N1.out _).mono ?_); rintro e w3 ⟨rfl, hb3⟩; have hO := hO.below hb3; have hbd := builder_below hbd hb3; have hN := below_then hN hb3; have hL := Nat.lt_of_lt_of_le hL hb3.size) | (go_at_call 55; (with_reducible refine (N2.out _).mono ?_); rintro e w3 ⟨rfl, hb3⟩; have hO := hO.below hb3; have hbd := builder_below hbd hb3; have hN := below_then hN hb3; have hL := Nat.lt_of_lt_of_le hL hb3.size) | (go_at_call 79; (with_reducible refine (N3.out _).mono ?_); rintro e w3 ⟨rfl, hb3⟩; have hO := hO.below hb3; have hbd := builder_below hbd hb3; have hN := below_then hN hb3; have hL := Nat.lt_of_lt_of_le hL hb3.size) | (go_at_call 53; (with_reducible refine (wstr_any _ _ _ _ _ hbd (by simp [Lib.strCells_length, ByteArray.size_append]; omega) (Nat.le_of_lt hL)).mono ?_); rintro e w4 ⟨rfl, hbd4, hN4, hr4⟩; have hO := hO.rest hr4 hpb; have hN := hN.trans hN4))
      all_goals
        go_wp2
        go_roundw
        case rel => exact ⟨k + 1, by omega, by go_num, by rw [HC.out, strCells_app]; exact hbd4, hN, by have := hbd4; rcases this with h | h <;> exact h.lt⟩
        case measure => simp [intOf]; omega
    · obtain rfl : k = l.length := by omega
      have HB := Lib.hid hbd
      rw [List.take_length] at hbd
      have C := builder_String_any w.heap.size w.heap.size (L (H ++ catL l)) wr hbd (Nat.le_of_lt hsz)
      have he : (⟨(L (H ++ catL l)).toArray⟩ : ByteArray) = treeBytes l := by rw [HT0.out]; exact back_L _
      rw [he] at C
      have HC := Lib.hid C
      clear C he hbd HT0
      go_wp2_with (go_at_call 57; (with_reducible refine HC.out.mono ?_); rintro e w5 ⟨rfl, hb5⟩)
      go_ret
      exact ⟨rfl, hnx.trans hb5⟩

set_option maxHeartbeats 4000000 in
theorem refPrint_any (A : Option Addr) (cap : Nat) (l : List Pl) (w : World) (hl : l.length ≤ 1000) (hf : ∀ p ∈ l, Fit p) (hT : Tr w A l) :
    Calls Try.prog 58 #[.slice A l.length cap] w fun e w' => e = .returned (.string (treeBytes l)) ∧ Below w.heap.size w w' := by
  have cn := fun w => refNum_any (l.length : Int) w (by omega) (by omega)
  have hh := headOf l 0 hl
  have hT0 : treeBytes l = bytesOf l.length ++ catL l := rfl
  have HT0 := Lib.hid hT0
  generalize bytesOf (l.length : Int) = H at *
  have CN := Lib.hid cn
  clear hT0 cn
  go_enter Try.func58, Try.ntmps58
  go_wp2_with (go_at_call 59; (with_reducible refine (CN.out _).mono ?_); rintro e w1 ⟨rfl, hb1⟩)
  go_loopw [3, 4] (fun v x wr => ∃ k : Nat, k ≤ l.length ∧ x = .int .i64 k ∧ v = .string (H ++ catL (l.take k)) ∧ Below w.heap.size w wr) (fun _ x _ => l.length - (intOf x).toNat)
  case atStart => exact ⟨0, Nat.zero_le _, rfl, by simp [catL]; rw [bempty], hb1⟩
  case round =>
    obtain ⟨k, hk, rfl, rfl, hnx⟩ := hrel
    have htl := take_le hf k
    by_cases hlt : k < l.length
    · obtain ⟨bb, off, hAe, hbw, hc⟩ := hT (by omega)
      have hbr := Nat.lt_of_lt_of_le hbw hnx.size
      have hat := (hc k hlt).below hnx hbw
      have hft := hf _ (List.getElem_mem hlt)
      have hcat := catL_take l k hlt
      obtain ⟨p, hp⟩ : ∃ p, l[k] = p := ⟨_, rfl⟩
      rw [hp] at hat hft hcat
      obtain ⟨q0, q1, q2⟩ := hat
      have hcat2 : H ++ catL (l.take (k + 1)) = (H ++ catL (l.take k)) ++ bytesOf p.n ++ bytesOf p.u ++ textOf p.s := by rw [hcat]; unfold plBytes; simp only [ByteArray.append_assoc]
      have z := plBytes_le hft
      unfold plBytes at z
      have n1 := fun w => refNum_any p.n w hft.n1 hft.n2
      have n2 := fun w => refNum_any p.u w hft.u1 hft.u2
      have n3 := fun w => refText_any p.s w (by have := hft.s; omega)
      have hXs : (H ++ catL (l.take k)).size = H.size + (catL (l.take k)).size := ByteArray.size_append
      generalize catL (l.take k) = T at *
      generalize H ++ T = X at *
      generalize bytesOf p.n = x1 at *
      generalize bytesOf p.u = x2 at *
      generalize textOf p.s = x3 at *
      simp only [ByteArray.size_append] at z
      have HC := Lib.hid hcat2
      have k0 := cell_regrown q0
      have k1 := cell_regrown q1
      have k2 := cell_regrown q2
      have N1 := Lib.hid n1
      have N2 := Lib.hid n2
      have N3 := Lib.hid n3
      have HF := Lib.hid hf
      clear hcat hcat2 n1 n2 n3 hc hf hp hft q0 q1 q2
      subst hAe
      have y0 : X.size ≤ 47000 := by omega
      have y1 : x1.size ≤ 46 := by omega
      have y2 : x2.size ≤ 46 := by omega
      have y3 : x3.size ≤ 46 := by omega
      have d1 : ∀ d os, Calls Try.prog 59 #[.int .i64 p.n] (Sort.grow (redrawn wr d) os) fun e w'' => e = .returned (.string x1) ∧ ∃ p : Regrown, w'' = Sort.grow (redrawn wr p.d) p.os := fun d os => Calls.regrown_of (N1.out _)
      have d2 : ∀ d os, Calls Try.prog 59 #[.int .i64 p.u] (Sort.grow (redrawn wr d) os) fun e w'' => e = .returned (.string x2) ∧ ∃ p : Regrown, w'' = Sort.grow (redrawn wr p.d) p.os := fun d os => Calls.regrown_of (N2.out _)
      have d3 : ∀ d os, Calls Try.prog 81 #[.string p.s] (Sort.grow (redrawn wr d) os) fun e w'' => e = .returned (.string x3) ∧ ∃ p : Regrown, w'' = Sort.grow (redrawn wr p.d) p.os := fun d os => Calls.regrown_of (N3.out _)
      go_wp2
      refine wp_region_quiet_below (by kernel_rfl) (by kernel_rfl) ?_
      repeat (go_big_quiet_step ((with_reducible (first | exact d1 _ _ | exact d2 _ _ | exact d3 _ _))))
      refine wpQuiet_nil ?_
      intro _ hw'
      obtain ⟨⟨dq, osq⟩, hw''⟩ := hw'
      subst hw''
      go_wp2
      go_roundw
      case rel => exact ⟨k + 1, by omega, by go_num, by rw [HC.out], below_then hnx (below_regrown wr dq osq)⟩
      case measure => simp [intOf]; omega
    · obtain rfl : k = l.length := by omega
      rw [List.take_length]
      go_wp2
      go_ret
      exact ⟨by rw [HT0.out]; rfl, hnx⟩
end Go.Proofs.Ytoidondngoljaaa

/- The document's Print. -/
namespace Go.Proofs.Ytoidondngoljaaa
open Go.RowKit Tre Cod Pst

/-- Operations' bytes, one behind the other. -/
def catM (l : List Mv) : ByteArray := l.foldl (fun s m => s ++ m.bytes) ⟨#[]⟩
theorem catM_snoc (l : List Mv) (m : Mv) : catM (l ++ [m]) = catM l ++ m.bytes := by unfold catM; rw [List.foldl_append]; rfl
theorem catM_next {l : List Mv} {k : Nat} {m : Mv} (h : k < l.length) (hm : l[k] = m) : catM (l.take (k + 1)) = catM (l.take k) ++ m.bytes := by
  rw [List.take_succ_eq_append_getElem h, catM_snoc, hm]
theorem catM_le : ∀ (l : List Mv) (k : Nat), (∀ m ∈ l, m.ok) → (catM (l.take k)).size ≤ 86 * l.length
  | l, 0, _ => by show (ByteArray.mk #[]).size ≤ _; exact Nat.zero_le _
  | l, k + 1, h => by
    by_cases hk : k < l.length
    · have h1 : ∀ j, j ≤ l.length → (catM (l.take j)).size ≤ 86 * j := by
        intro j
        induction j with
        | zero => intro _; exact Nat.zero_le _
        | succ j ih =>
          intro hj
          rw [catM_next (by omega) rfl, ByteArray.size_append]
          have := ih (by omega)
          have := bytes_le (h l[j] (List.getElem_mem _))
          omega
      have := h1 (k + 1) hk
      omega
    · have e : l.take (k + 1) = l.take k := by rw [List.take_of_length_le (by omega), List.take_of_length_le (by omega)]
      rw [e]; exact catM_le l k h
def headV (q : Pv) : ByteArray := treeBytes q.base ++ bytesOf q.t ++ bytesOf q.ops.length
def pastBytes (q : Pv) : ByteArray := headV q ++ catM q.ops

set_option maxRecDepth 100000 in
set_option maxHeartbeats 4000000 in
theorem pastRefPrint_any (x : Pw) (w : World) (hx : PastOk w x) (hl : x.base.length ≤ 1000) (hl2 : x.ops.length ≤ 1000) (hf : ∀ p ∈ x.base, Fit p) (ht : i64 x.t) (ho : ∀ m ∈ x.ops, m.ok) (hts : (treeBytes x.base).size ≤ 100000) :
    Calls Try.prog 23 #[.agg #[.slice x.bA x.base.length x.bc, .int .i64 x.t, .slice x.oA x.ops.length x.oc, .slice x.uA x.us.length x.uc, .slice x.wA x.now.length x.wc]] w fun e w' => e = .returned (.string (pastBytes x.v)) ∧ Below w.heap.size w w' := by
  obtain ⟨bA, bc, base, t, oA, oc, ops, uA, uc, us, wA, wc, now⟩ := x
  simp only at hl hl2 hf ht ho hts
  have hxo := hx.o
  have hxb := hx.b
  simp only at hxo hxb
  clear hx
  have hv : pastBytes (⟨bA, bc, base, t, oA, oc, ops, uA, uc, us, wA, wc, now⟩ : Pw).v = (treeBytes base ++ bytesOf t ++ bytesOf ops.length) ++ catM (ops.take ops.length) := by rw [List.take_length]; rfl
  rw [hv]
  clear hv
  have hP : pwE.In (w.alloc (.cells #[.slice bA base.length bc, .int .i64 t, .slice oA ops.length oc, .slice uA us.length uc, .slice wA now.length wc] 29)) w.heap.size (⟨bA, bc, base, t, oA, oc, ops, uA, uc, us, wA, wc, now⟩ : Pw) := El.In.new (E := pwE) w (⟨bA, bc, base, t, oA, oc, ops, uA, uc, us, wA, wc, now⟩ : Pw) #[.slice bA base.length bc, .int .i64 t, .slice oA ops.length oc, .slice uA us.length uc, .slice wA now.length wc] rfl
  have hB := below_alloc (Below.refl w.heap.size w) (.cells #[.slice bA base.length bc, .int .i64 t, .slice oA ops.length oc, .slice uA us.length uc, .slice wA now.length wc] 29)
  have hxo := hxo.below hB
  have hxb := hxb.below hB
  have hcat := fun k => catM_le ops k ho
  have z1 := bytesOf_le t ht.1 ht.2
  have z2 := bytesOf_le ops.length (by omega) (by omega)
  have C1 := fun w (hT : SlV plE w bA bc base) => refPrint_any bA bc base w hl hf (plSl.1 hT.1)
  have C2 := fun w => refNum_any t w ht.1 ht.2
  have C3 := fun w => refNum_any ops.length w (by omega) (by omega)
  generalize treeBytes base = x1 at *
  generalize bytesOf t = x2 at *
  generalize bytesOf ops.length = x3 at *
  have HC1 := Lib.hid C1
  have HC2 := Lib.hid C2
  have HC3 := Lib.hid C3
  clear C1 C2 C3
  go_enter Try.func23, Try.ntmps23
  go_wp2_with fail
  generalize w.alloc (.cells #[.slice bA base.length bc, .int .i64 t, .slice oA ops.length oc, .slice uA us.length uc, .slice wA now.length wc] 29) = W at *
  have hBs := hB.size
  obtain ⟨n0, h0⟩ : ∃ n, w.heap.size = n := ⟨_, rfl⟩
  rw [h0] at hP ⊢
  clear h0
  obtain ⟨p0, p1, p2, p3, p4⟩ := pwIn5 hP
  have k0 := cell_regrown p0
  have k1 := cell_regrown p1
  have k2 := cell_regrown p2
  clear p0 p1 p2 p3 p4
  have d1 : ∀ d os, Calls Try.prog 58 #[.slice bA base.length bc] (Sort.grow (redrawn W d) os) fun e w'' => e = .returned (.string x1) ∧ ∃ p : Regrown, w'' = Sort.grow (redrawn W p.d) p.os := fun d os => Calls.regrown_of (HC1.out _ (hxb.below (below_regrown W d os)))
  have d2 : ∀ d os, Calls Try.prog 59 #[.int .i64 t] (Sort.grow (redrawn W d) os) fun e w'' => e = .returned (.string x2) ∧ ∃ p : Regrown, w'' = Sort.grow (redrawn W p.d) p.os := fun d os => Calls.regrown_of (HC2.out _)
  have d3 : ∀ d os, Calls Try.prog 59 #[.int .i64 ops.length] (Sort.grow (redrawn W d) os) fun e w'' => e = .returned (.string x3) ∧ ∃ p : Regrown, w'' = Sort.grow (redrawn W p.d) p.os := fun d os => Calls.regrown_of (HC3.out _)
  refine wp_region_quiet_below (by kernel_rfl) (by kernel_rfl) ?_
  repeat (go_big_quiet_step ((with_reducible (first | exact d1 _ _ | exact d2 _ _ | exact d3 _ _))))
  refine wpQuiet_nil ?_
  intro _ hw'
  obtain ⟨⟨dq, osq⟩, hw''⟩ := hw'
  subst hw''
  have hq := below_regrown W dq osq
  generalize Sort.grow (redrawn W dq) osq = W1 at *
  clear d1 d2 d3 k0 k1 k2
  have hP1 := hP.below hq
  have hxo1 := hxo.below hq
  have hB1 := hB.trans (hq.mono hBs)
  go_wp2_with fail
  obtain ⟨H, hH⟩ : ∃ H, x1 ++ x2 ++ x3 = H := ⟨_, rfl⟩
  have hHs : H.size ≤ 100020 := by rw [← hH, ByteArray.size_append, ByteArray.size_append]; omega
  have HH := Lib.hid hH
  clear hH
  have hn0 := hP1.lt
  go_loopw [3, 4] (fun s y wr => ∃ k : Nat, k ≤ ops.length ∧ y = .int .i64 k ∧ s = .string (H ++ catM (ops.take k)) ∧ Below W1.heap.size W1 wr) (fun _ y _ => ops.length - (intOf y).toNat)
  case atStart =>
    refine ⟨0, Nat.zero_le _, rfl, ?_, Below.refl _ _⟩
    rw [← HH.out]
    congr 1
    apply L_inj; rw [L_app]; simp [L, catM]
  case round =>
    obtain ⟨k, hk, rfl, rfl, hnx⟩ := hrel
    obtain ⟨p0, p1, p2, p3, p4⟩ := pwIn5 (hP1.below hnx)
    have hck := hcat k
    by_cases hkl : k < ops.length
    · obtain ⟨b, off, hoA, hbw, hc⟩ := hxo1.1 (by omega)
      have hat : opE.At wr b (off + k * 7) ops[k] := (hc k hkl).below hnx hbw
      have hnext := catM_next hkl rfl
      have hmo := ho ops[k] (List.getElem_mem _)
      obtain ⟨mk, hmk⟩ : ∃ mk, ops[k] = mk := ⟨_, rfl⟩
      rw [hmk] at hat hnext hmo
      have hml := bytes_le hmo
      have hwd := opB_wide hmo
      have CP := fun w => opRefPrint_any mk.C mk.D mk.I mk.M mk.K mk.U mk.s w hwd.1 (by omega)
      have hby : printOf mk.C mk.D mk.I mk.M mk.K mk.U mk.s = mk.bytes := rfl
      rw [hby] at CP
      have HN := Lib.hid hnext
      have HCP := Lib.hid CP
      clear hnext CP hby hc hmk hwd hmo
      generalize catM (ops.take k) = ck at *
      generalize mk.bytes = mb at *
      subst hoA
      go_wp2_with (first | (refine El.load opRow rfl _ rfl b (off + k * 7) rfl mk hat #[.int .i64 mk.C, .int .i64 mk.D, .int .i64 mk.I, .int .i64 mk.M, .int .i64 mk.K, .int .i64 mk.U, .string mk.s] rfl ?_) | (go_at_call 60; (with_reducible refine (HCP.out _).mono ?_); rintro e w3 ⟨rfl, hb3⟩))
      go_roundw
      case rel => exact ⟨k + 1, by omega, by go_num, by rw [HN.out, ByteArray.append_assoc], below_then hnx hb3⟩
      case measure => simp [intOf]; omega
    · obtain rfl : k = ops.length := by omega
      go_wp2
      go_ret
      refine ⟨?_, hB1.trans (hnx.mono (by have := hB1.size; omega))⟩
      rw [HH.out]; rfl
end Go.Proofs.Ytoidondngoljaaa

/- Print of the program. -/
namespace Go.Proofs.Ytoidondngoljaaa
open Go.RowKit Tre Cod Pst Nam

theorem El.In.low {α : Type} {E : El α} {w w' : World} {b B : Nat} {x : α} (h : E.In w b x) (hb : Below B w w') (hlt : b < B) : E.In w' b x := (hb.block b hlt).trans h

set_option maxRecDepth 100000 in
set_option maxHeartbeats 4000000 in
theorem pPrint_any (x : Pw) (w : World) (hx : PastOk w x) (hl : x.base.length ≤ 1000) (hl2 : x.ops.length ≤ 1000) (hf : ∀ p ∈ x.base, Fit p) (ht : i64 x.t) (ho : ∀ m ∈ x.ops, m.ok) (hts : (treeBytes x.base).size ≤ 100000) :
    Calls Try.prog 22 #[.agg #[.slice x.bA x.base.length x.bc, .int .i64 x.t, .slice x.oA x.ops.length x.oc, .slice x.uA x.us.length x.uc, .slice x.wA x.now.length x.wc]] w fun e w' => e = .returned (.string (pastBytes x.v)) ∧ Below w.heap.size w w' := by
  obtain ⟨bA, bc, base, t, oA, oc, ops, uA, uc, us, wA, wc, now⟩ := x
  simp only at hl hl2 hf ht ho hts
  have hv : pastBytes (⟨bA, bc, base, t, oA, oc, ops, uA, uc, us, wA, wc, now⟩ : Pw).v = (treeBytes base ++ bytesOf t ++ bytesOf ops.length) ++ catM ops := rfl
  rw [hv]
  clear hv
  have hP : pwE.In ((w.alloc (.cells #[.slice bA base.length bc, .int .i64 t, .slice oA ops.length oc, .slice uA us.length uc, .slice wA now.length wc] 29)).alloc (.cells #[.pointer none, .slice none 0 0] 79)) w.heap.size (⟨bA, bc, base, t, oA, oc, ops, uA, uc, us, wA, wc, now⟩ : Pw) := (El.In.new (E := pwE) w (⟨bA, bc, base, t, oA, oc, ops, uA, uc, us, wA, wc, now⟩ : Pw) _ rfl).alloc _
  have hB := below_alloc (below_alloc (Below.refl w.heap.size w) (.cells #[.slice bA base.length bc, .int .i64 t, .slice oA ops.length oc, .slice uA us.length uc, .slice wA now.length wc] 29)) (.cells #[.pointer none, .slice none 0 0] 79)
  have hbd := builder_new (w.alloc (.cells #[.slice bA base.length bc, .int .i64 t, .slice oA ops.length oc, .slice uA us.length uc, .slice wA now.length wc] 29))
  have hlt : (w.alloc (.cells #[.slice bA base.length bc, .int .i64 t, .slice oA ops.length oc, .slice uA us.length uc, .slice wA now.length wc] 29)).heap.size < ((w.alloc (.cells #[.slice bA base.length bc, .int .i64 t, .slice oA ops.length oc, .slice uA us.length uc, .slice wA now.length wc] 29)).alloc (.cells #[.pointer none, .slice none 0 0] 79)).heap.size := by simp
  rw [alloc_size] at hbd hlt
  have HL := Lib.hid hx
  clear hx
  have hcat := fun k => catM_le ops k ho
  have z1 := bytesOf_le t ht.1 ht.2
  have z2 := bytesOf_le ops.length (by omega) (by omega)
  have N1 := Lib.hid (fun w (h : SlV plE w bA bc base) => print_any bA bc base w hl hf (plSl.1 h.1))
  have N2 := Lib.hid (fun w => num_any t w ht.1 ht.2)
  have N3 := Lib.hid (fun w => num_any (ops.length : Int) w (by omega) (by omega))
  generalize treeBytes base = x1 at *
  generalize bytesOf t = x2 at *
  generalize bytesOf (ops.length : Int) = x3 at *
  go_enter Try.func22, Try.ntmps22
  go_wp2_with fail
  generalize ((w.alloc (.cells #[.slice bA base.length bc, .int .i64 t, .slice oA ops.length oc, .slice uA us.length uc, .slice wA now.length wc] 29)).alloc (.cells #[.pointer none, .slice none 0 0] 79)) = W at *
  obtain ⟨n1, h1⟩ : ∃ n, w.heap.size + 1 = n := ⟨_, rfl⟩
  rw [h1] at hbd hlt ⊢
  obtain ⟨n0, h0⟩ : ∃ n, w.heap.size = n := ⟨_, rfl⟩
  rw [h0] at hP ⊢
  have HN := Lib.hid (show w.heap.size ≤ n1 ∧ n0 < n1 by omega)
  clear h0 h1
  have y1 : ¬ 9223372036854775807 < x1.size + x2.size := by omega
  have y2 : ¬ 9223372036854775807 < x1.size + x2.size + x3.size := by omega
  have hXs : (x1 ++ x2 ++ x3).size = x1.size + x2.size + x3.size := by rw [ByteArray.size_append, ByteArray.size_append]
  obtain ⟨H, hH⟩ : ∃ H, x1 ++ x2 ++ x3 = H := ⟨_, rfl⟩
  have hHs : H.size ≤ 100020 := by rw [← hH, hXs]; omega
  have HH := Lib.hid hH
  clear hXs hH
  replace hP : pwE.In W.drew n0 (⟨bA, bc, base, t, oA, oc, ops, uA, uc, us, wA, wc, now⟩ : Pw) := hP
  replace hB : Below w.heap.size w W.drew := hB.drew
  replace hbd : Lib.IsBuilder 79 5 n1 n1 [] W.drew := hbd
  replace hlt : n1 < W.drew.heap.size := hlt
  have hxb := (HL.out.below hB).b
  simp only at hxb
  go_region_held3 (fun w' => w'.cell? ⟨n0, 0, none⟩ = some (.slice bA base.length bc) ∧ w'.cell? ⟨n0, 1, none⟩ = some (.int .i64 t) ∧ w'.cell? ⟨n0, 2, none⟩ = some (.slice oA ops.length oc)) (with_reducible exact ⟨(pwIn5 hP).1, (pwIn5 hP).2.1, (pwIn5 hP).2.2.1⟩) (first | (go_at_call 54; (with_reducible refine (N1.out _ hxb).mono ?_); rintro e w3 ⟨rfl, hb3⟩; have hP := hP.below hb3; have hbd := builder_below hbd hb3; have hB := hB.trans (hb3.mono hB.size); have hxb := hxb.below hb3; have hlt := Nat.lt_of_lt_of_le hlt hb3.size) | (go_at_call 55; (with_reducible refine (N2.out _).mono ?_); rintro e w3 ⟨rfl, hb3⟩; have hP := hP.below hb3; have hbd := builder_below hbd hb3; have hB := hB.trans (hb3.mono hB.size); have hxb := hxb.below hb3; have hlt := Nat.lt_of_lt_of_le hlt hb3.size) | (go_at_call 55; (with_reducible refine (N3.out _).mono ?_); rintro e w3 ⟨rfl, hb3⟩; have hP := hP.below hb3; have hbd := builder_below hbd hb3; have hB := hB.trans (hb3.mono hB.size); have hxb := hxb.below hb3; have hlt := Nat.lt_of_lt_of_le hlt hb3.size) | (go_at_call 53; (with_reducible refine (wstr_any _ _ _ _ _ hbd (by simp [Lib.strCells_length, ByteArray.size_append]; omega) (Nat.le_of_lt hlt)).mono ?_); rintro e w4 ⟨rfl, hbd4, hN4, hr4⟩; have hP := hP.low hN4 HN.out.2; have hB := hB.trans (hN4.mono HN.out.1)))
  have p2 := (pwIn5 hP).2.2.1
  simp only at p2
  have e1 : H ++ catM (ops.take 0) = H := by apply L_inj; rw [L_app]; simp [L, catM]
  have e0 : [] ++ Lib.strCells (x1 ++ x2 ++ x3) = Lib.strCells (H ++ catM (ops.take 0)) := by rw [e1, HH.out, List.nil_append]
  rw [e0] at hbd4
  clear e0 e1
  have hlt4 : n1 < w4.heap.size := by rcases hbd4 with h | h <;> exact h.lt
  go_wp2_with fail
  clear p2
  go_loopw [22] (fun x wr => ∃ k : Nat, k ≤ ops.length ∧ x = .int .i64 k ∧ Lib.IsBuilder 79 5 n1 n1 (Lib.strCells (H ++ catM (ops.take k))) wr ∧ Below w.heap.size w wr ∧ n1 < wr.heap.size) (fun x _ => ops.length - (intOf x).toNat)
  case atStart => exact ⟨0, Nat.zero_le _, rfl, hbd4, hB, hlt4⟩
  case round =>
    clear hbd4 hlt4 hP hB
    obtain ⟨k, hk, rfl, hbd, hB, hsz⟩ := hrel
    have hck := hcat k
    by_cases hkl : k < ops.length
    · have hxo := (HL.out.below hB).o
      simp only at hxo
      obtain ⟨b, off, hoA, hbw, hc⟩ := hxo.1 (by omega)
      have hat : opE.At wr b (off + k * 7) ops[k] := hc k hkl
      have hnext := catM_next hkl rfl
      have hmo := ho ops[k] (List.getElem_mem _)
      obtain ⟨mk, hmk⟩ : ∃ mk, ops[k] = mk := ⟨_, rfl⟩
      rw [hmk] at hat hnext hmo
      have hml := bytes_le hmo
      have hwd := opB_wide hmo
      have CP := fun w => opPrint_any mk.C mk.D mk.I mk.M mk.K mk.U mk.s w hwd.1 (by omega)
      have hby : printOf mk.C mk.D mk.I mk.M mk.K mk.U mk.s = mk.bytes := rfl
      rw [hby] at CP
      have HNX := Lib.hid hnext
      have HCP := Lib.hid CP
      have HO := Lib.hid ho
      clear hnext CP hby hc hmk hwd hmo hxo ho
      generalize catM (ops.take k) = ck at *
      generalize mk.bytes = mb at *
      subst hoA
      go_wp2_with (refine El.load opRow rfl _ rfl b (off + k * 7) rfl mk hat #[.int .i64 mk.C, .int .i64 mk.D, .int .i64 mk.I, .int .i64 mk.M, .int .i64 mk.K, .int .i64 mk.U, .string mk.s] rfl ?_)
      refine (HCP.out _).mono ?_
      rintro e w3 ⟨rfl, hb3⟩
      have hbd3 := builder_below (builder_below hbd (below_alloc (Below.refl _ wr) (.cells #[.int .i64 mk.C, .int .i64 mk.D, .int .i64 mk.I, .int .i64 mk.M, .int .i64 mk.K, .int .i64 mk.U, .string mk.s] 35))) hb3
      have hB3 := below_then (below_alloc hB (.cells #[.int .i64 mk.C, .int .i64 mk.D, .int .i64 mk.I, .int .i64 mk.M, .int .i64 mk.K, .int .i64 mk.U, .string mk.s] 35)) hb3
      have hlt3 : n1 < w3.heap.size := by rcases hbd3 with h | h <;> exact h.lt
      go_wp2_with fail
      refine (wstr_any _ _ _ _ _ hbd3 (by simp [Lib.strCells_length, ByteArray.size_append]; omega) (Nat.le_of_lt hlt3)).mono ?_
      rintro e w4 ⟨rfl, hbd4, hN4, hr4⟩
      have hlt4 : n1 < w4.heap.size := by rcases hbd4 with h | h <;> exact h.lt
      go_wp2_with fail
      go_roundw
      case rel => exact ⟨k + 1, by omega, by go_num, by rw [HNX.out, ← ByteArray.append_assoc, strCells_app]; exact hbd4, hB3.trans (hN4.mono HN.out.1), hlt4⟩
      case measure => simp [intOf]; omega
    · obtain rfl : k = ops.length := by omega
      rw [List.take_length] at hbd
      have C := builder_String_any n1 n1 (L (H ++ catM ops)) wr hbd (Nat.le_of_lt hsz)
      have he : (⟨(L (H ++ catM ops)).toArray⟩ : ByteArray) = H ++ catM ops := back_L _
      rw [he, ← HH.out] at C
      have HC := Lib.hid C
      clear C he hbd
      go_wp2_with (go_at_call 57; (with_reducible refine HC.out.mono ?_); rintro e w5 ⟨rfl, hb5⟩)
      go_ret
      exact ⟨rfl, hB.trans (hb5.mono HN.out.1)⟩
end Go.Proofs.Ytoidondngoljaaa
