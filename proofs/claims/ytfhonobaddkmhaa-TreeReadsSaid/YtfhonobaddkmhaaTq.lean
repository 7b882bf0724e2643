/- How the document reads a tree. -/
import Derived.Test.YtfhonobaddkmhaaTp
namespace Go.Proofs.Ytfhonobaddkmhaa
open Go.RowKit Tre Nam Cod

theorem own_ne {w : World} {B : Nat} {v : Value} {l : List Pl} (h : Own w B v l) : v.ownBlock = none ∨ v.ownBlock ≠ some w.heap.size := Or.inr (fun e => by have := (World.ownsRow.lt h _ e).2; omega)

set_option maxRecDepth 100000 in
set_option maxHeartbeats 8000000 in
theorem refRead_uni {w : World} {b p : Nat} {s : ByteArray} {bad : Bool} (hs : s.size ≤ 1000000) (hp : p ≤ s.size) (hr : Rd 66 w b s p bad) :
    Calls Try.prog 42 #[.pointer (some ⟨b, 0, none⟩)] w fun e w' => ∃ A cap l q bad', e = .returned (.slice A l.length cap) ∧ Tr w' A l ∧ l.length ≤ 64 ∧ Rd 66 w' b s q bad' ∧ q ≤ s.size ∧ w.grownBy w' (some b) ∧ treeStep s p bad l q bad' := by
  have hbw := hr.lt
  go_enter Try.func42, Try.ntmps42
  go_wp2_with fail
  refine (refCnt_uni hs hp hr).mono ?_
  rintro e w1 ⟨n, q0, b0, rfl, hn, hR, hq0, hG, hst⟩
  have hO : Own w1 w.heap.size (.slice none 0 0) [] := Own.nil w1 w.heap.size
  have hw := wayStep.start hst
  clear hst hr
  go_wp2_with fail
  go_loopw [3, 5] (fun x y wr => ∃ (k : Nat) (l : List Pl) (q : Nat) (b1 : Bool), k ≤ n ∧ l.length = k ∧ y = .int .i64 k ∧ Own wr w.heap.size x l ∧ Rd 66 wr b s q b1 ∧ q ≤ s.size ∧ w.grownBy wr (some b) ∧ (∀ p ∈ l, p.s.size ≤ 1000000) ∧ wayStep s p bad n k l q b1) (fun _ y _ => n - (intOf y).toNat)
  case atStart => exact ⟨0, [], q0, b0, Nat.zero_le _, rfl, rfl, hO, hR, hq0, hG, (fun p hp => by cases hp), hw⟩
  case round =>
    clear hO hR hG hw hq0
    obtain ⟨k, l, q, b1, hkn, hlk, rfl, hO, hR, hq, hG, hz, hw⟩ := hrel
    by_cases hlt : k < n
    · cases b1
      · have HZ := Lib.hid hz
        have HW := Lib.hid hw
        obtain ⟨r0, r1, r2⟩ := hR.cells
        have hl3 : l.length ≤ 64 := by omega
        have HLK := Lib.hid hlk
        clear hz hw r0 r1 hlk
        go_wp2_with fail
        have hB := below_alloc (Below.refl _ wr) (.cells #[.int .i64 0, .int .i64 0, .string ⟨#[]⟩] 24)
        have hO0 := hO
        have hO := hO.below hB
        have hP : PlIn (wr.alloc (.cells #[.int .i64 0, .int .i64 0, .string ⟨#[]⟩] 24)) wr.heap.size zero := PlIn.new wr zero
        have hR := hR.below hB
        have hG0 := hG.size
        have hG := by_trans hG (by_below hB (some b))
        obtain ⟨n3, h3⟩ : ∃ n, wr.heap.size = n := ⟨_, rfl⟩
        have hn3 : w.heap.size ≤ n3 := by omega
        have e3 : b ≠ n3 := by omega
        have i3 : some n3 ≠ some b := fun e => e3 (Option.some.inj e).symm
        have hne := own_ne hO0
        rw [h3] at hP hne ⊢
        clear hO0 hB h3 r2
        generalize wr.alloc (.cells #[.int .i64 0, .int .i64 0, .string ⟨#[]⟩] 24) = W0 at *
        refine (refNum_uni hs hq hR).mono ?_
        clear hR hq
        rintro e w3 ⟨v1, q1, b1, rfl, hR, q1s, hg, st1⟩
        replace hO := hO.kept hg (Or.inr (fun e => by have := (World.ownsRow.lt hO b e).1; omega))
        replace hP := hP.keep hg i3
        replace hG := by_trans hG hg
        clear hg
        obtain ⟨k0, k1, k2⟩ := hP.cells
        have kf := hP.frozen
        clear k1 k2
        go_wp2_with fail
        clear k0 kf
        replace hP := hP.putN v1
        replace hO := hO.kept (by_set (by_refl w3 (some n3)) 0 (.int .i64 v1)) hne
        replace hR := hR.other n3 0 (.int .i64 v1) e3
        replace hG := by_setNew hG n3 0 (.int .i64 v1) hn3
        generalize w3.setCell ⟨n3, 0, none⟩ (.int .i64 v1) = W1 at *
        refine (refNum_uni hs q1s hR).mono ?_
        clear hR
        rintro e w4 ⟨v2, q2, b2, rfl, hR, q2s, hg, st2⟩
        replace hO := hO.kept hg (Or.inr (fun e => by have := (World.ownsRow.lt hO b e).1; omega))
        replace hP := hP.keep hg i3
        replace hG := by_trans hG hg
        clear hg
        obtain ⟨k0, k1, k2⟩ := hP.cells
        have kf := hP.frozen
        clear k0 k2
        go_wp2_with fail
        clear k1 kf
        replace hP := hP.putU v2
        replace hO := hO.kept (by_set (by_refl w4 (some n3)) 1 (.int .i64 v2)) hne
        replace hR := hR.other n3 1 (.int .i64 v2) e3
        replace hG := by_setNew hG n3 1 (.int .i64 v2) hn3
        generalize w4.setCell ⟨n3, 1, none⟩ (.int .i64 v2) = W2 at *
        refine (refText_uni hs q2s hR).mono ?_
        clear hR
        rintro e w5 ⟨v3, q3, b3, rfl, hR, q3s, hv, hg, st3⟩
        replace hO := hO.kept hg (Or.inr (fun e => by have := (World.ownsRow.lt hO b e).1; omega))
        replace hP := hP.keep hg i3
        replace hG := by_trans hG hg
        clear hg
        obtain ⟨k0, k1, k2⟩ := hP.cells
        have kf := hP.frozen
        clear k0 k1
        have hst := plStep_of st1 st2 st3
        have hP7 := hP.putS v3
        have hO7 := hO.kept (by_set (by_refl w5 (some n3)) 2 (.string v3)) hne
        have hR7 := hR.other n3 2 (.string v3) e3
        have hG7 := by_setNew hG n3 2 (.string v3) hn3
        have hw := HW.out.next hlt hst
        have hz : ∀ p ∈ l ++ [⟨v1, v2, v3⟩], p.s.size ≤ 1000000 := fun p hp => by
          rcases List.mem_append.1 hp with h | h
          · exact HZ.out p h
          · rw [List.mem_singleton] at h; subst h; exact hv
        clear HW HZ st1 st2 st3 hst hP hO hR hG hv
        have HW := Lib.hid hw
        have HZ := Lib.hid hz
        clear hw hz
        have hb4 := below_alloc (Below.refl _ (w5.setCell ⟨n3, 2, none⟩ (.string v3))) (.cells #[.int .i64 v1, .int .i64 v2, .string v3] 24)
        have hE := AtPl.one (PlIn.new (w5.setCell ⟨n3, 2, none⟩ (.string v3)) ⟨v1, v2, v3⟩)
        have hO := hO7.below hb4
        have hR := hR7.below hb4
        have hG := by_trans hG7 (by_below hb4 _)
        have hB := hG.size
        have hws : (w5.setCell ⟨n3, 2, none⟩ (.string v3)).heap.size = w5.heap.size := by simp [World.setCell]
        clear hO7 hR7 hG7 hb4
        go_wp2_with (first | (refine load_pl rfl _ rfl _ rfl ⟨v1, v2, v3⟩ hP7 ?_) | (at_builtin; refine wpList_app rfl _ _ rfl w.heap.size _ l [⟨v1, v2, v3⟩] rfl hO (some ⟨(w5.setCell ⟨n3, 2, none⟩ (.string v3)).heap.size, 0, none⟩) 1 1 (by rw [hws]; rfl) rfl hE (fun e => by cases e) (by have : [(⟨v1, v2, v3⟩ : Pl)].length = 1 := rfl; omega) hB ?_; intro v' w6 hO6 hg6 _))
        have hR := hR.keep hg6 (fun e => by have := (World.ownsRow.lt hO b e.symm).1; omega)
        have hG := by_own hG hg6 (fun k e => (World.ownsRow.lt hO k e).1)
        go_wp2
        go_roundw
        case rel => exact ⟨k + 1, l ++ [⟨v1, v2, v3⟩], q3, b3, by omega, by have := HLK.out; rw [List.length_append, this]; rfl, by go_num, hO6, hR, q3s, hG, HZ.out, HW.out⟩
        case measure => simp [intOf]; omega
      · obtain ⟨A, cap, rfl, hTr, _, _⟩ := hO.tr
        obtain ⟨r0, r1, r2⟩ := hR.cells
        clear r0 r1 hlk
        have rf := hR.frozen
        have HOP := Lib.hid (hw.ill hkn)
        clear hw hz hO hTr
        go_wp2_with fail
        go_ret
        exact ⟨none, 0, [], q, true, rfl, Tr.nil _ _, Nat.zero_le _, hR.setBad, hq, by_set hG 2 (.bool true), Or.inr ⟨HOP.out, rfl, rfl⟩⟩
    · obtain rfl : k = n := by omega
      obtain ⟨A, cap, rfl, hTr, _, _⟩ := hO.tr
      have hl64 : l.length ≤ 64 := by omega
      clear hlk
      obtain ⟨r0, r1, r2⟩ := hR.cells
      clear r0 r1
      have rf := hR.frozen
      cases b1
      · have hop := hw.good
        have C := fun w (hT : Tr w A l) => refRight_any A cap l w (by omega) (fun p hp => Nat.le_trans (hz p hp) (by omega)) hT
        obtain ⟨tb, htb⟩ : ∃ x, treeB l = x := ⟨_, rfl⟩
        rw [htb] at C hop
        have HC := Lib.hid C
        have HOP := Lib.hid hop
        clear C hop hw hz hO htb
        cases tb
        · go_wp2_with fail
          refine (HC.out _ hTr).mono ?_
          rintro e w8 ⟨rfl, hb8⟩
          have hR := hR.below hb8
          have hG := by_trans hG (by_below hb8 _)
          clear hTr hb8 HC r2 rf
          obtain ⟨r0, r1, r2⟩ := hR.cells
          clear r0 r1
          have rf := hR.frozen
          go_wp2_with fail
          go_ret
          exact ⟨none, 0, [], q, true, rfl, Tr.nil _ _, Nat.zero_le _, hR.setBad, hq, by_set hG 2 (.bool true), Or.inr ⟨by rw [HOP.out]; simp, rfl, rfl⟩⟩
        · go_wp2_with fail
          refine (HC.out _ hTr).mono ?_
          rintro e w8 ⟨rfl, hb8⟩
          have hR := hR.below hb8
          have hG := by_trans hG (by_below hb8 _)
          have hTr := hTr.below hb8
          clear hb8 HC r2 rf
          go_wp2_with fail
          go_ret
          exact ⟨A, cap, l, q, false, rfl, hTr, by omega, hR, hq, hG, Or.inl ⟨by rw [HOP.out]; simp, rfl⟩⟩
      · have HOP := Lib.hid (hw.ill hkn)
        clear hw hz hO hTr
        go_wp2_with fail
        go_ret
        exact ⟨none, 0, [], q, true, rfl, Tr.nil _ _, Nat.zero_le _, hR.setBad, hq, by_set hG 2 (.bool true), Or.inr ⟨HOP.out, rfl, rfl⟩⟩
end Go.Proofs.Ytfhonobaddkmhaa
