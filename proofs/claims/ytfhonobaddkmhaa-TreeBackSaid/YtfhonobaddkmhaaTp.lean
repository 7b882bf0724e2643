/- How a tree is read, by the program and by the document. -/
import Derived.Test.YtfhonobaddkmhaaTl
import Derived.Test.YtfhonobaddkmhaaTj
namespace Go.Proofs.Ytfhonobaddkmhaa
open Go.RowKit Tre Nam Cod

def cntStep (s : ByteArray) (p : Nat) (bad : Bool) (n q : Nat) (bad' : Bool) : Prop := (isCount s p bad 64 = some ((n : Int), q) ∧ bad' = false) ∨ (isCount s p bad 64 = none ∧ n = 0 ∧ bad' = true)
/-- What was read: a tree and where it ends; or that none stands there. -/
def treeStep (s : ByteArray) (p : Nat) (bad : Bool) (l : List Pl) (q : Nat) (bad' : Bool) : Prop := (isTree s p bad = some (l, q) ∧ bad' = false) ∨ (isTree s p bad = none ∧ l = [] ∧ bad' = true)
/-- How far the list is. -/
def wayStep (s : ByteArray) (p : Nat) (bad : Bool) (n k : Nat) (l : List Pl) (q : Nat) (bad' : Bool) : Prop :=
  (∃ q0, isCount s p bad 64 = some ((n : Int), q0) ∧ plsStep s q0 k l q bad') ∨ (isCount s p bad 64 = none ∧ n = 0 ∧ l = [] ∧ bad' = true)
theorem wayStep.start {s : ByteArray} {p n q : Nat} {bad bad' : Bool} (h : cntStep s p bad n q bad') : wayStep s p bad n 0 [] q bad' := by
  rcases h with ⟨h, rfl⟩ | ⟨h, hn, rfl⟩
  · exact Or.inl ⟨q, h, plsStep.zero s q⟩
  · exact Or.inr ⟨h, hn, rfl, rfl⟩
theorem wayStep.next {s : ByteArray} {p n k q q' : Nat} {bad b1 b2 : Bool} {l : List Pl} {v : Pl} (h : wayStep s p bad n k l q b1) (hk : k < n) (h1 : plStep s q b1 v q' b2) : wayStep s p bad n (k + 1) (l ++ [v]) q' b2 := by
  rcases h with ⟨q0, h, h2⟩ | ⟨h, hn, _⟩
  · exact Or.inl ⟨q0, h, h2.next h1⟩
  · omega
theorem wayStep.ill {s : ByteArray} {p n k q : Nat} {bad : Bool} {l : List Pl} (h : wayStep s p bad n k l q true) (hk : k ≤ n) : isTree s p bad = none := by
  unfold isTree
  rcases h with ⟨q0, h, h2⟩ | ⟨h, _⟩
  · rcases h2 with ⟨_, h2⟩ | ⟨h2, _⟩
    · cases h2
    · simp only [h, Option.bind_some, Int.toNat_natCast, isPlaces_none s q0 k h2 n hk, Option.bind_none]
  · simp only [h, Option.bind_none]
theorem wayStep.good {s : ByteArray} {p n q : Nat} {bad : Bool} {l : List Pl} (h : wayStep s p bad n n l q false) : isTree s p bad = if treeB l = true then some (l, q) else none := by
  unfold isTree
  rcases h with ⟨q0, h, h2⟩ | ⟨_, _, _, h⟩
  · rcases h2 with ⟨h2, _⟩ | ⟨_, h2⟩
    · simp only [h, Option.bind_some, Int.toNat_natCast, h2]
    · cases h2
  · cases h

theorem cnt_uni {w : World} {b p : Nat} {s : ByteArray} {bad : Bool} (hs : s.size ≤ 1000000) (hp : p ≤ s.size) (hr : Rd 39 w b s p bad) :
    Calls Try.prog 40 #[.pointer (some ⟨b, 0, none⟩), .int .i64 64] w fun e w' => ∃ n q bad', e = .returned (.int .i64 (n : Nat)) ∧ n ≤ 64 ∧ Rd 39 w' b s q bad' ∧ q ≤ s.size ∧ w.grownBy w' (some b) ∧ cntStep s p bad n q bad' := by
  rcases h : isCount s p bad 64 with _ | ⟨v, q⟩
  · exact (count_no hs hp hr h).mono fun e w' ⟨he, ⟨q, hq, hr'⟩, hg⟩ => ⟨0, q, true, he, by omega, hr', hq, hg, Or.inr ⟨h, rfl, rfl⟩⟩
  · obtain ⟨h1, h2, h3⟩ := isCount_some h
    obtain ⟨n, rfl⟩ : ∃ n : Nat, v = n := ⟨v.toNat, by omega⟩
    exact (count_yes hs hp hr h).mono fun e w' ⟨he, hr', hg⟩ => ⟨n, q, false, he, by omega, hr', (isNum_some h1).2.2.1, hg, Or.inl ⟨h, rfl⟩⟩
theorem refCnt_uni {w : World} {b p : Nat} {s : ByteArray} {bad : Bool} (hs : s.size ≤ 1000000) (hp : p ≤ s.size) (hr : Rd 66 w b s p bad) :
    Calls Try.prog 51 #[.pointer (some ⟨b, 0, none⟩), .int .i64 64] w fun e w' => ∃ n q bad', e = .returned (.int .i64 (n : Nat)) ∧ n ≤ 64 ∧ Rd 66 w' b s q bad' ∧ q ≤ s.size ∧ w.grownBy w' (some b) ∧ cntStep s p bad n q bad' := by
  rcases h : isCount s p bad 64 with _ | ⟨v, q⟩
  · exact (refCount_no hs hp hr h).mono fun e w' ⟨he, ⟨q, hq, hr'⟩, hg⟩ => ⟨0, q, true, he, by omega, hr', hq, hg, Or.inr ⟨h, rfl, rfl⟩⟩
  · obtain ⟨h1, h2, h3⟩ := isCount_some h
    obtain ⟨n, rfl⟩ : ∃ n : Nat, v = n := ⟨v.toNat, by omega⟩
    exact (refCount_yes hs hp hr h).mono fun e w' ⟨he, hr', hg⟩ => ⟨n, q, false, he, by omega, hr', (isNum_some h1).2.2.1, hg, Or.inl ⟨h, rfl⟩⟩

set_option maxRecDepth 100000 in
set_option maxHeartbeats 8000000 in
theorem treeRead_uni {w : World} {b p : Nat} {s : ByteArray} {bad : Bool} (hs : s.size ≤ 1000000) (hp : p ≤ s.size) (hr : Rd 39 w b s p bad) :
    Calls Try.prog 24 #[.pointer (some ⟨b, 0, none⟩)] w fun e w' => ∃ A cap l q bad', e = .returned (.slice A l.length cap) ∧ Tr w' A l ∧ l.length ≤ 64 ∧ Rd 39 w' b s q bad' ∧ q ≤ s.size ∧ w.grownBy w' (some b) ∧ treeStep s p bad l q bad' := by
  have hbw := hr.lt
  obtain ⟨i, hi, hz0, hz1, hz2⟩ := info_parts pl_info
  go_enter Try.func24, Try.ntmps24
  go_wp2_with fail
  refine (cnt_uni hs hp hr).mono ?_
  rintro e w1 ⟨n, q0, b0, rfl, hn, hR, hq0, hG, hst⟩
  have hsz := hG.size
  go_wp2_with (at_make; refine wpList_make_own _ rfl _ _ 22 rfl w.heap.size 24 i _ 3 Try.underlying22 hi hz0 hz1 .i64 .i64 (n : Int) n rfl rfl rfl (by rw [hz2]; omega) (by unfold maxLen; omega) hsz ?_; intro w2 hown hg2)
  have hO : Own w2 w.heap.size (.slice (some ⟨w1.heap.size, 0, none⟩) 0 n) [] := hown
  have hR := hR.keep hg2 (by simp)
  have hG := by_own hG hg2 (fun k e => by cases e)
  have hw := wayStep.start hst
  clear hown hg2 hst hr hsz
  generalize w1.heap.size = nb at *
  go_loopw [4, 10] (fun x y wr => ∃ (k : Nat) (l : List Pl) (q : Nat) (b1 : Bool), k ≤ n ∧ l.length = k ∧ y = .int .i64 k ∧ Own wr w.heap.size x l ∧ Rd 39 wr b s q b1 ∧ q ≤ s.size ∧ w.grownBy wr (some b) ∧ (∀ p ∈ l, p.s.size ≤ 1000000) ∧ wayStep s p bad n k l q b1) (fun _ y _ => n - (intOf y).toNat)
  case atStart => exact ⟨0, [], q0, b0, Nat.zero_le _, rfl, rfl, hO, hR, hq0, hG, (fun p hp => by cases hp), hw⟩
  case round =>
    clear hO hR hG hw hq0
    obtain ⟨k, l, q, b1, hkn, hlk, rfl, hO, hR, hq, hG, hz, hw⟩ := hrel
    have hsz := hG.size
    by_cases hlt : k < n
    · have HZ := Lib.hid hz
      have HW := Lib.hid hw
      clear hz hw
      go_wp2_with fail
      refine (readPlace_uni hs hq hR).mono ?_
      clear hR hq
      rintro e w3 ⟨v, q', b2, rfl, hR, hq, hv, hg3, hst⟩
      have hO := hO.kept hg3 (Or.inr (fun e => by have := (World.ownsRow.lt hO b e).1; omega))
      have hG := by_trans hG hg3
      have hw := HW.out.next hlt hst
      have hz : ∀ p ∈ l ++ [v], p.s.size ≤ 1000000 := fun p hp => by
        rcases List.mem_append.1 hp with h | h
        · exact HZ.out p h
        · rw [List.mem_singleton] at h; subst h; exact hv
      have hb4 := below_alloc (Below.refl _ w3) (.cells #[.int .i64 v.n, .int .i64 v.u, .string v.s] 24)
      have hE := AtPl.one (PlIn.new w3 v)
      have hO := hO.below hb4
      have hR := hR.below hb4
      have hG := by_trans hG (by_below hb4 _)
      have hB := hG.size
      have hl3 : l.length ≤ 64 := by omega
      have HLK := Lib.hid hlk
      clear hg3 hb4 hst HZ HW hsz hlk
      have HW := Lib.hid hw
      have HZ := Lib.hid hz
      clear hw hz
      go_wp2_with (at_builtin; refine wpList_app rfl _ _ rfl w.heap.size _ l [v] rfl hO (some ⟨w3.heap.size, 0, none⟩) 1 1 rfl rfl hE (fun e => by cases e) (by have : [v].length = 1 := rfl; omega) hB ?_; intro v' w5 hO5 hg5 _)
      have hR := hR.keep hg5 (fun e => by have := (World.ownsRow.lt hO b e.symm).1; omega)
      have hG := by_own hG hg5 (fun k e => (World.ownsRow.lt hO k e).1)
      go_wp2
      go_roundw
      case rel => exact ⟨k + 1, l ++ [v], q', b2, by omega, by have := HLK.out; rw [List.length_append, this]; rfl, by go_num, hO5, hR, hq, hG, HZ.out, HW.out⟩
      case measure => simp [intOf]; omega
    · obtain rfl : k = n := by omega
      obtain ⟨A, cap, rfl, hTr, _, _⟩ := hO.tr
      have hl64 : l.length ≤ 64 := by omega
      clear hlk
      obtain ⟨r0, r1, r2⟩ := hR.cells
      clear r0 r1
      have rf := hR.frozen
      cases b1
      · have hop := hw.good
        have C := fun w (hT : Tr w A l) => right_any A cap l w (by omega) (fun p hp => Nat.le_trans (hz p hp) (by omega)) hT
        obtain ⟨tb, htb⟩ : ∃ x, treeB l = x := ⟨_, rfl⟩
        rw [htb] at C hop
        have HC := Lib.hid C
        have HOP := Lib.hid hop
        clear C hop hw hz hO htb
        cases tb
        · go_wp2_with fail
          refine (HC.out _ hTr).mono ?_
          rintro e w8 ⟨rfl, hb8⟩
          have hR := hR.below hb8
          have hG := by_trans hG (by_below hb8 _)
          clear hTr hb8 HC r2 rf
          obtain ⟨r0, r1, r2⟩ := hR.cells
          clear r0 r1
          have rf := hR.frozen
          go_wp2_with fail
          go_ret
          exact ⟨none, 0, [], q, true, rfl, Tr.nil _ _, Nat.zero_le _, hR.setBad, hq, by_set hG 2 (.bool true), Or.inr ⟨by rw [HOP.out]; simp, rfl, rfl⟩⟩
        · go_wp2_with fail
          refine (HC.out _ hTr).mono ?_
          rintro e w8 ⟨rfl, hb8⟩
          have hR := hR.below hb8
          have hG := by_trans hG (by_below hb8 _)
          have hTr := hTr.below hb8
          clear hb8 HC r2 rf
          go_wp2_with fail
          go_ret
          exact ⟨A, cap, l, q, false, rfl, hTr, by omega, hR, hq, hG, Or.inl ⟨by rw [HOP.out]; simp, rfl⟩⟩
      · have HOP := Lib.hid (hw.ill hkn)
        clear hw hz hO hTr
        go_wp2_with fail
        go_ret
        exact ⟨none, 0, [], q, true, rfl, Tr.nil _ _, Nat.zero_le _, hR.setBad, hq, by_set hG 2 (.bool true), Or.inr ⟨HOP.out, rfl, rfl⟩⟩
end Go.Proofs.Ytfhonobaddkmhaa
