/- Texts laid one behind the other: Po, Pp, Pf, Pj, Xc, Ek, Pk, Ec, Pl, Pq, Pr, Pd, Ie, If, Ig. -/
import Derived.Test.YtfpgfclmmdihjaaGreatB06
import Derived.Deep.CutRange
import Derived.Deep.RegionHeld3
import Derived.Test.YtfpgfclmmdihjaaGreatRows
import Derived.Lib.QuietBelow
import Derived.BigQuiet
import Derived.BigRegion
/- The document's Read of a past, whatever stands there. -/
namespace Go.Proofs.YtfpgfclmmdihjaaGreat
open Go.RowKit Tre Cod Pst Nam

set_option maxRecDepth 100000 in
set_option maxHeartbeats 8000000 in
theorem refTreeRead_slv {w : World} {b p : Nat} {s : ByteArray} {bad : Bool} (hs : s.size ≤ 1000000) (hp : p ≤ s.size) (hr : Rd 65 w b s p bad) :
    Calls Tryz.prog 43 #[.pointer (some ⟨b, 0, none⟩)] w fun e w' => ∃ A cap l q bad', e = .returned (.slice A l.length cap) ∧ SlV plE w' A cap l ∧ Frs w.heap.size A ∧ l.length ≤ 64 ∧ Rd 65 w' b s q bad' ∧ q ≤ s.size ∧ w.grownBy w' (some b) ∧ treeStep s p bad l q bad' := by
  have hbw := hr.lt
  go_enter Tryz.func43, Tryz.ntmps43
  go_wp2_with fail
  refine (refCnt_uni hs hp hr).mono ?_
  rintro e w1 ⟨n, q0, b0, rfl, hn, hR, hq0, hG, hst⟩
  have hO : Own w1 w.heap.size (.slice none 0 0) [] := Own.nil w1 w.heap.size
  have hw := wayStep.start hst
  clear hst hr
  go_wp2_with fail
  go_loopw [3, 5] (fun x y wr => ∃ (k : Nat) (l : List Pl) (q : Nat) (b1 : Bool), k ≤ n ∧ l.length = k ∧ y = .int .i64 k ∧ Own wr w.heap.size x l ∧ Rd 65 wr b s q b1 ∧ q ≤ s.size ∧ w.grownBy wr (some b) ∧ (∀ p ∈ l, p.s.size ≤ 1000000) ∧ wayStep s p bad n k l q b1) (fun _ y _ => n - (intOf y).toNat)
  case atStart => exact ⟨0, [], q0, b0, Nat.zero_le _, rfl, rfl, hO, hR, hq0, hG, (fun p hp => by cases hp), hw⟩
  case round =>
    clear hO hR hG hw hq0
    obtain ⟨k, l, q, b1, hkn, hlk, rfl, hO, hR, hq, hG, hz, hw⟩ := hrel
    by_cases hlt : k < n
    · cases b1
      · have HZ := Lib.hid hz
        have HW := Lib.hid hw
        obtain ⟨r0, r1, r2⟩ := hR.cells
        have hl3 : l.length ≤ 64 := by omega
        have HLK := Lib.hid hlk
        clear hz hw r0 r1 hlk
        go_wp2_with fail
        have hB := below_alloc (Below.refl _ wr) (.cells #[.int .i64 0, .int .i64 0, .string ⟨#[]⟩] 117)
        have hO0 := hO
        have hO := hO.below hB
        have hP : PlIn (wr.alloc (.cells #[.int .i64 0, .int .i64 0, .string ⟨#[]⟩] 117)) wr.heap.size zero := PlIn.new wr zero
        have hR := hR.below hB
        have hG0 := hG.size
        have hG := by_trans hG (by_below hB (some b))
        obtain ⟨n3, h3⟩ : ∃ n, wr.heap.size = n := ⟨_, rfl⟩
        have hn3 : w.heap.size ≤ n3 := by omega
        have e3 : b ≠ n3 := by omega
        have i3 : some n3 ≠ some b := fun e => e3 (Option.some.inj e).symm
        have hne := own_ne hO0
        rw [h3] at hP hne ⊢
        clear hO0 hB h3 r2
        generalize wr.alloc (.cells #[.int .i64 0, .int .i64 0, .string ⟨#[]⟩] 117) = W0 at *
        refine (refNum_uni hs hq hR).mono ?_
        clear hR hq
        rintro e w3 ⟨v1, q1, b1, rfl, hR, q1s, hg, st1⟩
        replace hO := hO.kept hg (Or.inr (fun e => by have := (World.ownsRow.lt hO b e).1; omega))
        replace hP := hP.keep hg i3
        replace hG := by_trans hG hg
        clear hg
        obtain ⟨k0, k1, k2⟩ := hP.cells
        have kf := hP.frozen
        clear k1 k2
        go_wp2_with fail
        clear k0 kf
        replace hP := hP.putN v1
        replace hO := hO.kept (by_set (by_refl w3 (some n3)) 0 (.int .i64 v1)) hne
        replace hR := hR.other n3 0 (.int .i64 v1) e3
        replace hG := by_setNew hG n3 0 (.int .i64 v1) hn3
        generalize w3.setCell ⟨n3, 0, none⟩ (.int .i64 v1) = W1 at *
        refine (refNum_uni hs q1s hR).mono ?_
        clear hR
        rintro e w4 ⟨v2, q2, b2, rfl, hR, q2s, hg, st2⟩
        replace hO := hO.kept hg (Or.inr (fun e => by have := (World.ownsRow.lt hO b e).1; omega))
        replace hP := hP.keep hg i3
        replace hG := by_trans hG hg
        clear hg
        obtain ⟨k0, k1, k2⟩ := hP.cells
        have kf := hP.frozen
        clear k0 k2
        go_wp2_with fail
        clear k1 kf
        replace hP := hP.putU v2
        replace hO := hO.kept (by_set (by_refl w4 (some n3)) 1 (.int .i64 v2)) hne
        replace hR := hR.other n3 1 (.int .i64 v2) e3
        replace hG := by_setNew hG n3 1 (.int .i64 v2) hn3
        generalize w4.setCell ⟨n3, 1, none⟩ (.int .i64 v2) = W2 at *
        refine (refText_uni hs q2s hR).mono ?_
        clear hR
        rintro e w5 ⟨v3, q3, b3, rfl, hR, q3s, hv, hg, st3⟩
        replace hO := hO.kept hg (Or.inr (fun e => by have := (World.ownsRow.lt hO b e).1; omega))
        replace hP := hP.keep hg i3
        replace hG := by_trans hG hg
        clear hg
        obtain ⟨k0, k1, k2⟩ := hP.cells
        have kf := hP.frozen
        clear k0 k1
        have hst := plStep_of st1 st2 st3
        have hP7 := hP.putS v3
        have hO7 := hO.kept (by_set (by_refl w5 (some n3)) 2 (.string v3)) hne
        have hR7 := hR.other n3 2 (.string v3) e3
        have hG7 := by_setNew hG n3 2 (.string v3) hn3
        have hw := HW.out.next hlt hst
        have hz : ∀ p ∈ l ++ [⟨v1, v2, v3⟩], p.s.size ≤ 1000000 := fun p hp => by
          rcases List.mem_append.1 hp with h | h
          · exact HZ.out p h
          · rw [List.mem_singleton] at h; subst h; exact hv
        clear HW HZ st1 st2 st3 hst hP hO hR hG hv
        have HW := Lib.hid hw
        have HZ := Lib.hid hz
        clear hw hz
        have hb4 := below_alloc (Below.refl _ (w5.setCell ⟨n3, 2, none⟩ (.string v3))) (.cells #[.int .i64 v1, .int .i64 v2, .string v3] 117)
        have hE := AtPl.one (PlIn.new (w5.setCell ⟨n3, 2, none⟩ (.string v3)) ⟨v1, v2, v3⟩)
        have hO := hO7.below hb4
        have hR := hR7.below hb4
        have hG := by_trans hG7 (by_below hb4 _)
        have hB := hG.size
        have hws : (w5.setCell ⟨n3, 2, none⟩ (.string v3)).heap.size = w5.heap.size := by simp [World.setCell]
        clear hO7 hR7 hG7 hb4
        go_wp2_with (first | (refine load_pl rfl _ rfl _ rfl ⟨v1, v2, v3⟩ hP7 ?_) | (at_builtin; refine wpList_app rfl _ _ rfl w.heap.size _ l [⟨v1, v2, v3⟩] rfl hO (some ⟨(w5.setCell ⟨n3, 2, none⟩ (.string v3)).heap.size, 0, none⟩) 1 1 (by rw [hws]; rfl) rfl hE (fun e => by cases e) (by have : [(⟨v1, v2, v3⟩ : Pl)].length = 1 := rfl; omega) hB ?_; intro v' w6 hO6 hg6 _))
        have hR := hR.keep hg6 (fun e => by have := (World.ownsRow.lt hO b e.symm).1; omega)
        have hG := by_own hG hg6 (fun k e => (World.ownsRow.lt hO k e).1)
        go_wp2
        go_roundw
        case rel => exact ⟨k + 1, l ++ [⟨v1, v2, v3⟩], q3, b3, by omega, by have := HLK.out; rw [List.length_append, this]; rfl, by go_num, hO6, hR, q3s, hG, HZ.out, HW.out⟩
        case measure => simp [intOf]; omega
      · obtain ⟨A, cap, rfl, hTr, _, _⟩ := hO.tr
        obtain ⟨r0, r1, r2⟩ := hR.cells
        clear r0 r1 hlk
        have rf := hR.frozen
        have HOP := Lib.hid (hw.ill hkn)
        clear hw hz hO hTr
        go_wp2_with fail
        go_ret
        exact ⟨none, 0, [], q, true, rfl, SlV.nil _ _, frs_nil _, Nat.zero_le _, hR.setBad, hq, by_set hG 2 (.bool true), Or.inr ⟨HOP.out, rfl, rfl⟩⟩
    · obtain rfl : k = n := by omega
      obtain ⟨A, cap, rfl, hTr, hA0, hAc⟩ := hO.tr
      have HA := Lib.hid (⟨hA0, hAc, hO.frs⟩ : (A = none → cap = 0) ∧ l.length ≤ cap ∧ Frs w.heap.size A)
      clear hA0 hAc
      have hl64 : l.length ≤ 64 := by omega
      clear hlk
      obtain ⟨r0, r1, r2⟩ := hR.cells
      clear r0 r1
      have rf := hR.frozen
      cases b1
      · have hop := hw.good
        have C := fun w (hT : Tr w A l) => refRight_any A cap l w (by omega) (fun p hp => Nat.le_trans (hz p hp) (by omega)) hT
        obtain ⟨tb, htb⟩ : ∃ x, treeB l = x := ⟨_, rfl⟩
        rw [htb] at C hop
        have HC := Lib.hid C
        have HOP := Lib.hid hop
        clear C hop hw hz hO htb
        cases tb
        · go_wp2_with fail
          refine (HC.out _ hTr).mono ?_
          rintro e w8 ⟨rfl, hb8⟩
          have hR := hR.below hb8
          have hG := by_trans hG (by_below hb8 _)
          clear hTr hb8 HC r2 rf
          obtain ⟨r0, r1, r2⟩ := hR.cells
          clear r0 r1
          have rf := hR.frozen
          go_wp2_with fail
          go_ret
          exact ⟨none, 0, [], q, true, rfl, SlV.nil _ _, frs_nil _, Nat.zero_le _, hR.setBad, hq, by_set hG 2 (.bool true), Or.inr ⟨by rw [HOP.out]; simp, rfl, rfl⟩⟩
        · go_wp2_with fail
          refine (HC.out _ hTr).mono ?_
          rintro e w8 ⟨rfl, hb8⟩
          have hR := hR.below hb8
          have hG := by_trans hG (by_below hb8 _)
          have hTr := hTr.below hb8
          clear hb8 HC r2 rf
          go_wp2_with fail
          go_ret
          exact ⟨A, cap, l, q, false, rfl, ⟨plSl.2 hTr, HA.out.1, HA.out.2.1⟩, HA.out.2.2, by omega, hR, hq, hG, Or.inl ⟨by rw [HOP.out]; simp, rfl⟩⟩
      · have HOP := Lib.hid (hw.ill hkn)
        clear hw hz hO hTr
        go_wp2_with fail
        go_ret
        exact ⟨none, 0, [], q, true, rfl, SlV.nil _ _, frs_nil _, Nat.zero_le _, hR.setBad, hq, by_set hG 2 (.bool true), Or.inr ⟨HOP.out, rfl, rfl⟩⟩

/-- A list in memory that is neither below lo nor, if it has anything, from hi on. -/
structure SlN {α : Type} (E : El α) (lo hi : Nat) (w : World) (A : Option Addr) (c : Nat) (l : List α) : Prop where
  sl : SlV E w A c l
  wh : 0 < l.length → ∃ b off, A = some ⟨b, off, none⟩ ∧ lo ≤ b ∧ b < hi
theorem SlN.of {α : Type} {E : El α} {lo : Nat} {w : World} {A : Option Addr} {c : Nat} {l : List α} (h : SlV E w A c l) (hf : Frs lo A) : SlN E lo w.heap.size w A c l :=
  ⟨h, fun h0 => by
    obtain ⟨b, off, e, hl, _⟩ := h.1 h0
    exact ⟨b, off, e, hf _ e, hl⟩⟩
theorem SlN.keep {α : Type} {E : El α} {lo hi : Nat} {w w' : World} {A : Option Addr} {c : Nat} {l : List α} {row : Option Nat} (h : SlN E lo hi w A c l) (hg : w.grownBy w' row) (hr : ∀ k, row = some k → k < lo ∨ hi ≤ k) : SlN E lo hi w' A c l :=
  ⟨⟨fun h0 => by
    obtain ⟨b, off, e, hl, hc⟩ := h.sl.1 h0
    obtain ⟨b2, off2, e2, h1, h2⟩ := h.wh h0
    rw [e] at e2
    cases e2
    exact ⟨b, off, e, Nat.lt_of_lt_of_le hl hg.size, fun i hi => (hc i hi).grown hg (fun e3 => by have := hr b e3.symm; omega)⟩, h.sl.2⟩, h.wh⟩
theorem SlN.below {α : Type} {E : El α} {lo hi : Nat} {w w' : World} {A : Option Addr} {c : Nat} {l : List α} (h : SlN E lo hi w A c l) (hb : Below w.heap.size w w') : SlN E lo hi w' A c l := ⟨SlV.below h.sl hb, h.wh⟩
theorem SlN.raise {α : Type} {E : El α} {lo hi lo' hi' : Nat} {w : World} {A : Option Addr} {c : Nat} {l : List α} (h : SlN E lo hi w A c l) (h1 : lo' ≤ lo) (h2 : hi ≤ hi') : SlN E lo' hi' w A c l :=
  ⟨h.sl, fun h0 => by
    obtain ⟨b, off, e, h3, h4⟩ := h.wh h0
    exact ⟨b, off, e, by omega, by omega⟩⟩

theorem isTree_tree {s : ByteArray} {p : Nat} {bad : Bool} {l : List Pl} {q : Nat} (h : isTree s p bad = some (l, q)) : treeB l = true := by
  unfold isTree at h
  simp only [Option.bind_eq_some_iff] at h
  obtain ⟨a, _, b, _, h⟩ := h
  split at h
  · rename_i hb
    injection h with h
    rw [h] at hb
    exact hb
  · cases h
theorem opsB_iff {l : List Mv} {t : Int} (hok : ∀ m ∈ l, m.ok) : opsB l t = true ↔ OpsR l t := by
  unfold opsB
  rw [decide_eq_true_iff]
  constructor
  · intro h i hi _
    have h1 := h ⟨i, hi⟩
    refine ⟨hok _ (List.getElem_mem _), h1.1, fun h0 => ?_⟩
    have h2 := h1.2 h0
    dsimp only at h2
    rw [List.getD_eq_getElem?_getD, List.getElem?_eq_getElem (show i - 1 < l.length by omega), bef_iff] at h2
    exact of_decide_eq_true h2
  · intro h j
    have h1 := h.at j.1 j.2
    refine ⟨h1.2.1, fun h0 => ?_⟩
    rw [List.getD_eq_getElem?_getD, List.getElem?_eq_getElem (show j.1 - 1 < l.length by omega), bef_iff]
    exact decide_eq_true (h1.2.2 h0)
theorem past_good {s : ByteArray} {p q1 q2 q3 : Nat} {bad : Bool} {base : List Pl} {t : Int} {l : List Mv} (h1 : isTree s p bad = some (base, q1)) (h2 : isNum s q1 false = some (t, q2)) (h3 : opK.isPart 4096 s q2 false = some (l, q3)) : (PastR (pastOf base t l) → isPast s p bad = some (pastOf base t l, q3)) ∧ (¬ PastR (pastOf base t l) → isPast s p bad = none) := by
  have hok : ∀ m ∈ l, m.ok := fun m hm => (opK.part_bytes h3).2.1 m hm
  by_cases ht : 0 ≤ t ∧ t ≤ 1099511627776
  · have hc : isCount s q1 false 1099511627776 = some (t, q2) := by unfold isCount; rw [h2]; dsimp only; rw [if_pos ht]
    have e : isPast s p bad = if opsB l t = true then some (pastOf base t l, q3) else none := by
      unfold isPast
      rw [h1, Option.bind_some]
      dsimp only
      rw [hc, Option.bind_some]
      dsimp only
      rw [h3, Option.bind_some]
    rw [e]
    refine ⟨fun h => if_pos ((opsB_iff hok).2 h.2.2.2.1), fun h => if_neg (fun hb => h ⟨isTree_tree h1, ht.1, ht.2, (opsB_iff hok).1 hb, rfl, rfl⟩)⟩
  · refine ⟨fun h => absurd ⟨h.2.1, h.2.2.1⟩ ht, fun _ => ?_⟩
    have hc : isCount s q1 false 1099511627776 = none := by unfold isCount; rw [h2]; dsimp only; rw [if_neg ht]
    unfold isPast
    rw [h1, Option.bind_some]
    dsimp only
    rw [hc]; rfl
theorem past_ill {s : ByteArray} {p q1 q2 q3 : Nat} {bad b1 b2 : Bool} {base : List Pl} {t : Int} {l : List Mv} (h1 : treeStep s p bad base q1 b1) (h2 : numStep s q1 b1 t q2 b2) (h3 : pStep opK 4096 s q2 b2 l q3 true) : isPast s p bad = none := by
  rcases h1 with ⟨h1, rfl⟩ | ⟨h1, _, _⟩
  · rcases h2 with ⟨h2, rfl⟩ | ⟨h2, _, _⟩
    · rcases h3 with ⟨_, h3⟩ | ⟨h3, _⟩
      · cases h3
      · unfold isPast
        rw [h1, Option.bind_some]
        dsimp only
        cases hc : isCount s q1 false 1099511627776 with
        | none => rfl
        | some c =>
          obtain ⟨v, q⟩ := c
          have h4 := (isCount_some hc).1
          rw [h2] at h4
          injection h4 with h4
          injection h4 with e1 e2
          subst e1 e2
          rw [Option.bind_some]
          dsimp only
          rw [h3]; rfl
    · unfold isPast
      rw [h1, Option.bind_some]
      dsimp only
      have : isCount s q1 false 1099511627776 = none := by unfold isCount; rw [h2]
      rw [this]; rfl
  · unfold isPast
    rw [h1]; rfl
theorem past_part {s : ByteArray} {p q1 q2 q3 : Nat} {bad b1 b2 : Bool} {base : List Pl} {t : Int} {l : List Mv} (h1 : treeStep s p bad base q1 b1) (h2 : numStep s q1 b1 t q2 b2) (h3 : pStep opK 4096 s q2 b2 l q3 false) : isTree s p bad = some (base, q1) ∧ isNum s q1 false = some (t, q2) ∧ opK.isPart 4096 s q2 false = some (l, q3) := by
  rcases h3 with ⟨h3, _⟩ | ⟨_, h3⟩
  · rcases h2 with ⟨h2, rfl⟩ | ⟨_, _, rfl⟩
    · rcases h1 with ⟨h1, rfl⟩ | ⟨_, _, rfl⟩
      · exact ⟨h1, h2, h3⟩
      · rw [isNum_bad] at h2; cases h2
    · unfold Kd.isPart at h3
      rw [isCount_badF] at h3; cases h3
  · cases h3
end Go.Proofs.YtfpgfclmmdihjaaGreat

/- The document's Read of a past: the walk. -/
namespace Go.Proofs.YtfpgfclmmdihjaaGreat
open Go.RowKit Tre Cod Pst Nam

theorem op_ge (m : Mv) : 7 ≤ (opK.b m).size := by
  show 7 ≤ m.bytes.size
  unfold Mv.bytes printOf textOf
  have h1 := bytesOf_pos m.C
  have h2 := bytesOf_pos m.D
  have h3 := bytesOf_pos m.I
  have h4 := bytesOf_pos m.M
  have h5 := bytesOf_pos m.K
  have h6 := bytesOf_pos m.U
  have h7 := bytesOf_pos (m.s.size : Int)
  simp only [ByteArray.size_append]
  omega
theorem opCat_ge : ∀ l : List Mv, 7 * l.length ≤ (opK.cat l).size
  | [] => Nat.zero_le _
  | m :: l => by
    have h1 := op_ge m
    have h2 := opCat_ge l
    rw [Kd.cat, ByteArray.size_append, List.length_cons]
    omega
theorem part_few {s : ByteArray} {p q : Nat} {bad : Bool} {l : List Mv} (h : opK.isPart 4096 s p bad = some (l, q)) (hs : s.size ≤ 3000) : l.length ≤ 430 := by
  have h1 := (opK.part_bytes h).2.2
  have h2 := congrArg List.length h1
  rw [List.length_append, List.length_drop, List.length_drop, L_len, L_len] at h2
  have h3 := opCat_ge l
  unfold Kd.part at h2
  rw [ByteArray.size_append] at h2
  omega
theorem tree_short {l : List Pl} (h : treeB l = true) : ∀ p ∈ l, p.s.size ≤ 9223372036854775807 := fun p hp => by
  have h1 := isName_len (okPl_fit ((treeB_facts h).1 p hp)).2.2.2.2.2
  rw [L_len] at h1
  omega
set_option maxRecDepth 100000 in
set_option maxHeartbeats 16000000 in
theorem refPastRead_uni (w : World) (b p : Nat) (s : ByteArray) (bad : Bool) (hs3 : s.size ≤ 3000) (hp : p ≤ s.size) (hr : Rd 65 w b s p bad) :
    Calls Tryz.prog 20 #[.pointer (some ⟨b, 0, none⟩)] w fun e w' => ∃ (y : Pw) (q : Nat) (bd : Bool), e = .returned (.agg #[.slice y.bA y.base.length y.bc, .int .i64 y.t, .slice y.oA y.ops.length y.oc, .slice y.uA y.us.length y.uc, .slice y.wA y.now.length y.wc]) ∧ PastOk w' y ∧ Rd 65 w' b s q bd ∧ q ≤ s.size ∧ w.grownBy w' (some b) ∧ ((isPast s p bad = some (y.v, q) ∧ bd = false) ∨ (isPast s p bad = none ∧ y = Pw.zero ∧ bd = true)) := by
  have hs : s.size ≤ 1000000 := by omega
  have hbw := hr.lt
  go_enter Tryz.func20, Tryz.ntmps20
  go_upto_region 2 with fail
  have hZ : pwE.In ((w.alloc (.cells #[.slice none 0 0, .int .i64 0, .slice none 0 0, .slice none 0 0, .slice none 0 0] 39)).alloc (.cells #[.slice none 0 0, .int .i64 0, .slice none 0 0, .slice none 0 0, .slice none 0 0] 39)) w.heap.size Pw.zero := (El.In.new (E := pwE) w Pw.zero #[.slice none 0 0, .int .i64 0, .slice none 0 0, .slice none 0 0, .slice none 0 0] rfl).alloc _
  have hY : pwE.In ((w.alloc (.cells #[.slice none 0 0, .int .i64 0, .slice none 0 0, .slice none 0 0, .slice none 0 0] 39)).alloc (.cells #[.slice none 0 0, .int .i64 0, .slice none 0 0, .slice none 0 0, .slice none 0 0] 39)) (w.heap.size + 1) Pw.zero := by
    have h := El.In.new (E := pwE) (w.alloc (.cells #[.slice none 0 0, .int .i64 0, .slice none 0 0, .slice none 0 0, .slice none 0 0] 39)) Pw.zero _ rfl
    rw [alloc_size] at h; exact h
  have hB := below_alloc (below_alloc (Below.refl w.heap.size w) (.cells #[.slice none 0 0, .int .i64 0, .slice none 0 0, .slice none 0 0, .slice none 0 0] 39)) (.cells #[.slice none 0 0, .int .i64 0, .slice none 0 0, .slice none 0 0, .slice none 0 0] 39)
  have hR := hr.below hB
  have hG := by_below hB (some b)
  have hsz : w.heap.size + 1 < ((w.alloc (.cells #[.slice none 0 0, .int .i64 0, .slice none 0 0, .slice none 0 0, .slice none 0 0] 39)).alloc (.cells #[.slice none 0 0, .int .i64 0, .slice none 0 0, .slice none 0 0, .slice none 0 0] 39)).heap.size := by rw [alloc_size, alloc_size]; omega
  obtain ⟨n3, h3⟩ : ∃ n, w.heap.size + 1 = n := ⟨_, rfl⟩
  obtain ⟨n2, h2⟩ : ∃ n, w.heap.size = n := ⟨_, rfl⟩
  have hn2 : w.heap.size ≤ n2 := by omega
  have hwn : w.heap.size ≤ n3 := by omega
  have e2 : b ≠ n2 := by omega
  have e3 : b ≠ n3 := by omega
  have e4 : n2 ≠ n3 := by omega
  have hb3 : b < n3 + 1 := by omega
  have hn23 : n2 < n3 + 1 := by omega
  have i2 : some n2 ≠ some b := fun e => e2 (Option.some.inj e).symm
  have i3 : some n3 ≠ some b := fun e => e3 (Option.some.inj e).symm
  generalize (w.alloc (.cells #[.slice none 0 0, .int .i64 0, .slice none 0 0, .slice none 0 0, .slice none 0 0] 39)).alloc (.cells #[.slice none 0 0, .int .i64 0, .slice none 0 0, .slice none 0 0, .slice none 0 0] 39) = W0 at *
  rw [h3] at hY hsz ⊢
  rw [h2] at hZ ⊢
  clear h2 h3 hB hr
  go_wp2_with fail
  refine (refTreeRead_slv hs hp hR).mono ?_
  rintro e w1 ⟨A1, c1, base, q1, b1, rfl, hS1, hF1, hl64, hR, hq1, hg, st1⟩
  have hT : SlN plE (n3 + 1) w1.heap.size w1 A1 c1 base := (SlN.of hS1 hF1).raise (by omega) (Nat.le_refl _)
  replace hZ := hZ.keep hg i2
  replace hY := hY.keep hg i3
  replace hG := by_trans hG hg
  have hlo : n3 + 1 ≤ w1.heap.size := Nat.le_trans hsz hg.size
  clear hS1 hF1 hg hsz
  have kc : w1.cell? ⟨n3, 0, none⟩ = some (.slice none 0 0) := hY.cell 0
  have kf := hY.frozen
  have gc := by_cell w1 n3 0 (.slice A1 base.length c1)
  replace hY := hY.put ⟨A1, c1, base, 0, none, 0, [], none, 0, [], none, 0, []⟩ 0 (.slice A1 base.length c1) rfl
  replace hZ := hZ.other n3 0 (.slice A1 base.length c1) e4
  replace hR := hR.other n3 0 (.slice A1 base.length c1) e3
  replace hG := by_setNew hG n3 0 (.slice A1 base.length c1) hwn
  replace hT := (hT.keep gc (fun k e => by cases e; omega)).raise (Nat.le_refl _) (show w1.heap.size ≤ (w1.setCell ⟨n3, 0, none⟩ (.slice A1 base.length c1)).heap.size from gc.size)
  replace hlo := Nat.le_trans hlo gc.size
  go_upto_region 3 with fail
  clear kc kf gc
  generalize w1.setCell ⟨n3, 0, none⟩ (.slice A1 base.length c1) = W1 at *
  go_wp2_with fail
  refine (refNum_uni hs hq1 hR).mono ?_
  rintro e w2 ⟨t, q2, b2, rfl, hR, hq2, hg, st2⟩
  replace hZ := hZ.keep hg i2
  replace hY := hY.keep hg i3
  replace hG := by_trans hG hg
  replace hT := (hT.keep hg (fun k e => by cases e; omega)).raise (Nat.le_refl _) hg.size
  replace hlo := Nat.le_trans hlo hg.size
  clear hg
  have kc : w2.cell? ⟨n3, 1, none⟩ = some (.int .i64 0) := hY.cell 1
  have kf := hY.frozen
  have gc := by_cell w2 n3 1 (.int .i64 t)
  replace hY := hY.put ⟨A1, c1, base, t, none, 0, [], none, 0, [], none, 0, []⟩ 1 (.int .i64 t) rfl
  replace hZ := hZ.other n3 1 (.int .i64 t) e4
  replace hR := hR.other n3 1 (.int .i64 t) e3
  replace hG := by_setNew hG n3 1 (.int .i64 t) hwn
  replace hT := (hT.keep gc (fun k e => by cases e; omega)).raise (Nat.le_refl _) gc.size
  replace hlo := Nat.le_trans hlo gc.size
  go_upto_region 4 with fail
  clear kc kf gc
  generalize w2.setCell ⟨n3, 1, none⟩ (.int .i64 t) = W2 at *
  go_wp2_with fail
  refine (refCntP_m 4096 hs hq2 hR).mono ?_
  rintro e w4 ⟨n, q0, b0, rfl, hnm, hR, hq0, hg, st⟩
  have HS := Lib.hid (pAt.start (K := opK) st)
  replace hZ := hZ.keep hg i2
  replace hY := hY.keep hg i3
  replace hG := by_trans hG hg
  replace hT := (hT.keep hg (fun k e => by cases e; omega)).raise (Nat.le_refl _) hg.size
  replace hlo := Nat.le_trans hlo hg.size
  have HNM := Lib.hid hnm
  have HST1 := Lib.hid st1
  have HST2 := Lib.hid st2
  have HL64 := Lib.hid hl64
  clear hg st st1 st2 hnm hl64
  have hO := El.Own.nil (E := opE) w4 w4.heap.size
  go_wp2_with fail
  go_loopw [5] (fun i wr => ∃ (oA : Option Addr) (oc : Nat) (l : List Mv) (q : Nat) (bd : Bool), i = .int .i64 (l.length : Nat) ∧ opE.Own wr w4.heap.size (.slice oA l.length oc) l ∧ pwE.In wr n3 ⟨A1, c1, base, t, oA, oc, l, none, 0, [], none, 0, []⟩ ∧ pwE.In wr n2 Pw.zero ∧ SlN plE (n3 + 1) w4.heap.size wr A1 c1 base ∧ Hid (l.length ≤ n) ∧ Rd 65 wr b s q bd ∧ q ≤ s.size ∧ w.grownBy wr (some b) ∧ w4.heap.size ≤ wr.heap.size ∧ Hid (pAt opK 4096 s q2 b2 n l q bd)) (fun i _ => n - (intOf i).toNat)
  case atStart => exact ⟨none, 0, [], q0, b0, rfl, hO, hY, hZ, hT, Lib.hid (Nat.zero_le _), hR, hq0, hG, Nat.le_refl _, HS⟩
  case round =>
    clear hO hY hZ hT hR hq0 hG HS
    obtain ⟨oA, oc, l, q, bd, rfl, hO, hY, hZ, hT, hl, hR, hq, hG, hws, HS⟩ := hrel
    obtain ⟨r0, r1, r2⟩ := hR.cells
    cases bd
    · by_cases hlt : l.length < n
      · have hnm := HNM.out
        have HLE := Lib.hid (show l.length + 1 ≤ 4096 by omega)
        have f5 : decide ((l.length : Int) < (n : Int)) = true := decide_eq_true (by omega)
        have f6 : decide (l.length < n) = true := decide_eq_true hlt
        have HLT := Lib.hid hlt
        clear hlt hnm
        go_upto_region 8 with fail
        clear r0 r1 r2 f5 f6
        refine region_anyG (S := fun w' => w'.cell? ⟨n3, 2, none⟩ = some (.slice oA l.length oc)) 7 (by kernel_rfl) ?_
        replace hO : opE.Own wr.drew w4.heap.size (.slice oA l.length oc) l := hO.below (Below.refl _ _).drew
        replace hY := hY.below (Below.refl wr.heap.size wr).drew
        replace hZ := hZ.below (Below.refl wr.heap.size wr).drew
        replace hT := hT.below (Below.refl wr.heap.size wr).drew
        replace hR := hR.below (Below.refl wr.heap.size wr).drew
        replace hG := by_trans hG (by_below (Below.refl wr.heap.size wr).drew (some b))
        replace hws : w4.heap.size ≤ wr.drew.heap.size := hws
        generalize wr.drew = U at *
        have hS : U.cell? ⟨n3, 2, none⟩ = some (.slice oA l.length oc) := hY.cell 2
        refine anyG_take (i := 0) (v := .pointer (some ⟨n3, 2, none⟩)) rfl (by kernel_rfl) (by kernel_rfl) (by kernel_rfl) (by kernel_rfl) (by kernel_rfl) (fun _ _ _ h => h) (Or.inl ⟨by rfl, fun w' hSw => by go_simp⟩) hS ?_
        try simp only [Act.put, List.setIfInBounds_toArray, List.set_cons_zero, List.set_cons_succ]
        refine anyG_take (i := 1) (v := .slice oA l.length oc) rfl (by kernel_rfl) (by kernel_rfl) (by kernel_rfl) (by kernel_rfl) (by kernel_rfl) (fun _ _ _ h => h) (Or.inl ⟨by rfl, fun w' hSw => by go_simp⟩) hS ?_
        try simp only [Act.put, List.setIfInBounds_toArray, List.set_cons_zero, List.set_cons_succ]
        refine anyG_take (i := 2) (v := .pointer (some ⟨b, 0, none⟩)) rfl (by kernel_rfl) (by kernel_rfl) (by kernel_rfl) (by kernel_rfl) (by kernel_rfl) (fun _ _ _ h => h) (Or.inl ⟨by rfl, fun w' hSw => by go_simp⟩) hS ?_
        try simp only [Act.put, List.setIfInBounds_toArray, List.set_cons_zero, List.set_cons_succ]
        refine anyG_step (rs := [3]) (by kernel_rfl) (by simp) ?_
        refine AllG.cons rfl (fun K hK => ?_) AllG.nil
        clear hS
        go_simp
        refine (opRefRead_uni hs hq hR).mono ?_
        rintro e U1 ⟨m, q', b2, rfl, hR, hq, hg, st⟩
        have HS1 := Lib.hid (HS.out.next HLT.out (st.imp (fun h => h) (fun h => ⟨h.1, h.2.2⟩)))
        replace hZ := hZ.keep hg i2
        replace hY := hY.keep hg i3
        replace hT := (hT.keep hg (fun k e => by cases e; omega)).raise (Nat.le_refl _) (Nat.le_refl _)
        replace hO := hO.kept hg (Or.inr (fun e => by have := hO.rows b e; omega))
        replace hG := by_trans hG hg
        replace hws := Nat.le_trans hws hg.size
        clear hg st HS
        try go_wp2_with fail
        refine hK.out _ _ (hY.cell 2) ?_
        try simp only [Act.put, List.setIfInBounds_toArray, List.set_cons_zero, List.set_cons_succ]
        clear hK
        have he : opE.Sl (U1.alloc (.cells #[.int .i64 m.C, .int .i64 m.D, .int .i64 m.I, .int .i64 m.M, .int .i64 m.K, .int .i64 m.U, .string m.s] 102)) (some ⟨U1.heap.size, 0, none⟩) [m] := (El.In.new (E := opE) U1 m _ rfl).sl
        have hal := below_alloc (Below.refl U1.heap.size U1) (.cells #[.int .i64 m.C, .int .i64 m.D, .int .i64 m.I, .int .i64 m.M, .int .i64 m.K, .int .i64 m.U, .string m.s] 102)
        replace hZ := hZ.below hal
        replace hY := hY.below hal
        replace hT := hT.below hal
        replace hO := hO.below hal
        replace hR := hR.below hal
        replace hG := by_trans hG (by_below hal (some b))
        replace hws := Nat.le_trans hws hal.size
        refine anyG_step (rs := [4]) (by kernel_rfl) (by simp) ?_
        refine AllG.cons rfl (fun K hK => ?_) AllG.nil
        go_simp
        refine hK.out _ _ (hY.cell 2) ?_
        try simp only [Act.put, List.setIfInBounds_toArray, List.set_cons_zero, List.set_cons_succ]
        clear hK
        clear hal
        generalize U1.alloc (.cells #[.int .i64 m.C, .int .i64 m.D, .int .i64 m.I, .int .i64 m.M, .int .i64 m.K, .int .i64 m.U, .string m.s] 102) = U2 at *
        generalize U1.heap.size = n6 at *
        refine anyG_step (rs := [5]) (by kernel_rfl) (by simp) ?_
        refine AllG.cons rfl (fun K hK => ?_) AllG.nil
        refine El.step_app opInn rfl (.tmp 27) (.tmp 30) rfl w4.heap.size (.slice oA l.length oc) l [m] rfl hO (some ⟨n6, 0, none⟩) 1 1 rfl rfl he (fun e => by cases e) (by have := HLE.out; rw [List.length_singleton]; omega) hws ?_
        intro v2 U3 hO2 hg7 _
        have hr := hO.rows
        replace hZ := hZ.keep hg7 (fun e => by have := hr n2 e.symm; omega)
        replace hY := hY.keep hg7 (fun e => by have := hr n3 e.symm; omega)
        replace hT := hT.keep hg7 (fun k e => Or.inr (hr k e))
        replace hR := hR.keep hg7 (fun e => by have := hr b e.symm; omega)
        replace hG := by_own hG hg7 (fun k e => by have := hr k e; omega)
        replace hws := Nat.le_trans hws hg7.size
        clear hr hg7 hO he
        refine hK.out _ _ (hY.cell 2) ?_
        try simp only [Act.put, List.setIfInBounds_toArray, List.set_cons_zero, List.set_cons_succ]
        clear hK
        obtain ⟨L2, hL2⟩ : ∃ L2, l ++ [m] = L2 := ⟨_, rfl⟩
        rw [hL2] at hO2 HS1
        have hlL : L2.length = l.length + 1 := by rw [← hL2, List.length_append, List.length_singleton]
        have HLL := Lib.hid hlL
        have HL2 := Lib.hid (show L2.length ≤ n by have := HLT.out; omega)
        clear hL2 hlL
        obtain ⟨A', c', rfl, _⟩ := SlV.own hO2
        have hS : U3.cell? ⟨n3, 2, none⟩ = some (.slice oA l.length oc) := hY.cell 2
        refine anyG_take (i := 6) (v := .pointer (some ⟨n3, 2, none⟩)) rfl (by kernel_rfl) (by kernel_rfl) (by kernel_rfl) (by kernel_rfl) (by kernel_rfl) (fun _ _ _ h => h) (Or.inl ⟨by rfl, fun w' hSw => by go_simp⟩) hS ?_
        try simp only [Act.put, List.setIfInBounds_toArray, List.set_cons_zero, List.set_cons_succ]
        have kf := hY.frozen
        have gc := by_cell U3 n3 2 (.slice A' L2.length c')
        have hr8 := hO2.rows
        have hO3 := hO2.kept gc (Or.inr (fun e => by have := hr8 n3 e; omega))
        have hY2 := hY.put ⟨A1, c1, base, t, A', c', L2, none, 0, [], none, 0, []⟩ 2 (.slice A' L2.length c') rfl
        replace hZ := hZ.other n3 2 (.slice A' L2.length c') e4
        replace hR := hR.other n3 2 (.slice A' L2.length c') e3
        replace hG := by_setNew hG n3 2 (.slice A' L2.length c') hwn
        replace hT := hT.keep gc (fun k e => by cases e; omega)
        replace hws := Nat.le_trans hws gc.size
        clear hO2 hr8 hY gc
        refine anyG_step (rs := [7]) (by kernel_rfl) (by simp) ?_
        refine AllG.last (n := 7) rfl (fun K hK => ?_)
        go_simp
        refine hK.out _ _ ?_
        try simp only [Act.put, List.setIfInBounds_toArray, List.set_cons_zero, List.set_cons_succ]
        clear hK
        clear kf hS
        refine anyG_done (by kernel_rfl) ?_ _
        generalize U3.setCell ⟨n3, 2, none⟩ (.slice A' L2.length c') = U4 at *
        have w1 : IntKind.i64.wrap ((l.length : Int) + 1) = ((l.length + 1 : Nat) : Int) := by have := HLE.out; rw [IntKind.wrap_i64]; omega
        go_wp2_with fail
        exact ⟨⟨A', c', L2, q', b2, by rw [HLL.out]; rfl, hO3, hY2, hZ, hT, HL2, hR, hq, hG, hws, HS1⟩, by have := HLT.out; simp [intOf]; omega⟩
      · have hgood := past_part HST1.out HST2.out (HS.out.good hlt hl.out)
        have f5 : decide ((l.length : Int) < (n : Int)) = false := decide_eq_false (by omega)
        have f6 : decide (l.length < n) = false := decide_eq_false hlt
        have hl430 := part_few hgood.2.2 hs3
        have hl64 := HL64.out
        obtain ⟨_, _, e0, hSo⟩ := SlV.own hO
        cases e0
        have CF := mvRefFold_any A1 c1 base oA oc l wr (by omega) hT.sl hSo.1
        have h30 : n3 < wr.heap.size := by omega
        have h31 : n2 < wr.heap.size := by omega
        have hTb : SlV plE wr A1 c1 base := hT.sl
        have HGD := Lib.hid hgood
        obtain ⟨y0, y1, y2, y3, y4⟩ := pwIn5 hY
        have hfo := hO.frs
        clear hgood hO HS
        go_wp2_with fail
        refine CF.mono ?_
        rintro e w5 ⟨A5, c5, U5, uc5, rfl, hF1, hF2, hfr1, hfr2, hb5⟩
        clear CF y0 y1 y2 y3 y4 r0 r1 r2 f5 f6
        have hnow := foldL_len1 base (mvs l)
        have hml : (mvs l).length ≤ l.length := by simp [mvs]
        have hus : (foldL base (mvs l)).2.length ≤ (mvs l).length := Nat.le_of_eq (foldL_len base (mvs l))
        have HPO := Lib.hid (show (⟨base, t, l, (foldL base (mvs l)).2, (foldL base (mvs l)).1⟩ : Pv) = pastOf base t l from rfl)
        generalize (foldL base (mvs l)).1 = now1 at *
        generalize (foldL base (mvs l)).2 = us1 at *
        replace hY := hY.below hb5
        replace hZ := hZ.below hb5
        replace hR := hR.below hb5
        replace hG := by_trans hG (by_below hb5 (some b))
        replace hT := hT.below hb5
        have hO5 := hSo.below hb5
        obtain ⟨y0, y1, y2, y3, y4⟩ := pwIn5 hY
        have yf := hY.frozen
        have hY10 := (hY.put ⟨A1, c1, base, t, oA, oc, l, none, 0, [], A5, c5, now1⟩ 4 (.slice A5 now1.length c5) rfl).put ⟨A1, c1, base, t, oA, oc, l, U5, uc5, us1, A5, c5, now1⟩ 3 (.slice U5 us1.length uc5) rfl
        have hg10 := by_cell2 (by_cell w5 n3 4 (.slice A5 now1.length c5)) 3 (.slice U5 us1.length uc5)
        have hZ10 := (hZ.other n3 4 (.slice A5 now1.length c5) e4).other n3 3 (.slice U5 us1.length uc5) e4
        have hR10 := (hR.other n3 4 (.slice A5 now1.length c5) e3).other n3 3 (.slice U5 us1.length uc5) e3
        have hG10 := by_setNew (by_setNew hG n3 4 (.slice A5 now1.length c5) hwn) n3 3 (.slice U5 us1.length uc5) hwn
        have hB5 := hT.keep hg10 (fun k e => by cases e; omega)
        have hn34 : n3 < w4.heap.size := by omega
        have hn24 : n2 < w4.heap.size := by omega
        have hOp := SlV.keep hO5 hfo hg10 hn34
        have hUs := hF2.keep hfr2 hg10 h30
        have hNw := hF1.keep hfr1 hg10 h30
        have hPk : PastOk ((w5.setCell ⟨n3, 4, none⟩ (.slice A5 now1.length c5)).setCell ⟨n3, 3, none⟩ (.slice U5 us1.length uc5)) ⟨A1, c1, base, t, oA, oc, l, U5, uc5, us1, A5, c5, now1⟩ := ⟨hB5.sl, hOp, hUs, hNw⟩
        clear hO5 hF1 hF2 hg10 hY hZ hR hG hT hOp hUs hNw
        go_upto_region 12 with fail
        clear y0 y1 y2 y3 y4 yf
        generalize (w5.setCell ⟨n3, 4, none⟩ (.slice A5 now1.length c5)).setCell ⟨n3, 3, none⟩ (.slice U5 us1.length uc5) = W6 at *
        obtain ⟨bv, hbv⟩ : ∃ bv : Bool, bv = true ↔ PastR (⟨base, t, l, us1, now1⟩ : Pv) := by
          by_cases h : PastR (⟨base, t, l, us1, now1⟩ : Pv)
          · exact ⟨true, by simp [h]⟩
          · exact ⟨false, by simp [h]⟩
        have CR := refPastRightG_any ⟨A1, c1, base, t, oA, oc, l, U5, uc5, us1, A5, c5, now1⟩ W6 hPk (by show base.length ≤ _; omega) (by show l.length ≤ 800; omega) (by show us1.length ≤ _; omega) (by show now1.length ≤ _; omega) (tree_short (isTree_tree HGD.out.1)) (fun m hm => by have := (opB_wide ((opK.part_bytes HGD.out.2.2).2.1 m hm)).2.2.1; omega) bv hbv
        have HP := Lib.hid (past_good HGD.out.1 HGD.out.2.1 HGD.out.2.2)
        have HBV := Lib.hid hbv
        clear hbv
        obtain ⟨y0, y1, y2, y3, y4⟩ := pwIn5 hY10
        go_wp2_with (first | (refine El.load pwRow rfl _ rfl n3 0 rfl ⟨A1, c1, base, t, oA, oc, l, U5, uc5, us1, A5, c5, now1⟩ hY10.at #[.slice A1 base.length c1, .int .i64 t, .slice oA l.length oc, .slice U5 us1.length uc5, .slice A5 now1.length c5] rfl ?_) | fail)
        refine CR.mono ?_
        rintro e w7 ⟨rfl, hb7⟩
        replace hY10 := hY10.below hb7
        replace hZ10 := hZ10.below hb7
        replace hR10 := hR10.below hb7
        replace hG10 := by_trans hG10 (by_below hb7 (some b))
        replace hB5 := hB5.below hb7
        replace hPk := hPk.below hb7
        clear CR hb7 y0 y1 y2 y3 y4
        cases bv
        · have HI := Lib.hid (show isPast s p bad = none from HP.out.2 (fun h => by rw [← HPO.out] at h; have := HBV.out.2 h; cases this))
          clear hPk hY10
          obtain ⟨r0, r1, r2⟩ := hR10.cells
          have rf := hR10.frozen
          have hR := hR10.setBad
          have hG := by_set hG10 2 (.bool true)
          have hZ := hZ10.other b 2 (.bool true) (fun e => e2 e.symm)
          clear hR10 hG10 hZ10
          go_wp2_with (first | (refine El.store pwRow rfl _ _ rfl n2 Pw.zero #[.slice none 0 0, .int .i64 0, .slice none 0 0, .slice none 0 0, .slice none 0 0] rfl rfl rfl Pw.zero hZ ?_) | fail)
          refine El.ret1 pwRow (hZ.set Pw.zero _ rfl) rfl rfl rfl #[.slice none 0 0, .int .i64 0, .slice none 0 0, .slice none 0 0, .slice none 0 0] rfl ?_
          exact ⟨Pw.zero, q, true, rfl, PastOk.zero _, hR.row n2 _ e2, hq, by_setRow hG n2 _ hn2, Or.inr ⟨HI.out, rfl, rfl⟩⟩
        · have HI := Lib.hid (show isPast s p bad = some (⟨base, t, l, us1, now1⟩, q) by rw [HPO.out]; exact HP.out.1 (by rw [← HPO.out]; exact HBV.out.1 rfl))
          go_wp2_with (first | (refine El.load pwRow rfl _ rfl n3 0 rfl ⟨A1, c1, base, t, oA, oc, l, U5, uc5, us1, A5, c5, now1⟩ hY10.at #[.slice A1 base.length c1, .int .i64 t, .slice oA l.length oc, .slice U5 us1.length uc5, .slice A5 now1.length c5] rfl ?_) | (refine El.store pwRow rfl _ _ rfl n2 ⟨A1, c1, base, t, oA, oc, l, U5, uc5, us1, A5, c5, now1⟩ #[.slice A1 base.length c1, .int .i64 t, .slice oA l.length oc, .slice U5 us1.length uc5, .slice A5 now1.length c5] rfl rfl rfl Pw.zero hZ10 ?_) | fail)
          refine El.ret1 pwRow (hZ10.set ⟨A1, c1, base, t, oA, oc, l, U5, uc5, us1, A5, c5, now1⟩ #[.slice A1 base.length c1, .int .i64 t, .slice oA l.length oc, .slice U5 us1.length uc5, .slice A5 now1.length c5] rfl) rfl rfl rfl #[.slice A1 base.length c1, .int .i64 t, .slice oA l.length oc, .slice U5 us1.length uc5, .slice A5 now1.length c5] rfl ?_
          exact ⟨⟨A1, c1, base, t, oA, oc, l, U5, uc5, us1, A5, c5, now1⟩, q, false, rfl, ⟨(hB5.keep (by_row _ n2 _) (fun k e => by cases e; omega)).sl, SlV.keep hPk.o hfo (by_row _ n2 _) hn24, SlV.keep hPk.u hfr2 (by_row _ n2 _) h31, SlV.keep hPk.w hfr1 (by_row _ n2 _) h31⟩, hR10.row n2 _ e2, hq, by_setRow hG10 n2 _ hn2, Or.inl ⟨HI.out, rfl⟩⟩
    · have HI := Lib.hid (show isPast s p bad = none from past_ill HST1.out HST2.out HS.out.ill)
      clear HS hO hY hT
      by_cases hlt : l.length < n
      · have f5 : decide ((l.length : Int) < (n : Int)) = true := decide_eq_true (by omega)
        have f6 : decide (l.length < n) = true := decide_eq_true hlt
        clear hlt
        go_wp2_with (first | (refine El.store pwRow rfl _ _ rfl n2 Pw.zero #[.slice none 0 0, .int .i64 0, .slice none 0 0, .slice none 0 0, .slice none 0 0] rfl rfl rfl Pw.zero hZ ?_) | fail)
        refine El.ret1 pwRow (hZ.set Pw.zero _ rfl) rfl rfl rfl #[.slice none 0 0, .int .i64 0, .slice none 0 0, .slice none 0 0, .slice none 0 0] rfl ?_
        exact ⟨Pw.zero, q, true, rfl, PastOk.zero _, hR.row n2 _ e2, hq, by_setRow hG n2 _ hn2, Or.inr ⟨HI.out, rfl, rfl⟩⟩
      · have f5 : decide ((l.length : Int) < (n : Int)) = false := decide_eq_false (by omega)
        have f6 : decide (l.length < n) = false := decide_eq_false hlt
        clear hlt
        go_wp2_with (first | (refine El.store pwRow rfl _ _ rfl n2 Pw.zero #[.slice none 0 0, .int .i64 0, .slice none 0 0, .slice none 0 0, .slice none 0 0] rfl rfl rfl Pw.zero hZ ?_) | fail)
        refine El.ret1 pwRow (hZ.set Pw.zero _ rfl) rfl rfl rfl #[.slice none 0 0, .int .i64 0, .slice none 0 0, .slice none 0 0, .slice none 0 0] rfl ?_
        exact ⟨Pw.zero, q, true, rfl, PastOk.zero _, hR.row n2 _ e2, hq, by_setRow hG n2 _ hn2, Or.inr ⟨HI.out, rfl, rfl⟩⟩
end Go.Proofs.YtfpgfclmmdihjaaGreat

/- The document's examples of layer 17, given the program's calls. -/
namespace Go.Proofs.YtfpgfclmmdihjaaGreat
open Go.RowKit Nam Cod Tre Pst

def P3 : Pv := ⟨[], 3, [], [], []⟩
def Y3 : Pw := ⟨none, 0, [], 3, none, 0, [], none, 0, [], none, 0, []⟩
theorem P3_inv : PInv P3 where
  tree := rfl
  t0 := by decide
  t1 := by decide
  ok := fun m h => by cases h
  gt := fun m h => by cases h
  ris := List.Pairwise.nil
  un := rfl
  nw := rfl
def c112 : Cn := ⟨1, 1, 2⟩
def sn79 : Sn := ⟨7, 9, P3, [c112]⟩
theorem sn79_is : isSnap (snBytes sn79) = some sn79 := snap_is sn79 P3_inv (by decide) ⟨by decide, by decide⟩ ⟨by decide, by decide⟩ (by decide) (by decide) (by decide)
theorem sn79_more : isSnap (snBytes sn79 ++ ⟨#[120]⟩) = none := snap_more sn79 ⟨#[120]⟩ (by decide) P3_inv (by decide) (by unfold i64; decide) (by unfold i64; decide) (by decide) (by decide) (by decide)
theorem sn79_few (Z : ByteArray) : ∀ V q, isSnapP (snBytes sn79 ++ Z) = some (V, q) → V.ops.length ≤ 800 := snap_few sn79 Z P3_inv (by decide) (by unfold i64; decide) (by unfold i64; decide)
theorem sn79_few0 : ∀ V q, isSnapP (snBytes sn79) = some (V, q) → V.ops.length ≤ 800 := by
  have h := sn79_few ⟨#[]⟩
  rw [show snBytes sn79 ++ ⟨#[]⟩ = snBytes sn79 from L_inj (by rw [L_app]; simp [L])] at h
  exact h
theorem sn79_le : (snBytes sn79).size ≤ 200000 := by
  have h1 := tree_bytes P3_inv.tree
  have b1 := bytesOf_le10 (n := 7) (by unfold i64; decide)
  have b2 := bytesOf_le10 (n := 9) (by unfold i64; decide)
  have b3 := bytesOf_le10 (n := 3) (by unfold i64; decide)
  have b4 := bytesOf_le10 (n := 0) (by unfold i64; decide)
  have b5 := bytesOf_le10 (n := 1) (by unfold i64; decide)
  have b6 := bytesOf_le10 (n := 2) (by unfold i64; decide)
  have e1 : (pastBytes P3).size = (treeBytes P3.base).size + (bytesOf 3).size + (bytesOf 0).size := by
    unfold pastBytes headV
    simp only [ByteArray.size_append]
    show _ + _ + _ + (ByteArray.mk #[]).size = _
    rfl
  have e2 : (cnK.part [c112]).size = (bytesOf 1).size + ((bytesOf 1).size + (bytesOf 1).size + (bytesOf 2).size) := by
    unfold Kd.part
    simp only [ByteArray.size_append]
    show _ + (cnBytes c112 ++ ⟨#[]⟩).size = _
    rw [ByteArray.size_append]
    unfold cnBytes
    simp only [ByteArray.size_append]
    rfl
  have e3 : (snBytes sn79).size = (bytesOf 7).size + (bytesOf 9).size + (pastBytes P3).size + (cnK.part [c112]).size := by
    unfold snBytes; simp only [ByteArray.size_append]; rfl
  omega
def g342 : Gf := ⟨3, 4, 2, 3, ⟨#[101]⟩⟩
def g341 : Gf := ⟨3, 4, 1, 3, ⟨#[]⟩⟩
def rp34 (i m k : Int) : Rp := ⟨3, i, 0, 0, m, 0, 0, 0, k⟩
theorem cut_yes : cutV ⟨#[97, 98, 99, 100, 101]⟩ 2 2 (rp34 4 0 0) = (g342, true) := by
  have e : (ByteArray.mk #[97, 98, 99, 100, 101]).extract 4 5 = ⟨#[101]⟩ := by decide +kernel
  unfold cutV g342
  rw [if_pos (by decide), ← e]
  rfl
theorem cut_no : cutV ⟨#[97, 98, 99, 100, 101]⟩ 2 3 zeroRp = (zeroGf, false) := rfl
theorem merge_ex : mergeG (mergeG [] g342) g341 = [g342] := rfl
theorem wanted_no : wantedG g342 [rp34 5 0 0] = false := rfl
theorem wanted_yes : wantedG g342 [rp34 4 2 2] = true := rfl
theorem slOne {α : Type} {E : El α} (w : World) (x : α) (cs : Array Value) (hc : cs = (E.c x).toArray) : SlV E (w.alloc (.cells cs E.e)) (some ⟨w.heap.size, 0, none⟩) 1 [x] :=
  ⟨(El.In.new (E := E) w x _ hc).sl, (fun e => by cases e), Nat.le_refl _⟩
theorem st_zero : (Tryz.prog.info? 43).map (·.zero) = some (some (.agg #[.int .i64 0, .int .i64 0, .int .i64 0, .int .i64 0, .int .i64 0, .int .i64 0, .slice none 0 0, .int .i64 0, .int .i64 0, .slice none 0 0, .slice none 0 0, .slice none 0 0, .slice none 0 0, .slice none 0 0, .slice none 0 0, .int .i64 0, .slice none 0 0, .slice none 0 0, .slice none 0 0, .slice none 0 0, .int .i64 0, .int .i64 0, .int .i64 0, .int .i64 0, .slice none 0 0, .int .i64 0])) := by kernel_rfl
/-- A state laid, in one step. -/
theorem wpList_alloc_st {ops : Array Oper} {rest : List Oper} {o : Oper} {a : Act} {w : World} {Q : Exit → Act → World → Prop} (hgd : o.guard = none) (ho : o.op = .alloc 43)
    (h : wpList Tryz.prog ops Q rest (a.put o.dst (.pointer (some ⟨w.heap.size, 0, none⟩))) (w.alloc (.cells #[.int .i64 0, .int .i64 0, .int .i64 0, .int .i64 0, .int .i64 0, .int .i64 0, .slice none 0 0, .int .i64 0, .int .i64 0, .slice none 0 0, .slice none 0 0, .slice none 0 0, .slice none 0 0, .slice none 0 0, .slice none 0 0, .int .i64 0, .slice none 0 0, .slice none 0 0, .slice none 0 0, .slice none 0 0, .int .i64 0, .int .i64 0, .int .i64 0, .int .i64 0, .slice none 0 0, .int .i64 0] 43))) : wpList Tryz.prog ops Q (o :: rest) a w :=
  wpList_plain hgd fun _ hK => by
    have hR := st_zero
    cases hq : Tryz.prog.info? 43 with
    | none => simp [hq] at hR
    | some inf =>
      have hinf : inf.zero = some (.agg #[.int .i64 0, .int .i64 0, .int .i64 0, .int .i64 0, .int .i64 0, .int .i64 0, .slice none 0 0, .int .i64 0, .int .i64 0, .slice none 0 0, .slice none 0 0, .slice none 0 0, .slice none 0 0, .slice none 0 0, .slice none 0 0, .int .i64 0, .slice none 0 0, .slice none 0 0, .slice none 0 0, .slice none 0 0, .int .i64 0, .int .i64 0, .int .i64 0, .int .i64 0, .slice none 0 0, .int .i64 0]) := by simpa [hq] using hR
      have hv : (Instr.alloc 43 true (.tuple #[])).run Tryz.prog w = .ok (.pointer (some ⟨w.heap.size, 0, none⟩)) (w.alloc (.cells #[.int .i64 0, .int .i64 0, .int .i64 0, .int .i64 0, .int .i64 0, .int .i64 0, .slice none 0 0, .int .i64 0, .int .i64 0, .slice none 0 0, .slice none 0 0, .slice none 0 0, .slice none 0 0, .slice none 0 0, .slice none 0 0, .int .i64 0, .slice none 0 0, .slice none 0 0, .slice none 0 0, .slice none 0 0, .int .i64 0, .int .i64 0, .int .i64 0, .int .i64 0, .slice none 0 0, .int .i64 0] 43)) := by
        simp [Instr.alloc, zeroValue, typeInfo, hq, hinf, newVar, newRow, newObj, Value.cells]
        rfl
      unfold Oper.wp execOp
      simp only [ho, hv, Sem.run_bind, Sem.run_pure, Result.andThen_ok]
      exact hK _ _ h
set_option maxRecDepth 100000 in
set_option maxHeartbeats 8000000 in
theorem awake17_any (H : GiftCalls) (w : World) : Calls Tryz.prog 4 #[] w fun e w' => e = .returned (.bool true) ∧ Below w.heap.size w w' := by
  have hc1 : SlV cnE (w.alloc (.cells #[.int .i64 1, .int .i64 1, .int .i64 2] 55)) (some ⟨w.heap.size, 0, none⟩) 1 [c112] := slOne w c112 _ rfl
  have hB := below_alloc (Below.refl w.heap.size w) (.cells #[.int .i64 1, .int .i64 1, .int .i64 2] 55)
  have C0 := Lib.hid (show Calls Tryz.prog 12 #[.int .i64 7, .int .i64 9, .agg #[.slice none 0 0, .int .i64 3, .slice none 0 0, .slice none 0 0, .slice none 0 0], .slice (some ⟨w.heap.size, 0, none⟩) 1 1] (w.alloc (.cells #[.int .i64 1, .int .i64 1, .int .i64 2] 55)) fun e w' => e = .returned (.string (snBytes sn79)) ∧ Below (w.alloc (.cells #[.int .i64 1, .int .i64 1, .int .i64 2] 55)).heap.size (w.alloc (.cells #[.int .i64 1, .int .i64 1, .int .i64 2] 55)) w' from
    H.freeze 7 9 Y3 (some ⟨w.heap.size, 0, none⟩) 1 [c112] _ (by unfold i64; decide) (by unfold i64; decide) P3_inv (by decide) ⟨SlV.nil _ _, SlV.nil _ _, SlV.nil _ _, SlV.nil _ _⟩ (by decide) (by
      intro c hc
      rw [List.mem_singleton] at hc
      subst hc
      unfold CnW i64; decide) hc1)
  have hX1 := sn79_is
  have hX2 := sn79_more
  have hX3 := sn79_le
  have hX4 := Lib.hid (sn79_few ⟨#[120]⟩)
  have hX5 := Lib.hid sn79_few0
  generalize snBytes sn79 = X at *
  have C1 := Lib.hid (fun wx => H.thaw X wx (by omega) hX5.out)
  have C2 := Lib.hid (fun wx => H.thaw (X ++ ⟨#[120]⟩) wx (by rw [ByteArray.size_append]; show X.size + 1 ≤ _; omega) hX4.out)
  have hy : ¬ 9223372036854775807 < X.size + 1 := by omega
  clear hc1
  go_enter Tryz.func4, Tryz.ntmps4
  go_wp2_with fail
  refine C0.out.mono ?_
  rintro e w1 ⟨rfl, hb1⟩
  replace hB := below_then hB hb1
  clear hb1 C0
  go_wp2_with fail
  refine (C1.out _).mono ?_
  rintro e w2 ⟨x, bx, rfl, _, hb2, hx⟩
  replace hB := below_then hB hb2
  rw [hX1] at hx
  obtain ⟨hxe, hbx⟩ : some sn79 = some x.v ∧ bx = true := by
    rcases hx with ⟨h1, h2⟩ | ⟨h1, _, _⟩
    · exact ⟨h1, h2⟩
    · cases h1
  subst hbx
  clear hx
  injection hxe with hx
  have HX0 := Lib.hid (show x.pos = 7 from (congrArg Sn.pos hx).symm)
  have HX1 := Lib.hid (show x.clock = 9 from (congrArg Sn.clock hx).symm)
  have HX2 := Lib.hid (show x.y.t = 3 from (congrArg (fun s => s.p.t) hx).symm)
  have HX3 := Lib.hid (show x.l.length = 1 from congrArg List.length (congrArg Sn.l hx).symm)
  clear hx hX1 C1 hb2
  have hZ : stE.In (w2.alloc (.cells #[.int .i64 0, .int .i64 0, .int .i64 0, .int .i64 0, .int .i64 0, .int .i64 0, .slice none 0 0, .int .i64 0, .int .i64 0, .slice none 0 0, .slice none 0 0, .slice none 0 0, .slice none 0 0, .slice none 0 0, .slice none 0 0, .int .i64 0, .slice none 0 0, .slice none 0 0, .slice none 0 0, .slice none 0 0, .int .i64 0, .int .i64 0, .int .i64 0, .int .i64 0, .slice none 0 0, .int .i64 0] 43)) w2.heap.size Sw.zero := El.In.new (E := stE) w2 Sw.zero _ rfl
  have hal := below_alloc (Below.refl w2.heap.size w2) (.cells #[.int .i64 0, .int .i64 0, .int .i64 0, .int .i64 0, .int .i64 0, .int .i64 0, .slice none 0 0, .int .i64 0, .int .i64 0, .slice none 0 0, .slice none 0 0, .slice none 0 0, .slice none 0 0, .slice none 0 0, .slice none 0 0, .int .i64 0, .slice none 0 0, .slice none 0 0, .slice none 0 0, .slice none 0 0, .int .i64 0, .int .i64 0, .int .i64 0, .int .i64 0, .slice none 0 0, .int .i64 0] 43)
  have hw2 := hB.size
  replace hB := below_then hB hal
  clear hal
  go_upto_region 3 with (first | (refine wpList_alloc_st rfl rfl ?_) | (refine El.store stRow rfl _ _ rfl w2.heap.size x #[.int .i64 0, .int .i64 0, .int .i64 0, .int .i64 x.pos, .int .i64 x.y.t, .int .i64 x.pos, .slice none 0 0, .int .i64 0, .int .i64 0, .slice none 0 0, .slice none 0 0, .slice none 0 0, .slice none 0 0, .slice none 0 0, .slice x.y.bA x.y.base.length x.y.bc, .int .i64 x.y.t, .slice x.y.oA x.y.ops.length x.y.oc, .slice x.y.uA x.y.us.length x.y.uc, .slice x.y.wA x.y.now.length x.y.wc, .slice x.cA x.l.length x.cc, .int .i64 0, .int .i64 0, .int .i64 x.clock, .int .i64 0, .slice none 0 0, .int .i64 0] rfl rfl rfl Sw.zero hZ ?_) | fail)
  have hE : stE.In ((w2.alloc (.cells #[.int .i64 0, .int .i64 0, .int .i64 0, .int .i64 0, .int .i64 0, .int .i64 0, .slice none 0 0, .int .i64 0, .int .i64 0, .slice none 0 0, .slice none 0 0, .slice none 0 0, .slice none 0 0, .slice none 0 0, .slice none 0 0, .int .i64 0, .slice none 0 0, .slice none 0 0, .slice none 0 0, .slice none 0 0, .int .i64 0, .int .i64 0, .int .i64 0, .int .i64 0, .slice none 0 0, .int .i64 0] 43)).setRow w2.heap.size #[.int .i64 0, .int .i64 0, .int .i64 0, .int .i64 x.pos, .int .i64 x.y.t, .int .i64 x.pos, .slice none 0 0, .int .i64 0, .int .i64 0, .slice none 0 0, .slice none 0 0, .slice none 0 0, .slice none 0 0, .slice none 0 0, .slice x.y.bA x.y.base.length x.y.bc, .int .i64 x.y.t, .slice x.y.oA x.y.ops.length x.y.oc, .slice x.y.uA x.y.us.length x.y.uc, .slice x.y.wA x.y.now.length x.y.wc, .slice x.cA x.l.length x.cc, .int .i64 0, .int .i64 0, .int .i64 x.clock, .int .i64 0, .slice none 0 0, .int .i64 0]) w2.heap.size x := hZ.set x _ rfl
  replace hB := below_setRow hB hw2 #[.int .i64 0, .int .i64 0, .int .i64 0, .int .i64 x.pos, .int .i64 x.y.t, .int .i64 x.pos, .slice none 0 0, .int .i64 0, .int .i64 0, .slice none 0 0, .slice none 0 0, .slice none 0 0, .slice none 0 0, .slice none 0 0, .slice x.y.bA x.y.base.length x.y.bc, .int .i64 x.y.t, .slice x.y.oA x.y.ops.length x.y.oc, .slice x.y.uA x.y.us.length x.y.uc, .slice x.y.wA x.y.now.length x.y.wc, .slice x.cA x.l.length x.cc, .int .i64 0, .int .i64 0, .int .i64 x.clock, .int .i64 0, .slice none 0 0, .int .i64 0]
  clear hZ
  generalize (w2.alloc (.cells #[.int .i64 0, .int .i64 0, .int .i64 0, .int .i64 0, .int .i64 0, .int .i64 0, .slice none 0 0, .int .i64 0, .int .i64 0, .slice none 0 0, .slice none 0 0, .slice none 0 0, .slice none 0 0, .slice none 0 0, .slice none 0 0, .int .i64 0, .slice none 0 0, .slice none 0 0, .slice none 0 0, .slice none 0 0, .int .i64 0, .int .i64 0, .int .i64 0, .int .i64 0, .slice none 0 0, .int .i64 0] 43)).setRow w2.heap.size #[.int .i64 0, .int .i64 0, .int .i64 0, .int .i64 x.pos, .int .i64 x.y.t, .int .i64 x.pos, .slice none 0 0, .int .i64 0, .int .i64 0, .slice none 0 0, .slice none 0 0, .slice none 0 0, .slice none 0 0, .slice none 0 0, .slice x.y.bA x.y.base.length x.y.bc, .int .i64 x.y.t, .slice x.y.oA x.y.ops.length x.y.oc, .slice x.y.uA x.y.us.length x.y.uc, .slice x.y.wA x.y.now.length x.y.wc, .slice x.cA x.l.length x.cc, .int .i64 0, .int .i64 0, .int .i64 x.clock, .int .i64 0, .slice none 0 0, .int .i64 0] = V3 at *
  generalize w2.heap.size = n2 at *
  go_wp2_with fail
  refine (C2.out _).mono ?_
  rintro e w3 ⟨x2, b2, rfl, _, hb3, hx⟩
  replace hE := hE.below hb3
  replace hB := below_then hB hb3
  have hbx : b2 = false := by
    rw [hX2] at hx
    rcases hx with ⟨h1, _⟩ | ⟨_, _, h2⟩
    · cases h1
    · exact h2
  subst hbx
  clear hx hX2 C2 hb3
  have hZ : stE.In (w3.alloc (.cells #[.int .i64 0, .int .i64 0, .int .i64 0, .int .i64 0, .int .i64 0, .int .i64 0, .slice none 0 0, .int .i64 0, .int .i64 0, .slice none 0 0, .slice none 0 0, .slice none 0 0, .slice none 0 0, .slice none 0 0, .slice none 0 0, .int .i64 0, .slice none 0 0, .slice none 0 0, .slice none 0 0, .slice none 0 0, .int .i64 0, .int .i64 0, .int .i64 0, .int .i64 0, .slice none 0 0, .int .i64 0] 43)) w3.heap.size Sw.zero := El.In.new (E := stE) w3 Sw.zero _ rfl
  have hal := below_alloc (Below.refl w3.heap.size w3) (.cells #[.int .i64 0, .int .i64 0, .int .i64 0, .int .i64 0, .int .i64 0, .int .i64 0, .slice none 0 0, .int .i64 0, .int .i64 0, .slice none 0 0, .slice none 0 0, .slice none 0 0, .slice none 0 0, .slice none 0 0, .slice none 0 0, .int .i64 0, .slice none 0 0, .slice none 0 0, .slice none 0 0, .slice none 0 0, .int .i64 0, .int .i64 0, .int .i64 0, .int .i64 0, .slice none 0 0, .int .i64 0] 43)
  have hw3 := hB.size
  have hne : n2 ≠ w3.heap.size := by have := hE.lt; omega
  replace hE := hE.below hal
  replace hB := below_then hB hal
  clear hal
  go_upto_region 4 with (first | (refine wpList_alloc_st rfl rfl ?_) | (refine El.store stRow rfl _ _ rfl w3.heap.size x2 #[.int .i64 0, .int .i64 0, .int .i64 0, .int .i64 x2.pos, .int .i64 x2.y.t, .int .i64 x2.pos, .slice none 0 0, .int .i64 0, .int .i64 0, .slice none 0 0, .slice none 0 0, .slice none 0 0, .slice none 0 0, .slice none 0 0, .slice x2.y.bA x2.y.base.length x2.y.bc, .int .i64 x2.y.t, .slice x2.y.oA x2.y.ops.length x2.y.oc, .slice x2.y.uA x2.y.us.length x2.y.uc, .slice x2.y.wA x2.y.now.length x2.y.wc, .slice x2.cA x2.l.length x2.cc, .int .i64 0, .int .i64 0, .int .i64 x2.clock, .int .i64 0, .slice none 0 0, .int .i64 0] rfl rfl rfl Sw.zero hZ ?_) | fail)
  replace hE := hE.rowN w3.heap.size #[.int .i64 0, .int .i64 0, .int .i64 0, .int .i64 x2.pos, .int .i64 x2.y.t, .int .i64 x2.pos, .slice none 0 0, .int .i64 0, .int .i64 0, .slice none 0 0, .slice none 0 0, .slice none 0 0, .slice none 0 0, .slice none 0 0, .slice x2.y.bA x2.y.base.length x2.y.bc, .int .i64 x2.y.t, .slice x2.y.oA x2.y.ops.length x2.y.oc, .slice x2.y.uA x2.y.us.length x2.y.uc, .slice x2.y.wA x2.y.now.length x2.y.wc, .slice x2.cA x2.l.length x2.cc, .int .i64 0, .int .i64 0, .int .i64 x2.clock, .int .i64 0, .slice none 0 0, .int .i64 0] hne
  replace hB := below_setRow hB hw3 #[.int .i64 0, .int .i64 0, .int .i64 0, .int .i64 x2.pos, .int .i64 x2.y.t, .int .i64 x2.pos, .slice none 0 0, .int .i64 0, .int .i64 0, .slice none 0 0, .slice none 0 0, .slice none 0 0, .slice none 0 0, .slice none 0 0, .slice x2.y.bA x2.y.base.length x2.y.bc, .int .i64 x2.y.t, .slice x2.y.oA x2.y.ops.length x2.y.oc, .slice x2.y.uA x2.y.us.length x2.y.uc, .slice x2.y.wA x2.y.now.length x2.y.wc, .slice x2.cA x2.l.length x2.cc, .int .i64 0, .int .i64 0, .int .i64 x2.clock, .int .i64 0, .slice none 0 0, .int .i64 0]
  clear hZ hne
  generalize (w3.alloc (.cells #[.int .i64 0, .int .i64 0, .int .i64 0, .int .i64 0, .int .i64 0, .int .i64 0, .slice none 0 0, .int .i64 0, .int .i64 0, .slice none 0 0, .slice none 0 0, .slice none 0 0, .slice none 0 0, .slice none 0 0, .slice none 0 0, .int .i64 0, .slice none 0 0, .slice none 0 0, .slice none 0 0, .slice none 0 0, .int .i64 0, .int .i64 0, .int .i64 0, .int .i64 0, .slice none 0 0, .int .i64 0] 43)).setRow w3.heap.size #[.int .i64 0, .int .i64 0, .int .i64 0, .int .i64 x2.pos, .int .i64 x2.y.t, .int .i64 x2.pos, .slice none 0 0, .int .i64 0, .int .i64 0, .slice none 0 0, .slice none 0 0, .slice none 0 0, .slice none 0 0, .slice none 0 0, .slice x2.y.bA x2.y.base.length x2.y.bc, .int .i64 x2.y.t, .slice x2.y.oA x2.y.ops.length x2.y.oc, .slice x2.y.uA x2.y.us.length x2.y.uc, .slice x2.y.wA x2.y.now.length x2.y.wc, .slice x2.cA x2.l.length x2.cc, .int .i64 0, .int .i64 0, .int .i64 x2.clock, .int .i64 0, .slice none 0 0, .int .i64 0] = V4 at *
  generalize w3.heap.size = n4 at *
  have C3 := Lib.hid (fun wx => (show Calls Tryz.prog 7 #[.string ⟨#[97, 98, 99, 100, 101]⟩, .int .i64 2, .int .i64 2, .agg #[.int .i64 3, .int .i64 4, .int .i64 0, .int .i64 0, .int .i64 0, .int .i64 0, .int .i64 0, .int .i64 0, .int .i64 0]] wx fun e w' => e = .returned (.tuple #[.agg #[.int .i64 3, .int .i64 4, .int .i64 2, .int .i64 3, .string ⟨#[101]⟩], .bool true]) ∧ Below wx.heap.size wx w' from
    (H.cut ⟨#[97, 98, 99, 100, 101]⟩ 2 2 (rp34 4 0 0) wx (by decide) (by unfold i64; decide) (by decide) (by unfold i64; decide)).mono (by
      rintro e w' ⟨g, b, he, rfl, hb⟩
      rw [cut_yes] at he
      injection he with e1 e2
      subst e1 e2
      exact ⟨rfl, hb⟩)))
  have C4 := Lib.hid (fun wx => (show Calls Tryz.prog 7 #[.string ⟨#[97, 98, 99, 100, 101]⟩, .int .i64 2, .int .i64 3, .agg #[.int .i64 0, .int .i64 0, .int .i64 0, .int .i64 0, .int .i64 0, .int .i64 0, .int .i64 0, .int .i64 0, .int .i64 0]] wx fun e w' => e = .returned (.tuple #[.agg #[.int .i64 0, .int .i64 0, .int .i64 0, .int .i64 0, .string ⟨#[]⟩], .bool false]) ∧ Below wx.heap.size wx w' from
    (H.cut ⟨#[97, 98, 99, 100, 101]⟩ 2 3 zeroRp wx (by decide) (by unfold i64; decide) (by decide) (by unfold i64; decide)).mono (by
      rintro e w' ⟨g, b, he, rfl, hb⟩
      rw [cut_no] at he
      injection he with e1 e2
      subst e1 e2
      exact ⟨rfl, hb⟩)))
  go_wp2_with fail
  refine (C3.out _).mono ?_
  rintro e w5 ⟨rfl, hb5⟩
  replace hE := hE.below hb5
  replace hB := below_then hB hb5
  clear hb5 C3
  have hK : gfE.In (w5.alloc (.cells #[.int .i64 3, .int .i64 4, .int .i64 2, .int .i64 3, .string ⟨#[101]⟩] 47)) w5.heap.size g342 := El.In.new (E := gfE) w5 g342 _ rfl
  have hal := below_alloc (Below.refl w5.heap.size w5) (.cells #[.int .i64 3, .int .i64 4, .int .i64 2, .int .i64 3, .string ⟨#[101]⟩] 47)
  replace hE := hE.below hal
  replace hB := below_then hB hal
  clear hal
  go_upto_region 5 with fail
  generalize w5.alloc (.cells #[.int .i64 3, .int .i64 4, .int .i64 2, .int .i64 3, .string ⟨#[101]⟩] 47) = V6 at *
  generalize w5.heap.size = n6 at *
  go_wp2_with fail
  refine (C4.out _).mono ?_
  rintro e w7 ⟨rfl, hb7⟩
  replace hE := hE.below hb7
  replace hK := hK.below hb7
  replace hB := below_then hB hb7
  clear hb7 C4
  have hal := below_alloc (Below.refl w7.heap.size w7) (.cells #[.int .i64 0, .int .i64 0, .int .i64 0, .int .i64 0, .string ⟨#[]⟩] 47)
  replace hE := hE.below hal
  replace hK := hK.below hal
  replace hB := below_then hB hal
  clear hal
  go_upto_region 6 with fail
  generalize w7.alloc (.cells #[.int .i64 0, .int .i64 0, .int .i64 0, .int .i64 0, .string ⟨#[]⟩] 47) = V8 at *
  generalize w7.heap.size = n8 at *
  have M1 := Lib.hid (fun wx => (show Calls Tryz.prog 13 #[.slice none 0 0, .agg #[.int .i64 3, .int .i64 4, .int .i64 2, .int .i64 3, .string ⟨#[101]⟩]] wx fun e w' => ∃ (A : Option Addr) (c : Nat), e = .returned (.slice A 1 c) ∧ SlV gfE w' A c [g342] ∧ Below wx.heap.size wx w' from H.merge none 0 [] g342 wx (by decide) (SlV.nil _ _)))
  have M2 := Lib.hid (fun wx A c (h : SlV gfE wx A c [g342]) => (show Calls Tryz.prog 13 #[.slice A 1 c, .agg #[.int .i64 3, .int .i64 4, .int .i64 1, .int .i64 3, .string ⟨#[]⟩]] wx fun e w' => ∃ (A : Option Addr) (c : Nat), e = .returned (.slice A 1 c) ∧ SlV gfE w' A c [g342] ∧ Below wx.heap.size wx w' from H.merge A c [g342] g341 wx (by decide) h))
  have C5 := Lib.hid (fun wx => (show Calls Tryz.prog 10 #[.string ⟨#[]⟩, .int .i64 5] wx fun e w' => e = .returned (.int .i64 1) ∧ Below wx.heap.size wx w' from H.chunks ⟨#[]⟩ 5 wx (by decide) (by unfold i64; decide) (by decide)))
  have C6 := Lib.hid (fun wx => (show Calls Tryz.prog 14 #[.agg #[.int .i64 3, .int .i64 4, .int .i64 2, .int .i64 3, .string ⟨#[101]⟩], .slice (some ⟨wx.heap.size, 0, none⟩) 1 1] (wx.alloc (.cells #[.int .i64 3, .int .i64 5, .int .i64 0, .int .i64 0, .int .i64 0, .int .i64 0, .int .i64 0, .int .i64 0, .int .i64 0] 24)) fun e w' => e = .returned (.bool false) ∧ Below wx.heap.size wx w' from
    (H.wanted g342 (some ⟨wx.heap.size, 0, none⟩) 1 [rp34 5 0 0] _ (by decide) (slOne wx (rp34 5 0 0) _ rfl)).mono (by
      rintro e w' ⟨rfl, hb⟩
      exact ⟨rfl, below_then (below_alloc (Below.refl _ _) _) hb⟩)))
  have C7 := Lib.hid (fun wx => (show Calls Tryz.prog 14 #[.agg #[.int .i64 3, .int .i64 4, .int .i64 2, .int .i64 3, .string ⟨#[101]⟩], .slice (some ⟨wx.heap.size, 0, none⟩) 1 1] (wx.alloc (.cells #[.int .i64 3, .int .i64 4, .int .i64 0, .int .i64 0, .int .i64 2, .int .i64 0, .int .i64 0, .int .i64 0, .int .i64 2] 24)) fun e w' => e = .returned (.bool true) ∧ Below wx.heap.size wx w' from
    (H.wanted g342 (some ⟨wx.heap.size, 0, none⟩) 1 [rp34 4 2 2] _ (by decide) (slOne wx (rp34 4 2 2) _ rfl)).mono (by
      rintro e w' ⟨rfl, hb⟩
      exact ⟨rfl, below_then (below_alloc (Below.refl _ _) _) hb⟩)))
  go_wp2_with (first | (refine El.load gfRow rfl _ rfl n6 0 rfl g342 hK.at #[.int .i64 3, .int .i64 4, .int .i64 2, .int .i64 3, .string ⟨#[101]⟩] rfl ?_) | fail)
  refine (M1.out _).mono ?_
  rintro e w9 ⟨A9, c9, rfl, hS9, hb9⟩
  replace hE := hE.below hb9
  replace hK := hK.below hb9
  replace hB := below_then hB hb9
  clear hb9 M1
  go_wp2_with fail
  refine (M2.out _ _ _ hS9).mono ?_
  rintro e w10 ⟨A, c, rfl, hS, hb10⟩
  replace hE := hE.below hb10
  replace hK := hK.below hb10
  replace hB := below_then hB hb10
  clear hb10 M2 hS9
  have s5 : w10.cell? ⟨n2, 5, none⟩ = some (.int .i64 7) := by rw [← HX0.out]; exact hE.cell 5
  have s22 : w10.cell? ⟨n2, 22, none⟩ = some (.int .i64 9) := by rw [← HX1.out]; exact hE.cell 22
  have s15 : w10.cell? ⟨n2, 15, none⟩ = some (.int .i64 3) := by rw [← HX2.out]; exact hE.cell 15
  have s19 : w10.cell? ⟨n2, 19, none⟩ = some (.slice x.cA 1 x.cc) := by have h := hE.cell 19; have e := HX3.out; simp only [stE, List.getElem?_cons_succ, List.getElem?_cons_zero] at h; rw [e] at h; exact h
  have k3 : w10.cell? ⟨n6, 3, none⟩ = some (.int .i64 3) := hK.cell 3
  have k4 : w10.cell? ⟨n6, 4, none⟩ = some (.string ⟨#[101]⟩) := hK.cell 4
  clear hE
  obtain ⟨b, off, rfl, hbw, hc⟩ := hS.1 (by decide)
  have q2 : w10.cell? ⟨b, off + 2, none⟩ = some (.int .i64 2) := by have h := (gfAt5 (hc 0 (by decide))).2.2.1; exact (by simpa using h : w10.cell? ⟨b, off + 2, none⟩ = some (.int .i64 g342.c))
  have hq : ∀ w, (Instr.indexAt 34 (.slice (some ⟨b, off, none⟩) 1 c) (.int .i64 0)).run Tryz.prog w = .ok (.pointer (some ⟨b, off, none⟩)) w := fun w => by
    have h := gfIdxH (A := some ⟨b, off, none⟩) (cap := c) (len := 1) (k := 0) rfl (by decide) w
    simpa using h
  clear hc
  go_upto_region 7 with fail
  simp only [List.append_eq, List.cons_append, List.nil_append]
  go_wp2_with fail
  refine (C5.out _).mono ?_
  rintro e w11 ⟨rfl, hb11⟩
  replace hK := hK.below hb11
  replace hB := below_then hB hb11
  replace q2 := ((bcell hb11).1 b (off + 2) hbw).trans q2
  clear hb11 C5 k3 k4 s5 s22 s15 s19 hS
  have k0 : w11.cell? ⟨n6, 0, none⟩ = some (.int .i64 3) := hK.cell 0
  have k1 : w11.cell? ⟨n6, 1, none⟩ = some (.int .i64 4) := hK.cell 1
  have k2 : w11.cell? ⟨n6, 2, none⟩ = some (.int .i64 2) := hK.cell 2
  have k3 : w11.cell? ⟨n6, 3, none⟩ = some (.int .i64 3) := hK.cell 3
  have k4 : w11.cell? ⟨n6, 4, none⟩ = some (.string ⟨#[101]⟩) := hK.cell 4
  go_wp2_with fail
  refine (C6.out _).mono ?_
  clear k0 k1 k2 k3 k4 q2 C6
  rintro e w12 ⟨rfl, hb12⟩
  replace hK := hK.below hb12
  replace hB := below_then hB hb12
  clear hb12
  have k0 : w12.cell? ⟨n6, 0, none⟩ = some (.int .i64 3) := hK.cell 0
  have k1 : w12.cell? ⟨n6, 1, none⟩ = some (.int .i64 4) := hK.cell 1
  have k2 : w12.cell? ⟨n6, 2, none⟩ = some (.int .i64 2) := hK.cell 2
  have k3 : w12.cell? ⟨n6, 3, none⟩ = some (.int .i64 3) := hK.cell 3
  have k4 : w12.cell? ⟨n6, 4, none⟩ = some (.string ⟨#[101]⟩) := hK.cell 4
  go_wp2_with fail
  refine (C7.out _).mono ?_
  clear k0 k1 k2 k3 k4 C7 hK
  rintro e w13 ⟨rfl, hb13⟩
  replace hB := below_then hB hb13
  go_wp2_with fail
  go_ret
  exact ⟨rfl, hB⟩
end Go.Proofs.YtfpgfclmmdihjaaGreat

/- The document's Freeze. -/
namespace Go.Proofs.YtfpgfclmmdihjaaGreat
open Go.RowKit Nam Cod Tre Pst

theorem cnBytes_le {c : Cn} (h : CnW c) : (cnBytes c).size ≤ 30 := by
  have b1 := bytesOf_le10 h.1
  have b2 := bytesOf_le10 h.2.1
  have b3 := bytesOf_le10 h.2.2
  unfold cnBytes
  simp only [ByteArray.size_append]
  omega
theorem cnCat_le {l : List Cn} (h : ∀ c ∈ l, CnW c) (k : Nat) : (cnK.cat (l.take k)).size ≤ 30 * l.length := by
  have h1 := cnK.cat_take_le l k
  have h2 := cnK.cat_le 30 l (fun x hx => cnBytes_le (h x hx))
  omega
theorem past_le {q : Pv} (h : PInv q) (hl : q.ops.length ≤ 60) : (pastBytes q).size ≤ 200000 := by
  have h1 := tree_bytes h.tree
  have b1 := bytesOf_le10 (n := q.t) (by have := h.t0; have := h.t1; unfold i64; omega)
  have b2 := bytesOf_le10 (n := (q.ops.length : Int)) (by unfold i64; omega)
  have h3 := catM_le q.ops q.ops.length h.ok
  rw [List.take_length] at h3
  unfold pastBytes headV
  simp only [ByteArray.size_append]
  omega
theorem cnIdxF {A : Option Addr} {b off len cap k : Nat} (hA : A = some ⟨b, off, none⟩) (h : k < len) : ∀ w, (Instr.indexAt 40 (.slice A len cap) (.int .i64 k)).run Tryz.prog w = .ok (.pointer (some ⟨b, off + k * 3, none⟩)) w := fun w => by
  subst hA
  have h2 : (k : Int) < (len : Int) := by omega
  go_simp
end Go.Proofs.YtfpgfclmmdihjaaGreat

/- A past among the arguments, opened. -/
namespace Go.Proofs.YtfpgfclmmdihjaaGreat
open Go.ChangeShapes Go.WideShapes Go.ChangeAt Go.RowKit Go.Deep Nam Cod Tre Pst

instance unInh : Inhabited Un := ⟨⟨⟨0, 0, ⟨#[]⟩⟩, false, false⟩⟩
theorem cellsBool : Tryz.prog.cellsOf 4 = 1 := by kernel_rfl
theorem cellsUn : Tryz.prog.cellsOf 125 = 5 := by kernel_rfl
theorem cellsPa : Tryz.prog.cellsOf 39 = 5 := by kernel_rfl
theorem cellsPls : Tryz.prog.cellsOf 36 = 1 := by kernel_rfl
theorem cellsOps : Tryz.prog.cellsOf 29 = 1 := by kernel_rfl
theorem cellsUns : Tryz.prog.cellsOf 37 = 1 := by kernel_rfl

set_option maxRecDepth 100000 in
/-- Five cells that read as an undo. -/
theorem read_un {H : Type} {enc : TypeId × Value → H} {W : World} {base : Nat} {sp : Nat → Bool} {held : Bool} {fuel : Nat} {cs : List Value} {x : DataW H × List MemPlace}
    (h : DataW.trod enc Tryz.prog W base sp held fuel 125 cs = some x) : ∃ u : Un, cs = unE.c u ∧ True := by
  obtain ⟨xs, n, _, _, hl, hlen, hf⟩ := DataW.trod_struct Tryz.underlying125 h
  have hl5 : cs.length = 5 := hl.trans cellsUn
  have hl3 : xs.length = 3 := hlen
  match cs, hl5, xs, hl3 with
  | [c0, c1, c2, c3, c4], _, [y0, y1, y2], _ =>
    have h0 := hf 0 _ rfl
    have h1 := hf 1 _ rfl
    have h2 := hf 2 _ rfl
    simp [cells24, cellsBool] at h0 h1 h2
    obtain ⟨p, e0, _⟩ := read_pl h0
    obtain ⟨b1, e1, _⟩ := DataW.trod_bool Tryz.underlying4 h1
    obtain ⟨b2, e2, _⟩ := DataW.trod_bool Tryz.underlying4 h2
    simp at e0 e1 e2
    obtain ⟨rfl, rfl, rfl⟩ := e0
    subst e1 e2
    exact ⟨⟨p, b1, b2⟩, rfl, trivial⟩

set_option maxRecDepth 100000 in
/-- Five cells that read as a past. -/
theorem read_past {H : Type} {enc : TypeId × Value → H} {W : World} {fuel : Nat} {cs : List Value} {x : DataW H × List MemPlace}
    (h : DataW.trod enc Tryz.prog W 0 (fun _ => true) true fuel 39 cs = some x) : ∃ x : Pw, cs = pwE.c x ∧ PastOk W x ∧ (∀ p ∈ x.base, WidePl p) ∧ ∀ m ∈ x.ops, WideMv m := by
  obtain ⟨xs, n, _, _, hl, hlen, hf⟩ := DataW.trod_struct Tryz.underlying39 h
  have hl5 : cs.length = 5 := hl.trans cellsPa
  have hl3 : xs.length = 5 := hlen
  match cs, hl5, xs, hl3 with
  | [c0, c1, c2, c3, c4], _, [y0, y1, y2, y3, y4], _ =>
    have h0 := hf 0 _ rfl
    have h1 := hf 1 _ rfl
    have h2 := hf 2 _ rfl
    have h3 := hf 3 _ rfl
    have h4 := hf 4 _ rfl
    simp [cells3, cellsPls, cellsOps, cellsUns] at h0 h1 h2 h3 h4
    obtain ⟨bA, bc, base, e0, v0, q0⟩ := open_cells plE WidePl Tryz.underlying36 cells24 (fun h => read_pl h) h0
    obtain ⟨t, e1, _, _⟩ := DataW.trod_int Tryz.underlying3 h1
    obtain ⟨oA, oc, ops, e2, v2, q2⟩ := open_cells opE WideMv Tryz.underlying29 cells25 (fun h => by
      obtain ⟨C, D, I, M, K, U, t, rfl, hw, ht⟩ := read_op h
      exact ⟨⟨C, D, I, M, K, U, t⟩, rfl, hw, ht⟩) h2
    obtain ⟨uA, uc, us, e3, v3, _⟩ := open_cells unE (fun _ => True) Tryz.underlying37 cellsUn (fun h => read_un h) h3
    obtain ⟨wA, wc, now, e4, v4, _⟩ := open_cells plE WidePl Tryz.underlying36 cells24 (fun h => read_pl h) h4
    simp at e0 e1 e2 e3 e4
    subst e0 e1 e2 e3 e4
    exact ⟨⟨bA, bc, base, t, oA, oc, ops, uA, uc, us, wA, wc, now⟩, rfl, ⟨v0, v2, v3, v4⟩, q0, q2⟩

set_option maxRecDepth 100000 in
theorem open_past {H : Type} {enc : TypeId × Value → H} {W : World} {base : Nat} {v : Value} {d : DataW H} {ps : List MemPlace}
    (hv : Value.okWide Tryz.prog W .any base 39 v) (h : DataW.Trod enc Tryz.prog W 0 (fun _ => true) true 39 v d ps) : ∃ x : Pw, v = .agg #[.slice x.bA x.base.length x.bc, .int .i64 x.t, .slice x.oA x.ops.length x.oc, .slice x.uA x.us.length x.uc, .slice x.wA x.now.length x.wc] ∧ PastOk W x ∧ (∀ p ∈ x.base, WidePl p) ∧ ∀ m ∈ x.ops, WideMv m := by
  obtain ⟨cs, rfl, _⟩ := okWide_struct Tryz.underlying39 hv
  obtain ⟨fuel, hf⟩ := h
  obtain ⟨x, e, hw⟩ := read_past hf
  refine ⟨x, ?_, hw⟩
  obtain ⟨l⟩ := cs
  simp [Value.cells] at e
  rw [e]
  rfl
end Go.Proofs.YtfpgfclmmdihjaaGreat

/- Entries and counts among the arguments, opened. -/
namespace Go.Proofs.YtfpgfclmmdihjaaGreat
open Go.ChangeShapes Go.WideShapes Go.ChangeAt Go.RowKit Go.Deep Nam Cod

theorem cellsEn : Tryz.prog.cellsOf 168 = 10 := by kernel_rfl
theorem cellsCn : Tryz.prog.cellsOf 55 = 3 := by kernel_rfl
set_option maxRecDepth 100000 in
theorem read_en {H : Type} {enc : TypeId × Value → H} {W : World} {base : Nat} {sp : Nat → Bool} {held : Bool} {fuel : Nat} {cs : List Value} {x : DataW H × List MemPlace}
    (h : DataW.trod enc Tryz.prog W base sp held fuel 168 cs = some x) : ∃ e : En, cs = enE.c e ∧ EnW e ∧ e.o.s.size ≤ maxLen := by
  obtain ⟨xs, n, _, _, hl, hlen, hf⟩ := DataW.trod_struct Tryz.underlying168 h
  have hl10 : cs.length = 10 := hl.trans cellsEn
  have hl4 : xs.length = 4 := hlen
  match cs, hl10, xs, hl4 with
  | [c0, c1, c2, c3, c4, c5, c6, c7, c8, c9], _, [y0, y1, y2, y3], _ =>
    have h0 := hf 0 _ rfl
    have h1 := hf 1 _ rfl
    have h2 := hf 2 _ rfl
    have h3 := hf 3 _ rfl
    simp [cells25, cells3] at h0 h1 h2 h3
    obtain ⟨k, e0, _, w0⟩ := DataW.trod_int Tryz.underlying3 h0
    obtain ⟨d, e1, _, w1⟩ := DataW.trod_int Tryz.underlying3 h1
    obtain ⟨i, e2, _, w2⟩ := DataW.trod_int Tryz.underlying3 h2
    obtain ⟨C, D, I, M, K, U, s, e3, w3, ws⟩ := read_op h3
    simp at e0 e1 e2 e3
    obtain ⟨e3, e4, e5, e6, e7, e8, e9⟩ := e3
    subst e0 e1 e2 e3 e4 e5 e6 e7 e8 e9
    have b0 := bounds_i64 w0
    have b1 := bounds_i64 w1
    have b2 := bounds_i64 w2
    have g0 : i64 k := by unfold i64; omega
    have g1 : i64 d := by unfold i64; omega
    have g2 : i64 i := by unfold i64; omega
    exact ⟨⟨k, d, i, ⟨C, D, I, M, K, U, s⟩⟩, rfl, ⟨g0, g1, g2, w3⟩, ws⟩
set_option maxRecDepth 100000 in
theorem read_cn {H : Type} {enc : TypeId × Value → H} {W : World} {base : Nat} {sp : Nat → Bool} {held : Bool} {fuel : Nat} {cs : List Value} {x : DataW H × List MemPlace}
    (h : DataW.trod enc Tryz.prog W base sp held fuel 55 cs = some x) : ∃ c : Cn, cs = cnE.c c ∧ True := by
  obtain ⟨xs, n, _, _, hl, hlen, hf⟩ := DataW.trod_struct Tryz.underlying55 h
  have hl10 : cs.length = 3 := hl.trans cellsCn
  have hl4 : xs.length = 3 := hlen
  match cs, hl10, xs, hl4 with
  | [c0, c1, c2], _, [y0, y1, y2], _ =>
    have h0 := hf 0 _ rfl
    have h1 := hf 1 _ rfl
    have h2 := hf 2 _ rfl
    simp [cells3] at h0 h1 h2
    obtain ⟨k, e0, _, _⟩ := DataW.trod_int Tryz.underlying3 h0
    obtain ⟨d, e1, _, _⟩ := DataW.trod_int Tryz.underlying3 h1
    obtain ⟨i, e2, _, _⟩ := DataW.trod_int Tryz.underlying3 h2
    simp at e0 e1 e2
    subst e0 e1 e2
    exact ⟨⟨k, d, i⟩, rfl, trivial⟩
set_option maxRecDepth 100000 in
theorem open_en {H : Type} {enc : TypeId × Value → H} {W : World} {base : Nat} {sp : Nat → Bool} {v : Value} {d : DataW H} {ps : List MemPlace}
    (hv : Value.okWide Tryz.prog W .any base 168 v) (h : DataW.Trod enc Tryz.prog W 0 sp true 168 v d ps) : ∃ e : En, v = .agg #[.int .i64 e.k, .int .i64 e.d, .int .i64 e.i, .int .i64 e.o.C, .int .i64 e.o.D, .int .i64 e.o.I, .int .i64 e.o.M, .int .i64 e.o.K, .int .i64 e.o.U, .string e.o.s] ∧ EnW e ∧ e.o.s.size ≤ maxLen := by
  obtain ⟨cs, rfl, _⟩ := okWide_struct Tryz.underlying168 hv
  obtain ⟨fuel, hf⟩ := h
  obtain ⟨e, he, hw, hs⟩ := read_en hf
  refine ⟨e, ?_, hw, hs⟩
  obtain ⟨l⟩ := cs
  simp [Value.cells] at he
  rw [he]
  rfl
instance : Inhabited En := ⟨zeroEn⟩
instance : Inhabited Cn := ⟨zeroCn⟩
set_option maxRecDepth 100000 in
theorem open_ens {H : Type} {enc : TypeId × Value → H} {W : World} {base : Nat} {v : Value} {d : DataW H} {ps : List MemPlace}
    (hv : Value.okWide Tryz.prog W .any base 26 v) (h : DataW.Trod enc Tryz.prog W 0 (fun _ => true) true 26 v d ps) :
    ∃ (A : Option Addr) (cap : Nat) (l : List En), v = .slice A l.length cap ∧ enE.Sl W A l ∧ l.length ≤ cap ∧ (A = none → cap = 0) ∧ ∀ e ∈ l, EnW e ∧ e.o.s.size ≤ maxLen :=
  open_list enE (fun e => EnW e ∧ e.o.s.size ≤ maxLen) Tryz.underlying26 cellsEn (fun h => read_en h) hv h
set_option maxRecDepth 100000 in
theorem open_cns {H : Type} {enc : TypeId × Value → H} {W : World} {base : Nat} {v : Value} {d : DataW H} {ps : List MemPlace}
    (hv : Value.okWide Tryz.prog W .any base 40 v) (h : DataW.Trod enc Tryz.prog W 0 (fun _ => true) true 40 v d ps) :
    ∃ (A : Option Addr) (cap : Nat) (l : List Cn), v = .slice A l.length cap ∧ cnE.Sl W A l ∧ l.length ≤ cap ∧ (A = none → cap = 0) ∧ ∀ c ∈ l, True :=
  open_list cnE (fun _ => True) Tryz.underlying40 cellsCn (fun h => read_cn h) hv h
end Go.Proofs.YtfpgfclmmdihjaaGreat

/- GiftFreezes, given the program's calls: the snapshot of any place, clock, past and counts is the document's. -/
namespace Go.Proofs.YtfpgfclmmdihjaaGreat
open Go.ChangeShapes Go.WideShapes Go.ChangeAt Go.RowKit Go.Deep Nam Cod Tre Pst

theorem inv_of_right {q : Pv} (h : PastR q) : PInv q where
  tree := h.1
  t0 := h.2.1
  t1 := h.2.2.1
  ok m hm := by
    obtain ⟨k, hk, rfl⟩ := List.getElem_of_mem hm
    exact (h.2.2.2.1.at k hk).1
  gt m hm := by
    obtain ⟨k, hk, rfl⟩ := List.getElem_of_mem hm
    exact (h.2.2.2.1.at k hk).2.1
  ris := by
    unfold Ris
    rw [List.pairwise_iff_getElem]
    intro i j hi hj hij
    induction j with
    | zero => omega
    | succ j ih =>
      have h1 := (h.2.2.2.1.at (j + 1) hj).2.2 (Nat.succ_pos j)
      simp only [Nat.add_sub_cancel] at h1
      by_cases e : i = j
      · subst e; exact h1
      · have h2 := ih (by omega) (by omega)
        unfold bef at h1 h2 ⊢
        omega
  un := h.2.2.2.2.2
  nw := h.2.2.2.2.1
/-- A row's contract, with the claim's bound on sizes handed to it. -/
theorem handed_sizedP {H : Type} {enc : TypeId × Value → H} {a : Assume} {C : Checked} {os : Os} {f : FuncId} {fn : Func} {s : ChangeSpec} {conds : List PathCond} {apart fresh handsOn again : Bool}
    (own : ownKnob C.prog.godebug = none) (started : os.Started) (noInit : C.prog.inits.idxOf? f = none) (hfn : C.prog.funcs[f]? = some fn)
    (witness : ∃ (w : World) (tape : Tape) (i : Input), w.os = os ∧ (w.forCall tape i).Shaped C.prog ∧ i.vars = [] ∧ Input.okWide C.prog (w.forCall tape i) .any w.heap.size f i ∧
      s.pre6 enc C.prog fn conds apart (w.forCall tape i).memory i.args ∧ a.holds C.prog (lone (Frame.enter C.prog f i.args .normal) [] (w.forCall tape i)))
    (contract : ∀ (W : World) (base : Nat) (args : Array Value) (ds gs : List (DataW H)) (before : List MemPlace),
      (∀ (j : Nat) t v, fn.params[j]? = some t → args[j]? = some v → Value.okWide C.prog W .any base t v) →
      DataW.Whole enc C.prog fn.params.toList s.vars apart W args.toList ds gs before →
      (DataW.weightsEach C.prog (fn.params.toList ++ s.plain.varTypes C.prog) (ds ++ gs)).all (· ≤ reachBytes) = true →
      Calls C.prog f args W fun e W' => ∃ v, e = .returned v ∧ s.post enc C.prog fn apart fresh handsOn again W args v W') :
    ReturnsInHanded a C os f .any (s.pre6 enc C.prog fn conds apart) (s.post enc C.prog fn apart fresh handsOn again) := by
  have h := returnsInHanded_of_change_and (enc := enc) (s := s) (conds := conds) (apart := apart) (fresh := fresh) (handsOn := handsOn) (again := again) (X := fun _ _ => True) (fun _ _ _ _ h => h) own started noInit hfn
    (by obtain ⟨w, tape, i, h1, h2, h3, h4, h5, h6⟩ := witness; exact ⟨w, tape, i, h1, h2, h3, h4, ⟨⟨h5.1, trivial⟩, h5.2⟩, h6⟩)
    (fun W base args ds gs before h1 h2 _ h4 _ _ => contract W base args ds gs before h1 h2 h4)
  have e : (fun w args => (s.pre enc C.prog fn conds apart w args ∧ True) ∧ sizedMet enc C.prog fn (OpenSpec.ofChange s) apart w args) = s.pre6 enc C.prog fn conds apart := by
    funext w args
    unfold ChangeSpec.pre6
    rw [and_true]
  rw [e] at h
  exact h
set_option maxRecDepth 100000 in
theorem open_int2P {H : Type} {enc : TypeId × Value → H} {W : World} {base : Nat} {sp : Nat → Bool} {v : Value} {d : DataW H} {ps : List MemPlace}
    (hv : Value.okWide Tryz.prog W .any base 22 v) (h : DataW.Trod enc Tryz.prog W 0 sp true 22 v d ps) : ∃ a b : Int, v = .agg #[.int .i64 a, .int .i64 b] ∧ i64 a ∧ i64 b := by
  obtain ⟨cs, rfl, hsz⟩ : ∃ cs : Array Value, v = .agg cs ∧ cs.size = 2 := by
    simp only [Value.okWide, Tryz.underlying22] at hv
    obtain ⟨cs, h1, h2, _⟩ := hv
    exact ⟨cs, h1, by rw [h2]; kernel_rfl⟩
  obtain ⟨fuel, hf⟩ := h
  obtain ⟨xs, m, rfl, _, hlen, hn, hel⟩ := DataW.trod_array Tryz.underlying22 hf
  have hcs : (Value.agg cs).cells.toList = cs.toList := rfl
  rw [hcs] at hel
  have hone : ∀ i, i < 2 → ∃ a : Int, cs[i]? = some (.int .i64 a) ∧ i64 a := by
    intro i hi
    have h1 := hel i hi
    rw [cells3, Nat.mul_one] at h1
    obtain ⟨x, hxk⟩ : ∃ x, xs[i]? = some x := ⟨_, List.getElem?_eq_getElem (by omega)⟩
    rw [hxk] at h1
    obtain ⟨n, e1, _, wf⟩ := DataW.trod_int Tryz.underlying3 h1
    have hb := bounds_i64 wf
    have h5 := congrArg (·[0]?) e1
    refine ⟨n, ?_, by unfold i64; omega⟩
    rw [← Array.getElem?_toList]
    simpa using h5
  obtain ⟨a, ha, ha2⟩ := hone 0 (by decide)
  obtain ⟨b, hb, hb2⟩ := hone 1 (by decide)
  refine ⟨a, b, ?_, ha2, hb2⟩
  congr 1
  apply Array.ext
  · rw [hsz]; rfl
  · intro i h1 h2
    have h3 : i < 2 := by omega
    match i, h3 with
    | 0, _ => rw [Array.getElem?_eq_getElem h1] at ha; exact Option.some.inj ha
    | 1, _ => rw [Array.getElem?_eq_getElem h1] at hb; exact Option.some.inj hb
theorem slice_lenP {st e : TypeId} (hu : Tryz.prog.underlying st = some (.slice e)) (hb : 0 < Tryz.prog.bytesOf e) {H : Type} {enc : TypeId × Value → H} {W : World} {fuel : Nat} {A : Option Addr} {n c : Nat} {x : DataW H × List MemPlace}
    (h : DataW.trod enc Tryz.prog W 0 (fun _ => true) true fuel st [.slice A n c] = some x) (hw : (x.1.weights Tryz.prog st).all (· ≤ reachBytes) = true) : n ≤ reachBytes := by
  rcases DataW.trod_slice hu h with ⟨e1, _⟩ | ⟨a, len, cap, elems, rest, m, _, e1, e2, _, _, _, hlen, _⟩
  · simp at e1; rw [e1.2.1]; exact Nat.zero_le _
  · simp at e1
    obtain ⟨_, rfl, _⟩ := e1
    rw [e2] at hw
    simp only [DataW.weights, hu, List.all_cons, Bool.and_eq_true, decide_eq_true_iff, List.length_map] at hw
    have h1 := hw.1
    have h2 : elems.length * 1 ≤ (elems.length + rest.length) * Tryz.prog.bytesOf e := Nat.mul_le_mul (by omega) hb
    omega
def PaLen (x : Pw) : Prop := x.base.length ≤ reachBytes ∧ x.ops.length ≤ reachBytes ∧ x.us.length ≤ reachBytes ∧ x.now.length ≤ reachBytes
set_option maxRecDepth 100000 in
/-- Five cells that read as a past. -/
theorem read_pastN {H : Type} {enc : TypeId × Value → H} {W : World} {fuel : Nat} {cs : List Value} {x : DataW H × List MemPlace}
    (h : DataW.trod enc Tryz.prog W 0 (fun _ => true) true fuel 39 cs = some x) (hw : (x.1.weights Tryz.prog 39).all (· ≤ reachBytes) = true) : ∃ x : Pw, cs = pwE.c x ∧ PastOk W x ∧ ((∀ p ∈ x.base, WidePl p) ∧ ∀ m ∈ x.ops, WideMv m) ∧ PaLen x := by
  obtain ⟨xs, n, _, hx, hl, hlen, hf⟩ := DataW.trod_struct Tryz.underlying39 h
  have hl5 : cs.length = 5 := hl.trans cellsPa
  have hl3 : xs.length = 5 := hlen
  match cs, hl5, xs, hl3 with
  | [c0, c1, c2, c3, c4], _, [y0, y1, y2, y3, y4], _ =>
    have h0 := hf 0 _ rfl
    have h1 := hf 1 _ rfl
    have h2 := hf 2 _ rfl
    have h3 := hf 3 _ rfl
    have h4 := hf 4 _ rfl
    simp [cells3, cellsPls, cellsOps, cellsUns] at h0 h1 h2 h3 h4
    obtain ⟨bA, bc, base, e0, v0, q0⟩ := open_cells plE WidePl Tryz.underlying36 cells24 (fun h => read_pl h) h0
    obtain ⟨t, e1, _, _⟩ := DataW.trod_int Tryz.underlying3 h1
    obtain ⟨oA, oc, ops, e2, v2, q2⟩ := open_cells opE WideMv Tryz.underlying29 cells25 (fun h => by
      obtain ⟨C, D, I, M, K, U, t, rfl, hw, ht⟩ := read_op h
      exact ⟨⟨C, D, I, M, K, U, t⟩, rfl, hw, ht⟩) h2
    obtain ⟨uA, uc, us, e3, v3, _⟩ := open_cells unE (fun _ => True) Tryz.underlying37 cellsUn (fun h => read_un h) h3
    obtain ⟨wA, wc, now, e4, v4, _⟩ := open_cells plE WidePl Tryz.underlying36 cells24 (fun h => read_pl h) h4
    simp at e0 e1 e2 e3 e4
    subst e0 e1 e2 e3 e4
    rw [hx] at hw
    simp only [DataW.weights, Tryz.underlying39, List.map_cons, List.map_nil, DataW.weightsEach, List.all_append, Bool.and_eq_true] at hw
    have g0 := slice_lenP Tryz.underlying36 (by decide +kernel) h0 hw.1
    have g2 := slice_lenP Tryz.underlying29 (by decide +kernel) h2 hw.2.2.1
    have g3 := slice_lenP Tryz.underlying37 (by decide +kernel) h3 hw.2.2.2.1
    have g4 := slice_lenP Tryz.underlying36 (by decide +kernel) h4 hw.2.2.2.2.1
    exact ⟨⟨bA, bc, base, t, oA, oc, ops, uA, uc, us, wA, wc, now⟩, rfl, ⟨v0, v2, v3, v4⟩, ⟨q0, q2⟩, ⟨g0, g2, g3, g4⟩⟩

set_option maxRecDepth 100000 in
theorem open_pastN {H : Type} {enc : TypeId × Value → H} {W : World} {base : Nat} {v : Value} {d : DataW H} {ps : List MemPlace}
    (hv : Value.okWide Tryz.prog W .any base 39 v) (h : DataW.Trod enc Tryz.prog W 0 (fun _ => true) true 39 v d ps) (hw : (d.weights Tryz.prog 39).all (· ≤ reachBytes) = true) : ∃ x : Pw, v = .agg #[.slice x.bA x.base.length x.bc, .int .i64 x.t, .slice x.oA x.ops.length x.oc, .slice x.uA x.us.length x.uc, .slice x.wA x.now.length x.wc] ∧ PastOk W x ∧ ((∀ p ∈ x.base, WidePl p) ∧ ∀ m ∈ x.ops, WideMv m) ∧ PaLen x := by
  obtain ⟨cs, rfl, _⟩ := okWide_struct Tryz.underlying39 hv
  obtain ⟨fuel, hf⟩ := h
  obtain ⟨x, e, hw⟩ := read_pastN hf hw
  refine ⟨x, ?_, hw⟩
  obtain ⟨l⟩ := cs
  simp [Value.cells] at e
  rw [e]
  rfl
set_option maxRecDepth 100000 in
theorem read_cnP {H : Type} {enc : TypeId × Value → H} {W : World} {base : Nat} {sp : Nat → Bool} {held : Bool} {fuel : Nat} {cs : List Value} {x : DataW H × List MemPlace}
    (h : DataW.trod enc Tryz.prog W base sp held fuel 55 cs = some x) : ∃ c : Cn, cs = cnE.c c ∧ CnW c := by
  obtain ⟨xs, n, _, _, hl, hlen, hf⟩ := DataW.trod_struct Tryz.underlying55 h
  have hl10 : cs.length = 3 := hl.trans cellsCn
  have hl4 : xs.length = 3 := hlen
  match cs, hl10, xs, hl4 with
  | [c0, c1, c2], _, [y0, y1, y2], _ =>
    have h0 := hf 0 _ rfl
    have h1 := hf 1 _ rfl
    have h2 := hf 2 _ rfl
    simp [cells3] at h0 h1 h2
    obtain ⟨k, e0, _, w0⟩ := DataW.trod_int Tryz.underlying3 h0
    obtain ⟨d, e1, _, w1⟩ := DataW.trod_int Tryz.underlying3 h1
    obtain ⟨i, e2, _, w2⟩ := DataW.trod_int Tryz.underlying3 h2
    simp at e0 e1 e2
    subst e0 e1 e2
    have b0 := bounds_i64 w0
    have b1 := bounds_i64 w1
    have b2 := bounds_i64 w2
    exact ⟨⟨k, d, i⟩, rfl, by unfold CnW i64; dsimp only; omega⟩
set_option maxRecDepth 100000 in
theorem open_cnsP {H : Type} {enc : TypeId × Value → H} {W : World} {base : Nat} {v : Value} {d : DataW H} {ps : List MemPlace}
    (hv : Value.okWide Tryz.prog W .any base 40 v) (h : DataW.Trod enc Tryz.prog W 0 (fun _ => true) true 40 v d ps) :
    ∃ (A : Option Addr) (cap : Nat) (l : List Cn), v = .slice A l.length cap ∧ cnE.Sl W A l ∧ l.length ≤ cap ∧ (A = none → cap = 0) ∧ ∀ c ∈ l, CnW c :=
  open_list cnE CnW Tryz.underlying40 cellsCn (fun h => read_cnP h) hv h
end Go.Proofs.YtfpgfclmmdihjaaGreat

/- The document's Tally. -/
namespace Go.Proofs.YtfpgfclmmdihjaaGreat
open Go.RowKit Nam Cod

theorem cutC_next {l : List Cn} {d : Int} {k : Nat} (hk : k ≤ cutC l d) (h : k < l.length) (hd : l[k].d < d) : k + 1 ≤ cutC l d := by
  rcases Nat.lt_or_ge k (cutC l d) with h1 | h1
  · exact h1
  · obtain rfl : k = cutC l d := by omega
    have := cutC_ge l d h; omega
theorem cutC_here {l : List Cn} {d : Int} {k : Nat} (hk : k ≤ cutC l d) (h : k = l.length ∨ ∃ h : k < l.length, d ≤ l[k].d) : k = cutC l d := by
  rcases Nat.lt_or_ge k (cutC l d) with h1 | h1
  · exfalso
    have := cutC_le l d
    rcases h with h | ⟨h, h2⟩
    · omega
    · have := cutC_lt l d k h h1; omega
  · omega
theorem putC_yes {l : List Cn} {c : Cn} {k : Nat} {x : Int} (hk : k = cutC l c.d) (h : k < l.length) (hx : l[k].d = x) (he : x = c.d) : putC l c = (l.take k ++ [c]) ++ l.drop (k + 1) := by
  subst hk he
  have hh : hereC l c.d = 1 := by unfold hereC; rw [dif_pos h, if_pos hx]
  unfold putC
  rw [hh, List.append_assoc]; rfl
theorem putC_no {l : List Cn} {c : Cn} {k : Nat} (hk : k = cutC l c.d) (h : k = l.length ∨ ∃ (h : k < l.length), ¬ l[k].d = c.d) : putC l c = (l.take k ++ [c]) ++ l.drop k := by
  subst hk
  have hh : hereC l c.d = 0 := by
    unfold hereC
    rcases h with h | ⟨h, h2⟩
    · rw [dif_neg (by omega)]
    · rw [dif_pos h, if_neg h2]
  unfold putC
  rw [hh, List.append_assoc]; rfl
def CnS (n : Nat) (x : Cn) (w : World) : Prop := w.cell? ⟨n, 0, none⟩ = some (.int .i64 x.d) ∧ w.cell? ⟨n, 1, none⟩ = some (.int .i64 x.i) ∧ w.cell? ⟨n, 2, none⟩ = some (.int .i64 x.n)

end Go.Proofs.YtfpgfclmmdihjaaGreat

/- GiftCounts, given the program's calls: the counts that any bytes begin with are the document's; counts that may be are read as they were. -/
namespace Go.Proofs.YtfpgfclmmdihjaaGreat
open Go.ChangeShapes Go.WideShapes Go.ChangeAt Go.RowKit Go.Deep Nam Cod Tre Pst

theorem cnt_good {e : En} (h : entB e = true) {c : Cn} (hc : cntOf e = some c) : cnB c = true ∧ CnW c := by
  unfold cntOf at hc
  unfold entB at h
  split at hc
  · rename_i h1
    rw [if_pos h1, Bool.and_eq_true] at h
    have h2 := h.2
    unfold okB opB atB cntB at h2
    simp only [Bool.and_eq_true, decide_eq_true_iff] at h2
    injection hc with hc
    subst hc
    refine ⟨?_, ?_⟩
    · unfold cnB; rw [decide_eq_true_iff]; dsimp only; omega
    · unfold CnW i64; dsimp only; omega
  · split at hc
    · rename_i h1 h3
      rw [if_neg h1, if_pos (Or.inr h3), Bool.and_eq_true] at h
      have h2 := h.1
      unfold lifeB at h2
      rw [decide_eq_true_iff] at h2
      injection hc with hc
      subst hc
      refine ⟨?_, ?_⟩
      · unfold cnB; rw [decide_eq_true_iff]; dsimp only; omega
      · unfold CnW i64; dsimp only; omega
    · cases hc
theorem tallies_ok (l : List En) : ∀ k, k ≤ l.length → (∀ j (h : j < l.length), j < k → entB l[j] = true) → RisC (tallies (l.take k)) ∧ ∀ c ∈ tallies (l.take k), cnB c = true ∧ CnW c
  | 0, _, _ => ⟨by rw [List.take_zero]; exact List.Pairwise.nil, fun c hc => by rw [List.take_zero] at hc; cases hc⟩
  | k + 1, hk, h => by
    obtain ⟨h1, h2⟩ := tallies_ok l k (by omega) (fun j hj hjk => h j hj (by omega))
    have hb := h k (by omega) (by omega)
    rw [tallies_next l k (by omega)]
    refine ⟨tally_ris h1 _, fun c hc => ?_⟩
    unfold tally at hc
    cases hce : cntOf l[k] with
    | none => rw [hce] at hc; exact h2 c hc
    | some c0 =>
      rw [hce] at hc
      rcases mem_putC h1 hc with rfl | ⟨h3, _⟩
      · exact cnt_good hb hce
      · exact h2 c h3
theorem ris_len12 {l : List Cn} (hr : RisC l) (h : ∀ c ∈ l, cnB c = true) : l.length ≤ 12 := by
  have h1 : ∀ k (hk : k < l.length), (k : Int) ≤ l[k].d := fun k => by
    induction k with
    | zero =>
      intro hk
      have := h l[0] (List.getElem_mem _)
      unfold cnB at this
      rw [decide_eq_true_iff] at this
      omega
    | succ k ih =>
      intro hk
      have h2 := List.pairwise_iff_getElem.1 hr k (k + 1) (by omega) hk (by omega)
      have h3 := ih (by omega)
      omega
  by_cases h0 : l.length = 0
  · omega
  · have h2 := h1 (l.length - 1) (by omega)
    have h3 := h (l[l.length - 1]'(by omega)) (List.getElem_mem _)
    unfold cnB at h3
    rw [decide_eq_true_iff] at h3
    omega
theorem ris_cnsB {l : List Cn} (hr : RisC l) (h : ∀ c ∈ l, cnB c = true) : cnsB l = true := by
  rw [cnsB_iff]
  intro j hj _
  refine ⟨h _ (List.getElem_mem _), fun h0 => ?_⟩
  rw [List.getD_eq_getElem?_getD, List.getElem?_eq_getElem (show j - 1 < l.length by omega)]
  exact List.pairwise_iff_getElem.1 hr (j - 1) j (by omega) hj (by omega)
theorem cnW_raw {c : Cn} (h : CnW c) : cnRaw c = true := cnRaw_iff.2 h
theorem cat_cn {l : List Cn} (h : ∀ c ∈ l, CnW c) (k : Nat) : (cnK.cat (l.take k)).size ≤ 30 * l.length := cnCat_le h k

/-- What both have read: the same list. -/
theorem cns_both {s : ByteArray} {p : Nat} {bad : Bool} {l l' : List Cn} {q q' : Nat} {b b' : Bool} (h : cnsStep s p bad l q b) (h' : cnsStep s p bad l' q' b') : l = l' ∧ b = b' ∧ (b = true ∨ q = q') := by
  rcases h with ⟨h, rfl⟩ | ⟨h, rfl, rfl⟩
  · rcases h' with ⟨h', rfl⟩ | ⟨h', _, _⟩
    · rw [h] at h'
      injection h' with h'
      injection h' with e1 e2
      exact ⟨e1, rfl, Or.inr e2⟩
    · rw [h] at h'; cases h'
  · rcases h' with ⟨h', _⟩ | ⟨_, rfl, rfl⟩
    · rw [h] at h'; cases h'
    · exact ⟨rfl, rfl, Or.inl rfl⟩
theorem cns_len {s : ByteArray} {p : Nat} {bad : Bool} {l : List Cn} {q : Nat} {b : Bool} (h : cnsStep s p bad l q b) : l.length ≤ 12 := by
  rcases h with ⟨h, _⟩ | ⟨_, rfl, _⟩
  · unfold isCns at h
    cases hp : cnK.isPart 12 s p bad with
    | none => rw [hp] at h; cases h
    | some a =>
      obtain ⟨L1, qL⟩ := a
      rw [hp, Option.bind_some] at h
      split at h
      · injection h with h
        injection h with h1 h2
        have := (cnK.part_bytes hp).1
        subst h1
        omega
      · cases h
  · exact Nat.zero_le _
theorem enIdxP {A : Option Addr} {b off len cap k : Nat} (hA : A = some ⟨b, off, none⟩) (h : k < len) : ∀ w, (Instr.indexAt 26 (.slice A len cap) (.int .i64 k)).run Tryz.prog w = .ok (.pointer (some ⟨b, off + k * 10, none⟩)) w := fun w => by
  subst hA
  have h2 : (k : Int) < (len : Int) := by omega
  go_simp
theorem SlV.keepR {w w' : World} {A : Option Addr} {c : Nat} {l : List Cn} {T : TypeId} {b q : Nat} {s : ByteArray} {bd : Bool} (h : SlV cnE w A c l) (hR : Rd T w b s q bd) (hg : w.grownBy w' (some b)) : SlV cnE w' A c l := by
  refine ⟨fun h0 => ?_, h.2⟩
  obtain ⟨b1, off, e, hl, hc⟩ := h.1 h0
  have hne : b1 ≠ b := by
    rintro rfl
    have hat : cnE.At w b1 off l[0] := by have h := hc 0 h0; simpa using h
    obtain ⟨s0, s1, s2⟩ := cnAt3 hat
    have f := fun i => cell_of_row w b1 i _ T (0, 0) hR
    rw [f] at s0 s1 s2
    match off with
    | 0 => simp at s0
    | 1 => simp at s1
    | 2 => simp at s0
    | n + 3 => simp at s0
  exact ⟨b1, off, e, Nat.lt_of_lt_of_le hl hg.size, fun i hi => (hc i hi).grown hg (fun e => hne (Option.some.inj e))⟩
end Go.Proofs.YtfpgfclmmdihjaaGreat

/- The document's Thaw, of any bytes (3,000 at most). -/
namespace Go.Proofs.YtfpgfclmmdihjaaGreat
open Go.RowKit Tre Cod Pst Nam

theorem SlV.keepRG {α : Type} {E : El α} {w w' : World} {A : Option Addr} {c : Nat} {l : List α} {b : Nat} (h : SlV E w A c l) (hno : ∀ off (h : 0 < l.length), ¬ E.At w b off l[0]) (hg : w.grownBy w' (some b)) : SlV E w' A c l := by
  refine ⟨fun h0 => ?_, h.2⟩
  obtain ⟨b1, off, e, hl, hc⟩ := h.1 h0
  have hne : b1 ≠ b := by
    rintro rfl
    exact hno _ h0 (hc 0 h0)
  exact ⟨b1, off, e, Nat.lt_of_lt_of_le hl hg.size, fun i hi => (hc i hi).grown hg (fun e => hne (Option.some.inj e))⟩
theorem PastOk.keepR {w w' : World} {y : Pw} {T : TypeId} {b q : Nat} {s : ByteArray} {bd : Bool} (h : PastOk w y) (hR : Rd T w b s q bd) (hg : w.grownBy w' (some b)) : PastOk w' y := by
  have f := fun i => cell_of_row w b i _ T (0, 0) hR
  have hp : ∀ off x, ¬ plE.At w b off x := fun off x ha => by
    have s0 := ha 0 _ rfl
    have s1 := ha 1 _ rfl
    rw [f] at s0 s1
    match off with
    | 0 => simp at s0
    | 1 => simp at s1
    | 2 => simp at s0
    | n + 3 => simp at s0
  have ho : ∀ off x, ¬ opE.At w b off x := fun off x ha => by
    have s0 := ha 3 _ rfl
    rw [f] at s0
    simp at s0
  have hu : ∀ off x, ¬ unE.At w b off x := fun off x ha => by
    have s0 := ha 3 _ rfl
    rw [f] at s0
    simp at s0
  exact ⟨h.b.keepRG (fun o _ => hp o _) hg, h.o.keepRG (fun o _ => ho o _) hg, h.u.keepRG (fun o _ => hu o _) hg, h.w.keepRG (fun o _ => hp o _) hg⟩
theorem st_zeros : ∀ v ∈ stE.c Sw.zero, v = .int .i64 0 ∨ v = .slice none 0 0 := by
  intro v hv
  simp only [stE, Sw.zero, Pw.zero, List.length_nil, List.mem_cons, List.not_mem_nil, or_false] at hv
  rcases hv with rfl | rfl | rfl | rfl | rfl | rfl | rfl | rfl | rfl | rfl | rfl | rfl | rfl | rfl | rfl | rfl | rfl | rfl | rfl | rfl | rfl | rfl | rfl | rfl | rfl | rfl <;> simp
theorem st_zero_at {w : World} {n i : Nat} {v : Value} (hZ : stE.In w n Sw.zero) (h : w.cell? ⟨n, i, none⟩ = some v) : v = .int .i64 0 ∨ v = .slice none 0 0 := by
  rw [hZ.cell] at h
  exact st_zeros v (List.mem_of_getElem? h)
theorem PastOk.keepZ {w w' : World} {y : Pw} {n : Nat} (h : PastOk w y) (hZ : stE.In w n Sw.zero) (hg : w.grownBy w' (some n)) : PastOk w' y := by
  have hp : ∀ off x, ¬ plE.At w n off x := fun off x ha => by
    rcases st_zero_at hZ (ha 2 _ rfl) with h | h <;> cases h
  have ho : ∀ off x, ¬ opE.At w n off x := fun off x ha => by
    rcases st_zero_at hZ (ha 6 _ rfl) with h | h <;> cases h
  have hu : ∀ off x, ¬ unE.At w n off x := fun off x ha => by
    rcases st_zero_at hZ (ha 2 _ rfl) with h | h <;> cases h
  exact ⟨h.b.keepRG (fun o _ => hp o _) hg, h.o.keepRG (fun o _ => ho o _) hg, h.u.keepRG (fun o _ => hu o _) hg, h.w.keepRG (fun o _ => hp o _) hg⟩
theorem cns_keepZ {w w' : World} {A : Option Addr} {c : Nat} {l : List Cn} {n : Nat} (h : SlV cnE w A c l) (hgd : goodC l l.length) (hZ : stE.In w n Sw.zero) (hg : w.grownBy w' (some n)) : SlV cnE w' A c l :=
  h.keepRG (fun off h0 ha => by
    have h1 := (hgd 0 h0 h0).1
    unfold cnB at h1
    have h1 := of_decide_eq_true h1
    rcases st_zero_at hZ (ha 1 _ rfl) with h | h
    · injection h with _ h
      omega
    · cases h) hg
theorem cnsStep_good {s : ByteArray} {p : Nat} {bad : Bool} {l : List Cn} {q : Nat} {b : Bool} (h : cnsStep s p bad l q b) : goodC l l.length := by
  rcases h with ⟨h, _⟩ | ⟨_, rfl, _⟩
  · unfold isCns at h
    rw [Option.bind_eq_some_iff] at h
    obtain ⟨a, _, h⟩ := h
    split at h
    · rename_i hc
      injection h with h
      rw [h] at hc
      exact cnsB_iff.1 hc
    · cases h
  · intro j hj
    exact absurd hj (Nat.not_lt_zero _)

theorem isPast_bad (s : ByteArray) (p : Nat) : isPast s p true = none := by
  unfold isPast isTree
  rw [isCount_badF]; rfl
theorem isCns_bad (s : ByteArray) (p : Nat) : isCns s p true = none := by
  apply isCns_no
  unfold Kd.isPart
  rw [isCount_badF]; rfl
theorem thaw_val {s : ByteArray} {v1 v2 : Int} {q1 q2 q3 q4 : Nat} {b1 b2 b3 b4 : Bool} {y : Pv} {l : List Cn} (h1 : numStep s 0 false v1 q1 b1) (h2 : numStep s q1 b1 v2 q2 b2) (h3 : (isPast s q2 b2 = some (y, q3) ∧ b3 = false) ∨ (isPast s q2 b2 = none ∧ b3 = true)) (h4 : cnsStep s q3 b3 l q4 b4) :
    isSnap s = if isDone s q4 b4 = true ∧ (0 ≤ v1 ∧ v1 ≤ 1099511627776) ∧ 0 ≤ v2 ∧ v2 ≤ 1099511627776 then some ⟨v1, v2, y, l⟩ else none := by
  have hbad : ∀ q, isDone s q true = false := fun q => by unfold isDone; simp
  rcases h4 with ⟨h4, rfl⟩ | ⟨h4, _, rfl⟩
  · rcases h3 with ⟨h3, rfl⟩ | ⟨_, rfl⟩
    · rcases h2 with ⟨h2, rfl⟩ | ⟨_, _, rfl⟩
      · rcases h1 with ⟨h1, rfl⟩ | ⟨_, _, rfl⟩
        · have hd : isDone s q4 false = true ↔ q4 = s.size := by unfold isDone; simp
          unfold isSnap
          rw [h1, Option.bind_some]
          dsimp only
          rw [h2, Option.bind_some]
          dsimp only
          rw [h3, Option.bind_some]
          dsimp only
          rw [h4, Option.bind_some]
          dsimp only
          simp only [hd]
        · rw [isNum_bad] at h2; cases h2
      · rw [isPast_bad] at h3; cases h3
    · rw [isCns_bad] at h4; cases h4
  · rw [hbad, if_neg (fun h => by cases h.1)]
    unfold isSnap
    rcases h1 with ⟨h1, rfl⟩ | ⟨h1, _, _⟩
    · rw [h1, Option.bind_some]
      dsimp only
      rcases h2 with ⟨h2, rfl⟩ | ⟨h2, _, _⟩
      · rw [h2, Option.bind_some]
        dsimp only
        rcases h3 with ⟨h3, rfl⟩ | ⟨h3, _⟩
        · rw [h3, Option.bind_some]
          dsimp only
          rw [h4]; rfl
        · rw [h3]; rfl
      · rw [h2]; rfl
    · rw [h1]; rfl
set_option maxRecDepth 100000 in
set_option maxHeartbeats 16000000 in
theorem refThaw_any (s : ByteArray) (w : World) (hs3 : s.size ≤ 3000) :
    Calls Tryz.prog 6 #[.string s] w fun e w' => ∃ (x : Sw) (b : Bool), e = .returned (.tuple #[.agg #[.int .i64 0, .int .i64 0, .int .i64 0, .int .i64 x.pos, .int .i64 x.y.t, .int .i64 x.pos, .slice none 0 0, .int .i64 0, .int .i64 0, .slice none 0 0, .slice none 0 0, .slice none 0 0, .slice none 0 0, .slice none 0 0, .slice x.y.bA x.y.base.length x.y.bc, .int .i64 x.y.t, .slice x.y.oA x.y.ops.length x.y.oc, .slice x.y.uA x.y.us.length x.y.uc, .slice x.y.wA x.y.now.length x.y.wc, .slice x.cA x.l.length x.cc, .int .i64 0, .int .i64 0, .int .i64 x.clock, .int .i64 0, .slice none 0 0, .int .i64 0], .bool b]) ∧ x.ok w' ∧ Below w.heap.size w w' ∧ ((isSnap s = some x.v ∧ b = true) ∨ (isSnap s = none ∧ x = Sw.zero ∧ b = false)) := by
  have hs : s.size ≤ 1000000 := by omega
  go_enter Tryz.func6, Tryz.ntmps6
  go_upto_region 2 with (first | (refine wpList_alloc_st rfl rfl ?_) | fail)
  have hR := Rd.new (w.alloc (.cells #[.int .i64 0, .int .i64 0, .int .i64 0, .int .i64 0, .int .i64 0, .int .i64 0, .slice none 0 0, .int .i64 0, .int .i64 0, .slice none 0 0, .slice none 0 0, .slice none 0 0, .slice none 0 0, .slice none 0 0, .slice none 0 0, .int .i64 0, .slice none 0 0, .slice none 0 0, .slice none 0 0, .slice none 0 0, .int .i64 0, .int .i64 0, .int .i64 0, .int .i64 0, .slice none 0 0, .int .i64 0] 43)) 65 s 0 rfl
  rw [show (w.alloc (.cells #[.int .i64 0, .int .i64 0, .int .i64 0, .int .i64 0, .int .i64 0, .int .i64 0, .slice none 0 0, .int .i64 0, .int .i64 0, .slice none 0 0, .slice none 0 0, .slice none 0 0, .slice none 0 0, .slice none 0 0, .slice none 0 0, .int .i64 0, .slice none 0 0, .slice none 0 0, .slice none 0 0, .slice none 0 0, .int .i64 0, .int .i64 0, .int .i64 0, .int .i64 0, .slice none 0 0, .int .i64 0] 43)).heap.size = w.heap.size + 1 from alloc_size _ _] at hR
  have hZ : stE.In ((w.alloc (.cells #[.int .i64 0, .int .i64 0, .int .i64 0, .int .i64 0, .int .i64 0, .int .i64 0, .slice none 0 0, .int .i64 0, .int .i64 0, .slice none 0 0, .slice none 0 0, .slice none 0 0, .slice none 0 0, .slice none 0 0, .slice none 0 0, .int .i64 0, .slice none 0 0, .slice none 0 0, .slice none 0 0, .slice none 0 0, .int .i64 0, .int .i64 0, .int .i64 0, .int .i64 0, .slice none 0 0, .int .i64 0] 43)).alloc (.cells #[.string s, .int .i64 0, .bool false] 65)) w.heap.size Sw.zero := (El.In.new (E := stE) w Sw.zero #[.int .i64 0, .int .i64 0, .int .i64 0, .int .i64 0, .int .i64 0, .int .i64 0, .slice none 0 0, .int .i64 0, .int .i64 0, .slice none 0 0, .slice none 0 0, .slice none 0 0, .slice none 0 0, .slice none 0 0, .slice none 0 0, .int .i64 0, .slice none 0 0, .slice none 0 0, .slice none 0 0, .slice none 0 0, .int .i64 0, .int .i64 0, .int .i64 0, .int .i64 0, .slice none 0 0, .int .i64 0] rfl).alloc _
  have hB := below_alloc (below_alloc (Below.refl w.heap.size w) (.cells #[.int .i64 0, .int .i64 0, .int .i64 0, .int .i64 0, .int .i64 0, .int .i64 0, .slice none 0 0, .int .i64 0, .int .i64 0, .slice none 0 0, .slice none 0 0, .slice none 0 0, .slice none 0 0, .slice none 0 0, .slice none 0 0, .int .i64 0, .slice none 0 0, .slice none 0 0, .slice none 0 0, .slice none 0 0, .int .i64 0, .int .i64 0, .int .i64 0, .int .i64 0, .slice none 0 0, .int .i64 0] 43)) (.cells #[.string s, .int .i64 0, .bool false] 65)
  generalize (w.alloc (.cells #[.int .i64 0, .int .i64 0, .int .i64 0, .int .i64 0, .int .i64 0, .int .i64 0, .slice none 0 0, .int .i64 0, .int .i64 0, .slice none 0 0, .slice none 0 0, .slice none 0 0, .slice none 0 0, .slice none 0 0, .slice none 0 0, .int .i64 0, .slice none 0 0, .slice none 0 0, .slice none 0 0, .slice none 0 0, .int .i64 0, .int .i64 0, .int .i64 0, .int .i64 0, .slice none 0 0, .int .i64 0] 43)).alloc (.cells #[.string s, .int .i64 0, .bool false] 65) = W0 at *
  obtain ⟨n2, h2⟩ : ∃ n, w.heap.size = n := ⟨_, rfl⟩
  obtain ⟨b, h3⟩ : ∃ n, w.heap.size + 1 = n := ⟨_, rfl⟩
  have hn2 : w.heap.size ≤ n2 := by omega
  have hnb : w.heap.size ≤ b := by omega
  have e2 : b ≠ n2 := by omega
  have i2 : some n2 ≠ some b := fun e => e2 (Option.some.inj e).symm
  rw [h3] at hR ⊢
  rw [h2] at hZ ⊢
  clear h2 h3
  go_wp2_with fail
  refine (refNum_uni hs (Nat.zero_le _) hR).mono ?_
  rintro e w1 ⟨v1, q1, b1, rfl, hR, hq1, hg, st1⟩
  replace hB := below_by hB hg hnb
  replace hZ := hZ.keep hg i2
  clear hg
  go_wp2_with fail
  refine (refNum_uni hs hq1 hR).mono ?_
  rintro e w2 ⟨v2, q2, b2, rfl, hR, hq2, hg, st2⟩
  replace hB := below_by hB hg hnb
  replace hZ := hZ.keep hg i2
  clear hg
  go_upto_region 3 with fail
  go_wp2_with fail
  refine (refPastRead_uni _ _ _ _ _ hs3 hq2 hR).mono ?_
  rintro e w3 ⟨y, q3, b3, rfl, hP, hR, hq3, hg, st3⟩
  replace hB := below_by hB hg hnb
  replace hZ := hZ.keep hg i2
  clear hg
  have hal := below_alloc (Below.refl w3.heap.size w3) (.cells #[.slice none 0 0, .int .i64 0, .slice none 0 0, .slice none 0 0, .slice none 0 0] 39)
  have hY : pwE.In (w3.alloc (.cells #[.slice none 0 0, .int .i64 0, .slice none 0 0, .slice none 0 0, .slice none 0 0] 39)) w3.heap.size Pw.zero := El.In.new (E := pwE) w3 Pw.zero _ rfl
  have e7 : b ≠ w3.heap.size := Nat.ne_of_lt hR.lt
  have f7 : n2 ≠ w3.heap.size := Nat.ne_of_lt hZ.lt
  go_upto_region 4 with (first | (refine El.store pwRow rfl _ _ rfl w3.heap.size y #[.slice y.bA y.base.length y.bc, .int .i64 y.t, .slice y.oA y.ops.length y.oc, .slice y.uA y.us.length y.uc, .slice y.wA y.now.length y.wc] rfl rfl rfl Pw.zero hY ?_) | fail)
  have hY2 := hY.set y #[.slice y.bA y.base.length y.bc, .int .i64 y.t, .slice y.oA y.ops.length y.oc, .slice y.uA y.us.length y.uc, .slice y.wA y.now.length y.wc] rfl
  have hP2 := hP.below (below_setRow hal (Nat.le_refl _) #[.slice y.bA y.base.length y.bc, .int .i64 y.t, .slice y.oA y.ops.length y.oc, .slice y.uA y.us.length y.uc, .slice y.wA y.now.length y.wc])
  have hR2 := (hR.below hal).row w3.heap.size #[.slice y.bA y.base.length y.bc, .int .i64 y.t, .slice y.oA y.ops.length y.oc, .slice y.uA y.us.length y.uc, .slice y.wA y.now.length y.wc] e7
  have hZ2 := (hZ.below hal).rowN w3.heap.size #[.slice y.bA y.base.length y.bc, .int .i64 y.t, .slice y.oA y.ops.length y.oc, .slice y.uA y.us.length y.uc, .slice y.wA y.now.length y.wc] f7
  have hB2 := below_setRow (below_then hB hal) hB.size #[.slice y.bA y.base.length y.bc, .int .i64 y.t, .slice y.oA y.ops.length y.oc, .slice y.uA y.us.length y.uc, .slice y.wA y.now.length y.wc]
  have HST := Lib.hid (And.intro st1 (And.intro st2 st3))
  clear hY hP hR hZ hB hal st1 st2 st3
  generalize (w3.alloc (.cells #[.slice none 0 0, .int .i64 0, .slice none 0 0, .slice none 0 0, .slice none 0 0] 39)).setRow w3.heap.size #[.slice y.bA y.base.length y.bc, .int .i64 y.t, .slice y.oA y.ops.length y.oc, .slice y.uA y.us.length y.uc, .slice y.wA y.now.length y.wc] = W4 at *
  generalize w3.heap.size = n7 at *
  go_wp2_with fail
  refine (refReadCounts_uni _ _ _ _ _ hs hq3 hR2).mono ?_
  rintro e w5 ⟨A, c, l, q4, b4, rfl, hL, hR, hq4, hg, st4⟩
  replace hP2 := hP2.keepR hR2 hg
  replace hB2 := below_by hB2 hg hnb
  replace hZ2 := hZ2.keep hg i2
  replace hY2 := hY2.keep hg (fun e => e7 (Option.some.inj e).symm)
  obtain ⟨h1, h2, h3⟩ := HST.out
  have hval := thaw_val h1 h2 (h3.imp (fun h => h) (fun h => ⟨h.1, h.2.2⟩)) st4
  have HGC := Lib.hid (cnsStep_good st4)
  clear hR2 hg st4 h1 h2 h3 HST
  have cD := refDone_any hR
  obtain ⟨d, hd⟩ : ∃ d, isDone s q4 b4 = d := ⟨_, rfl⟩
  rw [hd] at cD hval
  go_upto_region 5 with fail
  go_wp2_with fail
  refine cD.mono ?_
  rintro e w6 ⟨rfl, n, rfl⟩
  replace hB2 := below_drew hB2 n
  have hP3 : PastOk (w5.drewN n) y := hP2.below (below_drew (Below.refl _ _) n)
  have hL3 : SlV cnE (w5.drewN n) A c l := hL.below (below_drew (Below.refl _ _) n)
  have hZ3 : stE.In (w5.drewN n) n2 Sw.zero := hZ2
  have hY3 : pwE.In (w5.drewN n) n7 y := hY2
  have HV := Lib.hid hval
  clear cD hd hP2 hL hZ2 hY2 hR hval
  generalize w5.drewN n = W6 at *
  cases d
  · have HI := Lib.hid (show isSnap s = none by rw [HV.out]; exact if_neg (fun h => by cases h.1))
    clear HV hY3 hP3 hL3
    go_wp2_with (first | (refine El.store stRow rfl _ _ rfl n2 Sw.zero #[.int .i64 0, .int .i64 0, .int .i64 0, .int .i64 0, .int .i64 0, .int .i64 0, .slice none 0 0, .int .i64 0, .int .i64 0, .slice none 0 0, .slice none 0 0, .slice none 0 0, .slice none 0 0, .slice none 0 0, .slice none 0 0, .int .i64 0, .slice none 0 0, .slice none 0 0, .slice none 0 0, .slice none 0 0, .int .i64 0, .int .i64 0, .int .i64 0, .int .i64 0, .slice none 0 0, .int .i64 0] rfl rfl rfl Sw.zero hZ3 ?_) | fail)
    refine El.ret2 stRow (hZ3.set Sw.zero #[.int .i64 0, .int .i64 0, .int .i64 0, .int .i64 0, .int .i64 0, .int .i64 0, .slice none 0 0, .int .i64 0, .int .i64 0, .slice none 0 0, .slice none 0 0, .slice none 0 0, .slice none 0 0, .slice none 0 0, .slice none 0 0, .int .i64 0, .slice none 0 0, .slice none 0 0, .slice none 0 0, .slice none 0 0, .int .i64 0, .int .i64 0, .int .i64 0, .int .i64 0, .slice none 0 0, .int .i64 0] rfl) rfl rfl rfl rfl #[.int .i64 0, .int .i64 0, .int .i64 0, .int .i64 0, .int .i64 0, .int .i64 0, .slice none 0 0, .int .i64 0, .int .i64 0, .slice none 0 0, .slice none 0 0, .slice none 0 0, .slice none 0 0, .slice none 0 0, .slice none 0 0, .int .i64 0, .slice none 0 0, .slice none 0 0, .slice none 0 0, .slice none 0 0, .int .i64 0, .int .i64 0, .int .i64 0, .int .i64 0, .slice none 0 0, .int .i64 0] rfl ?_
    exact ⟨Sw.zero, false, rfl, Sw.ok.zero _, below_setRow hB2 hn2 _, Or.inr ⟨HI.out, rfl, rfl⟩⟩
  · by_cases c1 : v1 < 0
    · have f1 : decide (v1 < 0) = true := decide_eq_true c1
      have HI := Lib.hid (show isSnap s = none by rw [HV.out]; exact if_neg (fun h => by omega))
      clear HV hY3 hP3 hL3 c1
      go_wp2_with (first | (refine El.store stRow rfl _ _ rfl n2 Sw.zero #[.int .i64 0, .int .i64 0, .int .i64 0, .int .i64 0, .int .i64 0, .int .i64 0, .slice none 0 0, .int .i64 0, .int .i64 0, .slice none 0 0, .slice none 0 0, .slice none 0 0, .slice none 0 0, .slice none 0 0, .slice none 0 0, .int .i64 0, .slice none 0 0, .slice none 0 0, .slice none 0 0, .slice none 0 0, .int .i64 0, .int .i64 0, .int .i64 0, .int .i64 0, .slice none 0 0, .int .i64 0] rfl rfl rfl Sw.zero hZ3 ?_) | fail)
      refine El.ret2 stRow (hZ3.set Sw.zero #[.int .i64 0, .int .i64 0, .int .i64 0, .int .i64 0, .int .i64 0, .int .i64 0, .slice none 0 0, .int .i64 0, .int .i64 0, .slice none 0 0, .slice none 0 0, .slice none 0 0, .slice none 0 0, .slice none 0 0, .slice none 0 0, .int .i64 0, .slice none 0 0, .slice none 0 0, .slice none 0 0, .slice none 0 0, .int .i64 0, .int .i64 0, .int .i64 0, .int .i64 0, .slice none 0 0, .int .i64 0] rfl) rfl rfl rfl rfl #[.int .i64 0, .int .i64 0, .int .i64 0, .int .i64 0, .int .i64 0, .int .i64 0, .slice none 0 0, .int .i64 0, .int .i64 0, .slice none 0 0, .slice none 0 0, .slice none 0 0, .slice none 0 0, .slice none 0 0, .slice none 0 0, .int .i64 0, .slice none 0 0, .slice none 0 0, .slice none 0 0, .slice none 0 0, .int .i64 0, .int .i64 0, .int .i64 0, .int .i64 0, .slice none 0 0, .int .i64 0] rfl ?_
      exact ⟨Sw.zero, false, rfl, Sw.ok.zero _, below_setRow hB2 hn2 _, Or.inr ⟨HI.out, rfl, rfl⟩⟩
    · have f1 : decide (v1 < 0) = false := decide_eq_false c1
      by_cases c2 : 1099511627776 < v1
      · have f2 : decide (1099511627776 < v1) = true := decide_eq_true c2
        have HI := Lib.hid (show isSnap s = none by rw [HV.out]; exact if_neg (fun h => by omega))
        clear HV hY3 hP3 hL3 c1 c2
        go_wp2_with (first | (refine El.store stRow rfl _ _ rfl n2 Sw.zero #[.int .i64 0, .int .i64 0, .int .i64 0, .int .i64 0, .int .i64 0, .int .i64 0, .slice none 0 0, .int .i64 0, .int .i64 0, .slice none 0 0, .slice none 0 0, .slice none 0 0, .slice none 0 0, .slice none 0 0, .slice none 0 0, .int .i64 0, .slice none 0 0, .slice none 0 0, .slice none 0 0, .slice none 0 0, .int .i64 0, .int .i64 0, .int .i64 0, .int .i64 0, .slice none 0 0, .int .i64 0] rfl rfl rfl Sw.zero hZ3 ?_) | fail)
        refine El.ret2 stRow (hZ3.set Sw.zero #[.int .i64 0, .int .i64 0, .int .i64 0, .int .i64 0, .int .i64 0, .int .i64 0, .slice none 0 0, .int .i64 0, .int .i64 0, .slice none 0 0, .slice none 0 0, .slice none 0 0, .slice none 0 0, .slice none 0 0, .slice none 0 0, .int .i64 0, .slice none 0 0, .slice none 0 0, .slice none 0 0, .slice none 0 0, .int .i64 0, .int .i64 0, .int .i64 0, .int .i64 0, .slice none 0 0, .int .i64 0] rfl) rfl rfl rfl rfl #[.int .i64 0, .int .i64 0, .int .i64 0, .int .i64 0, .int .i64 0, .int .i64 0, .slice none 0 0, .int .i64 0, .int .i64 0, .slice none 0 0, .slice none 0 0, .slice none 0 0, .slice none 0 0, .slice none 0 0, .slice none 0 0, .int .i64 0, .slice none 0 0, .slice none 0 0, .slice none 0 0, .slice none 0 0, .int .i64 0, .int .i64 0, .int .i64 0, .int .i64 0, .slice none 0 0, .int .i64 0] rfl ?_
        exact ⟨Sw.zero, false, rfl, Sw.ok.zero _, below_setRow hB2 hn2 _, Or.inr ⟨HI.out, rfl, rfl⟩⟩
      · have f2 : decide (1099511627776 < v1) = false := decide_eq_false c2
        by_cases c3 : v2 < 0
        · have f3 : decide (v2 < 0) = true := decide_eq_true c3
          have HI := Lib.hid (show isSnap s = none by rw [HV.out]; exact if_neg (fun h => by omega))
          clear HV hY3 hP3 hL3 c1 c2 c3
          go_wp2_with (first | (refine El.store stRow rfl _ _ rfl n2 Sw.zero #[.int .i64 0, .int .i64 0, .int .i64 0, .int .i64 0, .int .i64 0, .int .i64 0, .slice none 0 0, .int .i64 0, .int .i64 0, .slice none 0 0, .slice none 0 0, .slice none 0 0, .slice none 0 0, .slice none 0 0, .slice none 0 0, .int .i64 0, .slice none 0 0, .slice none 0 0, .slice none 0 0, .slice none 0 0, .int .i64 0, .int .i64 0, .int .i64 0, .int .i64 0, .slice none 0 0, .int .i64 0] rfl rfl rfl Sw.zero hZ3 ?_) | fail)
          refine El.ret2 stRow (hZ3.set Sw.zero #[.int .i64 0, .int .i64 0, .int .i64 0, .int .i64 0, .int .i64 0, .int .i64 0, .slice none 0 0, .int .i64 0, .int .i64 0, .slice none 0 0, .slice none 0 0, .slice none 0 0, .slice none 0 0, .slice none 0 0, .slice none 0 0, .int .i64 0, .slice none 0 0, .slice none 0 0, .slice none 0 0, .slice none 0 0, .int .i64 0, .int .i64 0, .int .i64 0, .int .i64 0, .slice none 0 0, .int .i64 0] rfl) rfl rfl rfl rfl #[.int .i64 0, .int .i64 0, .int .i64 0, .int .i64 0, .int .i64 0, .int .i64 0, .slice none 0 0, .int .i64 0, .int .i64 0, .slice none 0 0, .slice none 0 0, .slice none 0 0, .slice none 0 0, .slice none 0 0, .slice none 0 0, .int .i64 0, .slice none 0 0, .slice none 0 0, .slice none 0 0, .slice none 0 0, .int .i64 0, .int .i64 0, .int .i64 0, .int .i64 0, .slice none 0 0, .int .i64 0] rfl ?_
          exact ⟨Sw.zero, false, rfl, Sw.ok.zero _, below_setRow hB2 hn2 _, Or.inr ⟨HI.out, rfl, rfl⟩⟩
        · have f3 : decide (v2 < 0) = false := decide_eq_false c3
          by_cases c4 : 1099511627776 < v2
          · have f4 : decide (1099511627776 < v2) = true := decide_eq_true c4
            have HI := Lib.hid (show isSnap s = none by rw [HV.out]; exact if_neg (fun h => by omega))
            clear HV hY3 hP3 hL3 c1 c2 c3 c4
            go_wp2_with (first | (refine El.store stRow rfl _ _ rfl n2 Sw.zero #[.int .i64 0, .int .i64 0, .int .i64 0, .int .i64 0, .int .i64 0, .int .i64 0, .slice none 0 0, .int .i64 0, .int .i64 0, .slice none 0 0, .slice none 0 0, .slice none 0 0, .slice none 0 0, .slice none 0 0, .slice none 0 0, .int .i64 0, .slice none 0 0, .slice none 0 0, .slice none 0 0, .slice none 0 0, .int .i64 0, .int .i64 0, .int .i64 0, .int .i64 0, .slice none 0 0, .int .i64 0] rfl rfl rfl Sw.zero hZ3 ?_) | fail)
            refine El.ret2 stRow (hZ3.set Sw.zero #[.int .i64 0, .int .i64 0, .int .i64 0, .int .i64 0, .int .i64 0, .int .i64 0, .slice none 0 0, .int .i64 0, .int .i64 0, .slice none 0 0, .slice none 0 0, .slice none 0 0, .slice none 0 0, .slice none 0 0, .slice none 0 0, .int .i64 0, .slice none 0 0, .slice none 0 0, .slice none 0 0, .slice none 0 0, .int .i64 0, .int .i64 0, .int .i64 0, .int .i64 0, .slice none 0 0, .int .i64 0] rfl) rfl rfl rfl rfl #[.int .i64 0, .int .i64 0, .int .i64 0, .int .i64 0, .int .i64 0, .int .i64 0, .slice none 0 0, .int .i64 0, .int .i64 0, .slice none 0 0, .slice none 0 0, .slice none 0 0, .slice none 0 0, .slice none 0 0, .slice none 0 0, .int .i64 0, .slice none 0 0, .slice none 0 0, .slice none 0 0, .slice none 0 0, .int .i64 0, .int .i64 0, .int .i64 0, .int .i64 0, .slice none 0 0, .int .i64 0] rfl ?_
            exact ⟨Sw.zero, false, rfl, Sw.ok.zero _, below_setRow hB2 hn2 _, Or.inr ⟨HI.out, rfl, rfl⟩⟩
          · have f4 : decide (1099511627776 < v2) = false := decide_eq_false c4
            have HI := Lib.hid (show isSnap s = some (⟨v1, v2, y, A, c, l⟩ : Sw).v by rw [HV.out]; exact if_pos ⟨rfl, by omega, by omega, by omega⟩)
            clear HV c1 c2 c3 c4
            go_upto_region 7 with fail
            obtain ⟨y0, y1, y2, y3, y4⟩ := pwIn5 hY3
            go_wp2_with (first | (refine El.store stRow rfl _ _ rfl n2 (⟨v1, v2, y, A, c, l⟩ : Sw) #[.int .i64 0, .int .i64 0, .int .i64 0, .int .i64 v1, .int .i64 y.t, .int .i64 v1, .slice none 0 0, .int .i64 0, .int .i64 0, .slice none 0 0, .slice none 0 0, .slice none 0 0, .slice none 0 0, .slice none 0 0, .slice y.bA y.base.length y.bc, .int .i64 y.t, .slice y.oA y.ops.length y.oc, .slice y.uA y.us.length y.uc, .slice y.wA y.now.length y.wc, .slice A l.length c, .int .i64 0, .int .i64 0, .int .i64 v2, .int .i64 0, .slice none 0 0, .int .i64 0] rfl rfl rfl Sw.zero hZ3 ?_) | fail)
            refine El.ret2 stRow (hZ3.set (⟨v1, v2, y, A, c, l⟩ : Sw) #[.int .i64 0, .int .i64 0, .int .i64 0, .int .i64 v1, .int .i64 y.t, .int .i64 v1, .slice none 0 0, .int .i64 0, .int .i64 0, .slice none 0 0, .slice none 0 0, .slice none 0 0, .slice none 0 0, .slice none 0 0, .slice y.bA y.base.length y.bc, .int .i64 y.t, .slice y.oA y.ops.length y.oc, .slice y.uA y.us.length y.uc, .slice y.wA y.now.length y.wc, .slice A l.length c, .int .i64 0, .int .i64 0, .int .i64 v2, .int .i64 0, .slice none 0 0, .int .i64 0] rfl) rfl rfl rfl rfl #[.int .i64 0, .int .i64 0, .int .i64 0, .int .i64 v1, .int .i64 y.t, .int .i64 v1, .slice none 0 0, .int .i64 0, .int .i64 0, .slice none 0 0, .slice none 0 0, .slice none 0 0, .slice none 0 0, .slice none 0 0, .slice y.bA y.base.length y.bc, .int .i64 y.t, .slice y.oA y.ops.length y.oc, .slice y.uA y.us.length y.uc, .slice y.wA y.now.length y.wc, .slice A l.length c, .int .i64 0, .int .i64 0, .int .i64 v2, .int .i64 0, .slice none 0 0, .int .i64 0] rfl ?_
            exact ⟨⟨v1, v2, y, A, c, l⟩, true, rfl, ⟨hP3.keepZ hZ3 (by_row _ n2 _), cns_keepZ hL3 HGC.out hZ3 (by_row _ n2 _)⟩, below_setRow hB2 hn2 _, Or.inl ⟨HI.out, rfl⟩⟩
end Go.Proofs.YtfpgfclmmdihjaaGreat

/- The law's 'same' of two states. -/
namespace Go.Proofs.YtfpgfclmmdihjaaGreat
open Go.RowKit Tre Cod Pst Nam

theorem stIn11 {w : World} {b : Nat} {x : Sw} (h : stE.In w b x) : w.cell? ⟨b, 3, none⟩ = some (.int .i64 x.pos) ∧ w.cell? ⟨b, 4, none⟩ = some (.int .i64 x.y.t) ∧ w.cell? ⟨b, 5, none⟩ = some (.int .i64 x.pos) ∧ w.cell? ⟨b, 6, none⟩ = some (.slice none 0 0) ∧ w.cell? ⟨b, 14, none⟩ = some (.slice x.y.bA x.y.base.length x.y.bc) ∧ w.cell? ⟨b, 15, none⟩ = some (.int .i64 x.y.t) ∧ w.cell? ⟨b, 16, none⟩ = some (.slice x.y.oA x.y.ops.length x.y.oc) ∧ w.cell? ⟨b, 17, none⟩ = some (.slice x.y.uA x.y.us.length x.y.uc) ∧ w.cell? ⟨b, 18, none⟩ = some (.slice x.y.wA x.y.now.length x.y.wc) ∧ w.cell? ⟨b, 19, none⟩ = some (.slice x.cA x.l.length x.cc) ∧ w.cell? ⟨b, 22, none⟩ = some (.int .i64 x.clock) :=
  ⟨h.cell 3, h.cell 4, h.cell 5, h.cell 6, h.cell 14, h.cell 15, h.cell 16, h.cell 17, h.cell 18, h.cell 19, h.cell 22⟩
set_option maxRecDepth 100000 in
set_option maxHeartbeats 16000000 in
theorem same17_any (x y : Sw) (w : World) (hx : x.ok w) (hy : y.ok w) (hv : x.v = y.v) (hl1 : x.y.base.length ≤ 50000) (hl2 : x.y.ops.length ≤ 50000) (hl3 : x.y.us.length ≤ 50000) (hl4 : x.y.now.length ≤ 50000) (hl5 : x.l.length ≤ 50000) :
    Calls Tryz.prog 9 #[.agg #[.int .i64 0, .int .i64 0, .int .i64 0, .int .i64 x.pos, .int .i64 x.y.t, .int .i64 x.pos, .slice none 0 0, .int .i64 0, .int .i64 0, .slice none 0 0, .slice none 0 0, .slice none 0 0, .slice none 0 0, .slice none 0 0, .slice x.y.bA x.y.base.length x.y.bc, .int .i64 x.y.t, .slice x.y.oA x.y.ops.length x.y.oc, .slice x.y.uA x.y.us.length x.y.uc, .slice x.y.wA x.y.now.length x.y.wc, .slice x.cA x.l.length x.cc, .int .i64 0, .int .i64 0, .int .i64 x.clock, .int .i64 0, .slice none 0 0, .int .i64 0], .agg #[.int .i64 0, .int .i64 0, .int .i64 0, .int .i64 y.pos, .int .i64 y.y.t, .int .i64 y.pos, .slice none 0 0, .int .i64 0, .int .i64 0, .slice none 0 0, .slice none 0 0, .slice none 0 0, .slice none 0 0, .slice none 0 0, .slice y.y.bA y.y.base.length y.y.bc, .int .i64 y.y.t, .slice y.y.oA y.y.ops.length y.y.oc, .slice y.y.uA y.y.us.length y.y.uc, .slice y.y.wA y.y.now.length y.y.wc, .slice y.cA y.l.length y.cc, .int .i64 0, .int .i64 0, .int .i64 y.clock, .int .i64 0, .slice none 0 0, .int .i64 0]] w fun e w' => e = .returned (.bool true) ∧ Below w.heap.size w w' := by
  obtain ⟨pos, clock, ⟨bA, bc, base, t, oA, oc, ops, uA, uc, us, wA, wc, now⟩, cA, cc, l⟩ := x
  obtain ⟨pos', clock', ⟨bA', bc', base', t', oA', oc', ops', uA', uc', us', wA', wc', now'⟩, cA', cc', l'⟩ := y
  simp only [Sw.v, Pw.v, Sn.mk.injEq, Pv.mk.injEq] at hv
  obtain ⟨rfl, rfl, ⟨rfl, rfl, rfl, rfl, rfl⟩, rfl⟩ := hv
  simp only at hl1 hl2 hl3 hl4 hl5
  have CS := fun (wx : World) (h : Below w.heap.size w wx) => samePast_any ⟨bA, bc, base, t, oA, oc, ops, uA, uc, us, wA, wc, now⟩ ⟨bA', bc', base, t, oA', oc', ops, uA', uc', us, wA', wc', now⟩ wx (hx.p.below h) (hy.p.below h) rfl hl1 hl2 hl3 hl4
  have HCS := Lib.hid CS
  have hX : stE.In ((w.alloc (.cells #[.int .i64 0, .int .i64 0, .int .i64 0, .int .i64 pos, .int .i64 t, .int .i64 pos, .slice none 0 0, .int .i64 0, .int .i64 0, .slice none 0 0, .slice none 0 0, .slice none 0 0, .slice none 0 0, .slice none 0 0, .slice bA base.length bc, .int .i64 t, .slice oA ops.length oc, .slice uA us.length uc, .slice wA now.length wc, .slice cA l.length cc, .int .i64 0, .int .i64 0, .int .i64 clock, .int .i64 0, .slice none 0 0, .int .i64 0] 43)).alloc (.cells #[.int .i64 0, .int .i64 0, .int .i64 0, .int .i64 pos, .int .i64 t, .int .i64 pos, .slice none 0 0, .int .i64 0, .int .i64 0, .slice none 0 0, .slice none 0 0, .slice none 0 0, .slice none 0 0, .slice none 0 0, .slice bA' base.length bc', .int .i64 t, .slice oA' ops.length oc', .slice uA' us.length uc', .slice wA' now.length wc', .slice cA' l.length cc', .int .i64 0, .int .i64 0, .int .i64 clock, .int .i64 0, .slice none 0 0, .int .i64 0] 43)) w.heap.size (⟨pos, clock, ⟨bA, bc, base, t, oA, oc, ops, uA, uc, us, wA, wc, now⟩, cA, cc, l⟩ : Sw) := (El.In.new (E := stE) w (⟨pos, clock, ⟨bA, bc, base, t, oA, oc, ops, uA, uc, us, wA, wc, now⟩, cA, cc, l⟩ : Sw) #[.int .i64 0, .int .i64 0, .int .i64 0, .int .i64 pos, .int .i64 t, .int .i64 pos, .slice none 0 0, .int .i64 0, .int .i64 0, .slice none 0 0, .slice none 0 0, .slice none 0 0, .slice none 0 0, .slice none 0 0, .slice bA base.length bc, .int .i64 t, .slice oA ops.length oc, .slice uA us.length uc, .slice wA now.length wc, .slice cA l.length cc, .int .i64 0, .int .i64 0, .int .i64 clock, .int .i64 0, .slice none 0 0, .int .i64 0] rfl).alloc _
  have hY : stE.In ((w.alloc (.cells #[.int .i64 0, .int .i64 0, .int .i64 0, .int .i64 pos, .int .i64 t, .int .i64 pos, .slice none 0 0, .int .i64 0, .int .i64 0, .slice none 0 0, .slice none 0 0, .slice none 0 0, .slice none 0 0, .slice none 0 0, .slice bA base.length bc, .int .i64 t, .slice oA ops.length oc, .slice uA us.length uc, .slice wA now.length wc, .slice cA l.length cc, .int .i64 0, .int .i64 0, .int .i64 clock, .int .i64 0, .slice none 0 0, .int .i64 0] 43)).alloc (.cells #[.int .i64 0, .int .i64 0, .int .i64 0, .int .i64 pos, .int .i64 t, .int .i64 pos, .slice none 0 0, .int .i64 0, .int .i64 0, .slice none 0 0, .slice none 0 0, .slice none 0 0, .slice none 0 0, .slice none 0 0, .slice bA' base.length bc', .int .i64 t, .slice oA' ops.length oc', .slice uA' us.length uc', .slice wA' now.length wc', .slice cA' l.length cc', .int .i64 0, .int .i64 0, .int .i64 clock, .int .i64 0, .slice none 0 0, .int .i64 0] 43)) (w.heap.size + 1) (⟨pos, clock, ⟨bA', bc', base, t, oA', oc', ops, uA', uc', us, wA', wc', now⟩, cA', cc', l⟩ : Sw) := by
    have h := El.In.new (E := stE) (w.alloc (.cells #[.int .i64 0, .int .i64 0, .int .i64 0, .int .i64 pos, .int .i64 t, .int .i64 pos, .slice none 0 0, .int .i64 0, .int .i64 0, .slice none 0 0, .slice none 0 0, .slice none 0 0, .slice none 0 0, .slice none 0 0, .slice bA base.length bc, .int .i64 t, .slice oA ops.length oc, .slice uA us.length uc, .slice wA now.length wc, .slice cA l.length cc, .int .i64 0, .int .i64 0, .int .i64 clock, .int .i64 0, .slice none 0 0, .int .i64 0] 43)) (⟨pos, clock, ⟨bA', bc', base, t, oA', oc', ops, uA', uc', us, wA', wc', now⟩, cA', cc', l⟩ : Sw) #[.int .i64 0, .int .i64 0, .int .i64 0, .int .i64 pos, .int .i64 t, .int .i64 pos, .slice none 0 0, .int .i64 0, .int .i64 0, .slice none 0 0, .slice none 0 0, .slice none 0 0, .slice none 0 0, .slice none 0 0, .slice bA' base.length bc', .int .i64 t, .slice oA' ops.length oc', .slice uA' us.length uc', .slice wA' now.length wc', .slice cA' l.length cc', .int .i64 0, .int .i64 0, .int .i64 clock, .int .i64 0, .slice none 0 0, .int .i64 0] rfl
    rw [alloc_size] at h; exact h
  have hB := below_alloc (below_alloc (Below.refl w.heap.size w) (.cells #[.int .i64 0, .int .i64 0, .int .i64 0, .int .i64 pos, .int .i64 t, .int .i64 pos, .slice none 0 0, .int .i64 0, .int .i64 0, .slice none 0 0, .slice none 0 0, .slice none 0 0, .slice none 0 0, .slice none 0 0, .slice bA base.length bc, .int .i64 t, .slice oA ops.length oc, .slice uA us.length uc, .slice wA now.length wc, .slice cA l.length cc, .int .i64 0, .int .i64 0, .int .i64 clock, .int .i64 0, .slice none 0 0, .int .i64 0] 43)) (.cells #[.int .i64 0, .int .i64 0, .int .i64 0, .int .i64 pos, .int .i64 t, .int .i64 pos, .slice none 0 0, .int .i64 0, .int .i64 0, .slice none 0 0, .slice none 0 0, .slice none 0 0, .slice none 0 0, .slice none 0 0, .slice bA' base.length bc', .int .i64 t, .slice oA' ops.length oc', .slice uA' us.length uc', .slice wA' now.length wc', .slice cA' l.length cc', .int .i64 0, .int .i64 0, .int .i64 clock, .int .i64 0, .slice none 0 0, .int .i64 0] 43)
  have HS1 := Lib.hid (SlV.below hx.c hB)
  have HS2 := Lib.hid (SlV.below hy.c hB)
  clear CS hx hy
  go_enter Tryz.func9, Tryz.ntmps9
  go_upto_region 1 with fail
  generalize (w.alloc (.cells #[.int .i64 0, .int .i64 0, .int .i64 0, .int .i64 pos, .int .i64 t, .int .i64 pos, .slice none 0 0, .int .i64 0, .int .i64 0, .slice none 0 0, .slice none 0 0, .slice none 0 0, .slice none 0 0, .slice none 0 0, .slice bA base.length bc, .int .i64 t, .slice oA ops.length oc, .slice uA us.length uc, .slice wA now.length wc, .slice cA l.length cc, .int .i64 0, .int .i64 0, .int .i64 clock, .int .i64 0, .slice none 0 0, .int .i64 0] 43)).alloc (.cells #[.int .i64 0, .int .i64 0, .int .i64 0, .int .i64 pos, .int .i64 t, .int .i64 pos, .slice none 0 0, .int .i64 0, .int .i64 0, .slice none 0 0, .slice none 0 0, .slice none 0 0, .slice none 0 0, .slice none 0 0, .slice bA' base.length bc', .int .i64 t, .slice oA' ops.length oc', .slice uA' us.length uc', .slice wA' now.length wc', .slice cA' l.length cc', .int .i64 0, .int .i64 0, .int .i64 clock, .int .i64 0, .slice none 0 0, .int .i64 0] 43) = V at *
  obtain ⟨n3, h3⟩ : ∃ n, w.heap.size + 1 = n := ⟨_, rfl⟩
  obtain ⟨n2, h2⟩ : ∃ n, w.heap.size = n := ⟨_, rfl⟩
  rw [h3] at hY ⊢
  rw [h2] at hX ⊢
  clear h2 h3
  obtain ⟨a3, a4, a5, a6, a14, a15, a16, a17, a18, a19, a22⟩ := stIn11 hX
  obtain ⟨z3, z4, z5, z6, z14, z15, z16, z17, z18, z19, z22⟩ := stIn11 hY
  clear a3 a4 a5 a6 a14 a15 a16 a17 a18 a22 z3 z4 z5 z6 z14 z15 z16 z17 z18 z22
  go_wp2_with fail
  go_loopw [5] (fun i wr => ∃ k : Nat, k ≤ l.length ∧ i = .int .i64 k ∧ Below V.heap.size V wr) (fun i _ => l.length - (intOf i).toNat)
  case atStart => exact ⟨0, Nat.zero_le _, rfl, Below.refl _ _⟩
  case round =>
    clear a19 z19
    obtain ⟨k, hk, rfl, hN⟩ := hrel
    replace hX := hX.below hN
    replace hY := hY.below hN
    obtain ⟨a3, a4, a5, a6, a14, a15, a16, a17, a18, a19, a22⟩ := stIn11 hX
    obtain ⟨z3, z4, z5, z6, z14, z15, z16, z17, z18, z19, z22⟩ := stIn11 hY
    simp only at a3 a4 a5 a14 a15 a16 a17 a18 a19 a22 z3 z4 z5 z14 z15 z16 z17 z18 z19 z22
    by_cases hkl : k < l.length
    · clear a3 a4 a5 a6 a14 a15 a16 a17 a18 a22 z3 z4 z5 z6 z14 z15 z16 z17 z18 z22 hX hY
      obtain ⟨b1, o1, e1, hw1, hc1⟩ := HS1.out.1 (by omega)
      obtain ⟨b2, o2, e2, hw2, hc2⟩ := HS2.out.1 (by omega)
      have hx := cnIdxP (cap := cc) e1 hkl
      have hy := cnIdxP (cap := cc') e2 hkl
      have hat : cnE.At wr b1 (o1 + k * 3) l[k] := (hc1 k hkl).below hN hw1
      have hat' : cnE.At wr b2 (o2 + k * 3) l[k] := (hc2 k hkl).below hN hw2
      obtain ⟨s0, s1, s2⟩ := cnAt3 hat
      obtain ⟨t0, t1, t2⟩ := cnAt3 hat'
      generalize l[k] = v at *
      clear hc1 hc2 hat hat' e1 e2
      go_wp2_with fail
      go_quiet (fail)
      go_wp2_with fail
      exact ⟨⟨k + 1, by omega, by go_num, below_drew hN nq⟩, by simp [intOf]; omega⟩
    · obtain rfl : k = l.length := by omega
      have hBw := below_then hB hN
      have CT := HCS.out wr hBw
      clear hB hN HS1 HS2 hX hY hkl hk
      go_wp2_with fail
      refine CT.mono ?_
      rintro e w7 ⟨rfl, hb7⟩
      go_wp2_with fail
      go_ret
      exact ⟨rfl, below_then hBw hb7⟩
end Go.Proofs.YtfpgfclmmdihjaaGreat

/- The document's Chunks, Cut. -/
namespace Go.Proofs.YtfpgfclmmdihjaaGreat
open Go.RowKit Nam Cod

set_option maxRecDepth 100000 in
set_option maxHeartbeats 2000000 in
theorem refChunks_any (s : ByteArray) (z : Int) (w : World) (hs : s.size ≤ 1000000) (hz : i64 z) (hz2 : z ≤ 1099511627776) : Calls Tryz.prog 11 #[.string s, .int .i64 z] w fun e w' => e = .returned (.int .i64 (chunksV s.size z)) ∧ w = w' := by
  by_cases h : z < 1
  · have hv : chunksV s.size z = 0 := if_pos h
    rw [hv]
    have f1 : decide (z < 1) = true := decide_eq_true h
    clear hv h
    go_enter Tryz.func11, Tryz.ntmps11
    go_wp2_with fail
    go_ret
    exact ⟨rfl, rfl⟩
  · have hv : chunksV s.size z = max 1 (((s.size : Int) + z - 1) / z) := if_neg h
    rw [hv]
    have f1 : decide (z < 1) = false := decide_eq_false h
    have e1 : IntKind.i64.wrap ((s.size : Int) + z) = (s.size : Int) + z := by rw [IntKind.wrap_i64]; omega
    have e2 : IntKind.i64.wrap ((s.size : Int) + z - 1) = (s.size : Int) + z - 1 := by rw [IntKind.wrap_i64]; omega
    go_enter Tryz.func11, Tryz.ntmps11
    go_wp2_with fail
    go_ret
    exact ⟨rfl, rfl⟩
theorem cut_math {n a c : Nat} (hc : 1 ≤ c) (h : (a : Int) < max 1 (((n : Int) + c - 1) / c)) (hn : n ≤ 1000000) (hc2 : c ≤ 1099511627776) : a * c ≤ n ∧ a * c ≤ min n ((a + 1) * c) ∧ (a + 1) * c ≤ 2199023255552 ∧ a + 1 ≤ (a + 1) * c := by
  have h9 : a + 1 ≤ (a + 1) * c := Nat.le_mul_of_pos_right _ hc
  have hm : (a + 1) * c = a * c + c := by rw [Nat.add_mul, Nat.one_mul]
  have hmi : ((a : Int) + 1) * c = ((a * c : Nat) : Int) + c := by rw [Int.add_mul, Int.one_mul, Int.natCast_mul]
  by_cases h1 : (a : Int) + 1 ≤ ((n : Int) + c - 1) / c
  · have h2 := (Int.le_ediv_iff_mul_le (show (0 : Int) < c by omega)).1 h1
    rw [hmi] at h2
    rw [hm]
    omega
  · have h2 : a = 0 := by omega
    subst h2
    rw [hm]
    omega
set_option maxRecDepth 100000 in
set_option maxHeartbeats 4000000 in
theorem refCut_any (s : ByteArray) (z i : Int) (r : Rp) (w : World) (hs : s.size ≤ 1000000) (hz : i64 z) (hz2 : z ≤ 1099511627776) (hi : i64 i) : Calls Tryz.prog 8 #[.string s, .int .i64 z, .int .i64 i, .agg #[.int .i64 r.d, .int .i64 r.i, .int .i64 r.b, .int .i64 r.t, .int .i64 r.m, .int .i64 r.p, .int .i64 r.c, .int .i64 r.s, .int .i64 r.k]] w fun e w' => ∃ (g : Gf) (b : Bool), cutV s z i r = (g, b) ∧ e = .returned (.tuple #[.agg #[.int .i64 g.d, .int .i64 g.i, .int .i64 g.c, .int .i64 g.t, .string g.s], .bool b]) ∧ Below w.heap.size w w' := by
  have hP : rpE.In ((w.alloc (.cells #[.int .i64 r.d, .int .i64 r.i, .int .i64 r.b, .int .i64 r.t, .int .i64 r.m, .int .i64 r.p, .int .i64 r.c, .int .i64 r.s, .int .i64 r.k] 24)).alloc (.cells #[.int .i64 0, .int .i64 0, .int .i64 0, .int .i64 0, .string ⟨#[]⟩] 47)) w.heap.size r := (El.In.new (E := rpE) w r _ rfl).alloc _
  have hZ : gfE.In ((w.alloc (.cells #[.int .i64 r.d, .int .i64 r.i, .int .i64 r.b, .int .i64 r.t, .int .i64 r.m, .int .i64 r.p, .int .i64 r.c, .int .i64 r.s, .int .i64 r.k] 24)).alloc (.cells #[.int .i64 0, .int .i64 0, .int .i64 0, .int .i64 0, .string ⟨#[]⟩] 47)) (w.heap.size + 1) zeroGf := by
    have h := El.In.new (E := gfE) (w.alloc (.cells #[.int .i64 r.d, .int .i64 r.i, .int .i64 r.b, .int .i64 r.t, .int .i64 r.m, .int .i64 r.p, .int .i64 r.c, .int .i64 r.s, .int .i64 r.k] 24)) zeroGf _ rfl
    rw [alloc_size] at h; exact h
  have hB := below_alloc (below_alloc (Below.refl w.heap.size w) (.cells #[.int .i64 r.d, .int .i64 r.i, .int .i64 r.b, .int .i64 r.t, .int .i64 r.m, .int .i64 r.p, .int .i64 r.c, .int .i64 r.s, .int .i64 r.k] 24)) (.cells #[.int .i64 0, .int .i64 0, .int .i64 0, .int .i64 0, .string ⟨#[]⟩] 47)
  have C := Lib.hid (fun wx => refChunks_any s z wx hs hz hz2)
  obtain ⟨n, hn⟩ : ∃ n, chunksV s.size z = n := ⟨_, rfl⟩
  rw [hn] at C
  go_enter Tryz.func8, Tryz.ntmps8
  go_upto_region 1 with fail
  generalize (w.alloc (.cells #[.int .i64 r.d, .int .i64 r.i, .int .i64 r.b, .int .i64 r.t, .int .i64 r.m, .int .i64 r.p, .int .i64 r.c, .int .i64 r.s, .int .i64 r.k] 24)).alloc (.cells #[.int .i64 0, .int .i64 0, .int .i64 0, .int .i64 0, .string ⟨#[]⟩] 47) = W at *
  obtain ⟨n8, h8⟩ : ∃ n, w.heap.size + 1 = n := ⟨_, rfl⟩
  obtain ⟨n7, h7⟩ : ∃ n, w.heap.size = n := ⟨_, rfl⟩
  have hw8 : w.heap.size ≤ n8 := by omega
  have hne : n7 ≠ n8 := by omega
  rw [h8] at hZ ⊢
  rw [h7] at hP ⊢
  clear h8 h7
  go_wp2_with fail
  refine (C.out _).mono ?_
  rintro e w1 ⟨rfl, rfl⟩
  clear C
  by_cases h0 : i < 0
  · have hv : cutV s z i r = (zeroGf, false) := by unfold cutV; rw [if_neg (by omega)]
    have HV := Lib.hid hv
    have f1 : decide (i < 0) = true := decide_eq_true h0
    clear hv h0 hn
    go_wp2_with (first | (refine El.store gfRow rfl _ _ rfl n8 zeroGf #[.int .i64 0, .int .i64 0, .int .i64 0, .int .i64 0, .string ⟨#[]⟩] rfl rfl rfl zeroGf hZ ?_) | fail)
    refine El.ret2 gfRow (hZ.set zeroGf _ rfl) rfl rfl rfl rfl #[.int .i64 0, .int .i64 0, .int .i64 0, .int .i64 0, .string ⟨#[]⟩] rfl ?_
    exact ⟨zeroGf, false, HV.out, rfl, below_setRow hB hw8 _⟩
  · have f1 : decide (i < 0) = false := decide_eq_false h0
    by_cases h1 : n ≤ i
    · have hv : cutV s z i r = (zeroGf, false) := by unfold cutV; rw [hn, if_neg (by omega)]
      have HV := Lib.hid hv
      have f2 : decide (n ≤ i) = true := decide_eq_true h1
      clear hv h0 h1 hn
      go_wp2_with (first | (refine El.store gfRow rfl _ _ rfl n8 zeroGf #[.int .i64 0, .int .i64 0, .int .i64 0, .int .i64 0, .string ⟨#[]⟩] rfl rfl rfl zeroGf hZ ?_) | fail)
      refine El.ret2 gfRow (hZ.set zeroGf _ rfl) rfl rfl rfl rfl #[.int .i64 0, .int .i64 0, .int .i64 0, .int .i64 0, .string ⟨#[]⟩] rfl ?_
      exact ⟨zeroGf, false, HV.out, rfl, below_setRow hB hw8 _⟩
    · have f2 : decide (n ≤ i) = false := decide_eq_false h1
      have hz1 : ¬ z < 1 := fun h => by
        have : chunksV s.size z = 0 := if_pos h
        omega
      obtain ⟨c, rfl⟩ : ∃ c : Nat, z = c := ⟨z.toNat, by omega⟩
      obtain ⟨a, rfl⟩ : ∃ a : Nat, i = a := ⟨i.toNat, by omega⟩
      have hn2 : n = max 1 (((s.size : Int) + c - 1) / c) := by rw [← hn]; exact if_neg hz1
      obtain ⟨m1, m2, m3, m5⟩ := cut_math (n := s.size) (a := a) (c := c) (by omega) (by rw [← hn2]; omega) hs (by omega)
      have hv : cutV s c a r = (⟨r.d, r.i, a, n, s.extract (a * c) (min s.size ((a + 1) * c))⟩, true) := by
        unfold cutV; rw [hn, if_pos (by omega)]; simp only [Int.toNat_natCast]
      have HV := Lib.hid hv
      have i1 : (a : Int) * (c : Int) = ((a * c : Nat) : Int) := by rw [Int.natCast_mul]
      have i2 : ((a : Int) + 1) * (c : Int) = (((a + 1) * c : Nat) : Int) := by rw [Int.natCast_mul]; rfl
      have hm : (a + 1) * c = a * c + c := by rw [Nat.add_mul, Nat.one_mul]
      obtain ⟨lo, hlo⟩ : ∃ lo, a * c = lo := ⟨_, rfl⟩
      obtain ⟨hi0, hhi⟩ : ∃ hi0, (a + 1) * c = hi0 := ⟨_, rfl⟩
      rw [hlo] at m1 m2 i1 hm HV
      rw [hhi] at m2 m3 m5 i2 hm HV
      have e1 : IntKind.i64.wrap ((a : Int) * (c : Int)) = (lo : Int) := by rw [i1, IntKind.wrap_i64]; omega
      have e2 : IntKind.i64.wrap ((a : Int) + 1) = (a : Int) + 1 := by rw [IntKind.wrap_i64]; omega
      have e3 : IntKind.i64.wrap (((a : Int) + 1) * (c : Int)) = (hi0 : Int) := by rw [i2, IntKind.wrap_i64]; omega
      have e4 : min (s.size : Int) (hi0 : Int) = ((min s.size hi0 : Nat) : Int) := by omega
      obtain ⟨hi1, hh1⟩ : ∃ hi1, min s.size hi0 = hi1 := ⟨_, rfl⟩
      rw [hh1] at e4 m2 HV
      have m4 : hi1 ≤ s.size := by omega
      clear hn hn2 hlo hhi hm i1 i2 hv hh1
      obtain ⟨q0, q1, _, _, _, _, _, _, _⟩ := rpIn9 hP
      go_upto_region 4 with fail
      clear h0 h1 hz1 m3 m5 hP
      have hF := ((((hZ.put ⟨r.d, 0, 0, 0, ⟨#[]⟩⟩ 0 (.int .i64 r.d) rfl).put ⟨r.d, r.i, 0, 0, ⟨#[]⟩⟩ 1 (.int .i64 r.i) rfl).put ⟨r.d, r.i, a, 0, ⟨#[]⟩⟩ 2 (.int .i64 (a : Nat)) rfl).put ⟨r.d, r.i, a, n, ⟨#[]⟩⟩ 3 (.int .i64 n) rfl).put ⟨r.d, r.i, a, n, s.extract lo hi1⟩ 4 (.string (s.extract lo hi1)) rfl
      have hBF := (Below.setCell (Below.setCell (Below.setCell (Below.setCell (Below.setCell hB (p := ⟨n8, 0, none⟩) hw8 (.int .i64 r.d)) (p := ⟨n8, 1, none⟩) hw8 (.int .i64 r.i)) (p := ⟨n8, 2, none⟩) hw8 (.int .i64 (a : Nat))) (p := ⟨n8, 3, none⟩) hw8 (.int .i64 n)) (p := ⟨n8, 4, none⟩) hw8 (.string (s.extract lo hi1))).drew
      obtain ⟨z0, z1, z2, z3, z4⟩ := gfIn5 hZ
      have zf := hZ.frozen
      clear hZ hB
      go_region
      replace hF : gfE.In (((((W.setCell ⟨n8, 0, none⟩ (.int .i64 r.d)).setCell ⟨n8, 1, none⟩ (.int .i64 r.i)).setCell ⟨n8, 2, none⟩ (.int .i64 (a : Nat))).setCell ⟨n8, 3, none⟩ (.int .i64 n)).setCell ⟨n8, 4, none⟩ (.string (s.extract lo hi1))).drew n8 ⟨r.d, r.i, a, n, s.extract lo hi1⟩ := hF
      clear z0 z1 z2 z3 z4 zf q0 q1
      generalize (((((W.setCell ⟨n8, 0, none⟩ (.int .i64 r.d)).setCell ⟨n8, 1, none⟩ (.int .i64 r.i)).setCell ⟨n8, 2, none⟩ (.int .i64 (a : Nat))).setCell ⟨n8, 3, none⟩ (.int .i64 n)).setCell ⟨n8, 4, none⟩ (.string (s.extract lo hi1))).drew = V at *
      go_wp2_with fail
      refine El.ret2 gfRow hF rfl rfl rfl rfl #[.int .i64 r.d, .int .i64 r.i, .int .i64 (a : Nat), .int .i64 n, .string (s.extract lo hi1)] rfl ?_
      exact ⟨⟨r.d, r.i, a, n, s.extract lo hi1⟩, true, HV.out, rfl, hBF⟩
end Go.Proofs.YtfpgfclmmdihjaaGreat

/- The document's Merge of reports. -/
namespace Go.Proofs.YtfpgfclmmdihjaaGreat
open Go.RowKit Cod

theorem cutR_next {l : List Rp} {d : Int} {k : Nat} (hk : k ≤ cutR l d) (h : k < l.length) (hd : l[k].d < d) : k + 1 ≤ cutR l d := by
  rcases Nat.lt_or_ge k (cutR l d) with h1 | h1
  · exact h1
  · obtain rfl : k = cutR l d := by omega
    exact absurd hd (cutR_at l d h)
theorem cutR_here {l : List Rp} {d : Int} {k : Nat} (hk : k ≤ cutR l d) (h : k = l.length ∨ ∃ h : k < l.length, d ≤ l[k].d) : k = cutR l d := by
  rcases Nat.lt_or_ge k (cutR l d) with h1 | h1
  · rcases h with h | ⟨h, h2⟩
    · have := cutR_le l d; omega
    · have := cutR_lt l d k h h1; omega
  · omega
def RpS (n : Nat) (r : Rp) (w : World) : Prop := w.cell? ⟨n, 0, none⟩ = some (.int .i64 r.d) ∧ w.cell? ⟨n, 1, none⟩ = some (.int .i64 r.i) ∧ w.cell? ⟨n, 2, none⟩ = some (.int .i64 r.b) ∧ w.cell? ⟨n, 3, none⟩ = some (.int .i64 r.t) ∧ w.cell? ⟨n, 4, none⟩ = some (.int .i64 r.m) ∧ w.cell? ⟨n, 5, none⟩ = some (.int .i64 r.p) ∧ w.cell? ⟨n, 6, none⟩ = some (.int .i64 r.c) ∧ w.cell? ⟨n, 7, none⟩ = some (.int .i64 r.s) ∧ w.cell? ⟨n, 8, none⟩ = some (.int .i64 r.k)

end Go.Proofs.YtfpgfclmmdihjaaGreat

/- Of law 14: awake, given the program's calls. -/
namespace Go.Proofs.YtfpgfclmmdihjaaGreat
open Go.RowKit Cod

def Ra : Rp := ⟨2, 1, 3, 9, 1, 0, 0, 0, 0⟩
def Rb : Rp := ⟨2, 2, 1, 1, 2, 0, 0, 0, 0⟩
def Rx : Rp := ⟨1, 1, 0, 0, 1, 0, 0, 0, 0⟩
def Ry : Rp := ⟨0, 1, 0, 0, 0, 0, 0, 0, 0⟩
theorem ra_cells {w : World} {n : Nat} (h : rpE.In w n Ra) : (w.cell? ⟨n, 0, none⟩ = some (.int .i64 2) ∧ w.cell? ⟨n, 1, none⟩ = some (.int .i64 1) ∧ w.cell? ⟨n, 2, none⟩ = some (.int .i64 3) ∧ w.cell? ⟨n, 3, none⟩ = some (.int .i64 9) ∧ w.cell? ⟨n, 4, none⟩ = some (.int .i64 1) ∧ w.cell? ⟨n, 5, none⟩ = some (.int .i64 0) ∧ w.cell? ⟨n, 6, none⟩ = some (.int .i64 0) ∧ w.cell? ⟨n, 7, none⟩ = some (.int .i64 0) ∧ w.cell? ⟨n, 8, none⟩ = some (.int .i64 0)) := rpIn9 h
theorem rb_cells {w : World} {n : Nat} (h : rpE.In w n Rb) : (w.cell? ⟨n, 0, none⟩ = some (.int .i64 2) ∧ w.cell? ⟨n, 1, none⟩ = some (.int .i64 2) ∧ w.cell? ⟨n, 2, none⟩ = some (.int .i64 1) ∧ w.cell? ⟨n, 3, none⟩ = some (.int .i64 1) ∧ w.cell? ⟨n, 4, none⟩ = some (.int .i64 2) ∧ w.cell? ⟨n, 5, none⟩ = some (.int .i64 0) ∧ w.cell? ⟨n, 6, none⟩ = some (.int .i64 0) ∧ w.cell? ⟨n, 7, none⟩ = some (.int .i64 0) ∧ w.cell? ⟨n, 8, none⟩ = some (.int .i64 0)) := rpIn9 h
theorem x0_cell {w : World} {b o : Nat} (h : rpE.At w b o Rx) : w.cell? ⟨b, o, none⟩ = some (.int .i64 1) := (rpAt9 h).1
theorem x1_cell {w : World} {b o : Nat} (h : rpE.At w b (o + 9) Rb) : w.cell? ⟨b, o + 9 + 1, none⟩ = some (.int .i64 2) := (rpAt9 h).2.1
theorem ra_R : RpR Ra := rpB_iff.1 rfl
theorem ra_W : RpW Ra := ra_R.i64
theorem m1_eq : mergeR [] Ra = [Ra] := rfl
theorem m2_eq : mergeR [Ra] Rx = [Rx, Ra] := rfl
theorem m3_eq : mergeR [Rx, Ra] Rb = [Rx, Rb] := rfl
end Go.Proofs.YtfpgfclmmdihjaaGreat

/- Reports among the arguments, opened. -/
namespace Go.Proofs.YtfpgfclmmdihjaaGreat
open Go.ChangeShapes Go.WideShapes Go.ChangeAt Go.RowKit Go.Deep Cod

theorem cellsRp : Tryz.prog.cellsOf 24 = 9 := by kernel_rfl
set_option maxRecDepth 100000 in
theorem read_rp {H : Type} {enc : TypeId × Value → H} {W : World} {base : Nat} {sp : Nat → Bool} {held : Bool} {fuel : Nat} {cs : List Value} {x : DataW H × List MemPlace}
    (h : DataW.trod enc Tryz.prog W base sp held fuel 24 cs = some x) : ∃ r : Rp, cs = rpE.c r ∧ RpW r := by
  obtain ⟨xs, n, _, _, hl, hlen, hf⟩ := DataW.trod_struct Tryz.underlying24 h
  have hl9 : cs.length = 9 := hl.trans cellsRp
  have hl4 : xs.length = 9 := hlen
  match cs, hl9, xs, hl4 with
  | [c0, c1, c2, c3, c4, c5, c6, c7, c8], _, [y0, y1, y2, y3, y4, y5, y6, y7, y8], _ =>
    have h0 := hf 0 _ rfl
    have h1 := hf 1 _ rfl
    have h2 := hf 2 _ rfl
    have h3 := hf 3 _ rfl
    have h4 := hf 4 _ rfl
    have h5 := hf 5 _ rfl
    have h6 := hf 6 _ rfl
    have h7 := hf 7 _ rfl
    have h8 := hf 8 _ rfl
    simp [cells3] at h0 h1 h2 h3 h4 h5 h6 h7 h8
    obtain ⟨n0, e0, _, w0⟩ := DataW.trod_int Tryz.underlying3 h0
    obtain ⟨n1, e1, _, w1⟩ := DataW.trod_int Tryz.underlying3 h1
    obtain ⟨n2, e2, _, w2⟩ := DataW.trod_int Tryz.underlying3 h2
    obtain ⟨n3, e3, _, w3⟩ := DataW.trod_int Tryz.underlying3 h3
    obtain ⟨n4, e4, _, w4⟩ := DataW.trod_int Tryz.underlying3 h4
    obtain ⟨n5, e5, _, w5⟩ := DataW.trod_int Tryz.underlying3 h5
    obtain ⟨n6, e6, _, w6⟩ := DataW.trod_int Tryz.underlying3 h6
    obtain ⟨n7, e7, _, w7⟩ := DataW.trod_int Tryz.underlying3 h7
    obtain ⟨n8, e8, _, w8⟩ := DataW.trod_int Tryz.underlying3 h8
    simp at e0 e1 e2 e3 e4 e5 e6 e7 e8
    subst e0 e1 e2 e3 e4 e5 e6 e7 e8
    have b0 := bounds_i64 w0
    have b1 := bounds_i64 w1
    have b2 := bounds_i64 w2
    have b3 := bounds_i64 w3
    have b4 := bounds_i64 w4
    have b5 := bounds_i64 w5
    have b6 := bounds_i64 w6
    have b7 := bounds_i64 w7
    have b8 := bounds_i64 w8
    refine ⟨⟨n0, n1, n2, n3, n4, n5, n6, n7, n8⟩, rfl, fun n hn => ?_⟩
    simp only [rpL, List.mem_cons, List.not_mem_nil, or_false] at hn
    unfold i64
    rcases hn with rfl | rfl | rfl | rfl | rfl | rfl | rfl | rfl | rfl <;> omega
set_option maxRecDepth 100000 in
theorem open_rp {H : Type} {enc : TypeId × Value → H} {W : World} {base : Nat} {sp : Nat → Bool} {v : Value} {d : DataW H} {ps : List MemPlace}
    (hv : Value.okWide Tryz.prog W .any base 24 v) (h : DataW.Trod enc Tryz.prog W 0 sp true 24 v d ps) : ∃ r : Rp, v = .agg #[.int .i64 r.d, .int .i64 r.i, .int .i64 r.b, .int .i64 r.t, .int .i64 r.m, .int .i64 r.p, .int .i64 r.c, .int .i64 r.s, .int .i64 r.k] ∧ RpW r := by
  obtain ⟨cs, rfl, _⟩ := okWide_struct Tryz.underlying24 hv
  obtain ⟨fuel, hf⟩ := h
  obtain ⟨e, he, hw⟩ := read_rp hf
  refine ⟨e, ?_, hw⟩
  obtain ⟨l⟩ := cs
  simp [Value.cells] at he
  rw [he]
  rfl
instance : Inhabited Rp := ⟨zeroRp⟩
set_option maxRecDepth 100000 in
theorem open_rps {H : Type} {enc : TypeId × Value → H} {W : World} {base : Nat} {v : Value} {d : DataW H} {ps : List MemPlace}
    (hv : Value.okWide Tryz.prog W .any base 33 v) (h : DataW.Trod enc Tryz.prog W 0 (fun _ => true) true 33 v d ps) :
    ∃ (A : Option Addr) (cap : Nat) (l : List Rp), v = .slice A l.length cap ∧ rpE.Sl W A l ∧ l.length ≤ cap ∧ (A = none → cap = 0) ∧ ∀ r ∈ l, RpW r :=
  open_list rpE RpW Tryz.underlying33 cellsRp (fun h => read_rp h) hv h
end Go.Proofs.YtfpgfclmmdihjaaGreat
