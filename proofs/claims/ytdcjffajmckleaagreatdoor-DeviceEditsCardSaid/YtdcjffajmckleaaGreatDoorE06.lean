/- Texts laid one behind the other: Rq, Qk, Rt, Ql, Qm, Ru. -/
import Derived.Test.YtdcjffajmckleaaGreatDoorE05
import Derived.BigQuiet
import Derived.Deep.CutRange
/- The program's Tally once more: its counts lie in a block of counts. -/
namespace Go.Proofs.YtdcjffajmckleaaGreatDoor
open Go.RowKit Nam Cod Tre Pst Pln

theorem El.Own.cnt {w : World} {B n c : Nat} {A : Option Addr} {l : List Cn} (h : cnE.Own w B (.slice A n c) l) : CnT w A := fun a e => by
  unfold El.Own at h
  subst e
  rcases h.2 with ⟨h, _⟩ | ⟨g, cap, cur, h, _, hg, _⟩
  · cases h
  · injection h with h _ _
    injection h with h
    subst h
    exact ⟨cur, hg⟩

set_option maxRecDepth 100000 in
theorem cloneCnT_any (A : Option Addr) (c : Nat) (l : List Cn) (w : World) (hl : l.length ≤ 50000) (hT : SlV cnE w A c l) :
    Calls Tryz.prog 38 #[.slice A l.length c] w fun e w' => ∃ A' c', e = .returned (.slice A' l.length c') ∧ SlV cnE w' A' c' l ∧ CnT w' A' ∧ Below w.heap.size w w' := by
  obtain ⟨hT, hz, hlc⟩ := hT
  have q : ∀ (w : World) (a : Option Addr) (n c n' c' : Nat), (binOp .eql 41 (.slice a n c) (.slice none n' c')).run Tryz.prog w = .ok (.bool a.isNone) w := fun w a n c n' c' => Lib.run_eql_slice_nil w _ _ a n c n' c' Tryz.underlying41
  cases A with
  | none =>
    obtain rfl := hT.none_nil
    obtain rfl := hz rfl
    go_enter Tryz.func38, Tryz.ntmps38
    go_wp2
    go_ret
    exact ⟨none, 0, rfl, SlV.nil _ _, CnT.nil _, Below.refl _ _⟩
  | some a =>
    go_enter Tryz.func38, Tryz.ntmps38
    have hE := El.Own.empty (E := cnE) w w.heap.size (Nat.le_refl _)
    have hb0 := below_alloc (Below.refl w.heap.size w) (.cells #[] 73)
    go_wp2_with (at_builtin; refine El.wpList_app cnInn rfl _ _ rfl w.heap.size _ [] l rfl hE (some a) _ c rfl rfl (hT.below hb0) (fun e => by cases e) (by simp; omega) (by simp) ?_; intro v' w2 hown hg _)
    obtain ⟨A', c', rfl, hS⟩ := SlV.own hown
    go_wp2
    go_ret
    exact ⟨A', c', rfl, hS, El.Own.cnt hown, below_own hb0 hg (hE.rows)⟩

set_option maxRecDepth 100000 in
theorem concatCnT_any (sb : Nat) (F : Nat → List Cn) (A : Nat → Option Addr) (C : Nat → Nat) (w : World) (hcell : ∀ j, j < 3 → w.cell? ⟨sb, j, none⟩ = some (.slice (A j) (F j).length (C j)))
    (hT : ∀ j, j < 3 → cnE.Sl w (A j) (F j)) (hc : ∀ j, j < 3 → A j = none → C j = 0) (hl : (catE F 3).length ≤ 2000) (hsb : sb < w.heap.size) :
    Calls Tryz.prog 98 #[.slice (some ⟨sb, 0, none⟩) 3 3] w fun e w' => ∃ A' cap', e = .returned (.slice A' (catE F 3).length cap') ∧ SlV cnE w' A' cap' (catE F 3) ∧ CnT w' A' ∧ Below w.heap.size w w' := by
  have CG := fun n hn => growCn_any w.heap.size n w hn (Nat.le_refl _)
  have hle := fun k h => catE_le F k 3 h
  have HCL := Lib.hid hcell
  have HTT := Lib.hid hT
  have HCC := Lib.hid hc
  clear hcell hT hc
  go_enter Tryz.func98, Tryz.ntmps98
  go_wp2
  go_loop [3, 11] (fun x y => ∃ k : Nat, k ≤ 3 ∧ y = .int .i64 k ∧ x = .int .i64 (catE F k).length) (fun _ y => 3 - (intOf y).toNat)
  case atStart => exact ⟨0, Nat.zero_le _, rfl, rfl⟩
  case round =>
    obtain ⟨k, hk, rfl, rfl⟩ := hrel
    by_cases hlt : k < 3
    · have h1 := HCL.out k hlt
      have h2 := hle (k + 1) hlt
      have h3 : (catE F (k + 1)).length = (catE F k).length + (F k).length := by rw [catE, List.length_append]
      have H3 := Lib.hid h3
      have h4 : (catE F k).length + (F k).length ≤ 2000 := by omega
      generalize (catE F k).length = n at *
      generalize (F k).length = m at *
      clear h3
      go_wp2
      go_round
      case rel => exact ⟨k + 1, by omega, by go_num, by rw [H3.out]; go_num⟩
      case measure => simp [intOf]; omega
    · obtain rfl : k = 3 := by omega
      have CG := CG _ hl
      go_wp2_with fail
      refine CG.mono ?_
      rintro e w1 ⟨v, rfl, hown, hb1⟩
      clear CG
      go_wp2
      go_loopw [6, 27] (fun x y wr => ∃ (k : Nat) (v : Value), k ≤ 3 ∧ y = .int .i64 k ∧ x = v ∧ cnE.Own wr w.heap.size v (catE F k) ∧ Below w.heap.size w wr) (fun _ y _ => 3 - (intOf y).toNat)
      case atStart => exact ⟨0, v, Nat.zero_le _, rfl, rfl, hown, hb1⟩
      case round =>
        clear hown hb1
        obtain ⟨k, v, hk, rfl, rfl, hown, hnx⟩ := hrel
        by_cases hlt : k < 3
        · have h1 := HCL.out k hlt
          rw [← (bcell hnx).1 _ _ hsb] at h1
          have h2 := hle (k + 1) hlt
          have h3 : (catE F (k + 1)).length = (catE F k).length + (F k).length := by rw [catE, List.length_append]
          have hTk := (HTT.out k hlt).below hnx
          have hck := HCC.out k hlt
          have hB := hnx.size
          go_wp2_with (at_builtin; refine El.wpList_app cnInn rfl _ _ rfl w.heap.size _ (catE F k) (F k) rfl hown (A k) _ (C k) rfl rfl hTk hck (by omega) hB ?_; intro v' w2 hown2 hg2 _)
          go_roundw
          case rel => exact ⟨k + 1, v', by omega, by go_num, rfl, hown2, hnx.grown hg2 hB (fun j hj => (hown).rows j hj)⟩
          case measure => simp [intOf]; omega
        · obtain rfl : k = 3 := by omega
          obtain ⟨A', cap', rfl, hS⟩ := SlV.own hown
          go_wp2
          go_ret
          exact ⟨A', cap', rfl, hS, El.Own.cnt hown, hnx⟩
set_option maxRecDepth 100000 in
set_option maxHeartbeats 2000000 in
theorem countedT_any (A : Option Addr) (cap : Nat) (l : List Cn) (c : Cn) (w : World) (hl : l.length ≤ 1000) (hT : SlV cnE w A cap l) :
    Calls Tryz.prog 66 #[.slice A l.length cap, .agg #[.int .i64 c.d, .int .i64 c.i, .int .i64 c.n]] w fun r w' => ∃ A' c', r = .returned (.slice A' (putC l c).length c') ∧ SlV cnE w' A' c' (putC l c) ∧ CnT w' A' ∧ Below w.heap.size w w' := by
  obtain ⟨hT, hz, hlc⟩ := hT
  have hP : cnE.In (w.alloc (.cells #[.int .i64 c.d, .int .i64 c.i, .int .i64 c.n] 73)) w.heap.size c := El.In.new (E := cnE) w c _ rfl
  have hB := below_alloc (Below.refl w.heap.size w) (.cells #[.int .i64 c.d, .int .i64 c.i, .int .i64 c.n] 73)
  have CP := place_any A cap l c.d (w.alloc (.cells #[.int .i64 c.d, .int .i64 c.i, .int .i64 c.n] 73)) hl (hT.below hB)
  have hkl := cutC_le l c.d
  go_enter Tryz.func66, Tryz.ntmps66
  go_wp2_with fail
  refine CP.mono ?_
  rintro r w1 ⟨rfl, hb1⟩
  clear CP
  replace hP := hP.below hb1
  replace hB := hB.trans (hb1.mono hB.size)
  clear hb1
  obtain ⟨k, hk⟩ : ∃ k, cutC l c.d = k := ⟨_, rfl⟩
  rw [hk] at hkl ⊢
  have HK := Lib.hid hk.symm
  clear hk
  obtain ⟨q0, q1, q2⟩ := cnIn3 hP
  by_cases h : k < l.length
  · obtain ⟨b, off, hA, hbw, hc⟩ := hT (by omega)
    have hat : cnE.At w1 b (off + k * 3) l[k] := (hc k h).below hB hbw
    have hx : ∀ w, (Instr.indexAt 41 (.slice A l.length cap) (.int .i64 k)).run Tryz.prog w = .ok (.pointer (some ⟨b, off + k * 3, none⟩)) w := fun w => by
      subst hA
      have h2 : (k : Int) < (l.length : Int) := by omega
      go_simp
    obtain ⟨s0, s1, s2⟩ := cnAt3 hat
    have hki : (k : Int) < (l.length : Int) := by omega
    have hkd : decide ((k : Int) < (l.length : Int)) = true := decide_eq_true hki
    by_cases he : l[k].d = c.d
    · have HTO := Lib.hid (putC_yes HK.out h rfl he)
      have f1 : (l[k].d == c.d) = true := beq_iff_eq.2 he
      obtain ⟨A3, hA3⟩ : ∃ A3, (if cap = k + 1 then A else Option.map (fun x => x.add ((k + 1) * 3)) A) = A3 := ⟨_, rfl⟩
      have hT3 := hT.drop hlc hA3
      have hz3 := El.drop_none hz hA3
      have g0 : (0 : Int) ≤ (k : Int) := by omega
      have g1 : (k : Int) ≤ (cap : Int) := by omega
      have g2 : (k : Int) ≤ (l.length : Int) := by omega
      have g3 : (k : Int) + 1 ≤ (cap : Int) + 1 := by omega
      have g4 : (0 : Int) ≤ (k : Int) + 1 := by omega
      have g5 : (k : Int) + 1 ≤ (l.length : Int) := by omega
      have g6 : (k : Int) + 1 ≤ (cap : Int) := by omega
      have g7 : IntKind.i64.wrap ((k : Int) + 1) = (k : Int) + 1 := by rw [IntKind.wrap_i64]; omega
      clear hc hat hA he
      generalize l[k].d = x0 at *
      go_wp2_with fail
      go_quiet (fail)
      clear f1 q0 q1 q2 s0 s1 s2 hx
      have hB := below_drew hB nq
      replace hP : cnE.In (w1.drewN nq) w.heap.size c := hP
      go_wp2_with fail
      generalize w1.drewN nq = V at *
      have HE1 := Lib.hid (show (l.take k).length = k by rw [List.length_take]; omega)
      have HE3 := Lib.hid (show (l.drop (k + 1)).length = l.length - (k + 1) by simp only [List.length_drop]; try omega)
      have HLN := Lib.hid (show ((([] ++ l.take k) ++ [c]) ++ l.drop (k + 1)).length ≤ 2000 by simp only [List.length_append, List.length_nil, List.length_singleton, HE1.out, HE3.out]; omega)
      have htk := (hT.take k).below hB
      have ht3 := hT3.below hB
      generalize l.take k = L1 at *
      generalize l.drop (k + 1) = L3 at *
      have hBw : Below V.heap.size V ((V.alloc (.cells #[.int .i64 c.d, .int .i64 c.i, .int .i64 c.n] 73)).alloc (.cells #[.slice A k cap, .slice (some ⟨V.heap.size, 0, none⟩) 1 1, .slice A3 (l.length - (k + 1)) (cap - (k + 1))] 41)).drew := (below_alloc (below_alloc (Below.refl _ _) _) _).drew
      have hone : cnE.Sl ((V.alloc (.cells #[.int .i64 c.d, .int .i64 c.i, .int .i64 c.n] 73)).alloc (.cells #[.slice A k cap, .slice (some ⟨V.heap.size, 0, none⟩) 1 1, .slice A3 (l.length - (k + 1)) (cap - (k + 1))] 41)).drew (some ⟨V.heap.size, 0, none⟩) [c] := ((El.In.new (E := cnE) V c #[.int .i64 c.d, .int .i64 c.i, .int .i64 c.n] rfl).alloc _).sl
      have CC := concatCnT_any (V.heap.size + 1) (pickC L1 [c] L3) (pickC A (some ⟨V.heap.size, 0, none⟩) A3) (pickC cap 1 (cap - (k + 1))) ((V.alloc (.cells #[.int .i64 c.d, .int .i64 c.i, .int .i64 c.n] 73)).alloc (.cells #[.slice A k cap, .slice (some ⟨V.heap.size, 0, none⟩) 1 1, .slice A3 (l.length - (k + 1)) (cap - (k + 1))] 41)).drew
        (fun j hj => by
          match j, hj with
          | 0, _ => show _ = some (Value.slice A L1.length cap); rw [HE1.out]; go_simp
          | 1, _ => show _ = some (Value.slice (some ⟨V.heap.size, 0, none⟩) 1 1); go_simp
          | 2, _ => show _ = some (Value.slice A3 L3.length (cap - (k + 1))); rw [HE3.out]; go_simp)
        (fun j hj => by
          match j, hj with
          | 0, _ => exact htk.below hBw
          | 1, _ => exact hone
          | 2, _ => exact ht3.below hBw)
        (fun j hj => by
          match j, hj with
          | 0, _ => exact hz
          | 1, _ => intro e; cases e
          | 2, _ => exact hz3)
        HLN.out
        (by simp)
      have ecat : catE (pickC L1 [c] L3) 3 = putC l c := by
        show (([] ++ L1) ++ [c]) ++ L3 = putC l c
        rw [HTO.out, List.nil_append]
      rw [ecat] at CC
      have HCC := Lib.hid CC
      clear CC ecat hone htk ht3 HTO HLN HE1 HE3 hT hT3 hz hz3 hlc hl
      obtain ⟨nc, hnc⟩ : ∃ n, w.heap.size = n := ⟨_, rfl⟩
      rw [hnc] at hP ⊢
      clear hnc
      have hPa : cnE.In (V.alloc (.cells #[.int .i64 c.d, .int .i64 c.i, .int .i64 c.n] 73)).drew nc c := hP.alloc (.cells #[.int .i64 c.d, .int .i64 c.i, .int .i64 c.n] 73)
      have hPb : cnE.In ((V.alloc (.cells #[.int .i64 c.d, .int .i64 c.i, .int .i64 c.n] 73)).alloc (.cells #[.slice A k cap, .slice (some ⟨V.heap.size, 0, none⟩) 1 1, .slice A3 (l.length - (k + 1)) (cap - (k + 1))] 41)).drew nc c := (hP.alloc (.cells #[.int .i64 c.d, .int .i64 c.i, .int .i64 c.n] 73)).alloc (.cells #[.slice A k cap, .slice (some ⟨V.heap.size, 0, none⟩) 1 1, .slice A3 (l.length - (k + 1)) (cap - (k + 1))] 41)
      have hP0 := hP
      replace hP : cnE.In V.drew nc c := hP
      go_region_held3 (fun w' => w'.cell? ⟨nc, 0, none⟩ = some (.int .i64 c.d) ∧ w'.cell? ⟨nc, 1, none⟩ = some (.int .i64 c.i) ∧ w'.cell? ⟨nc, 2, none⟩ = some (.int .i64 c.n)) (with_reducible first | exact cnIn3 hP | exact cnIn3 hPa | exact cnIn3 hPb | exact cnIn3 hP4) (first | (go_at_call 98; (with_reducible refine HCC.out.mono ?_); rintro e W4 ⟨A8, c8, rfl, hS8, hf8, hb8⟩; have hb48 := hBw.trans (hb8.mono hBw.size); have hP4 := hP0.below hb48))
      replace hB := hB.trans (hb48.mono hB.size)
      clear hP0 hPa hPb hP4 HCC hBw hb8 hP hb48
      go_wp2_with fail
      go_ret
      exact ⟨A8, c8, rfl, hS8, hf8, hB⟩
    · have HTO := Lib.hid (putC_no HK.out (Or.inr ⟨h, he⟩))
      have f1 : (l[k].d == c.d) = false := beq_eq_false_iff_ne.2 he
      obtain ⟨A3, hA3⟩ : ∃ A3, (if cap = k then A else Option.map (fun x => x.add ((k) * 3)) A) = A3 := ⟨_, rfl⟩
      have hT3 := hT.drop hlc hA3
      have hz3 := El.drop_none hz hA3
      have g0 : (0 : Int) ≤ (k : Int) := by omega
      have g1 : (k : Int) ≤ (cap : Int) := by omega
      have g2 : (k : Int) ≤ (l.length : Int) := by omega
      have g3 : (k : Int) + 1 ≤ (cap : Int) + 1 := by omega
      clear hc hat hA he
      generalize l[k].d = x0 at *
      go_wp2_with fail
      go_quiet (fail)
      clear f1 q0 q1 q2 s0 s1 s2 hx
      have hB := below_drew hB nq
      replace hP : cnE.In (w1.drewN nq) w.heap.size c := hP
      go_wp2_with fail
      generalize w1.drewN nq = V at *
      have HE1 := Lib.hid (show (l.take k).length = k by rw [List.length_take]; omega)
      have HE3 := Lib.hid (show (l.drop (k)).length = l.length - k by simp only [List.length_drop]; try omega)
      have HLN := Lib.hid (show ((([] ++ l.take k) ++ [c]) ++ l.drop (k)).length ≤ 2000 by simp only [List.length_append, List.length_nil, List.length_singleton, HE1.out, HE3.out]; omega)
      have htk := (hT.take k).below hB
      have ht3 := hT3.below hB
      generalize l.take k = L1 at *
      generalize l.drop (k) = L3 at *
      have hBw : Below V.heap.size V ((V.alloc (.cells #[.int .i64 c.d, .int .i64 c.i, .int .i64 c.n] 73)).alloc (.cells #[.slice A k cap, .slice (some ⟨V.heap.size, 0, none⟩) 1 1, .slice A3 (l.length - k) (cap - k)] 41)).drew := (below_alloc (below_alloc (Below.refl _ _) _) _).drew
      have hone : cnE.Sl ((V.alloc (.cells #[.int .i64 c.d, .int .i64 c.i, .int .i64 c.n] 73)).alloc (.cells #[.slice A k cap, .slice (some ⟨V.heap.size, 0, none⟩) 1 1, .slice A3 (l.length - k) (cap - k)] 41)).drew (some ⟨V.heap.size, 0, none⟩) [c] := ((El.In.new (E := cnE) V c #[.int .i64 c.d, .int .i64 c.i, .int .i64 c.n] rfl).alloc _).sl
      have CC := concatCnT_any (V.heap.size + 1) (pickC L1 [c] L3) (pickC A (some ⟨V.heap.size, 0, none⟩) A3) (pickC cap 1 (cap - k)) ((V.alloc (.cells #[.int .i64 c.d, .int .i64 c.i, .int .i64 c.n] 73)).alloc (.cells #[.slice A k cap, .slice (some ⟨V.heap.size, 0, none⟩) 1 1, .slice A3 (l.length - k) (cap - k)] 41)).drew
        (fun j hj => by
          match j, hj with
          | 0, _ => show _ = some (Value.slice A L1.length cap); rw [HE1.out]; go_simp
          | 1, _ => show _ = some (Value.slice (some ⟨V.heap.size, 0, none⟩) 1 1); go_simp
          | 2, _ => show _ = some (Value.slice A3 L3.length (cap - k)); rw [HE3.out]; go_simp)
        (fun j hj => by
          match j, hj with
          | 0, _ => exact htk.below hBw
          | 1, _ => exact hone
          | 2, _ => exact ht3.below hBw)
        (fun j hj => by
          match j, hj with
          | 0, _ => exact hz
          | 1, _ => intro e; cases e
          | 2, _ => exact hz3)
        HLN.out
        (by simp)
      have ecat : catE (pickC L1 [c] L3) 3 = putC l c := by
        show (([] ++ L1) ++ [c]) ++ L3 = putC l c
        rw [HTO.out, List.nil_append]
      rw [ecat] at CC
      have HCC := Lib.hid CC
      clear CC ecat hone htk ht3 HTO HLN HE1 HE3 hT hT3 hz hz3 hlc hl
      obtain ⟨nc, hnc⟩ : ∃ n, w.heap.size = n := ⟨_, rfl⟩
      rw [hnc] at hP ⊢
      clear hnc
      have hPa : cnE.In (V.alloc (.cells #[.int .i64 c.d, .int .i64 c.i, .int .i64 c.n] 73)).drew nc c := hP.alloc (.cells #[.int .i64 c.d, .int .i64 c.i, .int .i64 c.n] 73)
      have hPb : cnE.In ((V.alloc (.cells #[.int .i64 c.d, .int .i64 c.i, .int .i64 c.n] 73)).alloc (.cells #[.slice A k cap, .slice (some ⟨V.heap.size, 0, none⟩) 1 1, .slice A3 (l.length - k) (cap - k)] 41)).drew nc c := (hP.alloc (.cells #[.int .i64 c.d, .int .i64 c.i, .int .i64 c.n] 73)).alloc (.cells #[.slice A k cap, .slice (some ⟨V.heap.size, 0, none⟩) 1 1, .slice A3 (l.length - k) (cap - k)] 41)
      have hP0 := hP
      replace hP : cnE.In V.drew nc c := hP
      go_region_held3 (fun w' => w'.cell? ⟨nc, 0, none⟩ = some (.int .i64 c.d) ∧ w'.cell? ⟨nc, 1, none⟩ = some (.int .i64 c.i) ∧ w'.cell? ⟨nc, 2, none⟩ = some (.int .i64 c.n)) (with_reducible first | exact cnIn3 hP | exact cnIn3 hPa | exact cnIn3 hPb | exact cnIn3 hP4) (first | (go_at_call 98; (with_reducible refine HCC.out.mono ?_); rintro e W4 ⟨A8, c8, rfl, hS8, hf8, hb8⟩; have hb48 := hBw.trans (hb8.mono hBw.size); have hP4 := hP0.below hb48))
      replace hB := hB.trans (hb48.mono hB.size)
      clear hP0 hPa hPb hP4 HCC hBw hb8 hP hb48
      go_wp2_with fail
      go_ret
      exact ⟨A8, c8, rfl, hS8, hf8, hB⟩
  · have hke : k = l.length := by omega
    have HTO := Lib.hid (putC_no HK.out (Or.inl hke))
    obtain ⟨A3, hA3⟩ : ∃ A3, (if cap = k then A else Option.map (fun x => x.add ((k) * 3)) A) = A3 := ⟨_, rfl⟩
    have hT3 := hT.drop hlc hA3
    have hz3 := El.drop_none hz hA3
    have g0 : (0 : Int) ≤ (k : Int) := by omega
    have g1 : (k : Int) ≤ (cap : Int) := by omega
    have g2 : (k : Int) ≤ (l.length : Int) := by omega
    have g3 : (k : Int) + 1 ≤ (cap : Int) + 1 := by omega
    have hkd : decide ((k : Int) < (l.length : Int)) = false := decide_eq_false (by omega)
    have hkd2 : decide (k < l.length) = false := decide_eq_false (by omega)
    clear hke h
    go_wp2_with fail
    go_quiet (fail)
    clear q0 q1 q2
    have hB := below_drew hB nq
    replace hP : cnE.In (w1.drewN nq) w.heap.size c := hP
    go_wp2_with fail
    generalize w1.drewN nq = V at *
    have HE1 := Lib.hid (show (l.take k).length = k by rw [List.length_take]; omega)
    have HE3 := Lib.hid (show (l.drop (k)).length = l.length - k by simp only [List.length_drop]; try omega)
    have HLN := Lib.hid (show ((([] ++ l.take k) ++ [c]) ++ l.drop (k)).length ≤ 2000 by simp only [List.length_append, List.length_nil, List.length_singleton, HE1.out, HE3.out]; omega)
    have htk := (hT.take k).below hB
    have ht3 := hT3.below hB
    generalize l.take k = L1 at *
    generalize l.drop (k) = L3 at *
    have hBw : Below V.heap.size V ((V.alloc (.cells #[.int .i64 c.d, .int .i64 c.i, .int .i64 c.n] 73)).alloc (.cells #[.slice A k cap, .slice (some ⟨V.heap.size, 0, none⟩) 1 1, .slice A3 (l.length - k) (cap - k)] 41)).drew := (below_alloc (below_alloc (Below.refl _ _) _) _).drew
    have hone : cnE.Sl ((V.alloc (.cells #[.int .i64 c.d, .int .i64 c.i, .int .i64 c.n] 73)).alloc (.cells #[.slice A k cap, .slice (some ⟨V.heap.size, 0, none⟩) 1 1, .slice A3 (l.length - k) (cap - k)] 41)).drew (some ⟨V.heap.size, 0, none⟩) [c] := ((El.In.new (E := cnE) V c #[.int .i64 c.d, .int .i64 c.i, .int .i64 c.n] rfl).alloc _).sl
    have CC := concatCnT_any (V.heap.size + 1) (pickC L1 [c] L3) (pickC A (some ⟨V.heap.size, 0, none⟩) A3) (pickC cap 1 (cap - k)) ((V.alloc (.cells #[.int .i64 c.d, .int .i64 c.i, .int .i64 c.n] 73)).alloc (.cells #[.slice A k cap, .slice (some ⟨V.heap.size, 0, none⟩) 1 1, .slice A3 (l.length - k) (cap - k)] 41)).drew
      (fun j hj => by
        match j, hj with
        | 0, _ => show _ = some (Value.slice A L1.length cap); rw [HE1.out]; go_simp
        | 1, _ => show _ = some (Value.slice (some ⟨V.heap.size, 0, none⟩) 1 1); go_simp
        | 2, _ => show _ = some (Value.slice A3 L3.length (cap - k)); rw [HE3.out]; go_simp)
      (fun j hj => by
        match j, hj with
        | 0, _ => exact htk.below hBw
        | 1, _ => exact hone
        | 2, _ => exact ht3.below hBw)
      (fun j hj => by
        match j, hj with
        | 0, _ => exact hz
        | 1, _ => intro e; cases e
        | 2, _ => exact hz3)
      HLN.out
      (by simp)
    have ecat : catE (pickC L1 [c] L3) 3 = putC l c := by
      show (([] ++ L1) ++ [c]) ++ L3 = putC l c
      rw [HTO.out, List.nil_append]
    rw [ecat] at CC
    have HCC := Lib.hid CC
    clear CC ecat hone htk ht3 HTO HLN HE1 HE3 hT hT3 hz hz3 hlc hl
    obtain ⟨nc, hnc⟩ : ∃ n, w.heap.size = n := ⟨_, rfl⟩
    rw [hnc] at hP ⊢
    clear hnc
    have hPa : cnE.In (V.alloc (.cells #[.int .i64 c.d, .int .i64 c.i, .int .i64 c.n] 73)).drew nc c := hP.alloc (.cells #[.int .i64 c.d, .int .i64 c.i, .int .i64 c.n] 73)
    have hPb : cnE.In ((V.alloc (.cells #[.int .i64 c.d, .int .i64 c.i, .int .i64 c.n] 73)).alloc (.cells #[.slice A k cap, .slice (some ⟨V.heap.size, 0, none⟩) 1 1, .slice A3 (l.length - k) (cap - k)] 41)).drew nc c := (hP.alloc (.cells #[.int .i64 c.d, .int .i64 c.i, .int .i64 c.n] 73)).alloc (.cells #[.slice A k cap, .slice (some ⟨V.heap.size, 0, none⟩) 1 1, .slice A3 (l.length - k) (cap - k)] 41)
    have hP0 := hP
    replace hP : cnE.In V.drew nc c := hP
    go_region_held3 (fun w' => w'.cell? ⟨nc, 0, none⟩ = some (.int .i64 c.d) ∧ w'.cell? ⟨nc, 1, none⟩ = some (.int .i64 c.i) ∧ w'.cell? ⟨nc, 2, none⟩ = some (.int .i64 c.n)) (with_reducible first | exact cnIn3 hP | exact cnIn3 hPa | exact cnIn3 hPb | exact cnIn3 hP4) (first | (go_at_call 98; (with_reducible refine HCC.out.mono ?_); rintro e W4 ⟨A8, c8, rfl, hS8, hf8, hb8⟩; have hb48 := hBw.trans (hb8.mono hBw.size); have hP4 := hP0.below hb48))
    replace hB := hB.trans (hb48.mono hB.size)
    clear hP0 hPa hPb hP4 HCC hBw hb8 hP hb48
    go_wp2_with fail
    go_ret
    exact ⟨A8, c8, rfl, hS8, hf8, hB⟩

set_option maxRecDepth 100000 in
set_option maxHeartbeats 2000000 in
theorem tallyT_none (A : Option Addr) (cap : Nat) (l : List Cn) (e : En) (w : World) (hl : l.length ≤ 1000) (hT : SlV cnE w A cap l) (h1 : ¬ e.k = 1) (h3 : ¬ e.k = 3) :
    Calls Tryz.prog 39 #[.slice A l.length cap, .agg #[.int .i64 e.k, .int .i64 e.d, .int .i64 e.i, .int .i64 e.o.C, .int .i64 e.o.D, .int .i64 e.o.I, .int .i64 e.o.M, .int .i64 e.o.K, .int .i64 e.o.U, .string e.o.s]] w fun r w' => ∃ A' c', r = .returned (.slice A' l.length c') ∧ SlV cnE w' A' c' l ∧ CnT w' A' ∧ Below w.heap.size w w' := by
  have hP : enE.In (w.alloc (.cells #[.int .i64 e.k, .int .i64 e.d, .int .i64 e.i, .int .i64 e.o.C, .int .i64 e.o.D, .int .i64 e.o.I, .int .i64 e.o.M, .int .i64 e.o.K, .int .i64 e.o.U, .string e.o.s] 60)) w.heap.size e := El.In.new (E := enE) w e _ rfl
  have hB := below_alloc (Below.refl w.heap.size w) (.cells #[.int .i64 e.k, .int .i64 e.d, .int .i64 e.i, .int .i64 e.o.C, .int .i64 e.o.D, .int .i64 e.o.I, .int .i64 e.o.M, .int .i64 e.o.K, .int .i64 e.o.U, .string e.o.s] 60)
  obtain ⟨p0, p1, p2, p3, p4, p5, p6, p7, p8, p9⟩ := enIn10 hP
  have e1 : (e.k == 1) = false := beq_eq_false_iff_ne.2 h1
  have e3 : (e.k == 3) = false := beq_eq_false_iff_ne.2 h3
  have C := Lib.hid (fun w' (hb : Below w.heap.size w w') => cloneCnT_any A cap l w' (by omega) ⟨hT.1.below hb, hT.2⟩)
  clear h1 h3 hP hT
  go_enter Tryz.func39, Tryz.ntmps39
  go_wp2_with fail
  refine (C.out _ hB).mono ?_
  rintro r w2 ⟨A', c', rfl, hS, hct, hb2⟩
  replace hB := hB.trans (hb2.mono hB.size)
  clear hb2 C
  go_wp2_with fail
  go_ret
  exact ⟨A', c', rfl, hS, hct, hB⟩
set_option maxRecDepth 100000 in
set_option maxHeartbeats 2000000 in
theorem tallyT_some (A : Option Addr) (cap : Nat) (l : List Cn) (e : En) (c : Cn) (w : World) (hl : l.length ≤ 1000) (hT : SlV cnE w A cap l) (h : (e.k = 1 ∧ c = ⟨e.o.D, e.o.I, e.o.M⟩) ∨ (e.k = 3 ∧ c = ⟨e.d, e.i, 0⟩)) :
    Calls Tryz.prog 39 #[.slice A l.length cap, .agg #[.int .i64 e.k, .int .i64 e.d, .int .i64 e.i, .int .i64 e.o.C, .int .i64 e.o.D, .int .i64 e.o.I, .int .i64 e.o.M, .int .i64 e.o.K, .int .i64 e.o.U, .string e.o.s]] w fun r w' => ∃ A' c', r = .returned (.slice A' (putC l c).length c') ∧ SlV cnE w' A' c' (putC l c) ∧ CnT w' A' ∧ Below w.heap.size w w' := by
  have hP : enE.In (w.alloc (.cells #[.int .i64 e.k, .int .i64 e.d, .int .i64 e.i, .int .i64 e.o.C, .int .i64 e.o.D, .int .i64 e.o.I, .int .i64 e.o.M, .int .i64 e.o.K, .int .i64 e.o.U, .string e.o.s] 60)) w.heap.size e := El.In.new (E := enE) w e _ rfl
  have hB := below_alloc (Below.refl w.heap.size w) (.cells #[.int .i64 e.k, .int .i64 e.d, .int .i64 e.i, .int .i64 e.o.C, .int .i64 e.o.D, .int .i64 e.o.I, .int .i64 e.o.M, .int .i64 e.o.K, .int .i64 e.o.U, .string e.o.s] 60)
  obtain ⟨p0, p1, p2, p3, p4, p5, p6, p7, p8, p9⟩ := enIn10 hP
  have C := (fun w' (hb : Below w.heap.size w w') => countedT_any A cap l c w' hl ⟨hT.1.below hb, hT.2⟩)
  clear hP hT
  rcases h with ⟨h1, rfl⟩ | ⟨h1, rfl⟩
  · replace C := Lib.hid C
    have e1 : (e.k == 1) = true := beq_iff_eq.2 h1
    clear h1
    generalize putC l ⟨e.o.D, e.o.I, e.o.M⟩ = R at *
    go_enter Tryz.func39, Tryz.ntmps39
    go_wp2_with fail
    refine (C.out _ hB).mono ?_
    rintro r w2 ⟨A', c', rfl, hS, hct, hb2⟩
    replace hB := hB.trans (hb2.mono hB.size)
    clear hb2 C
    go_wp2_with fail
    go_ret
    exact ⟨A', c', rfl, hS, hct, hB⟩
  · replace C := Lib.hid C
    have e1 : (e.k == 1) = false := beq_eq_false_iff_ne.2 (by omega)
    have e3 : (e.k == 3) = true := beq_iff_eq.2 h1
    clear h1
    generalize putC l ⟨e.d, e.i, 0⟩ = R at *
    go_enter Tryz.func39, Tryz.ntmps39
    go_wp2_with fail
    refine (C.out _ hB).mono ?_
    rintro r w2 ⟨A', c', rfl, hS, hct, hb2⟩
    replace hB := hB.trans (hb2.mono hB.size)
    clear hb2 C
    go_wp2_with fail
    go_ret
    exact ⟨A', c', rfl, hS, hct, hB⟩
theorem tallyT_any (A : Option Addr) (c : Nat) (l : List Cn) (e : En) (w : World) (hl : l.length ≤ 1000) (hT : SlV cnE w A c l) : Calls Tryz.prog 39 #[.slice A l.length c, .agg #[.int .i64 e.k, .int .i64 e.d, .int .i64 e.i, .int .i64 e.o.C, .int .i64 e.o.D, .int .i64 e.o.I, .int .i64 e.o.M, .int .i64 e.o.K, .int .i64 e.o.U, .string e.o.s]] w fun r w' => ∃ A' c', r = .returned (.slice A' (tally l e).length c') ∧ SlV cnE w' A' c' (tally l e) ∧ CnT w' A' ∧ Below w.heap.size w w' := by
  by_cases h1 : e.k = 1
  · have hv : tally l e = putC l ⟨e.o.D, e.o.I, e.o.M⟩ := by unfold tally cntOf; rw [if_pos h1]
    rw [hv]
    exact tallyT_some A c l e _ w hl hT (Or.inl ⟨h1, rfl⟩)
  · by_cases h3 : e.k = 3
    · have hv : tally l e = putC l ⟨e.d, e.i, 0⟩ := by unfold tally cntOf; rw [if_neg h1, if_pos h3]
      rw [hv]
      exact tallyT_some A c l e _ w hl hT (Or.inr ⟨h3, rfl⟩)
    · have hv : tally l e = l := by unfold tally cntOf; rw [if_neg h1, if_neg h3]
      rw [hv]
      exact tallyT_none A c l e w hl hT h1 h3
end Go.Proofs.YtdcjffajmckleaaGreatDoor

/- The program's queues: Grow, Concat of operations; New, Right. -/
namespace Go.Proofs.YtdcjffajmckleaaGreatDoor
open Go.RowKit Nam Cod

set_option maxRecDepth 100000 in
theorem infoQ2 : (Tryz.prog.info? 55).map (fun i => (i.zero, i.size, i.bytes)) = some (some (.agg #[.int .i64 0, .int .i64 0, .int .i64 0, .int .i64 0, .int .i64 0, .int .i64 0, .string ⟨#[]⟩]), 7, 64) := by kernel_rfl
set_option maxRecDepth 100000 in
theorem growQ2_any (B n : Nat) (w : World) (hn : n ≤ 60000) (hB : B ≤ w.heap.size) :
    Calls Tryz.prog 83 #[.slice none 0 0, .int .i64 n] w fun e w' => ∃ v, e = .returned v ∧ opE.Own w' B v [] ∧ Below w.heap.size w w' := by
  by_cases h0 : n = 0
  · subst h0
    go_enter Tryz.func83, Tryz.ntmps83
    go_wp2
    go_ret
    exact ⟨_, rfl, El.Own.nil _ B, Below.refl _ _⟩
  · obtain ⟨i, hi, hz, hz1, hz2⟩ := info_parts infoQ2
    have hr := fun ty => Lib.run_append_nil_zeros (P := Tryz.prog) w 31 3 ty 55 i _ .i64 .i64 Tryz.underlying31 Tryz.underlying3 hi hz n (by omega) (by omega) (by omega) (by rw [hz2]; omega)
    have hg1 : n ≤ grownCap w n 0 55 := grownCap_ge w n 0 _
    have hg2 : grownCap w n 0 55 ≤ maxLen := grownCap_le_maxLen w n 0 55 (by unfold maxLen; omega)
    have hown : opE.Own (w.drew.alloc (.cells (Builtin.zeroCells (Value.agg #[.int .i64 0, .int .i64 0, .int .i64 0, .int .i64 0, .int .i64 0, .int .i64 0, .string ⟨#[]⟩]).cells n ++ Builtin.zeroCells (Value.agg #[.int .i64 0, .int .i64 0, .int .i64 0, .int .i64 0, .int .i64 0, .int .i64 0, .string ⟨#[]⟩]).cells (grownCap w n 0 55 - n)) 55)) B (.slice (some ⟨w.heap.size, 0, none⟩) 0 (grownCap w n 0 55)) [] := by
      refine World.ownsRow_made w.drew _ (grownCap w n 0 55) hB hg2 ?_
      rw [Array.size_append, size_zeroCells, size_zeroCells]
      show n * 7 + (grownCap w n 0 55 - n) * 7 = _ * 7
      omega
    have hnx : Below w.heap.size w (w.drew.alloc (.cells (Builtin.zeroCells (Value.agg #[.int .i64 0, .int .i64 0, .int .i64 0, .int .i64 0, .int .i64 0, .int .i64 0, .string ⟨#[]⟩]).cells n ++ Builtin.zeroCells (Value.agg #[.int .i64 0, .int .i64 0, .int .i64 0, .int .i64 0, .int .i64 0, .int .i64 0, .string ⟨#[]⟩]).cells (grownCap w n 0 55 - n)) 55)) := below_alloc (Below.refl _ w).drew _
    generalize grownCap w n 0 55 = cap at *
    generalize w.drew.alloc (.cells (Builtin.zeroCells (Value.agg #[.int .i64 0, .int .i64 0, .int .i64 0, .int .i64 0, .int .i64 0, .int .i64 0, .string ⟨#[]⟩]).cells n ++ Builtin.zeroCells (Value.agg #[.int .i64 0, .int .i64 0, .int .i64 0, .int .i64 0, .int .i64 0, .int .i64 0, .string ⟨#[]⟩]).cells (cap - n)) 55) = W at *
    go_enter Tryz.func83, Tryz.ntmps83
    go_wp2_with (at_builtin; refine Lib.wpList_append_run _ rfl _ _ 31 3 rfl _ _ rfl rfl _ _ (hr _) ?_)
    go_wp2
    go_ret
    exact ⟨_, rfl, hown, hnx⟩

set_option maxRecDepth 100000 in
theorem concatQ2_any (sb : Nat) (F : Nat → List Mv) (A : Nat → Option Addr) (C : Nat → Nat) (w : World) (hcell : ∀ j, j < 2 → w.cell? ⟨sb, j, none⟩ = some (.slice (A j) (F j).length (C j)))
    (hT : ∀ j, j < 2 → opE.Sl w (A j) (F j)) (hc : ∀ j, j < 2 → A j = none → C j = 0) (hl : (catE F 2).length ≤ 60000) (hsb : sb < w.heap.size) :
    Calls Tryz.prog 51 #[.slice (some ⟨sb, 0, none⟩) 2 2] w fun e w' => ∃ A' cap', e = .returned (.slice A' (catE F 2).length cap') ∧ SlV opE w' A' cap' (catE F 2) ∧ Frs w.heap.size A' ∧ Below w.heap.size w w' := by
  have CG := fun n hn => growQ2_any w.heap.size n w hn (Nat.le_refl _)
  have hle := fun k h => catE_le F k 2 h
  have HCL := Lib.hid hcell
  have HTT := Lib.hid hT
  have HCC := Lib.hid hc
  clear hcell hT hc
  go_enter Tryz.func51, Tryz.ntmps51
  go_wp2
  go_loop [3, 11] (fun x y => ∃ k : Nat, k ≤ 2 ∧ y = .int .i64 k ∧ x = .int .i64 (catE F k).length) (fun _ y => 2 - (intOf y).toNat)
  case atStart => exact ⟨0, Nat.zero_le _, rfl, rfl⟩
  case round =>
    obtain ⟨k, hk, rfl, rfl⟩ := hrel
    by_cases hlt : k < 2
    · have h1 := HCL.out k hlt
      have h2 := hle (k + 1) hlt
      have h3 : (catE F (k + 1)).length = (catE F k).length + (F k).length := by rw [catE, List.length_append]
      have H3 := Lib.hid h3
      have h4 : (catE F k).length + (F k).length ≤ 60000 := by omega
      generalize (catE F k).length = n at *
      generalize (F k).length = m at *
      clear h3
      go_wp2
      go_round
      case rel => exact ⟨k + 1, by omega, by go_num, by rw [H3.out]; go_num⟩
      case measure => simp [intOf]; omega
    · obtain rfl : k = 2 := by omega
      have CG := CG _ hl
      go_wp2_with fail
      refine CG.mono ?_
      rintro e w1 ⟨v, rfl, hown, hb1⟩
      clear CG
      go_wp2
      go_loopw [6, 27] (fun x y wr => ∃ (k : Nat) (v : Value), k ≤ 2 ∧ y = .int .i64 k ∧ x = v ∧ opE.Own wr w.heap.size v (catE F k) ∧ Below w.heap.size w wr) (fun _ y _ => 2 - (intOf y).toNat)
      case atStart => exact ⟨0, v, Nat.zero_le _, rfl, rfl, hown, hb1⟩
      case round =>
        clear hown hb1
        obtain ⟨k, v, hk, rfl, rfl, hown, hnx⟩ := hrel
        by_cases hlt : k < 2
        · have h1 := HCL.out k hlt
          rw [← (bcell hnx).1 _ _ hsb] at h1
          have h2 := hle (k + 1) hlt
          have h3 : (catE F (k + 1)).length = (catE F k).length + (F k).length := by rw [catE, List.length_append]
          have hTk := (HTT.out k hlt).below hnx
          have hck := HCC.out k hlt
          have hB := hnx.size
          go_wp2_with (at_builtin; refine El.wpList_app opInn rfl _ _ rfl w.heap.size _ (catE F k) (F k) rfl hown (A k) _ (C k) rfl rfl hTk hck (by omega) hB ?_; intro v' w2 hown2 hg2 _)
          go_roundw
          case rel => exact ⟨k + 1, v', by omega, by go_num, rfl, hown2, hnx.grown hg2 hB (fun j hj => (hown).rows j hj)⟩
          case measure => simp [intOf]; omega
        · obtain rfl : k = 2 := by omega
          obtain ⟨A', cap', rfl, hS⟩ := SlV.own hown
          go_wp2
          go_ret
          exact ⟨A', cap', rfl, hS, hown.frs, hnx⟩

def pickQ {α : Type} (a b : α) : Nat → α
  | 0 => a
  | _ => b

set_option maxRecDepth 100000 in
theorem quNew_any (w : World) : Calls Tryz.prog 21 #[] w fun r w' => ∃ z : Qw, r = .returned (.agg #[.int .i64 z.x.f, .int .i64 z.x.g, .slice z.A z.x.os.length z.c]) ∧ z.x = newQu ∧ z.ok w' ∧ Below w.heap.size w w' := by
  have hB := below_alloc (Below.refl w.heap.size w) (.cells #[.int .i64 1, .int .i64 0, .slice none 0 0] 33)
  have hP : quE.In (w.alloc (.cells #[.int .i64 1, .int .i64 0, .slice none 0 0] 33)) w.heap.size newQw := El.In.new (E := quE) w newQw _ rfl
  go_enter Tryz.func21, Tryz.ntmps21
  go_wp2_with fail
  refine El.ret1 quRow hP rfl rfl rfl #[.int .i64 1, .int .i64 0, .slice none 0 0] rfl ?_
  exact ⟨newQw, rfl, rfl, SlV.nil opE _, hB⟩

end Go.Proofs.YtdcjffajmckleaaGreatDoor

/- The program's device: New, what may be moved, whether it is full, Leave. -/
namespace Go.Proofs.YtdcjffajmckleaaGreatDoor
open Go.ChangeShapes Go.WideShapes Go.ChangeAt Go.RowKit Go.Deep Nam Cod Tre Pst Pln

theorem mk_place (k u : Int) (s : ByteArray) : mkB 0 0 1 1 k u s = placeB k u s := by
  have h1 : nextB 0 0 = true := by kernel_rfl
  have h2 : nextC 0 0 = 1 := by kernel_rfl
  have h3 : nextD 0 0 = 0 := by kernel_rfl
  unfold mkB placeB
  rw [h1, h2, h3, Bool.true_and]
set_option maxRecDepth 100000 in
set_option maxHeartbeats 4000000 in
theorem pNew18_any (n : Int) (w : World) : Calls Tryz.prog 8 #[.int .i64 n] w fun e w' => ∃ x : Dw, e = .returned (.agg #[.int .i64 x.node, .int .i64 x.boot, .int .i64 x.above, .int .i64 x.pos, .int .i64 x.y.t, .int .i64 x.pos, .slice none 0 0, .int .i64 x.q.f, .int .i64 x.q.g, .slice x.qA x.q.os.length x.qc, .slice none 0 0, .slice none 0 0, .slice none 0 0, .slice none 0 0, .slice x.y.bA x.y.base.length x.y.bc, .int .i64 x.y.t, .slice x.y.oA x.y.ops.length x.y.oc, .slice x.y.uA x.y.us.length x.y.uc, .slice x.y.wA x.y.now.length x.y.wc, .slice x.cA x.l.length x.cc, .int .i64 x.inc, .int .i64 x.mode, .int .i64 x.clock, .int .i64 x.sent, .slice x.pA 0 x.pc, .int .i64 x.late]) ∧ x.ok w' ∧ x.v = newD n ∧ Below w.heap.size w w' := by
  have hZ : dvE.In (w.alloc (.cells #[.int .i64 0, .int .i64 0, .int .i64 0, .int .i64 0, .int .i64 0, .int .i64 0, .slice none 0 0, .int .i64 0, .int .i64 0, .slice none 0 0, .slice none 0 0, .slice none 0 0, .slice none 0 0, .slice none 0 0, .slice none 0 0, .int .i64 0, .slice none 0 0, .slice none 0 0, .slice none 0 0, .slice none 0 0, .int .i64 0, .int .i64 0, .int .i64 0, .int .i64 0, .slice none 0 0, .int .i64 0] 44)) w.heap.size Dw.zero := El.In.new (E := dvE) w Dw.zero _ rfl
  have hB := below_alloc (Below.refl w.heap.size w) (.cells #[.int .i64 0, .int .i64 0, .int .i64 0, .int .i64 0, .int .i64 0, .int .i64 0, .slice none 0 0, .int .i64 0, .int .i64 0, .slice none 0 0, .slice none 0 0, .slice none 0 0, .slice none 0 0, .slice none 0 0, .slice none 0 0, .int .i64 0, .slice none 0 0, .slice none 0 0, .slice none 0 0, .slice none 0 0, .int .i64 0, .int .i64 0, .int .i64 0, .int .i64 0, .slice none 0 0, .int .i64 0] 44)
  go_enter Tryz.func8, Tryz.ntmps8
  go_upto_region 1 with (first | (refine wpList_alloc_dv rfl rfl ?_) | fail)
  generalize w.alloc (.cells #[.int .i64 0, .int .i64 0, .int .i64 0, .int .i64 0, .int .i64 0, .int .i64 0, .slice none 0 0, .int .i64 0, .int .i64 0, .slice none 0 0, .slice none 0 0, .slice none 0 0, .slice none 0 0, .slice none 0 0, .slice none 0 0, .int .i64 0, .slice none 0 0, .slice none 0 0, .slice none 0 0, .slice none 0 0, .int .i64 0, .int .i64 0, .int .i64 0, .int .i64 0, .slice none 0 0, .int .i64 0] 44) = W at *
  obtain ⟨n1, hn1⟩ : ∃ n1, w.heap.size = n1 := ⟨_, rfl⟩
  have hle : w.heap.size ≤ n1 := by omega
  rw [hn1] at hZ ⊢
  clear hn1
  go_wp2_with fail
  refine (quNew_any W).mono ?_
  rintro e w2 ⟨z, rfl, hzx, hz, hb2⟩
  replace hZ := hZ.below hb2
  replace hB := below_then hB hb2
  clear hb2
  obtain ⟨zA, zc, zx⟩ := z
  obtain rfl : zx = newQu := hzx
  go_wp2_with (first | (refine El.store dvRow rfl _ _ rfl n1 (⟨n, 1, 0, 0, zA, zc, newQu, Pw.zero, none, 0, [], 1, 1, 0, 0, none, 0, 0⟩ : Dw) _ rfl rfl rfl Dw.zero hZ ?_) | fail)
  refine El.ret1 dvRow (hZ.set (⟨n, 1, 0, 0, zA, zc, newQu, Pw.zero, none, 0, [], 1, 1, 0, 0, none, 0, 0⟩ : Dw) _ rfl) rfl rfl rfl _ rfl ?_
  refine ⟨⟨n, 1, 0, 0, zA, zc, newQu, Pw.zero, none, 0, [], 1, 1, 0, 0, none, 0, 0⟩, rfl, ?_, rfl, below_setRow hB hle _⟩
  refine Dw.ok.keepB ⟨PastOk.zero _, hz, SlV.nil _ _, CnT.nil _⟩ hZ (by_row _ _ _)
set_option maxRecDepth 100000 in
set_option maxHeartbeats 4000000 in
theorem mayMove_any (p : Pnw) (k u : Int) (s : ByteArray) (w : World) (hs : s.size ≤ 9223372036854775807) :
    Calls Tryz.prog 22 #[.agg #[.slice p.A p.p.u.length p.c, .int .i64 p.p.q, .int .i64 p.p.r, .int .i64 p.p.b, .int .i64 p.p.l, .int .i64 p.p.w, .int .i64 p.p.c, .int .i64 p.p.k, .int .i64 p.p.i], .agg #[.int .i64 k, .int .i64 u, .string s]] w fun e w' => e = .returned (.bool (argD p.p.i k u s)) ∧ Below w.heap.size w w' := by
  have hP : pnE.In ((w.alloc (.cells #[.slice p.A p.p.u.length p.c, .int .i64 p.p.q, .int .i64 p.p.r, .int .i64 p.p.b, .int .i64 p.p.l, .int .i64 p.p.w, .int .i64 p.p.c, .int .i64 p.p.k, .int .i64 p.p.i] 26)).alloc (.cells #[.int .i64 k, .int .i64 u, .string s] 50)) w.heap.size p := (El.In.new (E := pnE) w p _ rfl).alloc _
  have hX : plE.In ((w.alloc (.cells #[.slice p.A p.p.u.length p.c, .int .i64 p.p.q, .int .i64 p.p.r, .int .i64 p.p.b, .int .i64 p.p.l, .int .i64 p.p.w, .int .i64 p.p.c, .int .i64 p.p.k, .int .i64 p.p.i] 26)).alloc (.cells #[.int .i64 k, .int .i64 u, .string s] 50)) (w.heap.size + 1) ⟨k, u, s⟩ := by
    have h := El.In.new (E := plE) (w.alloc (.cells #[.slice p.A p.p.u.length p.c, .int .i64 p.p.q, .int .i64 p.p.r, .int .i64 p.p.b, .int .i64 p.p.l, .int .i64 p.p.w, .int .i64 p.p.c, .int .i64 p.p.k, .int .i64 p.p.i] 26)) ⟨k, u, s⟩ #[.int .i64 k, .int .i64 u, .string s] rfl
    rw [alloc_size] at h; exact h
  have hB := below_alloc (below_alloc (Below.refl w.heap.size w) (.cells #[.slice p.A p.p.u.length p.c, .int .i64 p.p.q, .int .i64 p.p.r, .int .i64 p.p.b, .int .i64 p.p.l, .int .i64 p.p.w, .int .i64 p.p.c, .int .i64 p.p.k, .int .i64 p.p.i] 26)) (.cells #[.int .i64 k, .int .i64 u, .string s] 50)
  go_enter Tryz.func22, Tryz.ntmps22
  go_upto_region 1 with fail
  generalize (w.alloc (.cells #[.slice p.A p.p.u.length p.c, .int .i64 p.p.q, .int .i64 p.p.r, .int .i64 p.p.b, .int .i64 p.p.l, .int .i64 p.p.w, .int .i64 p.p.c, .int .i64 p.p.k, .int .i64 p.p.i] 26)).alloc (.cells #[.int .i64 k, .int .i64 u, .string s] 50) = W at *
  have C := opMake_any 0 0 1 1 k u s W (by omega)
  generalize mkI (mkB 0 0 1 1 k u s) = gI at C
  generalize mkS (mkB 0 0 1 1 k u s) = gS at C
  rw [mk_place] at C
  generalize gI (nextC 0 0) = g0 at C
  generalize gI (nextD 0 0) = g1 at C
  have HV := Lib.hid (show argD p.p.i k u s = (decide (k < p.p.i) && (decide (u < p.p.i) && placeB k u s)) from rfl)
  generalize placeB k u s = bb at *
  go_wp2_with (first | (refine El.load plRow rfl _ rfl (w.heap.size + 1) 0 rfl (⟨k, u, s⟩ : Pl) hX.at #[.int .i64 k, .int .i64 u, .string s] rfl ?_) | fail)
  refine C.mono ?_
  rintro e w2 ⟨rfl, hb2⟩
  clear C
  replace hP := hP.below hb2
  replace hX := hX.below hb2
  replace hB := below_then hB hb2
  clear hb2
  obtain ⟨p0, p1, p2, p3, p4, p5, p6, p7, p8⟩ := pnIn9 hP
  obtain ⟨x0, x1, x2⟩ : w2.cell? ⟨w.heap.size + 1, 0, none⟩ = some (.int .i64 k) ∧ w2.cell? ⟨w.heap.size + 1, 1, none⟩ = some (.int .i64 u) ∧ w2.cell? ⟨w.heap.size + 1, 2, none⟩ = some (.string s) := ⟨hX.cell 0, hX.cell 1, hX.cell 2⟩
  have hlt1 := hP.lt
  have hlt2 := hX.lt
  obtain ⟨ids, hids⟩ : ∃ ids, p.p.i = ids := ⟨_, rfl⟩
  rw [hids] at HV p8 ⊢
  have HID := Lib.hid hids
  clear hids
  cases bb with
  | false =>
    go_wp2_with fail
    go_ret
    exact ⟨by rw [HID.out, HV.out, Bool.and_false, Bool.and_false]; rfl, below_alloc hB _⟩
  | true =>
    by_cases h1 : k < ids
    · have f1 : decide (k < ids) = true := decide_eq_true h1
      by_cases h2 : u < ids
      · have f2 : decide (u < ids) = true := decide_eq_true h2
        clear h1 h2
        go_wp2_with fail
        go_ret
        exact ⟨by rw [HID.out, HV.out, f1, f2]; rfl, below_alloc hB _⟩
      · have f2 : decide (u < ids) = false := decide_eq_false h2
        clear h1 h2
        go_wp2_with fail
        go_ret
        exact ⟨by rw [HID.out, HV.out, f1, f2]; rfl, below_alloc hB _⟩
    · have f1 : decide (k < ids) = false := decide_eq_false h1
      clear h1
      go_wp2_with fail
      go_ret
      exact ⟨by rw [HID.out, HV.out, f1]; rfl, below_alloc hB _⟩
def fullB (q : Int) (x : Dv) : Bool := decide (q ≤ (ownV x.y x.node x.inc : Nat)) || decide (q ≤ (x.q.os.length : Nat))
set_option maxRecDepth 100000 in
set_option maxHeartbeats 4000000 in
theorem full18_any (p : Pnw) (x : Dw) (w : World) (hx : x.ok w) (hl : x.y.ops.length ≤ 50000) (hql : x.q.os.length ≤ 50000) :
    Calls Tryz.prog 23 #[.agg #[.slice p.A p.p.u.length p.c, .int .i64 p.p.q, .int .i64 p.p.r, .int .i64 p.p.b, .int .i64 p.p.l, .int .i64 p.p.w, .int .i64 p.p.c, .int .i64 p.p.k, .int .i64 p.p.i], .agg #[.int .i64 x.node, .int .i64 x.boot, .int .i64 x.above, .int .i64 x.pos, .int .i64 x.y.t, .int .i64 x.pos, .slice none 0 0, .int .i64 x.q.f, .int .i64 x.q.g, .slice x.qA x.q.os.length x.qc, .slice none 0 0, .slice none 0 0, .slice none 0 0, .slice none 0 0, .slice x.y.bA x.y.base.length x.y.bc, .int .i64 x.y.t, .slice x.y.oA x.y.ops.length x.y.oc, .slice x.y.uA x.y.us.length x.y.uc, .slice x.y.wA x.y.now.length x.y.wc, .slice x.cA x.l.length x.cc, .int .i64 x.inc, .int .i64 x.mode, .int .i64 x.clock, .int .i64 x.sent, .slice x.pA 0 x.pc, .int .i64 x.late]] w fun e w' => e = .returned (.bool (fullB p.p.q x.v)) ∧ Below w.heap.size w w' := by
  have hP : pnE.In ((w.alloc (.cells #[.slice p.A p.p.u.length p.c, .int .i64 p.p.q, .int .i64 p.p.r, .int .i64 p.p.b, .int .i64 p.p.l, .int .i64 p.p.w, .int .i64 p.p.c, .int .i64 p.p.k, .int .i64 p.p.i] 26)).alloc (.cells #[.int .i64 x.node, .int .i64 x.boot, .int .i64 x.above, .int .i64 x.pos, .int .i64 x.y.t, .int .i64 x.pos, .slice none 0 0, .int .i64 x.q.f, .int .i64 x.q.g, .slice x.qA x.q.os.length x.qc, .slice none 0 0, .slice none 0 0, .slice none 0 0, .slice none 0 0, .slice x.y.bA x.y.base.length x.y.bc, .int .i64 x.y.t, .slice x.y.oA x.y.ops.length x.y.oc, .slice x.y.uA x.y.us.length x.y.uc, .slice x.y.wA x.y.now.length x.y.wc, .slice x.cA x.l.length x.cc, .int .i64 x.inc, .int .i64 x.mode, .int .i64 x.clock, .int .i64 x.sent, .slice x.pA 0 x.pc, .int .i64 x.late] 44)) w.heap.size p := (El.In.new (E := pnE) w p _ rfl).alloc _
  have hZ : dzE.In ((w.alloc (.cells #[.slice p.A p.p.u.length p.c, .int .i64 p.p.q, .int .i64 p.p.r, .int .i64 p.p.b, .int .i64 p.p.l, .int .i64 p.p.w, .int .i64 p.p.c, .int .i64 p.p.k, .int .i64 p.p.i] 26)).alloc (.cells #[.int .i64 x.node, .int .i64 x.boot, .int .i64 x.above, .int .i64 x.pos, .int .i64 x.y.t, .int .i64 x.pos, .slice none 0 0, .int .i64 x.q.f, .int .i64 x.q.g, .slice x.qA x.q.os.length x.qc, .slice none 0 0, .slice none 0 0, .slice none 0 0, .slice none 0 0, .slice x.y.bA x.y.base.length x.y.bc, .int .i64 x.y.t, .slice x.y.oA x.y.ops.length x.y.oc, .slice x.y.uA x.y.us.length x.y.uc, .slice x.y.wA x.y.now.length x.y.wc, .slice x.cA x.l.length x.cc, .int .i64 x.inc, .int .i64 x.mode, .int .i64 x.clock, .int .i64 x.sent, .slice x.pA 0 x.pc, .int .i64 x.late] 44)) (w.heap.size + 1) x.z := by
    have h := El.In.new (E := dzE) (w.alloc (.cells #[.slice p.A p.p.u.length p.c, .int .i64 p.p.q, .int .i64 p.p.r, .int .i64 p.p.b, .int .i64 p.p.l, .int .i64 p.p.w, .int .i64 p.p.c, .int .i64 p.p.k, .int .i64 p.p.i] 26)) x.z #[.int .i64 x.node, .int .i64 x.boot, .int .i64 x.above, .int .i64 x.pos, .int .i64 x.y.t, .int .i64 x.pos, .slice none 0 0, .int .i64 x.q.f, .int .i64 x.q.g, .slice x.qA x.q.os.length x.qc, .slice none 0 0, .slice none 0 0, .slice none 0 0, .slice none 0 0, .slice x.y.bA x.y.base.length x.y.bc, .int .i64 x.y.t, .slice x.y.oA x.y.ops.length x.y.oc, .slice x.y.uA x.y.us.length x.y.uc, .slice x.y.wA x.y.now.length x.y.wc, .slice x.cA x.l.length x.cc, .int .i64 x.inc, .int .i64 x.mode, .int .i64 x.clock, .int .i64 x.sent, .slice x.pA 0 x.pc, .int .i64 x.late] rfl
    rw [alloc_size] at h; exact h
  have hB := below_alloc (below_alloc (Below.refl w.heap.size w) (.cells #[.slice p.A p.p.u.length p.c, .int .i64 p.p.q, .int .i64 p.p.r, .int .i64 p.p.b, .int .i64 p.p.l, .int .i64 p.p.w, .int .i64 p.p.c, .int .i64 p.p.k, .int .i64 p.p.i] 26)) (.cells #[.int .i64 x.node, .int .i64 x.boot, .int .i64 x.above, .int .i64 x.pos, .int .i64 x.y.t, .int .i64 x.pos, .slice none 0 0, .int .i64 x.q.f, .int .i64 x.q.g, .slice x.qA x.q.os.length x.qc, .slice none 0 0, .slice none 0 0, .slice none 0 0, .slice none 0 0, .slice x.y.bA x.y.base.length x.y.bc, .int .i64 x.y.t, .slice x.y.oA x.y.ops.length x.y.oc, .slice x.y.uA x.y.us.length x.y.uc, .slice x.y.wA x.y.now.length x.y.wc, .slice x.cA x.l.length x.cc, .int .i64 x.inc, .int .i64 x.mode, .int .i64 x.clock, .int .i64 x.sent, .slice x.pA 0 x.pc, .int .i64 x.late] 44)
  have C := fun (wx : World) (h : PastOk wx x.y) => pOwn_any x.y x.node x.inc wx h hl
  have hy := hx.p.below hB
  have HV : Hid (fullB p.p.q x.v = (decide (p.p.q ≤ (ownV x.y.v x.node x.inc : Nat)) || decide (p.p.q ≤ (x.q.os.length : Nat)))) := Lib.hid rfl
  go_enter Tryz.func23, Tryz.ntmps23
  go_upto_region 1 with fail
  generalize (w.alloc (.cells #[.slice p.A p.p.u.length p.c, .int .i64 p.p.q, .int .i64 p.p.r, .int .i64 p.p.b, .int .i64 p.p.l, .int .i64 p.p.w, .int .i64 p.p.c, .int .i64 p.p.k, .int .i64 p.p.i] 26)).alloc (.cells #[.int .i64 x.node, .int .i64 x.boot, .int .i64 x.above, .int .i64 x.pos, .int .i64 x.y.t, .int .i64 x.pos, .slice none 0 0, .int .i64 x.q.f, .int .i64 x.q.g, .slice x.qA x.q.os.length x.qc, .slice none 0 0, .slice none 0 0, .slice none 0 0, .slice none 0 0, .slice x.y.bA x.y.base.length x.y.bc, .int .i64 x.y.t, .slice x.y.oA x.y.ops.length x.y.oc, .slice x.y.uA x.y.us.length x.y.uc, .slice x.y.wA x.y.now.length x.y.wc, .slice x.cA x.l.length x.cc, .int .i64 x.inc, .int .i64 x.mode, .int .i64 x.clock, .int .i64 x.sent, .slice x.pA 0 x.pc, .int .i64 x.late] 44) = W at *
  obtain ⟨n1, hn1⟩ : ∃ n1, w.heap.size = n1 := ⟨_, rfl⟩
  obtain ⟨n2, hn2⟩ : ∃ n2, w.heap.size + 1 = n2 := ⟨_, rfl⟩
  rw [hn2] at hZ ⊢
  rw [hn1] at hP
  simp only [hn1]
  generalize ownV x.y.v x.node x.inc = ow at *
  have hpa := dz_p hZ
  obtain ⟨p0, p1, p2, p3, p4, p5, p6, p7, p8⟩ := pnIn9 hP
  obtain ⟨z0, z1, z2, z3, z4, z5, z7, z9, z15, z18, z19, z20, z21, z22, z23, z24, z25⟩ := dzIn hZ
  have y0 : W.cell? ⟨n2, 14, none⟩ = some (.slice x.y.bA x.y.base.length x.y.bc) := hpa 0 _ rfl
  have y2 : W.cell? ⟨n2, 16, none⟩ = some (.slice x.y.oA x.y.ops.length x.y.oc) := hpa 2 _ rfl
  have y3 : W.cell? ⟨n2, 17, none⟩ = some (.slice x.y.uA x.y.us.length x.y.uc) := hpa 3 _ rfl
  replace z0 : W.cell? ⟨n2, 0, none⟩ = some (.int .i64 x.node) := z0
  replace z9 : W.cell? ⟨n2, 9, none⟩ = some (.slice x.qA x.q.os.length x.qc) := z9
  replace z15 : W.cell? ⟨n2, 15, none⟩ = some (.int .i64 x.y.t) := z15
  replace z18 : W.cell? ⟨n2, 18, none⟩ = some (.slice x.y.wA x.y.now.length x.y.wc) := z18
  replace z20 : W.cell? ⟨n2, 20, none⟩ = some (.int .i64 x.inc) := z20
  have HY := Lib.hid hy
  have HPW := Lib.hid (fun (w' : World) (h : ∃ p : Regrown, w' = Sort.grow (redrawn W p.d) p.os) => (by obtain ⟨p, rfl⟩ := h; exact dz_p (hZ.below (below_regrown W p.d p.os)) : pwE.At w' n2 14 x.y))
  have d1 : ∀ d' os, Calls Tryz.prog 45 #[.agg #[.slice x.y.bA x.y.base.length x.y.bc, .int .i64 x.y.t, .slice x.y.oA x.y.ops.length x.y.oc, .slice x.y.uA x.y.us.length x.y.uc, .slice x.y.wA x.y.now.length x.y.wc], .int .i64 x.node, .int .i64 x.inc] (Sort.grow (redrawn W d') os) fun e w'' => e = .returned (.int .i64 ow) ∧ ∃ p : Regrown, w'' = Sort.grow (redrawn W p.d) p.os := fun d' os => Calls.regrown_of (C _ (HY.out.below (below_regrown W d' os)))
  clear y0 y2 y3 z15 z18 C hy hpa hP hZ hx z1 z2 z3 z4 z5 z7 z19 z21 z22 z23 z24 z25 p0 p2 p3 p4 p5 p6 p7 p8
  have k0 := cell_regrown z0
  have k9 := cell_regrown z9
  have k20 := cell_regrown z20
  have k1 := cell_regrown p1
  clear z0 z9 z20 p1
  have HB := Lib.hid hB
  clear hB hl
  obtain ⟨qq, hqq⟩ : ∃ qq, p.p.q = qq := ⟨_, rfl⟩
  rw [hqq] at HV k1 ⊢
  have HID := Lib.hid hqq
  clear hqq
  by_cases h1 : qq ≤ (ow : Int)
  · have f1 : decide (qq ≤ (ow : Int)) = true := decide_eq_true h1
    clear h1
    refine wp_region_quiet_below (by kernel_rfl) (by as_aux_lemma => kernel_rfl) ?_
    repeat (first | (go_big_quiet_want; (refine El.quiet_loadZ pwRow (.tmp 5) rfl n2 14 rfl x.y HPW.out #[.slice x.y.bA x.y.base.length x.y.bc, .int .i64 x.y.t, .slice x.y.oA x.y.ops.length x.y.oc, .slice x.y.uA x.y.us.length x.y.uc, .slice x.y.wA x.y.now.length x.y.wc] rfl ?_); go_big_quiet_on; try simp only [Act.put, List.setIfInBounds_toArray, List.set_cons_zero, List.set_cons_succ]) | go_big_quiet_step ((with_reducible (exact d1 _ _))))
    refine wpQuiet_nil ?_
    intro _ hw'
    obtain ⟨⟨dq, osq⟩, hw''⟩ := hw'
    subst hw''
    go_wp2_with fail
    go_ret
    exact ⟨by rw [HID.out, HV.out, f1]; rfl, below_then HB.out (below_regrown W dq osq)⟩
  · have f1 : decide (qq ≤ (ow : Int)) = false := decide_eq_false h1
    clear h1
    obtain ⟨f2, hf2⟩ : ∃ f2, decide (qq ≤ (x.q.os.length : Int)) = f2 := ⟨_, rfl⟩
    refine wp_region_quiet_below (by kernel_rfl) (by as_aux_lemma => kernel_rfl) ?_
    repeat (first | (go_big_quiet_want; (refine El.quiet_loadZ pwRow (.tmp 5) rfl n2 14 rfl x.y HPW.out #[.slice x.y.bA x.y.base.length x.y.bc, .int .i64 x.y.t, .slice x.y.oA x.y.ops.length x.y.oc, .slice x.y.uA x.y.us.length x.y.uc, .slice x.y.wA x.y.now.length x.y.wc] rfl ?_); go_big_quiet_on; try simp only [Act.put, List.setIfInBounds_toArray, List.set_cons_zero, List.set_cons_succ]) | go_big_quiet_step ((with_reducible (exact d1 _ _))))
    refine wpQuiet_nil ?_
    intro _ hw'
    obtain ⟨⟨dq, osq⟩, hw''⟩ := hw'
    subst hw''
    go_wp2_with fail
    go_ret
    exact ⟨by rw [HID.out, HV.out, f1, hf2]; rfl, below_then HB.out (below_regrown W dq osq)⟩
end Go.Proofs.YtdcjffajmckleaaGreatDoor

/- The program's queues: upTo, Ack, Allow, Out. -/
namespace Go.Proofs.YtdcjffajmckleaaGreatDoor
open Go.RowKit Nam Cod

def upQ (x : Qu) (a : Int) : Nat := if a < x.f then 0 else min (a - x.f + 1).toNat x.os.length
theorem upQ_le (x : Qu) (a : Int) : upQ x a ≤ x.os.length := by
  unfold upQ
  split
  · exact Nat.zero_le _
  · omega
theorem ackQ_up (x : Qu) (a : Int) : ackQ x a = ⟨x.f + (upQ x a : Int), x.g, x.os.drop (upQ x a)⟩ := by
  obtain ⟨f, g, os⟩ := x
  unfold ackQ upQ
  dsimp only
  by_cases c : a < f
  · rw [if_pos c, if_pos c]
    congr 1
    omega
  · rw [if_neg c, if_neg c]
    congr 1
    · omega
    · congr 1
      omega
theorem outQ_up (x : Qu) (most : Int) : outQ x most = x.os.take (min (upQ x x.g) (max most 0).toNat) := by
  obtain ⟨f, g, os⟩ := x
  unfold outQ upQ
  dsimp only
  by_cases c : g < f
  · rw [if_pos c, show (min most (g - f + 1)).toNat = 0 by omega, Nat.zero_min]
  · rw [if_neg c]
    by_cases c2 : (min most (g - f + 1)).toNat ≤ os.length
    · congr 1
      omega
    · rw [List.take_of_length_le (by omega), List.take_of_length_le (by omega)]

set_option maxRecDepth 100000 in
set_option maxHeartbeats 2000000 in
theorem upTo_any (y : Qw) (a : Int) (w : World) (hn : QuN y.x) (ha : -1000000000000000 ≤ a ∧ a ≤ 1000000000000000) :
    Calls Tryz.prog 60 #[.agg #[.int .i64 y.x.f, .int .i64 y.x.g, .slice y.A y.x.os.length y.c], .int .i64 a] w fun r w' => r = .returned (.int .i64 ((upQ y.x a : Nat) : Int)) ∧ Below w.heap.size w w' := by
  have hP : quE.In (w.alloc (.cells #[.int .i64 y.x.f, .int .i64 y.x.g, .slice y.A y.x.os.length y.c] 33)) w.heap.size y := El.In.new (E := quE) w y _ rfl
  have hB := below_alloc (Below.refl w.heap.size w) (.cells #[.int .i64 y.x.f, .int .i64 y.x.g, .slice y.A y.x.os.length y.c] 33)
  obtain ⟨p0, p1, p2⟩ := quIn3 hP
  have hf := hn.f
  have hl := hn.l
  clear hn hP
  by_cases c : a < y.x.f
  · have hu : upQ y.x a = 0 := by unfold upQ; rw [if_pos c]
    rw [hu]
    clear hu
    have f1 : decide (a < y.x.f) = true := decide_eq_true c
    go_enter Tryz.func60, Tryz.ntmps60
    go_wp2_with fail
    go_ret
    exact ⟨rfl, hB⟩
  · obtain ⟨d, hd⟩ : ∃ d : Nat, a - y.x.f = d := ⟨(a - y.x.f).toNat, by omega⟩
    have f1 : decide (a < y.x.f) = false := decide_eq_false c
    obtain ⟨u1, h1⟩ : ∃ u1, IntKind.u64.wrap a = u1 := ⟨_, rfl⟩
    obtain ⟨u2, h2⟩ : ∃ u2, IntKind.u64.wrap y.x.f = u2 := ⟨_, rfl⟩
    have f2 : IntKind.u64.wrap (u1 - u2) = (d : Int) := by
      rw [← h1, ← h2]
      show ((a % 18446744073709551616) - (y.x.f % 18446744073709551616)) % 18446744073709551616 = _
      omega
    have f3 : IntKind.u64.wrap (y.x.os.length : Int) = (y.x.os.length : Int) := by
      show (y.x.os.length : Int) % 18446744073709551616 = _
      omega
    by_cases c2 : y.x.os.length ≤ d
    · have hu : upQ y.x a = y.x.os.length := by unfold upQ; rw [if_neg c]; omega
      rw [hu]
      have f4 : decide ((y.x.os.length : Int) ≤ (d : Int)) = true := decide_eq_true (by omega)
      have f5 : decide (y.x.os.length ≤ d) = true := decide_eq_true c2
      clear hd hu c2
      go_enter Tryz.func60, Tryz.ntmps60
      go_wp2_with fail
      go_ret
      exact ⟨rfl, hB⟩
    · have hu : upQ y.x a = d + 1 := by unfold upQ; rw [if_neg c]; omega
      rw [hu]
      have f4 : decide ((y.x.os.length : Int) ≤ (d : Int)) = false := decide_eq_false (by omega)
      have f5 : decide (y.x.os.length ≤ d) = false := decide_eq_false c2
      have f6 : IntKind.i64.wrap (d : Int) = (d : Int) := by rw [IntKind.wrap_i64]; omega
      have f7 : IntKind.i64.wrap ((d : Int) + 1) = ((d + 1 : Nat) : Int) := by rw [IntKind.wrap_i64]; omega
      clear hd hu
      go_enter Tryz.func60, Tryz.ntmps60
      go_wp2_with fail
      go_ret
      exact ⟨rfl, hB⟩

theorem near_new {B : Nat} {y : Qw} {A : Option Addr} {c : Nat} {x : Qu} (h : Frs B A) : Near B y ⟨A, c, x⟩ := fun _ a' e => Or.inl (h a' e)

set_option maxRecDepth 100000 in
set_option maxHeartbeats 4000000 in
theorem quAck_any (y : Qw) (a : Int) (w : World) (hn : QuN y.x) (ha : -1000000000000000 ≤ a ∧ a ≤ 1000000000000000) (hok : y.ok w) :
    Calls Tryz.prog 35 #[.agg #[.int .i64 y.x.f, .int .i64 y.x.g, .slice y.A y.x.os.length y.c], .int .i64 a] w fun r w' => ∃ z : Qw, r = .returned (.agg #[.int .i64 z.x.f, .int .i64 z.x.g, .slice z.A z.x.os.length z.c]) ∧ z.x = ackQ y.x a ∧ z.ok w' ∧ Below w.heap.size w w' ∧ Near w.heap.size y z := by
  have CU := Lib.hid (fun (wx : World) => upTo_any y a wx hn ha)
  have hv := ackQ_up y.x a
  have hul := upQ_le y.x a
  generalize upQ y.x a = u at *
  have hf := hn.f
  have hl := hn.l
  have f1 : IntKind.i64.wrap (y.x.f + (u : Int)) = y.x.f + (u : Int) := by rw [IntKind.wrap_i64]; omega
  have hP : quE.In ((w.alloc (.cells #[.int .i64 y.x.f, .int .i64 y.x.g, .slice y.A y.x.os.length y.c] 33)).alloc (.cells #[.int .i64 0, .int .i64 0, .slice none 0 0] 33)) w.heap.size y := (El.In.new (E := quE) w y _ rfl).alloc _
  have hZ := two_quB w #[.int .i64 y.x.f, .int .i64 y.x.g, .slice y.A y.x.os.length y.c] #[.int .i64 0, .int .i64 0, .slice none 0 0] zeroQw rfl
  have hB := below_alloc (below_alloc (Below.refl w.heap.size w) (.cells #[.int .i64 y.x.f, .int .i64 y.x.g, .slice y.A y.x.os.length y.c] 33)) (.cells #[.int .i64 0, .int .i64 0, .slice none 0 0] 33)
  replace hok := hok.below hB
  have HV := Lib.hid hv
  clear hv hn
  go_enter Tryz.func35, Tryz.ntmps35
  go_wp2_with (first | (refine El.load quRow rfl _ rfl w.heap.size 0 rfl y hP.at #[.int .i64 y.x.f, .int .i64 y.x.g, .slice y.A y.x.os.length y.c] rfl ?_) | fail)
  refine (CU.out _).mono ?_
  generalize (w.alloc (.cells #[.int .i64 y.x.f, .int .i64 y.x.g, .slice y.A y.x.os.length y.c] 33)).alloc (.cells #[.int .i64 0, .int .i64 0, .slice none 0 0] 33) = W at *
  obtain ⟨n3, h3⟩ : ∃ n, w.heap.size + 1 = n := ⟨_, rfl⟩
  obtain ⟨n1, h1⟩ : ∃ n, w.heap.size = n := ⟨_, rfl⟩
  rw [h3] at hZ ⊢
  rw [h1] at hP ⊢
  rintro r w1 ⟨rfl, hb1⟩
  have hwn1 : w.heap.size ≤ n1 := by omega
  have hwn3 : w.heap.size ≤ n3 := by omega
  have hn13 : n1 ≠ n3 := by omega
  clear h1 h3 CU
  replace hP := hP.below hb1
  replace hZ := hZ.below hb1
  replace hB := below_then hB hb1
  replace hok := hok.below hb1
  clear hb1
  obtain ⟨p0, p1, p2⟩ := quIn3 hP
  have pf := hP.frozen
  go_upto_region 3 with fail
  have hok1 : SlV opE (w1.setCell ⟨n1, 0, none⟩ (.int .i64 (y.x.f + (u : Int)))) y.A y.c y.x.os := SlV.keepO hok (by_cell w1 n1 0 (.int .i64 (y.x.f + (u : Int)))) (qu_off hok.1 hP)
  replace hP := hP.put ⟨y.A, y.c, ⟨y.x.f + (u : Int), y.x.g, y.x.os⟩⟩ 0 (.int .i64 (y.x.f + (u : Int))) rfl
  replace hZ := hZ.other n1 0 (.int .i64 (y.x.f + (u : Int))) hn13.symm
  replace hB := hB.grown (by_cell w1 n1 0 (.int .i64 (y.x.f + (u : Int)))) hB.size (fun k e => by have := Option.some.inj e; omega)
  clear p0 p1 p2 pf hok
  generalize w1.setCell ⟨n1, 0, none⟩ (.int .i64 (y.x.f + (u : Int))) = w2 at *
  obtain ⟨p0, p1, p2⟩ := quIn3 hP
  have pf := hP.frozen
  dsimp only at p0 p1 p2
  obtain ⟨hT, hz, hlc⟩ := hok1
  obtain ⟨A3, hA3⟩ : ∃ A3, (if y.c = u then y.A else Option.map (fun x => x.add (u * 7)) y.A) = A3 := ⟨_, rfl⟩
  have hT3 := hT.drop hlc hA3
  have hz3 := El.drop_none hz hA3
  obtain ⟨X, hX⟩ : ∃ X, y.x.os.drop u = X := ⟨_, rfl⟩
  rw [hX] at hT3
  have hXl : X.length = y.x.os.length - u := by rw [← hX, List.length_drop]
  have CC := cloneOp_any A3 (y.c - u) X w2 (by omega) ⟨hT3, hz3, by omega⟩
  rw [hXl] at CC
  replace CC := Lib.hid CC
  have HX := Lib.hid (show (⟨y.x.f + (u : Int), y.x.g, X⟩ : Qu) = ackQ y.x a by rw [HV.out, hX])
  have HXL := Lib.hid hXl
  have g1 : (u : Int) ≤ (y.c : Int) := by omega
  have g2 : (u : Int) ≤ (y.x.os.length : Int) := by omega
  clear hT hz hX hXl hT3 hz3 HV
  go_wp2_with fail
  refine CC.out.mono ?_
  rintro r w3 ⟨A', c', rfl, hS, hfr, hb2⟩
  have hn1w : n1 < w2.heap.size := hP.lt
  clear CC p0 p1 p2 pf
  replace hP := hP.below hb2
  replace hZ := hZ.below hb2
  replace hfr : Frs w.heap.size A' := hfr.mono hB.size
  replace hB := below_then hB hb2
  clear hb2
  obtain ⟨p0, p1, p2⟩ := quIn3 hP
  have pf := hP.frozen
  dsimp only at p0 p1 p2
  rw [← HXL.out]
  go_upto_region 4 with fail
  have hS1 := SlV.keepO hS (by_cell w3 n1 2 (.slice A' X.length c')) (qu_off hS.1 hP)
  replace hP := hP.put ⟨A', c', ⟨y.x.f + (u : Int), y.x.g, X⟩⟩ 2 (.slice A' X.length c') rfl
  replace hZ := hZ.other n1 2 (.slice A' X.length c') hn13.symm
  replace hB := hB.grown (by_cell w3 n1 2 (.slice A' X.length c')) hB.size (fun k e => by have := Option.some.inj e; omega)
  clear p0 p1 p2 pf hS
  generalize w3.setCell ⟨n1, 2, none⟩ (.slice A' X.length c') = w4 at *
  go_wp2_with (first | (refine El.load quRow rfl _ rfl n1 0 rfl ⟨A', c', ⟨y.x.f + (u : Int), y.x.g, X⟩⟩ hP.at #[.int .i64 (y.x.f + (u : Int)), .int .i64 y.x.g, .slice A' X.length c'] rfl ?_) | (refine El.store quRow rfl _ _ rfl n3 ⟨A', c', ⟨y.x.f + (u : Int), y.x.g, X⟩⟩ #[.int .i64 (y.x.f + (u : Int)), .int .i64 y.x.g, .slice A' X.length c'] rfl rfl rfl zeroQw hZ ?_) | fail)
  refine El.ret1 quRow (hZ.set ⟨A', c', ⟨y.x.f + (u : Int), y.x.g, X⟩⟩ _ rfl) rfl rfl rfl _ rfl ?_
  exact ⟨⟨A', c', ⟨y.x.f + (u : Int), y.x.g, X⟩⟩, rfl, HX.out, SlV.keepO hS1 (by_row _ n3 _) (qu_off hS1.1 hZ), below_setRow hB hwn3 _, near_new hfr⟩

set_option maxRecDepth 100000 in
set_option maxHeartbeats 4000000 in
theorem quAllow_any (y : Qw) (g : Int) (w : World) (hn : QuN y.x) (hok : y.ok w) :
    Calls Tryz.prog 34 #[.agg #[.int .i64 y.x.f, .int .i64 y.x.g, .slice y.A y.x.os.length y.c], .int .i64 g] w fun r w' => ∃ z : Qw, r = .returned (.agg #[.int .i64 z.x.f, .int .i64 z.x.g, .slice z.A z.x.os.length z.c]) ∧ z.x = allowQ y.x g ∧ z.ok w' ∧ Below w.heap.size w w' ∧ Near w.heap.size y z := by
  have hl := hn.l
  clear hn
  rcases Int.lt_or_le y.x.g g with hm | hm
  · skip
    have CC := Lib.hid (fun (wx : World) (h : y.ok wx) => cloneOp_any y.A y.c y.x.os wx hl h)
    have HV := Lib.hid (show (⟨y.x.f, g, y.x.os⟩ : Qu) = allowQ y.x g by unfold allowQ; rw [show max y.x.g g = g by omega])
    have hmx : max y.x.g g = g := by omega
    have hP : quE.In ((w.alloc (.cells #[.int .i64 y.x.f, .int .i64 (g), .slice y.A y.x.os.length y.c] 33)).alloc (.cells #[.int .i64 0, .int .i64 0, .slice none 0 0] 33)) w.heap.size ⟨y.A, y.c, ⟨y.x.f, g, y.x.os⟩⟩ := (El.In.new (E := quE) w ⟨y.A, y.c, ⟨y.x.f, g, y.x.os⟩⟩ _ rfl).alloc _
    have hZ := two_quB w #[.int .i64 y.x.f, .int .i64 (g), .slice y.A y.x.os.length y.c] #[.int .i64 0, .int .i64 0, .slice none 0 0] zeroQw rfl
    have hB := below_alloc (below_alloc (Below.refl w.heap.size w) (.cells #[.int .i64 y.x.f, .int .i64 (g), .slice y.A y.x.os.length y.c] 33)) (.cells #[.int .i64 0, .int .i64 0, .slice none 0 0] 33)
    have hok1 : y.ok _ := hok.below hB
    clear hok
    go_enter Tryz.func34, Tryz.ntmps34
    go_wp2_with (fail)
    generalize (w.alloc (.cells #[.int .i64 y.x.f, .int .i64 (g), .slice y.A y.x.os.length y.c] 33)).alloc (.cells #[.int .i64 0, .int .i64 0, .slice none 0 0] 33) = w2 at *
    obtain ⟨n3, h3⟩ : ∃ n, w.heap.size + 1 = n := ⟨_, rfl⟩
    obtain ⟨n1, h1⟩ : ∃ n, w.heap.size = n := ⟨_, rfl⟩
    rw [h3] at hZ ⊢
    rw [h1] at hP ⊢
    have hwn1 : w.heap.size ≤ n1 := by omega
    have hwn3 : w.heap.size ≤ n3 := by omega
    have hn13 : n1 ≠ n3 := by omega
    clear h1 h3
    refine (CC.out _ hok1).mono ?_
    rintro r w3 ⟨A', c', rfl, hS, hfr, hb2⟩
    have hn1w : n1 < w2.heap.size := hP.lt
    clear CC hok1
    replace hP := hP.below hb2
    replace hZ := hZ.below hb2
    replace hfr : Frs w.heap.size A' := hfr.mono hB.size
    replace hB := below_then hB hb2
    clear hb2
    obtain ⟨p0, p1, p2⟩ := quIn3 hP
    have pf := hP.frozen
    dsimp only at p0 p1 p2
    go_upto_region 3 with fail
    have hS1 := SlV.keepO hS (by_cell w3 n1 2 (.slice A' y.x.os.length c')) (qu_off hS.1 hP)
    replace hP := hP.put ⟨A', c', ⟨y.x.f, g, y.x.os⟩⟩ 2 (.slice A' y.x.os.length c') rfl
    replace hZ := hZ.other n1 2 (.slice A' y.x.os.length c') hn13.symm
    replace hB := hB.grown (by_cell w3 n1 2 (.slice A' y.x.os.length c')) hB.size (fun k e => by have := Option.some.inj e; omega)
    clear p0 p1 p2 pf hS
    generalize w3.setCell ⟨n1, 2, none⟩ (.slice A' y.x.os.length c') = w4 at *
    go_wp2_with (first | (refine El.load quRow rfl _ rfl n1 0 rfl ⟨A', c', ⟨y.x.f, g, y.x.os⟩⟩ hP.at #[.int .i64 y.x.f, .int .i64 (g), .slice A' y.x.os.length c'] rfl ?_) | (refine El.store quRow rfl _ _ rfl n3 ⟨A', c', ⟨y.x.f, g, y.x.os⟩⟩ #[.int .i64 y.x.f, .int .i64 (g), .slice A' y.x.os.length c'] rfl rfl rfl zeroQw hZ ?_) | fail)
    refine El.ret1 quRow (hZ.set ⟨A', c', ⟨y.x.f, g, y.x.os⟩⟩ _ rfl) rfl rfl rfl _ rfl ?_
    exact ⟨⟨A', c', ⟨y.x.f, g, y.x.os⟩⟩, rfl, HV.out, SlV.keepO hS1 (by_row _ n3 _) (qu_off hS1.1 hZ), below_setRow hB hwn3 _, near_new hfr⟩
  · skip
    have CC := Lib.hid (fun (wx : World) (h : y.ok wx) => cloneOp_any y.A y.c y.x.os wx hl h)
    have HV := Lib.hid (show (⟨y.x.f, y.x.g, y.x.os⟩ : Qu) = allowQ y.x g by unfold allowQ; rw [show max y.x.g g = y.x.g by omega])
    have hmx : max y.x.g g = y.x.g := by omega
    have hP : quE.In ((w.alloc (.cells #[.int .i64 y.x.f, .int .i64 (y.x.g), .slice y.A y.x.os.length y.c] 33)).alloc (.cells #[.int .i64 0, .int .i64 0, .slice none 0 0] 33)) w.heap.size ⟨y.A, y.c, ⟨y.x.f, y.x.g, y.x.os⟩⟩ := (El.In.new (E := quE) w ⟨y.A, y.c, ⟨y.x.f, y.x.g, y.x.os⟩⟩ _ rfl).alloc _
    have hZ := two_quB w #[.int .i64 y.x.f, .int .i64 (y.x.g), .slice y.A y.x.os.length y.c] #[.int .i64 0, .int .i64 0, .slice none 0 0] zeroQw rfl
    have hB := below_alloc (below_alloc (Below.refl w.heap.size w) (.cells #[.int .i64 y.x.f, .int .i64 (y.x.g), .slice y.A y.x.os.length y.c] 33)) (.cells #[.int .i64 0, .int .i64 0, .slice none 0 0] 33)
    have hok1 : y.ok _ := hok.below hB
    clear hok
    go_enter Tryz.func34, Tryz.ntmps34
    go_wp2_with (fail)
    generalize (w.alloc (.cells #[.int .i64 y.x.f, .int .i64 (y.x.g), .slice y.A y.x.os.length y.c] 33)).alloc (.cells #[.int .i64 0, .int .i64 0, .slice none 0 0] 33) = w2 at *
    obtain ⟨n3, h3⟩ : ∃ n, w.heap.size + 1 = n := ⟨_, rfl⟩
    obtain ⟨n1, h1⟩ : ∃ n, w.heap.size = n := ⟨_, rfl⟩
    rw [h3] at hZ ⊢
    rw [h1] at hP ⊢
    have hwn1 : w.heap.size ≤ n1 := by omega
    have hwn3 : w.heap.size ≤ n3 := by omega
    have hn13 : n1 ≠ n3 := by omega
    clear h1 h3
    refine (CC.out _ hok1).mono ?_
    rintro r w3 ⟨A', c', rfl, hS, hfr, hb2⟩
    have hn1w : n1 < w2.heap.size := hP.lt
    clear CC hok1
    replace hP := hP.below hb2
    replace hZ := hZ.below hb2
    replace hfr : Frs w.heap.size A' := hfr.mono hB.size
    replace hB := below_then hB hb2
    clear hb2
    obtain ⟨p0, p1, p2⟩ := quIn3 hP
    have pf := hP.frozen
    dsimp only at p0 p1 p2
    go_upto_region 3 with fail
    have hS1 := SlV.keepO hS (by_cell w3 n1 2 (.slice A' y.x.os.length c')) (qu_off hS.1 hP)
    replace hP := hP.put ⟨A', c', ⟨y.x.f, y.x.g, y.x.os⟩⟩ 2 (.slice A' y.x.os.length c') rfl
    replace hZ := hZ.other n1 2 (.slice A' y.x.os.length c') hn13.symm
    replace hB := hB.grown (by_cell w3 n1 2 (.slice A' y.x.os.length c')) hB.size (fun k e => by have := Option.some.inj e; omega)
    clear p0 p1 p2 pf hS
    generalize w3.setCell ⟨n1, 2, none⟩ (.slice A' y.x.os.length c') = w4 at *
    go_wp2_with (first | (refine El.load quRow rfl _ rfl n1 0 rfl ⟨A', c', ⟨y.x.f, y.x.g, y.x.os⟩⟩ hP.at #[.int .i64 y.x.f, .int .i64 (y.x.g), .slice A' y.x.os.length c'] rfl ?_) | (refine El.store quRow rfl _ _ rfl n3 ⟨A', c', ⟨y.x.f, y.x.g, y.x.os⟩⟩ #[.int .i64 y.x.f, .int .i64 (y.x.g), .slice A' y.x.os.length c'] rfl rfl rfl zeroQw hZ ?_) | fail)
    refine El.ret1 quRow (hZ.set ⟨A', c', ⟨y.x.f, y.x.g, y.x.os⟩⟩ _ rfl) rfl rfl rfl _ rfl ?_
    exact ⟨⟨A', c', ⟨y.x.f, y.x.g, y.x.os⟩⟩, rfl, HV.out, SlV.keepO hS1 (by_row _ n3 _) (qu_off hS1.1 hZ), below_setRow hB hwn3 _, near_new hfr⟩

theorem SlV.cutO {w : World} {A : Option Addr} {c : Nat} {l : List Mv} {m : Nat} (h : SlV opE w A c l) (hm : m ≤ l.length) : SlV opE w A c (l.take m) := ⟨h.1.take m, h.2.1, by rw [List.length_take]; have := h.2.2; omega⟩
set_option maxRecDepth 100000 in
set_option maxHeartbeats 4000000 in
theorem quOut_any (y : Qw) (most : Int) (w : World) (hn : QuN y.x) (hok : y.ok w) :
    Calls Tryz.prog 43 #[.agg #[.int .i64 y.x.f, .int .i64 y.x.g, .slice y.A y.x.os.length y.c], .int .i64 most] w fun r w' => ∃ (A : Option Addr) (c : Nat), r = .returned (.slice A (outQ y.x most).length c) ∧ SlV opE w' A c (outQ y.x most) ∧ Below w.heap.size w w' := by
  have CU := Lib.hid (fun (wx : World) => upTo_any y y.x.g wx hn hn.g)
  have hv := outQ_up y.x most
  have hul := upQ_le y.x y.x.g
  generalize upQ y.x y.x.g = u at *
  have hl := hn.l
  have hlc := hok.2.2
  have hP : quE.In (w.alloc (.cells #[.int .i64 y.x.f, .int .i64 y.x.g, .slice y.A y.x.os.length y.c] 33)) w.heap.size y := El.In.new (E := quE) w y _ rfl
  have hB := below_alloc (Below.refl w.heap.size w) (.cells #[.int .i64 y.x.f, .int .i64 y.x.g, .slice y.A y.x.os.length y.c] 33)
  replace hok := hok.below hB
  obtain ⟨p0, p1, p2⟩ := quIn3 hP
  clear hn
  rcases Int.lt_or_le most 0 with hm | hm
  · have m1 : max most 0 = 0 := by omega
    have m2 : min (u : Int) (0 : Int) = 0 := by omega
    have g1 : (0 : Int) ≤ (y.c : Int) := by omega
    have HV := Lib.hid (show outQ y.x (most) = y.x.os.take (0) by rw [hv]; congr 1; omega)
    obtain ⟨X, hX⟩ : ∃ X, y.x.os.take (0) = X := ⟨_, rfl⟩
    have hXl : X.length = 0 := by rw [← hX, List.length_take]; omega
    have HX := Lib.hid (show outQ y.x (most) = X by rw [HV.out, hX])
    have CC := Lib.hid (fun (wx : World) (h : y.ok wx) => by
      have h2 := SlV.cutO (m := 0) h (by omega)
      rw [hX] at h2
      have h3 := cloneOp_any y.A y.c X wx (by omega) h2
      rw [hXl] at h3
      exact (h3 : Calls Tryz.prog 59 #[.slice y.A (0) y.c] wx fun e w' => ∃ A' c', e = .returned (.slice A' (0) c') ∧ SlV opE w' A' c' X ∧ Frs wx.heap.size A' ∧ Below wx.heap.size wx w'))
    have HXL := Lib.hid hXl
    clear hX hXl hv HV
    go_enter Tryz.func43, Tryz.ntmps43
    go_wp2_with (first | (refine El.load quRow rfl _ rfl w.heap.size 0 rfl y hP.at #[.int .i64 y.x.f, .int .i64 y.x.g, .slice y.A y.x.os.length y.c] rfl ?_) | fail)
    refine (CU.out _).mono ?_
    generalize w.alloc (.cells #[.int .i64 y.x.f, .int .i64 y.x.g, .slice y.A y.x.os.length y.c] 33) = W at *
    obtain ⟨n1, h1⟩ : ∃ n, w.heap.size = n := ⟨_, rfl⟩
    rw [h1] at hP ⊢
    clear h1
    rintro r w1 ⟨rfl, hb1⟩
    replace hP := hP.below hb1
    replace hB := hB.trans (hb1.mono hB.size)
    replace hok := hok.below hb1
    clear hb1 CU p0 p1 p2
    obtain ⟨p0, p1, p2⟩ := quIn3 hP
    go_wp2_with fail
    refine (CC.out _ hok).mono ?_
    rintro r w2 ⟨A', c', rfl, hS, _, hb2⟩
    replace hB := hB.trans (hb2.mono hB.size)
    clear hb2 CC
    go_wp2_with fail
    go_ret
    exact ⟨A', c', by rw [HX.out, HXL.out]; rfl, by rw [HX.out]; exact hS, hB⟩
  · obtain ⟨M, rfl⟩ : ∃ M : Nat, most = M := ⟨most.toNat, by omega⟩
    have m1 : max (M : Int) 0 = (M : Int) := by omega
    rcases Nat.lt_or_ge u M with hW | hW
    · have m2 : min (u : Int) (M : Int) = (u : Int) := by omega
      have g1 : (u : Int) ≤ (y.c : Int) := by omega
      have HV := Lib.hid (show outQ y.x ((M : Int)) = y.x.os.take (u) by rw [hv]; congr 1; omega)
      obtain ⟨X, hX⟩ : ∃ X, y.x.os.take (u) = X := ⟨_, rfl⟩
      have hXl : X.length = u := by rw [← hX, List.length_take]; omega
      have HX := Lib.hid (show outQ y.x ((M : Int)) = X by rw [HV.out, hX])
      have CC := Lib.hid (fun (wx : World) (h : y.ok wx) => by
        have h2 := SlV.cutO (m := u) h (by omega)
        rw [hX] at h2
        have h3 := cloneOp_any y.A y.c X wx (by omega) h2
        rw [hXl] at h3
        exact (h3 : Calls Tryz.prog 59 #[.slice y.A (u) y.c] wx fun e w' => ∃ A' c', e = .returned (.slice A' (u) c') ∧ SlV opE w' A' c' X ∧ Frs wx.heap.size A' ∧ Below wx.heap.size wx w'))
      have HXL := Lib.hid hXl
      clear hX hXl hv HV
      go_enter Tryz.func43, Tryz.ntmps43
      go_wp2_with (first | (refine El.load quRow rfl _ rfl w.heap.size 0 rfl y hP.at #[.int .i64 y.x.f, .int .i64 y.x.g, .slice y.A y.x.os.length y.c] rfl ?_) | fail)
      refine (CU.out _).mono ?_
      generalize w.alloc (.cells #[.int .i64 y.x.f, .int .i64 y.x.g, .slice y.A y.x.os.length y.c] 33) = W at *
      obtain ⟨n1, h1⟩ : ∃ n, w.heap.size = n := ⟨_, rfl⟩
      rw [h1] at hP ⊢
      clear h1
      rintro r w1 ⟨rfl, hb1⟩
      replace hP := hP.below hb1
      replace hB := hB.trans (hb1.mono hB.size)
      replace hok := hok.below hb1
      clear hb1 CU p0 p1 p2
      obtain ⟨p0, p1, p2⟩ := quIn3 hP
      go_wp2_with fail
      refine (CC.out _ hok).mono ?_
      rintro r w2 ⟨A', c', rfl, hS, _, hb2⟩
      replace hB := hB.trans (hb2.mono hB.size)
      clear hb2 CC
      go_wp2_with fail
      go_ret
      exact ⟨A', c', by rw [HX.out, HXL.out]; rfl, by rw [HX.out]; exact hS, hB⟩
    · have m2 : min (u : Int) (M : Int) = (M : Int) := by omega
      have g1 : (M : Int) ≤ (y.c : Int) := by omega
      have HV := Lib.hid (show outQ y.x ((M : Int)) = y.x.os.take (M) by rw [hv]; congr 1; omega)
      obtain ⟨X, hX⟩ : ∃ X, y.x.os.take (M) = X := ⟨_, rfl⟩
      have hXl : X.length = M := by rw [← hX, List.length_take]; omega
      have HX := Lib.hid (show outQ y.x ((M : Int)) = X by rw [HV.out, hX])
      have CC := Lib.hid (fun (wx : World) (h : y.ok wx) => by
        have h2 := SlV.cutO (m := M) h (by omega)
        rw [hX] at h2
        have h3 := cloneOp_any y.A y.c X wx (by omega) h2
        rw [hXl] at h3
        exact (h3 : Calls Tryz.prog 59 #[.slice y.A (M) y.c] wx fun e w' => ∃ A' c', e = .returned (.slice A' (M) c') ∧ SlV opE w' A' c' X ∧ Frs wx.heap.size A' ∧ Below wx.heap.size wx w'))
      have HXL := Lib.hid hXl
      clear hX hXl hv HV
      go_enter Tryz.func43, Tryz.ntmps43
      go_wp2_with (first | (refine El.load quRow rfl _ rfl w.heap.size 0 rfl y hP.at #[.int .i64 y.x.f, .int .i64 y.x.g, .slice y.A y.x.os.length y.c] rfl ?_) | fail)
      refine (CU.out _).mono ?_
      generalize w.alloc (.cells #[.int .i64 y.x.f, .int .i64 y.x.g, .slice y.A y.x.os.length y.c] 33) = W at *
      obtain ⟨n1, h1⟩ : ∃ n, w.heap.size = n := ⟨_, rfl⟩
      rw [h1] at hP ⊢
      clear h1
      rintro r w1 ⟨rfl, hb1⟩
      replace hP := hP.below hb1
      replace hB := hB.trans (hb1.mono hB.size)
      replace hok := hok.below hb1
      clear hb1 CU p0 p1 p2
      obtain ⟨p0, p1, p2⟩ := quIn3 hP
      go_wp2_with fail
      refine (CC.out _ hok).mono ?_
      rintro r w2 ⟨A', c', rfl, hS, _, hb2⟩
      replace hB := hB.trans (hb2.mono hB.size)
      clear hb2 CC
      go_wp2_with fail
      go_ret
      exact ⟨A', c', by rw [HX.out, HXL.out]; rfl, by rw [HX.out]; exact hS, hB⟩
end Go.Proofs.YtdcjffajmckleaaGreatDoor

/- The program's queues: Push. -/
namespace Go.Proofs.YtdcjffajmckleaaGreatDoor
open Go.RowKit Nam Cod

set_option maxRecDepth 100000 in
set_option maxHeartbeats 4000000 in
theorem quPush_any (y : Qw) (o : Mv) (w : World) (hn : QuN y.x) (hok : y.ok w) :
    Calls Tryz.prog 26 #[.agg #[.int .i64 y.x.f, .int .i64 y.x.g, .slice y.A y.x.os.length y.c], .agg #[.int .i64 o.C, .int .i64 o.D, .int .i64 o.I, .int .i64 o.M, .int .i64 o.K, .int .i64 o.U, .string o.s]] w fun r w' => ∃ z : Qw, r = .returned (.agg #[.int .i64 z.x.f, .int .i64 z.x.g, .slice z.A z.x.os.length z.c]) ∧ z.x = pushQ y.x o ∧ z.ok w' ∧ Below w.heap.size w w' ∧ Near w.heap.size y z := by
  have hl := hn.l
  clear hn
  have hP : quE.In (((w.alloc (.cells #[.int .i64 y.x.f, .int .i64 y.x.g, .slice y.A y.x.os.length y.c] 33)).alloc (.cells #[.int .i64 o.C, .int .i64 o.D, .int .i64 o.I, .int .i64 o.M, .int .i64 o.K, .int .i64 o.U, .string o.s] 55)).alloc (.cells #[.int .i64 0, .int .i64 0, .slice none 0 0] 33)) w.heap.size y := ((El.In.new (E := quE) w y _ rfl).alloc _).alloc _
  have hE : opE.In (((w.alloc (.cells #[.int .i64 y.x.f, .int .i64 y.x.g, .slice y.A y.x.os.length y.c] 33)).alloc (.cells #[.int .i64 o.C, .int .i64 o.D, .int .i64 o.I, .int .i64 o.M, .int .i64 o.K, .int .i64 o.U, .string o.s] 55)).alloc (.cells #[.int .i64 0, .int .i64 0, .slice none 0 0] 33)) (w.alloc (.cells #[.int .i64 y.x.f, .int .i64 y.x.g, .slice y.A y.x.os.length y.c] 33)).heap.size o := (El.In.new (E := opE) (w.alloc (.cells #[.int .i64 y.x.f, .int .i64 y.x.g, .slice y.A y.x.os.length y.c] 33)) o _ rfl).alloc _
  have hZ : quE.In (((w.alloc (.cells #[.int .i64 y.x.f, .int .i64 y.x.g, .slice y.A y.x.os.length y.c] 33)).alloc (.cells #[.int .i64 o.C, .int .i64 o.D, .int .i64 o.I, .int .i64 o.M, .int .i64 o.K, .int .i64 o.U, .string o.s] 55)).alloc (.cells #[.int .i64 0, .int .i64 0, .slice none 0 0] 33)) ((w.alloc (.cells #[.int .i64 y.x.f, .int .i64 y.x.g, .slice y.A y.x.os.length y.c] 33)).alloc (.cells #[.int .i64 o.C, .int .i64 o.D, .int .i64 o.I, .int .i64 o.M, .int .i64 o.K, .int .i64 o.U, .string o.s] 55)).heap.size zeroQw := El.In.new (E := quE) ((w.alloc (.cells #[.int .i64 y.x.f, .int .i64 y.x.g, .slice y.A y.x.os.length y.c] 33)).alloc (.cells #[.int .i64 o.C, .int .i64 o.D, .int .i64 o.I, .int .i64 o.M, .int .i64 o.K, .int .i64 o.U, .string o.s] 55)) zeroQw _ rfl
  rw [alloc_size] at hE
  rw [alloc_size, alloc_size] at hZ
  have hB := below_alloc (below_alloc (below_alloc (Below.refl w.heap.size w) (.cells #[.int .i64 y.x.f, .int .i64 y.x.g, .slice y.A y.x.os.length y.c] 33)) (.cells #[.int .i64 o.C, .int .i64 o.D, .int .i64 o.I, .int .i64 o.M, .int .i64 o.K, .int .i64 o.U, .string o.s] 55)) (.cells #[.int .i64 0, .int .i64 0, .slice none 0 0] 33)
  replace hok := hok.below hB
  have hVs : (((w.alloc (.cells #[.int .i64 y.x.f, .int .i64 y.x.g, .slice y.A y.x.os.length y.c] 33)).alloc (.cells #[.int .i64 o.C, .int .i64 o.D, .int .i64 o.I, .int .i64 o.M, .int .i64 o.K, .int .i64 o.U, .string o.s] 55)).alloc (.cells #[.int .i64 0, .int .i64 0, .slice none 0 0] 33)).heap.size = w.heap.size + 1 + 1 + 1 := by rw [alloc_size, alloc_size, alloc_size]
  go_enter Tryz.func26, Tryz.ntmps26
  go_wp2_with fail
  generalize ((w.alloc (.cells #[.int .i64 y.x.f, .int .i64 y.x.g, .slice y.A y.x.os.length y.c] 33)).alloc (.cells #[.int .i64 o.C, .int .i64 o.D, .int .i64 o.I, .int .i64 o.M, .int .i64 o.K, .int .i64 o.U, .string o.s] 55)).alloc (.cells #[.int .i64 0, .int .i64 0, .slice none 0 0] 33) = V at *
  obtain ⟨n3, h3⟩ : ∃ n, w.heap.size + 1 + 1 = n := ⟨_, rfl⟩
  obtain ⟨n2, h2⟩ : ∃ n, w.heap.size + 1 = n := ⟨_, rfl⟩
  obtain ⟨n1, h1⟩ : ∃ n, w.heap.size = n := ⟨_, rfl⟩
  rw [h3] at hZ hVs ⊢
  rw [h2] at hE ⊢
  rw [h1] at hP ⊢
  have hwn1 : w.heap.size ≤ n1 := by omega
  have hwn3 : w.heap.size ≤ n3 := by omega
  have hn13 : n1 ≠ n3 := by omega
  clear h1 h2 h3
  have hb1 := below_alloc (Below.refl V.heap.size V) (.cells #[.int .i64 o.C, .int .i64 o.D, .int .i64 o.I, .int .i64 o.M, .int .i64 o.K, .int .i64 o.U, .string o.s] 55)
  have hT : opE.Sl (V.alloc (.cells #[.int .i64 o.C, .int .i64 o.D, .int .i64 o.I, .int .i64 o.M, .int .i64 o.K, .int .i64 o.U, .string o.s] 55)) (some ⟨V.heap.size, 0, none⟩) [o] := (El.In.new (E := opE) V o _ rfl).sl
  have hVs2 : (V.alloc (.cells #[.int .i64 o.C, .int .i64 o.D, .int .i64 o.I, .int .i64 o.M, .int .i64 o.K, .int .i64 o.U, .string o.s] 55)).heap.size = n3 + 1 + 1 := by rw [alloc_size, hVs]
  have hb2 := below_alloc hb1 (.cells #[.slice y.A y.x.os.length y.c, .slice (some ⟨V.heap.size, 0, none⟩) 1 1] 31)
  have hT2 := hT.below (below_alloc (Below.refl _ (V.alloc (.cells #[.int .i64 o.C, .int .i64 o.D, .int .i64 o.I, .int .i64 o.M, .int .i64 o.K, .int .i64 o.U, .string o.s] 55))) (.cells #[.slice y.A y.x.os.length y.c, .slice (some ⟨V.heap.size, 0, none⟩) 1 1] 31))
  have hok2 := hok.below hb2
  have hcells : ∀ j, j < 2 → ((V.alloc (.cells #[.int .i64 o.C, .int .i64 o.D, .int .i64 o.I, .int .i64 o.M, .int .i64 o.K, .int .i64 o.U, .string o.s] 55)).alloc (.cells #[.slice y.A y.x.os.length y.c, .slice (some ⟨V.heap.size, 0, none⟩) 1 1] 31)).cell? ⟨(V.alloc (.cells #[.int .i64 o.C, .int .i64 o.D, .int .i64 o.I, .int .i64 o.M, .int .i64 o.K, .int .i64 o.U, .string o.s] 55)).heap.size, j, none⟩ = some (.slice (pickQ y.A (some ⟨V.heap.size, 0, none⟩) j) (pickQ y.x.os [o] j).length (pickQ y.c 1 j)) := fun j hj => by
    match j, hj with
    | 0, _ => show _ = some (Value.slice y.A y.x.os.length y.c); go_simp
    | 1, _ => show _ = some (Value.slice (some ⟨V.heap.size, 0, none⟩) 1 1); go_simp
  have hcat : catE (pickQ y.x.os [o]) 2 = y.x.os ++ [o] := by
    show ([] ++ y.x.os) ++ [o] = _
    rw [List.nil_append]
  have CC := concatQ2_any (V.alloc (.cells #[.int .i64 o.C, .int .i64 o.D, .int .i64 o.I, .int .i64 o.M, .int .i64 o.K, .int .i64 o.U, .string o.s] 55)).heap.size (pickQ y.x.os [o]) (pickQ y.A (some ⟨V.heap.size, 0, none⟩)) (pickQ y.c 1) _ hcells
    (fun j hj => by
      match j, hj with
      | 0, _ => exact hok2.1
      | 1, _ => exact hT2)
    (fun j hj => by
      match j, hj with
      | 0, _ => exact hok2.2.1
      | 1, _ => exact fun e => by cases e)
    (by rw [hcat, List.length_append, List.length_singleton]; omega) (by rw [alloc_size (V.alloc (.cells #[.int .i64 o.C, .int .i64 o.D, .int .i64 o.I, .int .i64 o.M, .int .i64 o.K, .int .i64 o.U, .string o.s] 55))]; omega)
  rw [hcat, hVs2, hVs] at CC
  replace CC := Lib.hid CC
  replace hb1 := hb2
  replace hB := below_then hB hb2
  clear hcells hcat hok2 hT2 hT hok hVs2
  obtain ⟨p0, p1, p2⟩ := quIn3 hP
  go_wp2_with (first | (refine El.load opRow rfl _ rfl n2 0 rfl o hE.at #[.int .i64 o.C, .int .i64 o.D, .int .i64 o.I, .int .i64 o.M, .int .i64 o.K, .int .i64 o.U, .string o.s] rfl ?_) | fail)
  refine CC.out.mono ?_
  rintro r w3 ⟨A', c', rfl, hS, hfr, hb3⟩
  clear CC p0 p1 p2 hb2
  rw [← hVs] at hb3
  have hfr' : Frs w.heap.size A' := hfr.mono (by rw [alloc_size, alloc_size, hVs]; omega)
  obtain ⟨X, hX⟩ : ∃ X, y.x.os ++ [o] = X := ⟨_, rfl⟩
  rw [hX] at hS ⊢
  have HX := Lib.hid (show (⟨y.x.f, y.x.g, X⟩ : Qu) = pushQ y.x o by rw [← hX]; rfl)
  clear hX hfr
  replace hP := (hP.below hb1).below hb3
  replace hZ := (hZ.below hb1).below hb3
  replace hB := below_then hB hb3
  clear hb1 hb3 hVs hE
  obtain ⟨p0, p1, p2⟩ := quIn3 hP
  have pf := hP.frozen
  go_upto_region 2 with fail
  have hS1 := SlV.keepO hS (by_cell w3 n1 2 (.slice A' X.length c')) (qu_off hS.1 hP)
  replace hP := hP.put ⟨A', c', ⟨y.x.f, y.x.g, X⟩⟩ 2 (.slice A' X.length c') rfl
  replace hZ := hZ.other n1 2 (.slice A' X.length c') hn13.symm
  replace hB := hB.grown (by_cell w3 n1 2 (.slice A' X.length c')) hB.size (fun k e => by have := Option.some.inj e; omega)
  clear p0 p1 p2 pf hS
  generalize w3.setCell ⟨n1, 2, none⟩ (.slice A' X.length c') = w4 at *
  go_wp2_with (first | (refine El.load quRow rfl _ rfl n1 0 rfl ⟨A', c', ⟨y.x.f, y.x.g, X⟩⟩ hP.at #[.int .i64 y.x.f, .int .i64 y.x.g, .slice A' X.length c'] rfl ?_) | (refine El.store quRow rfl _ _ rfl n3 ⟨A', c', ⟨y.x.f, y.x.g, X⟩⟩ #[.int .i64 y.x.f, .int .i64 y.x.g, .slice A' X.length c'] rfl rfl rfl zeroQw hZ ?_) | fail)
  refine El.ret1 quRow (hZ.set ⟨A', c', ⟨y.x.f, y.x.g, X⟩⟩ _ rfl) rfl rfl rfl _ rfl ?_
  exact ⟨⟨A', c', ⟨y.x.f, y.x.g, X⟩⟩, rfl, HX.out, SlV.keepO hS1 (by_row _ n3 _) (qu_off hS1.1 hZ), below_setRow hB hwn3 _, near_new hfr'⟩
end Go.Proofs.YtdcjffajmckleaaGreatDoor

/- The program's Edit. -/
namespace Go.Proofs.YtdcjffajmckleaaGreatDoor
open Go.RowKit Nam Cod Tre Pst Pln

theorem mk_edit {x : Dv} (h : DvR x) {k u : Int} {s : ByteArray} (hp : placeB k u s = true) : mkB x.clock x.node x.inc (x.sent + 1) k u s = true ∧ nextC x.clock x.node = x.clock + 1 ∧ nextD x.clock x.node = x.node := by
  have h1 := h.clock
  have h2 := h.node
  have h3 := h.inc
  have h4 := h.sent
  have hr : (rightB x.clock x.node && decide (x.clock < 1099511627776)) = true := by
    unfold rightB
    simp only [Bool.and_eq_true, decide_eq_true_iff]
    omega
  have e2 : nextC x.clock x.node = x.clock + 1 := by unfold nextC; rw [if_pos hr]
  have e3 : nextD x.clock x.node = x.node := by unfold nextD; rw [if_pos hr]
  refine ⟨?_, e2, e3⟩
  unfold mkB
  rw [e2, e3, opB_place (by omega) h2 (by omega) (by omega), hp, Bool.and_true]
  exact hr
theorem addV_tt (q : Pv) (m : Mv) : (addV q m).1.t = q.t := by
  unfold addV
  split
  · rfl
  · split <;> rfl
theorem ed_boxes (p : Pnw) (x : Dw) (k u : Int) (s : ByteArray) (w : World) (hx : x.ok w) :
    pnE.In ((((w.alloc (.cells #[.slice p.A p.p.u.length p.c, .int .i64 p.p.q, .int .i64 p.p.r, .int .i64 p.p.b, .int .i64 p.p.l, .int .i64 p.p.w, .int .i64 p.p.c, .int .i64 p.p.k, .int .i64 p.p.i] 26)).alloc (.cells #[.int .i64 x.node, .int .i64 x.boot, .int .i64 x.above, .int .i64 x.pos, .int .i64 x.y.t, .int .i64 x.pos, .slice none 0 0, .int .i64 x.q.f, .int .i64 x.q.g, .slice x.qA x.q.os.length x.qc, .slice none 0 0, .slice none 0 0, .slice none 0 0, .slice none 0 0, .slice x.y.bA x.y.base.length x.y.bc, .int .i64 x.y.t, .slice x.y.oA x.y.ops.length x.y.oc, .slice x.y.uA x.y.us.length x.y.uc, .slice x.y.wA x.y.now.length x.y.wc, .slice x.cA x.l.length x.cc, .int .i64 x.inc, .int .i64 x.mode, .int .i64 x.clock, .int .i64 x.sent, .slice x.pA 0 x.pc, .int .i64 x.late] 44)).alloc (.cells #[.int .i64 k, .int .i64 u, .string s] 50)).alloc (.cells #[.int .i64 0, .int .i64 0, .int .i64 0, .int .i64 0, .int .i64 0, .int .i64 0, .slice none 0 0, .int .i64 0, .int .i64 0, .slice none 0 0, .slice none 0 0, .slice none 0 0, .slice none 0 0, .slice none 0 0, .slice none 0 0, .int .i64 0, .slice none 0 0, .slice none 0 0, .slice none 0 0, .slice none 0 0, .int .i64 0, .int .i64 0, .int .i64 0, .int .i64 0, .slice none 0 0, .int .i64 0] 44)) w.heap.size p ∧ dzE.In ((((w.alloc (.cells #[.slice p.A p.p.u.length p.c, .int .i64 p.p.q, .int .i64 p.p.r, .int .i64 p.p.b, .int .i64 p.p.l, .int .i64 p.p.w, .int .i64 p.p.c, .int .i64 p.p.k, .int .i64 p.p.i] 26)).alloc (.cells #[.int .i64 x.node, .int .i64 x.boot, .int .i64 x.above, .int .i64 x.pos, .int .i64 x.y.t, .int .i64 x.pos, .slice none 0 0, .int .i64 x.q.f, .int .i64 x.q.g, .slice x.qA x.q.os.length x.qc, .slice none 0 0, .slice none 0 0, .slice none 0 0, .slice none 0 0, .slice x.y.bA x.y.base.length x.y.bc, .int .i64 x.y.t, .slice x.y.oA x.y.ops.length x.y.oc, .slice x.y.uA x.y.us.length x.y.uc, .slice x.y.wA x.y.now.length x.y.wc, .slice x.cA x.l.length x.cc, .int .i64 x.inc, .int .i64 x.mode, .int .i64 x.clock, .int .i64 x.sent, .slice x.pA 0 x.pc, .int .i64 x.late] 44)).alloc (.cells #[.int .i64 k, .int .i64 u, .string s] 50)).alloc (.cells #[.int .i64 0, .int .i64 0, .int .i64 0, .int .i64 0, .int .i64 0, .int .i64 0, .slice none 0 0, .int .i64 0, .int .i64 0, .slice none 0 0, .slice none 0 0, .slice none 0 0, .slice none 0 0, .slice none 0 0, .slice none 0 0, .int .i64 0, .slice none 0 0, .slice none 0 0, .slice none 0 0, .slice none 0 0, .int .i64 0, .int .i64 0, .int .i64 0, .int .i64 0, .slice none 0 0, .int .i64 0] 44)) (w.heap.size + 1) x.z ∧ plE.In ((((w.alloc (.cells #[.slice p.A p.p.u.length p.c, .int .i64 p.p.q, .int .i64 p.p.r, .int .i64 p.p.b, .int .i64 p.p.l, .int .i64 p.p.w, .int .i64 p.p.c, .int .i64 p.p.k, .int .i64 p.p.i] 26)).alloc (.cells #[.int .i64 x.node, .int .i64 x.boot, .int .i64 x.above, .int .i64 x.pos, .int .i64 x.y.t, .int .i64 x.pos, .slice none 0 0, .int .i64 x.q.f, .int .i64 x.q.g, .slice x.qA x.q.os.length x.qc, .slice none 0 0, .slice none 0 0, .slice none 0 0, .slice none 0 0, .slice x.y.bA x.y.base.length x.y.bc, .int .i64 x.y.t, .slice x.y.oA x.y.ops.length x.y.oc, .slice x.y.uA x.y.us.length x.y.uc, .slice x.y.wA x.y.now.length x.y.wc, .slice x.cA x.l.length x.cc, .int .i64 x.inc, .int .i64 x.mode, .int .i64 x.clock, .int .i64 x.sent, .slice x.pA 0 x.pc, .int .i64 x.late] 44)).alloc (.cells #[.int .i64 k, .int .i64 u, .string s] 50)).alloc (.cells #[.int .i64 0, .int .i64 0, .int .i64 0, .int .i64 0, .int .i64 0, .int .i64 0, .slice none 0 0, .int .i64 0, .int .i64 0, .slice none 0 0, .slice none 0 0, .slice none 0 0, .slice none 0 0, .slice none 0 0, .slice none 0 0, .int .i64 0, .slice none 0 0, .slice none 0 0, .slice none 0 0, .slice none 0 0, .int .i64 0, .int .i64 0, .int .i64 0, .int .i64 0, .slice none 0 0, .int .i64 0] 44)) (w.heap.size + 2) ⟨k, u, s⟩ ∧ dvE.In ((((w.alloc (.cells #[.slice p.A p.p.u.length p.c, .int .i64 p.p.q, .int .i64 p.p.r, .int .i64 p.p.b, .int .i64 p.p.l, .int .i64 p.p.w, .int .i64 p.p.c, .int .i64 p.p.k, .int .i64 p.p.i] 26)).alloc (.cells #[.int .i64 x.node, .int .i64 x.boot, .int .i64 x.above, .int .i64 x.pos, .int .i64 x.y.t, .int .i64 x.pos, .slice none 0 0, .int .i64 x.q.f, .int .i64 x.q.g, .slice x.qA x.q.os.length x.qc, .slice none 0 0, .slice none 0 0, .slice none 0 0, .slice none 0 0, .slice x.y.bA x.y.base.length x.y.bc, .int .i64 x.y.t, .slice x.y.oA x.y.ops.length x.y.oc, .slice x.y.uA x.y.us.length x.y.uc, .slice x.y.wA x.y.now.length x.y.wc, .slice x.cA x.l.length x.cc, .int .i64 x.inc, .int .i64 x.mode, .int .i64 x.clock, .int .i64 x.sent, .slice x.pA 0 x.pc, .int .i64 x.late] 44)).alloc (.cells #[.int .i64 k, .int .i64 u, .string s] 50)).alloc (.cells #[.int .i64 0, .int .i64 0, .int .i64 0, .int .i64 0, .int .i64 0, .int .i64 0, .slice none 0 0, .int .i64 0, .int .i64 0, .slice none 0 0, .slice none 0 0, .slice none 0 0, .slice none 0 0, .slice none 0 0, .slice none 0 0, .int .i64 0, .slice none 0 0, .slice none 0 0, .slice none 0 0, .slice none 0 0, .int .i64 0, .int .i64 0, .int .i64 0, .int .i64 0, .slice none 0 0, .int .i64 0] 44)) (w.heap.size + 3) Dw.zero ∧ Below w.heap.size w ((((w.alloc (.cells #[.slice p.A p.p.u.length p.c, .int .i64 p.p.q, .int .i64 p.p.r, .int .i64 p.p.b, .int .i64 p.p.l, .int .i64 p.p.w, .int .i64 p.p.c, .int .i64 p.p.k, .int .i64 p.p.i] 26)).alloc (.cells #[.int .i64 x.node, .int .i64 x.boot, .int .i64 x.above, .int .i64 x.pos, .int .i64 x.y.t, .int .i64 x.pos, .slice none 0 0, .int .i64 x.q.f, .int .i64 x.q.g, .slice x.qA x.q.os.length x.qc, .slice none 0 0, .slice none 0 0, .slice none 0 0, .slice none 0 0, .slice x.y.bA x.y.base.length x.y.bc, .int .i64 x.y.t, .slice x.y.oA x.y.ops.length x.y.oc, .slice x.y.uA x.y.us.length x.y.uc, .slice x.y.wA x.y.now.length x.y.wc, .slice x.cA x.l.length x.cc, .int .i64 x.inc, .int .i64 x.mode, .int .i64 x.clock, .int .i64 x.sent, .slice x.pA 0 x.pc, .int .i64 x.late] 44)).alloc (.cells #[.int .i64 k, .int .i64 u, .string s] 50)).alloc (.cells #[.int .i64 0, .int .i64 0, .int .i64 0, .int .i64 0, .int .i64 0, .int .i64 0, .slice none 0 0, .int .i64 0, .int .i64 0, .slice none 0 0, .slice none 0 0, .slice none 0 0, .slice none 0 0, .slice none 0 0, .slice none 0 0, .int .i64 0, .slice none 0 0, .slice none 0 0, .slice none 0 0, .slice none 0 0, .int .i64 0, .int .i64 0, .int .i64 0, .int .i64 0, .slice none 0 0, .int .i64 0] 44)) ∧ x.ok ((((w.alloc (.cells #[.slice p.A p.p.u.length p.c, .int .i64 p.p.q, .int .i64 p.p.r, .int .i64 p.p.b, .int .i64 p.p.l, .int .i64 p.p.w, .int .i64 p.p.c, .int .i64 p.p.k, .int .i64 p.p.i] 26)).alloc (.cells #[.int .i64 x.node, .int .i64 x.boot, .int .i64 x.above, .int .i64 x.pos, .int .i64 x.y.t, .int .i64 x.pos, .slice none 0 0, .int .i64 x.q.f, .int .i64 x.q.g, .slice x.qA x.q.os.length x.qc, .slice none 0 0, .slice none 0 0, .slice none 0 0, .slice none 0 0, .slice x.y.bA x.y.base.length x.y.bc, .int .i64 x.y.t, .slice x.y.oA x.y.ops.length x.y.oc, .slice x.y.uA x.y.us.length x.y.uc, .slice x.y.wA x.y.now.length x.y.wc, .slice x.cA x.l.length x.cc, .int .i64 x.inc, .int .i64 x.mode, .int .i64 x.clock, .int .i64 x.sent, .slice x.pA 0 x.pc, .int .i64 x.late] 44)).alloc (.cells #[.int .i64 k, .int .i64 u, .string s] 50)).alloc (.cells #[.int .i64 0, .int .i64 0, .int .i64 0, .int .i64 0, .int .i64 0, .int .i64 0, .slice none 0 0, .int .i64 0, .int .i64 0, .slice none 0 0, .slice none 0 0, .slice none 0 0, .slice none 0 0, .slice none 0 0, .slice none 0 0, .int .i64 0, .slice none 0 0, .slice none 0 0, .slice none 0 0, .slice none 0 0, .int .i64 0, .int .i64 0, .int .i64 0, .int .i64 0, .slice none 0 0, .int .i64 0] 44)) := by
  have b0 := below_alloc (Below.refl w.heap.size w) (.cells #[.slice p.A p.p.u.length p.c, .int .i64 p.p.q, .int .i64 p.p.r, .int .i64 p.p.b, .int .i64 p.p.l, .int .i64 p.p.w, .int .i64 p.p.c, .int .i64 p.p.k, .int .i64 p.p.i] 26)
  have b1 := below_alloc (Below.refl (w.alloc (.cells #[.slice p.A p.p.u.length p.c, .int .i64 p.p.q, .int .i64 p.p.r, .int .i64 p.p.b, .int .i64 p.p.l, .int .i64 p.p.w, .int .i64 p.p.c, .int .i64 p.p.k, .int .i64 p.p.i] 26)).heap.size (w.alloc (.cells #[.slice p.A p.p.u.length p.c, .int .i64 p.p.q, .int .i64 p.p.r, .int .i64 p.p.b, .int .i64 p.p.l, .int .i64 p.p.w, .int .i64 p.p.c, .int .i64 p.p.k, .int .i64 p.p.i] 26))) (.cells #[.int .i64 x.node, .int .i64 x.boot, .int .i64 x.above, .int .i64 x.pos, .int .i64 x.y.t, .int .i64 x.pos, .slice none 0 0, .int .i64 x.q.f, .int .i64 x.q.g, .slice x.qA x.q.os.length x.qc, .slice none 0 0, .slice none 0 0, .slice none 0 0, .slice none 0 0, .slice x.y.bA x.y.base.length x.y.bc, .int .i64 x.y.t, .slice x.y.oA x.y.ops.length x.y.oc, .slice x.y.uA x.y.us.length x.y.uc, .slice x.y.wA x.y.now.length x.y.wc, .slice x.cA x.l.length x.cc, .int .i64 x.inc, .int .i64 x.mode, .int .i64 x.clock, .int .i64 x.sent, .slice x.pA 0 x.pc, .int .i64 x.late] 44)
  have b2 := below_alloc (Below.refl ((w.alloc (.cells #[.slice p.A p.p.u.length p.c, .int .i64 p.p.q, .int .i64 p.p.r, .int .i64 p.p.b, .int .i64 p.p.l, .int .i64 p.p.w, .int .i64 p.p.c, .int .i64 p.p.k, .int .i64 p.p.i] 26)).alloc (.cells #[.int .i64 x.node, .int .i64 x.boot, .int .i64 x.above, .int .i64 x.pos, .int .i64 x.y.t, .int .i64 x.pos, .slice none 0 0, .int .i64 x.q.f, .int .i64 x.q.g, .slice x.qA x.q.os.length x.qc, .slice none 0 0, .slice none 0 0, .slice none 0 0, .slice none 0 0, .slice x.y.bA x.y.base.length x.y.bc, .int .i64 x.y.t, .slice x.y.oA x.y.ops.length x.y.oc, .slice x.y.uA x.y.us.length x.y.uc, .slice x.y.wA x.y.now.length x.y.wc, .slice x.cA x.l.length x.cc, .int .i64 x.inc, .int .i64 x.mode, .int .i64 x.clock, .int .i64 x.sent, .slice x.pA 0 x.pc, .int .i64 x.late] 44)).heap.size ((w.alloc (.cells #[.slice p.A p.p.u.length p.c, .int .i64 p.p.q, .int .i64 p.p.r, .int .i64 p.p.b, .int .i64 p.p.l, .int .i64 p.p.w, .int .i64 p.p.c, .int .i64 p.p.k, .int .i64 p.p.i] 26)).alloc (.cells #[.int .i64 x.node, .int .i64 x.boot, .int .i64 x.above, .int .i64 x.pos, .int .i64 x.y.t, .int .i64 x.pos, .slice none 0 0, .int .i64 x.q.f, .int .i64 x.q.g, .slice x.qA x.q.os.length x.qc, .slice none 0 0, .slice none 0 0, .slice none 0 0, .slice none 0 0, .slice x.y.bA x.y.base.length x.y.bc, .int .i64 x.y.t, .slice x.y.oA x.y.ops.length x.y.oc, .slice x.y.uA x.y.us.length x.y.uc, .slice x.y.wA x.y.now.length x.y.wc, .slice x.cA x.l.length x.cc, .int .i64 x.inc, .int .i64 x.mode, .int .i64 x.clock, .int .i64 x.sent, .slice x.pA 0 x.pc, .int .i64 x.late] 44))) (.cells #[.int .i64 k, .int .i64 u, .string s] 50)
  have b3 := below_alloc (Below.refl (((w.alloc (.cells #[.slice p.A p.p.u.length p.c, .int .i64 p.p.q, .int .i64 p.p.r, .int .i64 p.p.b, .int .i64 p.p.l, .int .i64 p.p.w, .int .i64 p.p.c, .int .i64 p.p.k, .int .i64 p.p.i] 26)).alloc (.cells #[.int .i64 x.node, .int .i64 x.boot, .int .i64 x.above, .int .i64 x.pos, .int .i64 x.y.t, .int .i64 x.pos, .slice none 0 0, .int .i64 x.q.f, .int .i64 x.q.g, .slice x.qA x.q.os.length x.qc, .slice none 0 0, .slice none 0 0, .slice none 0 0, .slice none 0 0, .slice x.y.bA x.y.base.length x.y.bc, .int .i64 x.y.t, .slice x.y.oA x.y.ops.length x.y.oc, .slice x.y.uA x.y.us.length x.y.uc, .slice x.y.wA x.y.now.length x.y.wc, .slice x.cA x.l.length x.cc, .int .i64 x.inc, .int .i64 x.mode, .int .i64 x.clock, .int .i64 x.sent, .slice x.pA 0 x.pc, .int .i64 x.late] 44)).alloc (.cells #[.int .i64 k, .int .i64 u, .string s] 50)).heap.size (((w.alloc (.cells #[.slice p.A p.p.u.length p.c, .int .i64 p.p.q, .int .i64 p.p.r, .int .i64 p.p.b, .int .i64 p.p.l, .int .i64 p.p.w, .int .i64 p.p.c, .int .i64 p.p.k, .int .i64 p.p.i] 26)).alloc (.cells #[.int .i64 x.node, .int .i64 x.boot, .int .i64 x.above, .int .i64 x.pos, .int .i64 x.y.t, .int .i64 x.pos, .slice none 0 0, .int .i64 x.q.f, .int .i64 x.q.g, .slice x.qA x.q.os.length x.qc, .slice none 0 0, .slice none 0 0, .slice none 0 0, .slice none 0 0, .slice x.y.bA x.y.base.length x.y.bc, .int .i64 x.y.t, .slice x.y.oA x.y.ops.length x.y.oc, .slice x.y.uA x.y.us.length x.y.uc, .slice x.y.wA x.y.now.length x.y.wc, .slice x.cA x.l.length x.cc, .int .i64 x.inc, .int .i64 x.mode, .int .i64 x.clock, .int .i64 x.sent, .slice x.pA 0 x.pc, .int .i64 x.late] 44)).alloc (.cells #[.int .i64 k, .int .i64 u, .string s] 50))) (.cells #[.int .i64 0, .int .i64 0, .int .i64 0, .int .i64 0, .int .i64 0, .int .i64 0, .slice none 0 0, .int .i64 0, .int .i64 0, .slice none 0 0, .slice none 0 0, .slice none 0 0, .slice none 0 0, .slice none 0 0, .slice none 0 0, .int .i64 0, .slice none 0 0, .slice none 0 0, .slice none 0 0, .slice none 0 0, .int .i64 0, .int .i64 0, .int .i64 0, .int .i64 0, .slice none 0 0, .int .i64 0] 44)
  have i0 : pnE.In (w.alloc (.cells #[.slice p.A p.p.u.length p.c, .int .i64 p.p.q, .int .i64 p.p.r, .int .i64 p.p.b, .int .i64 p.p.l, .int .i64 p.p.w, .int .i64 p.p.c, .int .i64 p.p.k, .int .i64 p.p.i] 26)) w.heap.size p := El.In.new (E := pnE) w p _ rfl
  have i1 : dzE.In ((w.alloc (.cells #[.slice p.A p.p.u.length p.c, .int .i64 p.p.q, .int .i64 p.p.r, .int .i64 p.p.b, .int .i64 p.p.l, .int .i64 p.p.w, .int .i64 p.p.c, .int .i64 p.p.k, .int .i64 p.p.i] 26)).alloc (.cells #[.int .i64 x.node, .int .i64 x.boot, .int .i64 x.above, .int .i64 x.pos, .int .i64 x.y.t, .int .i64 x.pos, .slice none 0 0, .int .i64 x.q.f, .int .i64 x.q.g, .slice x.qA x.q.os.length x.qc, .slice none 0 0, .slice none 0 0, .slice none 0 0, .slice none 0 0, .slice x.y.bA x.y.base.length x.y.bc, .int .i64 x.y.t, .slice x.y.oA x.y.ops.length x.y.oc, .slice x.y.uA x.y.us.length x.y.uc, .slice x.y.wA x.y.now.length x.y.wc, .slice x.cA x.l.length x.cc, .int .i64 x.inc, .int .i64 x.mode, .int .i64 x.clock, .int .i64 x.sent, .slice x.pA 0 x.pc, .int .i64 x.late] 44)) (w.alloc (.cells #[.slice p.A p.p.u.length p.c, .int .i64 p.p.q, .int .i64 p.p.r, .int .i64 p.p.b, .int .i64 p.p.l, .int .i64 p.p.w, .int .i64 p.p.c, .int .i64 p.p.k, .int .i64 p.p.i] 26)).heap.size x.z := El.In.new (E := dzE) _ x.z _ rfl
  have i2 : plE.In (((w.alloc (.cells #[.slice p.A p.p.u.length p.c, .int .i64 p.p.q, .int .i64 p.p.r, .int .i64 p.p.b, .int .i64 p.p.l, .int .i64 p.p.w, .int .i64 p.p.c, .int .i64 p.p.k, .int .i64 p.p.i] 26)).alloc (.cells #[.int .i64 x.node, .int .i64 x.boot, .int .i64 x.above, .int .i64 x.pos, .int .i64 x.y.t, .int .i64 x.pos, .slice none 0 0, .int .i64 x.q.f, .int .i64 x.q.g, .slice x.qA x.q.os.length x.qc, .slice none 0 0, .slice none 0 0, .slice none 0 0, .slice none 0 0, .slice x.y.bA x.y.base.length x.y.bc, .int .i64 x.y.t, .slice x.y.oA x.y.ops.length x.y.oc, .slice x.y.uA x.y.us.length x.y.uc, .slice x.y.wA x.y.now.length x.y.wc, .slice x.cA x.l.length x.cc, .int .i64 x.inc, .int .i64 x.mode, .int .i64 x.clock, .int .i64 x.sent, .slice x.pA 0 x.pc, .int .i64 x.late] 44)).alloc (.cells #[.int .i64 k, .int .i64 u, .string s] 50)) ((w.alloc (.cells #[.slice p.A p.p.u.length p.c, .int .i64 p.p.q, .int .i64 p.p.r, .int .i64 p.p.b, .int .i64 p.p.l, .int .i64 p.p.w, .int .i64 p.p.c, .int .i64 p.p.k, .int .i64 p.p.i] 26)).alloc (.cells #[.int .i64 x.node, .int .i64 x.boot, .int .i64 x.above, .int .i64 x.pos, .int .i64 x.y.t, .int .i64 x.pos, .slice none 0 0, .int .i64 x.q.f, .int .i64 x.q.g, .slice x.qA x.q.os.length x.qc, .slice none 0 0, .slice none 0 0, .slice none 0 0, .slice none 0 0, .slice x.y.bA x.y.base.length x.y.bc, .int .i64 x.y.t, .slice x.y.oA x.y.ops.length x.y.oc, .slice x.y.uA x.y.us.length x.y.uc, .slice x.y.wA x.y.now.length x.y.wc, .slice x.cA x.l.length x.cc, .int .i64 x.inc, .int .i64 x.mode, .int .i64 x.clock, .int .i64 x.sent, .slice x.pA 0 x.pc, .int .i64 x.late] 44)).heap.size ⟨k, u, s⟩ := El.In.new (E := plE) _ ⟨k, u, s⟩ _ rfl
  have i3 : dvE.In ((((w.alloc (.cells #[.slice p.A p.p.u.length p.c, .int .i64 p.p.q, .int .i64 p.p.r, .int .i64 p.p.b, .int .i64 p.p.l, .int .i64 p.p.w, .int .i64 p.p.c, .int .i64 p.p.k, .int .i64 p.p.i] 26)).alloc (.cells #[.int .i64 x.node, .int .i64 x.boot, .int .i64 x.above, .int .i64 x.pos, .int .i64 x.y.t, .int .i64 x.pos, .slice none 0 0, .int .i64 x.q.f, .int .i64 x.q.g, .slice x.qA x.q.os.length x.qc, .slice none 0 0, .slice none 0 0, .slice none 0 0, .slice none 0 0, .slice x.y.bA x.y.base.length x.y.bc, .int .i64 x.y.t, .slice x.y.oA x.y.ops.length x.y.oc, .slice x.y.uA x.y.us.length x.y.uc, .slice x.y.wA x.y.now.length x.y.wc, .slice x.cA x.l.length x.cc, .int .i64 x.inc, .int .i64 x.mode, .int .i64 x.clock, .int .i64 x.sent, .slice x.pA 0 x.pc, .int .i64 x.late] 44)).alloc (.cells #[.int .i64 k, .int .i64 u, .string s] 50)).alloc (.cells #[.int .i64 0, .int .i64 0, .int .i64 0, .int .i64 0, .int .i64 0, .int .i64 0, .slice none 0 0, .int .i64 0, .int .i64 0, .slice none 0 0, .slice none 0 0, .slice none 0 0, .slice none 0 0, .slice none 0 0, .slice none 0 0, .int .i64 0, .slice none 0 0, .slice none 0 0, .slice none 0 0, .slice none 0 0, .int .i64 0, .int .i64 0, .int .i64 0, .int .i64 0, .slice none 0 0, .int .i64 0] 44)) (((w.alloc (.cells #[.slice p.A p.p.u.length p.c, .int .i64 p.p.q, .int .i64 p.p.r, .int .i64 p.p.b, .int .i64 p.p.l, .int .i64 p.p.w, .int .i64 p.p.c, .int .i64 p.p.k, .int .i64 p.p.i] 26)).alloc (.cells #[.int .i64 x.node, .int .i64 x.boot, .int .i64 x.above, .int .i64 x.pos, .int .i64 x.y.t, .int .i64 x.pos, .slice none 0 0, .int .i64 x.q.f, .int .i64 x.q.g, .slice x.qA x.q.os.length x.qc, .slice none 0 0, .slice none 0 0, .slice none 0 0, .slice none 0 0, .slice x.y.bA x.y.base.length x.y.bc, .int .i64 x.y.t, .slice x.y.oA x.y.ops.length x.y.oc, .slice x.y.uA x.y.us.length x.y.uc, .slice x.y.wA x.y.now.length x.y.wc, .slice x.cA x.l.length x.cc, .int .i64 x.inc, .int .i64 x.mode, .int .i64 x.clock, .int .i64 x.sent, .slice x.pA 0 x.pc, .int .i64 x.late] 44)).alloc (.cells #[.int .i64 k, .int .i64 u, .string s] 50)).heap.size Dw.zero := El.In.new (E := dvE) _ Dw.zero _ rfl
  rw [alloc_size, alloc_size, alloc_size] at i3
  rw [alloc_size, alloc_size] at i2
  rw [alloc_size] at i1
  exact ⟨((i0.below b1).below b2).below b3, (i1.below b2).below b3, i2.below b3, i3, below_then (below_then (below_then b0 b1) b2) b3, (((hx.below b0).below b1).below b2).below b3⟩
set_option maxRecDepth 100000 in
set_option maxHeartbeats 8000000 in
theorem pEdit18_any (p : Pnw) (x : Dw) (t : Pl) (w : World) (hr : DvR x.v) (hs : t.s.size ≤ 9223372036854775807) (hx : x.ok w) :
    Calls Tryz.prog 9 #[.agg #[.slice p.A p.p.u.length p.c, .int .i64 p.p.q, .int .i64 p.p.r, .int .i64 p.p.b, .int .i64 p.p.l, .int .i64 p.p.w, .int .i64 p.p.c, .int .i64 p.p.k, .int .i64 p.p.i], .agg #[.int .i64 x.node, .int .i64 x.boot, .int .i64 x.above, .int .i64 x.pos, .int .i64 x.y.t, .int .i64 x.pos, .slice none 0 0, .int .i64 x.q.f, .int .i64 x.q.g, .slice x.qA x.q.os.length x.qc, .slice none 0 0, .slice none 0 0, .slice none 0 0, .slice none 0 0, .slice x.y.bA x.y.base.length x.y.bc, .int .i64 x.y.t, .slice x.y.oA x.y.ops.length x.y.oc, .slice x.y.uA x.y.us.length x.y.uc, .slice x.y.wA x.y.now.length x.y.wc, .slice x.cA x.l.length x.cc, .int .i64 x.inc, .int .i64 x.mode, .int .i64 x.clock, .int .i64 x.sent, .slice x.pA 0 x.pc, .int .i64 x.late], .agg #[.int .i64 t.n, .int .i64 t.u, .string t.s]] w fun e w' => ∃ (z : Dw) (n : Int), e = .returned (.tuple #[.agg #[.int .i64 z.node, .int .i64 z.boot, .int .i64 z.above, .int .i64 z.pos, .int .i64 z.y.t, .int .i64 z.pos, .slice none 0 0, .int .i64 z.q.f, .int .i64 z.q.g, .slice z.qA z.q.os.length z.qc, .slice none 0 0, .slice none 0 0, .slice none 0 0, .slice none 0 0, .slice z.y.bA z.y.base.length z.y.bc, .int .i64 z.y.t, .slice z.y.oA z.y.ops.length z.y.oc, .slice z.y.uA z.y.us.length z.y.uc, .slice z.y.wA z.y.now.length z.y.wc, .slice z.cA z.l.length z.cc, .int .i64 z.inc, .int .i64 z.mode, .int .i64 z.clock, .int .i64 z.sent, .slice z.pA 0 z.pc, .int .i64 z.late], .int .i64 n]) ∧ z.ok w' ∧ editD p.p.q p.p.i x.v t.n t.u t.s = (z.v, n) ∧ Below w.heap.size w w' := by
  obtain ⟨k, u, s⟩ := t
  replace hs : s.size ≤ 9223372036854775807 := hs
  have HR := Lib.hid hr
  have hy1 : x.y.ops.length ≤ 60 := hr.yl
  have hq1 : x.q.os.length ≤ 60 := hr.ql
  have CF := Lib.hid (fun (wx : World) (h : x.ok wx) => full18_any p x wx h (by omega) (by omega))
  have CA := Lib.hid (fun (m : Mv) (wx : World) (h : x.ok wx) => pAdd_any x.y m wx h.p hr.y (by omega))
  have CQ := Lib.hid (fun (m : Mv) (wx : World) (h : SlV opE wx x.qA x.qc x.q.os) => quPush_any x.Q m wx ⟨by have := hr.qf; show -1000000000000000 ≤ x.q.f ∧ x.q.f ≤ 1000000000000000; exact ⟨by have h2 : 0 ≤ x.q.f := this.1; omega, by have h2 : x.q.f ≤ 4294967296 := this.2; omega⟩, by have := hr.qg; exact ⟨by have h2 : 0 ≤ x.q.g := this.1; show -1000000000000000 ≤ x.q.g; omega, by have h2 : x.q.g ≤ 1099511627776 := this.2; show x.q.g ≤ 1000000000000000; omega⟩, by show x.q.os.length ≤ 50000; omega⟩ h)
  have CM := Lib.hid (fun (wx : World) => mayMove_any p k u s wx hs)
  have hk1 : 0 ≤ x.sent ∧ x.sent ≤ 4294967296 := hr.sent
  have hkc : 0 ≤ x.clock ∧ x.clock ≤ 4294967296 := hr.clock
  have hws : IntKind.i64.wrap (x.sent + 1) = x.sent + 1 := by rw [IntKind.wrap_i64]; omega
  have HWS := Lib.hid hws
  clear hr hws hk1 hkc hy1 hq1
  obtain ⟨hP, hE, hX, hR, hB, hok⟩ := ed_boxes p x k u s w hx
  clear hx
  go_enter Tryz.func9, Tryz.ntmps9
  go_upto_region 1 with (first | (refine wpList_alloc_dv rfl rfl ?_) | fail)
  generalize (((w.alloc (.cells #[.slice p.A p.p.u.length p.c, .int .i64 p.p.q, .int .i64 p.p.r, .int .i64 p.p.b, .int .i64 p.p.l, .int .i64 p.p.w, .int .i64 p.p.c, .int .i64 p.p.k, .int .i64 p.p.i] 26)).alloc (.cells #[.int .i64 x.node, .int .i64 x.boot, .int .i64 x.above, .int .i64 x.pos, .int .i64 x.y.t, .int .i64 x.pos, .slice none 0 0, .int .i64 x.q.f, .int .i64 x.q.g, .slice x.qA x.q.os.length x.qc, .slice none 0 0, .slice none 0 0, .slice none 0 0, .slice none 0 0, .slice x.y.bA x.y.base.length x.y.bc, .int .i64 x.y.t, .slice x.y.oA x.y.ops.length x.y.oc, .slice x.y.uA x.y.us.length x.y.uc, .slice x.y.wA x.y.now.length x.y.wc, .slice x.cA x.l.length x.cc, .int .i64 x.inc, .int .i64 x.mode, .int .i64 x.clock, .int .i64 x.sent, .slice x.pA 0 x.pc, .int .i64 x.late] 44)).alloc (.cells #[.int .i64 k, .int .i64 u, .string s] 50)).alloc (.cells #[.int .i64 0, .int .i64 0, .int .i64 0, .int .i64 0, .int .i64 0, .int .i64 0, .slice none 0 0, .int .i64 0, .int .i64 0, .slice none 0 0, .slice none 0 0, .slice none 0 0, .slice none 0 0, .slice none 0 0, .slice none 0 0, .int .i64 0, .slice none 0 0, .slice none 0 0, .slice none 0 0, .slice none 0 0, .int .i64 0, .int .i64 0, .int .i64 0, .int .i64 0, .slice none 0 0, .int .i64 0] 44) = W at *
  obtain ⟨n1, h1⟩ : ∃ n1, w.heap.size = n1 := ⟨_, rfl⟩
  obtain ⟨n2, h2⟩ : ∃ n2, w.heap.size + 1 = n2 := ⟨_, rfl⟩
  obtain ⟨n3, h3⟩ : ∃ n3, w.heap.size + 2 = n3 := ⟨_, rfl⟩
  obtain ⟨n4, h4⟩ : ∃ n4, w.heap.size + 3 = n4 := ⟨_, rfl⟩
  have hw2 : w.heap.size ≤ n2 := by omega
  have hw4 : w.heap.size ≤ n4 := by omega
  have e24 : n4 ≠ n2 := by omega
  have e32 : n3 ≠ n2 := by omega
  rw [h4] at hR ⊢
  rw [h3] at hX ⊢
  rw [h2] at hE ⊢
  rw [h1] at hP ⊢
  clear h1 h2 h3 h4
  go_wp2_with (first | (refine El.load pnRow rfl _ rfl n1 0 rfl p hP.at #[.slice p.A p.p.u.length p.c, .int .i64 p.p.q, .int .i64 p.p.r, .int .i64 p.p.b, .int .i64 p.p.l, .int .i64 p.p.w, .int .i64 p.p.c, .int .i64 p.p.k, .int .i64 p.p.i] rfl ?_) | (refine El.load plRow rfl _ rfl n3 0 rfl (⟨k, u, s⟩ : Pl) hX.at #[.int .i64 k, .int .i64 u, .string s] rfl ?_) | fail)
  refine (CM.out _).mono ?_
  rintro e w2 ⟨rfl, hb2⟩
  replace hP := hP.below hb2
  replace hE := hE.below hb2
  replace hX := hX.below hb2
  replace hR := hR.below hb2
  replace hok := hok.below hb2
  replace hB := below_then hB hb2
  clear hb2 CM
  rcases ha : argD p.p.i k u s with _ | _
  · have HV := Lib.hid (show editD p.p.q p.p.i x.v k u s = (x.v, 1) by unfold editD; rw [if_pos ha])
    clear ha
    go_wp2_with (first | (refine El.load dzRow rfl _ rfl n2 0 rfl x.z hE.at #[.int .i64 x.node, .int .i64 x.boot, .int .i64 x.above, .int .i64 x.pos, .int .i64 x.y.t, .int .i64 x.pos, .slice none 0 0, .int .i64 x.q.f, .int .i64 x.q.g, .slice x.qA x.q.os.length x.qc, .slice none 0 0, .slice none 0 0, .slice none 0 0, .slice none 0 0, .slice x.y.bA x.y.base.length x.y.bc, .int .i64 x.y.t, .slice x.y.oA x.y.ops.length x.y.oc, .slice x.y.uA x.y.us.length x.y.uc, .slice x.y.wA x.y.now.length x.y.wc, .slice x.cA x.l.length x.cc, .int .i64 x.inc, .int .i64 x.mode, .int .i64 x.clock, .int .i64 x.sent, .slice x.pA 0 x.pc, .int .i64 x.late] rfl ?_) | (refine El.store dvRow rfl _ _ rfl n4 x #[.int .i64 x.node, .int .i64 x.boot, .int .i64 x.above, .int .i64 x.pos, .int .i64 x.y.t, .int .i64 x.pos, .slice none 0 0, .int .i64 x.q.f, .int .i64 x.q.g, .slice x.qA x.q.os.length x.qc, .slice none 0 0, .slice none 0 0, .slice none 0 0, .slice none 0 0, .slice x.y.bA x.y.base.length x.y.bc, .int .i64 x.y.t, .slice x.y.oA x.y.ops.length x.y.oc, .slice x.y.uA x.y.us.length x.y.uc, .slice x.y.wA x.y.now.length x.y.wc, .slice x.cA x.l.length x.cc, .int .i64 x.inc, .int .i64 x.mode, .int .i64 x.clock, .int .i64 x.sent, .slice x.pA 0 x.pc, .int .i64 x.late] rfl rfl rfl Dw.zero hR ?_) | fail)
    refine El.ret2 dvRow (hR.set x _ rfl) rfl rfl rfl rfl _ rfl ?_
    refine ⟨x, _, rfl, Dw.ok.keepB hok hR (by_row _ _ _), ?_, below_setRow hB hw4 _⟩
    exact HV.out
  · have HPB := Lib.hid (show placeB k u s = true by unfold argD at ha; rw [Bool.and_eq_true, Bool.and_eq_true] at ha; exact ha.2.2)
    have HA := Lib.hid ha
    clear ha
    obtain ⟨z0, z1, z2, z3, z4, z5, z7, z9, z15, z18, z19, z20, z21, z22, z23, z24, z25⟩ := dzIn hE
    clear z1 z2 z3 z4 z5 z7 z9 z15 z18 z19 z24 z25
    replace z0 : w2.cell? ⟨n2, 0, none⟩ = some (.int .i64 x.node) := z0
    replace z20 : w2.cell? ⟨n2, 20, none⟩ = some (.int .i64 x.inc) := z20
    replace z21 : w2.cell? ⟨n2, 21, none⟩ = some (.int .i64 x.mode) := z21
    replace z22 : w2.cell? ⟨n2, 22, none⟩ = some (.int .i64 x.clock) := z22
    replace z23 : w2.cell? ⟨n2, 23, none⟩ = some (.int .i64 x.sent) := z23
    by_cases hm : x.mode = 1
    · have HM := Lib.hid hm
      rw [hm] at z21
      clear hm z0 z20 z22 z23
      go_wp2_with (first | (refine El.load pnRow rfl _ rfl n1 0 rfl p hP.at #[.slice p.A p.p.u.length p.c, .int .i64 p.p.q, .int .i64 p.p.r, .int .i64 p.p.b, .int .i64 p.p.l, .int .i64 p.p.w, .int .i64 p.p.c, .int .i64 p.p.k, .int .i64 p.p.i] rfl ?_) | (refine El.load dzRow rfl _ rfl n2 0 rfl x.z hE.at #[.int .i64 x.node, .int .i64 x.boot, .int .i64 x.above, .int .i64 x.pos, .int .i64 x.y.t, .int .i64 x.pos, .slice none 0 0, .int .i64 x.q.f, .int .i64 x.q.g, .slice x.qA x.q.os.length x.qc, .slice none 0 0, .slice none 0 0, .slice none 0 0, .slice none 0 0, .slice x.y.bA x.y.base.length x.y.bc, .int .i64 x.y.t, .slice x.y.oA x.y.ops.length x.y.oc, .slice x.y.uA x.y.us.length x.y.uc, .slice x.y.wA x.y.now.length x.y.wc, .slice x.cA x.l.length x.cc, .int .i64 x.inc, .int .i64 x.mode, .int .i64 x.clock, .int .i64 x.sent, .slice x.pA 0 x.pc, .int .i64 x.late] rfl ?_) | fail)
      refine (CF.out _ hok).mono ?_
      rintro e w3 ⟨rfl, hb3⟩
      replace hE := hE.below hb3
      replace hX := hX.below hb3
      replace hR := hR.below hb3
      replace hok := hok.below hb3
      replace hB := below_then hB hb3
      clear hb3 CF z21 hP
      rcases hf : fullB p.p.q x.v with _ | _
      · have HF := Lib.hid (show ¬ (p.p.q ≤ (ownV x.y.v x.node x.inc : Nat) ∨ p.p.q ≤ (x.q.os.length : Nat)) by
          unfold fullB at hf
          simp only [Bool.or_eq_false_iff, decide_eq_false_iff_not] at hf
          exact fun h => h.elim (fun h => hf.1 h) (fun h => hf.2 h))
        clear hf
        obtain ⟨mk1, mk2, mk3⟩ := mk_edit HR.out HPB.out
        have CO : Calls Tryz.prog 24 #[.int .i64 x.clock, .int .i64 x.node, .int .i64 x.inc, .int .i64 (x.sent + 1), .agg #[.int .i64 k, .int .i64 u, .string s]] w3 fun e w' => e = .returned (.tuple #[.agg #[.int .i64 (editO x.v k u s).C, .int .i64 (editO x.v k u s).D, .int .i64 (editO x.v k u s).I, .int .i64 (editO x.v k u s).M, .int .i64 (editO x.v k u s).K, .int .i64 (editO x.v k u s).U, .string (editO x.v k u s).s], .bool true]) ∧ Below w3.heap.size w3 w' := by
          have h := opMake_any x.clock x.node x.inc (x.sent + 1) k u s w3 (by omega)
          replace mk1 : mkB x.clock x.node x.inc (x.sent + 1) k u s = true := mk1
          replace mk2 : nextC x.clock x.node = x.clock + 1 := mk2
          replace mk3 : nextD x.clock x.node = x.node := mk3
          rw [mk1, mk2, mk3] at h
          exact h
        clear mk1 mk2 mk3
        obtain ⟨m, hmk⟩ : ∃ m, editO x.v k u s = m := ⟨_, rfl⟩
        rw [hmk] at CO
        have HMK := Lib.hid hmk
        clear hmk
        obtain ⟨z0, z1, z2, z3, z4, z5, z7, z9, z15, z18, z19, z20, z21, z22, z23, z24, z25⟩ := dzIn hE
        clear z1 z2 z3 z4 z5 z7 z9 z15 z18 z19 z24 z25 z21
        replace z0 : w3.cell? ⟨n2, 0, none⟩ = some (.int .i64 x.node) := z0
        replace z20 : w3.cell? ⟨n2, 20, none⟩ = some (.int .i64 x.inc) := z20
        replace z22 : w3.cell? ⟨n2, 22, none⟩ = some (.int .i64 x.clock) := z22
        replace z23 : w3.cell? ⟨n2, 23, none⟩ = some (.int .i64 x.sent) := z23
        have hws := HWS.out
        go_wp2_with (first | (refine El.load plRow rfl _ rfl n3 0 rfl (⟨k, u, s⟩ : Pl) hX.at #[.int .i64 k, .int .i64 u, .string s] rfl ?_) | fail)
        refine CO.mono ?_
        rintro e w4 ⟨rfl, hb4⟩
        replace hE := hE.below hb4
        replace hR := hR.below hb4
        replace hok := hok.below hb4
        replace hB := below_then hB hb4
        clear hb4 CO z0 z20 z22 z23 hws hX
        have hz5 : opE.In (w4.alloc (.cells #[.int .i64 0, .int .i64 0, .int .i64 0, .int .i64 0, .int .i64 0, .int .i64 0, .string ⟨#[]⟩] 55)) w4.heap.size zeroMv := El.In.new (E := opE) w4 zeroMv #[.int .i64 0, .int .i64 0, .int .i64 0, .int .i64 0, .int .i64 0, .int .i64 0, .string ⟨#[]⟩] rfl
        go_upto_region 10 with (first | (refine El.store opRow rfl _ _ rfl w4.heap.size m #[.int .i64 m.C, .int .i64 m.D, .int .i64 m.I, .int .i64 m.M, .int .i64 m.K, .int .i64 m.U, .string m.s] rfl rfl rfl zeroMv hz5 ?_) | fail)
        have hal := below_setRow (below_alloc (Below.refl w4.heap.size w4) (.cells #[.int .i64 0, .int .i64 0, .int .i64 0, .int .i64 0, .int .i64 0, .int .i64 0, .string ⟨#[]⟩] 55)) (Nat.le_refl _) #[.int .i64 m.C, .int .i64 m.D, .int .i64 m.I, .int .i64 m.M, .int .i64 m.K, .int .i64 m.U, .string m.s]
        have hM := hz5.set m #[.int .i64 m.C, .int .i64 m.D, .int .i64 m.I, .int .i64 m.M, .int .i64 m.K, .int .i64 m.U, .string m.s] rfl
        have hw5 : w.heap.size ≤ w4.heap.size := hB.size
        have e52 : w4.heap.size ≠ n2 := by have := hE.lt; omega
        replace hE := hE.below hal
        replace hR := hR.below hal
        replace hok := hok.below hal
        replace hB := below_then hB hal
        clear hal hz5
        generalize (w4.alloc (.cells #[.int .i64 0, .int .i64 0, .int .i64 0, .int .i64 0, .int .i64 0, .int .i64 0, .string ⟨#[]⟩] 55)).setRow w4.heap.size #[.int .i64 m.C, .int .i64 m.D, .int .i64 m.I, .int .i64 m.M, .int .i64 m.K, .int .i64 m.U, .string m.s] = W5 at *
        generalize w4.heap.size = n5 at *
        go_wp2_with (first | (refine El.load pwRow rfl _ rfl n2 14 rfl x.y (dz_p hE) #[.slice x.y.bA x.y.base.length x.y.bc, .int .i64 x.y.t, .slice x.y.oA x.y.ops.length x.y.oc, .slice x.y.uA x.y.us.length x.y.uc, .slice x.y.wA x.y.now.length x.y.wc] rfl ?_) | (refine El.load opRow rfl _ rfl n5 0 rfl m hM.at #[.int .i64 m.C, .int .i64 m.D, .int .i64 m.I, .int .i64 m.M, .int .i64 m.K, .int .i64 m.U, .string m.s] rfl ?_) | fail)
        refine (CA.out m _ hok).mono ?_
        rintro e w6 ⟨y, rfl, hy, hyv, hb6⟩
        replace hE := hE.below hb6
        replace hR := hR.below hb6
        replace hok := hok.below hb6
        replace hM := hM.below hb6
        replace hB := below_then hB hb6
        clear hb6 CA
        have hz6 : pwE.In (w6.alloc (.cells #[.slice none 0 0, .int .i64 0, .slice none 0 0, .slice none 0 0, .slice none 0 0] 40)) w6.heap.size Pw.zero := El.In.new (E := pwE) w6 Pw.zero #[.slice none 0 0, .int .i64 0, .slice none 0 0, .slice none 0 0, .slice none 0 0] rfl
        obtain ⟨bd, hbd⟩ : ∃ bd, (addV x.y.v m).2 = bd := ⟨_, rfl⟩
        rw [hbd]
        have HBD := Lib.hid hbd
        have HYV := Lib.hid hyv
        clear hbd hyv
        go_upto_region 11 with (first | (refine El.store pwRow rfl _ _ rfl w6.heap.size y #[.slice y.bA y.base.length y.bc, .int .i64 y.t, .slice y.oA y.ops.length y.oc, .slice y.uA y.us.length y.uc, .slice y.wA y.now.length y.wc] rfl rfl rfl Pw.zero hz6 ?_) | fail)
        have hal := below_setRow (below_alloc (Below.refl w6.heap.size w6) (.cells #[.slice none 0 0, .int .i64 0, .slice none 0 0, .slice none 0 0, .slice none 0 0] 40)) (Nat.le_refl _) #[.slice y.bA y.base.length y.bc, .int .i64 y.t, .slice y.oA y.ops.length y.oc, .slice y.uA y.us.length y.uc, .slice y.wA y.now.length y.wc]
        have hN := hz6.set y #[.slice y.bA y.base.length y.bc, .int .i64 y.t, .slice y.oA y.ops.length y.oc, .slice y.uA y.us.length y.uc, .slice y.wA y.now.length y.wc] rfl
        have e62 : w6.heap.size ≠ n2 := by have := hE.lt; omega
        replace hE := hE.below hal
        replace hR := hR.below hal
        replace hok := hok.below hal
        replace hM := hM.below hal
        replace hy := hy.below hal
        replace hB := below_then hB hal
        clear hal hz6
        generalize (w6.alloc (.cells #[.slice none 0 0, .int .i64 0, .slice none 0 0, .slice none 0 0, .slice none 0 0] 40)).setRow w6.heap.size #[.slice y.bA y.base.length y.bc, .int .i64 y.t, .slice y.oA y.ops.length y.oc, .slice y.uA y.us.length y.uc, .slice y.wA y.now.length y.wc] = W7 at *
        generalize w6.heap.size = n6 at *
        cases bd with
        | false =>
          have HV := Lib.hid (show editD p.p.q p.p.i x.v k u s = (x.v, 5) by
            unfold editD
            rw [if_neg (by rw [HA.out]; decide), if_neg (fun h => h HM.out), if_neg (show ¬ (p.p.q ≤ ((ownV x.v.y x.v.node x.v.inc : Nat) : Int) ∨ p.p.q ≤ ((x.v.q.os.length : Nat) : Int)) from HF.out), if_pos (by rw [HMK.out]; exact HBD.out)])
          go_wp2_with (first | (refine El.load dzRow rfl _ rfl n2 0 rfl x.z hE.at #[.int .i64 x.node, .int .i64 x.boot, .int .i64 x.above, .int .i64 x.pos, .int .i64 x.y.t, .int .i64 x.pos, .slice none 0 0, .int .i64 x.q.f, .int .i64 x.q.g, .slice x.qA x.q.os.length x.qc, .slice none 0 0, .slice none 0 0, .slice none 0 0, .slice none 0 0, .slice x.y.bA x.y.base.length x.y.bc, .int .i64 x.y.t, .slice x.y.oA x.y.ops.length x.y.oc, .slice x.y.uA x.y.us.length x.y.uc, .slice x.y.wA x.y.now.length x.y.wc, .slice x.cA x.l.length x.cc, .int .i64 x.inc, .int .i64 x.mode, .int .i64 x.clock, .int .i64 x.sent, .slice x.pA 0 x.pc, .int .i64 x.late] rfl ?_) | (refine El.store dvRow rfl _ _ rfl n4 x #[.int .i64 x.node, .int .i64 x.boot, .int .i64 x.above, .int .i64 x.pos, .int .i64 x.y.t, .int .i64 x.pos, .slice none 0 0, .int .i64 x.q.f, .int .i64 x.q.g, .slice x.qA x.q.os.length x.qc, .slice none 0 0, .slice none 0 0, .slice none 0 0, .slice none 0 0, .slice x.y.bA x.y.base.length x.y.bc, .int .i64 x.y.t, .slice x.y.oA x.y.ops.length x.y.oc, .slice x.y.uA x.y.us.length x.y.uc, .slice x.y.wA x.y.now.length x.y.wc, .slice x.cA x.l.length x.cc, .int .i64 x.inc, .int .i64 x.mode, .int .i64 x.clock, .int .i64 x.sent, .slice x.pA 0 x.pc, .int .i64 x.late] rfl rfl rfl Dw.zero hR ?_) | fail)
          refine El.ret2 dvRow (hR.set x _ rfl) rfl rfl rfl rfl _ rfl ?_
          refine ⟨x, _, rfl, Dw.ok.keepB hok hR (by_row _ _ _), ?_, below_setRow hB hw4 _⟩
          exact HV.out
        | true =>
          have hok1 : ({ x with y := y } : Dw).ok W7 := ⟨hy, hok.q, hok.c, hok.t⟩
          go_upto_region 14 with (first | (refine El.load pwRow rfl _ rfl n6 0 rfl y hN.at #[.slice y.bA y.base.length y.bc, .int .i64 y.t, .slice y.oA y.ops.length y.oc, .slice y.uA y.us.length y.uc, .slice y.wA y.now.length y.wc] rfl ?_) | (refine wpList_store_dz (T := 40) (k := 5) (by kernel_rfl) rfl _ _ rfl n2 14 x.z ⟨{ x with y := y }, x.pos, x.y.t⟩ [.slice y.bA y.base.length y.bc, .int .i64 y.t, .slice y.oA y.ops.length y.oc, .slice y.uA y.us.length y.uc, .slice y.wA y.now.length y.wc] rfl (by intro v hv; simp only [List.mem_cons, List.not_mem_nil, or_false] at hv; rcases hv with rfl | rfl | rfl | rfl | rfl <;> rfl) rfl rfl hE rfl (by show 14 + 5 ≤ 26; omega) ?_) | fail)
          replace hok := hok1.keepZ hE (by_row W7 n2 (dzE.c ⟨{ x with y := y }, x.pos, x.y.t⟩).toArray)
          replace hM := hM.rowN n2 (dzE.c ⟨{ x with y := y }, x.pos, x.y.t⟩).toArray e52
          replace hR := hR.rowN n2 (dzE.c ⟨{ x with y := y }, x.pos, x.y.t⟩).toArray e24
          replace hB := below_setRow hB hw2 (dzE.c ⟨{ x with y := y }, x.pos, x.y.t⟩).toArray
          replace hE := hE.set ⟨{ x with y := y }, x.pos, x.y.t⟩ (dzE.c ⟨{ x with y := y }, x.pos, x.y.t⟩).toArray rfl
          clear hok1 hN hy
          generalize W7.setRow n2 (dzE.c ⟨{ x with y := y }, x.pos, x.y.t⟩).toArray = W8 at *
          have hqa : quE.At W8 n2 7 x.Q := dz_q hE
          go_wp2_with (first | (refine El.load quRow rfl _ rfl n2 7 rfl x.Q hqa #[.int .i64 x.Q.x.f, .int .i64 x.Q.x.g, .slice x.Q.A x.Q.x.os.length x.Q.c] rfl ?_) | (refine El.load opRow rfl _ rfl n5 0 rfl m hM.at #[.int .i64 m.C, .int .i64 m.D, .int .i64 m.I, .int .i64 m.M, .int .i64 m.K, .int .i64 m.U, .string m.s] rfl ?_) | fail)
          refine (CQ.out m _ hok.q).mono ?_
          rintro e w9 ⟨qz, rfl, hqx, hq, hb9, _⟩
          replace hE := hE.below hb9
          replace hR := hR.below hb9
          replace hok := hok.below hb9
          replace hM := hM.below hb9
          replace hB := below_then hB hb9
          clear hb9 CQ hqa
          have HQX := Lib.hid hqx
          clear hqx
          have hok1 : ({ x with y := y, qA := qz.A, qc := qz.c, q := qz.x } : Dw).ok w9 := ⟨hok.p, hq, hok.c, hok.t⟩
          go_upto_region 15 with (first | (refine wpList_store_dz (T := 33) (k := 3) (by kernel_rfl) rfl _ _ rfl n2 7 ⟨{ x with y := y }, x.pos, x.y.t⟩ ⟨{ x with y := y, qA := qz.A, qc := qz.c, q := qz.x }, x.pos, x.y.t⟩ [.int .i64 qz.x.f, .int .i64 qz.x.g, .slice qz.A qz.x.os.length qz.c] rfl (by intro v hv; simp only [List.mem_cons, List.not_mem_nil, or_false] at hv; rcases hv with rfl | rfl | rfl <;> rfl) rfl rfl hE rfl (by show 7 + 3 ≤ 26; omega) ?_) | fail)
          replace hok := hok1.keepZ hE (by_row w9 n2 (dzE.c ⟨{ x with y := y, qA := qz.A, qc := qz.c, q := qz.x }, x.pos, x.y.t⟩).toArray)
          replace hM := hM.rowN n2 (dzE.c ⟨{ x with y := y, qA := qz.A, qc := qz.c, q := qz.x }, x.pos, x.y.t⟩).toArray e52
          replace hR := hR.rowN n2 (dzE.c ⟨{ x with y := y, qA := qz.A, qc := qz.c, q := qz.x }, x.pos, x.y.t⟩).toArray e24
          replace hB := below_setRow hB hw2 (dzE.c ⟨{ x with y := y, qA := qz.A, qc := qz.c, q := qz.x }, x.pos, x.y.t⟩).toArray
          replace hE := hE.set ⟨{ x with y := y, qA := qz.A, qc := qz.c, q := qz.x }, x.pos, x.y.t⟩ (dzE.c ⟨{ x with y := y, qA := qz.A, qc := qz.c, q := qz.x }, x.pos, x.y.t⟩).toArray rfl
          clear hok1 hq
          generalize w9.setRow n2 (dzE.c ⟨{ x with y := y, qA := qz.A, qc := qz.c, q := qz.x }, x.pos, x.y.t⟩).toArray = W9 at *
          obtain ⟨q0, q1, q2, q3, q4, q5, q6⟩ := opIn7 hM
          have c22 : W9.cell? ⟨n2, 22, none⟩ = some (.int .i64 x.clock) := hE.cell 22
          have c23 : W9.cell? ⟨n2, 23, none⟩ = some (.int .i64 x.sent) := hE.cell 23
          have qf := hE.frozen
          go_upto_region 17 with fail
          clear q0 q1 q2 q3 q4 q5 q6 c22 c23 qf
          have g2 := by_cell2 (by_cell W9 n2 22 (.int .i64 m.C)) 23 (.int .i64 m.M)
          replace hok : ({ x with y := y, qA := qz.A, qc := qz.c, q := qz.x, clock := m.C, sent := m.M } : Dw).ok ((W9.setCell ⟨n2, 22, none⟩ (.int .i64 m.C)).setCell ⟨n2, 23, none⟩ (.int .i64 m.M)) := by
            obtain ⟨a, b, c, d⟩ := hok.keepZ hE g2
            exact ⟨a, b, c, d⟩
          replace hE := (hE.put ⟨{ x with y := y, qA := qz.A, qc := qz.c, q := qz.x, clock := m.C }, x.pos, x.y.t⟩ 22 (.int .i64 m.C) rfl).put ⟨{ x with y := y, qA := qz.A, qc := qz.c, q := qz.x, clock := m.C, sent := m.M }, x.pos, x.y.t⟩ 23 (.int .i64 m.M) rfl
          replace hR := (hR.other n2 22 (.int .i64 m.C) e24).other n2 23 (.int .i64 m.M) e24
          replace hB := Below.setCell (Below.setCell hB (p := ⟨n2, 22, none⟩) hw2 (.int .i64 m.C)) (p := ⟨n2, 23, none⟩) hw2 (.int .i64 m.M)
          clear g2 hM
          generalize (W9.setCell ⟨n2, 22, none⟩ (.int .i64 m.C)).setCell ⟨n2, 23, none⟩ (.int .i64 m.M) = V at *
          have hyt : x.y.t = y.t := by
            have h := congrArg Pv.t HYV.out
            rw [addV_tt] at h
            exact h.symm
          rw [hyt] at hE
          clear hyt
          obtain ⟨Z, hZ⟩ : ∃ Z, ({ x with y := y, qA := qz.A, qc := qz.c, q := qz.x, clock := m.C, sent := m.M } : Dw) = Z := ⟨_, rfl⟩
          have HZ := Lib.hid hZ
          have hE2 : dzE.In V n2 Z.z := by rw [← hZ]; exact hE
          rw [hZ] at hok
          clear hZ hE
          have hE := hE2
          have HV := Lib.hid (show editD p.p.q p.p.i x.v k u s = (Z.v, 0) by
            unfold editD
            rw [if_neg (by rw [HA.out]; decide), if_neg (fun h => h HM.out), if_neg (show ¬ (p.p.q ≤ ((ownV x.v.y x.v.node x.v.inc : Nat) : Int) ∨ p.p.q ≤ ((x.v.q.os.length : Nat) : Int)) from HF.out), if_neg (by rw [HMK.out]; show ¬ (addV x.y.v m).2 = false; rw [HBD.out]; decide), ← HZ.out]
            show (({ x.v with y := (addV x.y.v (editO x.v k u s)).1, q := pushQ x.q (editO x.v k u s), clock := x.clock + 1, sent := x.sent + 1 } : Dv), (0 : Int)) = (({ x.v with y := y.v, q := qz.x, clock := m.C, sent := m.M } : Dv), (0 : Int))
            rw [HYV.out, HQX.out, ← HMK.out]
            rfl)
          go_wp2_with (first | (refine El.load dzRow rfl _ rfl n2 0 rfl Z.z hE.at #[.int .i64 Z.node, .int .i64 Z.boot, .int .i64 Z.above, .int .i64 Z.pos, .int .i64 Z.y.t, .int .i64 Z.pos, .slice none 0 0, .int .i64 Z.q.f, .int .i64 Z.q.g, .slice Z.qA Z.q.os.length Z.qc, .slice none 0 0, .slice none 0 0, .slice none 0 0, .slice none 0 0, .slice Z.y.bA Z.y.base.length Z.y.bc, .int .i64 Z.y.t, .slice Z.y.oA Z.y.ops.length Z.y.oc, .slice Z.y.uA Z.y.us.length Z.y.uc, .slice Z.y.wA Z.y.now.length Z.y.wc, .slice Z.cA Z.l.length Z.cc, .int .i64 Z.inc, .int .i64 Z.mode, .int .i64 Z.clock, .int .i64 Z.sent, .slice Z.pA 0 Z.pc, .int .i64 Z.late] rfl ?_) | (refine El.store dvRow rfl _ _ rfl n4 Z #[.int .i64 Z.node, .int .i64 Z.boot, .int .i64 Z.above, .int .i64 Z.pos, .int .i64 Z.y.t, .int .i64 Z.pos, .slice none 0 0, .int .i64 Z.q.f, .int .i64 Z.q.g, .slice Z.qA Z.q.os.length Z.qc, .slice none 0 0, .slice none 0 0, .slice none 0 0, .slice none 0 0, .slice Z.y.bA Z.y.base.length Z.y.bc, .int .i64 Z.y.t, .slice Z.y.oA Z.y.ops.length Z.y.oc, .slice Z.y.uA Z.y.us.length Z.y.uc, .slice Z.y.wA Z.y.now.length Z.y.wc, .slice Z.cA Z.l.length Z.cc, .int .i64 Z.inc, .int .i64 Z.mode, .int .i64 Z.clock, .int .i64 Z.sent, .slice Z.pA 0 Z.pc, .int .i64 Z.late] rfl rfl rfl Dw.zero hR ?_) | fail)
          refine El.ret2 dvRow (hR.set Z _ rfl) rfl rfl rfl rfl _ rfl ?_
          refine ⟨Z, _, rfl, Dw.ok.keepB hok hR (by_row _ _ _), ?_, below_setRow hB hw4 _⟩
          exact HV.out
      · have HV := Lib.hid (show editD p.p.q p.p.i x.v k u s = (x.v, 3) by
          unfold fullB at hf
          simp only [Bool.or_eq_true, decide_eq_true_iff] at hf
          unfold editD
          rw [if_neg (by rw [HA.out]; decide), if_neg (fun h => h HM.out), if_pos hf])
        clear hf
        go_wp2_with (first | (refine El.load dzRow rfl _ rfl n2 0 rfl x.z hE.at #[.int .i64 x.node, .int .i64 x.boot, .int .i64 x.above, .int .i64 x.pos, .int .i64 x.y.t, .int .i64 x.pos, .slice none 0 0, .int .i64 x.q.f, .int .i64 x.q.g, .slice x.qA x.q.os.length x.qc, .slice none 0 0, .slice none 0 0, .slice none 0 0, .slice none 0 0, .slice x.y.bA x.y.base.length x.y.bc, .int .i64 x.y.t, .slice x.y.oA x.y.ops.length x.y.oc, .slice x.y.uA x.y.us.length x.y.uc, .slice x.y.wA x.y.now.length x.y.wc, .slice x.cA x.l.length x.cc, .int .i64 x.inc, .int .i64 x.mode, .int .i64 x.clock, .int .i64 x.sent, .slice x.pA 0 x.pc, .int .i64 x.late] rfl ?_) | (refine El.store dvRow rfl _ _ rfl n4 x #[.int .i64 x.node, .int .i64 x.boot, .int .i64 x.above, .int .i64 x.pos, .int .i64 x.y.t, .int .i64 x.pos, .slice none 0 0, .int .i64 x.q.f, .int .i64 x.q.g, .slice x.qA x.q.os.length x.qc, .slice none 0 0, .slice none 0 0, .slice none 0 0, .slice none 0 0, .slice x.y.bA x.y.base.length x.y.bc, .int .i64 x.y.t, .slice x.y.oA x.y.ops.length x.y.oc, .slice x.y.uA x.y.us.length x.y.uc, .slice x.y.wA x.y.now.length x.y.wc, .slice x.cA x.l.length x.cc, .int .i64 x.inc, .int .i64 x.mode, .int .i64 x.clock, .int .i64 x.sent, .slice x.pA 0 x.pc, .int .i64 x.late] rfl rfl rfl Dw.zero hR ?_) | fail)
        refine El.ret2 dvRow (hR.set x _ rfl) rfl rfl rfl rfl _ rfl ?_
        refine ⟨x, _, rfl, Dw.ok.keepB hok hR (by_row _ _ _), ?_, below_setRow hB hw4 _⟩
        exact HV.out
    · have HV := Lib.hid (show editD p.p.q p.p.i x.v k u s = (x.v, 4) by unfold editD; rw [if_neg (by rw [HA.out]; decide), if_pos (show x.v.mode ≠ 1 from hm)])
      have f1 : (x.mode != 1) = true := bne_iff_ne.2 hm
      have f2 : decide (x.mode = 1) = false := decide_eq_false hm
      have f3 : (x.mode == 1) = false := beq_eq_false_iff_ne.2 hm
      clear hm z0 z20 z22 z23
      go_wp2_with (first | (refine El.load dzRow rfl _ rfl n2 0 rfl x.z hE.at #[.int .i64 x.node, .int .i64 x.boot, .int .i64 x.above, .int .i64 x.pos, .int .i64 x.y.t, .int .i64 x.pos, .slice none 0 0, .int .i64 x.q.f, .int .i64 x.q.g, .slice x.qA x.q.os.length x.qc, .slice none 0 0, .slice none 0 0, .slice none 0 0, .slice none 0 0, .slice x.y.bA x.y.base.length x.y.bc, .int .i64 x.y.t, .slice x.y.oA x.y.ops.length x.y.oc, .slice x.y.uA x.y.us.length x.y.uc, .slice x.y.wA x.y.now.length x.y.wc, .slice x.cA x.l.length x.cc, .int .i64 x.inc, .int .i64 x.mode, .int .i64 x.clock, .int .i64 x.sent, .slice x.pA 0 x.pc, .int .i64 x.late] rfl ?_) | (refine El.store dvRow rfl _ _ rfl n4 x #[.int .i64 x.node, .int .i64 x.boot, .int .i64 x.above, .int .i64 x.pos, .int .i64 x.y.t, .int .i64 x.pos, .slice none 0 0, .int .i64 x.q.f, .int .i64 x.q.g, .slice x.qA x.q.os.length x.qc, .slice none 0 0, .slice none 0 0, .slice none 0 0, .slice none 0 0, .slice x.y.bA x.y.base.length x.y.bc, .int .i64 x.y.t, .slice x.y.oA x.y.ops.length x.y.oc, .slice x.y.uA x.y.us.length x.y.uc, .slice x.y.wA x.y.now.length x.y.wc, .slice x.cA x.l.length x.cc, .int .i64 x.inc, .int .i64 x.mode, .int .i64 x.clock, .int .i64 x.sent, .slice x.pA 0 x.pc, .int .i64 x.late] rfl rfl rfl Dw.zero hR ?_) | fail)
      refine El.ret2 dvRow (hR.set x _ rfl) rfl rfl rfl rfl _ rfl ?_
      refine ⟨x, _, rfl, Dw.ok.keepB hok hR (by_row _ _ _), ?_, below_setRow hB hw4 _⟩
      exact HV.out
end Go.Proofs.YtdcjffajmckleaaGreatDoor
