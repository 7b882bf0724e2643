/- ViewMoves is proved: a node that is put below the trash, with all below it, isn't shown any more; put back, all is shown as before. Conditions: the library's tables read, when the call begins, as the program's own text lays them (the card ties that; no table is read below). -/
import Derived.Test.YtdhcgflblbmogaaDoorB04
import Derived.Lib.QuietBelow
import Derived.Deep.CutRange
namespace Go.Proofs.YtdhcgflblbmogaaDoor
open Go.ChangeShapes Go.WideShapes Go.ChangeAt Go.RowKit Go.Deep Nam Cod Tre

theorem moves_no (A : Option Addr) (c : Nat) (t : List Pl) (s : Int) (w : World) (hsz : ∀ p ∈ t, p.s.size ≤ 9223372036854775807) (hT : plE.Sl w A t) (h : t.length = 0 ∨ (0 < t.length ∧ 60 < t.length) ∨ (0 < t.length ∧ t.length ≤ 60 ∧ treeB t = false)) :
    Calls Tryd.prog 6 #[.slice A t.length c, .int .u8 s] w fun e w' => e = .returned (.bool true) ∧ Below w.heap.size w w' := by
  rcases h with h | ⟨h, h1⟩ | ⟨h, h1, h2⟩
  · go_enter Tryd.func6, Tryd.ntmps6
    go_wp2_with fail
    refine (awake9_any _).mono ?_
    rintro e w1 ⟨rfl, hb1⟩
    go_wp2_with fail
    go_ret
    exact ⟨rfl, hb1⟩
  · have h0 : ¬ t.length = 0 := by omega
    go_enter Tryd.func6, Tryd.ntmps6
    go_wp2_with fail
    refine (awake9_any _).mono ?_
    rintro e w1 ⟨rfl, hb1⟩
    go_wp2_with fail
    go_ret
    exact ⟨rfl, hb1⟩
  · have h0 : ¬ t.length = 0 := by omega
    have C := refRight_any A c t w (by omega) hsz (plSl.1 hT)
    rw [h2] at C
    go_enter Tryd.func6, Tryd.ntmps6
    go_wp2_with fail
    refine C.mono ?_
    rintro e w1 ⟨rfl, hb1⟩
    go_wp2_with fail
    refine (awake9_any _).mono ?_
    rintro e w2 ⟨rfl, hb2⟩
    go_wp2_with fail
    go_ret
    exact ⟨rfl, below_then hb1 hb2⟩

set_option maxRecDepth 100000 in
set_option maxHeartbeats 4000000 in
theorem moves_walk (A : Option Addr) (c : Nat) (t : List Pl) (s : Int) (w : World) (hs : 0 ≤ s ∧ s ≤ 255) (h0 : 0 < t.length) (hl : t.length ≤ 60) (ht : treeB t = true) (hT : plE.Sl w A t) (hc0 : t.length ≤ c) :
    Calls Tryd.prog 6 #[.slice A t.length c, .int .u8 s] w fun e w' => e = .returned (.bool true) ∧ Below w.heap.size w w' := by
  have hp := treeP ht
  have hsz : ∀ p ∈ t, p.s.size ≤ 9223372036854775807 := fun p hq => by have := (tree_fit ht p hq).s; omega
  have CR := refRight_any A c t w (by omega) hsz (plSl.1 hT)
  rw [ht] at CR
  have hne : ¬ t.length = 0 := by omega
  have h60 : decide (60 < (t.length : Int)) = false := decide_eq_false (by omega)
  have h61 : ((t.length : Int) == 0) = false := beq_eq_false_iff_ne.2 (by omega)
  have hwr : IntKind.i64.wrap s = s := IntWalk.i64_in _ (by omega)
  obtain ⟨b, off, hA, hbw, hc⟩ := hT h0
  subst hA
  obtain ⟨k, hkl, hk⟩ : ∃ k : Nat, k < t.length ∧ s.tmod (t.length : Int) = (k : Int) := by
    refine ⟨s.toNat % t.length, Nat.mod_lt _ h0, ?_⟩
    obtain ⟨n, rfl⟩ : ∃ n : Nat, s = n := ⟨s.toNat, by omega⟩
    rw [Int.tmod_eq_emod_of_nonneg (by omega)]
    simp
  have HK := Lib.hid hk
  have HCR := Lib.hid CR
  clear CR
  go_enter Tryd.func6, Tryd.ntmps6
  go_wp2_with fail
  refine HCR.out.mono ?_
  rintro e w1 ⟨rfl, hB⟩
  obtain ⟨p, hpe⟩ : ∃ p, t[k] = p := ⟨_, rfl⟩
  have hpt : p ∈ t := hpe ▸ List.getElem_mem hkl
  have hat : plE.At w1 b (off + k * 3) p := by rw [← hpe]; exact (hc k hkl).below hB hbw
  have HPT := Lib.hid hpt
  have HT := Lib.hid hT
  have hz0 : plE.In (w1.alloc (.cells #[.int .i64 0, .int .i64 0, .string ⟨#[]⟩] 33)) w1.heap.size zero := El.In.new (E := plE) w1 zero #[.int .i64 0, .int .i64 0, .string ⟨#[]⟩] rfl
  have hP := hz0.set p #[.int .i64 p.n, .int .i64 p.u, .string p.s] rfl
  have hbz : Below w1.heap.size w1 ((w1.alloc (.cells #[.int .i64 0, .int .i64 0, .string ⟨#[]⟩] 33)).setRow w1.heap.size #[.int .i64 p.n, .int .i64 p.u, .string p.s]) := below_setRow (below_alloc (Below.refl _ _) _) (Nat.le_refl _) _
  clear hc hpe hpt
  go_wp2_with (first | (refine El.load plRow rfl _ rfl b (off + k * 3) rfl p hat #[.int .i64 p.n, .int .i64 p.u, .string p.s] rfl ?_) | (refine El.store plRow rfl _ _ rfl w1.heap.size p #[.int .i64 p.n, .int .i64 p.u, .string p.s] rfl rfl rfl zero hz0 ?_) | (refine El.load plRow rfl _ rfl w1.heap.size 0 rfl p hP.at #[.int .i64 p.n, .int .i64 p.u, .string p.s] rfl ?_) | fail)
  have hbq := below_alloc (Below.refl _ ((w1.alloc (.cells #[.int .i64 0, .int .i64 0, .string ⟨#[]⟩] 33)).setRow w1.heap.size #[.int .i64 p.n, .int .i64 p.u, .string p.s])) (.cells #[.int .i64 p.n, .int .i64 1, .string p.s] 33)
  replace hP := hP.below hbq
  replace hB := hB.trans ((below_then hbz hbq).mono hB.size)
  clear hbz hz0 hat hbq
  generalize ((w1.alloc (.cells #[.int .i64 0, .int .i64 0, .string ⟨#[]⟩] 33)).setRow w1.heap.size #[.int .i64 p.n, .int .i64 p.u, .string p.s]).alloc (.cells #[.int .i64 p.n, .int .i64 1, .string p.s] 33) = W2 at *
  generalize w1.heap.size + 1 = n6 at *
  generalize w1.heap.size = n5 at *
  have hu := hp.trashed HPT.out
  have hback := hp.back HPT.out
  have hoff := fun x hx => trashed_off hp HPT.out (x := x) hx
  have hlen := trashed_len hp HPT.out
  have CPU := refPut_any (some ⟨b, off, none⟩) c t ⟨p.n, 1, p.s⟩ W2 (by omega) (plSl.1 (HT.out.below hB)) hc0 (fun e => by cases e)
  generalize putL t ⟨p.n, 1, p.s⟩ = U at *
  have hUl := tree_len hu.b
  have hUz : ∀ q ∈ U, q.s.size ≤ 9223372036854775807 := fun q hq => by have := (tree_fit hu.b q hq).s; omega
  have hvU : showV U = showL U := by unfold showV; rw [hu.b]; rfl
  have hvt : showV t = showL t := by unfold showV; rw [ht]; rfl
  have hlt : (showL t).length ≤ 100 := Nat.le_trans (hp.below_len _ _) (by omega)
  have HSU := Lib.hid (fun (wx : World) (AX : Option Addr) (cx : Nat) (h : plE.Sl wx AX U) => (by have h2 := pShow_any AX cx U wx (by omega) hUz h; rw [hvU] at h2; exact h2 : Calls Tryd.prog 11 #[.slice AX U.length cx] wx fun e w' => ∃ A' c', e = .returned (.slice A' (showL U).length c') ∧ SlV seE w' A' c' (showL U) ∧ Below wx.heap.size wx w'))
  have HST := Lib.hid (fun (wx : World) (AX : Option Addr) (cx : Nat) (h : plE.Sl wx AX t) => (by have h2 := pShow_any AX cx t wx (by omega) hsz h; rw [hvt] at h2; exact h2 : Calls Tryd.prog 11 #[.slice AX t.length cx] wx fun e w' => ∃ A' c', e = .returned (.slice A' (showL t).length c') ∧ SlV seE w' A' c' (showL t) ∧ Below wx.heap.size wx w'))
  have HBK := Lib.hid (fun (wx : World) (AX : Option Addr) (cx : Nat) (h : Tr wx AX U) (h1 : U.length ≤ cx) (h2 : AX = none → cx = 0) => (by have h3 := refPut_any AX cx U p wx (by omega) h h1 h2; rw [hback] at h3; exact h3 : Calls Tryd.prog 21 #[.slice AX U.length cx, .agg #[.int .i64 p.n, .int .i64 p.u, .string p.s]] wx fun e w' => ∃ A' cap', e = .returned (.slice A' t.length cap') ∧ Tr w' A' t ∧ (A' = none → cap' = 0) ∧ t.length ≤ cap' ∧ Frs wx.heap.size A' ∧ Below wx.heap.size wx w'))
  have HAB := Lib.hid (fun (wx : World) (x : Pl) (hx : x ∈ showL U) (hb : Below w.heap.size w wx) => (by have h2 := refAbove_any (some ⟨b, off, none⟩) c t p.n x.n wx (by omega) (plSl.1 (HT.out.below hb)); rw [(hoff x hx).1] at h2; exact h2 : Calls Tryd.prog 20 #[.slice (some ⟨b, off, none⟩) t.length c, .int .i64 p.n, .int .i64 x.n] wx fun e w' => e = .returned (.bool false) ∧ Below wx.heap.size wx w'))
  have hLU : (showL U).length ≤ 100 := Nat.le_trans hlen hlt
  have HLEN := Lib.hid hlen
  have HCP := Lib.hid CPU
  clear hvU hvt hUz hsz hoff hback hu hp ht CPU hlen
  generalize showL U = LU at *
  generalize showL t = LT at *
  refine HCP.out.mono ?_
  rintro e w3 ⟨A3, c3, rfl, hT3, hn3, hc3, hF3, hb3⟩
  replace hP := hP.below hb3
  replace hB := hB.trans (hb3.mono hB.size)
  have HN3 := Lib.hid (⟨hn3, hc3⟩ : (A3 = none → c3 = 0) ∧ U.length ≤ c3)
  clear hb3 hF3 HCP hn3 hc3
  go_wp2_with fail
  refine (HSU.out w3 A3 c3 (plSl.2 hT3)).mono ?_
  rintro e w4 ⟨A4, c4, rfl, hS4, hb4⟩
  replace hP := hP.below hb4
  replace hB := hB.trans (hb4.mono hB.size)
  have hT4 := (plSl.2 hT3).below hb4
  have hS := hS4.1
  clear hb4 hT3 hS4
  go_wp2_with fail
  go_loopw [9] (fun y wr => ∃ j : Nat, j ≤ LU.length ∧ y = .int .i64 j ∧ plE.In wr n5 p ∧ plE.Sl wr A3 U ∧ seE.Sl wr A4 LU ∧ Below w.heap.size w wr) (fun y _ => LU.length - (intOf y).toNat)
  case atStart => exact ⟨0, Nat.zero_le _, rfl, hP, hT4, hS, hB⟩
  case round =>
    clear hP hT4 hS hB
    obtain ⟨j, hj, rfl, hP, hT4, hS, hB⟩ := hrel
    by_cases hjl : j < LU.length
    · have HS := Lib.hid hS
      obtain ⟨b2, off2, rfl, hbw2, hc2⟩ := hS (by omega)
      have hat : seE.At wr b2 (off2 + j * 3) LU[j] := hc2 j hjl
      have hx : LU[j] ∈ LU := List.getElem_mem hjl
      obtain ⟨x, hxe⟩ : ∃ x, LU[j] = x := ⟨_, rfl⟩
      rw [hxe] at hat hx
      have d1 : ∀ d os, Calls Tryd.prog 20 #[.slice (some ⟨b, off, none⟩) t.length c, .int .i64 p.n, .int .i64 x.n] (Sort.grow (redrawn wr d) os) fun e w'' => e = .returned (.bool false) ∧ ∃ p : Regrown, w'' = Sort.grow (redrawn wr p.d) p.os := fun d os => Calls.regrown_of (HAB.out _ x hx (hB.trans ((below_regrown wr d os).mono hB.size)))
      have j0 := cell_regrown (seAt3 hat).1
      have m0 := cell_regrown (plIn3 hP).1
      clear hc2 hat hx hxe
      go_wp2_with fail
      refine wp_region_quiet_below (by kernel_rfl) (by kernel_rfl) ?_
      repeat (go_big_quiet_step ((with_reducible (first | exact d1 _ _))))
      refine wpQuiet_nil ?_
      intro _ hw'
      obtain ⟨⟨dq, osq⟩, hw''⟩ := hw'
      subst hw''
      have hq := below_regrown wr dq osq
      replace hP := hP.below hq
      replace hT4 := hT4.below hq
      have hS := HS.out.below hq
      replace hB := hB.trans (hq.mono hB.size)
      clear d1 j0 m0
      generalize Sort.grow (redrawn wr dq) osq = W9 at *
      go_wp2_with fail
      exact ⟨⟨j + 1, by omega, by go_num, hP, hT4, hS, hB⟩, by simp [intOf]; omega⟩
    · go_wp2_with fail
      refine (awake9_any _).mono ?_
      rintro e w5 ⟨rfl, hb5⟩
      replace hP := hP.below hb5
      replace hT4 := hT4.below hb5
      replace hB := hB.trans (hb5.mono hB.size)
      obtain ⟨p0, p1, p2⟩ := plIn3 hP
      clear hb5
      go_wp2_with fail
      clear p0 p1 p2
      refine (HBK.out w5 A3 c3 (plSl.1 hT4) HN3.out.2 HN3.out.1).mono ?_
      rintro e w6 ⟨A6, c6, rfl, hT6, _, _, _, hb6⟩
      replace hB := hB.trans (hb6.mono hB.size)
      clear hb6 hT4
      go_wp2_with fail
      refine (HST.out w6 A6 c6 (plSl.2 hT6)).mono ?_
      rintro e w7 ⟨A7, c7, rfl, hS7, hb7⟩
      replace hB := hB.trans (hb7.mono hB.size)
      clear hb7 hT6
      go_wp2_with fail
      refine (HST.out w7 (some ⟨b, off, none⟩) c (HT.out.below hB)).mono ?_
      rintro e w8 ⟨A8, c8, rfl, hS8, hb8⟩
      replace hB := hB.trans (hb8.mono hB.size)
      replace hS7 := hS7.below hb8
      clear hb8
      go_wp2_with fail
      refine (sameSe_any A7 A8 c7 c8 LT LT w8 (by omega) (by omega) hS7.1 hS8.1).mono ?_
      rintro e w9 ⟨b9, rfl, hb9e, hb9⟩
      obtain rfl : b9 = true := hb9e.2 rfl
      replace hB := hB.trans (hb9.mono hB.size)
      clear hb9 hb9e hS7 hS8
      go_wp2_with fail
      refine (HST.out w9 (some ⟨b, off, none⟩) c (HT.out.below hB)).mono ?_
      rintro e w10 ⟨A10, c10, rfl, _, hb10⟩
      have hlen := HLEN.out
      go_wp2_with fail
      go_ret
      exact ⟨rfl, hB.trans (hb10.mono hB.size)⟩

set_option maxRecDepth 100000 in
theorem moves_lifted (os : Os) (started : os.Started) (H : Type) (enc : TypeId × Value → H) :
    ReturnsInHanded {} Tryd.checked os 6 .any (fun w args => (Rows.viewMovesSpec.pre enc Tryd.prog Tryd.f6 [] false w args ∧ laidMetH Tryd.prog laid3 w) ∧ sizedMet enc Tryd.prog Tryd.f6 (OpenSpec.ofChange Rows.viewMovesSpec) false w args) (Rows.viewMovesSpec.post enc Tryd.prog Tryd.f6 false true false false) := by
  refine returnsInHanded_of_change_and (C := Tryd.checked) (X := fun w _ => laidMetH Tryd.prog laid3 w) (fun _ _ _ hh h => h.of_heap hh) own started (by kernel_rfl) Tryd.func6
    (ChangeSpec.witness_shaped (enc := enc) (C := Tryd.checked) (os := os) (X := fun w _ => laidMetH Tryd.prog laid3 w) false (World.doorLaid Tryd.prog 24 os) #[.slice none 0 0, .int .u8 0] 8 rfl (World.shaped_of_RefB (by kernel_rfl) (by kernel_rfl)) (by kernel_rfl) (by kernel_rfl) (by kernel_rfl) (door_met os _)) ?_
  intro W base args ds gs before hval0 hW _ _ _ _
  have hval : ∀ (j : Nat) t v, Tryd.f6.params[j]? = some t → args[j]? = some v → Value.okWide Tryd.prog W .any base t v := hval0
  have hW' := hW
  obtain ⟨p, q, hA0, hV, rfl, _, _⟩ := hW
  have hA : DataW.TrodAll enc Tryd.prog W 0 (fun _ => true) true Tryd.f6.params.toList args.toList ds p := hA0
  rw [Tryd.params6] at hA hval
  obtain ⟨v0, v1, d0, d1, p0, p1, rfl, rfl, rfl, h0, h1⟩ := trodAll_two hA
  obtain ⟨A, cap, t, rfl, hT, hcap, hnil, hw⟩ := open_tree (hval 0 22 v0 rfl rfl) h0
  obtain ⟨s, rfl, hs⟩ := open_u8 (hval 1 5 v1 rfl rfl) h1
  have hc : Calls Tryd.prog 6 #[.slice A t.length cap, .int .u8 s] W fun e w' => e = .returned (.bool true) ∧ Below W.heap.size W w' := by
    by_cases h0 : t.length = 0
    · exact moves_no A cap t s W (long_le hw) (plSl.2 hT) (Or.inl h0)
    · by_cases h1 : 60 < t.length
      · exact moves_no A cap t s W (long_le hw) (plSl.2 hT) (Or.inr (Or.inl ⟨by omega, h1⟩))
      · cases h2 : treeB t
        · exact moves_no A cap t s W (long_le hw) (plSl.2 hT) (Or.inr (Or.inr ⟨by omega, by omega, h2⟩))
        · exact moves_walk A cap t s W hs (by omega) (by omega) h2 (plSl.2 hT) hcap
  refine hc.mono fun e W' ⟨he, hb⟩ => ?_
  subst he
  exact ⟨_, rfl, Frm.law_post (by kernel_rfl) (by kernel_rfl) (by kernel_rfl) Tryd.underlying4 rfl rfl hW' hb⟩

theorem moves_said : Rows.ViewMovesSaid :=
  OpenClaim.holds_of_wide 6 Tryd.f6 rfl rfl rfl rfl rfl rfl rfl ⟨rfl, rfl, rfl, rfl, rfl⟩ rfl rfl rfl rfl rfl (by kernel_rfl) Tryd.func6 (by kernel_rfl)
    (of_decide_eq_true (by kernel_rfl)) (by unfold Func.isWrapper; first | (rw [if_pos (by decide +kernel)]; kernel_rfl) | (rw [if_neg (by decide +kernel)]; exact ⟨rfl, rfl⟩))
    (fun os started H enc _ => moves_lifted os started H enc)

theorem moves_holds : Rows.ViewMovesCardSaid :=
  Claim7.holds_tied_plain_at .later [] [.data, .data, .data] true (true, "b262a00fe0406edc4c80b64f7c1174bc2a96634669ea655d54b9d77ed72cb7ab") false
    moves_said (fun _ h => by cases h) (by kernel_rfl) (fun _ h => by cases h) viewMoves_row_tie rfl ⟨rfl, rfl⟩ (by kernel_rfl) rfl
    (fun f fn hf hfn => by
      obtain rfl : f = 6 := Option.some.inj ((show Tryd.prog.funcNamed "bargeman/bargemanlaw09.ViewMoves" = some 6 by kernel_rfl).symm.trans hf) |>.symm
      obtain rfl : fn = Tryd.f6 := (Option.some.inj (Tryd.func6.symm.trans hfn)).symm
      exact ⟨by kernel_rfl, fun j t ht => by
        rw [Tryd.params6] at ht
        have hm : t ∈ [22, 5] := by simpa using Array.mem_of_getElem? ht
        have hall : ([22, 5].all fun u => !Tryd.prog.wantsStandIn u) = true := by kernel_rfl
        exact (show Tryd.prog.wantsStandIn t = false by simpa using List.all_eq_true.1 hall t hm)⟩)
    (by kernel_rfl)
end Go.Proofs.YtdhcgflblbmogaaDoor
