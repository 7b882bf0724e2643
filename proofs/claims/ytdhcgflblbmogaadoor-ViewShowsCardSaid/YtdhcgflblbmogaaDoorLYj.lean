/- ViewShows is proved: what is shown of any tree, what is in the trash, paths, and the nodes of paths, are the document's. Conditions: the library's tables read, when the call begins, as the program's own text lays them (the card ties that; no table is read below). -/
import Derived.Test.YtdhcgflblbmogaaDoorB04
namespace Go.Proofs.YtdhcgflblbmogaaDoor
open Go.ChangeShapes Go.WideShapes Go.ChangeAt Go.RowKit Go.Deep Nam Cod Tre

theorem shows_no (A : Option Addr) (c : Nat) (t : List Pl) (node : Int) (P : ByteArray) (w : World) (h : 100 < t.length ∨ (t.length ≤ 100 ∧ 1000 < P.size)) :
    Calls Tryd.prog 3 #[.slice A t.length c, .int .i64 node, .string P] w fun e w' => e = .returned (.bool true) ∧ Below w.heap.size w w' := by
  rcases h with h | ⟨h, h2⟩
  all_goals
    go_enter Tryd.func3, Tryd.ntmps3
    go_wp2_with fail
    refine (awake9_any _).mono ?_
    rintro e w1 ⟨rfl, hb1⟩
    go_wp2_with fail
    go_ret
    exact ⟨rfl, hb1⟩

set_option maxRecDepth 100000 in
set_option maxHeartbeats 4000000 in
theorem shows_walk (A : Option Addr) (c : Nat) (t : List Pl) (node : Int) (P : ByteArray) (w : World) (hl : t.length ≤ 100) (hp : P.size ≤ 1000) (hsz : ∀ p ∈ t, p.s.size ≤ 9223372036854775807) (hT : plE.Sl w A t) :
    Calls Tryd.prog 3 #[.slice A t.length c, .int .i64 node, .string P] w fun e w' => e = .returned (.bool true) ∧ Below w.heap.size w w' := by
  have hB := Below.refl w.heap.size w
  have HL := Lib.hid (fun (wx : World) (hb : Below w.heap.size w wx) => pLook_any A c t P wx hl hsz (hT.below hb))
  have HRL := Lib.hid (fun (wx : World) (hb : Below w.heap.size w wx) => refLook_any A c t P wx hl hsz (hT.below hb))
  have HS := Lib.hid (fun (wx : World) (hb : Below w.heap.size w wx) => pShow_any A c t wx hl hsz (hT.below hb))
  have HRS := Lib.hid (fun (wx : World) (hb : Below w.heap.size w wx) => refShow_any A c t wx hl hsz (hT.below hb))
  have HT := Lib.hid (fun (wx : World) (hb : Below w.heap.size w wx) => pTrash_any A c t wx hl hsz (hT.below hb))
  have HRT := Lib.hid (fun (wx : World) (hb : Below w.heap.size w wx) => refTrash_any A c t wx hl hsz (hT.below hb))
  have HR := Lib.hid (fun (wx : World) (hb : Below w.heap.size w wx) => refRight_any A c t wx (by omega) hsz (plSl.1 (hT.below hb)))
  have HP := Lib.hid (fun (wx : World) (ht : treeB t = true) (hb : Below w.heap.size w wx) => pPath_any A c t node wx ht hl (hT.below hb))
  have HRP := Lib.hid (fun (wx : World) (hb : Below w.heap.size w wx) => refPath_any A c t node wx hl hsz (hT.below hb))
  have hls : (showV t).length ≤ 100 := by
    unfold showV
    by_cases h : treeB t = true
    · rw [if_pos h]; exact Nat.le_trans ((treeP h).below_len _ _) hl
    · rw [if_neg h]; exact Nat.zero_le _
  have hlt : (trashV t).length ≤ 100 := by
    unfold trashV
    by_cases h : treeB t = true
    · rw [if_pos h]; exact Nat.le_trans ((treeP h).below_len _ _) hl
    · rw [if_neg h]; exact Nat.zero_le _
  generalize (lookV t P).1 = n0 at *
  generalize (lookV t P).2 = ok0 at *
  generalize showV t = LS at *
  generalize trashV t = LT at *
  generalize pathL LS node = S at *
  clear hsz
  go_enter Tryd.func3, Tryd.ntmps3
  go_wp2_with fail
  refine (HL.out _ hB).mono ?_
  rintro e w1 ⟨rfl, hb1⟩
  replace hB := hB.trans (hb1.mono hB.size)
  go_wp2_with fail
  refine (HRL.out _ hB).mono ?_
  rintro e w2 ⟨rfl, hb2⟩
  replace hB := hB.trans (hb2.mono hB.size)
  go_wp2_with fail
  refine (awake9_any _).mono ?_
  rintro e w3 ⟨rfl, hb3⟩
  replace hB := hB.trans (hb3.mono hB.size)
  clear hb1 hb2 hb3 HL HRL
  go_wp2_with fail
  refine (HS.out _ hB).mono ?_
  rintro e w4 ⟨A4, c4, rfl, hS4, hb4⟩
  replace hB := hB.trans (hb4.mono hB.size)
  clear hb4 HS
  go_wp2_with fail
  refine (HRS.out _ hB).mono ?_
  rintro e w5 ⟨A5, c5, rfl, hS5, _, hb5⟩
  replace hB := hB.trans (hb5.mono hB.size)
  replace hS4 := hS4.below hb5
  clear hb5 HRS
  go_wp2_with fail
  refine (sameSe_any A4 A5 c4 c5 LS LS w5 (by omega) (by omega) hS4.1 hS5.1).mono ?_
  rintro e w6 ⟨b6, rfl, hb6e, hb6⟩
  obtain rfl : b6 = true := hb6e.2 rfl
  replace hB := hB.trans (hb6.mono hB.size)
  clear hb6 hb6e hS4 hS5
  go_wp2_with fail
  refine (HT.out _ hB).mono ?_
  rintro e w7 ⟨A7, c7, rfl, hS7, hb7⟩
  replace hB := hB.trans (hb7.mono hB.size)
  clear hb7 HT
  go_wp2_with fail
  refine (HRT.out _ hB).mono ?_
  rintro e w8 ⟨A8, c8, rfl, hS8, _, hb8⟩
  replace hB := hB.trans (hb8.mono hB.size)
  replace hS7 := hS7.below hb8
  clear hb8 HRT
  go_wp2_with fail
  refine (sameSe_any A7 A8 c7 c8 LT LT w8 (by omega) (by omega) hS7.1 hS8.1).mono ?_
  rintro e w9 ⟨b9, rfl, hb9e, hb9⟩
  obtain rfl : b9 = true := hb9e.2 rfl
  replace hB := hB.trans (hb9.mono hB.size)
  clear hb9 hb9e hS7 hS8
  go_wp2_with fail
  refine (HR.out _ hB).mono ?_
  rintro e w10 ⟨rfl, hb10⟩
  replace hB := hB.trans (hb10.mono hB.size)
  clear hb10
  cases ht : treeB t
  · go_wp2_with fail
    go_ret
    exact ⟨rfl, hB⟩
  · go_wp2_with fail
    refine (HP.out _ ht hB).mono ?_
    rintro e w11 ⟨rfl, hb11⟩
    replace hB := hB.trans (hb11.mono hB.size)
    go_wp2_with fail
    refine (HRP.out _ hB).mono ?_
    rintro e w12 ⟨rfl, hb12⟩
    replace hB := hB.trans (hb12.mono hB.size)
    go_wp2_with fail
    go_ret
    exact ⟨rfl, hB⟩

set_option maxRecDepth 100000 in
theorem shows_lifted (os : Os) (started : os.Started) (H : Type) (enc : TypeId × Value → H) :
    ReturnsInHanded {} Tryd.checked os 3 .any (fun w args => (Rows.viewShowsSpec.pre enc Tryd.prog Tryd.f3 [] false w args ∧ laidMetH Tryd.prog laid3 w) ∧ sizedMet enc Tryd.prog Tryd.f3 (OpenSpec.ofChange Rows.viewShowsSpec) false w args) (Rows.viewShowsSpec.post enc Tryd.prog Tryd.f3 false true false false) := by
  refine returnsInHanded_of_change_and (C := Tryd.checked) (X := fun w _ => laidMetH Tryd.prog laid3 w) (fun _ _ _ hh h => h.of_heap hh) own started (by kernel_rfl) Tryd.func3
    (ChangeSpec.witness_shaped (enc := enc) (C := Tryd.checked) (os := os) (X := fun w _ => laidMetH Tryd.prog laid3 w) false (World.doorLaid Tryd.prog 24 os) #[.slice none 0 0, .int .i64 0, .string ⟨#[]⟩] 8 rfl (World.shaped_of_RefB (by kernel_rfl) (by kernel_rfl)) (by kernel_rfl) (by kernel_rfl) (by kernel_rfl) (door_met os _)) ?_
  intro W base args ds gs before hval0 hW _ _ _ _
  have hval : ∀ (j : Nat) t v, Tryd.f3.params[j]? = some t → args[j]? = some v → Value.okWide Tryd.prog W .any base t v := hval0
  have hW' := hW
  obtain ⟨p, q, hA0, hV, rfl, _, _⟩ := hW
  have hA : DataW.TrodAll enc Tryd.prog W 0 (fun _ => true) true Tryd.f3.params.toList args.toList ds p := hA0
  rw [Tryd.params3] at hA hval
  obtain ⟨v0, v1, v2, d0, d1, d2, p0, p1, p2, rfl, rfl, rfl, h0, h1, h2⟩ := trodAll_three hA
  obtain ⟨A, cap, t, rfl, hT, _, _, hw⟩ := open_tree (hval 0 22 v0 rfl rfl) h0
  obtain ⟨node, rfl, _⟩ := open_i64 (hval 1 3 v1 rfl rfl) h1
  obtain ⟨P, rfl, _⟩ := open_str (hval 2 9 v2 rfl rfl) h2
  have hc : Calls Tryd.prog 3 #[.slice A t.length cap, .int .i64 node, .string P] W fun e w' => e = .returned (.bool true) ∧ Below W.heap.size W w' := by
    by_cases h1 : 100 < t.length
    · exact shows_no A cap t node P W (Or.inl h1)
    · by_cases h2 : 1000 < P.size
      · exact shows_no A cap t node P W (Or.inr ⟨by omega, h2⟩)
      · exact shows_walk A cap t node P W (by omega) (by omega) (long_le hw) (plSl.2 hT)
  refine hc.mono fun e W' ⟨he, hb⟩ => ?_
  subst he
  exact ⟨_, rfl, Frm.law_post (by kernel_rfl) (by kernel_rfl) (by kernel_rfl) Tryd.underlying4 rfl rfl hW' hb⟩

theorem shows_said : Rows.ViewShowsSaid :=
  OpenClaim.holds_of_wide 3 Tryd.f3 rfl rfl rfl rfl rfl rfl rfl ⟨rfl, rfl, rfl, rfl, rfl⟩ rfl rfl rfl rfl rfl (by kernel_rfl) Tryd.func3 (by kernel_rfl)
    (of_decide_eq_true (by kernel_rfl)) (by unfold Func.isWrapper; first | (rw [if_pos (by decide +kernel)]; kernel_rfl) | (rw [if_neg (by decide +kernel)]; exact ⟨rfl, rfl⟩))
    (fun os started H enc _ => shows_lifted os started H enc)

theorem shows_holds : Rows.ViewShowsCardSaid :=
  Claim7.holds_tied_plain_at .later [] [.data, .data, .data] true (true, "b262a00fe0406edc4c80b64f7c1174bc2a96634669ea655d54b9d77ed72cb7ab") false
    shows_said (fun _ h => by cases h) (by kernel_rfl) (fun _ h => by cases h) viewShows_row_tie rfl ⟨rfl, rfl⟩ (by kernel_rfl) rfl
    (fun f fn hf hfn => by
      obtain rfl : f = 3 := Option.some.inj ((show Tryd.prog.funcNamed "bargeman/bargemanlaw09.ViewShows" = some 3 by kernel_rfl).symm.trans hf) |>.symm
      obtain rfl : fn = Tryd.f3 := (Option.some.inj (Tryd.func3.symm.trans hfn)).symm
      exact ⟨by kernel_rfl, fun j t ht => by
        rw [Tryd.params3] at ht
        have hm : t ∈ [22, 3, 9] := by simpa using Array.mem_of_getElem? ht
        have hall : ([22, 3, 9].all fun u => !Tryd.prog.wantsStandIn u) = true := by kernel_rfl
        exact (show Tryd.prog.wantsStandIn t = false by simpa using List.all_eq_true.1 hall t hm)⟩)
    (by kernel_rfl)
end Go.Proofs.YtdhcgflblbmogaaDoor
