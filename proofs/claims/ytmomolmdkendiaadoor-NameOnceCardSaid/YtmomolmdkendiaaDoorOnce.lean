/- NameOnce is proved: what any text (1,000 bytes at most) says, as a name or a twin's, is that text again. Conditions: the library's tables read, when the call begins, as the program's own text lays them (the card ties that). -/
import Derived.Test.YtmomolmdkendiaaDoorOpn
namespace Go.Proofs.YtmomolmdkendiaaDoor
open Go.ChangeShapes Go.WideShapes Go.ChangeAt Go.RowKit Nam

theorem once_long (s : ByteArray) (w : World) (h : 1000 < s.size) (hs : s.size ≤ 9223372036854775807) :
    Calls Tryd.prog 5 #[.string s] w fun e w' => e = .returned (.bool true) ∧ Below w.heap.size w w' := by
  go_enter Tryd.func5, Tryd.ntmps5
  go_wp2_with (go_at_call 6; (with_reducible refine (awake_any _).mono ?_); rintro e w1 ⟨rfl, rfl⟩)
  go_ret
  exact ⟨rfl, Below.refl _ _⟩

theorem L_mk (l : List UInt8) : L ⟨l.toArray⟩ = l := by unfold L; simp

set_option maxHeartbeats 4000000 in
theorem once_short (s : ByteArray) (w : World) (h : s.size ≤ 1000) :
    Calls Tryd.prog 5 #[.string s] w fun e w' => e = .returned (.bool true) ∧ Below w.heap.size w w' := by
  have c7 := fun w => split_any s w (by omega)
  cases hsay : says (L s) with
  | none =>
    obtain ⟨e1, e2, e3⟩ := sp_none hsay
    rw [e1, e2, e3] at c7
    have c9 := fun w => right_any s w (by omega)
    rw [says_none_name hsay] at c9
    have K7 := Lib.hid c7
    have K9 := Lib.hid c9
    clear c7 c9 e1 e2 e3 hsay
    go_enter Tryd.func5, Tryd.ntmps5
    go_wp2_with (first | (go_at_call 7; (with_reducible refine (K7.out _).mono ?_); rintro e w1 ⟨rfl, rfl⟩)
                       | (go_at_call 6; (with_reducible refine (awake_any _).mono ?_); rintro e w3 ⟨rfl, rfl⟩)
                       | (go_at_call 9; (with_reducible refine (K9.out _).mono ?_); rintro e w4 ⟨rfl, rfl⟩))
    go_ret
    exact ⟨rfl, Below.refl _ _⟩
  | some x =>
    obtain ⟨t, o⟩ := x
    obtain ⟨ht, ⟨rfl, rfl⟩ | ⟨n, rfl, hn, htw⟩⟩ := says_some hsay
    · obtain ⟨e1, e2, e3⟩ := sp_name hsay
      rw [e1, e2, e3] at c7
      have c9 := fun w => right_any s w (by omega)
      rw [ht] at c9
      have K7 := Lib.hid c7
      have K9 := Lib.hid c9
      clear c7 c9 e1 e2 e3 hsay ht
      go_enter Tryd.func5, Tryd.ntmps5
      go_wp2_with (first | (go_at_call 7; (with_reducible refine (K7.out _).mono ?_); rintro e w1 ⟨rfl, rfl⟩)
                         | (go_at_call 6; (with_reducible refine (awake_any _).mono ?_); rintro e w3 ⟨rfl, rfl⟩)
                         | (go_at_call 9; (with_reducible refine (K9.out _).mono ?_); rintro e w4 ⟨rfl, rfl⟩))
      go_ret
      exact ⟨rfl, Below.refl _ _⟩
    · obtain ⟨T, rfl⟩ : ∃ T : ByteArray, t = L T := ⟨⟨t.toArray⟩, (L_mk t).symm⟩
      obtain ⟨e1, e2, e3⟩ := sp_twin hsay
      rw [e1, e2, e3] at c7
      have hsz : T.size ≤ 16 := by rw [← L_len]; exact (isName_len ht).2
      have c9 := fun w => right_any T w (by omega)
      rw [ht] at c9
      have hT : twinOf T n = s := L_inj (by rw [L_twin]; exact htw)
      have c11 := fun w => twin_small T n w (by omega) (by omega)
      rw [hT] at c11
      have K7 := Lib.hid c7
      have K9 := Lib.hid c9
      have K11 := Lib.hid c11
      clear c7 c9 c11 e1 e2 e3 hsay ht hT htw
      go_enter Tryd.func5, Tryd.ntmps5
      go_wp2_with (first | (go_at_call 7; (with_reducible refine (K7.out _).mono ?_); rintro e w1 ⟨rfl, rfl⟩)
                         | (go_at_call 6; (with_reducible refine (awake_any _).mono ?_); rintro e w3 ⟨rfl, rfl⟩)
                         | (go_at_call 9; (with_reducible refine (K9.out _).mono ?_); rintro e w4 ⟨rfl, rfl⟩)
                         | (go_at_call 11; (with_reducible refine (K11.out _).mono ?_); rintro e w4 ⟨rfl, rfl⟩))
      go_ret
      exact ⟨rfl, Below.refl _ _⟩

set_option maxRecDepth 100000 in
theorem once_lifted (os : Os) (started : os.Started) (H : Type) (enc : TypeId × Value → H) :
    ReturnsInHanded {} Tryd.checked os 5 .any (fun w args => (Rows.nameOnceSpec.pre enc Tryd.prog Tryd.f5 [] false w args ∧ laidMetH Tryd.prog laid3 w) ∧ sizedMet enc Tryd.prog Tryd.f5 (OpenSpec.ofChange Rows.nameOnceSpec) false w args)
      (Rows.nameOnceSpec.post enc Tryd.prog Tryd.f5 false true false false) := by
  refine returnsInHanded_of_change_and (C := Tryd.checked) (X := fun w _ => laidMetH Tryd.prog laid3 w) (fun _ _ _ hh h => h.of_heap hh) own started (by kernel_rfl) Tryd.func5
    (ChangeSpec.witness_shaped (enc := enc) (C := Tryd.checked) (os := os) (X := fun w _ => laidMetH Tryd.prog laid3 w) false (World.doorLaid Tryd.prog 24 os) #[.string ⟨#[]⟩] 8 rfl (World.shaped_of_RefB (by kernel_rfl) (by kernel_rfl)) (by kernel_rfl) (by kernel_rfl) (by kernel_rfl) (door_met os _)) ?_
  intro W base args ds gs before hval0 hW _ _ _ _
  have hval : ∀ (j : Nat) t v, Tryd.f5.params[j]? = some t → args[j]? = some v → Value.okWide Tryd.prog W .any base t v := hval0
  have hW' := hW
  obtain ⟨p, q, hA0, hV, rfl, _, _⟩ := hW
  have hA : DataW.TrodAll enc Tryd.prog W 0 (fun _ => true) true Tryd.f5.params.toList args.toList ds p := hA0
  rw [Tryd.params5] at hA hval
  obtain ⟨v0, d0, rfl, rfl, h0⟩ := trodAll_one hA
  obtain ⟨s, rfl, hs⟩ := open_str (hval 0 9 v0 rfl rfl) h0
  have hc : Calls Tryd.prog 5 #[.string s] W fun e w' => e = .returned (.bool true) ∧ Below W.heap.size W w' := by
    by_cases h : s.size ≤ 1000
    · exact once_short s W h
    · exact once_long s W (by omega) hs
  refine hc.mono fun e W' ⟨he, hb⟩ => ?_
  subst he
  exact ⟨_, rfl, Frm.law_post (by kernel_rfl) (by kernel_rfl) (by kernel_rfl) Tryd.underlying4 rfl rfl hW' hb⟩

theorem once_said : Rows.NameOnceSaid :=
  OpenClaim.holds_of_wide 5 Tryd.f5 rfl rfl rfl rfl rfl rfl rfl ⟨rfl, rfl, rfl, rfl, rfl⟩ rfl rfl rfl rfl rfl (by kernel_rfl) Tryd.func5 (by kernel_rfl)
    (of_decide_eq_true (by kernel_rfl)) (by unfold Func.isWrapper; first | (rw [if_pos (by decide +kernel)]; kernel_rfl) | (rw [if_neg (by decide +kernel)]; exact ⟨rfl, rfl⟩))
    (fun os started H enc _ => once_lifted os started H enc)

theorem once_holds : Rows.NameOnceCardSaid :=
  Claim7.holds_tied_plain_at .later [] [.data, .data, .data] true (true, "d9f3fd7ae9b88eec18de69081673bbb2266332a1a52d55e09d46dbf90cd787fa") false
    once_said (fun _ h => by cases h) (by kernel_rfl) (fun _ h => by cases h) nameOnce_row_tie rfl ⟨rfl, rfl⟩ (by kernel_rfl) rfl
    (fun f fn hf hfn => by
      obtain rfl : f = 5 := Option.some.inj ((show Tryd.prog.funcNamed "bargeman/bargemanlaw04.NameOnce" = some 5 by kernel_rfl).symm.trans hf) |>.symm
      obtain rfl : fn = Tryd.f5 := (Option.some.inj (Tryd.func5.symm.trans hfn)).symm
      exact ⟨by kernel_rfl, fun j t ht => by
        rw [Tryd.params5] at ht
        have hm : t ∈ [9] := by simpa using Array.mem_of_getElem? ht
        have hall : ([9].all fun u => !Tryd.prog.wantsStandIn u) = true := by kernel_rfl
        exact (show Tryd.prog.wantsStandIn t = false by simpa using List.all_eq_true.1 hall t hm)⟩)
    (by kernel_rfl)

end Go.Proofs.YtmomolmdkendiaaDoor
