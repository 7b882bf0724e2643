/- NameTells is proved: for any text and any number, whether it is a name, the shown name of a twin, and what a shown name says, are the document's answers. Conditions: the library's tables read, when the call begins, as the program's own text lays them (the card ties that). -/
import Derived.Test.YtmomolmdkendiaaDoorOpn
namespace Go.Proofs.YtmomolmdkendiaaDoor
open Go.ChangeShapes Go.WideShapes Go.ChangeAt Go.RowKit Nam

theorem tells_long (s : ByteArray) (n : Int) (w : World) (h : 1000 < s.size) (hs : s.size ≤ 9223372036854775807) :
    Calls Tryd.prog 3 #[.string s, .int .i64 n] w fun e w' => e = .returned (.bool true) ∧ Below w.heap.size w w' := by
  go_enter Tryd.func3, Tryd.ntmps3
  go_wp2_with (go_at_call 6; (with_reducible refine (awake_any _).mono ?_); rintro e w1 ⟨rfl, rfl⟩)
  go_ret
  exact ⟨rfl, Below.refl _ _⟩

theorem beq_self (b : Bool) : (b == b) = true := by simp

set_option maxHeartbeats 4000000 in
theorem tells_short (s : ByteArray) (n : Int) (w : World) (hL : Laid w) (h : s.size ≤ 1000) (hn : n ≤ 9223372036854775807) :
    Calls Tryd.prog 3 #[.string s, .int .i64 n] w fun e w' => e = .returned (.bool true) ∧ Below w.heap.size w w' := by
  have K7 := Lib.hid (fun w => split_any s w (by omega))
  have K8 := Lib.hid (fun w => refSplit_any s w (by omega))
  have K9 := Lib.hid (fun w => right_any s w (by omega))
  have K10 := Lib.hid (fun w => refRight_any s w (by omega))
  generalize spT s = A at K7 K8
  generalize spN s = N at K7 K8
  generalize spB s = B at K7 K8
  generalize isName (L s) = R at K9 K10
  have HL := Lib.hid hL
  clear hL
  have hB := beq_self B
  have hR := beq_self R
  by_cases h0 : n < 0
  · have hd : decide (n < 0) = true := decide_eq_true h0
    go_enter Tryd.func3, Tryd.ntmps3
    go_wp2_with (first | (go_at_call 7; (with_reducible refine (K7.out _).mono ?_); rintro e w1 ⟨rfl, rfl⟩)
                       | (go_at_call 8; (with_reducible refine (K8.out _).mono ?_); rintro e w2 ⟨rfl, hb2⟩)
                       | (go_at_call 6; (with_reducible refine (awake_any _).mono ?_); rintro e w3 ⟨rfl, rfl⟩)
                       | (go_at_call 9; (with_reducible refine (K9.out _).mono ?_); rintro e w4 ⟨rfl, rfl⟩)
                       | (go_at_call 10; (with_reducible refine (K10.out _).mono ?_); rintro e w5 ⟨rfl, rfl⟩))
    go_ret
    exact ⟨rfl, hb2⟩
  · obtain ⟨m, rfl⟩ : ∃ m : Nat, n = (m : Int) := ⟨n.toNat, by omega⟩
    have hd : decide ((m : Int) < 0) = false := decide_eq_false h0
    have K11 := Lib.hid (fun w hw => twin_any s m w hw (by omega) (by omega))
    have K12 := Lib.hid (fun w => refTwin_any s m w (by omega) (by omega))
    generalize twinOf s m = T at K11 K12
    go_enter Tryd.func3, Tryd.ntmps3
    go_wp2_with (first | (go_at_call 7; (with_reducible refine (K7.out _).mono ?_); rintro e w1 ⟨rfl, rfl⟩)
                       | (go_at_call 8; (with_reducible refine (K8.out _).mono ?_); rintro e w2 ⟨rfl, hb2⟩; have HL2 := Lib.hid (laid_below HL.out hb2))
                       | (go_at_call 6; (with_reducible refine (awake_any _).mono ?_); rintro e w3 ⟨rfl, rfl⟩)
                       | (go_at_call 9; (with_reducible refine (K9.out _).mono ?_); rintro e w4 ⟨rfl, rfl⟩)
                       | (go_at_call 10; (with_reducible refine (K10.out _).mono ?_); rintro e w5 ⟨rfl, rfl⟩)
                       | (go_at_call 11; (with_reducible refine (K11.out _ HL2.out).mono ?_); rintro e w6 ⟨rfl, hb6⟩)
                       | (go_at_call 12; (with_reducible refine (K12.out _).mono ?_); rintro e w7 ⟨rfl, hb7⟩))
    go_ret
    exact ⟨rfl, below_then (below_then hb2 hb6) hb7⟩

set_option maxRecDepth 100000 in
theorem tells_lifted (os : Os) (started : os.Started) (H : Type) (enc : TypeId × Value → H) :
    ReturnsInHanded {} Tryd.checked os 3 .any (fun w args => (Rows.nameTellsSpec.pre enc Tryd.prog Tryd.f3 [] false w args ∧ laidMetH Tryd.prog laid3 w) ∧ sizedMet enc Tryd.prog Tryd.f3 (OpenSpec.ofChange Rows.nameTellsSpec) false w args)
      (Rows.nameTellsSpec.post enc Tryd.prog Tryd.f3 false true false false) := by
  refine returnsInHanded_of_change_and (C := Tryd.checked) (X := fun w _ => laidMetH Tryd.prog laid3 w) (fun _ _ _ hh h => h.of_heap hh) own started (by kernel_rfl) Tryd.func3
    (ChangeSpec.witness_shaped (enc := enc) (C := Tryd.checked) (os := os) (X := fun w _ => laidMetH Tryd.prog laid3 w) false (World.doorLaid Tryd.prog 24 os) #[.string ⟨#[]⟩, .int .i64 0] 8 rfl (World.shaped_of_RefB (by kernel_rfl) (by kernel_rfl)) (by kernel_rfl) (by kernel_rfl) (by kernel_rfl) (door_met os _)) ?_
  intro W base args ds gs before hval0 hW _ _ hL _
  have hval : ∀ (j : Nat) t v, Tryd.f3.params[j]? = some t → args[j]? = some v → Value.okWide Tryd.prog W .any base t v := hval0
  have hW' := hW
  obtain ⟨p, q, hA0, hV, rfl, _, _⟩ := hW
  have hA : DataW.TrodAll enc Tryd.prog W 0 (fun _ => true) true Tryd.f3.params.toList args.toList ds p := hA0
  rw [Tryd.params3] at hA hval
  obtain ⟨v0, v1, d0, d1, p0, p1, rfl, rfl, rfl, h0, h1⟩ := trodAll_two hA
  obtain ⟨s, rfl, hs⟩ := open_str (hval 0 9 v0 rfl rfl) h0
  obtain ⟨n, rfl, _, hn⟩ := open_i64 (hval 1 3 v1 rfl rfl) h1
  have hl := of_laid hL
  have hc : Calls Tryd.prog 3 #[.string s, .int .i64 n] W fun e w' => e = .returned (.bool true) ∧ Below W.heap.size W w' := by
    by_cases h : s.size ≤ 1000
    · exact tells_short s n W hl h hn
    · exact tells_long s n W (by omega) hs
  refine hc.mono fun e W' ⟨he, hb⟩ => ?_
  subst he
  exact ⟨_, rfl, Frm.law_post (by kernel_rfl) (by kernel_rfl) (by kernel_rfl) Tryd.underlying4 rfl rfl hW' hb⟩

theorem tells_said : Rows.NameTellsSaid :=
  OpenClaim.holds_of_wide 3 Tryd.f3 rfl rfl rfl rfl rfl rfl rfl ⟨rfl, rfl, rfl, rfl, rfl⟩ rfl rfl rfl rfl rfl (by kernel_rfl) Tryd.func3 (by kernel_rfl)
    (of_decide_eq_true (by kernel_rfl)) (by unfold Func.isWrapper; first | (rw [if_pos (by decide +kernel)]; kernel_rfl) | (rw [if_neg (by decide +kernel)]; exact ⟨rfl, rfl⟩))
    (fun os started H enc _ => tells_lifted os started H enc)

theorem tells_holds : Rows.NameTellsCardSaid :=
  Claim7.holds_tied_plain_at .later [] [.data, .data, .data] true (true, "d9f3fd7ae9b88eec18de69081673bbb2266332a1a52d55e09d46dbf90cd787fa") false
    tells_said (fun _ h => by cases h) (by kernel_rfl) (fun _ h => by cases h) nameTells_row_tie rfl ⟨rfl, rfl⟩ (by kernel_rfl) rfl
    (fun f fn hf hfn => by
      obtain rfl : f = 3 := Option.some.inj ((show Tryd.prog.funcNamed "bargeman/bargemanlaw04.NameTells" = some 3 by kernel_rfl).symm.trans hf) |>.symm
      obtain rfl : fn = Tryd.f3 := (Option.some.inj (Tryd.func3.symm.trans hfn)).symm
      exact ⟨by kernel_rfl, fun j t ht => by
        rw [Tryd.params3] at ht
        have hm : t ∈ [9, 3] := by simpa using Array.mem_of_getElem? ht
        have hall : ([9, 3].all fun u => !Tryd.prog.wantsStandIn u) = true := by kernel_rfl
        exact (show Tryd.prog.wantsStandIn t = false by simpa using List.all_eq_true.1 hall t hm)⟩)
    (by kernel_rfl)

end Go.Proofs.YtmomolmdkendiaaDoor
