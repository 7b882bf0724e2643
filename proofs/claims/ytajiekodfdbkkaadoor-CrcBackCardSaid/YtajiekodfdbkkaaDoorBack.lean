/- CrcBack is proved: what was sealed is opened, whatever stands behind, and what is opened was sealed just so. Conditions: the package's table reads, when the call begins, as the program's own text lays it (the card ties that). -/
import Derived.Test.YtajiekodfdbkkaaDoorOpn
namespace Go.Proofs.YtajiekodfdbkkaaDoor
open Go.ChangeShapes Go.WideShapes Go.ChangeAt Go.RowKit Crc

theorem back_long1 (s b : ByteArray) (w : World) (hL : Laid w) (h : 3000 < s.size) :
    Calls Tryd.prog 4 #[.string s, .string b] w fun e w' => e = .returned (.bool true) ∧ Below w.heap.size w w' := by
  have HL := Lib.hid hL
  clear hL
  go_enter Tryd.func4, Tryd.ntmps4
  go_wp2_with (go_at_call 7; (with_reducible refine (awake_any _ HL.out).mono ?_); rintro e w1 ⟨rfl, hb1⟩)
  go_ret
  exact ⟨rfl, hb1⟩

theorem back_long2 (s b : ByteArray) (w : World) (hL : Laid w) (h : s.size ≤ 3000) (h2 : 3000 < b.size) :
    Calls Tryd.prog 4 #[.string s, .string b] w fun e w' => e = .returned (.bool true) ∧ Below w.heap.size w w' := by
  have HL := Lib.hid hL
  clear hL
  go_enter Tryd.func4, Tryd.ntmps4
  go_wp2_with (go_at_call 7; (with_reducible refine (awake_any _ HL.out).mono ?_); rintro e w1 ⟨rfl, hb1⟩)
  go_ret
  exact ⟨rfl, hb1⟩

set_option maxHeartbeats 1000000 in
theorem back_shut (s b : ByteArray) (w : World) (hL : Laid w) (h : s.size ≤ 3000) (h2 : b.size ≤ 3000) (hg : ¬ isSeal b = true) :
    Calls Tryd.prog 4 #[.string s, .string b] w fun e w' => e = .returned (.bool true) ∧ Below w.heap.size w w' := by
  obtain ⟨T, hT⟩ : ∃ T, sealOf s = T := ⟨_, rfl⟩
  have sT : T.size ≤ 3008 := by rw [← hT, seal_size]; omega
  obtain ⟨z, hz⟩ : ∃ z : Nat, 8 + s.size = z := ⟨_, rfl⟩
  have ez : (T.size : Int) = (z : Int) := by rw [← hT, seal_size, hz]
  have ey : IntKind.i64.wrap (8 + (s.size : Int)) = (z : Int) := by rw [← hz, IntWalk.i64_in _ (by omega)]; omega
  have c12 : ∀ w, Laid w → Calls Tryd.prog 12 #[.string s] w fun e w' => e = .returned (.string T) ∧ Below w.heap.size w w' := fun w k => by rw [← hT]; exact seal_any s w (by omega) k
  have c8 : ∀ w, Laid w → Calls Tryd.prog 8 #[.string (T ++ b)] w fun e w' => e = .returned (.tuple #[.string s, .int .i64 z]) ∧ Below w.heap.size w w' := fun w k => by
    have o := open_any (T ++ b) w (by rw [ByteArray.size_append]; omega) k
    rw [← hT, (seal_opens s b (by omega)).1, (seal_opens s b (by omega)).2] at o
    have e1 : (z : Int) = 8 + (s.size : Int) := by omega
    rw [← hT, e1]; exact o
  obtain ⟨E, hE⟩ : ∃ E : ByteArray, ⟨#[]⟩ = E := ⟨_, rfl⟩
  obtain ⟨m, hm⟩ : ∃ m : Int, -1 = m := ⟨_, rfl⟩
  have hm1 : m < 0 := by omega
  have c8b : ∀ w, Laid w → Calls Tryd.prog 8 #[.string b] w fun e w' => e = .returned (.tuple #[.string E, .int .i64 m]) ∧ Below w.heap.size w w' := fun w k => by
    have o := open_any b w (by omega) k
    rwa [opT, opC, if_neg hg, if_neg hg, hm, hE] at o
  clear hm hE
  have K12 := Lib.hid c12
  have K8 := Lib.hid c8
  have K8b := Lib.hid c8b
  have HL := Lib.hid hL
  have ET := Lib.hid ez
  have EY := Lib.hid ey
  clear hT hz c12 c8 c8b hL ez ey hg
  go_enter Tryd.func4, Tryd.ntmps4
  go_wp2_with (first | (go_at_call 12; (with_reducible refine (K12.out _ HL.out).mono ?_); rintro e w1 ⟨rfl, hb1⟩; have HL1 := Lib.hid (laid_below HL.out hb1))
                     | (go_at_call 8; (with_reducible refine (K8.out _ HL1.out).mono ?_); rintro e w2 ⟨rfl, hb2⟩; have HL2 := Lib.hid (laid_below HL1.out hb2))
                     | (go_at_call 8; (with_reducible refine (K8b.out _ HL2.out).mono ?_); rintro e w3 ⟨rfl, hb3⟩; have HL3 := Lib.hid (laid_below HL2.out hb3)))
  have ez := ET.out
  have ey := EY.out
  have g1 : decide (m < 0) = true := decide_eq_true hm1
  have cA : ∀ d os, Calls Tryd.prog 7 #[] (Sort.grow (redrawn w3 d) os) fun e w'' => e = .returned (.bool true) ∧ ∃ p : Regrown, w'' = Sort.grow (redrawn w3 p.d) p.os := fun d os => Calls.regrown_of (awake_any _ (laid_below HL3.out (below_regrown w3 d os)))
  refine wp_region_quiet_below (by kernel_rfl) (by kernel_rfl) ?_
  repeat (go_big_quiet_step ((first | exact cA _ _)))
  refine wpQuiet_nil ?_
  intro _ hw'
  obtain ⟨⟨dq, osq⟩, hw''⟩ := hw'
  subst hw''
  go_wp2
  go_ret
  exact ⟨rfl, below_then (below_then (below_then hb1 hb2) hb3) (below_regrown w3 dq osq)⟩

set_option maxHeartbeats 1000000 in
theorem back_open (s b : ByteArray) (w : World) (hL : Laid w) (h : s.size ≤ 3000) (h2 : b.size ≤ 3000) (hg : isSeal b = true) :
    Calls Tryd.prog 4 #[.string s, .string b] w fun e w' => e = .returned (.bool true) ∧ Below w.heap.size w w' := by
  obtain ⟨T, hT⟩ : ∃ T, sealOf s = T := ⟨_, rfl⟩
  have sT : T.size ≤ 3008 := by rw [← hT, seal_size]; omega
  obtain ⟨z, hz⟩ : ∃ z : Nat, 8 + s.size = z := ⟨_, rfl⟩
  have ez : (T.size : Int) = (z : Int) := by rw [← hT, seal_size, hz]
  have ey : IntKind.i64.wrap (8 + (s.size : Int)) = (z : Int) := by rw [← hz, IntWalk.i64_in _ (by omega)]; omega
  have c12 : ∀ w, Laid w → Calls Tryd.prog 12 #[.string s] w fun e w' => e = .returned (.string T) ∧ Below w.heap.size w w' := fun w k => by rw [← hT]; exact seal_any s w (by omega) k
  have c8 : ∀ w, Laid w → Calls Tryd.prog 8 #[.string (T ++ b)] w fun e w' => e = .returned (.tuple #[.string s, .int .i64 z]) ∧ Below w.heap.size w w' := fun w k => by
    have o := open_any (T ++ b) w (by rw [ByteArray.size_append]; omega) k
    rw [← hT, (seal_opens s b (by omega)).1, (seal_opens s b (by omega)).2] at o
    have e1 : (z : Int) = 8 + (s.size : Int) := by omega
    rw [← hT, e1]; exact o
  obtain ⟨hD, hm⟩ := opened_was b hg
  obtain ⟨B, hB⟩ : ∃ B, opT b = B := ⟨_, rfl⟩
  obtain ⟨m, hm0⟩ : ∃ m, 8 + num b = m := ⟨_, rfl⟩
  obtain ⟨D, hD0⟩ : ∃ D, b.extract 0 m = D := ⟨_, rfl⟩
  have hmb : m ≤ b.size := by omega
  have sB : B.size ≤ 1000000 := by
    rw [← hB, opT, if_pos hg]; unfold bodyOf; rw [ByteArray.size_extract]; omega
  rw [hB, hm0, hD0] at hD
  have c8b : ∀ w, Laid w → Calls Tryd.prog 8 #[.string b] w fun e w' => e = .returned (.tuple #[.string B, .int .i64 m]) ∧ Below w.heap.size w w' := fun w k => by
    have o := open_any b w (by omega) k
    have e1 : opC b = (m : Int) := by rw [opC, if_pos hg]; omega
    rwa [hB, e1] at o
  have c12b : ∀ w, Laid w → Calls Tryd.prog 12 #[.string B] w fun e w' => e = .returned (.string D) ∧ Below w.heap.size w w' := fun w k => by rw [← hD]; exact seal_any B w sB k
  have K12b := Lib.hid c12b
  have HD := Lib.hid hD0
  clear hD hm hB hm0 hD0 c12b
  have K12 := Lib.hid c12
  have K8 := Lib.hid c8
  have K8b := Lib.hid c8b
  have HL := Lib.hid hL
  have ET := Lib.hid ez
  have EY := Lib.hid ey
  clear hT hz c12 c8 c8b hL ez ey hg
  go_enter Tryd.func4, Tryd.ntmps4
  go_wp2_with (first | (go_at_call 12; (with_reducible refine (K12.out _ HL.out).mono ?_); rintro e w1 ⟨rfl, hb1⟩; have HL1 := Lib.hid (laid_below HL.out hb1))
                     | (go_at_call 8; (with_reducible refine (K8.out _ HL1.out).mono ?_); rintro e w2 ⟨rfl, hb2⟩; have HL2 := Lib.hid (laid_below HL1.out hb2))
                     | (go_at_call 8; (with_reducible refine (K8b.out _ HL2.out).mono ?_); rintro e w3 ⟨rfl, hb3⟩; have HL3 := Lib.hid (laid_below HL2.out hb3)))
  have ez := ET.out
  have ey := EY.out
  have hD0 := HD.out
  have g1 : decide ((m : Int) < 0) = false := decide_eq_false (by omega)
  have g2 : decide (m ≤ b.size) = true := decide_eq_true hmb
  have g3 : (m : Int) ≤ (b.size : Int) := by omega
  have g4 : 0 ≤ (m : Int) := by omega
  have cB : ∀ d os, Calls Tryd.prog 12 #[.string B] (Sort.grow (redrawn w3 d) os) fun e w'' => e = .returned (.string D) ∧ ∃ p : Regrown, w'' = Sort.grow (redrawn w3 p.d) p.os := fun d os => Calls.regrown_of (K12b.out _ (laid_below HL3.out (below_regrown w3 d os)))
  have cA : ∀ d os, Calls Tryd.prog 7 #[] (Sort.grow (redrawn w3 d) os) fun e w'' => e = .returned (.bool true) ∧ ∃ p : Regrown, w'' = Sort.grow (redrawn w3 p.d) p.os := fun d os => Calls.regrown_of (awake_any _ (laid_below HL3.out (below_regrown w3 d os)))
  refine wp_region_quiet_below (by kernel_rfl) (by kernel_rfl) ?_
  repeat (go_big_quiet_step ((first | exact cA _ _ | exact cB _ _)))
  refine wpQuiet_nil ?_
  intro _ hw'
  obtain ⟨⟨dq, osq⟩, hw''⟩ := hw'
  subst hw''
  go_wp2
  go_ret
  exact ⟨rfl, below_then (below_then (below_then hb1 hb2) hb3) (below_regrown w3 dq osq)⟩

set_option maxRecDepth 100000 in
theorem back_lifted (os : Os) (started : os.Started) (H : Type) (enc : TypeId × Value → H) :
    ReturnsInHanded {} Tryd.checked os 4 .any (fun w args => (Rows.crcBackSpec.pre enc Tryd.prog Tryd.f4 [] false w args ∧ laidMetH Tryd.prog laid1 w) ∧ sizedMet enc Tryd.prog Tryd.f4 (OpenSpec.ofChange Rows.crcBackSpec) false w args)
      (Rows.crcBackSpec.post enc Tryd.prog Tryd.f4 false true false false) := by
  refine returnsInHanded_of_change_and (C := Tryd.checked) (X := fun w _ => laidMetH Tryd.prog laid1 w) (fun _ _ _ hh h => h.of_heap hh) own started (by kernel_rfl) Tryd.func4
    (ChangeSpec.witness_shaped (enc := enc) (C := Tryd.checked) (os := os) (X := fun w _ => laidMetH Tryd.prog laid1 w) false (World.doorLaid Tryd.prog 14 os) #[.string ⟨#[]⟩, .string ⟨#[]⟩] 8 rfl (World.shaped_of_RefB (by kernel_rfl) (by kernel_rfl)) (by kernel_rfl) (by kernel_rfl) (by kernel_rfl) (door_met os _)) ?_
  intro W base args ds gs before hval0 hW _ _ hL _
  have hval : ∀ (j : Nat) t v, Tryd.f4.params[j]? = some t → args[j]? = some v → Value.okWide Tryd.prog W .any base t v := hval0
  have hW' := hW
  obtain ⟨p, q, hA0, hV, rfl, _, _⟩ := hW
  have hA : DataW.TrodAll enc Tryd.prog W 0 (fun _ => true) true Tryd.f4.params.toList args.toList ds p := hA0
  rw [Tryd.params4] at hA hval
  obtain ⟨v0, v1, d0, d1, p0, p1, rfl, rfl, rfl, h0, h1⟩ := trodAll_two hA
  obtain ⟨s, rfl, _⟩ := open_str (hval 0 9 v0 rfl rfl) h0
  obtain ⟨b, rfl, _⟩ := open_str (hval 1 9 v1 rfl rfl) h1
  have hl := of_laid hL
  have hc : Calls Tryd.prog 4 #[.string s, .string b] W fun e w' => e = .returned (.bool true) ∧ Below W.heap.size W w' := by
    by_cases h : s.size ≤ 3000
    · by_cases h2 : b.size ≤ 3000
      · by_cases hg : isSeal b = true
        · exact back_open s b W hl h h2 hg
        · exact back_shut s b W hl h h2 hg
      · exact back_long2 s b W hl h (by omega)
    · exact back_long1 s b W hl (by omega)
  refine hc.mono fun e W' ⟨he, hb⟩ => ?_
  subst he
  exact ⟨_, rfl, Frm.law_post (by kernel_rfl) (by kernel_rfl) (by kernel_rfl) Tryd.underlying4 rfl rfl hW' hb⟩

theorem back_said : Rows.CrcBackSaid :=
  OpenClaim.holds_of_wide 4 Tryd.f4 rfl rfl rfl rfl rfl rfl rfl ⟨rfl, rfl, rfl, rfl, rfl⟩ rfl rfl rfl rfl rfl (by kernel_rfl) Tryd.func4 (by kernel_rfl)
    (of_decide_eq_true (by kernel_rfl)) (by unfold Func.isWrapper; first | (rw [if_pos (by decide +kernel)]; kernel_rfl) | (rw [if_neg (by decide +kernel)]; exact ⟨rfl, rfl⟩))
    (fun os started H enc _ => back_lifted os started H enc)

theorem back_holds : Rows.CrcBackCardSaid :=
  Claim7.holds_tied_plain_at .later [] [.data] true (true, "758bbf90500c1b449d68af4083feaff34ed2a52c7a0841659f3d8b00909361b8") false
    back_said (fun _ h => by cases h) (by kernel_rfl) (fun _ h => by cases h) crcBack_row_tie rfl ⟨rfl, rfl⟩ (by kernel_rfl) rfl
    (fun f fn hf hfn => by
      obtain rfl : f = 4 := Option.some.inj ((show Tryd.prog.funcNamed "bargeman/bargemanlaw02.CrcBack" = some 4 by kernel_rfl).symm.trans hf) |>.symm
      obtain rfl : fn = Tryd.f4 := (Option.some.inj (Tryd.func4.symm.trans hfn)).symm
      exact ⟨by kernel_rfl, fun j t ht => by
        rw [Tryd.params4] at ht
        have hm : t ∈ [9, 9] := by simpa using Array.mem_of_getElem? ht
        have hall : ([9, 9].all fun u => !Tryd.prog.wantsStandIn u) = true := by kernel_rfl
        exact (show Tryd.prog.wantsStandIn t = false by simpa using List.all_eq_true.1 hall t hm)⟩)
    (by kernel_rfl)

end Go.Proofs.YtajiekodfdbkkaaDoor
