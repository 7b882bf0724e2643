/- CrcTells is proved: for any bytes and any number, the sum, what is sealed, what is open at the beginning, and the four bytes are the document's answers. Conditions: the package's table reads, when the call begins, as the program's own text lays it (the card ties that). -/
import Derived.Test.YtajiekodfdbkkaaDoorOpn
namespace Go.Proofs.YtajiekodfdbkkaaDoor
open Go.ChangeShapes Go.WideShapes Go.ChangeAt Go.RowKit Crc

theorem tells_long (s : ByteArray) (n : Nat) (w : World) (hL : Laid w) (h : 5000 < s.size) :
    Calls Tryd.prog 3 #[.string s, .int .u32 n] w fun e w' => e = .returned (.bool true) ∧ Below w.heap.size w w' := by
  have HL := Lib.hid hL
  clear hL
  go_enter Tryd.func3, Tryd.ntmps3
  go_wp2_with (go_at_call 7; (with_reducible refine (awake_any _ HL.out).mono ?_); rintro e w1 ⟨rfl, hb1⟩)
  go_ret
  exact ⟨rfl, hb1⟩

set_option maxHeartbeats 4000000 in
theorem tells_short (s : ByteArray) (n : Nat) (w : World) (hL : Laid w) (hn : n < 4294967296) (h : s.size ≤ 5000) :
    Calls Tryd.prog 3 #[.string s, .int .u32 n] w fun e w' => e = .returned (.bool true) ∧ Below w.heap.size w w' := by
  obtain ⟨A, hA⟩ : ∃ A, opT s = A := ⟨_, rfl⟩
  obtain ⟨C, hC⟩ : ∃ C, opC s = C := ⟨_, rfl⟩
  obtain ⟨S, hS⟩ : ∃ S, sealOf s = S := ⟨_, rfl⟩
  obtain ⟨X, hX⟩ : ∃ X, sumB s = X := ⟨_, rfl⟩
  obtain ⟨F, hF⟩ : ∃ F, four n = F := ⟨_, rfl⟩
  have c8 : ∀ w, Laid w → Calls Tryd.prog 8 #[.string s] w fun e w' => e = .returned (.tuple #[.string A, .int .i64 C]) ∧ Below w.heap.size w w' := fun w h => by rw [← hA, ← hC]; exact open_any s w (by omega) h
  have c9 : ∀ w, Calls Tryd.prog 9 #[.string s] w fun e w' => e = .returned (.tuple #[.string A, .int .i64 C]) ∧ Below w.heap.size w w' := fun w => by rw [← hA, ← hC]; exact refOpen_all s w (by omega)
  have c10 : ∀ w, Laid w → Calls Tryd.prog 10 #[.string s] w fun e w' => e = .returned (.int .u32 X) ∧ w = w' := fun w h => by rw [← hX]; exact sumB_any s w (by omega) h
  have c11 : ∀ w, Calls Tryd.prog 11 #[.string s] w fun e w' => e = .returned (.int .u32 X) ∧ w = w' := fun w => by rw [← hX]; exact refSumB_any s w (by omega)
  have c12 : ∀ w, Laid w → Calls Tryd.prog 12 #[.string s] w fun e w' => e = .returned (.string S) ∧ Below w.heap.size w w' := fun w h => by rw [← hS]; exact seal_any s w (by omega) h
  have c13 : ∀ w, Calls Tryd.prog 13 #[.string s] w fun e w' => e = .returned (.string S) ∧ Below w.heap.size w w' := fun w => by rw [← hS]; exact refSeal_any s w (by omega)
  have c14 : ∀ w, Calls Tryd.prog 14 #[.int .u32 n] w fun e w' => e = .returned (.string F) ∧ Below w.heap.size w w' := fun w => by rw [← hF]; exact four_any n w hn
  have c15 : ∀ w, Calls Tryd.prog 15 #[.int .u32 n] w fun e w' => e = .returned (.string F) ∧ Below w.heap.size w w' := fun w => by rw [← hF]; exact refFour_any n w hn
  have K8 := Lib.hid c8
  have K9 := Lib.hid c9
  have K10 := Lib.hid c10
  have K11 := Lib.hid c11
  have K12 := Lib.hid c12
  have K13 := Lib.hid c13
  have K14 := Lib.hid c14
  have K15 := Lib.hid c15
  have HL := Lib.hid hL
  clear hA hC hS hX hF c8 c9 c10 c11 c12 c13 c14 c15 hL
  go_enter Tryd.func3, Tryd.ntmps3
  go_wp2_with (first | (go_at_call 8; (with_reducible refine (K8.out _ HL.out).mono ?_); rintro e w1 ⟨rfl, hb1⟩)
                     | (go_at_call 9; (with_reducible refine (K9.out _).mono ?_); rintro e w2 ⟨rfl, hb2⟩; have HL2 := Lib.hid (laid_below (laid_below HL.out hb1) hb2))
                     | (go_at_call 7; (with_reducible refine (awake_any _ HL2.out).mono ?_); rintro e w3 ⟨rfl, hb3⟩; have HL3 := Lib.hid (laid_below HL2.out hb3))
                     | (go_at_call 10; (with_reducible refine (K10.out _ HL3.out).mono ?_); rintro e w4 ⟨rfl, rfl⟩)
                     | (go_at_call 11; (with_reducible refine (K11.out _).mono ?_); rintro e w5 ⟨rfl, rfl⟩)
                     | (go_at_call 12; (with_reducible refine (K12.out _ HL3.out).mono ?_); rintro e w6 ⟨rfl, hb6⟩)
                     | (go_at_call 13; (with_reducible refine (K13.out _).mono ?_); rintro e w7 ⟨rfl, hb7⟩)
                     | (go_at_call 14; (with_reducible refine (K14.out _).mono ?_); rintro e w8 ⟨rfl, hb8⟩)
                     | (go_at_call 15; (with_reducible refine (K15.out _).mono ?_); rintro e w9 ⟨rfl, hb9⟩))
  go_ret
  exact ⟨rfl, below_then (below_then (below_then (below_then (below_then (below_then hb1 hb2) hb3) hb6) hb7) hb8) hb9⟩

set_option maxRecDepth 100000 in
theorem tells_lifted (os : Os) (started : os.Started) (H : Type) (enc : TypeId × Value → H) :
    ReturnsInHanded {} Tryd.checked os 3 .any (fun w args => (Rows.crcTellsSpec.pre enc Tryd.prog Tryd.f3 [] false w args ∧ laidMetH Tryd.prog laid1 w) ∧ sizedMet enc Tryd.prog Tryd.f3 (OpenSpec.ofChange Rows.crcTellsSpec) false w args)
      (Rows.crcTellsSpec.post enc Tryd.prog Tryd.f3 false true false false) := by
  refine returnsInHanded_of_change_and (C := Tryd.checked) (X := fun w _ => laidMetH Tryd.prog laid1 w) (fun _ _ _ hh h => h.of_heap hh) own started (by kernel_rfl) Tryd.func3
    (ChangeSpec.witness_shaped (enc := enc) (C := Tryd.checked) (os := os) (X := fun w _ => laidMetH Tryd.prog laid1 w) false (World.doorLaid Tryd.prog 14 os) #[.string ⟨#[]⟩, .int .u32 0] 8 rfl (World.shaped_of_RefB (by kernel_rfl) (by kernel_rfl)) (by kernel_rfl) (by kernel_rfl) (by kernel_rfl) (door_met os _)) ?_
  intro W base args ds gs before hval0 hW _ _ hL _
  have hval : ∀ (j : Nat) t v, Tryd.f3.params[j]? = some t → args[j]? = some v → Value.okWide Tryd.prog W .any base t v := hval0
  have hW' := hW
  obtain ⟨p, q, hA0, hV, rfl, _, _⟩ := hW
  have hA : DataW.TrodAll enc Tryd.prog W 0 (fun _ => true) true Tryd.f3.params.toList args.toList ds p := hA0
  rw [Tryd.params3] at hA hval
  obtain ⟨v0, v1, d0, d1, p0, p1, rfl, rfl, rfl, h0, h1⟩ := trodAll_two hA
  obtain ⟨s, rfl, _⟩ := open_str (hval 0 9 v0 rfl rfl) h0
  obtain ⟨n, rfl, hn⟩ := open_u32 (hval 1 22 v1 rfl rfl) h1
  have hl := of_laid hL
  have hc : Calls Tryd.prog 3 #[.string s, .int .u32 n] W fun e w' => e = .returned (.bool true) ∧ Below W.heap.size W w' := by
    by_cases h : s.size ≤ 5000
    · exact tells_short s n W hl hn h
    · exact tells_long s n W hl (by omega)
  refine hc.mono fun e W' ⟨he, hb⟩ => ?_
  subst he
  exact ⟨_, rfl, Frm.law_post (by kernel_rfl) (by kernel_rfl) (by kernel_rfl) Tryd.underlying4 rfl rfl hW' hb⟩

theorem tells_said : Rows.CrcTellsSaid :=
  OpenClaim.holds_of_wide 3 Tryd.f3 rfl rfl rfl rfl rfl rfl rfl ⟨rfl, rfl, rfl, rfl, rfl⟩ rfl rfl rfl rfl rfl (by kernel_rfl) Tryd.func3 (by kernel_rfl)
    (of_decide_eq_true (by kernel_rfl)) (by unfold Func.isWrapper; first | (rw [if_pos (by decide +kernel)]; kernel_rfl) | (rw [if_neg (by decide +kernel)]; exact ⟨rfl, rfl⟩))
    (fun os started H enc _ => tells_lifted os started H enc)

theorem tells_holds : Rows.CrcTellsCardSaid :=
  Claim7.holds_tied_plain_at .later [] [.data] true (true, "758bbf90500c1b449d68af4083feaff34ed2a52c7a0841659f3d8b00909361b8") false
    tells_said (fun _ h => by cases h) (by kernel_rfl) (fun _ h => by cases h) crcTells_row_tie rfl ⟨rfl, rfl⟩ (by kernel_rfl) rfl
    (fun f fn hf hfn => by
      obtain rfl : f = 3 := Option.some.inj ((show Tryd.prog.funcNamed "bargeman/bargemanlaw02.CrcTells" = some 3 by kernel_rfl).symm.trans hf) |>.symm
      obtain rfl : fn = Tryd.f3 := (Option.some.inj (Tryd.func3.symm.trans hfn)).symm
      exact ⟨by kernel_rfl, fun j t ht => by
        rw [Tryd.params3] at ht
        have hm : t ∈ [9, 22] := by simpa using Array.mem_of_getElem? ht
        have hall : ([9, 22].all fun u => !Tryd.prog.wantsStandIn u) = true := by kernel_rfl
        exact (show Tryd.prog.wantsStandIn t = false by simpa using List.all_eq_true.1 hall t hm)⟩)
    (by kernel_rfl)

end Go.Proofs.YtajiekodfdbkkaaDoor
