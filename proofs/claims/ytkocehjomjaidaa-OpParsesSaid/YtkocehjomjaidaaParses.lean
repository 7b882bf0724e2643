/- OpParses is proved: the operation of any bytes (1,000 at most), or that they are none's, is the document's. Conditions: none. -/
import Derived.Test.YtkocehjomjaidaaOpn
namespace Go.Proofs.Ytkocehjomjaidaa
open Go.ChangeShapes Go.WideShapes Go.ChangeAt Go.RowKit Nam Cod

theorem parses_long (s : ByteArray) (w : World) (h : 1000 < s.size) :
    Calls Try.prog 4 #[.string s] w fun e w' => e = .returned (.bool true) ∧ Below w.heap.size w w' := by
  go_enter Try.func4, Try.ntmps4
  go_wp2_with (go_at_call 8; (with_reducible refine (awake_any _).mono ?_); rintro e w1 ⟨rfl, hb1⟩)
  go_ret
  exact ⟨rfl, hb1⟩

set_option maxRecDepth 100000 in
set_option maxHeartbeats 8000000 in
theorem parses_walk (s : ByteArray) (w : World) (hs : s.size ≤ 1000) :
    Calls Try.prog 4 #[.string s] w fun e w' => e = .returned (.bool true) ∧ Below w.heap.size w w' := by
  have m1 := fun w => opParse_any s w (by omega)
  have m2 := fun w => opRefParse_any s w (by omega)
  generalize (parseOf s).isSome = bm at *
  unfold Mv.val at m1 m2
  generalize (parseOf s).getD zeroMv = o at *
  obtain ⟨x0, x1, x2, x3, x4, x5, x6⟩ := o
  have M1 := Lib.hid m1
  have M2 := Lib.hid m2
  clear m1 m2
  go_enter Try.func4, Try.ntmps4
  go_wp2_with fail
  refine (M1.out _).mono ?_
  rintro e w1 ⟨rfl, hb1⟩
  have hC1 := OpIn.new w1 x0 x1 x2 x3 x4 x5 x6
  have hB1 := below_alloc hb1 (.cells #[.int .i64 x0, .int .i64 x1, .int .i64 x2, .int .i64 x3, .int .i64 x4, .int .i64 x5, .string x6] 25)
  clear hb1
  go_wp2_with fail
  generalize w1.alloc (.cells #[.int .i64 x0, .int .i64 x1, .int .i64 x2, .int .i64 x3, .int .i64 x4, .int .i64 x5, .string x6] 25) = W1 at *
  generalize w1.heap.size = n2 at *
  refine (M2.out _).mono ?_
  rintro e w2 ⟨rfl, hb2⟩
  have hC2 := (hC1.below hb2).alloc (.cells #[.int .i64 x0, .int .i64 x1, .int .i64 x2, .int .i64 x3, .int .i64 x4, .int .i64 x5, .string x6] 25)
  have hD2 := OpIn.new w2 x0 x1 x2 x3 x4 x5 x6
  have hB2 := below_alloc (below_then hB1 hb2) (.cells #[.int .i64 x0, .int .i64 x1, .int .i64 x2, .int .i64 x3, .int .i64 x4, .int .i64 x5, .string x6] 25)
  clear hC1 hB1 hb2
  go_wp2_with fail
  generalize w2.alloc (.cells #[.int .i64 x0, .int .i64 x1, .int .i64 x2, .int .i64 x3, .int .i64 x4, .int .i64 x5, .string x6] 25) = W at *
  generalize w2.heap.size = n3 at *
  clear M1 M2
  refine (awake_any _).mono ?_
  rintro e w3 ⟨rfl, hb3⟩
  have hC3 := hC2.below hb3
  have hD3 := hD2.below hb3
  have hB3 := below_then hB2 hb3
  clear hC2 hD2 hB2 hb3
  go_wp2_with (first | (refine load_op_if rfl _ rfl _ rfl _ _ _ _ _ _ _ hC3 ?_) | (refine load_op_if rfl _ rfl _ rfl _ _ _ _ _ _ _ hD3 ?_))
  go_ret
  exact ⟨rfl, hB3⟩

set_option maxRecDepth 100000 in
theorem parses_lifted (os : Os) (started : os.Started) (H : Type) (enc : TypeId × Value → H) :
    ReturnsInHanded {} Try.checked os 4 .any (Rows.opParsesSpec.pre6 enc Try.prog Try.f4 Rows.opParsesRow.domain false) (Rows.opParsesSpec.post enc Try.prog Try.f4 false true false false) := by
  refine returnsInHanded_of_change (C := Try.checked) own started (by kernel_rfl) Try.func4
    (ChangeSpec.witness6 (enc := enc) (C := Try.checked) false ⟨#[], #[.string ⟨#[]⟩], []⟩ 8 (by kernel_rfl) (by kernel_rfl) (by kernel_rfl) (by kernel_rfl)) ?_
  intro W base args ds gs before hval0 hW _ _
  have hval : ∀ (j : Nat) t v, Try.f4.params[j]? = some t → args[j]? = some v → Value.okWide Try.prog W .any base t v := hval0
  have hW' := hW
  obtain ⟨p, q, hA0, hV, rfl, _, _⟩ := hW
  have hA : DataW.TrodAll enc Try.prog W 0 (fun _ => true) true Try.f4.params.toList args.toList ds p := hA0
  rw [Try.params4] at hA hval
  obtain ⟨v0, d0, rfl, rfl, h0⟩ := trodAll_one hA
  obtain ⟨s, rfl, hs⟩ := open_str (hval 0 9 v0 rfl rfl) h0
  have hc : Calls Try.prog 4 #[.string s] W fun e w' => e = .returned (.bool true) ∧ Below W.heap.size W w' := by
    by_cases hbig : 1000 < s.size
    · exact parses_long s W hbig
    · exact parses_walk s W (by omega)
  refine hc.mono fun e W' ⟨he, hb⟩ => ?_
  subst he
  exact ⟨_, rfl, Frm.law_post (by kernel_rfl) (by kernel_rfl) (by kernel_rfl) Try.underlying4 rfl rfl hW' hb⟩

theorem parses_holds : Rows.OpParsesSaid :=
  OpenClaim.holds_of_wide 4 Try.f4 rfl rfl rfl rfl rfl rfl rfl ⟨rfl, rfl, rfl, rfl, rfl⟩ rfl rfl rfl rfl rfl (by kernel_rfl) Try.func4 (by kernel_rfl)
    (of_decide_eq_true (by kernel_rfl)) (by unfold Func.isWrapper; first | (rw [if_pos (by decide +kernel)]; kernel_rfl) | (rw [if_neg (by decide +kernel)]; exact ⟨rfl, rfl⟩))
    (fun os started H enc _ => parses_lifted os started H enc)

end Go.Proofs.Ytkocehjomjaidaa
