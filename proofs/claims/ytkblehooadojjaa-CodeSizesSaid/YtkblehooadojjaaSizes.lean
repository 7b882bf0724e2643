/- CodeSizes is proved: a number nearer to nought has no more bytes than one farther from it, of the same sign; each has one to ten; a bool has one. Conditions: none. -/
import Derived.Test.YtkblehooadojjaaOpn
namespace Go.Proofs.Ytkblehooadojjaa
open Go.ChangeShapes Go.WideShapes Go.ChangeAt Go.RowKit Cod

theorem bit_size (c : Bool) : (bitOf c).size = 1 := by
  unfold bitOf
  rw [bytesOf_size]
  cases c
  · rw [show fold (if false then 1 else 0) = 0 from rfl, enc_small (by decide)]; rfl
  · rw [show fold (if true then 1 else 0) = 2 from rfl, enc_small (by decide)]; rfl

set_option maxHeartbeats 2000000 in
theorem sizes_walk (a b : Int) (c : Bool) (w : World) (ha1 : -9223372036854775808 ≤ a) (ha2 : a ≤ 9223372036854775807) (hb1 : -9223372036854775808 ≤ b) (hb2 : b ≤ 9223372036854775807) :
    Calls Try.prog 7 #[.int .i64 a, .int .i64 b, .bool c] w fun e w' => e = .returned (.bool true) ∧ Below w.heap.size w w' := by
  have CA := Lib.hid (fun w => num_any a w ha1 ha2)
  have CB := Lib.hid (fun w => num_any b w hb1 hb2)
  have CC := Lib.hid (fun w => bit_any c w)
  have a1 := bytesOf_pos a
  have a2 := bytesOf_le a ha1 ha2
  have b1 := bytesOf_pos b
  have b2 := bytesOf_le b hb1 hb2
  have cs := bit_size c
  have hm : (0 ≤ a ∧ a ≤ b ∨ a < 0 ∧ b ≤ a) → (bytesOf a).size ≤ (bytesOf b).size := fun h => by
    rw [bytesOf_size, bytesOf_size]; exact enc_mono _ _ (fold_mono a b h)
  obtain ⟨A, hA⟩ : ∃ A, bytesOf a = A := ⟨_, rfl⟩
  obtain ⟨B, hB⟩ : ∃ B, bytesOf b = B := ⟨_, rfl⟩
  obtain ⟨C, hC⟩ : ∃ C, bitOf c = C := ⟨_, rfl⟩
  rw [hA] at CA a1 a2 hm
  rw [hB] at CB b1 b2 hm
  rw [hC] at CC cs
  have HM := Lib.hid hm
  clear hA hB hC hm ha1 ha2 hb1 hb2
  have A1 : (1 : Int) ≤ (A.size : Int) := by omega
  have A2 : (A.size : Int) ≤ 10 := by omega
  by_cases h0 : 0 ≤ a
  · by_cases h1 : a ≤ b
    · have hxy := HM.out (Or.inl ⟨h0, h1⟩)
      go_enter Try.func7, Try.ntmps7
      go_wp2_with (first | (go_at_call 13; (with_reducible refine (CC.out _).mono ?_); rintro e w4 ⟨rfl, hb4⟩) | (go_at_call 8; (with_reducible refine (awake_any _).mono ?_); rintro e w3 ⟨rfl, hb3⟩)
                         | (go_at_call 9; (with_reducible refine (CB.out w1).mono ?_); rintro e w2 ⟨rfl, hb2⟩) | (go_at_call 9; (with_reducible refine (CA.out w).mono ?_); rintro e w1 ⟨rfl, hb1⟩))
      go_ret
      exact ⟨rfl, below_then (below_then (below_then hb1 hb2) hb3) hb4⟩
    · go_enter Try.func7, Try.ntmps7
      go_wp2_with (first | (go_at_call 13; (with_reducible refine (CC.out _).mono ?_); rintro e w4 ⟨rfl, hb4⟩) | (go_at_call 8; (with_reducible refine (awake_any _).mono ?_); rintro e w3 ⟨rfl, hb3⟩)
                         | (go_at_call 9; (with_reducible refine (CB.out w1).mono ?_); rintro e w2 ⟨rfl, hb2⟩) | (go_at_call 9; (with_reducible refine (CA.out w).mono ?_); rintro e w1 ⟨rfl, hb1⟩))
      go_ret
      exact ⟨rfl, below_then (below_then (below_then hb1 hb2) hb3) hb4⟩
  · by_cases h1 : b ≤ a
    · have hxy := HM.out (Or.inr ⟨by omega, h1⟩)
      go_enter Try.func7, Try.ntmps7
      go_wp2_with (first | (go_at_call 13; (with_reducible refine (CC.out _).mono ?_); rintro e w4 ⟨rfl, hb4⟩) | (go_at_call 8; (with_reducible refine (awake_any _).mono ?_); rintro e w3 ⟨rfl, hb3⟩)
                         | (go_at_call 9; (with_reducible refine (CB.out w1).mono ?_); rintro e w2 ⟨rfl, hb2⟩) | (go_at_call 9; (with_reducible refine (CA.out w).mono ?_); rintro e w1 ⟨rfl, hb1⟩))
      go_ret
      exact ⟨rfl, below_then (below_then (below_then hb1 hb2) hb3) hb4⟩
    · go_enter Try.func7, Try.ntmps7
      go_wp2_with (first | (go_at_call 13; (with_reducible refine (CC.out _).mono ?_); rintro e w4 ⟨rfl, hb4⟩) | (go_at_call 8; (with_reducible refine (awake_any _).mono ?_); rintro e w3 ⟨rfl, hb3⟩)
                         | (go_at_call 9; (with_reducible refine (CB.out w1).mono ?_); rintro e w2 ⟨rfl, hb2⟩) | (go_at_call 9; (with_reducible refine (CA.out w).mono ?_); rintro e w1 ⟨rfl, hb1⟩))
      go_ret
      exact ⟨rfl, below_then (below_then (below_then hb1 hb2) hb3) hb4⟩

set_option maxRecDepth 100000 in
theorem sizes_lifted (os : Os) (started : os.Started) (H : Type) (enc : TypeId × Value → H) :
    ReturnsInHanded {} Try.checked os 7 .any (Rows.codeSizesSpec.pre6 enc Try.prog Try.f7 Rows.codeSizesRow.domain false) (Rows.codeSizesSpec.post enc Try.prog Try.f7 false true false false) := by
  refine returnsInHanded_of_change (C := Try.checked) own started (by kernel_rfl) Try.func7
    (ChangeSpec.witness6 (enc := enc) (C := Try.checked) false ⟨#[], #[.int .i64 0, .int .i64 0, .bool false], []⟩ 8 (by kernel_rfl) (by kernel_rfl) (by kernel_rfl) (by kernel_rfl)) ?_
  intro W base args ds gs before hval0 hW _ _
  have hval : ∀ (j : Nat) t v, Try.f7.params[j]? = some t → args[j]? = some v → Value.okWide Try.prog W .any base t v := hval0
  have hW' := hW
  obtain ⟨p, q, hA0, hV, rfl, _, _⟩ := hW
  have hA : DataW.TrodAll enc Try.prog W 0 (fun _ => true) true Try.f7.params.toList args.toList ds p := hA0
  rw [Try.params7] at hA hval
  obtain ⟨v0, v1, v2, d0, d1, d2, p0, p1, p2, rfl, rfl, rfl, h0, h1, h2⟩ := trodAll_three hA
  obtain ⟨a, rfl, ha1, ha2⟩ := open_i64 (hval 0 3 v0 rfl rfl) h0
  obtain ⟨b, rfl, hb1, hb2⟩ := open_i64 (hval 1 3 v1 rfl rfl) h1
  obtain ⟨c, rfl⟩ := open_tf (hval 2 4 v2 rfl rfl) h2
  refine (sizes_walk a b c W ha1 ha2 hb1 hb2).mono fun e W' ⟨he, hb⟩ => ?_
  subst he
  exact ⟨_, rfl, Frm.law_post (by kernel_rfl) (by kernel_rfl) (by kernel_rfl) Try.underlying4 rfl rfl hW' hb⟩

theorem sizes_holds : Rows.CodeSizesSaid :=
  OpenClaim.holds_of_wide 7 Try.f7 rfl rfl rfl rfl rfl rfl rfl ⟨rfl, rfl, rfl, rfl, rfl⟩ rfl rfl rfl rfl rfl (by kernel_rfl) Try.func7 (by kernel_rfl)
    (of_decide_eq_true (by kernel_rfl)) (by unfold Func.isWrapper; first | (rw [if_pos (by decide +kernel)]; kernel_rfl) | (rw [if_neg (by decide +kernel)]; exact ⟨rfl, rfl⟩))
    (fun os started H enc _ => sizes_lifted os started H enc)

end Go.Proofs.Ytkblehooadojjaa
