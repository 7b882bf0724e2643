/- CodeWrites is proved: the bytes of any number, of any text of 5,000 bytes at most, of any bool, and whether a text has at most 65536 bytes, are the document's answers. Conditions: none. -/
import Derived.Test.YtkblehooadojjaaOpn
namespace Go.Proofs.Ytkblehooadojjaa
open Go.ChangeShapes Go.WideShapes Go.ChangeAt Go.RowKit Cod

theorem writes_long (n : Int) (s : ByteArray) (b : Bool) (w : World) (h : 5000 < s.size) :
    Calls Try.prog 3 #[.int .i64 n, .string s, .bool b] w fun e w' => e = .returned (.bool true) ∧ Below w.heap.size w w' := by
  go_enter Try.func3, Try.ntmps3
  go_wp2_with (go_at_call 8; (with_reducible refine (awake_any _).mono ?_); rintro e w1 ⟨rfl, hb1⟩)
  go_ret
  exact ⟨rfl, hb1⟩

set_option maxHeartbeats 2000000 in
theorem writes_short (n : Int) (s : ByteArray) (b : Bool) (w : World) (h : s.size ≤ 5000) (h1 : -9223372036854775808 ≤ n) (h2 : n ≤ 9223372036854775807) :
    Calls Try.prog 3 #[.int .i64 n, .string s, .bool b] w fun e w' => e = .returned (.bool true) ∧ Below w.heap.size w w' := by
  have cN := fun w => num_any n w h1 h2
  have dN := fun w => refNum_any n w h1 h2
  have cT := fun w => text_any s w (by omega)
  have dT := fun w => refText_any s w (by omega)
  have cB := fun w => bit_any b w
  have dB := fun w => refBit_any b w
  have cL := fun w => least_any s w
  have dL := fun w => refLeast_any s w
  obtain ⟨A, hA⟩ : ∃ A, bytesOf n = A := ⟨_, rfl⟩
  obtain ⟨B, hB⟩ : ∃ B, textOf s = B := ⟨_, rfl⟩
  obtain ⟨C, hC⟩ : ∃ C, bitOf b = C := ⟨_, rfl⟩
  obtain ⟨D, hD⟩ : ∃ D, decide ((s.size : Int) ≤ 65536) = D := ⟨_, rfl⟩
  rw [hA] at cN dN
  rw [hB] at cT dT
  rw [hC] at cB dB
  rw [hD] at cL dL
  have CN := Lib.hid cN
  have DN := Lib.hid dN
  have CT := Lib.hid cT
  have DT := Lib.hid dT
  have CB := Lib.hid cB
  have DB := Lib.hid dB
  have CL := Lib.hid cL
  have DL := Lib.hid dL
  clear cN dN cT dT cB dB cL dL hA hB hC hD
  go_enter Try.func3, Try.ntmps3
  go_wp2_with (first | (go_at_call 8; (with_reducible refine (awake_any _).mono ?_); rintro e w1 ⟨rfl, hb1⟩)
                     | (go_at_call 9; (with_reducible refine (CN.out _).mono ?_); rintro e w2 ⟨rfl, hb2⟩)
                     | (go_at_call 10; (with_reducible refine (DN.out _).mono ?_); rintro e w3 ⟨rfl, hb3⟩)
                     | (go_at_call 11; (with_reducible refine (CT.out _).mono ?_); rintro e w4 ⟨rfl, hb4⟩)
                     | (go_at_call 12; (with_reducible refine (DT.out _).mono ?_); rintro e w5 ⟨rfl, hb5⟩)
                     | (go_at_call 13; (with_reducible refine (CB.out _).mono ?_); rintro e w6 ⟨rfl, hb6⟩)
                     | (go_at_call 14; (with_reducible refine (DB.out _).mono ?_); rintro e w7 ⟨rfl, hb7⟩)
                     | (go_at_call 15; (with_reducible refine (CL.out _).mono ?_); rintro e w8 ⟨rfl, rfl⟩)
                     | (go_at_call 16; (with_reducible refine (DL.out _).mono ?_); rintro e w9 ⟨rfl, rfl⟩))
  go_ret
  exact ⟨rfl, below_then (below_then (below_then (below_then (below_then (below_then hb1 hb2) hb3) hb4) hb5) hb6) hb7⟩

set_option maxRecDepth 100000 in
theorem writes_lifted (os : Os) (started : os.Started) (H : Type) (enc : TypeId × Value → H) :
    ReturnsInHanded {} Try.checked os 3 .any (Rows.codeWritesSpec.pre6 enc Try.prog Try.f3 Rows.codeWritesRow.domain false) (Rows.codeWritesSpec.post enc Try.prog Try.f3 false true false false) := by
  refine returnsInHanded_of_change (C := Try.checked) own started (by kernel_rfl) Try.func3
    (ChangeSpec.witness6 (enc := enc) (C := Try.checked) false ⟨#[], #[.int .i64 0, .string ⟨#[]⟩, .bool false], []⟩ 8 (by kernel_rfl) (by kernel_rfl) (by kernel_rfl) (by kernel_rfl)) ?_
  intro W base args ds gs before hval0 hW _ _
  have hval : ∀ (j : Nat) t v, Try.f3.params[j]? = some t → args[j]? = some v → Value.okWide Try.prog W .any base t v := hval0
  have hW' := hW
  obtain ⟨p, q, hA0, hV, rfl, _, _⟩ := hW
  have hA : DataW.TrodAll enc Try.prog W 0 (fun _ => true) true Try.f3.params.toList args.toList ds p := hA0
  rw [Try.params3] at hA hval
  obtain ⟨v0, v1, v2, d0, d1, d2, p0, p1, p2, rfl, rfl, rfl, h0, h1, h2⟩ := trodAll_three hA
  obtain ⟨n, rfl, hn1, hn2⟩ := open_i64 (hval 0 3 v0 rfl rfl) h0
  obtain ⟨s, rfl, hs⟩ := open_str (hval 1 9 v1 rfl rfl) h1
  obtain ⟨b, rfl⟩ := open_tf (hval 2 4 v2 rfl rfl) h2
  have hc : Calls Try.prog 3 #[.int .i64 n, .string s, .bool b] W fun e w' => e = .returned (.bool true) ∧ Below W.heap.size W w' := by
    by_cases h : s.size ≤ 5000
    · exact writes_short n s b W h hn1 hn2
    · exact writes_long n s b W (by omega)
  refine hc.mono fun e W' ⟨he, hb⟩ => ?_
  subst he
  exact ⟨_, rfl, Frm.law_post (by kernel_rfl) (by kernel_rfl) (by kernel_rfl) Try.underlying4 rfl rfl hW' hb⟩

theorem writes_holds : Rows.CodeWritesSaid :=
  OpenClaim.holds_of_wide 3 Try.f3 rfl rfl rfl rfl rfl rfl rfl ⟨rfl, rfl, rfl, rfl, rfl⟩ rfl rfl rfl rfl rfl (by kernel_rfl) Try.func3 (by kernel_rfl)
    (of_decide_eq_true (by kernel_rfl)) (by unfold Func.isWrapper; first | (rw [if_pos (by decide +kernel)]; kernel_rfl) | (rw [if_neg (by decide +kernel)]; exact ⟨rfl, rfl⟩))
    (fun os started H enc _ => writes_lifted os started H enc)

end Go.Proofs.Ytkblehooadojjaa
