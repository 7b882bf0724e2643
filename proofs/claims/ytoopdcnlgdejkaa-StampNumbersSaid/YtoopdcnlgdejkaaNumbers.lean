/- StampNumbers is proved: the number of any moment, and the moment of any complex number, are the document's answers. Conditions: none; the floats are any words of 64 bits. -/
import Derived.Test.YtoopdcnlgdejkaaOpn
namespace Go.Proofs.Ytoopdcnlgdejkaa
open Go.ChangeShapes Go.WideShapes Go.ChangeAt Go.RowKit Go.Joins

theorem numbers_walk (A B : Int) (re im : Nat) (w : World) : Calls Try.prog 4 #[.agg #[.int .i64 A, .int .i64 B], .float .f64 re, .float .f64 im] w fun e w' => e = .returned (.bool true) ∧ Below w.heap.size w w' := by
  obtain ⟨C, D, b, hcase, hF, hG⟩ := from_both re im
  have e1 := toR_self A B
  have e2 := toI_self A B
  have HF := Lib.hid hF
  have HG := Lib.hid hG
  clear hF hG hcase
  go_enter Try.func4, Try.ntmps4
  go_wp2_with (first | (go_at_call 15; (with_reducible refine (to_any A B _).mono ?_); rintro e w1 ⟨rfl, hb1⟩; obtain ⟨hc1, hf1⟩ := bcell hb1; have hz1 : w.heap.size < w1.heap.size := (by have := hb1.size; simp at this; omega))
                                        | (go_at_call 16; (with_reducible refine (refTo_any A B _).mono ?_); rintro e w2 ⟨rfl, hb2⟩; obtain ⟨hc2, hf2⟩ := bcell hb2)
                                        | (go_at_call 17; (with_reducible refine (HF.out _).mono ?_); rintro e w3 ⟨rfl, hb3⟩; obtain ⟨hc3, hf3⟩ := bcell hb3)
                                        | (go_at_call 18; (with_reducible refine (HG.out _).mono ?_); rintro e w4 ⟨rfl, hb4⟩; obtain ⟨hc4, hf4⟩ := bcell hb4; have hz4 : w3.heap.size < w4.heap.size := (by have := hb4.size; simp at this; omega); have hy4 : w3.heap.size ≤ w4.heap.size := (by omega))
                                        | (go_at_call 10; (with_reducible refine (awake_any _).mono ?_); rintro e w5 ⟨rfl, hb5⟩; obtain ⟨hc5, hf5⟩ := bcell hb5; have hz5 : w4.heap.size < w5.heap.size := (by have := hb5.size; simp at this; omega); have hy5 : w3.heap.size < w5.heap.size := (by omega)))
  go_ret
  exact ⟨rfl, below_then (below_alloc (below_then (below_alloc (below_then (below_then (below_then (by go_grown) hb1) hb2) hb3) _) hb4) _) hb5⟩
set_option maxRecDepth 100000 in
theorem numbers_lifted (os : Os) (started : os.Started) (H : Type) (enc : TypeId × Value → H) :
    ReturnsInHanded {} Try.checked os 4 .any (Rows.stampNumbersSpec.pre6 enc Try.prog Try.f4 Rows.stampNumbersRow.domain false) (Rows.stampNumbersSpec.post enc Try.prog Try.f4 false true false false) := by
  refine returnsInHanded_of_change (C := Try.checked) own started (by kernel_rfl) Try.func4
    (ChangeSpec.witness6 (enc := enc) (C := Try.checked) false ⟨#[], #[.agg #[.int .i64 0, .int .i64 0], .float .f64 0, .float .f64 0], []⟩ 8 (by kernel_rfl) (by kernel_rfl) (by kernel_rfl) (by kernel_rfl)) ?_
  intro W base args ds gs before hval0 hW _ _
  have hval : ∀ (j : Nat) t v, Try.f4.params[j]? = some t → args[j]? = some v → Value.okWide Try.prog W .any base t v := hval0
  have hW' := hW
  obtain ⟨p, q, hA0, hV, rfl, _, _⟩ := hW
  have hA : DataW.TrodAll enc Try.prog W 0 (fun _ => true) true Try.f4.params.toList args.toList ds p := hA0
  rw [Try.params4] at hA hval
  obtain ⟨v0, v1, v2, d0, d1, d2, p0, p1, p2, rfl, rfl, rfl, h0, h1, h2⟩ := trodAll_three hA
  obtain ⟨A, B, rfl⟩ := open_stamp (hval 0 23 v0 rfl rfl) h0
  obtain ⟨re, rfl, rfl, rfl, _⟩ := open_float Try.underlying29 (hval 1 29 v1 rfl rfl) h1
  obtain ⟨im, rfl, rfl, rfl, _⟩ := open_float Try.underlying29 (hval 2 29 v2 rfl rfl) h2
  refine (numbers_walk A B re im W).mono fun e W' ⟨he, hb⟩ => ?_
  subst he
  exact ⟨_, rfl, Frm.law_post (by kernel_rfl) (by kernel_rfl) (by kernel_rfl) Try.underlying4 rfl rfl hW' hb⟩

theorem numbers_holds : Rows.StampNumbersSaid :=
  OpenClaim.holds_of_wide 4 Try.f4 rfl rfl rfl rfl rfl rfl rfl ⟨rfl, rfl, rfl, rfl, rfl⟩ rfl rfl rfl rfl rfl (by kernel_rfl) Try.func4 (by kernel_rfl)
    (of_decide_eq_true (by kernel_rfl)) (by unfold Func.isWrapper; first | (rw [if_pos (by decide +kernel)]; kernel_rfl) | (rw [if_neg (by decide +kernel)]; exact ⟨rfl, rfl⟩))
    (fun os started H enc _ => numbers_lifted os started H enc)

end Go.Proofs.Ytoopdcnlgdejkaa
