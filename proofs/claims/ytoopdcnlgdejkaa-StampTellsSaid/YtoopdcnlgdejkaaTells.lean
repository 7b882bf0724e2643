/- StampTells is proved: for any two moments, whether one may be, which one comes first, and which one follows on a counter, are the document's answers. Conditions: none. -/
import Derived.Test.YtoopdcnlgdejkaaOpn
namespace Go.Proofs.Ytoopdcnlgdejkaa
open Go.ChangeShapes Go.WideShapes Go.ChangeAt Go.RowKit Go.Joins

theorem tells_walk (A B C D : Int) (w : World) : Calls Try.prog 3 #[.agg #[.int .i64 A, .int .i64 B], .agg #[.int .i64 C, .int .i64 D]] w fun e w' => e = .returned (.bool true) ∧ Below w.heap.size w w' := by
  go_enter Try.func3, Try.ntmps3
  go_wp2_with (first | (go_at_call 8; (with_reducible refine (next_any A D _).mono ?_); rintro e w1 ⟨rfl, hb1⟩; obtain ⟨hc1, hf1⟩ := bcell hb1; have hz1 : w.heap.size + 1 < w1.heap.size := (by have := hb1.size; simp at this; omega); have hy1 : w.heap.size < w1.heap.size := (by omega))
                                        | (go_at_call 9; (with_reducible refine (refNext_any A D _).mono ?_); rintro e w2 ⟨rfl, hb2⟩; obtain ⟨hc2, hf2⟩ := bcell hb2; have hz2 : w1.heap.size < w2.heap.size := (by have := hb2.size; simp at this; omega)))
  generalize hW : w2.alloc (Obj.cells #[.int .i64 (nextC A D), .int .i64 (nextD A D)] 23) = W
  have B2 : Below w2.heap.size w2 W := by subst hW; exact below_alloc (Below.refl _ _) _
  have B1 : Below w1.heap.size w1 W := below_then (below_then (below_alloc (Below.refl _ _) _) hb2) B2
  have B0 := below_then hb1 B1
  have hB : Below w.heap.size w W := below_then (by go_grown) B0
  have g0 : W.cell? ⟨w.heap.size, 0, none⟩ = some (.int .i64 A) := by rw [(bcell B0).1 _ _ (by simp; omega)]; simp [go_sem]
  have g1 : W.cell? ⟨w.heap.size, 1, none⟩ = some (.int .i64 B) := by rw [(bcell B0).1 _ _ (by simp; omega)]; simp [go_sem]
  have g2 : W.cell? ⟨w.heap.size + 1, 0, none⟩ = some (.int .i64 C) := by rw [(bcell B0).1 _ _ (by simp)]; simp [go_sem]
  have g3 : W.cell? ⟨w.heap.size + 1, 1, none⟩ = some (.int .i64 D) := by rw [(bcell B0).1 _ _ (by simp)]; simp [go_sem]
  have g4 : W.cell? ⟨w1.heap.size, 0, none⟩ = some (.int .i64 (nextC A D)) := by rw [(bcell B2).1 _ _ hz2, hc2 _ _ (by simp)]; simp [go_sem]
  have g5 : W.cell? ⟨w1.heap.size, 1, none⟩ = some (.int .i64 (nextD A D)) := by rw [(bcell B2).1 _ _ hz2, hc2 _ _ (by simp)]; simp [go_sem]
  have g6 : W.cell? ⟨w2.heap.size, 0, none⟩ = some (.int .i64 (nextC A D)) := by subst hW; simp [go_sem]
  have g7 : W.cell? ⟨w2.heap.size, 1, none⟩ = some (.int .i64 (nextD A D)) := by subst hW; simp [go_sem]
  have k0 := cell_regrown g0
  have k1 := cell_regrown g1
  have k2 := cell_regrown g2
  have k3 := cell_regrown g3
  have k4 := cell_regrown g4
  have k5 := cell_regrown g5
  have k6 := cell_regrown g6
  have k7 := cell_regrown g7
  clear g0 g1 g2 g3 g4 g5 g6 g7 hc1 hf1 hc2 hf2 hb1 hb2 hz1 hz2 hy1 hW B0 B1 B2
  have cA : ∀ d os, Calls Try.prog 10 #[] (Sort.grow (redrawn W d) os) fun e w'' => e = .returned (.bool true) ∧ ∃ p : Regrown, w'' = Sort.grow (redrawn W p.d) p.os := fun d os => Calls.regrown_of (awake_any _)
  have cR : ∀ d os, Calls Try.prog 11 #[.agg #[.int .i64 A, .int .i64 B]] (Sort.grow (redrawn W d) os) fun e w'' => e = .returned (.bool (rightB A B)) ∧ ∃ p : Regrown, w'' = Sort.grow (redrawn W p.d) p.os := fun d os => Calls.regrown_of (right_any A B _)
  have cS : ∀ d os, Calls Try.prog 12 #[.agg #[.int .i64 A, .int .i64 B]] (Sort.grow (redrawn W d) os) fun e w'' => e = .returned (.bool (rightB A B)) ∧ ∃ p : Regrown, w'' = Sort.grow (redrawn W p.d) p.os := fun d os => Calls.regrown_of (refRight_any A B _)
  have cB : ∀ d os, Calls Try.prog 13 #[.agg #[.int .i64 A, .int .i64 B], .agg #[.int .i64 C, .int .i64 D]] (Sort.grow (redrawn W d) os) fun e w'' => e = .returned (.bool (befB A B C D)) ∧ ∃ p : Regrown, w'' = Sort.grow (redrawn W p.d) p.os := fun d os => Calls.regrown_of (before_any A B C D _)
  have cC : ∀ d os, Calls Try.prog 14 #[.agg #[.int .i64 A, .int .i64 B], .agg #[.int .i64 C, .int .i64 D]] (Sort.grow (redrawn W d) os) fun e w'' => e = .returned (.bool (befB A B C D)) ∧ ∃ p : Regrown, w'' = Sort.grow (redrawn W p.d) p.os := fun d os => Calls.regrown_of (refBefore_any A B C D _)
  refine wp_region_quiet_below (by kernel_rfl) (by kernel_rfl) ?_
  repeat (quiet_step (first | exact cA _ _ | exact cR _ _ | exact cS _ _ | exact cB _ _ | exact cC _ _))
  refine wpQuiet_nil ?_
  intro _ hw'
  obtain ⟨⟨dq, osq⟩, hw''⟩ := hw'
  subst hw''
  go_wp2
  go_ret
  exact ⟨rfl, below_then hB (below_regrown W dq osq)⟩

set_option maxRecDepth 100000 in
theorem tells_lifted (os : Os) (started : os.Started) (H : Type) (enc : TypeId × Value → H) :
    ReturnsInHanded {} Try.checked os 3 .any (Rows.stampTellsSpec.pre6 enc Try.prog Try.f3 Rows.stampTellsRow.domain false) (Rows.stampTellsSpec.post enc Try.prog Try.f3 false true false false) := by
  refine returnsInHanded_of_change (C := Try.checked) own started (by kernel_rfl) Try.func3
    (ChangeSpec.witness6 (enc := enc) (C := Try.checked) false ⟨#[], #[.agg #[.int .i64 0, .int .i64 0], .agg #[.int .i64 0, .int .i64 0]], []⟩ 8 (by kernel_rfl) (by kernel_rfl) (by kernel_rfl) (by kernel_rfl)) ?_
  intro W base args ds gs before hval0 hW _ _
  have hval : ∀ (j : Nat) t v, Try.f3.params[j]? = some t → args[j]? = some v → Value.okWide Try.prog W .any base t v := hval0
  have hW' := hW
  obtain ⟨p, q, hA0, hV, rfl, _, _⟩ := hW
  have hA : DataW.TrodAll enc Try.prog W 0 (fun _ => true) true Try.f3.params.toList args.toList ds p := hA0
  rw [Try.params3] at hA hval
  obtain ⟨v0, v1, d0, d1, p0, p1, rfl, rfl, rfl, h0, h1⟩ := trodAll_two hA
  obtain ⟨A, B, rfl⟩ := open_stamp (hval 0 23 v0 rfl rfl) h0
  obtain ⟨C, D, rfl⟩ := open_stamp (hval 1 23 v1 rfl rfl) h1
  refine (tells_walk A B C D W).mono fun e W' ⟨he, hb⟩ => ?_
  subst he
  exact ⟨_, rfl, Frm.law_post (by kernel_rfl) (by kernel_rfl) (by kernel_rfl) Try.underlying4 rfl rfl hW' hb⟩

theorem tells_holds : Rows.StampTellsSaid :=
  OpenClaim.holds_of_wide 3 Try.f3 rfl rfl rfl rfl rfl rfl rfl ⟨rfl, rfl, rfl, rfl, rfl⟩ rfl rfl rfl rfl rfl (by kernel_rfl) Try.func3 (by kernel_rfl)
    (of_decide_eq_true (by kernel_rfl)) (by unfold Func.isWrapper; first | (rw [if_pos (by decide +kernel)]; kernel_rfl) | (rw [if_neg (by decide +kernel)]; exact ⟨rfl, rfl⟩))
    (fun os started H enc _ => tells_lifted os started H enc)

end Go.Proofs.Ytoopdcnlgdejkaa
