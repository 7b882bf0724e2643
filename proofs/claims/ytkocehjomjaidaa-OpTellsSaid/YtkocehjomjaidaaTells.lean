/- OpTells is proved: whether anything may be an operation, its bytes, and what an edit makes of it, are the document's. Conditions: none. -/
import Derived.Test.YtkocehjomjaidaaOpn
namespace Go.Proofs.Ytkocehjomjaidaa
open Go.ChangeShapes Go.WideShapes Go.ChangeAt Go.RowKit Nam Cod

theorem tells_long (C D I M K U c : Int) (s : ByteArray) (w : World) (h : 1000 < s.size) :
    Calls Try.prog 3 #[.agg #[.int .i64 C, .int .i64 D, .int .i64 I, .int .i64 M, .int .i64 K, .int .i64 U, .string s], .int .i64 c] w fun e w' => e = .returned (.bool true) ∧ Below w.heap.size w w' := by
  go_enter Try.func3, Try.ntmps3
  go_wp2_with (go_at_call 8; (with_reducible refine (awake_any _).mono ?_); rintro e w1 ⟨rfl, hb1⟩)
  go_ret
  exact ⟨rfl, below_then (below_alloc (Below.refl _ _) _) hb1⟩

set_option maxRecDepth 100000 in
set_option maxHeartbeats 8000000 in
theorem tells_walk (C D I M K U c : Int) (s : ByteArray) (w : World) (hw : Wide C D I M K U) (hs : s.size ≤ 1000) :
    Calls Try.prog 3 #[.agg #[.int .i64 C, .int .i64 D, .int .i64 I, .int .i64 M, .int .i64 K, .int .i64 U, .string s], .int .i64 c] w fun e w' => e = .returned (.bool true) ∧ Below w.heap.size w w' := by
  have m1 := fun w => opMake_any c D I M K U s w (by omega)
  have m2 := fun w => opRefMake_any c D I M K U s w (by omega)
  have r1 := fun w => opRight_any C D I M K U s w (by omega)
  have r2 := fun w => opRefRight_any C D I M K U s w (by omega)
  have p1 := fun w => opPrint_any C D I M K U s w hw (by omega)
  have p2 := fun w => opRefPrint_any C D I M K U s w hw (by omega)
  generalize mkB c D I M K U s = bm at *
  generalize opB C D I M K U s = br at *
  generalize printOf C D I M K U s = P at *
  generalize mkI bm (nextC c D) = x0 at *
  generalize mkI bm (nextD c D) = x1 at *
  generalize mkI bm I = x2 at *
  generalize mkI bm M = x3 at *
  generalize mkI bm K = x4 at *
  generalize mkI bm U = x5 at *
  generalize mkS bm s = x6 at *
  have M1 := Lib.hid m1
  have M2 := Lib.hid m2
  have R1 := Lib.hid r1
  have R2 := Lib.hid r2
  have P1 := Lib.hid p1
  have P2 := Lib.hid p2
  clear m1 m2 r1 r2 p1 p2 hw
  go_enter Try.func3, Try.ntmps3
  go_wp2_with fail
  have hA := OpIn.new w C D I M K U s
  have hB := below_alloc (Below.refl w.heap.size w) (.cells #[.int .i64 C, .int .i64 D, .int .i64 I, .int .i64 M, .int .i64 K, .int .i64 U, .string s] 25)
  generalize w.alloc (.cells #[.int .i64 C, .int .i64 D, .int .i64 I, .int .i64 M, .int .i64 K, .int .i64 U, .string s] 25) = W0 at *
  generalize hn : w.heap.size = n1 at hA ⊢
  clear hn
  refine (M1.out _).mono ?_
  rintro e w1 ⟨rfl, hb1⟩
  have hA0 := hA.below hb1
  obtain ⟨g0, g1, g2, g3, g4, g5, g6⟩ := hA0.cells
  have hlt := hA0.lt
  have hne : n1 ≠ w1.heap.size := by omega
  have hA1 := hA0.alloc (.cells #[.int .i64 x0, .int .i64 x1, .int .i64 x2, .int .i64 x3, .int .i64 x4, .int .i64 x5, .string x6] 25)
  have hC1 := OpIn.new w1 x0 x1 x2 x3 x4 x5 x6
  have hB1 := below_alloc (below_then hB hb1) (.cells #[.int .i64 x0, .int .i64 x1, .int .i64 x2, .int .i64 x3, .int .i64 x4, .int .i64 x5, .string x6] 25)
  clear hA hB hb1 hA0
  go_wp2_with fail
  clear g0 g1 g2 g3 g4 g5 g6 hlt hne
  generalize w1.alloc (.cells #[.int .i64 x0, .int .i64 x1, .int .i64 x2, .int .i64 x3, .int .i64 x4, .int .i64 x5, .string x6] 25) = W1 at *
  generalize w1.heap.size = n2 at *
  refine (M2.out _).mono ?_
  rintro e w2 ⟨rfl, hb2⟩
  have hA2 := (hA1.below hb2).alloc (.cells #[.int .i64 x0, .int .i64 x1, .int .i64 x2, .int .i64 x3, .int .i64 x4, .int .i64 x5, .string x6] 25)
  have hC2 := (hC1.below hb2).alloc (.cells #[.int .i64 x0, .int .i64 x1, .int .i64 x2, .int .i64 x3, .int .i64 x4, .int .i64 x5, .string x6] 25)
  have hD2 := OpIn.new w2 x0 x1 x2 x3 x4 x5 x6
  have hB2 := below_alloc (below_then hB1 hb2) (.cells #[.int .i64 x0, .int .i64 x1, .int .i64 x2, .int .i64 x3, .int .i64 x4, .int .i64 x5, .string x6] 25)
  clear hA1 hC1 hB1 hb2
  go_wp2_with fail
  generalize w2.alloc (.cells #[.int .i64 x0, .int .i64 x1, .int .i64 x2, .int .i64 x3, .int .i64 x4, .int .i64 x5, .string x6] 25) = W at *
  generalize w2.heap.size = n3 at *
  obtain ⟨qa0, qa1, qa2, qa3, qa4, qa5, qa6⟩ := hA2.cells
  have ka0 := cell_regrown qa0
  have ka1 := cell_regrown qa1
  have ka2 := cell_regrown qa2
  have ka3 := cell_regrown qa3
  have ka4 := cell_regrown qa4
  have ka5 := cell_regrown qa5
  have ka6 := cell_regrown qa6
  clear qa0 qa1 qa2 qa3 qa4 qa5 qa6 hA2
  obtain ⟨qc0, qc1, qc2, qc3, qc4, qc5, qc6⟩ := hC2.cells
  have kc0 := cell_regrown qc0
  have kc1 := cell_regrown qc1
  have kc2 := cell_regrown qc2
  have kc3 := cell_regrown qc3
  have kc4 := cell_regrown qc4
  have kc5 := cell_regrown qc5
  have kc6 := cell_regrown qc6
  clear qc0 qc1 qc2 qc3 qc4 qc5 qc6 hC2
  obtain ⟨qd0, qd1, qd2, qd3, qd4, qd5, qd6⟩ := hD2.cells
  have kd0 := cell_regrown qd0
  have kd1 := cell_regrown qd1
  have kd2 := cell_regrown qd2
  have kd3 := cell_regrown qd3
  have kd4 := cell_regrown qd4
  have kd5 := cell_regrown qd5
  have kd6 := cell_regrown qd6
  clear qd0 qd1 qd2 qd3 qd4 qd5 qd6 hD2
  have dA : ∀ d os, Calls Try.prog 8 #[] (Sort.grow (redrawn W d) os) fun e w'' => e = .returned (.bool true) ∧ ∃ p : Regrown, w'' = Sort.grow (redrawn W p.d) p.os := fun d os => Calls.regrown_of (awake_any _)
  have dR : ∀ d os, Calls Try.prog 11 #[.agg #[.int .i64 C, .int .i64 D, .int .i64 I, .int .i64 M, .int .i64 K, .int .i64 U, .string s]] (Sort.grow (redrawn W d) os) fun e w'' => e = .returned (.bool br) ∧ ∃ p : Regrown, w'' = Sort.grow (redrawn W p.d) p.os := fun d os => Calls.regrown_of (R1.out _)
  have dS : ∀ d os, Calls Try.prog 12 #[.agg #[.int .i64 C, .int .i64 D, .int .i64 I, .int .i64 M, .int .i64 K, .int .i64 U, .string s]] (Sort.grow (redrawn W d) os) fun e w'' => e = .returned (.bool br) ∧ ∃ p : Regrown, w'' = Sort.grow (redrawn W p.d) p.os := fun d os => Calls.regrown_of (R2.out _)
  have dP : ∀ d os, Calls Try.prog 13 #[.agg #[.int .i64 C, .int .i64 D, .int .i64 I, .int .i64 M, .int .i64 K, .int .i64 U, .string s]] (Sort.grow (redrawn W d) os) fun e w'' => e = .returned (.string P) ∧ ∃ p : Regrown, w'' = Sort.grow (redrawn W p.d) p.os := fun d os => Calls.regrown_of (P1.out _)
  have dQ : ∀ d os, Calls Try.prog 14 #[.agg #[.int .i64 C, .int .i64 D, .int .i64 I, .int .i64 M, .int .i64 K, .int .i64 U, .string s]] (Sort.grow (redrawn W d) os) fun e w'' => e = .returned (.string P) ∧ ∃ p : Regrown, w'' = Sort.grow (redrawn W p.d) p.os := fun d os => Calls.regrown_of (P2.out _)
  clear M1 M2 R1 R2 P1 P2
  refine wp_region_quiet_below (by kernel_rfl) (by kernel_rfl) ?_
  repeat (go_big_quiet_step ((with_reducible (first | exact dA _ _ | exact dR _ _ | exact dS _ _ | exact dP _ _ | exact dQ _ _))))
  refine wpQuiet_nil ?_
  intro _ hw'
  obtain ⟨⟨dq, osq⟩, hw''⟩ := hw'
  subst hw''
  go_wp2
  go_ret
  exact ⟨rfl, below_then hB2 (below_regrown W dq osq)⟩
set_option maxRecDepth 100000 in
theorem tells_lifted (os : Os) (started : os.Started) (H : Type) (enc : TypeId × Value → H) :
    ReturnsInHanded {} Try.checked os 3 .any (Rows.opTellsSpec.pre6 enc Try.prog Try.f3 Rows.opTellsRow.domain false) (Rows.opTellsSpec.post enc Try.prog Try.f3 false true false false) := by
  refine returnsInHanded_of_change (C := Try.checked) own started (by kernel_rfl) Try.func3
    (ChangeSpec.witness6 (enc := enc) (C := Try.checked) false ⟨#[], #[.agg #[.int .i64 0, .int .i64 0, .int .i64 0, .int .i64 0, .int .i64 0, .int .i64 0, .string ⟨#[]⟩], .int .i64 0], []⟩ 8 (by kernel_rfl) (by kernel_rfl) (by kernel_rfl) (by kernel_rfl)) ?_
  intro W base args ds gs before hval0 hW _ _
  have hval : ∀ (j : Nat) t v, Try.f3.params[j]? = some t → args[j]? = some v → Value.okWide Try.prog W .any base t v := hval0
  have hW' := hW
  obtain ⟨p, q, hA0, hV, rfl, _, _⟩ := hW
  have hA : DataW.TrodAll enc Try.prog W 0 (fun _ => true) true Try.f3.params.toList args.toList ds p := hA0
  rw [Try.params3] at hA hval
  obtain ⟨v0, v1, d0, d1, p0, p1, rfl, rfl, rfl, h0, h1⟩ := trodAll_two hA
  obtain ⟨C, D, I, M, K, U, s, rfl, hw, hs⟩ := open_op (hval 0 25 v0 rfl rfl) h0
  obtain ⟨c, rfl, _⟩ := open_i64 (hval 1 3 v1 rfl rfl) h1
  have hc : Calls Try.prog 3 #[.agg #[.int .i64 C, .int .i64 D, .int .i64 I, .int .i64 M, .int .i64 K, .int .i64 U, .string s], .int .i64 c] W fun e w' => e = .returned (.bool true) ∧ Below W.heap.size W w' := by
    by_cases hbig : 1000 < s.size
    · exact tells_long C D I M K U c s W hbig
    · exact tells_walk C D I M K U c s W hw (by omega)
  refine hc.mono fun e W' ⟨he, hb⟩ => ?_
  subst he
  exact ⟨_, rfl, Frm.law_post (by kernel_rfl) (by kernel_rfl) (by kernel_rfl) Try.underlying4 rfl rfl hW' hb⟩

theorem tells_holds : Rows.OpTellsSaid :=
  OpenClaim.holds_of_wide 3 Try.f3 rfl rfl rfl rfl rfl rfl rfl ⟨rfl, rfl, rfl, rfl, rfl⟩ rfl rfl rfl rfl rfl (by kernel_rfl) Try.func3 (by kernel_rfl)
    (of_decide_eq_true (by kernel_rfl)) (by unfold Func.isWrapper; first | (rw [if_pos (by decide +kernel)]; kernel_rfl) | (rw [if_neg (by decide +kernel)]; exact ⟨rfl, rfl⟩))
    (fun os started H enc _ => tells_lifted os started H enc)

end Go.Proofs.Ytkocehjomjaidaa
