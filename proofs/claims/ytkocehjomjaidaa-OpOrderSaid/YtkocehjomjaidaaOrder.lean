/- OpOrder is proved: operations that are unlike have unlike bytes. Conditions: none. -/
import Derived.Test.YtkocehjomjaidaaOpn
namespace Go.Proofs.Ytkocehjomjaidaa
open Go.ChangeShapes Go.WideShapes Go.ChangeAt Go.RowKit Nam Cod

theorem first_unlike {C D I M K U C' D' I' M' K' U' : Int} {s s' : ByteArray} (h : ¬ (C = C' ∧ D = D' ∧ I = I' ∧ M = M' ∧ K = K' ∧ U = U' ∧ s = s')) :
    ¬ C = C' ∨ (C = C' ∧ ¬ D = D') ∨ (C = C' ∧ D = D' ∧ ¬ I = I') ∨ (C = C' ∧ D = D' ∧ I = I' ∧ ¬ M = M') ∨ (C = C' ∧ D = D' ∧ I = I' ∧ M = M' ∧ ¬ K = K') ∨ (C = C' ∧ D = D' ∧ I = I' ∧ M = M' ∧ K = K' ∧ ¬ U = U') ∨ (C = C' ∧ D = D' ∧ I = I' ∧ M = M' ∧ K = K' ∧ U = U' ∧ ¬ s = s') := by
  by_cases h1 : C = C' <;> by_cases h2 : D = D' <;> by_cases h3 : I = I' <;> by_cases h4 : M = M' <;> by_cases h5 : K = K' <;> by_cases h6 : U = U' <;> by_cases h7 : s = s' <;> simp_all
theorem int_beq {a b : Int} (h : ¬ a = b) : (a == b) = false := by simpa using h

set_option maxRecDepth 100000 in
set_option maxHeartbeats 8000000 in
theorem order_no (C D I M K U C' D' I' M' K' U' : Int) (s s' : ByteArray) (w : World) (hs : s.size ≤ 9223372036854775807) (hs' : s'.size ≤ 9223372036854775807)
    (h : opB C D I M K U s = false ∨ opB C D I M K U s = true ∧ opB C' D' I' M' K' U' s' = false) :
    Calls Try.prog 7 #[.agg #[.int .i64 C, .int .i64 D, .int .i64 I, .int .i64 M, .int .i64 K, .int .i64 U, .string s], .agg #[.int .i64 C', .int .i64 D', .int .i64 I', .int .i64 M', .int .i64 K', .int .i64 U', .string s']] w fun e w' => e = .returned (.bool true) ∧ Below w.heap.size w w' := by
  have r1 := fun w => opRight_any C D I M K U s w hs
  have r2 := fun w => opRight_any C' D' I' M' K' U' s' w hs'
  go_enter Try.func7, Try.ntmps7
  go_wp2_with fail
  have hA := (OpIn.new w C D I M K U s).alloc (.cells #[.int .i64 C', .int .i64 D', .int .i64 I', .int .i64 M', .int .i64 K', .int .i64 U', .string s'] 25)
  have hE := OpIn.new (w.alloc (.cells #[.int .i64 C, .int .i64 D, .int .i64 I, .int .i64 M, .int .i64 K, .int .i64 U, .string s] 25)) C' D' I' M' K' U' s'
  rw [alloc_size] at hE
  have hB := below_alloc (below_alloc (Below.refl w.heap.size w) (.cells #[.int .i64 C, .int .i64 D, .int .i64 I, .int .i64 M, .int .i64 K, .int .i64 U, .string s] 25)) (.cells #[.int .i64 C', .int .i64 D', .int .i64 I', .int .i64 M', .int .i64 K', .int .i64 U', .string s'] 25)
  generalize (w.alloc (.cells #[.int .i64 C, .int .i64 D, .int .i64 I, .int .i64 M, .int .i64 K, .int .i64 U, .string s] 25)).alloc (.cells #[.int .i64 C', .int .i64 D', .int .i64 I', .int .i64 M', .int .i64 K', .int .i64 U', .string s'] 25) = W0 at *
  generalize w.heap.size + 1 = n2 at *
  generalize hn : w.heap.size = n1 at hA ⊢
  clear hn
  rcases h with h | ⟨h, h2⟩
  · rw [h] at r1
    have R1 := Lib.hid r1
    clear r1 r2 h
    refine (R1.out _).mono ?_
    rintro e w1 ⟨rfl, hb1⟩
    have hB1 := below_then hB hb1
    go_wp2_with (go_at_call 8; (with_reducible refine (awake_any _).mono ?_); rintro e w2 ⟨rfl, hb2⟩)
    go_ret
    exact ⟨rfl, below_then hB1 hb2⟩
  · rw [h] at r1
    rw [h2] at r2
    have R1 := Lib.hid r1
    have R2 := Lib.hid r2
    clear r1 r2 h h2
    refine (R1.out _).mono ?_
    rintro e w1 ⟨rfl, hb1⟩
    have hB1 := below_then hB hb1
    have hE1 := hE.below hb1
    go_wp2_with (first | (go_at_call 11; (with_reducible refine (R2.out _).mono ?_); rintro e w2 ⟨rfl, hb2⟩) | (go_at_call 8; (with_reducible refine (awake_any _).mono ?_); rintro e w3 ⟨rfl, hb3⟩) | (refine load_op_if rfl _ rfl _ rfl _ _ _ _ _ _ _ hE1 ?_))
    go_ret
    exact ⟨rfl, below_then (below_then hB1 hb2) hb3⟩

set_option maxRecDepth 100000 in
set_option maxHeartbeats 8000000 in
theorem order_walk (C D I M K U C' D' I' M' K' U' : Int) (s s' : ByteArray) (w : World) (h : opB C D I M K U s = true) (h2 : opB C' D' I' M' K' U' s' = true) :
    Calls Try.prog 7 #[.agg #[.int .i64 C, .int .i64 D, .int .i64 I, .int .i64 M, .int .i64 K, .int .i64 U, .string s], .agg #[.int .i64 C', .int .i64 D', .int .i64 I', .int .i64 M', .int .i64 K', .int .i64 U', .string s']] w fun e w' => e = .returned (.bool true) ∧ Below w.heap.size w w' := by
  obtain ⟨hw, _, hs, _⟩ := opB_wide h
  obtain ⟨hw', _, hs', _⟩ := opB_wide h2
  have r1 := fun w => opRight_any C D I M K U s w (by omega)
  have r2 := fun w => opRight_any C' D' I' M' K' U' s' w (by omega)
  have p1 := fun w => opPrint_any C D I M K U s w hw (by omega)
  have p2 := fun w => opPrint_any C' D' I' M' K' U' s' w hw' (by omega)
  rw [h] at r1
  rw [h2] at r2
  have hinj := Lib.hid (fun e => print_inj h h2 e)
  have R1 := Lib.hid r1
  have R2 := Lib.hid r2
  have P1 := Lib.hid p1
  have P2 := Lib.hid p2
  clear r1 r2 p1 p2 hs hs' hw hw'
  go_enter Try.func7, Try.ntmps7
  go_wp2_with fail
  have hA := (OpIn.new w C D I M K U s).alloc (.cells #[.int .i64 C', .int .i64 D', .int .i64 I', .int .i64 M', .int .i64 K', .int .i64 U', .string s'] 25)
  have hE := OpIn.new (w.alloc (.cells #[.int .i64 C, .int .i64 D, .int .i64 I, .int .i64 M, .int .i64 K, .int .i64 U, .string s] 25)) C' D' I' M' K' U' s'
  rw [alloc_size] at hE
  have hB := below_alloc (below_alloc (Below.refl w.heap.size w) (.cells #[.int .i64 C, .int .i64 D, .int .i64 I, .int .i64 M, .int .i64 K, .int .i64 U, .string s] 25)) (.cells #[.int .i64 C', .int .i64 D', .int .i64 I', .int .i64 M', .int .i64 K', .int .i64 U', .string s'] 25)
  generalize (w.alloc (.cells #[.int .i64 C, .int .i64 D, .int .i64 I, .int .i64 M, .int .i64 K, .int .i64 U, .string s] 25)).alloc (.cells #[.int .i64 C', .int .i64 D', .int .i64 I', .int .i64 M', .int .i64 K', .int .i64 U', .string s'] 25) = W0 at *
  generalize w.heap.size + 1 = n2 at *
  generalize hn : w.heap.size = n1 at hA ⊢
  clear hn
  refine (R1.out _).mono ?_
  rintro e w1 ⟨rfl, hb1⟩
  have hB1 := below_then hB hb1
  have hE1 := hE.below hb1
  have hA1 := hA.below hb1
  clear hA hE hB hb1 R1
  go_wp2_with (refine load_op_if rfl _ rfl _ rfl _ _ _ _ _ _ _ hE1 ?_)
  refine (R2.out _).mono ?_
  rintro e w2 ⟨rfl, hb2⟩
  have hB2 := below_then hB1 hb2
  have hE2 := hE1.below hb2
  have hA2 := hA1.below hb2
  clear hA1 hE1 hB1 hb2 R2 w1 W0
  go_wp2_with fail
  obtain ⟨q0, q1, q2, q3, q4, q5, q6⟩ := hA2.cells
  obtain ⟨t0, t1, t2, t3, t4, t5, t6⟩ := hE2.cells
  have ka0 := cell_regrown q0
  have ka1 := cell_regrown q1
  have ka2 := cell_regrown q2
  have ka3 := cell_regrown q3
  have ka4 := cell_regrown q4
  have ka5 := cell_regrown q5
  have ka6 := cell_regrown q6
  have kb0 := cell_regrown t0
  have kb1 := cell_regrown t1
  have kb2 := cell_regrown t2
  have kb3 := cell_regrown t3
  have kb4 := cell_regrown t4
  have kb5 := cell_regrown t5
  have kb6 := cell_regrown t6
  clear q0 q1 q2 q3 q4 q5 q6 t0 t1 t2 t3 t4 t5 t6 hA2 hE2 h h2
  have dA : ∀ d os, Calls Try.prog 8 #[] (Sort.grow (redrawn w2 d) os) fun e w'' => e = .returned (.bool true) ∧ ∃ p : Regrown, w'' = Sort.grow (redrawn w2 p.d) p.os := fun d os => Calls.regrown_of (awake_any _)
  have dP : ∀ d os, Calls Try.prog 13 #[.agg #[.int .i64 C, .int .i64 D, .int .i64 I, .int .i64 M, .int .i64 K, .int .i64 U, .string s]] (Sort.grow (redrawn w2 d) os) fun e w'' => e = .returned (.string (printOf C D I M K U s)) ∧ ∃ p : Regrown, w'' = Sort.grow (redrawn w2 p.d) p.os := fun d os => Calls.regrown_of (P1.out _)
  have dQ : ∀ d os, Calls Try.prog 13 #[.agg #[.int .i64 C', .int .i64 D', .int .i64 I', .int .i64 M', .int .i64 K', .int .i64 U', .string s']] (Sort.grow (redrawn w2 d) os) fun e w'' => e = .returned (.string (printOf C' D' I' M' K' U' s')) ∧ ∃ p : Regrown, w'' = Sort.grow (redrawn w2 p.d) p.os := fun d os => Calls.regrown_of (P2.out _)
  clear P1 P2
  by_cases he : C = C' ∧ D = D' ∧ I = I' ∧ M = M' ∧ K = K' ∧ U = U' ∧ s = s'
  · obtain ⟨rfl, rfl, rfl, rfl, rfl, rfl, rfl⟩ := he
    clear hinj
    generalize printOf C D I M K U s = P at *
    refine wp_region_quiet_below (by kernel_rfl) (by kernel_rfl) ?_
    repeat (go_big_quiet_step ((with_reducible (first | exact dA _ _ | exact dP _ _))))
    refine wpQuiet_nil ?_
    intro _ hw'
    obtain ⟨⟨dq, osq⟩, hw''⟩ := hw'
    subst hw''
    go_wp2
    go_ret
    exact ⟨rfl, below_then hB2 (below_regrown w2 dq osq)⟩
  · have hne : ¬ printOf C D I M K U s = printOf C' D' I' M' K' U' s' := fun e => he (hinj.out e)
    clear hinj
    generalize printOf C D I M K U s = P at *
    generalize printOf C' D' I' M' K' U' s' = P' at *
    have hl := ne_list hne
    have hq := ne_beq hne
    rcases first_unlike he with h | ⟨rfl, h⟩ | ⟨rfl, rfl, h⟩ | ⟨rfl, rfl, rfl, h⟩ | ⟨rfl, rfl, rfl, rfl, h⟩ | ⟨rfl, rfl, rfl, rfl, rfl, h⟩ | ⟨rfl, rfl, rfl, rfl, rfl, rfl, h⟩
    all_goals
      clear he
      first | have hz := int_beq h | (have hz := ne_beq h; have hz2 := ne_list h)
      refine wp_region_quiet_below (by kernel_rfl) (by kernel_rfl) ?_
      repeat (go_big_quiet_step ((with_reducible (first | exact dA _ _ | exact dP _ _ | exact dQ _ _))))
      refine wpQuiet_nil ?_
      intro _ hw'
      obtain ⟨⟨dq, osq⟩, hw''⟩ := hw'
      subst hw''
      go_wp2
      go_ret
      exact ⟨rfl, below_then hB2 (below_regrown w2 dq osq)⟩

set_option maxRecDepth 100000 in
theorem order_lifted (os : Os) (started : os.Started) (H : Type) (enc : TypeId × Value → H) :
    ReturnsInHanded {} Try.checked os 7 .any (Rows.opOrderSpec.pre6 enc Try.prog Try.f7 Rows.opOrderRow.domain false) (Rows.opOrderSpec.post enc Try.prog Try.f7 false true false false) := by
  refine returnsInHanded_of_change (C := Try.checked) own started (by kernel_rfl) Try.func7
    (ChangeSpec.witness6 (enc := enc) (C := Try.checked) false ⟨#[], #[.agg #[.int .i64 0, .int .i64 0, .int .i64 0, .int .i64 0, .int .i64 0, .int .i64 0, .string ⟨#[]⟩], .agg #[.int .i64 0, .int .i64 0, .int .i64 0, .int .i64 0, .int .i64 0, .int .i64 0, .string ⟨#[]⟩]], []⟩ 8 (by kernel_rfl) (by kernel_rfl) (by kernel_rfl) (by kernel_rfl)) ?_
  intro W base args ds gs before hval0 hW _ _
  have hval : ∀ (j : Nat) t v, Try.f7.params[j]? = some t → args[j]? = some v → Value.okWide Try.prog W .any base t v := hval0
  have hW' := hW
  obtain ⟨p, q, hA0, hV, rfl, _, _⟩ := hW
  have hA : DataW.TrodAll enc Try.prog W 0 (fun _ => true) true Try.f7.params.toList args.toList ds p := hA0
  rw [Try.params7] at hA hval
  obtain ⟨v0, v1, d0, d1, p0, p1, rfl, rfl, rfl, h0, h1⟩ := trodAll_two hA
  obtain ⟨C, D, I, M, K, U, s, rfl, _, hs⟩ := open_op (hval 0 25 v0 rfl rfl) h0
  obtain ⟨C', D', I', M', K', U', s', rfl, _, hs'⟩ := open_op (hval 1 25 v1 rfl rfl) h1
  have hc : Calls Try.prog 7 #[.agg #[.int .i64 C, .int .i64 D, .int .i64 I, .int .i64 M, .int .i64 K, .int .i64 U, .string s], .agg #[.int .i64 C', .int .i64 D', .int .i64 I', .int .i64 M', .int .i64 K', .int .i64 U', .string s']] W fun e w' => e = .returned (.bool true) ∧ Below W.heap.size W w' := by
    have z1 : s.size ≤ 9223372036854775807 := Nat.le_trans hs (by unfold maxLen; omega)
    have z2 : s'.size ≤ 9223372036854775807 := Nat.le_trans hs' (by unfold maxLen; omega)
    cases h1 : opB C D I M K U s
    · exact order_no C D I M K U C' D' I' M' K' U' s s' W z1 z2 (Or.inl h1)
    · cases h2 : opB C' D' I' M' K' U' s'
      · exact order_no C D I M K U C' D' I' M' K' U' s s' W z1 z2 (Or.inr ⟨h1, h2⟩)
      · exact order_walk C D I M K U C' D' I' M' K' U' s s' W h1 h2
  refine hc.mono fun e W' ⟨he, hb⟩ => ?_
  subst he
  exact ⟨_, rfl, Frm.law_post (by kernel_rfl) (by kernel_rfl) (by kernel_rfl) Try.underlying4 rfl rfl hW' hb⟩

theorem order_holds : Rows.OpOrderSaid :=
  OpenClaim.holds_of_wide 7 Try.f7 rfl rfl rfl rfl rfl rfl rfl ⟨rfl, rfl, rfl, rfl, rfl⟩ rfl rfl rfl rfl rfl (by kernel_rfl) Try.func7 (by kernel_rfl)
    (of_decide_eq_true (by kernel_rfl)) (by unfold Func.isWrapper; first | (rw [if_pos (by decide +kernel)]; kernel_rfl) | (rw [if_neg (by decide +kernel)]; exact ⟨rfl, rfl⟩))
    (fun os started H enc _ => order_lifted os started H enc)

end Go.Proofs.Ytkocehjomjaidaa
