/- OpWhole is proved: what is read of bytes has just these, and may be an operation; what is made of a counter comes behind it. Conditions: none. -/
import Derived.Test.YtkocehjomjaidaaOpn
namespace Go.Proofs.Ytkocehjomjaidaa
open Go.ChangeShapes Go.WideShapes Go.ChangeAt Go.RowKit Nam Cod

theorem whole_long (t : ByteArray) (c C D I M K U : Int) (s : ByteArray) (w : World) (h : 1000 < t.size ∨ 1000 < s.size) :
    Calls Try.prog 6 #[.string t, .int .i64 c, .agg #[.int .i64 C, .int .i64 D, .int .i64 I, .int .i64 M, .int .i64 K, .int .i64 U, .string s]] w fun e w' => e = .returned (.bool true) ∧ Below w.heap.size w w' := by
  by_cases h1 : 1000 < t.size
  · clear h
    go_enter Try.func6, Try.ntmps6
    go_wp2_with (go_at_call 8; (with_reducible refine (awake_any _).mono ?_); rintro e w1 ⟨rfl, hb1⟩)
    go_ret
    exact ⟨rfl, below_then (below_alloc (Below.refl _ _) _) hb1⟩
  · have h2 : 1000 < s.size := by omega
    clear h
    go_enter Try.func6, Try.ntmps6
    go_wp2_with (go_at_call 8; (with_reducible refine (awake_any _).mono ?_); rintro e w1 ⟨rfl, hb1⟩)
    go_ret
    exact ⟨rfl, below_then (below_alloc (Below.refl _ _) _) hb1⟩

set_option maxRecDepth 100000 in
set_option maxHeartbeats 2000000 in
theorem whole_walk (t : ByteArray) (c C D I M K U : Int) (s : ByteArray) (w : World) (ht : t.size ≤ 1000) (hs : s.size ≤ 1000)
    (y0 y1 y2 y3 y4 y5 : Int) (y6 : ByteArray) (ok : Bool) (x0 x1 x2 x3 x4 x5 : Int) (x6 : ByteArray) (made : Bool)
    (hP : ∀ w, Calls Try.prog 15 #[.string t] w fun e w' => e = .returned (.tuple #[.agg #[.int .i64 y0, .int .i64 y1, .int .i64 y2, .int .i64 y3, .int .i64 y4, .int .i64 y5, .string y6], .bool ok]) ∧ Below w.heap.size w w')
    (hM : ∀ w, Calls Try.prog 9 #[.int .i64 c, .int .i64 D, .int .i64 I, .int .i64 M, .agg #[.int .i64 K, .int .i64 U, .string s]] w fun e w' => e = .returned (.tuple #[.agg #[.int .i64 x0, .int .i64 x1, .int .i64 x2, .int .i64 x3, .int .i64 x4, .int .i64 x5, .string x6], .bool made]) ∧ Below w.heap.size w w')
    (hR : ok = true → ∀ w, Calls Try.prog 11 #[.agg #[.int .i64 y0, .int .i64 y1, .int .i64 y2, .int .i64 y3, .int .i64 y4, .int .i64 y5, .string y6]] w fun e w' => e = .returned (.bool true) ∧ Below w.heap.size w w')
    (hQ : ok = true → ∀ w, Calls Try.prog 13 #[.agg #[.int .i64 y0, .int .i64 y1, .int .i64 y2, .int .i64 y3, .int .i64 y4, .int .i64 y5, .string y6]] w fun e w' => e = .returned (.string t) ∧ Below w.heap.size w w')
    (hX : made = true → ∀ w, Calls Try.prog 11 #[.agg #[.int .i64 x0, .int .i64 x1, .int .i64 x2, .int .i64 x3, .int .i64 x4, .int .i64 x5, .string x6]] w fun e w' => e = .returned (.bool true) ∧ Below w.heap.size w w')
    (hE : made = true → x0 = c + 1 ∧ x4 = K ∧ x5 = U ∧ x6 = s ∧ 0 ≤ c ∧ c ≤ 1099511627776) :
    Calls Try.prog 6 #[.string t, .int .i64 c, .agg #[.int .i64 C, .int .i64 D, .int .i64 I, .int .i64 M, .int .i64 K, .int .i64 U, .string s]] w fun e w' => e = .returned (.bool true) ∧ Below w.heap.size w w' := by
  have HP := Lib.hid hP
  have HM := Lib.hid hM
  have HR := Lib.hid hR
  have HQ := Lib.hid hQ
  have HX := Lib.hid hX
  have HE := Lib.hid hE
  clear hP hM hR hQ hX hE
  go_enter Try.func6, Try.ntmps6
  go_wp2_with fail
  have hA := OpIn.new w C D I M K U s
  have hB := below_alloc (Below.refl w.heap.size w) (.cells #[.int .i64 C, .int .i64 D, .int .i64 I, .int .i64 M, .int .i64 K, .int .i64 U, .string s] 25)
  generalize w.alloc (.cells #[.int .i64 C, .int .i64 D, .int .i64 I, .int .i64 M, .int .i64 K, .int .i64 U, .string s] 25) = W0 at *
  generalize hn : w.heap.size = n1 at hA ⊢
  clear hn
  refine (HP.out _).mono ?_
  rintro e w1 ⟨rfl, hb1⟩
  have hA0 := hA.below hb1
  obtain ⟨g0, g1, g2, g3, g4, g5, g6⟩ := hA0.cells
  have hlt := hA0.lt
  have hne : n1 ≠ w1.heap.size := by omega
  have hA1 := hA0.alloc (.cells #[.int .i64 y0, .int .i64 y1, .int .i64 y2, .int .i64 y3, .int .i64 y4, .int .i64 y5, .string y6] 25)
  have hC1 := OpIn.new w1 y0 y1 y2 y3 y4 y5 y6
  have hB1 := below_alloc (below_then hB hb1) (.cells #[.int .i64 y0, .int .i64 y1, .int .i64 y2, .int .i64 y3, .int .i64 y4, .int .i64 y5, .string y6] 25)
  clear hA hB hb1 hA0
  go_wp2_with fail
  clear g0 g1 g2 g3 g4 g5 g6 hlt hne
  generalize w1.alloc (.cells #[.int .i64 y0, .int .i64 y1, .int .i64 y2, .int .i64 y3, .int .i64 y4, .int .i64 y5, .string y6] 25) = W1 at *
  generalize w1.heap.size = n2 at *
  refine (HM.out _).mono ?_
  rintro e w2 ⟨rfl, hb2⟩
  have hA2 := (hA1.below hb2).alloc (.cells #[.int .i64 x0, .int .i64 x1, .int .i64 x2, .int .i64 x3, .int .i64 x4, .int .i64 x5, .string x6] 25)
  have hC2 := (hC1.below hb2).alloc (.cells #[.int .i64 x0, .int .i64 x1, .int .i64 x2, .int .i64 x3, .int .i64 x4, .int .i64 x5, .string x6] 25)
  have hD2 := OpIn.new w2 x0 x1 x2 x3 x4 x5 x6
  have hB2 := below_alloc (below_then hB1 hb2) (.cells #[.int .i64 x0, .int .i64 x1, .int .i64 x2, .int .i64 x3, .int .i64 x4, .int .i64 x5, .string x6] 25)
  clear hA1 hC1 hB1 hb2
  go_wp2_with fail
  generalize w2.alloc (.cells #[.int .i64 x0, .int .i64 x1, .int .i64 x2, .int .i64 x3, .int .i64 x4, .int .i64 x5, .string x6] 25) = W at *
  generalize w2.heap.size = n3 at *
  clear HP HM
  refine (awake_any _).mono ?_
  rintro e w3 ⟨rfl, hb3⟩
  have hA3 := hA2.below hb3
  have hC3 := hC2.below hb3
  have hD3 := hD2.below hb3
  have hB3 := below_then hB2 hb3
  clear hA2 hC2 hD2 hB2 hb3
  cases ok
  · clear HR HQ hC3
    cases made
    · clear HX HE hA3 hD3
      go_wp2_with fail
      go_ret
      exact ⟨rfl, hB3⟩
    · obtain ⟨rfl, rfl, rfl, rfl, h1, h2⟩ := HE.out rfl
      have hw : IntKind.i64.wrap (c + 1 - 1) = c := by rw [IntWalk.i64_in _ (by omega)]; omega
      have hw2 : IntKind.i64.wrap c = c := IntWalk.i64_in _ (by omega)
      have HX1 := Lib.hid (HX.out rfl)
      clear HX HE
      obtain ⟨kd0, kd1, kd2, kd3, kd4, kd5, kd6⟩ := hD3.cells
      go_wp2_with fail
      clear kd0 kd1 kd2 kd3 kd4 kd5 kd6
      refine (HX1.out _).mono ?_
      rintro e w4 ⟨rfl, hb⟩
      have hA4 := hA3.below hb
      have hD4 := hD3.below hb
      have hB4 := below_then hB3 hb
      obtain ⟨qa0, qa1, qa2, qa3, qa4, qa5, qa6⟩ := hA4.cells
      obtain ⟨qd0, qd1, qd2, qd3, qd4, qd5, qd6⟩ := hD4.cells
      clear hb hA3 hD3 hA4 hD4 HX1 qa0 qa1 qa2 qa3 qd1 qd2 qd3
      go_wp2_with fail
      go_ret
      exact ⟨rfl, hB4⟩
  · have HR1 := Lib.hid (HR.out rfl)
    have HQ1 := Lib.hid (HQ.out rfl)
    clear HR HQ
    cases made
    · clear HX HE
      obtain ⟨kc0, kc1, kc2, kc3, kc4, kc5, kc6⟩ := hC3.cells
      go_wp2_with fail
      clear kc0 kc1 kc2 kc3 kc4 kc5 kc6
      refine (HR1.out _).mono ?_
      rintro e w4 ⟨rfl, hb⟩
      have hA4 := hA3.below hb
      have hC4 := hC3.below hb
      have hD4 := hD3.below hb
      have hB4 := below_then hB3 hb
      clear hb hA3 hC3 hD3 hB3 HR1
      obtain ⟨kc0, kc1, kc2, kc3, kc4, kc5, kc6⟩ := hC4.cells
      go_wp2_with fail
      clear kc0 kc1 kc2 kc3 kc4 kc5 kc6
      refine (HQ1.out _).mono ?_
      rintro e w5 ⟨rfl, hb⟩
      have hA5 := hA4.below hb
      have hD5 := hD4.below hb
      have hB5 := below_then hB4 hb
      clear hb hA4 hC4 hD4 hB4 HQ1
      clear hA5 hD5
      go_wp2_with fail
      go_ret
      exact ⟨rfl, hB5⟩
    · obtain ⟨rfl, rfl, rfl, rfl, h1, h2⟩ := HE.out rfl
      have hw : IntKind.i64.wrap (c + 1 - 1) = c := by rw [IntWalk.i64_in _ (by omega)]; omega
      have hw2 : IntKind.i64.wrap c = c := IntWalk.i64_in _ (by omega)
      have HX1 := Lib.hid (HX.out rfl)
      clear HX HE
      obtain ⟨kc0, kc1, kc2, kc3, kc4, kc5, kc6⟩ := hC3.cells
      go_wp2_with fail
      clear kc0 kc1 kc2 kc3 kc4 kc5 kc6
      refine (HR1.out _).mono ?_
      rintro e w4 ⟨rfl, hb⟩
      have hA4 := hA3.below hb
      have hC4 := hC3.below hb
      have hD4 := hD3.below hb
      have hB4 := below_then hB3 hb
      clear hb hA3 hC3 hD3 hB3 HR1
      obtain ⟨kc0, kc1, kc2, kc3, kc4, kc5, kc6⟩ := hC4.cells
      go_wp2_with fail
      clear kc0 kc1 kc2 kc3 kc4 kc5 kc6
      refine (HQ1.out _).mono ?_
      rintro e w5 ⟨rfl, hb⟩
      have hA5 := hA4.below hb
      have hD5 := hD4.below hb
      have hB5 := below_then hB4 hb
      clear hb hA4 hC4 hD4 hB4 HQ1
      obtain ⟨kd0, kd1, kd2, kd3, kd4, kd5, kd6⟩ := hD5.cells
      go_wp2_with fail
      clear kd0 kd1 kd2 kd3 kd4 kd5 kd6
      refine (HX1.out _).mono ?_
      rintro e w6 ⟨rfl, hb⟩
      have hA6 := hA5.below hb
      have hD6 := hD5.below hb
      have hB6 := below_then hB5 hb
      obtain ⟨qa0, qa1, qa2, qa3, qa4, qa5, qa6⟩ := hA6.cells
      obtain ⟨qd0, qd1, qd2, qd3, qd4, qd5, qd6⟩ := hD6.cells
      clear hb hA5 hD5 hA6 hD6 HX1 qa0 qa1 qa2 qa3 qd1 qd2 qd3
      go_wp2_with fail
      go_ret
      exact ⟨rfl, hB6⟩

theorem mk_facts {c C D I M K U : Int} {s : ByteArray} (h : mkB c D I M K U s = true) : nextC c D = c + 1 ∧ nextD c D = D ∧ opB (c + 1) D I M K U s = true ∧ 0 ≤ c ∧ c ≤ 1099511627776 := by
  unfold mkB at h
  rw [Bool.and_eq_true] at h
  obtain ⟨h1, h2⟩ := h
  have h1' := h1
  unfold nextB at h1'
  rw [Bool.and_eq_true, decide_eq_true_iff] at h1'
  have hr := rightB_iff.1 h1'.1
  have e1 : nextC c D = c + 1 := by unfold nextC; unfold nextB at h1; rw [if_pos h1]
  have e2 : nextD c D = D := by unfold nextD; unfold nextB at h1; rw [if_pos h1]
  rw [e1, e2] at h2
  exact ⟨e1, e2, h2, by omega, by omega⟩

set_option maxRecDepth 100000 in
theorem whole_lifted (os : Os) (started : os.Started) (H : Type) (enc : TypeId × Value → H) :
    ReturnsInHanded {} Try.checked os 6 .any (Rows.opWholeSpec.pre6 enc Try.prog Try.f6 Rows.opWholeRow.domain false) (Rows.opWholeSpec.post enc Try.prog Try.f6 false true false false) := by
  refine returnsInHanded_of_change (C := Try.checked) own started (by kernel_rfl) Try.func6
    (ChangeSpec.witness6 (enc := enc) (C := Try.checked) false ⟨#[], #[.string ⟨#[]⟩, .int .i64 0, .agg #[.int .i64 0, .int .i64 0, .int .i64 0, .int .i64 0, .int .i64 0, .int .i64 0, .string ⟨#[]⟩]], []⟩ 8 (by kernel_rfl) (by kernel_rfl) (by kernel_rfl) (by kernel_rfl)) ?_
  intro W base args ds gs before hval0 hW _ _
  have hval : ∀ (j : Nat) t v, Try.f6.params[j]? = some t → args[j]? = some v → Value.okWide Try.prog W .any base t v := hval0
  have hW' := hW
  obtain ⟨p, q, hA0, hV, rfl, _, _⟩ := hW
  have hA : DataW.TrodAll enc Try.prog W 0 (fun _ => true) true Try.f6.params.toList args.toList ds p := hA0
  rw [Try.params6] at hA hval
  obtain ⟨v0, v1, v2, d0, d1, d2, p0, p1, p2, rfl, rfl, rfl, h0, h1, h2⟩ := trodAll_three hA
  obtain ⟨t, rfl, ht⟩ := open_str (hval 0 9 v0 rfl rfl) h0
  obtain ⟨c, rfl, _⟩ := open_i64 (hval 1 3 v1 rfl rfl) h1
  obtain ⟨C, D, I, M, K, U, s, rfl, _, hs⟩ := open_op (hval 2 25 v2 rfl rfl) h2
  have hc : Calls Try.prog 6 #[.string t, .int .i64 c, .agg #[.int .i64 C, .int .i64 D, .int .i64 I, .int .i64 M, .int .i64 K, .int .i64 U, .string s]] W fun e w' => e = .returned (.bool true) ∧ Below W.heap.size W w' := by
    by_cases hbig : 1000 < t.size ∨ 1000 < s.size
    · exact whole_long t c C D I M K U s W hbig
    · have hM := fun w => opMake_any c D I M K U s w (by omega)
      have hP := fun w => opParse_any t w (by omega)
      unfold Mv.val at hP
      refine whole_walk t c C D I M K U s W (by omega) (by omega) _ _ _ _ _ _ _ _ _ _ _ _ _ _ _ _ hP hM ?_ ?_ ?_ ?_
      · intro hk w
        rcases ho : parseOf t with _ | o
        · rw [ho] at hk; cases hk
        · have hb := (parse_bytes ho).1
          have hr := opRight_any o.C o.D o.I o.M o.K o.U o.s w (by have := (opB_wide hb).2.2.1; omega)
          rw [hb] at hr
          exact hr
      · intro hk w
        rcases ho : parseOf t with _ | o
        · rw [ho] at hk; cases hk
        · obtain ⟨hb, hq⟩ := parse_bytes ho
          obtain ⟨hwd, _, hz, _⟩ := opB_wide hb
          have hr := opPrint_any o.C o.D o.I o.M o.K o.U o.s w hwd (by omega)
          rw [hq] at hr
          exact hr
      · intro hk w
        obtain ⟨e1, e2, hb, _, _⟩ := mk_facts (C := C) hk
        rw [hk, e1, e2]
        have hr := opRight_any (c + 1) D I M K U s w (by omega)
        rw [hb] at hr
        exact hr
      · intro hk
        obtain ⟨e1, e2, hb, hc0, hc1⟩ := mk_facts (C := C) hk
        rw [hk, e1]
        exact ⟨rfl, rfl, rfl, rfl, hc0, hc1⟩
  refine hc.mono fun e W' ⟨he, hb⟩ => ?_
  subst he
  exact ⟨_, rfl, Frm.law_post (by kernel_rfl) (by kernel_rfl) (by kernel_rfl) Try.underlying4 rfl rfl hW' hb⟩

theorem whole_holds : Rows.OpWholeSaid :=
  OpenClaim.holds_of_wide 6 Try.f6 rfl rfl rfl rfl rfl rfl rfl ⟨rfl, rfl, rfl, rfl, rfl⟩ rfl rfl rfl rfl rfl (by kernel_rfl) Try.func6 (by kernel_rfl)
    (of_decide_eq_true (by kernel_rfl)) (by unfold Func.isWrapper; first | (rw [if_pos (by decide +kernel)]; kernel_rfl) | (rw [if_neg (by decide +kernel)]; exact ⟨rfl, rfl⟩))
    (fun os started H enc _ => whole_lifted os started H enc)

end Go.Proofs.Ytkocehjomjaidaa
