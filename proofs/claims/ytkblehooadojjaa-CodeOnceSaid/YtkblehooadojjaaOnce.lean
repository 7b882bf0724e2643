/- CodeOnce is proved: a number has just one writing: what is read of any bytes (2,000 at most) has the bytes that were read; what goes wrong once stays wrong. Conditions: none. -/
import Derived.Test.YtkblehooadojjaaOpn
namespace Go.Proofs.Ytkblehooadojjaa
open Go.ChangeShapes Go.WideShapes Go.ChangeAt Go.RowKit Cod

theorem once_long (s : ByteArray) (w : World) (h : 2000 < s.size) :
    Calls Try.prog 6 #[.string s] w fun e w' => e = .returned (.bool true) ∧ Below w.heap.size w w' := by
  go_enter Try.func6, Try.ntmps6
  go_wp2_with (go_at_call 8; (with_reducible refine (awake_any _).mono ?_); rintro e w1 ⟨rfl, hb1⟩)
  go_ret
  exact ⟨rfl, hb1⟩

theorem isCount_bad (s : ByteArray) (p : Nat) (m : Int) : isCount s p true m = none := rfl
theorem isText_bad (s : ByteArray) (p : Nat) (m : Int) : isText s p true m = none := rfl
theorem isBool_bad (s : ByteArray) (p : Nat) : isBool s p true = none := rfl
theorem isNum_bad (s : ByteArray) (p : Nat) : isNum s p true = none := rfl

set_option maxHeartbeats 4000000 in
theorem once_bad (s : ByteArray) (w : World) (h : s.size ≤ 2000) (hn : isNum s 0 false = none) :
    Calls Try.prog 6 #[.string s] w fun e w' => e = .returned (.bool true) ∧ Below w.heap.size w w' := by
  have hs : s.size ≤ 1000000 := by omega
  have C1 := Lib.hid (fun (w : World) (b : Nat) (hr : Rd 31 w b s 0 false) => rnum_no hs (Nat.zero_le _) hr hn)
  have C2 := Lib.hid (fun (w : World) (b q : Nat) (hq : q ≤ s.size) (hr : Rd 31 w b s q true) => rnum_no hs hq hr (isNum_bad s q))
  have C3 := Lib.hid (fun (w : World) (b q : Nat) (hq : q ≤ s.size) (hr : Rd 31 w b s q true) => rtext_no (most := 5) hs hq hr (isText_bad s q 5))
  have C4 := Lib.hid (fun (w : World) (b q : Nat) (hq : q ≤ s.size) (hr : Rd 31 w b s q true) => bool_no hs hq hr (isBool_bad s q))
  have C5 := Lib.hid (fun (w : World) (b q : Nat) (hq : q ≤ s.size) (hr : Rd 31 w b s q true) => count_no (most := 5) hs hq hr (isCount_bad s q 5))
  have C6 := Lib.hid (fun (w : World) (b q : Nat) (hq : q ≤ s.size) (hr : Rd 31 w b s q true) => (show Calls Try.prog 25 #[.pointer (some ⟨b, 0, none⟩)] w fun e w' => e = .returned (.bool false) ∧ ∃ n, w' = w.drewN n from done_any hq hr))
  clear hn
  go_enter Try.func6, Try.ntmps6
  go_wp2_with (first | (go_at_call 25; (with_reducible refine (C6.out _ _ _ q6 hr6).mono ?_); rintro e w7 ⟨rfl, n7, rfl⟩)
                     | (go_at_call 23; (with_reducible refine (C5.out _ _ _ q5 hr5).mono ?_); rintro e w6 ⟨rfl, ⟨p6, q6, hr6⟩, hb6⟩)
                     | (go_at_call 21; (with_reducible refine (C4.out _ _ _ q4 hr4).mono ?_); rintro e w5 ⟨rfl, ⟨p5, q5, hr5⟩, hb5⟩)
                     | (go_at_call 19; (with_reducible refine (C3.out _ _ _ q3 hr3).mono ?_); rintro e w4 ⟨rfl, ⟨p4, q4, hr4⟩, hb4⟩)
                     | (go_at_call 17; (with_reducible refine (C2.out _ _ _ q1 (hr1.below hb2)).mono ?_); rintro e w3 ⟨rfl, ⟨p3, q3, hr3⟩, hb3⟩)
                     | (go_at_call 8; (with_reducible refine (awake_any _).mono ?_); rintro e w2 ⟨rfl, hb2⟩)
                     | (go_at_call 17; (with_reducible refine (C1.out _ _ (Rd.new w 31 _ 0 rfl)).mono ?_); rintro e w1 ⟨rfl, ⟨p1, q1, hr1⟩, hb1⟩; obtain ⟨hc0, hc1, hc2⟩ := hr1.cells))
  go_ret
  have B1 := below_by (below_alloc (Below.refl w.heap.size w) _) hb1 (Nat.le_refl _)
  have B6 := below_by (below_by (below_by (below_by (below_then B1 hb2) hb3 (Nat.le_refl _)) hb4 (Nat.le_refl _)) hb5 (Nat.le_refl _)) hb6 (Nat.le_refl _)
  exact ⟨rfl, below_by B6 (by_drewN (by_refl _ _) n7) (Nat.le_refl _)⟩

theorem read_written {s : ByteArray} {n : Int} {q : Nat} (h : isNum s 0 false = some (n, q)) : s.extract 0 q = bytesOf n ∧ 1 ≤ q ∧ q ≤ s.size := by
  obtain ⟨_, ⟨m, h1, rfl⟩, h2, h3, _⟩ := isNum_some h
  obtain ⟨k1, k2, _⟩ := rd_some h1
  refine ⟨L_inj ?_, by omega, h2⟩
  rw [bytesOf_list, ← k1]
  simp

set_option maxHeartbeats 4000000 in
theorem once_good (s : ByteArray) (w : World) (n : Int) (q : Nat) (h : s.size ≤ 2000) (hn : isNum s 0 false = some (n, q)) :
    Calls Try.prog 6 #[.string s] w fun e w' => e = .returned (.bool true) ∧ Below w.heap.size w w' := by
  have hs : s.size ≤ 1000000 := by omega
  obtain ⟨hex, hq1, hq2⟩ := read_written hn
  obtain ⟨_, _, _, _, hn1, hn2⟩ := isNum_some hn
  have C1 := Lib.hid (fun (w : World) (b : Nat) (hr : Rd 31 w b s 0 false) => rnum_yes hs (Nat.zero_le _) hr hn)
  have cN := fun w => num_any n w hn1 hn2
  generalize bytesOf n = D at hex cN
  have CN := Lib.hid cN
  have d1 : decide ((1 : Int) ≤ (q : Int)) = true := decide_eq_true (by omega)
  have d2 : decide (q ≤ s.size) = true := decide_eq_true (by omega)
  have i1 : (0 : Int) ≤ (q : Int) := by omega
  have i2 : (q : Int) ≤ (s.size : Int) := by omega
  clear hn cN hn1 hn2
  go_enter Try.func6, Try.ntmps6
  go_wp2_with (go_at_call 17; (with_reducible refine (C1.out _ _ (Rd.new w 31 _ 0 rfl)).mono ?_); rintro e W ⟨rfl, hr1, hb1⟩; obtain ⟨hc0, hc1, hc2⟩ := hr1.cells)
  have B1 := Lib.hid (below_by (below_alloc (Below.refl w.heap.size w) _) hb1 (Nat.le_refl _))
  have k0 := cell_regrown hc0
  have k1 := cell_regrown hc1
  have k2 := cell_regrown hc2
  clear hc0 hc1 hc2 hr1 hb1
  have cA : ∀ d os, Calls Try.prog 8 #[] (Sort.grow (redrawn W d) os) fun e w'' => e = .returned (.bool true) ∧ ∃ p : Regrown, w'' = Sort.grow (redrawn W p.d) p.os := fun d os => Calls.regrown_of (awake_any _)
  have cD : ∀ d os, Calls Try.prog 9 #[.int .i64 n] (Sort.grow (redrawn W d) os) fun e w'' => e = .returned (.string D) ∧ ∃ p : Regrown, w'' = Sort.grow (redrawn W p.d) p.os := fun d os => Calls.regrown_of (CN.out _)
  refine wp_region_quiet_below (by kernel_rfl) (by kernel_rfl) ?_
  repeat (go_big_quiet_step ((first | exact cA _ _ | exact cD _ _)))
  refine wpQuiet_nil ?_
  intro _ hw'
  obtain ⟨⟨dq, osq⟩, hw''⟩ := hw'
  subst hw''
  go_wp2
  go_ret
  exact ⟨rfl, below_then B1.out (below_regrown W dq osq)⟩

set_option maxRecDepth 100000 in
theorem once_lifted (os : Os) (started : os.Started) (H : Type) (enc : TypeId × Value → H) :
    ReturnsInHanded {} Try.checked os 6 .any (Rows.codeOnceSpec.pre6 enc Try.prog Try.f6 Rows.codeOnceRow.domain false) (Rows.codeOnceSpec.post enc Try.prog Try.f6 false true false false) := by
  refine returnsInHanded_of_change (C := Try.checked) own started (by kernel_rfl) Try.func6
    (ChangeSpec.witness6 (enc := enc) (C := Try.checked) false ⟨#[], #[.string ⟨#[]⟩], []⟩ 8 (by kernel_rfl) (by kernel_rfl) (by kernel_rfl) (by kernel_rfl)) ?_
  intro W base args ds gs before hval0 hW _ _
  have hval : ∀ (j : Nat) t v, Try.f6.params[j]? = some t → args[j]? = some v → Value.okWide Try.prog W .any base t v := hval0
  have hW' := hW
  obtain ⟨p, q, hA0, hV, rfl, _, _⟩ := hW
  have hA : DataW.TrodAll enc Try.prog W 0 (fun _ => true) true Try.f6.params.toList args.toList ds p := hA0
  rw [Try.params6] at hA hval
  obtain ⟨v0, d0, rfl, rfl, h0⟩ := trodAll_one hA
  obtain ⟨s, rfl, hs⟩ := open_str (hval 0 9 v0 rfl rfl) h0
  have hc : Calls Try.prog 6 #[.string s] W fun e w' => e = .returned (.bool true) ∧ Below W.heap.size W w' := by
    by_cases h : s.size ≤ 2000
    · rcases hn : isNum s 0 false with _ | ⟨n, q⟩
      · exact once_bad s W h hn
      · exact once_good s W n q h hn
    · exact once_long s W (by omega)
  refine hc.mono fun e W' ⟨he, hb⟩ => ?_
  subst he
  exact ⟨_, rfl, Frm.law_post (by kernel_rfl) (by kernel_rfl) (by kernel_rfl) Try.underlying4 rfl rfl hW' hb⟩

theorem once_holds : Rows.CodeOnceSaid :=
  OpenClaim.holds_of_wide 6 Try.f6 rfl rfl rfl rfl rfl rfl rfl ⟨rfl, rfl, rfl, rfl, rfl⟩ rfl rfl rfl rfl rfl (by kernel_rfl) Try.func6 (by kernel_rfl)
    (of_decide_eq_true (by kernel_rfl)) (by unfold Func.isWrapper; first | (rw [if_pos (by decide +kernel)]; kernel_rfl) | (rw [if_neg (by decide +kernel)]; exact ⟨rfl, rfl⟩))
    (fun os started H enc _ => once_lifted os started H enc)

end Go.Proofs.Ytkblehooadojjaa
