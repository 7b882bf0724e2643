/- TreeBack is proved: a tree is read from its bytes as it was, with what stands behind them left. Conditions: none. -/
import Derived.Test.YtfhonobaddkmhaaOpn
import Derived.Test.YtfhonobaddkmhaaTs
namespace Go.Proofs.Ytfhonobaddkmhaa
open Go.ChangeShapes Go.WideShapes Go.ChangeAt Go.RowKit Go.Deep Nam Cod Tre

theorem back_no (A : Option Addr) (cap : Nat) (l : List Pl) (Z : ByteArray) (w : World) (hsz : ∀ p ∈ l, p.s.size ≤ 9223372036854775807) (hT : Tr w A l) (h : 100 < l.length ∨ (l.length ≤ 100 ∧ (500 < Z.size ∨ (Z.size ≤ 500 ∧ treeB l = false)))) :
    Calls Try.prog 5 #[.slice A l.length cap, .string Z] w fun e w' => e = .returned (.bool true) ∧ Below w.heap.size w w' := by
  rcases h with h | ⟨h, h1 | ⟨h1, h2⟩⟩
  · go_enter Try.func5, Try.ntmps5
    go_wp2_with (go_at_call 8; (with_reducible refine (awake_any _).mono ?_); rintro e w1 ⟨rfl, hb1⟩)
    go_ret
    exact ⟨rfl, hb1⟩
  · go_enter Try.func5, Try.ntmps5
    go_wp2_with (go_at_call 8; (with_reducible refine (awake_any _).mono ?_); rintro e w1 ⟨rfl, hb1⟩)
    go_ret
    exact ⟨rfl, hb1⟩
  · have C := right_any A cap l w (by omega) hsz hT
    rw [h2] at C
    go_enter Try.func5, Try.ntmps5
    go_wp2_with (first | (go_at_call 9; (with_reducible refine C.mono ?_); rintro e w1 ⟨rfl, hb1⟩) | (go_at_call 8; (with_reducible refine (awake_any _).mono ?_); rintro e w2 ⟨rfl, hb2⟩))
    go_ret
    exact ⟨rfl, below_then hb1 hb2⟩

set_option maxRecDepth 100000 in
set_option maxHeartbeats 4000000 in
theorem back_walk (A : Option Addr) (cap : Nat) (l : List Pl) (Z : ByteArray) (w : World) (hl : l.length ≤ 100) (hz : Z.size ≤ 500) (ht : treeB l = true) (hT : Tr w A l) :
    Calls Try.prog 5 #[.slice A l.length cap, .string Z] w fun e w' => e = .returned (.bool true) ∧ Below w.heap.size w w' := by
  obtain ⟨hok, hs, _⟩ := treeB_facts ht
  have hf : ∀ p ∈ l, Fit p := fun p hp => (okPl_fit (hok p hp)).1
  have C := right_any A cap l w (by omega) (fun p hp => by have := (hf p hp).s; omega) hT
  rw [ht] at C
  have CP := Lib.hid (fun w (hT : Tr w A l) => print_any A cap l w (by omega) hf hT)
  have hl62 := sorted_len hs (fun p hp => by have := (okPl_fit (hok p hp)).2; omega)
  have hthere := tree_there ⟨#[]⟩ Z l ht (by omega)
  rw [empty_b] at hthere
  have h0 : (ByteArray.mk #[]).size = 0 := rfl
  rw [h0, Nat.zero_add] at hthere
  have hsize : (treeBytes l).size ≤ 10 + 46 * l.length := by
    have h1 := headOf l 0 (by omega)
    have h2 := catL_le l hf
    unfold treeBytes; rw [ByteArray.size_append]; omega
  have HTH := Lib.hid hthere
  clear hok hs hf ht hthere h0
  have happ : (treeBytes l ++ Z).size = (treeBytes l).size + Z.size := ByteArray.size_append
  generalize treeBytes l = T at *
  go_enter Try.func5, Try.ntmps5
  go_wp2_with fail
  refine C.mono ?_
  rintro e w1 ⟨rfl, hb1⟩
  have hT1 := hT.below hb1
  clear hT C
  go_wp2_with fail
  refine (CP.out _ hT1).mono ?_
  rintro e w2 ⟨rfl, hb2⟩
  have hT2 := hT1.below hb2
  have hB2 := below_then hb1 hb2
  clear hT1 hb1 hb2 CP
  go_wp2_with fail
  have hR := Rd.new w2 39 (T ++ Z) 0 rfl
  have hbA := below_alloc (Below.refl w2.heap.size w2) (.cells #[.string (T ++ Z), .int .i64 0, .bool false] 39)
  have hB3 := below_then hB2 hbA
  have hT3 := hT2.below hbA
  have hsz := hB2.size
  have hbT : ∀ b off, A = some ⟨b, off, none⟩ → b < w2.heap.size → b ≠ w2.heap.size := fun b off _ h => by omega
  have hRs : (T ++ Z).size ≤ 1000000 := by omega
  clear hbA
  generalize w2.alloc (.cells #[.string (T ++ Z), .int .i64 0, .bool false] 39) = W at *
  refine (treeRead_uni hRs (Nat.zero_le _) hR).mono ?_
  rintro e w4 ⟨A4, c4, l4, q4, b4, rfl, hT4, hl4, hR4, hq4, hG4, hst⟩
  have hB4 := below_by hB3 hG4 hsz
  have hT5 : Tr w4 A l := fun h => by
    obtain ⟨b, off, e, hb, hc⟩ := hT2 h
    obtain ⟨b', off', e', hb', hc'⟩ := hT3 h
    rw [e] at e'; cases e'
    have hne : some b ≠ some w2.heap.size := fun e => by have := Option.some.inj e; omega
    exact ⟨b, off, e, Nat.lt_of_lt_of_le hb' hG4.size, fun i hi => ⟨hG4.cell (hc' i hi).1 hne, hG4.cell (hc' i hi).2.1 hne, hG4.cell (hc' i hi).2.2 hne⟩⟩
  rcases hst with ⟨h1, rfl⟩ | ⟨h1, _⟩
  · rw [HTH.out] at h1
    cases h1
    clear HTH hT2 hT3 hR hG4 hB3 hB2 hbT
    go_wp2_with fail
    refine (awake_any _).mono ?_
    rintro e w5 ⟨rfl, hb5⟩
    have hT4 := hT4.below hb5
    have hT5 := hT5.below hb5
    have hR5 := hR4.below hb5
    have hB5 := below_then hB4 hb5
    clear hR4 hb5 hB4
    obtain ⟨r0, r1, r2⟩ := hR5.cells
    clear r0
    go_wp2_with fail
    refine (same_any A A4 cap c4 l _ (by omega) hT5 hT4).mono ?_
    rintro e w6 ⟨rfl, hb6⟩
    go_wp2_with fail
    go_ret
    exact ⟨rfl, below_then hB5 hb6⟩
  · rw [HTH.out] at h1; cases h1

set_option maxRecDepth 100000 in
theorem back_lifted (os : Os) (started : os.Started) (H : Type) (enc : TypeId × Value → H) :
    ReturnsInHanded {} Try.checked os 5 .any (Rows.treeBackSpec.pre6 enc Try.prog Try.f5 Rows.treeBackRow.domain false) (Rows.treeBackSpec.post enc Try.prog Try.f5 false true false false) := by
  refine returnsInHanded_of_change (C := Try.checked) own started (by kernel_rfl) Try.func5
    (ChangeSpec.witness6 (enc := enc) (C := Try.checked) false ⟨#[], #[.slice none 0 0, .string ⟨#[]⟩], []⟩ 8 (by kernel_rfl) (by kernel_rfl) (by kernel_rfl) (by kernel_rfl)) ?_
  intro W base args ds gs before hval0 hW _ _
  have hval : ∀ (j : Nat) t v, Try.f5.params[j]? = some t → args[j]? = some v → Value.okWide Try.prog W .any base t v := hval0
  have hW' := hW
  obtain ⟨p, q, hA0, hV, rfl, _, _⟩ := hW
  have hA : DataW.TrodAll enc Try.prog W 0 (fun _ => true) true Try.f5.params.toList args.toList ds p := hA0
  rw [Try.params5] at hA hval
  obtain ⟨v0, v1, d0, d1, p0, p1, rfl, rfl, rfl, h0, h1⟩ := trodAll_two hA
  obtain ⟨A, cap, l, rfl, hT, _, _, hw⟩ := open_tree (hval 0 22 v0 rfl rfl) h0
  obtain ⟨Z, rfl, _⟩ := open_str (hval 1 9 v1 rfl rfl) h1
  have hc : Calls Try.prog 5 #[.slice A l.length cap, .string Z] W fun e w' => e = .returned (.bool true) ∧ Below W.heap.size W w' := by
    by_cases hbig : 100 < l.length
    · exact back_no A cap l Z W (long_le hw) hT (Or.inl hbig)
    · by_cases hzb : 500 < Z.size
      · exact back_no A cap l Z W (long_le hw) hT (Or.inr ⟨by omega, Or.inl hzb⟩)
      · cases ht : treeB l
        · exact back_no A cap l Z W (long_le hw) hT (Or.inr ⟨by omega, Or.inr ⟨by omega, ht⟩⟩)
        · exact back_walk A cap l Z W (by omega) (by omega) ht hT
  refine hc.mono fun e W' ⟨he, hb⟩ => ?_
  subst he
  exact ⟨_, rfl, Frm.law_post (by kernel_rfl) (by kernel_rfl) (by kernel_rfl) Try.underlying4 rfl rfl hW' hb⟩

theorem back_holds : Rows.TreeBackSaid :=
  OpenClaim.holds_of_wide 5 Try.f5 rfl rfl rfl rfl rfl rfl rfl ⟨rfl, rfl, rfl, rfl, rfl⟩ rfl rfl rfl rfl rfl (by kernel_rfl) Try.func5 (by kernel_rfl)
    (of_decide_eq_true (by kernel_rfl)) (by unfold Func.isWrapper; first | (rw [if_pos (by decide +kernel)]; kernel_rfl) | (rw [if_neg (by decide +kernel)]; exact ⟨rfl, rfl⟩))
    (fun os started H enc _ => back_lifted os started H enc)

end Go.Proofs.Ytfhonobaddkmhaa
