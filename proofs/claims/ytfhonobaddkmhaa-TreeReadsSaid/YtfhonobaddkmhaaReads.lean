/- TreeReads is proved: the tree that any bytes (2,000 at most) begin with, or that there is none, is the document's. Conditions: none. -/
import Derived.Test.YtfhonobaddkmhaaOpn
import Derived.Test.YtfhonobaddkmhaaTs
namespace Go.Proofs.Ytfhonobaddkmhaa
open Go.ChangeShapes Go.WideShapes Go.ChangeAt Go.RowKit Go.Deep Nam Cod Tre

theorem reads_long (s : ByteArray) (w : World) (h : 2000 < s.size) :
    Calls Try.prog 4 #[.string s] w fun e w' => e = .returned (.bool true) ∧ Below w.heap.size w w' := by
  go_enter Try.func4, Try.ntmps4
  go_wp2_with (go_at_call 8; (with_reducible refine (awake_any _).mono ?_); rintro e w1 ⟨rfl, hb1⟩)
  go_ret
  exact ⟨rfl, hb1⟩

set_option maxRecDepth 100000 in
set_option maxHeartbeats 4000000 in
theorem reads_walk (s : ByteArray) (w : World) (hs : s.size ≤ 2000) :
    Calls Try.prog 4 #[.string s] w fun e w' => e = .returned (.bool true) ∧ Below w.heap.size w w' := by
  have hs' : s.size ≤ 1000000 := by omega
  go_enter Try.func4, Try.ntmps4
  go_wp2_with fail
  have hR := Rd.new w 39 s 0 rfl
  have hB := below_alloc (Below.refl w.heap.size w) (.cells #[.string s, .int .i64 0, .bool false] 39)
  generalize w.alloc (.cells #[.string s, .int .i64 0, .bool false] 39) = W at *
  refine (treeRead_uni hs' (Nat.zero_le _) hR).mono ?_
  rintro e w1 ⟨A, cap, l, q, b1, rfl, hT1, hl, hR1, hq, hG, hst⟩
  have hB1 := below_by hB hG (Nat.le_refl _)
  clear hR hB hG
  go_wp2_with fail
  refine (parse_any s _ hs').mono ?_
  rintro e w2 ⟨A2, c2, l2, ok, rfl, hT2, hl2, hb2, hps⟩
  have hT1 := hT1.below hb2
  have hR2 := hR1.below hb2
  have hB2 := below_then hB1 hb2
  clear hR1 hb2 hB1
  go_wp2_with fail
  refine (awake_any _).mono ?_
  rintro e w3 ⟨rfl, hb3⟩
  have hT1 := hT1.below hb3
  have hT2 := hT2.below hb3
  have hR3 := hR2.below hb3
  have hB3 := below_then hB2 hb3
  clear hR2 hb3 hB2
  rcases hst with ⟨h1, rfl⟩ | ⟨h1, rfl, rfl⟩
  · by_cases hq1 : q = s.size
    · subst hq1
      rcases hps with ⟨rfl, h2⟩ | ⟨_, _, h2⟩
      · rw [h1] at h2
        cases h2
        have C := done_any hq hR3
        have hd : isDone s s.size false = true := by simp [isDone]
        rw [hd] at C
        clear h1 hd
        go_wp2_with fail
        refine C.mono ?_
        rintro e w4 ⟨rfl, n, rfl⟩
        have hT1 : Tr (w3.drewN n) A l := hT1
        have hT2 : Tr (w3.drewN n) A2 l := hT2
        have hR4 : Rd 39 (w3.drewN n) w.heap.size s s.size false := hR3
        have hB4 := below_drew hB3 n
        clear C hR3 hB3
        generalize w3.drewN n = V at *
        go_wp2_with fail
        refine (same_any A A2 cap c2 l V (by omega) hT1 hT2).mono ?_
        rintro e w5 ⟨rfl, hb5⟩
        have hR5 := hR4.below hb5
        have hB5 := below_then hB4 hb5
        clear hR4 hT1 hT2 hb5 hB4
        obtain ⟨r0, r1, r2⟩ := hR5.cells
        clear r0 r1 hR5
        go_wp2_with fail
        go_ret
        exact ⟨rfl, hB5⟩
      · exact absurd h1 (h2 _)
    · have hok : ok = false := by
        rcases hps with ⟨rfl, h2⟩ | ⟨h, _⟩
        · rw [h1] at h2; cases h2; exact absurd rfl hq1
        · exact h
      subst hok
      have C := done_any hq hR3
      have hd : isDone s q false = false := by simp [isDone, hq1]
      rw [hd] at C
      obtain ⟨r0, r1, r2⟩ := hR3.cells
      clear hd h1 hps hT1 hT2 r0 r1
      go_wp2_with (go_at_call 26; (with_reducible refine C.mono ?_); rintro e w4 ⟨rfl, n, rfl⟩)
      go_ret
      exact ⟨rfl, below_drew hB3 n⟩
  · have hok : ok = false := by
      rcases hps with ⟨rfl, h2⟩ | ⟨h, _⟩
      · rw [h1] at h2; cases h2
      · exact h
    subst hok
    have C := done_any hq hR3
    have hd : isDone s q true = false := rfl
    rw [hd] at C
    obtain ⟨r0, r1, r2⟩ := hR3.cells
    clear hd h1 hps hT1 hT2 r0 r1
    go_wp2_with (go_at_call 26; (with_reducible refine C.mono ?_); rintro e w4 ⟨rfl, n, rfl⟩)
    go_ret
    exact ⟨rfl, below_drew hB3 n⟩

set_option maxRecDepth 100000 in
theorem reads_lifted (os : Os) (started : os.Started) (H : Type) (enc : TypeId × Value → H) :
    ReturnsInHanded {} Try.checked os 4 .any (Rows.treeReadsSpec.pre6 enc Try.prog Try.f4 Rows.treeReadsRow.domain false) (Rows.treeReadsSpec.post enc Try.prog Try.f4 false true false false) := by
  refine returnsInHanded_of_change (C := Try.checked) own started (by kernel_rfl) Try.func4
    (ChangeSpec.witness6 (enc := enc) (C := Try.checked) false ⟨#[], #[.string ⟨#[]⟩], []⟩ 8 (by kernel_rfl) (by kernel_rfl) (by kernel_rfl) (by kernel_rfl)) ?_
  intro W base args ds gs before hval0 hW _ _
  have hval : ∀ (j : Nat) t v, Try.f4.params[j]? = some t → args[j]? = some v → Value.okWide Try.prog W .any base t v := hval0
  have hW' := hW
  obtain ⟨p, q, hA0, hV, rfl, _, _⟩ := hW
  have hA : DataW.TrodAll enc Try.prog W 0 (fun _ => true) true Try.f4.params.toList args.toList ds p := hA0
  rw [Try.params4] at hA hval
  obtain ⟨v0, d0, rfl, rfl, h0⟩ := trodAll_one hA
  obtain ⟨s, rfl, _⟩ := open_str (hval 0 9 v0 rfl rfl) h0
  have hc : Calls Try.prog 4 #[.string s] W fun e w' => e = .returned (.bool true) ∧ Below W.heap.size W w' := by
    by_cases hbig : 2000 < s.size
    · exact reads_long s W hbig
    · exact reads_walk s W (by omega)
  refine hc.mono fun e W' ⟨he, hb⟩ => ?_
  subst he
  exact ⟨_, rfl, Frm.law_post (by kernel_rfl) (by kernel_rfl) (by kernel_rfl) Try.underlying4 rfl rfl hW' hb⟩

theorem reads_holds : Rows.TreeReadsSaid :=
  OpenClaim.holds_of_wide 4 Try.f4 rfl rfl rfl rfl rfl rfl rfl ⟨rfl, rfl, rfl, rfl, rfl⟩ rfl rfl rfl rfl rfl (by kernel_rfl) Try.func4 (by kernel_rfl)
    (of_decide_eq_true (by kernel_rfl)) (by unfold Func.isWrapper; first | (rw [if_pos (by decide +kernel)]; kernel_rfl) | (rw [if_neg (by decide +kernel)]; exact ⟨rfl, rfl⟩))
    (fun os started H enc _ => reads_lifted os started H enc)

end Go.Proofs.Ytfhonobaddkmhaa
