/- TreeAbove is proved: who is above one that is above a third is above that; only one of two can be above the other; each is above itself. Conditions: none. -/
import Derived.Test.YtfhonobaddkmhaaOpn
namespace Go.Proofs.Ytfhonobaddkmhaa
open Go.ChangeShapes Go.WideShapes Go.ChangeAt Go.RowKit Go.Deep Nam Cod Tre

theorem above_no (A : Option Addr) (cap : Nat) (l : List Pl) (x y z : Nat) (w : World) (hsz : ∀ p ∈ l, p.s.size ≤ 9223372036854775807) (hT : Tr w A l) (h : 100 < l.length ∨ (l.length ≤ 100 ∧ treeB l = false)) :
    Calls Try.prog 6 #[.slice A l.length cap, .agg #[.int .u8 x, .int .u8 y, .int .u8 z]] w fun e w' => e = .returned (.bool true) ∧ Below w.heap.size w w' := by
  rcases h with h | ⟨h, h2⟩
  · go_enter Try.func6, Try.ntmps6
    go_wp2_with (go_at_call 8; (with_reducible refine (awake_any _).mono ?_); rintro e w1 ⟨rfl, hb1⟩)
    go_ret
    exact ⟨rfl, below_then (below_alloc (Below.refl _ _) _) hb1⟩
  · have C := fun w (hT : Tr w A l) => right_any A cap l w (by omega) hsz hT
    rw [h2] at C
    have hT1 := fun o => hT.below (below_alloc (Below.refl _ _) o)
    go_enter Try.func6, Try.ntmps6
    go_wp2_with (first | (go_at_call 9; (with_reducible refine (C _ (hT1 _)).mono ?_); rintro e w1 ⟨rfl, hb1⟩) | (go_at_call 8; (with_reducible refine (awake_any _).mono ?_); rintro e w2 ⟨rfl, hb2⟩))
    go_ret
    exact ⟨rfl, below_then (below_then (below_alloc (Below.refl _ _) _) hb1) hb2⟩

theorem three_ways {l : List Pl} (hr : NoRing l) {a b c : Int} {P : Prop}
    (h1 : ¬ a = b → above l a b = false → P) (h2 : a = b → above l b c = false → P) (h3 : a = b → above l b c = true → above l a c = true → P)
    (h4 : ¬ a = b → above l a b = true → above l b a = false → above l b c = false → P) (h5 : ¬ a = b → above l a b = true → above l b a = false → above l b c = true → above l a c = true → P) : P := by
  by_cases e : a = b
  · subst e
    cases hb : above l a c
    · exact h2 rfl hb
    · exact h3 rfl hb hb
  · cases hab : above l a b
    · exact h1 e hab
    · have hba : above l b a = false := by
        rcases hba : above l b a with _ | _
        · rfl
        · exact absurd (above_anti hr hab hba) e
      cases hbc : above l b c
      · exact h4 e hab hba hbc
      · exact h5 e hab hba hbc (above_trans hr hab hbc)

set_option maxRecDepth 100000 in
set_option maxHeartbeats 4000000 in
theorem above_walk (A : Option Addr) (cap : Nat) (l : List Pl) (x y z : Nat) (w : World) (hl : l.length ≤ 100) (ht : treeB l = true) (hx : x < 256) (hy : y < 256) (hz : z < 256) (hT : Tr w A l) :
    Calls Try.prog 6 #[.slice A l.length cap, .agg #[.int .u8 x, .int .u8 y, .int .u8 z]] w fun e w' => e = .returned (.bool true) ∧ Below w.heap.size w w' := by
  obtain ⟨hok, hs, hr⟩ := treeB_facts ht
  have C := fun w (hT : Tr w A l) => right_any A cap l w (by omega) (fun p hp => by have := (okPl_fit (hok p hp)).1.s; omega) hT
  rw [ht] at C
  have HU := Lib.hid (fun w a b (hT : Tr w A l) => above_any A cap l a b w (by omega) hs hT)
  clear hok hs ht
  go_enter Try.func6, Try.ntmps6
  go_wp2_with fail
  have hB := below_alloc (Below.refl _ w) (.cells #[.int .u8 x, .int .u8 y, .int .u8 z] 45)
  have hT := hT.below hB
  have g0 : (w.alloc (.cells #[.int .u8 x, .int .u8 y, .int .u8 z] 45)).cell? ⟨w.heap.size, 0, none⟩ = some (.int .u8 x) := Lib.cell_of_heap (heap_alloc_new w _) 0
  have g1 : (w.alloc (.cells #[.int .u8 x, .int .u8 y, .int .u8 z] 45)).cell? ⟨w.heap.size, 1, none⟩ = some (.int .u8 y) := Lib.cell_of_heap (heap_alloc_new w _) 1
  have g2 : (w.alloc (.cells #[.int .u8 x, .int .u8 y, .int .u8 z] 45)).cell? ⟨w.heap.size, 2, none⟩ = some (.int .u8 z) := Lib.cell_of_heap (heap_alloc_new w _) 2
  have hlt : w.heap.size < (w.alloc (.cells #[.int .u8 x, .int .u8 y, .int .u8 z] 45)).heap.size := by simp
  generalize w.alloc (.cells #[.int .u8 x, .int .u8 y, .int .u8 z] 45) = W at *
  refine (C _ hT).mono ?_
  rintro e w1 ⟨rfl, hb1⟩
  have hT := hT.below hb1
  have hB := below_then hB hb1
  rw [← (bcell hb1).1 _ _ hlt] at g0 g1 g2
  clear C hb1
  go_wp2_with fail
  go_quiet (fail)
  have hT : Tr (w1.drewN nq) A l := hT
  have hB := below_drew hB nq
  clear g0 g1 g2 hlt hx hy hz
  generalize w1.drewN nq = V at *
  generalize (x : Int) % 64 = a at *
  generalize (y : Int) % 64 = b at *
  generalize (z : Int) % 64 = c at *
  refine three_ways hr (a := a) (b := b) (c := c) ?_ ?_ ?_ ?_ ?_
  · intro e e1
    have e2 := above_self l a
    clear hr
    go_wp2_with (first | (go_at_call 20; (with_reducible refine (HU.out _ _ _ hT).mono ?_); rintro e w3 ⟨rfl, hb3⟩; have hT := hT.below hb3; have hB := below_then hB hb3) | (go_at_call 8; (with_reducible refine (awake_any _).mono ?_); rintro e w3 ⟨rfl, hb3⟩; have hT := hT.below hb3; have hB := below_then hB hb3))
    go_ret
    exact ⟨rfl, hB⟩
  · rintro rfl e2
    have e1 := above_self l a
    clear hr
    go_wp2_with (first | (go_at_call 20; (with_reducible refine (HU.out _ _ _ hT).mono ?_); rintro e w3 ⟨rfl, hb3⟩; have hT := hT.below hb3; have hB := below_then hB hb3) | (go_at_call 8; (with_reducible refine (awake_any _).mono ?_); rintro e w3 ⟨rfl, hb3⟩; have hT := hT.below hb3; have hB := below_then hB hb3))
    go_ret
    exact ⟨rfl, hB⟩
  · rintro rfl e2 e3
    have e1 := above_self l a
    clear hr
    go_wp2_with (first | (go_at_call 20; (with_reducible refine (HU.out _ _ _ hT).mono ?_); rintro e w3 ⟨rfl, hb3⟩; have hT := hT.below hb3; have hB := below_then hB hb3) | (go_at_call 8; (with_reducible refine (awake_any _).mono ?_); rintro e w3 ⟨rfl, hb3⟩; have hT := hT.below hb3; have hB := below_then hB hb3))
    go_ret
    exact ⟨rfl, hB⟩
  · intro e e1 e2 e3
    have e4 := above_self l a
    clear hr
    go_wp2_with (first | (go_at_call 20; (with_reducible refine (HU.out _ _ _ hT).mono ?_); rintro e w3 ⟨rfl, hb3⟩; have hT := hT.below hb3; have hB := below_then hB hb3) | (go_at_call 8; (with_reducible refine (awake_any _).mono ?_); rintro e w3 ⟨rfl, hb3⟩; have hT := hT.below hb3; have hB := below_then hB hb3))
    go_ret
    exact ⟨rfl, hB⟩
  · intro e e1 e2 e3 e5
    have e4 := above_self l a
    clear hr
    go_wp2_with (first | (go_at_call 20; (with_reducible refine (HU.out _ _ _ hT).mono ?_); rintro e w3 ⟨rfl, hb3⟩; have hT := hT.below hb3; have hB := below_then hB hb3) | (go_at_call 8; (with_reducible refine (awake_any _).mono ?_); rintro e w3 ⟨rfl, hb3⟩; have hT := hT.below hb3; have hB := below_then hB hb3))
    go_ret
    exact ⟨rfl, hB⟩

set_option maxRecDepth 100000 in
theorem above_lifted (os : Os) (started : os.Started) (H : Type) (enc : TypeId × Value → H) :
    ReturnsInHanded {} Try.checked os 6 .any (Rows.treeAboveSpec.pre6 enc Try.prog Try.f6 Rows.treeAboveRow.domain false) (Rows.treeAboveSpec.post enc Try.prog Try.f6 false true false false) := by
  refine returnsInHanded_of_change (C := Try.checked) own started (by kernel_rfl) Try.func6
    (ChangeSpec.witness6 (enc := enc) (C := Try.checked) false ⟨#[], #[.slice none 0 0, .agg #[.int .u8 0, .int .u8 0, .int .u8 0]], []⟩ 8 (by kernel_rfl) (by kernel_rfl) (by kernel_rfl) (by kernel_rfl)) ?_
  intro W base args ds gs before hval0 hW _ _
  have hval : ∀ (j : Nat) t v, Try.f6.params[j]? = some t → args[j]? = some v → Value.okWide Try.prog W .any base t v := hval0
  have hW' := hW
  obtain ⟨p, q, hA0, hV, rfl, _, _⟩ := hW
  have hA : DataW.TrodAll enc Try.prog W 0 (fun _ => true) true Try.f6.params.toList args.toList ds p := hA0
  rw [Try.params6] at hA hval
  obtain ⟨v0, v1, d0, d1, p0, p1, rfl, rfl, rfl, h0, h1⟩ := trodAll_two hA
  obtain ⟨A, cap, l, rfl, hT, _, _, hw⟩ := open_tree (hval 0 22 v0 rfl rfl) h0
  obtain ⟨x, y, z, rfl, hx, hy, hz⟩ := open_three (hval 1 45 v1 rfl rfl) h1
  have hc : Calls Try.prog 6 #[.slice A l.length cap, .agg #[.int .u8 x, .int .u8 y, .int .u8 z]] W fun e w' => e = .returned (.bool true) ∧ Below W.heap.size W w' := by
    by_cases hbig : 100 < l.length
    · exact above_no A cap l x y z W (long_le hw) hT (Or.inl hbig)
    · cases ht : treeB l
      · exact above_no A cap l x y z W (long_le hw) hT (Or.inr ⟨by omega, ht⟩)
      · exact above_walk A cap l x y z W (by omega) ht hx hy hz hT
  refine hc.mono fun e W' ⟨he, hb⟩ => ?_
  subst he
  exact ⟨_, rfl, Frm.law_post (by kernel_rfl) (by kernel_rfl) (by kernel_rfl) Try.underlying4 rfl rfl hW' hb⟩

theorem above_holds : Rows.TreeAboveSaid :=
  OpenClaim.holds_of_wide 6 Try.f6 rfl rfl rfl rfl rfl rfl rfl ⟨rfl, rfl, rfl, rfl, rfl⟩ rfl rfl rfl rfl rfl (by kernel_rfl) Try.func6 (by kernel_rfl)
    (of_decide_eq_true (by kernel_rfl)) (by unfold Func.isWrapper; first | (rw [if_pos (by decide +kernel)]; kernel_rfl) | (rw [if_neg (by decide +kernel)]; exact ⟨rfl, rfl⟩))
    (fun os started H enc _ => above_lifted os started H enc)

end Go.Proofs.Ytfhonobaddkmhaa
