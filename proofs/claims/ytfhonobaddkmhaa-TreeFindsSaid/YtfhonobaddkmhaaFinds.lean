/- TreeFinds is proved: the places of a tree stand where they are found, and those that aren't there would stand between. Conditions: none. -/
import Derived.Test.YtfhonobaddkmhaaOpn
namespace Go.Proofs.Ytfhonobaddkmhaa
open Go.ChangeShapes Go.WideShapes Go.ChangeAt Go.RowKit Go.Deep Nam Cod Tre

theorem finds_no (A : Option Addr) (cap : Nat) (l : List Pl) (b : Int) (w : World) (hsz : ∀ p ∈ l, p.s.size ≤ 9223372036854775807) (hT : Tr w A l) (h : 100 < l.length ∨ (l.length ≤ 100 ∧ treeB l = false)) :
    Calls Try.prog 7 #[.slice A l.length cap, .int .i64 b] w fun e w' => e = .returned (.bool true) ∧ Below w.heap.size w w' := by
  rcases h with h | ⟨h, h2⟩
  · go_enter Try.func7, Try.ntmps7
    go_wp2_with (go_at_call 8; (with_reducible refine (awake_any _).mono ?_); rintro e w1 ⟨rfl, hb1⟩)
    go_ret
    exact ⟨rfl, hb1⟩
  · have C := right_any A cap l w (by omega) hsz hT
    rw [h2] at C
    go_enter Try.func7, Try.ntmps7
    go_wp2_with (first | (go_at_call 9; (with_reducible refine C.mono ?_); rintro e w1 ⟨rfl, hb1⟩) | (go_at_call 8; (with_reducible refine (awake_any _).mono ?_); rintro e w2 ⟨rfl, hb2⟩))
    go_ret
    exact ⟨rfl, below_then hb1 hb2⟩

theorem idx_behind {l : List Pl} {b : Int} (h : idx l b < l.length) (hn : Tre.get l b = none) : b < l[idx l b].n := by
  have h1 := idx_at l b h
  rcases Int.lt_or_eq_of_le h1 with h2 | h2
  · exact h2
  · rw [get_of h h2.symm] at hn; cases hn

set_option maxRecDepth 100000 in
set_option maxHeartbeats 4000000 in
theorem finds_walk (A : Option Addr) (cap : Nat) (l : List Pl) (b : Int) (w : World) (hl : l.length ≤ 100) (ht : treeB l = true) (hT : Tr w A l) :
    Calls Try.prog 7 #[.slice A l.length cap, .int .i64 b] w fun e w' => e = .returned (.bool true) ∧ Below w.heap.size w w' := by
  obtain ⟨hok, hs, _⟩ := treeB_facts ht
  have C := fun w (hT : Tr w A l) => right_any A cap l w (by omega) (fun p hp => by have := (okPl_fit (hok p hp)).1.s; omega) hT
  rw [ht] at C
  have HF := Lib.hid (fun w b (hT : Tr w A l) => find_any A cap l b w (by omega) hs hT)
  clear hok ht
  go_enter Try.func7, Try.ntmps7
  go_wp2_with fail
  refine (C _ hT).mono ?_
  rintro e w1 ⟨rfl, hB1⟩
  clear C
  go_wp2_with fail
  go_loopw [5] (fun x wr => ∃ k : Nat, k ≤ l.length ∧ x = .int .i64 k ∧ Below w.heap.size w wr) (fun x _ => l.length - (intOf x).toNat)
  case atStart => exact ⟨0, Nat.zero_le _, rfl, hB1⟩
  case round =>
    clear hB1
    obtain ⟨k, hk, rfl, hnx⟩ := hrel
    have hTr := hT.below hnx
    by_cases hlt : k < l.length
    · obtain ⟨bb, off, hAe, hbw, hc⟩ := hTr (by omega)
      have hat := hc k hlt
      have e1 := idx_self hs k hlt
      have e2 := get_self hs k hlt
      obtain ⟨p, hp⟩ : ∃ p, l[k] = p := ⟨_, rfl⟩
      rw [hp] at hat e1 e2
      obtain ⟨q0, q1, q2⟩ := hat
      have F := HF.out wr p.n hTr
      rw [e1, e2] at F
      have F : Calls Try.prog 11 #[.slice A l.length cap, .int .i64 p.n] wr fun e w' => e = .returned (.tuple #[.int .i64 k, .bool true]) ∧ Below wr.heap.size wr w' := F
      clear e1 e2 hc hp hT hTr HF
      subst hAe
      go_wp2_with (go_at_call 11; (with_reducible refine F.mono ?_); rintro e w2 ⟨rfl, hb2⟩)
      go_roundw
      case rel => exact ⟨k + 1, by omega, by go_num, below_then hnx hb2⟩
      case measure => simp [intOf]; omega
    · obtain rfl : k = l.length := by omega
      have F := HF.out wr b hTr
      clear HF
      have hix := idx_le l b
      cases hg : Tre.get l b with
      | some p =>
        obtain ⟨_, hpn, hx, hp⟩ := get_some hg
        rw [hg] at F
        have F : Calls Try.prog 11 #[.slice A l.length cap, .int .i64 b] wr fun e w' => e = .returned (.tuple #[.int .i64 (idx l b), .bool true]) ∧ Below wr.heap.size wr w' := F
        obtain ⟨bb, off, hAe, hbw, hc⟩ := hTr (by omega)
        have hat := hc _ hx
        rw [hp] at hat
        obtain ⟨q0, q1, q2⟩ := hat
        rw [hpn] at q0
        clear hc hp hg hpn hT hTr
        generalize idx l b = ix at *
        subst hAe
        have h1 : (ix : Int) < (l.length : Int) := by omega
        have h2 : (ix : Int) ≤ (l.length : Int) := by omega
        go_wp2_with fail
        refine F.mono ?_
        rintro e w2 ⟨rfl, hb2⟩
        have hB2 := below_then hnx hb2
        rw [← (bcell hb2).1 _ _ hbw] at q0
        have hbw := Nat.lt_of_lt_of_le hbw hb2.size
        clear hb2 hnx q1 q2 F
        go_wp2_with fail
        refine (awake_any _).mono ?_
        rintro e w3 ⟨rfl, hb3⟩
        have hB3 := below_then hB2 hb3
        rw [← (bcell hb3).1 _ _ hbw] at q0
        clear hb3 hB2
        go_wp2_with fail
        go_ret
        exact ⟨rfl, hB3⟩
      | none =>
        rw [hg] at F
        have F : Calls Try.prog 11 #[.slice A l.length cap, .int .i64 b] wr fun e w' => e = .returned (.tuple #[.int .i64 (idx l b), .bool false]) ∧ Below wr.heap.size wr w' := F
        have hbef := idx_before l b
        have hbeh := fun h => idx_behind (l := l) (b := b) h hg
        clear hg
        by_cases hx0 : idx l b = 0
        · by_cases hxl : idx l b < l.length
          · obtain ⟨bb, off, hAe, hbw, hc⟩ := hTr (by omega)
            have hat := hc _ hxl
            have hh := hbeh hxl
            obtain ⟨p, hp⟩ : ∃ p, l[idx l b] = p := ⟨_, rfl⟩
            rw [hp] at hat hh
            obtain ⟨q0, q1, q2⟩ := hat
            clear hc hp hbef hbeh hT hTr
            generalize idx l b = ix at *
            subst hx0
            have h1 : ¬ ((0 : Int) = (l.length : Int)) := by omega
            have h2 : ¬ (0 = l.length) := by omega
            have h3 : (0 : Int) < (l.length : Int) := by omega
            have h4 : ¬ l = [] := fun e => by subst e; simp at hxl
            have q0 : wr.cell? ⟨bb, off, none⟩ = some (.int .i64 p.n) := by simpa using q0
            clear q1 q2
            subst hAe
            go_wp2_with fail
            refine F.mono ?_
            rintro e w2 ⟨rfl, hb2⟩
            have hB2 := below_then hnx hb2
            rw [← (bcell hb2).1 _ _ hbw] at q0
            have hbw := Nat.lt_of_lt_of_le hbw hb2.size
            clear hb2 hnx F
            go_wp2_with fail
            refine (awake_any _).mono ?_
            rintro e w3 ⟨rfl, hb3⟩
            have hB3 := below_then hB2 hb3
            rw [← (bcell hb3).1 _ _ hbw] at q0
            clear hb3 hB2
            go_wp2_with fail
            go_ret
            exact ⟨rfl, hB3⟩
          · have hz : l = [] := List.eq_nil_of_length_eq_zero (by omega)
            clear hbef hbeh hxl hx0
            subst hz
            clear hT hTr
            have F : Calls Try.prog 11 #[.slice A 0 cap, .int .i64 b] wr fun e w' => e = .returned (.tuple #[.int .i64 0, .bool false]) ∧ Below wr.heap.size wr w' := F
            go_wp2_with fail
            refine F.mono ?_
            rintro e w2 ⟨rfl, hb2⟩
            have hB2 := below_then hnx hb2
            clear hb2 hnx F
            go_wp2_with fail
            refine (awake_any _).mono ?_
            rintro e w3 ⟨rfl, hb3⟩
            have hB3 := below_then hB2 hb3
            clear hb3 hB2
            go_wp2_with fail
            go_ret
            exact ⟨rfl, hB3⟩
        · by_cases hxl : idx l b < l.length
          · obtain ⟨bb, off, hAe, hbw, hc⟩ := hTr (by omega)
            have hat := hc _ hxl
            have hh := hbeh hxl
            obtain ⟨p, hp⟩ : ∃ p, l[idx l b] = p := ⟨_, rfl⟩
            rw [hp] at hat hh
            obtain ⟨q0, q1, q2⟩ := hat
            have hat2 := hc (idx l b - 1) (by omega)
            have hh2 := hbef (idx l b - 1) (by omega) (by omega)
            obtain ⟨r, hr⟩ : ∃ r, l[idx l b - 1]'(by omega) = r := ⟨_, rfl⟩
            rw [hr] at hat2 hh2
            obtain ⟨r0, r1, r2⟩ := hat2
            clear hc hp hr hbef hbeh hT hTr
            generalize idx l b = ix at *
            have h1 : ¬ ((ix : Int) = (l.length : Int)) := by omega
            have h2 : ¬ (ix = l.length) := by omega
            have h3 : ¬ ((ix : Int) = 0) := by omega
            have h4 : (ix : Int) ≤ (l.length : Int) := by omega
            have h5 : ((ix : Int) - 1).toNat = ix - 1 := by omega
            clear q1 q2 r1 r2
            subst hAe
            go_wp2_with fail
            refine F.mono ?_
            rintro e w2 ⟨rfl, hb2⟩
            have hB2 := below_then hnx hb2
            rw [← (bcell hb2).1 _ _ hbw] at q0
            rw [← (bcell hb2).1 _ _ hbw] at r0
            have hbw := Nat.lt_of_lt_of_le hbw hb2.size
            clear hb2 hnx F
            go_wp2_with fail
            refine (awake_any _).mono ?_
            rintro e w3 ⟨rfl, hb3⟩
            have hB3 := below_then hB2 hb3
            rw [← (bcell hb3).1 _ _ hbw] at q0
            rw [← (bcell hb3).1 _ _ hbw] at r0
            clear hb3 hB2
            go_wp2_with fail
            go_ret
            exact ⟨rfl, hB3⟩
          · have hxe : idx l b = l.length := by omega
            obtain ⟨bb, off, hAe, hbw, hc⟩ := hTr (by omega)
            have hat2 := hc (idx l b - 1) (by omega)
            have hh2 := hbef (idx l b - 1) (by omega) (by omega)
            obtain ⟨r, hr⟩ : ∃ r, l[idx l b - 1]'(by omega) = r := ⟨_, rfl⟩
            rw [hr] at hat2 hh2
            obtain ⟨r0, r1, r2⟩ := hat2
            clear hc hr hbef hbeh hT hTr
            generalize idx l b = ix at *
            subst hxe
            have h3 : ¬ ((l.length : Int) = 0) := by omega
            have h6 : ¬ l = [] := fun e => by subst e; simp at hx0
            have h5 : ((l.length : Int) - 1).toNat = l.length - 1 := by omega
            clear r1 r2 hxl hx0 hix
            subst hAe
            go_wp2_with fail
            refine F.mono ?_
            rintro e w2 ⟨rfl, hb2⟩
            have hB2 := below_then hnx hb2
            rw [← (bcell hb2).1 _ _ hbw] at r0
            have hbw := Nat.lt_of_lt_of_le hbw hb2.size
            clear hb2 hnx F
            go_wp2_with fail
            refine (awake_any _).mono ?_
            rintro e w3 ⟨rfl, hb3⟩
            have hB3 := below_then hB2 hb3
            rw [← (bcell hb3).1 _ _ hbw] at r0
            clear hb3 hB2
            go_wp2_with fail
            go_ret
            exact ⟨rfl, hB3⟩

set_option maxRecDepth 100000 in
theorem finds_lifted (os : Os) (started : os.Started) (H : Type) (enc : TypeId × Value → H) :
    ReturnsInHanded {} Try.checked os 7 .any (Rows.treeFindsSpec.pre6 enc Try.prog Try.f7 Rows.treeFindsRow.domain false) (Rows.treeFindsSpec.post enc Try.prog Try.f7 false true false false) := by
  refine returnsInHanded_of_change (C := Try.checked) own started (by kernel_rfl) Try.func7
    (ChangeSpec.witness6 (enc := enc) (C := Try.checked) false ⟨#[], #[.slice none 0 0, .int .i64 0], []⟩ 8 (by kernel_rfl) (by kernel_rfl) (by kernel_rfl) (by kernel_rfl)) ?_
  intro W base args ds gs before hval0 hW _ _
  have hval : ∀ (j : Nat) t v, Try.f7.params[j]? = some t → args[j]? = some v → Value.okWide Try.prog W .any base t v := hval0
  have hW' := hW
  obtain ⟨p, q, hA0, hV, rfl, _, _⟩ := hW
  have hA : DataW.TrodAll enc Try.prog W 0 (fun _ => true) true Try.f7.params.toList args.toList ds p := hA0
  rw [Try.params7] at hA hval
  obtain ⟨v0, v1, d0, d1, p0, p1, rfl, rfl, rfl, h0, h1⟩ := trodAll_two hA
  obtain ⟨A, cap, l, rfl, hT, _, _, hw⟩ := open_tree (hval 0 22 v0 rfl rfl) h0
  obtain ⟨b, rfl, _⟩ := open_i64 (hval 1 3 v1 rfl rfl) h1
  have hc : Calls Try.prog 7 #[.slice A l.length cap, .int .i64 b] W fun e w' => e = .returned (.bool true) ∧ Below W.heap.size W w' := by
    by_cases hbig : 100 < l.length
    · exact finds_no A cap l b W (long_le hw) hT (Or.inl hbig)
    · cases ht : treeB l
      · exact finds_no A cap l b W (long_le hw) hT (Or.inr ⟨by omega, ht⟩)
      · exact finds_walk A cap l b W (by omega) ht hT
  refine hc.mono fun e W' ⟨he, hb⟩ => ?_
  subst he
  exact ⟨_, rfl, Frm.law_post (by kernel_rfl) (by kernel_rfl) (by kernel_rfl) Try.underlying4 rfl rfl hW' hb⟩

theorem finds_holds : Rows.TreeFindsSaid :=
  OpenClaim.holds_of_wide 7 Try.f7 rfl rfl rfl rfl rfl rfl rfl ⟨rfl, rfl, rfl, rfl, rfl⟩ rfl rfl rfl rfl rfl (by kernel_rfl) Try.func7 (by kernel_rfl)
    (of_decide_eq_true (by kernel_rfl)) (by unfold Func.isWrapper; first | (rw [if_pos (by decide +kernel)]; kernel_rfl) | (rw [if_neg (by decide +kernel)]; exact ⟨rfl, rfl⟩))
    (fun os started H enc _ => finds_lifted os started H enc)

end Go.Proofs.Ytfhonobaddkmhaa
