/- NameBack is proved: a twin's shown name says its name and its number; no name is a twin's shown one; two twins of one name, or of two, show two names. Conditions: the library's tables read, when the call begins, as the program's own text lays them (the card ties that). -/
import Derived.Test.YtmomolmdkendiaaDoorOpn
import Derived.Deep.QuietTactic
namespace Go.Proofs.YtmomolmdkendiaaDoor
open Go.ChangeShapes Go.WideShapes Go.ChangeAt Go.RowKit Nam

theorem below_drew {W w : World} (h : Below W.heap.size W w) (n : Nat) : Below W.heap.size W (w.drewN n) := ⟨h.os, h.tape, h.output, h.size, h.block⟩

set_option maxHeartbeats 2000000 in
theorem back_no (s t : ByteArray) (a b : Nat) (w : World) (ha : a < 256) (hb : b < 256) (hs : s.size ≤ 9223372036854775807) (ht : t.size ≤ 9223372036854775807) (h : isName (L s) = false ∨ isName (L s) = true ∧ isName (L t) = false) :
    Calls Tryd.prog 4 #[.string s, .string t, .agg #[.int .u8 a, .int .u8 b]] w fun e w' => e = .returned (.bool true) ∧ Below w.heap.size w w' := by
  have r1 := fun w => right_any s w hs
  have r2 := fun w => right_any t w ht
  rcases h with h | ⟨h, h2⟩
  · rw [h] at r1
    have R1 := Lib.hid r1
    clear r1 r2 h
    go_enter Tryd.func4, Tryd.ntmps4
    go_wp2
    go_quiet (fail)
    go_wp2_with (first | (go_at_call 9; (with_reducible refine (R1.out _).mono ?_); rintro e w1 ⟨rfl, rfl⟩) | (go_at_call 6; (with_reducible refine (awake_any _).mono ?_); rintro e w1 ⟨rfl, rfl⟩))
    go_ret
    exact ⟨rfl, below_drew (below_alloc (Below.refl _ _) _) _⟩
  · rw [h] at r1
    rw [h2] at r2
    have R1 := Lib.hid r1
    have R2 := Lib.hid r2
    clear r1 r2 h h2
    go_enter Tryd.func4, Tryd.ntmps4
    go_wp2
    go_quiet (fail)
    go_wp2_with (first | (go_at_call 9; (with_reducible refine (R1.out _).mono ?_); rintro e w1 ⟨rfl, rfl⟩) | (go_at_call 9; (with_reducible refine (R2.out _).mono ?_); rintro e w1 ⟨rfl, rfl⟩) | (go_at_call 6; (with_reducible refine (awake_any _).mono ?_); rintro e w1 ⟨rfl, rfl⟩))
    go_ret
    exact ⟨rfl, below_drew (below_alloc (Below.refl _ _) _) _⟩

theorem ne_beq {a b : ByteArray} (h : ¬ a = b) : (a.toList == b.toList) = false := by simpa using ne_list h

set_option maxHeartbeats 4000000 in
theorem back_yes (s t : ByteArray) (a b : Nat) (w : World) (ha : a < 256) (hb : b < 256) (hs : isName (L s) = true) (ht : isName (L t) = true) :
    Calls Tryd.prog 4 #[.string s, .string t, .agg #[.int .u8 a, .int .u8 b]] w fun e w' => e = .returned (.bool true) ∧ Below w.heap.size w w' := by
  have zs : s.size ≤ 16 := by rw [← L_len]; exact (isName_len hs).2
  have zt : t.size ≤ 16 := by rw [← L_len]; exact (isName_len ht).2
  obtain ⟨n, hn⟩ : ∃ n : Nat, (a : Int) % 64 = (n : Int) := ⟨a % 64, by omega⟩
  obtain ⟨m, hm⟩ : ∃ m : Nat, (b : Int) % 64 = (m : Int) := ⟨b % 64, by omega⟩
  have hn2 : n < 64 := by omega
  have hm2 : m < 64 := by omega
  have r1 := fun w => right_any s w (by omega)
  have r2 := fun w => right_any t w (by omega)
  rw [hs] at r1
  rw [ht] at r2
  have t1 := fun w => twin_small s n w (by omega) (by omega)
  have t2 := fun w => twin_small t m w (by omega) (by omega)
  have zx := twin_size s n (by omega)
  have r3 := fun w => right_any (twinOf s n) w (by omega)
  rw [L_twin, twin_no_name] at r3
  have p1 := fun w => split_any (twinOf s n) w (by omega)
  obtain ⟨e1, e2, e3⟩ := sp_twin (s := twinOf s n) (t := s) (n := n) (by rw [L_twin]; exact says_twin hs hn2)
  rw [e1, e2, e3] at p1
  have p2 := fun w => split_any s w (by omega)
  obtain ⟨f1, f2, f3⟩ := sp_name (says_name hs)
  rw [f1, f2, f3] at p2
  have hinj : twinOf s n = twinOf t m → s = t ∧ n = m := fun e => by
    have h := twin_inj hs ht hn2 hm2 (by rw [← L_twin, ← L_twin, e])
    exact ⟨L_inj h.1, h.2⟩
  have R1 := Lib.hid r1
  have R2 := Lib.hid r2
  have R3 := Lib.hid r3
  have T1 := Lib.hid t1
  have T2 := Lib.hid t2
  have P1 := Lib.hid p1
  have P2 := Lib.hid p2
  clear r1 r2 r3 t1 t2 p1 p2 e1 e2 e3 f1 f2 f3 hs ht
  by_cases heq : s = t ∧ n = m
  · obtain ⟨rfl, rfl⟩ := heq
    generalize twinOf s n = X at *
    clear hinj
    go_enter Tryd.func4, Tryd.ntmps4
    go_wp2
    go_quiet (fail)
    go_wp2_with (first | (go_at_call 9; (with_reducible refine (R1.out _).mono ?_); rintro e w1 ⟨rfl, rfl⟩) | (go_at_call 9; (with_reducible refine (R3.out _).mono ?_); rintro e w1 ⟨rfl, rfl⟩) | (go_at_call 6; (with_reducible refine (awake_any _).mono ?_); rintro e w1 ⟨rfl, rfl⟩)
                       | (go_at_call 11; (with_reducible refine (T1.out _).mono ?_); rintro e w1 ⟨rfl, rfl⟩) | (go_at_call 7; (with_reducible refine (P1.out _).mono ?_); rintro e w1 ⟨rfl, rfl⟩) | (go_at_call 7; (with_reducible refine (P2.out _).mono ?_); rintro e w1 ⟨rfl, rfl⟩))
    go_ret
    exact ⟨rfl, below_drew (below_alloc (Below.refl _ _) _) _⟩
  · have hne : ¬ twinOf s n = twinOf t m := fun e => heq (hinj e)
    have hX := ne_beq hne
    have hX2 := ne_list hne
    by_cases hst : s = t
    · have hnm : ¬ n = m := fun e => heq ⟨hst, e⟩
      have hnb : ((n : Int) == (m : Int)) = false := by simp; omega
      subst hst
      generalize twinOf s n = X at *
      generalize twinOf s m = Y at *
      clear hinj heq hne hnm
      go_enter Tryd.func4, Tryd.ntmps4
      go_wp2
      go_quiet (fail)
      go_wp2_with (first | (go_at_call 9; (with_reducible refine (R1.out _).mono ?_); rintro e w1 ⟨rfl, rfl⟩) | (go_at_call 9; (with_reducible refine (R3.out _).mono ?_); rintro e w1 ⟨rfl, rfl⟩) | (go_at_call 6; (with_reducible refine (awake_any _).mono ?_); rintro e w1 ⟨rfl, rfl⟩)
                         | (go_at_call 11; (with_reducible refine (T1.out _).mono ?_); rintro e w1 ⟨rfl, rfl⟩) | (go_at_call 11; (with_reducible refine (T2.out _).mono ?_); rintro e w1 ⟨rfl, rfl⟩) | (go_at_call 7; (with_reducible refine (P1.out _).mono ?_); rintro e w1 ⟨rfl, rfl⟩) | (go_at_call 7; (with_reducible refine (P2.out _).mono ?_); rintro e w1 ⟨rfl, rfl⟩))
      go_ret
      exact ⟨rfl, below_drew (below_alloc (Below.refl _ _) _) _⟩
    · have hS := ne_beq hst
      have hS2 := ne_list hst
      generalize twinOf s n = X at *
      generalize twinOf t m = Y at *
      clear hinj heq hne hst
      go_enter Tryd.func4, Tryd.ntmps4
      go_wp2
      go_quiet (fail)
      go_wp2_with (first | (go_at_call 9; (with_reducible refine (R1.out _).mono ?_); rintro e w1 ⟨rfl, rfl⟩) | (go_at_call 9; (with_reducible refine (R2.out _).mono ?_); rintro e w1 ⟨rfl, rfl⟩) | (go_at_call 9; (with_reducible refine (R3.out _).mono ?_); rintro e w1 ⟨rfl, rfl⟩) | (go_at_call 6; (with_reducible refine (awake_any _).mono ?_); rintro e w1 ⟨rfl, rfl⟩)
                         | (go_at_call 11; (with_reducible refine (T1.out _).mono ?_); rintro e w1 ⟨rfl, rfl⟩) | (go_at_call 11; (with_reducible refine (T2.out _).mono ?_); rintro e w1 ⟨rfl, rfl⟩) | (go_at_call 7; (with_reducible refine (P1.out _).mono ?_); rintro e w1 ⟨rfl, rfl⟩) | (go_at_call 7; (with_reducible refine (P2.out _).mono ?_); rintro e w1 ⟨rfl, rfl⟩))
      go_ret
      exact ⟨rfl, below_drew (below_alloc (Below.refl _ _) _) _⟩

theorem c28 : Tryd.prog.cellsOf 28 = 2 := by kernel_rfl
theorem c5 : Tryd.prog.cellsOf 5 = 1 := by kernel_rfl

/-- Two bytes among the arguments. -/
theorem open_two {H : Type} {enc : TypeId × Value → H} {W : World} {base : Nat} {sp : Nat → Bool} {v : Value} {d : DataW H} {ps : List MemPlace}
    (hv : Value.okWide Tryd.prog W .any base 28 v) (h : DataW.Trod enc Tryd.prog W 0 sp true 28 v d ps) : ∃ a b : Nat, v = .agg #[.int .u8 a, .int .u8 b] ∧ a < 256 ∧ b < 256 := by
  obtain ⟨cs, rfl, hsz⟩ : ∃ cs : Array Value, v = .agg cs ∧ cs.size = 2 := by
    simp only [Value.okWide, Tryd.underlying28] at hv
    obtain ⟨cs, h1, h2, _⟩ := hv
    exact ⟨cs, h1, by rw [h2, c28]⟩
  obtain ⟨fuel, hf⟩ := h
  obtain ⟨xs, m, rfl, _, hlen, hn, hel⟩ := DataW.trod_array Tryd.underlying28 hf
  have hcs : (Value.agg cs).cells.toList = cs.toList := rfl
  rw [hcs] at hel
  have hone : ∀ i, i < 2 → ∃ a : Nat, cs[i]? = some (.int .u8 a) ∧ a < 256 := by
    intro i hi
    have h1 := hel i hi
    rw [c5, Nat.mul_one] at h1
    obtain ⟨x, hxk⟩ : ∃ x, xs[i]? = some x := ⟨_, List.getElem?_eq_getElem (by omega)⟩
    rw [hxk] at h1
    obtain ⟨n, e1, _, wf⟩ := DataW.trod_int Tryd.underlying5 h1
    have hb := bounds_u8 wf
    have h5 := congrArg (·[0]?) e1
    refine ⟨n.toNat, ?_, by omega⟩
    rw [Int.toNat_of_nonneg hb.1, ← Array.getElem?_toList]
    simpa using h5
  obtain ⟨a, ha, ha2⟩ := hone 0 (by decide)
  obtain ⟨b, hb, hb2⟩ := hone 1 (by decide)
  refine ⟨a, b, ?_, ha2, hb2⟩
  congr 1
  apply Array.ext_getElem?
  intro i
  match i with
  | 0 => rw [ha]; rfl
  | 1 => rw [hb]; rfl
  | i + 2 => rw [Array.getElem?_eq_none (by omega)]; simp

set_option maxRecDepth 100000 in
theorem back_lifted (os : Os) (started : os.Started) (H : Type) (enc : TypeId × Value → H) :
    ReturnsInHanded {} Tryd.checked os 4 .any (fun w args => (Rows.nameBackSpec.pre enc Tryd.prog Tryd.f4 [] false w args ∧ laidMetH Tryd.prog laid3 w) ∧ sizedMet enc Tryd.prog Tryd.f4 (OpenSpec.ofChange Rows.nameBackSpec) false w args)
      (Rows.nameBackSpec.post enc Tryd.prog Tryd.f4 false true false false) := by
  refine returnsInHanded_of_change_and (C := Tryd.checked) (X := fun w _ => laidMetH Tryd.prog laid3 w) (fun _ _ _ hh h => h.of_heap hh) own started (by kernel_rfl) Tryd.func4
    (ChangeSpec.witness_shaped (enc := enc) (C := Tryd.checked) (os := os) (X := fun w _ => laidMetH Tryd.prog laid3 w) false (World.doorLaid Tryd.prog 24 os) #[.string ⟨#[]⟩, .string ⟨#[]⟩, .agg #[.int .u8 0, .int .u8 0]] 8 rfl (World.shaped_of_RefB (by kernel_rfl) (by kernel_rfl)) (by kernel_rfl) (by kernel_rfl) (by kernel_rfl) (door_met os _)) ?_
  intro W base args ds gs before hval0 hW _ _ _ _
  have hval : ∀ (j : Nat) t v, Tryd.f4.params[j]? = some t → args[j]? = some v → Value.okWide Tryd.prog W .any base t v := hval0
  have hW' := hW
  obtain ⟨p, q, hA0, hV, rfl, _, _⟩ := hW
  have hA : DataW.TrodAll enc Tryd.prog W 0 (fun _ => true) true Tryd.f4.params.toList args.toList ds p := hA0
  rw [Tryd.params4] at hA hval
  obtain ⟨v0, v1, v2, d0, d1, d2, p0, p1, p2, rfl, rfl, rfl, h0, h1, h2⟩ := trodAll_three hA
  obtain ⟨s, rfl, hs⟩ := open_str (hval 0 9 v0 rfl rfl) h0
  obtain ⟨t, rfl, ht⟩ := open_str (hval 1 9 v1 rfl rfl) h1
  obtain ⟨a, b, rfl, ha, hb⟩ := open_two (hval 2 28 v2 rfl rfl) h2
  have hc : Calls Tryd.prog 4 #[.string s, .string t, .agg #[.int .u8 a, .int .u8 b]] W fun e w' => e = .returned (.bool true) ∧ Below W.heap.size W w' := by
    cases hx : isName (L s)
    · exact back_no s t a b W ha hb hs ht (Or.inl hx)
    · cases hy : isName (L t)
      · exact back_no s t a b W ha hb hs ht (Or.inr ⟨hx, hy⟩)
      · exact back_yes s t a b W ha hb hx hy
  refine hc.mono fun e W' ⟨he, hb⟩ => ?_
  subst he
  exact ⟨_, rfl, Frm.law_post (by kernel_rfl) (by kernel_rfl) (by kernel_rfl) Tryd.underlying4 rfl rfl hW' hb⟩

theorem back_said : Rows.NameBackSaid :=
  OpenClaim.holds_of_wide 4 Tryd.f4 rfl rfl rfl rfl rfl rfl rfl ⟨rfl, rfl, rfl, rfl, rfl⟩ rfl rfl rfl rfl rfl (by kernel_rfl) Tryd.func4 (by kernel_rfl)
    (of_decide_eq_true (by kernel_rfl)) (by unfold Func.isWrapper; first | (rw [if_pos (by decide +kernel)]; kernel_rfl) | (rw [if_neg (by decide +kernel)]; exact ⟨rfl, rfl⟩))
    (fun os started H enc _ => back_lifted os started H enc)

theorem back_holds : Rows.NameBackCardSaid :=
  Claim7.holds_tied_plain_at .later [] [.data, .data, .data] true (true, "d9f3fd7ae9b88eec18de69081673bbb2266332a1a52d55e09d46dbf90cd787fa") false
    back_said (fun _ h => by cases h) (by kernel_rfl) (fun _ h => by cases h) nameBack_row_tie rfl ⟨rfl, rfl⟩ (by kernel_rfl) rfl
    (fun f fn hf hfn => by
      obtain rfl : f = 4 := Option.some.inj ((show Tryd.prog.funcNamed "bargeman/bargemanlaw04.NameBack" = some 4 by kernel_rfl).symm.trans hf) |>.symm
      obtain rfl : fn = Tryd.f4 := (Option.some.inj (Tryd.func4.symm.trans hfn)).symm
      exact ⟨by kernel_rfl, fun j t ht => by
        rw [Tryd.params4] at ht
        have hm : t ∈ [9, 9, 28] := by simpa using Array.mem_of_getElem? ht
        have hall : ([9, 9, 28].all fun u => !Tryd.prog.wantsStandIn u) = true := by kernel_rfl
        exact (show Tryd.prog.wantsStandIn t = false by simpa using List.all_eq_true.1 hall t hm)⟩)
    (by kernel_rfl)

end Go.Proofs.YtmomolmdkendiaaDoor
