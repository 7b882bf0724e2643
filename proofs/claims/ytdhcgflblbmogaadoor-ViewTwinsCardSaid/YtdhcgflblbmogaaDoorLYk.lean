/- ViewTwins is proved: no two nodes below one are shown by one name; the least of those that have a name is shown by it, the others by twins of it. Conditions: the library's tables read, when the call begins, as the program's own text lays them (the card ties that; no table is read below). -/
import Derived.Test.YtdhcgflblbmogaaDoorB04
import Derived.Lib.QuietBelow
namespace Go.Proofs.YtdhcgflblbmogaaDoor
open Go.ChangeShapes Go.WideShapes Go.ChangeAt Go.RowKit Go.Deep Nam Cod Tre

theorem twins_no (A : Option Addr) (c : Nat) (t : List Pl) (w : World) (hsz : ∀ p ∈ t, p.s.size ≤ 9223372036854775807) (hT : plE.Sl w A t) (h : 100 < t.length ∨ (t.length ≤ 100 ∧ treeB t = false)) :
    Calls Tryd.prog 4 #[.slice A t.length c] w fun e w' => e = .returned (.bool true) ∧ Below w.heap.size w w' := by
  rcases h with h | ⟨h, h2⟩
  · go_enter Tryd.func4, Tryd.ntmps4
    go_wp2_with fail
    refine (awake9_any _).mono ?_
    rintro e w1 ⟨rfl, hb1⟩
    go_wp2_with fail
    go_ret
    exact ⟨rfl, hb1⟩
  · have C := refRight_any A c t w (by omega) hsz (plSl.1 hT)
    rw [h2] at C
    go_enter Tryd.func4, Tryd.ntmps4
    go_wp2_with fail
    refine C.mono ?_
    rintro e w1 ⟨rfl, hb1⟩
    go_wp2_with fail
    refine (awake9_any _).mono ?_
    rintro e w2 ⟨rfl, hb2⟩
    go_wp2_with fail
    go_ret
    exact ⟨rfl, below_then hb1 hb2⟩

set_option maxRecDepth 100000 in
set_option maxHeartbeats 4000000 in
theorem twins_walk (A : Option Addr) (c : Nat) (t : List Pl) (w : World) (hl : t.length ≤ 100) (ht : treeB t = true) (hT : plE.Sl w A t) :
    Calls Tryd.prog 4 #[.slice A t.length c] w fun e w' => e = .returned (.bool true) ∧ Below w.heap.size w w' := by
  have hp := treeP ht
  have hsz : ∀ p ∈ t, p.s.size ≤ 9223372036854775807 := fun p hq => by have := (tree_fit ht p hq).s; omega
  have CR := refRight_any A c t w (by omega) hsz (plSl.1 hT)
  rw [ht] at CR
  have CS := fun (wx : World) (hb : Below w.heap.size w wx) => pShow_any A c t wx hl hsz (hT.below hb)
  have hv : showV t = showL t := by unfold showV; rw [ht]; rfl
  rw [hv] at CS
  have hlen : (showL t).length ≤ 100 := Nat.le_trans (hp.below_len _ _) hl
  have hel : ∀ i (h : i < (showL t).length), ∃ p ∈ t, (showL t)[i] = seen t p := fun i h => by
    obtain ⟨p, h1, h2, _⟩ := (hp.mem _).1 (List.getElem_mem h)
    exact ⟨p, h1, h2⟩
  have hnd : ((showL t).map Pl.n).Nodup := hp.nodup 0
  generalize showL t = l at *
  have HCR := Lib.hid CR
  have HCS := Lib.hid CS
  have HT := Lib.hid hT
  have HEL := Lib.hid hel
  have HND := Lib.hid hnd
  have HP := Lib.hid hp
  clear CR CS hv hsz hT hel hnd hp ht
  go_enter Tryd.func4, Tryd.ntmps4
  go_wp2_with fail
  refine HCR.out.mono ?_
  rintro e w1 ⟨rfl, hB⟩
  go_wp2_with fail
  refine (HCS.out w1 hB).mono ?_
  rintro e w2 ⟨A1, c1, rfl, hS1, hb2⟩
  replace hB := hB.trans (hb2.mono hB.size)
  have hS := hS1.1
  clear hS1 hb2 HCR HCS
  go_wp2_with fail
  go_loopw [4] (fun y wr => ∃ i : Nat, i ≤ l.length ∧ y = .int .i64 i ∧ Below w.heap.size w wr ∧ seE.Sl wr A1 l) (fun y _ => l.length - (intOf y).toNat)
  case atStart => exact ⟨0, Nat.zero_le _, rfl, hB, hS⟩
  case round =>
    clear hB hS
    obtain ⟨i, hi, rfl, hB, hS⟩ := hrel
    by_cases hil : i < l.length
    · obtain ⟨p, hpt, hpe⟩ := HEL.out i hil
      obtain ⟨b, off, hA1, hbw, hc⟩ := hS (by omega)
      have hat : seE.At _ b (off + i * 3) l[i] := hc i hil
      rw [hpe] at hat
      have a0 : wr.cell? ⟨b, off + i * 3, none⟩ = some (.int .i64 p.n) := (seAt3 hat).1
      have HPE := Lib.hid hpe
      have HPT := Lib.hid hpt
      have hget : Tre.get t p.n = some p := (get_iff HP.out.s).2 ⟨hpt, rfl⟩
      obtain ⟨n1, n2, _, _, n5⟩ := HP.out.node hpt
      have hps := isName_len n5
      rw [L_len] at hps
      have CG := fun (wx : World) (hb : Below w.heap.size w wx) => refGet_any A c t p.n wx (by omega) (plSl.1 (HT.out.below hb)) p true (by rw [hget]; rfl) (by rw [hget]; rfl)
      have HCG := Lib.hid CG
      have HS := Lib.hid hS
      clear CG hget hpe hpt hat hc n5
      subst hA1
      go_wp2_with fail
      refine (HCG.out wr hB).mono ?_
      rintro e w3 ⟨rfl, hb3⟩
      have hB3 := hB.trans (hb3.mono hB.size)
      have hS3 := HS.out.below hb3
      clear hB hb3 HS HCG a0 hS
      have hz0 : plE.In (w3.alloc (.cells #[.int .i64 0, .int .i64 0, .string ⟨#[]⟩] 33)) w3.heap.size zero := El.In.new (E := plE) w3 zero #[.int .i64 0, .int .i64 0, .string ⟨#[]⟩] rfl
      have hP0 := hz0.set p #[.int .i64 p.n, .int .i64 p.u, .string p.s] rfl
      have hbz : Below w3.heap.size w3 ((w3.alloc (.cells #[.int .i64 0, .int .i64 0, .string ⟨#[]⟩] 33)).setRow w3.heap.size #[.int .i64 p.n, .int .i64 p.u, .string p.s]) := below_setRow (below_alloc (Below.refl _ _) _) (Nat.le_refl _) _
      go_wp2_with (first | (refine El.store plRow rfl _ _ rfl w3.heap.size p #[.int .i64 p.n, .int .i64 p.u, .string p.s] rfl rfl rfl zero hz0 ?_) | fail)
      replace hB3 := hB3.trans (hbz.mono hB3.size)
      replace hS3 := hS3.below hbz
      clear hbz hz0
      generalize (w3.alloc (.cells #[.int .i64 0, .int .i64 0, .string ⟨#[]⟩] 33)).setRow w3.heap.size #[.int .i64 p.n, .int .i64 p.u, .string p.s] = W3 at *
      generalize w3.heap.size = n5 at *
      go_loopw [7, 8] (fun f y wr => ∃ (k : Nat) (lb : Bool), k ≤ t.length ∧ f = .bool lb ∧ y = .int .i64 k ∧ (lb = true ↔ ∀ j (h : j < t.length), j < k → ¬ (t[j].u = p.u ∧ t[j].s = p.s ∧ t[j].n < p.n)) ∧ plE.In wr n5 p ∧ Below w.heap.size w wr ∧ seE.Sl wr (some ⟨b, off, none⟩) l) (fun _ y _ => t.length - (intOf y).toNat)
      case atStart => exact ⟨0, true, Nat.zero_le _, rfl, rfl, ⟨fun _ j _ h => by omega, fun _ => rfl⟩, hP0, hB3, hS3⟩
      case round =>
        clear hP0 hB3 hS3
        obtain ⟨k, lb, hk, rfl, rfl, hlb, hP0, hB3, hS3⟩ := hrel
        by_cases hkl : k < t.length
        · obtain ⟨b2, off2, hA2, hbw2, hc2⟩ := HT.out (by omega)
          have hat2 : plE.At _ b2 (off2 + k * 3) t[k] := (hc2 k hkl).below hB3 hbw2
          have hnx : ∀ lb2 : Bool, (lb2 = true ↔ (lb = true ∧ ¬ (t[k].u = p.u ∧ t[k].s = p.s ∧ t[k].n < p.n))) → (lb2 = true ↔ ∀ j (h : j < t.length), j < k + 1 → ¬ (t[j].u = p.u ∧ t[j].s = p.s ∧ t[j].n < p.n)) := fun lb2 h2 => by
            rw [h2, hlb]
            constructor
            · rintro ⟨g1, g2⟩ j hj hjk
              by_cases e : j = k
              · subst e; exact g2
              · exact g1 j hj (by omega)
            · intro g
              exact ⟨fun j hj hjk => g j hj (by omega), g k hkl (by omega)⟩
          obtain ⟨q, hq⟩ : ∃ q, t[k] = q := ⟨_, rfl⟩
          rw [hq] at hat2 hnx
          have HNX := Lib.hid hnx
          have HQ := Lib.hid hq
          clear hc2 hq hnx hlb
          subst hA2
          obtain ⟨a0, a1, a2⟩ := plAt3 hat2
          obtain ⟨p0, p1, p2⟩ := plIn3 hP0
          clear hat2
          by_cases e1 : q.u = p.u
          · have hd1 : (q.u == p.u) = true := by rw [e1]; exact beq_self_eq_true _
            by_cases e2 : q.s = p.s
            · have hs1 : (q.s.toList == p.s.toList) = true := by rw [e2]; exact beq_self_eq_true _
              by_cases e3 : q.n < p.n
              · have HH := Lib.hid (HNX.out false ⟨fun h => (by cases h), fun h => absurd ⟨e1, e2, e3⟩ h.2⟩)
                rw [e1] at a1
                rw [e2] at a2
                clear e1 e2 hs1 hd1
                go_wp2_with fail
                go_quiet (fail)
                go_wp2_with fail
                have hdq := below_drew (Below.refl wr.heap.size wr) nq
                exact ⟨⟨k + 1, false, by omega, rfl, by go_num, HH.out, hP0.below hdq, below_drew hB3 nq, hS3.below hdq⟩, by simp [intOf]; omega⟩
              · have HH := Lib.hid (HNX.out lb ⟨fun h => ⟨h, fun g => e3 g.2.2⟩, fun h => h.1⟩)
                rw [e1] at a1
                rw [e2] at a2
                clear e1 e2 hs1 hd1
                go_wp2_with fail
                go_quiet (fail)
                go_wp2_with fail
                have hdq := below_drew (Below.refl wr.heap.size wr) nq
                exact ⟨⟨k + 1, lb, by omega, rfl, by go_num, HH.out, hP0.below hdq, below_drew hB3 nq, hS3.below hdq⟩, by simp [intOf]; omega⟩
            · have HH := Lib.hid (HNX.out lb ⟨fun h => ⟨h, fun g => e2 g.2.1⟩, fun h => h.1⟩)
              have hs1 := ne_beq e2
              have hs2 := ne_list e2
              rw [e1] at a1
              clear e1 hd1
              go_wp2_with fail
              go_quiet (fail)
              go_wp2_with fail
              have hdq := below_drew (Below.refl wr.heap.size wr) nq
              exact ⟨⟨k + 1, lb, by omega, rfl, by go_num, HH.out, hP0.below hdq, below_drew hB3 nq, hS3.below hdq⟩, by simp [intOf]; omega⟩
          · have HH := Lib.hid (HNX.out lb ⟨fun h => ⟨h, fun g => e1 g.1⟩, fun h => h.1⟩)
            have hd1 : (q.u == p.u) = false := beq_eq_false_iff_ne.2 e1
            go_wp2_with fail
            go_quiet (fail)
            go_wp2_with fail
            have hdq := below_drew (Below.refl wr.heap.size wr) nq
            exact ⟨⟨k + 1, lb, by omega, rfl, by go_num, HH.out, hP0.below hdq, below_drew hB3 nq, hS3.below hdq⟩, by simp [intOf]; omega⟩
        · have hfb : lb = firstB t p := by
            rw [Bool.eq_iff_iff, hlb, firstB_iff]
            constructor
            · intro g q hq
              obtain ⟨j, hj, rfl⟩ := List.getElem_of_mem hq
              exact g j hj (by omega)
            · intro g j hj _
              exact g _ (List.getElem_mem hj)
          have HFB := Lib.hid hfb
          clear hlb hfb
          go_wp2_with fail
          go_loopw [9] (fun y wr => ∃ k : Nat, k ≤ i ∧ y = .int .i64 k ∧ plE.In wr n5 p ∧ Below w.heap.size w wr ∧ seE.Sl wr (some ⟨b, off, none⟩) l) (fun y _ => i - (intOf y).toNat)
          case atStart => exact ⟨0, Nat.zero_le _, rfl, hP0, hB3, hS3⟩
          case round =>
            clear hP0 hB3 hS3
            obtain ⟨k, hk, rfl, hP0, hB3, hS3⟩ := hrel
            obtain ⟨b', off', hbb, hbw3, hc3⟩ := hS3 (by omega)
            cases hbb
            have hati : seE.At wr b (off + i * 3) l[i] := hc3 i hil
            rw [HPE.out] at hati
            obtain ⟨i0, i1, i2⟩ := seAt3 hati
            replace i0 : wr.cell? ⟨b, off + i * 3, none⟩ = some (.int .i64 p.n) := i0
            replace i1 : wr.cell? ⟨b, off + i * 3 + 1, none⟩ = some (.int .i64 p.u) := i1
            replace i2 : wr.cell? ⟨b, off + i * 3 + 2, none⟩ = some (.string (nameOf t p)) := i2
            by_cases hki : k < i
            · obtain ⟨q, hqt, hqe⟩ := HEL.out k (by omega)
              have hatk : seE.At wr b (off + k * 3) l[k] := hc3 k (by omega)
              rw [hqe] at hatk
              obtain ⟨k0, k1, k2⟩ := seAt3 hatk
              replace k1 : wr.cell? ⟨b, off + k * 3 + 1, none⟩ = some (.int .i64 q.u) := k1
              replace k2 : wr.cell? ⟨b, off + k * 3 + 2, none⟩ = some (.string (nameOf t q)) := k2
              have hkl : k < l.length := by omega
              have hnm : q.u = p.u → ¬ nameOf t q = nameOf t p := fun hu hn => by
                have h1 := HP.out.names hqt HPT.out hu hn
                have h2 := nodup_at HND.out hki hil
                rw [HPE.out, hqe, h1] at h2
                exact h2 rfl
              clear hc3 hati hatk k0 hqe hqt i0
              generalize nameOf t q = NQ at *
              generalize nameOf t p = NP at *
              by_cases e1 : q.u = p.u
              · have h2 := hnm e1
                have hs1 := ne_beq h2
                have hs2 := ne_list h2
                rw [e1] at k1
                clear hnm e1
                go_wp2_with fail
                go_quiet (fail)
                go_wp2_with fail
                have hdq := below_drew (Below.refl wr.heap.size wr) nq
                exact ⟨⟨k + 1, by omega, by go_num, hP0.below hdq, below_drew hB3 nq, hS3.below hdq⟩, by simp [intOf]; omega⟩
              · have hd1 : (q.u == p.u) = false := beq_eq_false_iff_ne.2 e1
                clear hnm
                go_wp2_with fail
                go_quiet (fail)
                go_wp2_with fail
                have hdq := below_drew (Below.refl wr.heap.size wr) nq
                exact ⟨⟨k + 1, by omega, by go_num, hP0.below hdq, below_drew hB3 nq, hS3.below hdq⟩, by simp [intOf]; omega⟩
            · obtain rfl : k = i := by omega
              obtain ⟨p0, p1, p2⟩ := plIn3 hP0
              clear hc3 hati
              have hf := HFB.out
              cases lb
              · have hnm : nameOf t p = twinOf p.s p.n.toNat := by unfold nameOf; rw [← hf]; rfl
                rw [hnm] at i2
                have HTW := Lib.hid (fun wx => (by
                  have h := refTwin_any p.s p.n.toNat wx (by omega) (by omega)
                  rw [Int.toNat_of_nonneg (by omega)] at h
                  exact h : Calls Tryd.prog 19 #[.string p.s, .int .i64 p.n] wx fun e w' => e = .returned (.string (twinOf p.s p.n.toNat)) ∧ Below wx.heap.size wx w'))
                clear hf hnm
                generalize twinOf p.s p.n.toNat = N at *
                have d1 : ∀ d os, Calls Tryd.prog 19 #[.string p.s, .int .i64 p.n] (Sort.grow (redrawn wr d) os) fun e w'' => e = .returned (.string N) ∧ ∃ p : Regrown, w'' = Sort.grow (redrawn wr p.d) p.os := fun d os => Calls.regrown_of (HTW.out _)
                have j0 := cell_regrown i0
                have j1 := cell_regrown i1
                have j2 := cell_regrown i2
                have m0 := cell_regrown p0
                have m1 := cell_regrown p1
                have m2 := cell_regrown p2
                go_wp2_with fail
                refine wp_region_quiet_below (by kernel_rfl) (by kernel_rfl) ?_
                repeat (go_big_quiet_step ((with_reducible (first | exact d1 _ _))))
                refine wpQuiet_nil ?_
                intro _ hw'
                obtain ⟨⟨dq, osq⟩, hw''⟩ := hw'
                subst hw''
                have hq := below_regrown wr dq osq
                replace hB3 := hB3.trans (hq.mono hB3.size)
                replace hS3 := hS3.below hq
                generalize Sort.grow (redrawn wr dq) osq = W9 at *
                go_wp2_with fail
                exact ⟨⟨k + 1, by omega, by go_num, hB3, hS3⟩, by simp [intOf]; omega⟩
              · have hnm : nameOf t p = p.s := by unfold nameOf; rw [← hf]; rfl
                rw [hnm] at i2
                clear hf hnm
                go_wp2_with fail
                go_quiet (fail)
                go_wp2_with fail
                have hdq := below_drew (Below.refl wr.heap.size wr) nq
                exact ⟨⟨k + 1, by omega, by go_num, below_drew hB3 nq, hS3.below hdq⟩, by simp [intOf]; omega⟩
    · go_wp2_with fail
      refine (awake9_any _).mono ?_
      rintro e w9 ⟨rfl, hb9⟩
      go_wp2_with fail
      go_ret
      exact ⟨rfl, hB.trans (hb9.mono hB.size)⟩

set_option maxRecDepth 100000 in
theorem twins_lifted (os : Os) (started : os.Started) (H : Type) (enc : TypeId × Value → H) :
    ReturnsInHanded {} Tryd.checked os 4 .any (fun w args => (Rows.viewTwinsSpec.pre enc Tryd.prog Tryd.f4 [] false w args ∧ laidMetH Tryd.prog laid3 w) ∧ sizedMet enc Tryd.prog Tryd.f4 (OpenSpec.ofChange Rows.viewTwinsSpec) false w args) (Rows.viewTwinsSpec.post enc Tryd.prog Tryd.f4 false true false false) := by
  refine returnsInHanded_of_change_and (C := Tryd.checked) (X := fun w _ => laidMetH Tryd.prog laid3 w) (fun _ _ _ hh h => h.of_heap hh) own started (by kernel_rfl) Tryd.func4
    (ChangeSpec.witness_shaped (enc := enc) (C := Tryd.checked) (os := os) (X := fun w _ => laidMetH Tryd.prog laid3 w) false (World.doorLaid Tryd.prog 24 os) #[.slice none 0 0] 8 rfl (World.shaped_of_RefB (by kernel_rfl) (by kernel_rfl)) (by kernel_rfl) (by kernel_rfl) (by kernel_rfl) (door_met os _)) ?_
  intro W base args ds gs before hval0 hW _ _ _ _
  have hval : ∀ (j : Nat) t v, Tryd.f4.params[j]? = some t → args[j]? = some v → Value.okWide Tryd.prog W .any base t v := hval0
  have hW' := hW
  obtain ⟨p, q, hA0, hV, rfl, _, _⟩ := hW
  have hA : DataW.TrodAll enc Tryd.prog W 0 (fun _ => true) true Tryd.f4.params.toList args.toList ds p := hA0
  rw [Tryd.params4] at hA hval
  obtain ⟨v0, d0, rfl, rfl, h0⟩ := trodAll_one hA
  obtain ⟨A, cap, t, rfl, hT, _, _, hw⟩ := open_tree (hval 0 22 v0 rfl rfl) h0
  have hc : Calls Tryd.prog 4 #[.slice A t.length cap] W fun e w' => e = .returned (.bool true) ∧ Below W.heap.size W w' := by
    by_cases h1 : 100 < t.length
    · exact twins_no A cap t W (long_le hw) (plSl.2 hT) (Or.inl h1)
    · cases h2 : treeB t
      · exact twins_no A cap t W (long_le hw) (plSl.2 hT) (Or.inr ⟨by omega, h2⟩)
      · exact twins_walk A cap t W (by omega) h2 (plSl.2 hT)
  refine hc.mono fun e W' ⟨he, hb⟩ => ?_
  subst he
  exact ⟨_, rfl, Frm.law_post (by kernel_rfl) (by kernel_rfl) (by kernel_rfl) Tryd.underlying4 rfl rfl hW' hb⟩

theorem twins_said : Rows.ViewTwinsSaid :=
  OpenClaim.holds_of_wide 4 Tryd.f4 rfl rfl rfl rfl rfl rfl rfl ⟨rfl, rfl, rfl, rfl, rfl⟩ rfl rfl rfl rfl rfl (by kernel_rfl) Tryd.func4 (by kernel_rfl)
    (of_decide_eq_true (by kernel_rfl)) (by unfold Func.isWrapper; first | (rw [if_pos (by decide +kernel)]; kernel_rfl) | (rw [if_neg (by decide +kernel)]; exact ⟨rfl, rfl⟩))
    (fun os started H enc _ => twins_lifted os started H enc)

theorem twins_holds : Rows.ViewTwinsCardSaid :=
  Claim7.holds_tied_plain_at .later [] [.data, .data, .data] true (true, "b262a00fe0406edc4c80b64f7c1174bc2a96634669ea655d54b9d77ed72cb7ab") false
    twins_said (fun _ h => by cases h) (by kernel_rfl) (fun _ h => by cases h) viewTwins_row_tie rfl ⟨rfl, rfl⟩ (by kernel_rfl) rfl
    (fun f fn hf hfn => by
      obtain rfl : f = 4 := Option.some.inj ((show Tryd.prog.funcNamed "bargeman/bargemanlaw09.ViewTwins" = some 4 by kernel_rfl).symm.trans hf) |>.symm
      obtain rfl : fn = Tryd.f4 := (Option.some.inj (Tryd.func4.symm.trans hfn)).symm
      exact ⟨by kernel_rfl, fun j t ht => by
        rw [Tryd.params4] at ht
        have hm : t ∈ [22] := by simpa using Array.mem_of_getElem? ht
        have hall : ([22].all fun u => !Tryd.prog.wantsStandIn u) = true := by kernel_rfl
        exact (show Tryd.prog.wantsStandIn t = false by simpa using List.all_eq_true.1 hall t hm)⟩)
    (by kernel_rfl)
end Go.Proofs.YtdhcgflblbmogaaDoor
