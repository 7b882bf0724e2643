/- FrameGifts is proved: a gift that may be is read from its bytes as it was. Conditions: the package's table that the sums read lies, when the call begins, as the program's own text lays it (the card ties that). -/
import Derived.Test.YtndahomgglpdhaaDoorB07
namespace Go.Proofs.YtndahomgglpdhaaDoor
open Go.ChangeShapes Go.WideShapes Go.ChangeAt Go.RowKit Go.Deep Nam Cod

set_option maxRecDepth 100000 in
set_option maxHeartbeats 2000000 in
theorem gifts15_long (H : FrameCalls) (g : Gf) (s : ByteArray) (w : World) (hL : Crk.Laid w) (h : 1000 < g.s.size ∨ 500 < s.size) (hg : g.s.size ≤ maxLen) (hs : s.size ≤ maxLen) : Calls Tryd.prog 6 #[.agg #[.int .i64 g.d, .int .i64 g.i, .int .i64 g.c, .int .i64 g.t, .string g.s], .string s] w fun e w' => e = .returned (.bool true) ∧ Below w.heap.size w w' := by
  have hP : gfE.In (w.alloc (.cells #[.int .i64 g.d, .int .i64 g.i, .int .i64 g.c, .int .i64 g.t, .string g.s] 32)) w.heap.size g := El.In.new (E := gfE) w g _ rfl
  have hB := below_alloc (Below.refl w.heap.size w) (.cells #[.int .i64 g.d, .int .i64 g.i, .int .i64 g.c, .int .i64 g.t, .string g.s] 32)
  have HL := Lib.hid (laid_belowK hL hB)
  obtain ⟨p0, p1, p2, p3, p4⟩ := gfIn5 hP
  unfold maxLen at hg hs
  clear hP hL
  rcases (show 1000 < g.s.size ∨ (¬ 1000 < g.s.size ∧ 500 < s.size) by omega) with h1 | ⟨h1, h2⟩
  · clear h
    go_enter Tryd.func6, Tryd.ntmps6
    go_wp2_with fail
    refine (awake15_any H _ HL.out).mono ?_
    rintro e w2 ⟨rfl, hb2⟩
    go_wp2_with fail
    go_ret
    exact ⟨rfl, below_then hB hb2⟩
  · clear h
    go_enter Tryd.func6, Tryd.ntmps6
    go_wp2_with fail
    refine (awake15_any H _ HL.out).mono ?_
    rintro e w2 ⟨rfl, hb2⟩
    go_wp2_with fail
    go_ret
    exact ⟨rfl, below_then hB hb2⟩

set_option maxRecDepth 100000 in
set_option maxHeartbeats 4000000 in
theorem gifts15_walk (H : FrameCalls) (g : Gf) (s : ByteArray) (w : World) (hL : Crk.Laid w) (hg : g.s.size ≤ 1000) (hs : s.size ≤ 500) (hw : i64 g.d ∧ i64 g.i ∧ i64 g.c ∧ i64 g.t) : Calls Tryd.prog 6 #[.agg #[.int .i64 g.d, .int .i64 g.i, .int .i64 g.c, .int .i64 g.t, .string g.s], .string s] w fun e w' => e = .returned (.bool true) ∧ Below w.heap.size w w' := by
  have hP : gfE.In (w.alloc (.cells #[.int .i64 g.d, .int .i64 g.i, .int .i64 g.c, .int .i64 g.t, .string g.s] 32)) w.heap.size g := El.In.new (E := gfE) w g _ rfl
  have hN := below_alloc (Below.refl w.heap.size w) (.cells #[.int .i64 g.d, .int .i64 g.i, .int .i64 g.c, .int .i64 g.t, .string g.s] 32)
  have HW := Lib.hid (show GfW g from ⟨hw.1, hw.2.1, hw.2.2.1, hw.2.2.2, by omega⟩)
  have HPR := Lib.hid (fun (wx : World) => H.printGift g wx HW.out)
  have HRT := Lib.hid (fun (wx : World) => H.rightGift g wx (by omega))
  have HRD := Lib.hid H.readGift
  have HAW := Lib.hid (fun (wx : World) (hb : Below w.heap.size w wx) => awake15_any H wx (laid_belowK hL hb))
  have hbz : (gfBytes g).size ≤ 1050 := by
    have k1 := bytesOf_le10 hw.1
    have k2 := bytesOf_le10 hw.2.1
    have k3 := bytesOf_le10 hw.2.2.1
    have k4 := bytesOf_le10 hw.2.2.2
    have k5 := bytesOf_le10 (n := (g.s.size : Int)) (by unfold i64; omega)
    unfold gfBytes textOf
    simp only [ByteArray.size_append]
    omega
  have HSELF := Lib.hid (fun (h : gfB g = true) => (by
    have h2 := gf_there ⟨#[]⟩ s g h
    have e0 : (⟨#[]⟩ : ByteArray) ++ (gfBytes g ++ s) = gfBytes g ++ s := L_inj (by rw [L_app]; simp [L])
    rw [e0, show (⟨#[]⟩ : ByteArray).size = 0 from rfl, Nat.zero_add] at h2
    exact h2 : isGf (gfBytes g ++ s) 0 false = some (g, (gfBytes g).size)))
  generalize gfBytes g = BY at *
  have hxz : (BY ++ s).size = BY.size + s.size := ByteArray.size_append
  have HXZ := Lib.hid (show (BY ++ s).size ≤ 1000000 by omega)
  have y1 : ¬ 9223372036854775807 < BY.size + s.size := by omega
  obtain ⟨p0, p1, p2, p3, p4⟩ := gfIn5 hP
  clear H hw HW hL hxz hbz
  go_enter Tryd.func6, Tryd.ntmps6
  go_wp2_with (first | (refine El.load gfRow rfl _ rfl w.heap.size 0 rfl g hP.at #[.int .i64 g.d, .int .i64 g.i, .int .i64 g.c, .int .i64 g.t, .string g.s] rfl ?_) | fail)
  refine (HPR.out _).mono ?_
  generalize w.alloc (.cells #[.int .i64 g.d, .int .i64 g.i, .int .i64 g.c, .int .i64 g.t, .string g.s] 32) = W0 at *
  obtain ⟨n1, hn1⟩ : ∃ n, w.heap.size = n := ⟨_, rfl⟩
  rw [hn1] at hP ⊢
  have hwn1 : w.heap.size ≤ n1 := by omega
  clear hn1
  rintro e w2 ⟨rfl, hb2⟩
  clear p0 p1 p2 p3 p4 HPR
  replace hP := hP.below hb2
  replace hN := below_then hN hb2
  clear hb2
  have hr := Rd.new w2 44 (BY ++ s) 0 rfl
  have hal := below_alloc (Below.refl w2.heap.size w2) (.cells #[.string (BY ++ s), .int .i64 0, .bool false] 44)
  have hn1r : n1 < w2.heap.size := hP.lt
  have hwr : w.heap.size ≤ w2.heap.size := hN.size
  replace hP := hP.below hal
  replace hN := below_then hN hal
  clear hal
  go_wp2_with fail
  generalize w2.alloc (.cells #[.string (BY ++ s), .int .i64 0, .bool false] 44) = W2 at *
  obtain ⟨nr, hnr⟩ : ∃ n, w2.heap.size = n := ⟨_, rfl⟩
  rw [hnr] at hr hn1r hwr ⊢
  clear hnr
  refine (HRD.out W2 nr 0 (BY ++ s) false HXZ.out (Nat.zero_le _) hr).mono ?_
  rintro e w3 ⟨u, q1, bad1, rfl, hr1, hq1s, hg, hst⟩
  replace hP := hP.keep hg (fun e => by have := Option.some.inj e; omega)
  replace hN := below_by hN hg hwr
  have HST := Lib.hid hst
  clear hr hg hst
  have hr := hr1
  have hU : gfE.In (w3.alloc (.cells #[.int .i64 u.d, .int .i64 u.i, .int .i64 u.c, .int .i64 u.t, .string u.s] 32)) w3.heap.size u := El.In.new (E := gfE) w3 u _ rfl
  have hal := below_alloc (Below.refl w3.heap.size w3) (.cells #[.int .i64 u.d, .int .i64 u.i, .int .i64 u.c, .int .i64 u.t, .string u.s] 32)
  replace hP := hP.below hal
  replace hr := hr.below hal
  replace hN := below_then hN hal
  clear hal hr1
  go_wp2_with fail
  generalize w3.alloc (.cells #[.int .i64 u.d, .int .i64 u.i, .int .i64 u.c, .int .i64 u.t, .string u.s] 32) = W3 at *
  obtain ⟨n2, hn2⟩ : ∃ n, w3.heap.size = n := ⟨_, rfl⟩
  rw [hn2] at hU ⊢
  clear hn2 hn1r hwr hwn1
  refine (HAW.out _ hN).mono ?_
  rintro e w4 ⟨rfl, hb4⟩
  replace hP := hP.below hb4
  replace hU := hU.below hb4
  replace hr := hr.below hb4
  replace hN := below_then hN hb4
  clear hb4 HAW
  cases hb : gfB g with
  | true =>
    have hself := HSELF.out hb
    obtain ⟨rfl, rfl, rfl⟩ : q1 = BY.size ∧ bad1 = false ∧ u = g := by
      rcases HST.out with ⟨h, rfl⟩ | ⟨h, _⟩
      · rw [hself] at h; have h := Option.some.inj h; exact ⟨(congrArg Prod.snd h).symm, rfl, (congrArg Prod.fst h).symm⟩
      · rw [hself] at h; cases h
    rw [hb] at HRT
    clear hself HSELF HST hb
    have q := fun w => run_eqGf u u w
    rw [show gfEq u u = true from gfEq_iff.2 rfl] at q
    obtain ⟨p0, p1, p2, p3, p4⟩ := gfIn5 hP
    obtain ⟨u0, u1, u2, u3, u4⟩ := gfIn5 hU
    obtain ⟨r0, r1, r2⟩ := hr.cells
    go_wp2_with fail
    refine (HRT.out _).mono ?_
    rintro e w5 ⟨rfl, hb5⟩
    replace hP := hP.below hb5
    replace hU := hU.below hb5
    replace hr := hr.below hb5
    replace hN := below_then hN hb5
    clear hb5 p0 p1 p2 p3 p4 u0 u1 u2 u3 u4 r0 r1 r2
    obtain ⟨p0, p1, p2, p3, p4⟩ := gfIn5 hP
    obtain ⟨u0, u1, u2, u3, u4⟩ := gfIn5 hU
    obtain ⟨r0, r1, r2⟩ := hr.cells
    go_wp2_with fail
    go_ret
    exact ⟨rfl, hN⟩
  | false =>
    rw [hb] at HRT
    clear HSELF HST hb
    obtain ⟨p0, p1, p2, p3, p4⟩ := gfIn5 hP
    obtain ⟨u0, u1, u2, u3, u4⟩ := gfIn5 hU
    obtain ⟨r0, r1, r2⟩ := hr.cells
    go_wp2_with fail
    refine (HRT.out _).mono ?_
    rintro e w5 ⟨rfl, hb5⟩
    replace hP := hP.below hb5
    replace hU := hU.below hb5
    replace hr := hr.below hb5
    replace hN := below_then hN hb5
    clear hb5 p0 p1 p2 p3 p4 u0 u1 u2 u3 u4 r0 r1 r2
    go_wp2_with fail
    go_ret
    exact ⟨rfl, hN⟩
set_option maxRecDepth 100000 in
theorem gifts15_lifted (H0 : FrameCalls) (os : Os) (started : os.Started) (H : Type) (enc : TypeId × Value → H) :
    ReturnsInHanded {} Tryd.checked os 6 .any (fun w args => (Rows.frameGiftsSpec.pre enc Tryd.prog Tryd.f6 [] false w args ∧ laidMetH Tryd.prog laid1 w) ∧ sizedMet enc Tryd.prog Tryd.f6 (OpenSpec.ofChange Rows.frameGiftsSpec) false w args) (Rows.frameGiftsSpec.post enc Tryd.prog Tryd.f6 false true false false) := by
  refine returnsInHanded_of_change_and (C := Tryd.checked) (X := fun w _ => laidMetH Tryd.prog laid1 w) (fun _ _ _ hh h => h.of_heap hh) own started (by kernel_rfl) Tryd.func6
    (ChangeSpec.witness_shaped (enc := enc) (C := Tryd.checked) (os := os) (X := fun w _ => laidMetH Tryd.prog laid1 w) false (World.doorLaid Tryd.prog 14 os) #[.agg #[.int .i64 0, .int .i64 0, .int .i64 0, .int .i64 0, .string ⟨#[]⟩], .string ⟨#[]⟩] 8 rfl (World.shaped_of_RefB (by kernel_rfl) (by kernel_rfl)) (by kernel_rfl) (by kernel_rfl) (by kernel_rfl) (door_met os _)) ?_
  intro W base args ds gs before hval0 hW _ _ hL _
  have hval : ∀ (j : Nat) t v, Tryd.f6.params[j]? = some t → args[j]? = some v → Value.okWide Tryd.prog W .any base t v := hval0
  have hW' := hW
  obtain ⟨p, q, hA0, hV, rfl, _, _⟩ := hW
  have hA : DataW.TrodAll enc Tryd.prog W 0 (fun _ => true) true Tryd.f6.params.toList args.toList ds p := hA0
  rw [Tryd.params6] at hA hval
  obtain ⟨v0, v1, d0, d1, p0, p1, rfl, rfl, rfl, h0, h1⟩ := trodAll_two hA
  obtain ⟨g, rfl, hw, hg⟩ := open_gf (hval 0 32 v0 rfl rfl) h0
  obtain ⟨s, rfl, hs⟩ := open_str (hval 1 9 v1 rfl rfl) h1
  have hl := of_laid hL
  have hc : Calls Tryd.prog 6 #[.agg #[.int .i64 g.d, .int .i64 g.i, .int .i64 g.c, .int .i64 g.t, .string g.s], .string s] W fun e w' => e = .returned (.bool true) ∧ Below W.heap.size W w' := by
    by_cases h : g.s.size ≤ 1000 ∧ s.size ≤ 500
    · exact gifts15_walk H0 g s W hl h.1 h.2 hw
    · exact gifts15_long H0 g s W hl (by omega) hg hs
  refine hc.mono fun e W' ⟨he, hb⟩ => ?_
  subst he
  exact ⟨_, rfl, Frm.law_post (by kernel_rfl) (by kernel_rfl) (by kernel_rfl) Tryd.underlying4 rfl rfl hW' hb⟩

theorem gifts15_said (H0 : FrameCalls) : Rows.FrameGiftsSaid :=
  OpenClaim.holds_of_wide 6 Tryd.f6 rfl rfl rfl rfl rfl rfl rfl ⟨rfl, rfl, rfl, rfl, rfl⟩ rfl rfl rfl rfl rfl (by kernel_rfl) Tryd.func6 (by kernel_rfl)
    (of_decide_eq_true (by kernel_rfl)) (by unfold Func.isWrapper; first | (rw [if_pos (by decide +kernel)]; kernel_rfl) | (rw [if_neg (by decide +kernel)]; exact ⟨rfl, rfl⟩))
    (fun os started H enc _ => gifts15_lifted H0 os started H enc)

theorem gifts15_holds (H0 : FrameCalls) : Rows.FrameGiftsCardSaid :=
  Claim7.holds_tied_plain_at .later [] [.data] true (true, "592bd563c67d30f64e5f2d516a984832c0f7d2e182453aec19ea26cfb8f3d092") false
    (gifts15_said H0) (fun _ h => by cases h) (by kernel_rfl) (fun _ h => by cases h) frameGifts_row_tie rfl ⟨rfl, rfl⟩ (by kernel_rfl) rfl
    (fun f fn hf hfn => by
      obtain rfl : f = 6 := Option.some.inj ((show Tryd.prog.funcNamed "bargeman/bargemanlaw15.FrameGifts" = some 6 by kernel_rfl).symm.trans hf) |>.symm
      obtain rfl : fn = Tryd.f6 := (Option.some.inj (Tryd.func6.symm.trans hfn)).symm
      exact ⟨by kernel_rfl, fun j t ht => by
        rw [Tryd.params6] at ht
        have hm : t ∈ [32, 9] := by simpa using Array.mem_of_getElem? ht
        have hall : ([32, 9].all fun u => !Tryd.prog.wantsStandIn u) = true := by kernel_rfl
        exact (show Tryd.prog.wantsStandIn t = false by simpa using List.all_eq_true.1 hall t hm)⟩)
    (by kernel_rfl)
end Go.Proofs.YtndahomgglpdhaaDoor

namespace Go.Proofs.YtndahomgglpdhaaDoor
theorem frameGifts_all : Rows.FrameGiftsCardSaid := gifts15_holds frameCalls
end Go.Proofs.YtndahomgglpdhaaDoor
