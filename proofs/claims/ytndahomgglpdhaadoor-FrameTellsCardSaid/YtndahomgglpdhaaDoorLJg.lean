/- FrameTells is proved: whether any frame may be, and its bytes, and those of its gifts, are the document's. Conditions: the package's table that the sums read lies, when the call begins, as the program's own text lays it (the card ties that). -/
import Derived.Test.YtndahomgglpdhaaDoorB07
namespace Go.Proofs.YtndahomgglpdhaaDoor
open Go.ChangeShapes Go.WideShapes Go.ChangeAt Go.RowKit Go.Deep Nam Cod

set_option maxRecDepth 100000 in
set_option maxHeartbeats 8000000 in
theorem tells15_walk (H : FrameCalls) (y : Fw) (w : World) (hL : Crk.Laid w) (hy : y.ok w) (ny : FrN y.x) (ly : FrLen y.x) :
    Calls Tryd.prog 3 #[.agg #[.int .i64 y.x.a, .int .i64 y.x.b, .int .i64 y.x.boot, .int .i64 y.x.first, .slice y.oA y.x.os.length y.oc, .int .i64 y.x.pos, .slice y.rA y.x.rs.length y.rc, .int .i64 y.x.start, .slice y.eA y.x.es.length y.ec, .int .i64 y.x.ack, .int .i64 y.x.grant, .int .i64 y.x.s, .int .i64 y.x.t, .slice y.gA y.x.gs.length y.gc]] w fun e w' => e = .returned (.bool true) ∧ Below w.heap.size w w' := by
  have HAW := Lib.hid (fun (wx : World) (hb : Below w.heap.size w wx) => awake15_any H wx (laid_belowK hL hb))
  have HGY := Lib.hid (fun (wx : World) (g : y.ok wx) => great15_any y wx g ny ly)
  have HWY := Lib.hid (fun (h : greatN y.x ≤ 200) => ny.small h)
  have HLH := Lib.hid (fun (wx : World) (hb : Below w.heap.size w wx) => laid_belowK hL hb)
  have HH := Lib.hid H
  have hP : frE.In (w.alloc (.cells #[.int .i64 y.x.a, .int .i64 y.x.b, .int .i64 y.x.boot, .int .i64 y.x.first, .slice y.oA y.x.os.length y.oc, .int .i64 y.x.pos, .slice y.rA y.x.rs.length y.rc, .int .i64 y.x.start, .slice y.eA y.x.es.length y.ec, .int .i64 y.x.ack, .int .i64 y.x.grant, .int .i64 y.x.s, .int .i64 y.x.t, .slice y.gA y.x.gs.length y.gc] 27)) w.heap.size y := El.In.new (E := frE) w y _ rfl
  have hB := below_alloc (Below.refl w.heap.size w) (.cells #[.int .i64 y.x.a, .int .i64 y.x.b, .int .i64 y.x.boot, .int .i64 y.x.first, .slice y.oA y.x.os.length y.oc, .int .i64 y.x.pos, .slice y.rA y.x.rs.length y.rc, .int .i64 y.x.start, .slice y.eA y.x.es.length y.ec, .int .i64 y.x.ack, .int .i64 y.x.grant, .int .i64 y.x.s, .int .i64 y.x.t, .slice y.gA y.x.gs.length y.gc] 27)
  replace hy := hy.below hB
  clear H hL ny ly
  go_enter Tryd.func3, Tryd.ntmps3
  go_upto_region 1 with fail
  generalize w.alloc (.cells #[.int .i64 y.x.a, .int .i64 y.x.b, .int .i64 y.x.boot, .int .i64 y.x.first, .slice y.oA y.x.os.length y.oc, .int .i64 y.x.pos, .slice y.rA y.x.rs.length y.rc, .int .i64 y.x.start, .slice y.eA y.x.es.length y.ec, .int .i64 y.x.ack, .int .i64 y.x.grant, .int .i64 y.x.s, .int .i64 y.x.t, .slice y.gA y.x.gs.length y.gc] 27) = W at *
  obtain ⟨n1, hn1⟩ : ∃ n, w.heap.size = n := ⟨_, rfl⟩
  rw [hn1] at hP ⊢
  clear hn1
  go_wp2_with (first | (refine El.load frRow rfl _ rfl n1 0 rfl y hP.at #[.int .i64 y.x.a, .int .i64 y.x.b, .int .i64 y.x.boot, .int .i64 y.x.first, .slice y.oA y.x.os.length y.oc, .int .i64 y.x.pos, .slice y.rA y.x.rs.length y.rc, .int .i64 y.x.start, .slice y.eA y.x.es.length y.ec, .int .i64 y.x.ack, .int .i64 y.x.grant, .int .i64 y.x.s, .int .i64 y.x.t, .slice y.gA y.x.gs.length y.gc] rfl ?_) | fail)
  refine (HGY.out _ hy).mono ?_
  rintro e w1 ⟨b1, rfl, hg1, hb1⟩
  replace hP := hP.below hb1
  replace hy := hy.below hb1
  replace hB := below_then hB hb1
  clear hb1 HGY
  cases b1 with
  | true =>
    go_wp2_with fail
    refine (HAW.out _ hB).mono ?_
    rintro e w9 ⟨rfl, hb9⟩
    go_wp2_with fail
    go_ret
    exact ⟨rfl, below_then hB hb9⟩
  | false =>
    have WY := HWY.out (hg1 rfl)
    have HWG := Lib.hid WY.gs
    have hl300 : y.x.gs.length ≤ 300 := WY.l.2.2.2
    clear HWY hg1
    go_wp2_with fail
    go_loopw [3] (fun i wr => ∃ k : Nat, k ≤ y.x.gs.length ∧ i = .int .i64 k ∧ frE.In wr n1 y ∧ y.ok wr ∧ Below w.heap.size w wr) (fun i _ => y.x.gs.length - (intOf i).toNat)
    case atStart => exact ⟨0, Nat.zero_le _, rfl, hP, hy, hB⟩
    case round =>
      clear hP hy hB
      obtain ⟨k, hk, rfl, hP, hy, hB⟩ := hrel
      have p13 := (frIn14 hP).2.2.2.2.2.2.2.2.2.2.2.2.2
      by_cases hkl : k < y.x.gs.length
      · obtain ⟨b, off, eA, hbr, hc⟩ := hy.g.1 (by omega)
        have hx := gfIdxH (cap := y.gc) eA hkl
        have hat : gfE.At wr b (off + k * 5) _ := hc k hkl
        have hxm : y.x.gs[k] ∈ y.x.gs := List.getElem_mem _
        obtain ⟨x, hxe⟩ : ∃ x, y.x.gs[k] = x := ⟨_, rfl⟩
        rw [hxe] at hat hxm
        have hgw := HWG.out x hxm
        have C1 := Lib.hid (fun (wx : World) => HH.out.rightGift x wx hgw.2.2.2.2)
        have C2 := Lib.hid (fun (wx : World) => refRightGift_any x wx hgw.2.2.2.2)
        have C3 := Lib.hid (fun (wx : World) => HH.out.printGift x wx hgw)
        have C4 := Lib.hid (fun (wx : World) => refPrintGift_any x wx hgw)
        generalize gfB x = gb at *
        generalize gfBytes x = gs at *
        clear hc eA hxe hxm hgw
        go_wp2_with fail
        clear p13
        replace hP : frE.In wr.drew n1 y := hP
        replace hat : gfE.At wr.drew b (off + k * 5) x := hat
        replace hbr : b < wr.drew.heap.size := hbr
        replace hy : y.ok wr.drew := ⟨hy.o, hy.r, hy.e, hy.g⟩
        replace hB := hB.drew
        as_aux_lemma =>
          go_region_held3 (fun w' => (w'.cell? ⟨n1, 13, none⟩ = some (.slice y.gA y.x.gs.length y.gc)) ∧ (w'.cell? ⟨b, off + k * 5, none⟩ = some (.int .i64 x.d) ∧ w'.cell? ⟨b, off + k * 5 + 1, none⟩ = some (.int .i64 x.i) ∧ w'.cell? ⟨b, off + k * 5 + 2, none⟩ = some (.int .i64 x.c) ∧ w'.cell? ⟨b, off + k * 5 + 3, none⟩ = some (.int .i64 x.t) ∧ w'.cell? ⟨b, off + k * 5 + 4, none⟩ = some (.string x.s))) (with_reducible exact ⟨(frIn14 hP).2.2.2.2.2.2.2.2.2.2.2.2.2, gfAt5 hat⟩) (first | (go_at_call 10; (with_reducible refine (C1.out _).mono ?_); rintro e w5 ⟨rfl, hb5⟩; have hP := hP.below hb5; have hat := hat.below hb5 hbr; have hbr := Nat.lt_of_lt_of_le hbr hb5.size; have hy := hy.below hb5; have hB := below_then hB hb5) | (go_at_call 11; (with_reducible refine (C2.out _).mono ?_); rintro e w5 ⟨rfl, hb5⟩; have hP := hP.below hb5; have hat := hat.below hb5 hbr; have hbr := Nat.lt_of_lt_of_le hbr hb5.size; have hy := hy.below hb5; have hB := below_then hB hb5) | (go_at_call 12; (with_reducible refine (C3.out _).mono ?_); rintro e w5 ⟨rfl, hb5⟩; have hP := hP.below hb5; have hat := hat.below hb5 hbr; have hbr := Nat.lt_of_lt_of_le hbr hb5.size; have hy := hy.below hb5; have hB := below_then hB hb5) | (go_at_call 13; (with_reducible refine (C4.out _).mono ?_); rintro e w5 ⟨rfl, hb5⟩; have hP := hP.below hb5; have hat := hat.below hb5 hbr; have hbr := Nat.lt_of_lt_of_le hbr hb5.size; have hy := hy.below hb5; have hB := below_then hB hb5))
          all_goals
            go_wp2_with fail
            exact ⟨⟨k + 1, by omega, by go_num, hP, hy, hB⟩, by simp [intOf]; omega⟩
      · obtain rfl : k = y.x.gs.length := by omega
        have D1 := Lib.hid (fun (wx : World) (g : y.ok wx) => HH.out.right y wx WY g)
        have D2 := Lib.hid (fun (wx : World) (g : y.ok wx) => refRight15_any y wx WY g)
        have D3 := Lib.hid (fun (wx : World) (hb : Below w.heap.size w wx) (g : y.ok wx) => HH.out.print y wx (HLH.out wx hb) WY g)
        have D4 := Lib.hid (fun (wx : World) (g : y.ok wx) => refPrint15_any y wx WY g)
        generalize frB y.x = fb at *
        generalize frBytes y.x = fs at *
        clear HWG WY HLH HH
        go_wp2_with fail
        clear p13
        replace hP : frE.In wr.drew n1 y := hP
        replace hy : y.ok wr.drew := ⟨hy.o, hy.r, hy.e, hy.g⟩
        replace hB := hB.drew
        as_aux_lemma =>
          go_region_held3 (fun w' => w'.cell? ⟨n1, 0, none⟩ = some (.int .i64 y.x.a) ∧ w'.cell? ⟨n1, 1, none⟩ = some (.int .i64 y.x.b) ∧ w'.cell? ⟨n1, 2, none⟩ = some (.int .i64 y.x.boot) ∧ w'.cell? ⟨n1, 3, none⟩ = some (.int .i64 y.x.first) ∧ w'.cell? ⟨n1, 4, none⟩ = some (.slice y.oA y.x.os.length y.oc) ∧ w'.cell? ⟨n1, 5, none⟩ = some (.int .i64 y.x.pos) ∧ w'.cell? ⟨n1, 6, none⟩ = some (.slice y.rA y.x.rs.length y.rc) ∧ w'.cell? ⟨n1, 7, none⟩ = some (.int .i64 y.x.start) ∧ w'.cell? ⟨n1, 8, none⟩ = some (.slice y.eA y.x.es.length y.ec) ∧ w'.cell? ⟨n1, 9, none⟩ = some (.int .i64 y.x.ack) ∧ w'.cell? ⟨n1, 10, none⟩ = some (.int .i64 y.x.grant) ∧ w'.cell? ⟨n1, 11, none⟩ = some (.int .i64 y.x.s) ∧ w'.cell? ⟨n1, 12, none⟩ = some (.int .i64 y.x.t) ∧ w'.cell? ⟨n1, 13, none⟩ = some (.slice y.gA y.x.gs.length y.gc)) (with_reducible exact frIn14 hP) (first | (go_at_call 9; (with_reducible refine (HAW.out _ hB).mono ?_); rintro e w5 ⟨rfl, hb5⟩; have hP := hP.below hb5; have hy := hy.below hb5; have hB := below_then hB hb5) | (go_at_call 14; (with_reducible refine (D1.out _ hy).mono ?_); rintro e w5 ⟨rfl, hb5⟩; have hP := hP.below hb5; have hy := hy.below hb5; have hB := below_then hB hb5) | (go_at_call 15; (with_reducible refine (D2.out _ hy).mono ?_); rintro e w5 ⟨rfl, hb5⟩; have hP := hP.below hb5; have hy := hy.below hb5; have hB := below_then hB hb5) | (go_at_call 16; (with_reducible refine (D3.out _ hB hy).mono ?_); rintro e w5 ⟨rfl, hb5⟩; have hP := hP.below hb5; have hy := hy.below hb5; have hB := below_then hB hb5) | (go_at_call 17; (with_reducible refine (D4.out _ hy).mono ?_); rintro e w5 ⟨rfl, hb5⟩; have hP := hP.below hb5; have hy := hy.below hb5; have hB := below_then hB hb5))
          all_goals
            go_wp2_with fail
            go_ret
            exact ⟨rfl, hB⟩
set_option maxRecDepth 100000 in
theorem tells15_lifted (H0 : FrameCalls) (os : Os) (started : os.Started) (H : Type) (enc : TypeId × Value → H) :
    ReturnsInHanded {} Tryd.checked os 3 .any (fun w args => (Rows.frameTellsSpec.pre enc Tryd.prog Tryd.f3 [] false w args ∧ laidMetH Tryd.prog laid1 w) ∧ sizedMet enc Tryd.prog Tryd.f3 (OpenSpec.ofChange Rows.frameTellsSpec) false w args) (Rows.frameTellsSpec.post enc Tryd.prog Tryd.f3 false true false false) := by
  refine returnsInHanded_of_change_and (C := Tryd.checked) (X := fun w _ => laidMetH Tryd.prog laid1 w) (fun _ _ _ hh h => h.of_heap hh) own started (by kernel_rfl) Tryd.func3
    (ChangeSpec.witness_shaped (enc := enc) (C := Tryd.checked) (os := os) (X := fun w _ => laidMetH Tryd.prog laid1 w) false (World.doorLaid Tryd.prog 14 os) #[.agg #[.int .i64 0, .int .i64 0, .int .i64 0, .int .i64 0, .slice none 0 0, .int .i64 0, .slice none 0 0, .int .i64 0, .slice none 0 0, .int .i64 0, .int .i64 0, .int .i64 0, .int .i64 0, .slice none 0 0]] 8 rfl (World.shaped_of_RefB (by kernel_rfl) (by kernel_rfl)) (by kernel_rfl) (by kernel_rfl) (by kernel_rfl) (door_met os _)) ?_
  intro W base args ds gs before hval0 hW _ hL0 hL _
  have hval : ∀ (j : Nat) t v, Tryd.f3.params[j]? = some t → args[j]? = some v → Value.okWide Tryd.prog W .any base t v := hval0
  have hW' := hW
  obtain ⟨p, q, hA0, hV, rfl, _, _⟩ := hW
  have hA : DataW.TrodAll enc Tryd.prog W 0 (fun _ => true) true Tryd.f3.params.toList args.toList ds p := hA0
  rw [Tryd.params3] at hA hval
  have hsz := hL0
  obtain ⟨v0, d0, rfl, rfl, h0⟩ := trodAll_one hA
  simp only [Tryd.params3, List.cons_append, List.nil_append, DataW.weightsEach, List.all_append, Bool.and_eq_true] at hsz
  obtain ⟨y, rfl, hy, ny, ly⟩ := open_fr (hval 0 27 v0 rfl rfl) h0 hsz.1
  have hl := of_laid hL
  have hc : Calls Tryd.prog 3 #[.agg #[.int .i64 y.x.a, .int .i64 y.x.b, .int .i64 y.x.boot, .int .i64 y.x.first, .slice y.oA y.x.os.length y.oc, .int .i64 y.x.pos, .slice y.rA y.x.rs.length y.rc, .int .i64 y.x.start, .slice y.eA y.x.es.length y.ec, .int .i64 y.x.ack, .int .i64 y.x.grant, .int .i64 y.x.s, .int .i64 y.x.t, .slice y.gA y.x.gs.length y.gc]] W fun e w' => e = .returned (.bool true) ∧ Below W.heap.size W w' := by
    exact tells15_walk H0 y W hl hy ny ly
  refine hc.mono fun e W' ⟨he, hb⟩ => ?_
  subst he
  exact ⟨_, rfl, Frm.law_post (by kernel_rfl) (by kernel_rfl) (by kernel_rfl) Tryd.underlying4 rfl rfl hW' hb⟩

theorem tells15_said (H0 : FrameCalls) : Rows.FrameTellsSaid :=
  OpenClaim.holds_of_wide 3 Tryd.f3 rfl rfl rfl rfl rfl rfl rfl ⟨rfl, rfl, rfl, rfl, rfl⟩ rfl rfl rfl rfl rfl (by kernel_rfl) Tryd.func3 (by kernel_rfl)
    (of_decide_eq_true (by kernel_rfl)) (by unfold Func.isWrapper; first | (rw [if_pos (by decide +kernel)]; kernel_rfl) | (rw [if_neg (by decide +kernel)]; exact ⟨rfl, rfl⟩))
    (fun os started H enc _ => tells15_lifted H0 os started H enc)

theorem tells15_holds (H0 : FrameCalls) : Rows.FrameTellsCardSaid :=
  Claim7.holds_tied_plain_at .later [] [.data] true (true, "592bd563c67d30f64e5f2d516a984832c0f7d2e182453aec19ea26cfb8f3d092") false
    (tells15_said H0) (fun _ h => by cases h) (by kernel_rfl) (fun _ h => by cases h) frameTells_row_tie rfl ⟨rfl, rfl⟩ (by kernel_rfl) rfl
    (fun f fn hf hfn => by
      obtain rfl : f = 3 := Option.some.inj ((show Tryd.prog.funcNamed "bargeman/bargemanlaw15.FrameTells" = some 3 by kernel_rfl).symm.trans hf) |>.symm
      obtain rfl : fn = Tryd.f3 := (Option.some.inj (Tryd.func3.symm.trans hfn)).symm
      exact ⟨by kernel_rfl, fun j t ht => by
        rw [Tryd.params3] at ht
        have hm : t ∈ [27] := by simpa using Array.mem_of_getElem? ht
        have hall : ([27].all fun u => !Tryd.prog.wantsStandIn u) = true := by kernel_rfl
        exact (show Tryd.prog.wantsStandIn t = false by simpa using List.all_eq_true.1 hall t hm)⟩)
    (by kernel_rfl)
end Go.Proofs.YtndahomgglpdhaaDoor

namespace Go.Proofs.YtndahomgglpdhaaDoor
theorem frameTells_all : Rows.FrameTellsCardSaid := tells15_holds frameCalls
end Go.Proofs.YtndahomgglpdhaaDoor
