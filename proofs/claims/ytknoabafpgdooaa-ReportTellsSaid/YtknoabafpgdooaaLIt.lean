/- ReportTells: whether any report may be, which is newer, and its bytes are the document's. No condition. -/
import Derived.Test.YtknoabafpgdooaaB05
import Derived.Test.YtknoabafpgdooaaRows
import Derived.Deep.RegionHeld3
namespace Go.Proofs.Ytknoabafpgdooaa
open Go.ChangeShapes Go.WideShapes Go.ChangeAt Go.RowKit Go.Deep Cod

set_option maxRecDepth 100000 in
set_option maxHeartbeats 4000000 in
theorem tells14_walk (H : ReportCalls) (a b : Rp) (w : World) (hw : RpW a) :
    Calls Try.prog 3 #[.agg #[.int .i64 a.d, .int .i64 a.i, .int .i64 a.b, .int .i64 a.t, .int .i64 a.m, .int .i64 a.p, .int .i64 a.c, .int .i64 a.s, .int .i64 a.k], .agg #[.int .i64 b.d, .int .i64 b.i, .int .i64 b.b, .int .i64 b.t, .int .i64 b.m, .int .i64 b.p, .int .i64 b.c, .int .i64 b.s, .int .i64 b.k]] w fun r w' => r = .returned (.bool true) ∧ Below w.heap.size w w' := by
  have HA := Lib.hid (fun (wx : World) => awake14_any H wx)
  have HR := Lib.hid (fun (wx : World) => H.right a wx)
  have HRR := Lib.hid (fun (wx : World) => refRpRight_any a wx)
  have HN := Lib.hid (fun (wx : World) => H.newer a b wx)
  have HRN := Lib.hid (fun (wx : World) => refRpNewer_any a b wx)
  have HPR := Lib.hid (fun (wx : World) => H.print a wx hw)
  have HRP := Lib.hid (fun (wx : World) => refRpPrint_any a wx hw)
  generalize rpB a = ab at *
  generalize newB a b = nb at *
  generalize rpBytes a = S at *
  clear hw
  have hP : rpE.In ((w.alloc (.cells #[.int .i64 a.d, .int .i64 a.i, .int .i64 a.b, .int .i64 a.t, .int .i64 a.m, .int .i64 a.p, .int .i64 a.c, .int .i64 a.s, .int .i64 a.k] 23)).alloc (.cells #[.int .i64 b.d, .int .i64 b.i, .int .i64 b.b, .int .i64 b.t, .int .i64 b.m, .int .i64 b.p, .int .i64 b.c, .int .i64 b.s, .int .i64 b.k] 23)) w.heap.size a := (El.In.new (E := rpE) w a _ rfl).alloc _
  have hQ : rpE.In ((w.alloc (.cells #[.int .i64 a.d, .int .i64 a.i, .int .i64 a.b, .int .i64 a.t, .int .i64 a.m, .int .i64 a.p, .int .i64 a.c, .int .i64 a.s, .int .i64 a.k] 23)).alloc (.cells #[.int .i64 b.d, .int .i64 b.i, .int .i64 b.b, .int .i64 b.t, .int .i64 b.m, .int .i64 b.p, .int .i64 b.c, .int .i64 b.s, .int .i64 b.k] 23)) (w.alloc (.cells #[.int .i64 a.d, .int .i64 a.i, .int .i64 a.b, .int .i64 a.t, .int .i64 a.m, .int .i64 a.p, .int .i64 a.c, .int .i64 a.s, .int .i64 a.k] 23)).heap.size b := El.In.new (E := rpE) (w.alloc (.cells #[.int .i64 a.d, .int .i64 a.i, .int .i64 a.b, .int .i64 a.t, .int .i64 a.m, .int .i64 a.p, .int .i64 a.c, .int .i64 a.s, .int .i64 a.k] 23)) b _ rfl
  rw [alloc_size] at hQ
  have hB := below_alloc (below_alloc (Below.refl w.heap.size w) (.cells #[.int .i64 a.d, .int .i64 a.i, .int .i64 a.b, .int .i64 a.t, .int .i64 a.m, .int .i64 a.p, .int .i64 a.c, .int .i64 a.s, .int .i64 a.k] 23)) (.cells #[.int .i64 b.d, .int .i64 b.i, .int .i64 b.b, .int .i64 b.t, .int .i64 b.m, .int .i64 b.p, .int .i64 b.c, .int .i64 b.s, .int .i64 b.k] 23)
  go_enter Try.func3, Try.ntmps3
  go_wp2_with fail
  generalize (w.alloc (.cells #[.int .i64 a.d, .int .i64 a.i, .int .i64 a.b, .int .i64 a.t, .int .i64 a.m, .int .i64 a.p, .int .i64 a.c, .int .i64 a.s, .int .i64 a.k] 23)).alloc (.cells #[.int .i64 b.d, .int .i64 b.i, .int .i64 b.b, .int .i64 b.t, .int .i64 b.m, .int .i64 b.p, .int .i64 b.c, .int .i64 b.s, .int .i64 b.k] 23) = W0 at *
  obtain ⟨n2, hn2⟩ : ∃ n, w.heap.size + 1 = n := ⟨_, rfl⟩
  obtain ⟨n1, hn1⟩ : ∃ n, w.heap.size = n := ⟨_, rfl⟩
  rw [hn2] at hQ ⊢
  rw [hn1] at hP ⊢
  clear hn1 hn2
  replace hP : rpE.In W0.drew n1 a := hP
  replace hQ : rpE.In W0.drew n2 b := hQ
  replace hB := hB.drew
  go_region_held3 (fun w' => (w'.cell? ⟨n1, 0, none⟩ = some (.int .i64 a.d) ∧ w'.cell? ⟨n1, 1, none⟩ = some (.int .i64 a.i) ∧ w'.cell? ⟨n1, 2, none⟩ = some (.int .i64 a.b) ∧ w'.cell? ⟨n1, 3, none⟩ = some (.int .i64 a.t) ∧ w'.cell? ⟨n1, 4, none⟩ = some (.int .i64 a.m) ∧ w'.cell? ⟨n1, 5, none⟩ = some (.int .i64 a.p) ∧ w'.cell? ⟨n1, 6, none⟩ = some (.int .i64 a.c) ∧ w'.cell? ⟨n1, 7, none⟩ = some (.int .i64 a.s) ∧ w'.cell? ⟨n1, 8, none⟩ = some (.int .i64 a.k)) ∧ (w'.cell? ⟨n2, 0, none⟩ = some (.int .i64 b.d) ∧ w'.cell? ⟨n2, 1, none⟩ = some (.int .i64 b.i) ∧ w'.cell? ⟨n2, 2, none⟩ = some (.int .i64 b.b) ∧ w'.cell? ⟨n2, 3, none⟩ = some (.int .i64 b.t) ∧ w'.cell? ⟨n2, 4, none⟩ = some (.int .i64 b.m) ∧ w'.cell? ⟨n2, 5, none⟩ = some (.int .i64 b.p) ∧ w'.cell? ⟨n2, 6, none⟩ = some (.int .i64 b.c) ∧ w'.cell? ⟨n2, 7, none⟩ = some (.int .i64 b.s) ∧ w'.cell? ⟨n2, 8, none⟩ = some (.int .i64 b.k))) (with_reducible exact ⟨rpIn9 hP, rpIn9 hQ⟩) (first | (go_at_call 8; (with_reducible refine (HA.out _).mono ?_); rintro r w4 ⟨rfl, hb4⟩; have hP := hP.below hb4; have hQ := hQ.below hb4; have hB := hB.trans (hb4.mono hB.size)) | (go_at_call 9; (with_reducible refine (HR.out _).mono ?_); rintro r w4 ⟨rfl, hb4⟩; have hP := hP.below hb4; have hQ := hQ.below hb4; have hB := hB.trans (hb4.mono hB.size)) | (go_at_call 10; (with_reducible refine (HRR.out _).mono ?_); rintro r w4 ⟨rfl, hb4⟩; have hP := hP.below hb4; have hQ := hQ.below hb4; have hB := hB.trans (hb4.mono hB.size)) | (go_at_call 11; (with_reducible refine (HN.out _).mono ?_); rintro r w4 ⟨rfl, hb4⟩; have hP := hP.below hb4; have hQ := hQ.below hb4; have hB := hB.trans (hb4.mono hB.size)) | (go_at_call 12; (with_reducible refine (HRN.out _).mono ?_); rintro r w4 ⟨rfl, hb4⟩; have hP := hP.below hb4; have hQ := hQ.below hb4; have hB := hB.trans (hb4.mono hB.size)) | (go_at_call 13; (with_reducible refine (HPR.out _).mono ?_); rintro r w4 ⟨rfl, hb4⟩; have hP := hP.below hb4; have hQ := hQ.below hb4; have hB := hB.trans (hb4.mono hB.size)) | (go_at_call 14; (with_reducible refine (HRP.out _).mono ?_); rintro r w4 ⟨rfl, hb4⟩; have hP := hP.below hb4; have hQ := hQ.below hb4; have hB := hB.trans (hb4.mono hB.size)))
  go_wp2_with fail
  go_ret
  exact ⟨rfl, hB⟩
set_option maxRecDepth 100000 in
theorem tells14_lifted (H0 : ReportCalls) (os : Os) (started : os.Started) (H : Type) (enc : TypeId × Value → H) :
    ReturnsInHanded {} Try.checked os 3 .any (Rows.reportTellsSpec.pre6 enc Try.prog Try.f3 Rows.reportTellsRow.domain false) (Rows.reportTellsSpec.post enc Try.prog Try.f3 false true false false) := by
  refine returnsInHanded_of_change (C := Try.checked) own started (by kernel_rfl) Try.func3
    (ChangeSpec.witness6 (enc := enc) (C := Try.checked) false ⟨#[], #[.agg #[.int .i64 0, .int .i64 0, .int .i64 0, .int .i64 0, .int .i64 0, .int .i64 0, .int .i64 0, .int .i64 0, .int .i64 0], .agg #[.int .i64 0, .int .i64 0, .int .i64 0, .int .i64 0, .int .i64 0, .int .i64 0, .int .i64 0, .int .i64 0, .int .i64 0]], []⟩ 8 (by kernel_rfl) (by kernel_rfl) (by kernel_rfl) (by kernel_rfl)) ?_
  intro W base args ds gs before hval0 hW _ _
  have hval : ∀ (j : Nat) t v, Try.f3.params[j]? = some t → args[j]? = some v → Value.okWide Try.prog W .any base t v := hval0
  have hW' := hW
  obtain ⟨p, q, hA0, hV, rfl, _, _⟩ := hW
  have hA : DataW.TrodAll enc Try.prog W 0 (fun _ => true) true Try.f3.params.toList args.toList ds p := hA0
  rw [Try.params3] at hA hval
  obtain ⟨v0, v1, d0, d1, p0, p1, rfl, rfl, rfl, h0, h1⟩ := trodAll_two hA
  obtain ⟨a, rfl, hwa⟩ := open_rp (hval 0 23 v0 rfl rfl) h0
  obtain ⟨b, rfl, hwb⟩ := open_rp (hval 1 23 v1 rfl rfl) h1
  have hc : Calls Try.prog 3 #[.agg #[.int .i64 a.d, .int .i64 a.i, .int .i64 a.b, .int .i64 a.t, .int .i64 a.m, .int .i64 a.p, .int .i64 a.c, .int .i64 a.s, .int .i64 a.k], .agg #[.int .i64 b.d, .int .i64 b.i, .int .i64 b.b, .int .i64 b.t, .int .i64 b.m, .int .i64 b.p, .int .i64 b.c, .int .i64 b.s, .int .i64 b.k]] W fun e w' => e = .returned (.bool true) ∧ Below W.heap.size W w' := by
    exact tells14_walk H0 a b W hwa
  refine hc.mono fun e W' ⟨he, hb⟩ => ?_
  subst he
  exact ⟨_, rfl, Frm.law_post (by kernel_rfl) (by kernel_rfl) (by kernel_rfl) Try.underlying4 rfl rfl hW' hb⟩

theorem tells14_holds (H0 : ReportCalls) : Rows.ReportTellsSaid :=
  OpenClaim.holds_of_wide 3 Try.f3 rfl rfl rfl rfl rfl rfl rfl ⟨rfl, rfl, rfl, rfl, rfl⟩ rfl rfl rfl rfl rfl (by kernel_rfl) Try.func3 (by kernel_rfl)
    (of_decide_eq_true (by kernel_rfl)) (by unfold Func.isWrapper; first | (rw [if_pos (by decide +kernel)]; kernel_rfl) | (rw [if_neg (by decide +kernel)]; exact ⟨rfl, rfl⟩))
    (fun os started H enc _ => tells14_lifted H0 os started H enc)
end Go.Proofs.Ytknoabafpgdooaa

namespace Go.Proofs.Ytknoabafpgdooaa
theorem reportTells_all : Rows.ReportTellsSaid := tells14_holds reportCalls
end Go.Proofs.Ytknoabafpgdooaa
