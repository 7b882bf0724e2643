/- Whether any past is one: the law. -/
import Derived.Test.YtoidondngoljaaaC06
namespace Go.Proofs.Ytoidondngoljaaa
open Go.ChangeShapes Go.WideShapes Go.ChangeAt Go.RowKit Go.Deep Nam Cod Tre Pst

set_option maxRecDepth 100000 in
set_option maxHeartbeats 4000000 in
theorem rights_any (x : Pw) (w : World) (hx : PastOk w x) (hsb : ∀ p ∈ x.base, WidePl p) (hso : ∀ m ∈ x.ops, WideMv m) :
    Calls Try.prog 4 #[.agg #[.slice x.bA x.base.length x.bc, .int .i64 x.t, .slice x.oA x.ops.length x.oc, .slice x.uA x.us.length x.uc, .slice x.wA x.now.length x.wc]] w fun e w' => e = .returned (.bool true) ∧ Below w.heap.size w w' := by
  have h1 : ∀ p ∈ x.base, p.s.size ≤ 9223372036854775807 := fun p hp => Nat.le_trans (hsb p hp).2.2 (by unfold maxLen; omega)
  have h2 := opsz hso
  have hP : pwE.In (w.alloc (.cells #[.slice x.bA x.base.length x.bc, .int .i64 x.t, .slice x.oA x.ops.length x.oc, .slice x.uA x.us.length x.uc, .slice x.wA x.now.length x.wc] 29)) w.heap.size x := El.In.new (E := pwE) w x _ rfl
  have hB := below_alloc (Below.refl w.heap.size w) (.cells #[.slice x.bA x.base.length x.bc, .int .i64 x.t, .slice x.oA x.ops.length x.oc, .slice x.uA x.us.length x.uc, .slice x.wA x.now.length x.wc] 29)
  have hx1 := hx.below hB
  clear hx
  classical
  obtain ⟨bv, hbv⟩ : ∃ bv : Bool, bv = true ↔ PastR x.v := ⟨decide (PastR x.v), by simp⟩
  by_cases hlen : x.base.length ≤ 100 ∧ x.ops.length ≤ 60 ∧ x.now.length ≤ 200 ∧ x.us.length ≤ 100
  · obtain ⟨hl1, hl2, hl3, hl4⟩ := hlen
    have C1 := fun w (h : PastOk w x) => pRight_any x w h (by omega) (by omega) (by omega) (by omega) h1 h2 bv hbv
    have C2 := fun w (h : PastOk w x) => refPastRight_any x w h (by omega) (by omega) (by omega) (by omega) h1 h2 bv hbv
    have HC1 := Lib.hid C1
    have HC2 := Lib.hid C2
    clear C1 C2 h1 h2 hsb hso hbv
    obtain ⟨bA, bc, base, t, oA, oc, ops, uA, uc, us, wA, wc, now⟩ := x
    simp only at hl1 hl2 hl3 hl4
    have HX := Lib.hid hx1
    clear hx1
    have k0 : ¬ 100 < (base.length : Int) := by omega
    have k1 : ¬ 60 < (ops.length : Int) := by omega
    have k2 : ¬ 200 < (now.length : Int) := by omega
    have k3 : ¬ 100 < (us.length : Int) := by omega
    go_enter Try.func4, Try.ntmps4
    go_wp2_with fail
    generalize w.alloc (.cells #[.slice bA base.length bc, .int .i64 t, .slice oA ops.length oc, .slice uA us.length uc, .slice wA now.length wc] 29) = W at *
    obtain ⟨n0, h0⟩ : ∃ n, w.heap.size = n := ⟨_, rfl⟩
    rw [h0] at hP ⊢
    clear h0
    have hx : PastOk W.drew (⟨bA, bc, base, t, oA, oc, ops, uA, uc, us, wA, wc, now⟩ : Pw) := HX.out.below (Below.refl _ _).drew
    replace hP : pwE.In W.drew n0 (⟨bA, bc, base, t, oA, oc, ops, uA, uc, us, wA, wc, now⟩ : Pw) := hP
    replace hB : Below w.heap.size w W.drew := hB.drew
    go_region_held3 (fun w' => w'.cell? ⟨n0, 0, none⟩ = some (.slice bA base.length bc) ∧ w'.cell? ⟨n0, 1, none⟩ = some (.int .i64 t) ∧ w'.cell? ⟨n0, 2, none⟩ = some (.slice oA ops.length oc) ∧ w'.cell? ⟨n0, 3, none⟩ = some (.slice uA us.length uc) ∧ w'.cell? ⟨n0, 4, none⟩ = some (.slice wA now.length wc)) (with_reducible exact pwIn5 hP) (first | (go_at_call 11; (with_reducible refine (awake_any _).mono ?_); rintro e w3 ⟨rfl, hb3⟩; have hP := hP.below hb3; have hx := hx.below hb3; have hB := hB.trans (hb3.mono hB.size)) | (go_at_call 17; (with_reducible refine (HC1.out _ hx).mono ?_); rintro e w3 ⟨rfl, hb3⟩; have hP := hP.below hb3; have hx := hx.below hb3; have hB := hB.trans (hb3.mono hB.size)) | (go_at_call 24; (with_reducible refine (HC2.out _ hx).mono ?_); rintro e w3 ⟨rfl, hb3⟩; have hP := hP.below hb3; have hx := hx.below hb3; have hB := hB.trans (hb3.mono hB.size)))
    go_wp2_with fail
    go_ret
    exact ⟨by cases bv <;> rfl, hB⟩
  · clear hbv h1 h2 hsb hso
    obtain ⟨bA, bc, base, t, oA, oc, ops, uA, uc, us, wA, wc, now⟩ := x
    simp only at hlen
    by_cases k0 : 100 < (base.length : Int)
    · skip
      go_enter Try.func4, Try.ntmps4
      go_wp2_with fail
      refine (awake_any _).mono ?_
      rintro e w1 ⟨rfl, hb1⟩
      replace hB := hB.trans (hb1.mono hB.size)
      go_wp2_with fail
      go_ret
      exact ⟨rfl, hB⟩
    · by_cases k1 : 60 < (ops.length : Int)
      · skip
        go_enter Try.func4, Try.ntmps4
        go_wp2_with fail
        refine (awake_any _).mono ?_
        rintro e w1 ⟨rfl, hb1⟩
        replace hB := hB.trans (hb1.mono hB.size)
        go_wp2_with fail
        go_ret
        exact ⟨rfl, hB⟩
      · by_cases k2 : 200 < (now.length : Int)
        · skip
          go_enter Try.func4, Try.ntmps4
          go_wp2_with fail
          refine (awake_any _).mono ?_
          rintro e w1 ⟨rfl, hb1⟩
          replace hB := hB.trans (hb1.mono hB.size)
          go_wp2_with fail
          go_ret
          exact ⟨rfl, hB⟩
        · by_cases k3 : 100 < (us.length : Int)
          · skip
            go_enter Try.func4, Try.ntmps4
            go_wp2_with fail
            refine (awake_any _).mono ?_
            rintro e w1 ⟨rfl, hb1⟩
            replace hB := hB.trans (hb1.mono hB.size)
            go_wp2_with fail
            go_ret
            exact ⟨rfl, hB⟩
          · exact absurd ⟨by omega, by omega, by omega, by omega⟩ hlen

set_option maxRecDepth 100000 in
theorem rights_lifted (os : Os) (started : os.Started) (H : Type) (enc : TypeId × Value → H) :
    ReturnsInHanded {} Try.checked os 4 .any (Rows.pastRightsSpec.pre6 enc Try.prog Try.f4 Rows.pastRightsRow.domain false) (Rows.pastRightsSpec.post enc Try.prog Try.f4 false true false false) := by
  refine returnsInHanded_of_change (C := Try.checked) own started (by kernel_rfl) Try.func4
    (ChangeSpec.witness6 (enc := enc) (C := Try.checked) false ⟨#[], #[.agg #[.slice none 0 0, .int .i64 0, .slice none 0 0, .slice none 0 0, .slice none 0 0]], []⟩ 8 (by kernel_rfl) (by kernel_rfl) (by kernel_rfl) (by kernel_rfl)) ?_
  intro W base args ds gs before hval0 hW _ _
  have hval : ∀ (j : Nat) t v, Try.f4.params[j]? = some t → args[j]? = some v → Value.okWide Try.prog W .any base t v := hval0
  have hW' := hW
  obtain ⟨p, q, hA0, hV, rfl, _, _⟩ := hW
  have hA : DataW.TrodAll enc Try.prog W 0 (fun _ => true) true Try.f4.params.toList args.toList ds p := hA0
  rw [Try.params4] at hA hval
  obtain ⟨v0, d0, rfl, rfl, h0⟩ := trodAll_one hA
  obtain ⟨x, rfl, hx, hb, ho⟩ := open_past (hval 0 29 v0 rfl rfl) h0
  refine (rights_any x W hx hb ho).mono fun e W' ⟨he, hb⟩ => ?_
  subst he
  exact ⟨_, rfl, Frm.law_post (by kernel_rfl) (by kernel_rfl) (by kernel_rfl) Try.underlying4 rfl rfl hW' hb⟩

theorem rights_holds : Rows.PastRightsSaid :=
  OpenClaim.holds_of_wide 4 Try.f4 rfl rfl rfl rfl rfl rfl rfl ⟨rfl, rfl, rfl, rfl, rfl⟩ rfl rfl rfl rfl rfl (by kernel_rfl) Try.func4 (by kernel_rfl)
    (of_decide_eq_true (by kernel_rfl)) (by unfold Func.isWrapper; first | (rw [if_pos (by decide +kernel)]; kernel_rfl) | (rw [if_neg (by decide +kernel)]; exact ⟨rfl, rfl⟩))
    (fun os started H enc _ => rights_lifted os started H enc)
end Go.Proofs.Ytoidondngoljaaa
