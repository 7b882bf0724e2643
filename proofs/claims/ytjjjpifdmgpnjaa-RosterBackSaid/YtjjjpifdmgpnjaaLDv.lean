/- RosterBack is proved: members that may be are read from their bytes as they were. No condition. -/
import Derived.Test.YtjjjpifdmgpnjaaB05
namespace Go.Proofs.Ytjjjpifdmgpnjaa
open Go.ChangeShapes Go.WideShapes Go.ChangeAt Go.RowKit Go.Deep Cod

theorem mbs_read {l l' : List Mb} {Z : ByteArray} {q : Nat} {bad : Bool} (h : mbsB l = true) (hst : mbsStep (mbK.part l ++ Z) 0 false l' q bad) : l' = l ∧ q = (mbK.part l).size ∧ bad = false := by
  have h1 := mbs_there ⟨#[]⟩ Z h
  have e : (⟨#[]⟩ : ByteArray) ++ (mbK.part l ++ Z) = mbK.part l ++ Z := L_inj (by rw [L_app]; simp [L])
  rw [e] at h1
  have e2 : (⟨#[]⟩ : ByteArray).size = 0 := rfl
  rw [e2, Nat.zero_add] at h1
  rcases hst with ⟨h2, rfl⟩ | ⟨h2, _, _⟩
  · rw [h1] at h2
    injection h2 with h2
    injection h2 with h3 h4
    exact ⟨h3.symm, h4.symm, rfl⟩
  · rw [h1] at h2; cases h2
set_option maxRecDepth 100000 in
set_option maxHeartbeats 8000000 in
theorem back16_walk (H : RosterCalls) (A : Option Addr) (c : Nat) (l : List Mb) (s : ByteArray) (w : World) (hT : SlV mbE w A c l) (hq : ∀ m ∈ l, MbQ m) (hl : l.length ≤ reachBytes) (hs : s.size ≤ maxLen) :
    Calls Try.prog 5 #[.slice A l.length c, .string s] w fun e w' => e = .returned (.bool true) ∧ Below w.heap.size w w' := by
  have hB := Below.refl w.heap.size w
  have HWH := Lib.hid (fun (wx : World) (hb : Below w.heap.size w wx) => whole16_any A c l wx (by unfold reachBytes at hl; omega) (hT.1.below hb) (fun m hm => by have := (hq m hm).f; unfold maxLen at this; omega))
  have HA := Lib.hid (fun wx => awake16_any H wx)
  have HT := Lib.hid hT
  have HQ := Lib.hid hq
  unfold maxLen at hs
  clear hT hq hl
  go_enter Try.func5, Try.ntmps5
  go_wp2_with fail
  refine (HWH.out _ hB).mono ?_
  rintro e w2 ⟨bv, rfl, hbv, hb2⟩
  replace hB := below_then hB hb2
  clear hb2 HWH
  cases bv with
  | false =>
    go_wp2_with fail
    refine (HA.out _).mono ?_
    rintro e w3 ⟨rfl, hb3⟩
    go_wp2_with fail
    go_ret
    exact ⟨rfl, below_then hB hb3⟩
  | true =>
    obtain ⟨h4, hsum⟩ := hbv.out rfl
    clear hbv
    have HMW := Lib.hid (show ∀ m ∈ l, MbW m from fun m hm => (HQ.out m hm).wide (by have := sumF_mem hm; omega))
    have D1 := Lib.hid (fun wx (hb : Below w.heap.size w wx) => H.right A c l wx (by omega) (SlV.below HT.out hb) HMW.out)
    have hz := mbPart_le HMW.out h4 hsum
    by_cases h5 : s.size ≤ 500
    · have f1 : decide ((500 : Int) < (s.size : Int)) = false := decide_eq_false (by omega)
      have f2 : decide (500 < s.size) = false := decide_eq_false (by omega)
      cases hR : mbsB l with
      | false =>
        rw [hR] at D1
        clear h4 hsum hz HMW HT HQ h5
        go_wp2_with fail
        refine (D1.out _ hB).mono ?_
        rintro e w4 ⟨rfl, hb4⟩
        replace hB := below_then hB hb4
        clear hb4
        go_wp2_with fail
        refine (HA.out _).mono ?_
        rintro e w3 ⟨rfl, hb3⟩
        go_wp2_with fail
        go_ret
        exact ⟨rfl, below_then hB hb3⟩
      | true =>
        rw [hR] at D1
        have HR := Lib.hid hR
        have D2 := Lib.hid (fun wx (hb : Below w.heap.size w wx) => H.print A c l wx (by omega) (SlV.below HT.out hb) HMW.out (by omega))
        have D4 := Lib.hid (fun (A' : Option Addr) (c' : Nat) (l' : List Mb) (e : l' = l) wx (hb : Below w.heap.size w wx) (h2 : mbE.Sl wx A' l') => (sameMb_iff A A' c c' l l' wx (by omega) (by rw [e]; omega) (HT.out.1.below hb) h2).mono (by
          rintro e1 w' ⟨bb, rfl, hbb, hb2⟩
          have e2 : bb = true := hbb.2 e.symm
          subst e2
          exact ⟨rfl, hb2⟩ : ∀ (e1 : Ending) (w' : World), _ → (e1 = .returned (.bool true) ∧ Below wx.heap.size wx w')))
        have hyz : ¬ 9223372036854775807 < (mbK.part l).size + s.size := by omega
        have htz : (mbK.part l ++ s).size ≤ 1000000 := by rw [ByteArray.size_append]; omega
        have HRD := Lib.hid (fun (l' : List Mb) (q : Nat) (bad : Bool) => (mbs_read (l' := l') (Z := s) (q := q) (bad := bad) HR.out))
        clear h4 hsum hz HMW HQ hR h5
        go_wp2_with fail
        refine (D1.out _ hB).mono ?_
        rintro e w4 ⟨rfl, hb4⟩
        replace hB := below_then hB hb4
        clear hb4 D1
        go_wp2_with fail
        refine (D2.out _ hB).mono ?_
        rintro e w5 ⟨rfl, hb5⟩
        replace hB := below_then hB hb5
        clear hb5 D2
        generalize mbK.part l = T at *
        go_upto_region 5 with fail
        clear hyz
        have hRr := Rd.new w5 43 (T ++ s) 0 rfl
        have hwb := hB.size
        replace hB := below_alloc hB (.cells #[.string (T ++ s), .int .i64 0, .bool false] 43)
        generalize w5.alloc (.cells #[.string (T ++ s), .int .i64 0, .bool false] 43) = V at *
        generalize w5.heap.size = b at *
        have CRD := Lib.hid (H.read V b 0 (T ++ s) false htz (Nat.zero_le _) hRr)
        clear hRr htz
        go_wp2_with fail
        refine CRD.out.mono ?_
        rintro e w6 ⟨A6, c6, l6, q, bad, rfl, hS6, hR6, hq6, hg6, hst⟩
        obtain ⟨hl6, hqz, hbz⟩ := HRD.out l6 q bad hst
        subst hqz hbz
        have HL6 := Lib.hid hl6
        replace hB := below_by hB hg6 hwb
        clear hst hg6 HRD hl6 CRD
        go_wp2_with fail
        refine (HA.out _).mono ?_
        rintro e w7 ⟨rfl, hb7⟩
        replace hR6 := hR6.below hb7
        replace hS6 := SlV.below hS6 hb7
        replace hB := below_then hB hb7
        clear hb7
        obtain ⟨r0, r1, r2⟩ := hR6.cells
        clear hq6
        go_wp2_with fail
        refine (D4.out A6 c6 l6 HL6.out _ hB hS6.1).mono ?_
        rintro e w8 ⟨rfl, hb8⟩
        go_wp2_with fail
        go_ret
        exact ⟨by simp, below_then hB hb8⟩
    · have f1 : decide ((500 : Int) < (s.size : Int)) = true := decide_eq_true (by omega)
      have f2 : decide (500 < s.size) = true := decide_eq_true (by omega)
      clear h4 hsum hz h5 HMW HQ HT D1
      go_wp2_with fail
      refine (HA.out _).mono ?_
      rintro e w3 ⟨rfl, hb3⟩
      go_wp2_with fail
      go_ret
      exact ⟨rfl, below_then hB hb3⟩
set_option maxRecDepth 100000 in
theorem back16_lifted (H0 : RosterCalls) (os : Os) (started : os.Started) (H : Type) (enc : TypeId × Value → H) :
    ReturnsInHanded {} Try.checked os 5 .any (Rows.rosterBackSpec.pre6 enc Try.prog Try.f5 Rows.rosterBackRow.domain false) (Rows.rosterBackSpec.post enc Try.prog Try.f5 false true false false) := by
  refine handed_sized (C := Try.checked) own started (by kernel_rfl) Try.func5
    (ChangeSpec.witness6 (enc := enc) (C := Try.checked) false ⟨#[], #[.slice none 0 0, .string ⟨#[]⟩], []⟩ 8 (by kernel_rfl) (by kernel_rfl) (by kernel_rfl) (by kernel_rfl)) ?_
  intro W base args ds gs before hval0 hW hL0
  have hval : ∀ (j : Nat) t v, Try.f5.params[j]? = some t → args[j]? = some v → Value.okWide Try.prog W .any base t v := hval0
  have hW' := hW
  obtain ⟨p, q, hA0, hV, rfl, _, _⟩ := hW
  have hA : DataW.TrodAll enc Try.prog W 0 (fun _ => true) true Try.f5.params.toList args.toList ds p := hA0
  rw [Try.params5] at hA hval
  obtain ⟨v0, v1, d0, d1, p0, p1, rfl, rfl, rfl, h0, h1⟩ := trodAll_two hA
  simp only [Try.params5, List.cons_append, List.nil_append, DataW.weightsEach, List.all_append, Bool.and_eq_true] at hL0
  obtain ⟨A, c, l, rfl, hS, hn, hq⟩ := open_mbsN (hval 0 22 v0 rfl rfl) h0 hL0.1
  obtain ⟨s, rfl, hs⟩ := open_str (hval 1 9 v1 rfl rfl) h1
  have hc : Calls Try.prog 5 #[.slice A l.length c, .string s] W fun e w' => e = .returned (.bool true) ∧ Below W.heap.size W w' := by
    exact back16_walk H0 A c l s W hS hq hn hs
  refine hc.mono fun e W' ⟨he, hb⟩ => ?_
  subst he
  exact ⟨_, rfl, Frm.law_post (by kernel_rfl) (by kernel_rfl) (by kernel_rfl) Try.underlying4 rfl rfl hW' hb⟩

theorem back16_holds (H0 : RosterCalls) : Rows.RosterBackSaid :=
  OpenClaim.holds_of_wide 5 Try.f5 rfl rfl rfl rfl rfl rfl rfl ⟨rfl, rfl, rfl, rfl, rfl⟩ rfl rfl rfl rfl rfl (by kernel_rfl) Try.func5 (by kernel_rfl)
    (of_decide_eq_true (by kernel_rfl)) (by unfold Func.isWrapper; first | (rw [if_pos (by decide +kernel)]; kernel_rfl) | (rw [if_neg (by decide +kernel)]; exact ⟨rfl, rfl⟩))
    (fun os started H enc _ => back16_lifted H0 os started H enc)
end Go.Proofs.Ytjjjpifdmgpnjaa

namespace Go.Proofs.Ytjjjpifdmgpnjaa
theorem rosterBack_all : Rows.RosterBackSaid := back16_holds rosterCalls
end Go.Proofs.Ytjjjpifdmgpnjaa
