/- CodeBack is proved: numbers (200 at most), a text (2,000 bytes at most) and a bool, written one behind the other, are read as they were, and nothing is left. Conditions: none. -/
import Derived.Test.YtkblehooadojjaaBk
import Derived.Deep.RegionHeld3
import Derived.ChangeSlices
namespace Go.Proofs.Ytkblehooadojjaa
open Go.ChangeShapes Go.WideShapes Go.ChangeAt Go.RowKit Cod

theorem back_long (A : Option Addr) (len cap : Nat) (s : ByteArray) (b : Bool) (w : World) (h : 200 < len ∨ 2000 < s.size) :
    Calls Try.prog 5 #[.slice A len cap, .string s, .bool b] w fun e w' => e = .returned (.bool true) ∧ Below w.heap.size w w' := by
  by_cases h1 : 200 < len
  · clear h
    go_enter Try.func5, Try.ntmps5
    go_wp2_with (go_at_call 8; (with_reducible refine (awake_any _).mono ?_); rintro e w1 ⟨rfl, hb1⟩)
    go_ret
    exact ⟨rfl, hb1⟩
  · have h2 : 2000 < s.size := by omega
    clear h
    go_enter Try.func5, Try.ntmps5
    go_wp2_with (go_at_call 8; (with_reducible refine (awake_any _).mono ?_); rintro e w1 ⟨rfl, hb1⟩)
    go_ret
    exact ⟨rfl, hb1⟩

theorem bcell {W w1 : World} (hb : Below W.heap.size W w1) : (∀ b o, b < W.heap.size → w1.cell? ⟨b, o, none⟩ = W.cell? ⟨b, o, none⟩) ∧ (∀ b o, b < W.heap.size → w1.frozen? ⟨b, o, none⟩ = W.frozen? ⟨b, o, none⟩) :=
  ⟨fun b o h => hb.cell (p := ⟨b, o, none⟩) h, fun b o h => hb.frozen (p := ⟨b, o, none⟩) h⟩

/-- The slice A reads as f. -/
def Ints (w : World) (A : Option Addr) (len : Nat) (f : Nat → Int) : Prop :=
  0 < len → ∃ b off, A = some ⟨b, off, none⟩ ∧ b < w.heap.size ∧ ∀ i, i < len → w.cell? ⟨b, off + i, none⟩ = some (.int .i64 (f i))

set_option maxRecDepth 100000 in
set_option maxHeartbeats 4000000 in
theorem back_walk (A : Option Addr) (len cap : Nat) (f : Nat → Int) (s : ByteArray) (b : Bool) (w : World) (hlen : len ≤ 200) (hs : s.size ≤ 2000) (hf : Fits f len) (hA : Ints w A len f) :
    Calls Try.prog 5 #[.slice A len cap, .string s, .bool b] w fun e w' => e = .returned (.bool true) ∧ Below w.heap.size w w' := by
  have HA := Lib.hid hA
  have HF := Lib.hid hf
  clear hA hf
  go_enter Try.func5, Try.ntmps5
  go_wp2
  go_loopw [7, 8] (fun v i wr => ∃ k : Nat, k ≤ len ∧ i = .int .i64 k ∧ v = .string (catF f k) ∧ Below w.heap.size w wr) (fun _ i _ => len - (intOf i).toNat)
  case atStart => exact ⟨0, Nat.zero_le _, rfl, rfl, Below.refl _ _⟩
  case round =>
    obtain ⟨k, hk, rfl, rfl, hnx⟩ := hrel
    have hcl := cat_le f len HF.out k hk
    by_cases hlt : k < len
    · obtain ⟨bb, off, rfl, hbw, hc⟩ := HA.out (by omega)
      have hcx : wr.cell? ⟨bb, off + k, none⟩ = some (.int .i64 (f k)) := by rw [(bcell hnx).1 _ _ hbw]; exact hc k hlt
      have CN := Lib.hid (fun w => num_any (f k) w (HF.out k hlt).1 (HF.out k hlt).2)
      have hsz := bytesOf_le (f k) (HF.out k hlt).1 (HF.out k hlt).2
      have HS := Lib.hid (show catF f (k + 1) = catF f k ++ bytesOf (f k) from rfl)
      clear hc
      go_wp2_with (go_at_call 9; (with_reducible refine (CN.out _).mono ?_); rintro e w1 ⟨rfl, hb1⟩)
      go_roundw
      case rel => exact ⟨k + 1, by omega, by go_num, by rw [HS.out], below_then hnx hb1⟩
      case measure => simp [intOf]; omega
    · obtain rfl : k = len := by omega
      clear hlt
      have hts : (textOf s).size ≤ 2010 := by
        unfold textOf; rw [ByteArray.size_append]
        have := bytesOf_le s.size (by omega) (by omega)
        omega
      have hbs := bit_size' b
      have CT := Lib.hid (fun w => text_any s w (by omega))
      have CB := Lib.hid (fun w => bit_any b w)
      have HT := Lib.hid (tail_text (catF f k) s b hs)
      have HB := Lib.hid (tail_bool (catF f k) s b)
      have HN := Lib.hid (fun j (hj : j < k) => (by rw [ByteArray.append_assoc]; exact cat_num f j k hj HF.out (textOf s ++ bitOf b) : isNum (catF f k ++ textOf s ++ bitOf b) (posF f j) false = some (f j, posF f (j + 1))))
      have hR : (catF f k ++ textOf s ++ bitOf b).size = (catF f k).size + (textOf s).size + (bitOf b).size := by rw [ByteArray.size_append, ByteArray.size_append]
      go_wp2_with (first | (go_at_call 11; (with_reducible refine (CT.out _).mono ?_); rintro e w1 ⟨rfl, hb1⟩) | (go_at_call 13; (with_reducible refine (CB.out _).mono ?_); rintro e w2 ⟨rfl, hb2⟩))
      have B2 := below_then (below_then hnx hb1) hb2
      have hsz2 : w.heap.size ≤ w2.heap.size := B2.size
      have hr0 := Rd.new w2 31 (catF f k ++ textOf s ++ bitOf b) 0 rfl
      have hB0 := below_alloc B2 (.cells #[.string (catF f k ++ textOf s ++ bitOf b), .int .i64 0, .bool false] 31)
      have hRs : (catF f k ++ textOf s ++ bitOf b).size ≤ 1000000 := by omega
      have hPs : posF f k + (textOf s).size ≤ (catF f k ++ textOf s ++ bitOf b).size := by unfold posF; omega
      have HT' := Lib.hid (show isText (catF f k ++ textOf s ++ bitOf b) (posF f k) false 2000 = some (s, posF f k + (textOf s).size) from HT.out)
      have HB' := Lib.hid (show isBool (catF f k ++ textOf s ++ bitOf b) (posF f k + (textOf s).size) false = some (b, (catF f k ++ textOf s ++ bitOf b).size) from HB.out)
      clear HT HB hR hb1 hb2 hnx B2 CT CB
      generalize posF f k + (textOf s).size = P2 at hPs HT' HB'
      generalize hW0 : w2.alloc (.cells #[.string (catF f k ++ textOf s ++ bitOf b), .int .i64 0, .bool false] 31) = W0 at hr0 hB0 ⊢
      clear hW0
      generalize catF f k ++ textOf s ++ bitOf b = R at hr0 hRs hPs HT' HB' HN ⊢
      generalize w2.heap.size = B at hsz2 hr0 ⊢
      have hp0 : posF f 0 = 0 := rfl
      have hpk : ∀ j, j ≤ k → posF f j ≤ R.size := by
        intro j hj
        by_cases e : j < k
        · exact Nat.le_trans (Nat.le_of_lt (isNum_some (HN.out j e)).2.2.2.1) (isNum_some (HN.out j e)).2.2.1
        · obtain rfl : j = k := by omega
          obtain ⟨n, q, h1, _⟩ := isText_some HT'.out
          exact Nat.le_trans (Nat.le_of_lt (isNum_some (isCount_some h1).1).2.2.2.1) (isNum_some (isCount_some h1).1).2.2.1
      have HPK := Lib.hid hpk
      clear hpk hp0
      have HR0 := Lib.hid hr0
      clear hr0
      go_loopw [10] (fun i wr => ∃ n : Nat, n ≤ k ∧ i = .int .i64 n ∧ Rd 31 wr B R (posF f n) false ∧ Below w.heap.size w wr) (fun i _ => k - (intOf i).toNat)
      case atStart => exact ⟨0, Nat.zero_le _, rfl, HR0.out, hB0⟩
      case round =>
        obtain ⟨n, hn, rfl, hr1, hnx⟩ := hrel
        by_cases hlt : n < k
        · obtain ⟨bb, off, rfl, hbw, hc⟩ := HA.out (by omega)
          have hcx : wr.cell? ⟨bb, off + n, none⟩ = some (.int .i64 (f n)) := by rw [(bcell hnx).1 _ _ hbw]; exact hc n hlt
          have hne : some bb ≠ some B := fun e => by have := Option.some.inj e; omega
          have CN := Lib.hid (fun (w : World) (hr : Rd 31 w B R (posF f n) false) => rnum_yes hRs (HPK.out n hn) hr (HN.out n hlt))
          have hn0 : (0 : Int) ≤ (n : Int) := by omega
          have hn1 : (n : Int) < (k : Int) := by omega
          have HC := Lib.hid hcx
          clear hc
          go_wp2
          go_region_held3 (fun w' => w'.cell? ⟨bb, off + n, none⟩ = some (.int .i64 (f n))) (first | go_keep | exact hb3.cell HC.out hne) ((go_at_call 17; refine (CN.out wr.drew hr1).mono ?_; rintro e w3 ⟨rfl, hr3, hb3⟩))
          go_wp2
          go_roundw
          case rel => exact ⟨n + 1, by omega, by go_num, hr3, below_by hnx.drew hb3 hsz2⟩
          case measure => simp [intOf]; omega
        · obtain rfl : n = k := by omega
          clear hlt
          have hP2 : P2 ≤ R.size := hPs
          have T1 := Lib.hid (fun (w : World) (hr : Rd 31 w B R (posF f n) false) => rtext_yes hRs (HPK.out n (Nat.le_refl _)) hr HT'.out)
          have T2 := Lib.hid (fun (w : World) (hr : Rd 31 w B R P2 false) => bool_yes hRs hP2 hr HB'.out)
          have hd : isDone R R.size false = true := by simp [isDone]
          have c3 := fun (w : World) (hr : Rd 31 w B R R.size false) => done_any (Nat.le_refl _) hr
          rw [hd] at c3
          have T3 := Lib.hid c3
          clear c3 hd
          go_wp2_with (first | (go_at_call 8; (with_reducible refine (awake_any _).mono ?_); rintro e w4 ⟨rfl, hb4⟩)
                             | (go_at_call 19; (with_reducible refine (T1.out _ (hr1.below hb4)).mono ?_); rintro e w5 ⟨rfl, hr5, hb5⟩)
                             | (go_at_call 21; (with_reducible refine (T2.out _ hr5).mono ?_); rintro e w6 ⟨rfl, hr6, hb6⟩; obtain ⟨hc0, hc1, hc2⟩ := hr6.cells)
                             | (go_at_call 25; (with_reducible refine (T3.out _ hr6).mono ?_); rintro e w7 ⟨rfl, n7, rfl⟩))
          go_ret
          exact ⟨rfl, below_by (below_by (below_by (below_then hnx hb4) hb5 hsz2) hb6 hsz2) (by_drewN (by_refl _ _) n7) hsz2⟩

theorem cells3 : Try.prog.cellsOf 3 = 1 := by kernel_rfl

set_option maxRecDepth 100000 in
theorem back_lifted (os : Os) (started : os.Started) (H : Type) (enc : TypeId × Value → H) :
    ReturnsInHanded {} Try.checked os 5 .any (Rows.codeBackSpec.pre6 enc Try.prog Try.f5 Rows.codeBackRow.domain false) (Rows.codeBackSpec.post enc Try.prog Try.f5 false true false false) := by
  refine returnsInHanded_of_change (C := Try.checked) own started (by kernel_rfl) Try.func5
    (ChangeSpec.witness6 (enc := enc) (C := Try.checked) false ⟨#[], #[.slice none 0 0, .string ⟨#[]⟩, .bool false], []⟩ 8 (by kernel_rfl) (by kernel_rfl) (by kernel_rfl) (by kernel_rfl)) ?_
  intro W base args ds gs before hval0 hW _ _
  have hval : ∀ (j : Nat) t v, Try.f5.params[j]? = some t → args[j]? = some v → Value.okWide Try.prog W .any base t v := hval0
  have hW' := hW
  obtain ⟨p, q, hA0, hV, rfl, _, _⟩ := hW
  have hA : DataW.TrodAll enc Try.prog W 0 (fun _ => true) true Try.f5.params.toList args.toList ds p := hA0
  rw [Try.params5] at hA hval
  obtain ⟨v0, v1, v2, d0, d1, d2, p0, p1, p2, rfl, rfl, rfl, h0, h1, h2⟩ := trodAll_three hA
  obtain ⟨a0, len, cap, rfl, _⟩ := okWide_slice Try.underlying39 (hval 0 39 v0 rfl rfl)
  obtain ⟨s, rfl, hs⟩ := open_str (hval 1 9 v1 rfl rfl) h1
  obtain ⟨b, rfl⟩ := open_tf (hval 2 4 v2 rfl rfl) h2
  have hc : Calls Try.prog 5 #[.slice a0 len cap, .string s, .bool b] W fun e w' => e = .returned (.bool true) ∧ Below W.heap.size W w' := by
    by_cases hbig : 200 < len ∨ 2000 < s.size
    · exact back_long a0 len cap s b W hbig
    · obtain ⟨fuel, hf⟩ := h0
      rcases open_ints Try.underlying39 Try.underlying3 cells3 hf with ⟨hcs, hx⟩ | ⟨a, len', cap', zs, hcs, _, hle, hm, hz, hx, hcell, hwf⟩
      · simp [Value.cells] at hcs
        obtain ⟨rfl, rfl, rfl⟩ := hcs
        exact back_walk none 0 0 (fun _ => 0) s b W (by omega) (by omega) (fun j hj => by omega) (fun h => by omega)
      · simp [Value.cells] at hcs
        obtain ⟨rfl, rfl, rfl⟩ := hcs
        simp only [if_true] at hz
        refine back_walk (some a) len cap (fun i => zs.getD i 0) s b W (by omega) (by omega) (fun j hj => ?_) (fun h => ?_)
        · have hm : zs.getD j 0 ∈ zs := by
            rw [List.getD_eq_getElem?_getD, List.getElem?_eq_getElem (by omega)]
            exact List.getElem_mem _
          have hb := bounds_i64 (hwf _ hm)
          exact hb
        · obtain ⟨bb, off, spot⟩ := a
          have hspot : spot = none := by simpa [Addr.add] using World.cell?_spot (hcell 0 (by omega))
          subst hspot
          exact ⟨bb, off, rfl, block_lt_of_cell (hcell 0 (by omega)), fun i hi => by rw [← add_plain]; exact hcell i (by omega)⟩
  refine hc.mono fun e W' ⟨he, hb⟩ => ?_
  subst he
  exact ⟨_, rfl, Frm.law_post (by kernel_rfl) (by kernel_rfl) (by kernel_rfl) Try.underlying4 rfl rfl hW' hb⟩

theorem back_holds : Rows.CodeBackSaid :=
  OpenClaim.holds_of_wide 5 Try.f5 rfl rfl rfl rfl rfl rfl rfl ⟨rfl, rfl, rfl, rfl, rfl⟩ rfl rfl rfl rfl rfl (by kernel_rfl) Try.func5 (by kernel_rfl)
    (of_decide_eq_true (by kernel_rfl)) (by unfold Func.isWrapper; first | (rw [if_pos (by decide +kernel)]; kernel_rfl) | (rw [if_neg (by decide +kernel)]; exact ⟨rfl, rfl⟩))
    (fun os started H enc _ => back_lifted os started H enc)

end Go.Proofs.Ytkblehooadojjaa
