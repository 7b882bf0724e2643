/- OpBack is proved: operations that may be, one behind the other, are read as they were, with what stands behind them left. Conditions: none. -/
import Derived.Test.YtkocehjomjaidaaBk
import Derived.Deep.RegionHeld3
namespace Go.Proofs.Ytkocehjomjaidaa
open Go.ChangeShapes Go.WideShapes Go.ChangeAt Go.RowKit Go.Deep Nam Cod

theorem back_long (A : Option Addr) (len cap : Nat) (s : ByteArray) (w : World) (h : 50 < len ∨ 500 < s.size) :
    Calls Try.prog 5 #[.slice A len cap, .string s] w fun e w' => e = .returned (.bool true) ∧ Below w.heap.size w w' := by
  by_cases h1 : 50 < len
  · clear h
    go_enter Try.func5, Try.ntmps5
    go_wp2_with (go_at_call 8; (with_reducible refine (awake_any _).mono ?_); rintro e w1 ⟨rfl, hb1⟩)
    go_ret
    exact ⟨rfl, hb1⟩
  · have h2 : 500 < s.size := by omega
    clear h
    go_enter Try.func5, Try.ntmps5
    go_wp2_with (go_at_call 8; (with_reducible refine (awake_any _).mono ?_); rintro e w1 ⟨rfl, hb1⟩)
    go_ret
    exact ⟨rfl, hb1⟩

set_option maxRecDepth 100000 in
set_option maxHeartbeats 4000000 in
theorem back_walk (A : Option Addr) (len cap : Nat) (f : Nat → Mv) (Z : ByteArray) (w : World) (hlen : len ≤ 50) (hs : Z.size ≤ 500) (hw : ∀ j, j < len → Wide (f j).C (f j).D (f j).I (f j).M (f j).K (f j).U ∧ (f j).s.size ≤ maxLen) (hA : Ops w A len f) :
    Calls Try.prog 5 #[.slice A len cap, .string Z] w fun e w' => e = .returned (.bool true) ∧ Below w.heap.size w w' := by
  have HA := Lib.hid hA
  have HW := Lib.hid hw
  clear hA hw
  go_enter Try.func5, Try.ntmps5
  go_wp2
  go_loopw [5, 6] (fun v i wr => ∃ k : Nat, k ≤ len ∧ i = .int .i64 k ∧ v = .string (catO f k) ∧ okO f k ∧ Below w.heap.size w wr) (fun _ i _ => len - (intOf i).toNat)
  case atStart => exact ⟨0, Nat.zero_le _, rfl, rfl, fun j hj => by omega, Below.refl _ _⟩
  case round =>
    obtain ⟨k, hk, rfl, rfl, hok, hnx⟩ := hrel
    have hcl := catO_le f k hok
    have HOK := Lib.hid hok
    clear hok
    by_cases hlt : k < len
    · obtain ⟨bb, off, rfl, hbw, hc⟩ := HA.out (by omega)
      have hat := (hc k hlt).below hnx hbw
      have hwd := HW.out k hlt
      have hS : catO f (k + 1) = catO f k ++ (f k).bytes := rfl
      have hok1 : (f k).ok → okO f (k + 1) := fun h => okO_next HOK.out h
      have hble : (f k).ok → (f k).bytes.size ≤ 86 := bytes_le
      unfold Mv.ok at hok1 hble
      unfold Mv.bytes at hS hble
      obtain ⟨m, hm⟩ : ∃ m, f k = m := ⟨_, rfl⟩
      rw [hm] at hat hS hok1 hwd hble
      obtain ⟨C, D, I, M, K, U, t⟩ := m
      obtain ⟨hwd, htl⟩ := hwd
      clear hm hc
      obtain ⟨q0, q1, q2, q3, q4, q5, q6⟩ := hat
      simp only at q0 q1 q2 q3 q4 q5 q6 hS hok1 hwd htl hble
      have r1 := fun w => opRight_any C D I M K U t w (Nat.le_trans htl (by unfold maxLen; omega))
      cases hb : opB C D I M K U t
      · rw [hb] at r1
        have R1 := Lib.hid r1
        clear r1 hok1 hble hS hwd htl HOK HW HA hb
        go_wp2_with (first | (go_at_call 11; (with_reducible refine (R1.out _).mono ?_); rintro e w1 ⟨rfl, hb1⟩) | (go_at_call 8; (with_reducible refine (awake_any _).mono ?_); rintro e w2 ⟨rfl, hb2⟩))
        go_ret
        exact ⟨rfl, below_then (below_then hnx hb1) hb2⟩
      · rw [hb] at r1
        have R1 := Lib.hid r1
        have hble := hble hb
        have HOK1 := Lib.hid (hok1 hb)
        have p1 := fun w => opPrint_any C D I M K U t w hwd (by have := (opB_wide hb).2.2.1; omega)
        generalize printOf C D I M K U t = P at *
        have P1 := Lib.hid p1
        have HS := Lib.hid hS
        clear r1 p1 hok1 hS hwd htl hb
        go_wp2_with fail
        refine (R1.out _).mono ?_
        rintro e w1 ⟨rfl, hb1⟩
        have hn1 := below_then hnx hb1
        rw [← (bcell hb1).1 _ _ (Nat.lt_of_lt_of_le hbw hnx.size)] at q0 q1 q2 q3 q4 q5 q6
        clear hb1 R1
        go_wp2_with fail
        refine (P1.out _).mono ?_
        rintro e w2 ⟨rfl, hb2⟩
        have hn2 := below_then hn1 hb2
        clear q0 q1 q2 q3 q4 q5 q6 hb2 P1
        go_wp2_with fail
        go_roundw
        case rel => exact ⟨k + 1, by omega, by go_num, by rw [HS.out], HOK1.out, hn2⟩
        case measure => simp [intOf]; omega
    · obtain rfl : k = len := by omega
      clear hlt
      have hR : (catO f k ++ Z).size = (catO f k).size + Z.size := ByteArray.size_append
      have HN := Lib.hid (fun j (hj : j < k) => catO_op f j k hj HOK.out Z)
      have hple : ∀ j, j ≤ k → posO f j ≤ (catO f k).size := fun j hj => by
        obtain ⟨R, e⟩ := catO_rest f j k hj
        unfold posO; rw [e, ByteArray.size_append]; omega
      have HP := Lib.hid hple
      clear hple
      go_wp2_with fail
      have hr0 := Rd.new wr 39 (catO f k ++ Z) 0 rfl
      have hB0 := below_alloc hnx (.cells #[.string (catO f k ++ Z), .int .i64 0, .bool false] 39)
      have hsz2 : w.heap.size ≤ wr.heap.size := hnx.size
      have hpk : posO f k = (catO f k).size := rfl
      have hRs : (catO f k ++ Z).size ≤ 1000000 := by omega
      generalize wr.alloc (.cells #[.string (catO f k ++ Z), .int .i64 0, .bool false] 39) = W0 at *
      generalize wr.heap.size = B at *
      have hp0 : posO f 0 = 0 := rfl
      have HR0 := Lib.hid hr0
      clear hr0 hnx
      generalize catO f k ++ Z = R at *
      have hTz : (catO f k).size ≤ R.size := by omega
      generalize catO f k = T at *
      go_loopw [8] (fun i wr => ∃ n : Nat, n ≤ k ∧ i = .int .i64 n ∧ Rd 39 wr B R (posO f n) false ∧ Below w.heap.size w wr) (fun i _ => k - (intOf i).toNat)
      case atStart => exact ⟨0, Nat.zero_le _, rfl, HR0.out, hB0⟩
      case round =>
        obtain ⟨n, hn, rfl, hr1, hnx⟩ := hrel
        have hnp := HP.out n hn
        by_cases hlt : n < k
        · obtain ⟨bb, off, rfl, hbw, hc⟩ := HA.out (by omega)
          have hat := (hc n hlt).below hnx hbw
          have hne : some bb ≠ some B := fun e => by have := Option.some.inj e; omega
          have CN := fun (w : World) (hr : Rd 39 w B R (posO f n) false) => opRead_yes hRs (by omega) hr (HN.out n hlt)
          obtain ⟨m, hm⟩ : ∃ m, f n = m := ⟨_, rfl⟩
          rw [hm] at hat CN
          obtain ⟨C, D, I, M, K, U, t⟩ := m
          have CN := Lib.hid CN
          unfold AtOp at hat
          simp only at hat
          have HC := Lib.hid hat
          obtain ⟨q0, q1, q2, q3, q4, q5, q6⟩ := hat
          clear hm hc
          go_wp2_with fail
          have hn0 : (0 : Int) ≤ (n : Int) := by omega
          have hn1 : (n : Int) < (k : Int) := by omega
          have hrd : Rd 39 wr.drew B R (posO f n) false := hr1
          go_region_held3 (fun w' => w'.cell? ⟨bb, off + n * 7, none⟩ = some (.int .i64 C) ∧ w'.cell? ⟨bb, off + n * 7 + 1, none⟩ = some (.int .i64 D) ∧ w'.cell? ⟨bb, off + n * 7 + 2, none⟩ = some (.int .i64 I) ∧ w'.cell? ⟨bb, off + n * 7 + 3, none⟩ = some (.int .i64 M) ∧ w'.cell? ⟨bb, off + n * 7 + 4, none⟩ = some (.int .i64 K) ∧ w'.cell? ⟨bb, off + n * 7 + 5, none⟩ = some (.int .i64 U) ∧ w'.cell? ⟨bb, off + n * 7 + 6, none⟩ = some (.string t)) (first | go_keep | exact ⟨hb3.cell HC.out.1 hne, hb3.cell HC.out.2.1 hne, hb3.cell HC.out.2.2.1 hne, hb3.cell HC.out.2.2.2.1 hne, hb3.cell HC.out.2.2.2.2.1 hne, hb3.cell HC.out.2.2.2.2.2.1 hne, hb3.cell HC.out.2.2.2.2.2.2 hne⟩) ((go_at_call 17; (with_reducible refine (CN.out wr.drew hrd).mono ?_); rintro e w3 ⟨rfl, hr3, hb3⟩))
          go_wp2
          go_roundw
          case rel => exact ⟨n + 1, by omega, by go_num, hr3, below_by hnx.drew hb3 hsz2⟩
          case measure => simp [intOf]; omega
        · obtain rfl : n = k := by omega
          clear hlt
          have HPK := Lib.hid hpk
          clear HN HA HP
          go_wp2_with fail
          refine (awake_any _).mono ?_
          rintro e w4 ⟨rfl, hb4⟩
          have hr4 := hr1.below hb4
          rw [HPK.out] at hr4
          obtain ⟨c0, c1, c2⟩ := hr4.cells
          have hB4 := below_then hnx hb4
          clear hr1 hr4 hb4 hnx
          go_wp2_with fail
          go_ret
          exact ⟨rfl, hB4⟩


set_option maxRecDepth 100000 in
theorem back_lifted (os : Os) (started : os.Started) (H : Type) (enc : TypeId × Value → H) :
    ReturnsInHanded {} Try.checked os 5 .any (Rows.opBackSpec.pre6 enc Try.prog Try.f5 Rows.opBackRow.domain false) (Rows.opBackSpec.post enc Try.prog Try.f5 false true false false) := by
  refine returnsInHanded_of_change (C := Try.checked) own started (by kernel_rfl) Try.func5
    (ChangeSpec.witness6 (enc := enc) (C := Try.checked) false ⟨#[], #[.slice none 0 0, .string ⟨#[]⟩], []⟩ 8 (by kernel_rfl) (by kernel_rfl) (by kernel_rfl) (by kernel_rfl)) ?_
  intro W base args ds gs before hval0 hW _ _
  have hval : ∀ (j : Nat) t v, Try.f5.params[j]? = some t → args[j]? = some v → Value.okWide Try.prog W .any base t v := hval0
  have hW' := hW
  obtain ⟨p, q, hA0, hV, rfl, _, _⟩ := hW
  have hA : DataW.TrodAll enc Try.prog W 0 (fun _ => true) true Try.f5.params.toList args.toList ds p := hA0
  rw [Try.params5] at hA hval
  obtain ⟨v0, v1, d0, d1, p0, p1, rfl, rfl, rfl, h0, h1⟩ := trodAll_two hA
  obtain ⟨a0, len, cap, rfl, _⟩ := okWide_slice Try.underlying36 (hval 0 36 v0 rfl rfl)
  obtain ⟨s, rfl, hs⟩ := open_str (hval 1 9 v1 rfl rfl) h1
  have hc : Calls Try.prog 5 #[.slice a0 len cap, .string s] W fun e w' => e = .returned (.bool true) ∧ Below W.heap.size W w' := by
    by_cases hbig : 50 < len ∨ 500 < s.size
    · exact back_long a0 len cap s W hbig
    · obtain ⟨fuel, hf⟩ := h0
      rcases open_slice Try.underlying36 hf with ⟨hcs, hx⟩ | ⟨a, len', cap', m, n, D, Pl, hcs, _, hle, hm, hmm, hx, hi⟩
      · simp [Value.cells] at hcs
        obtain ⟨rfl, rfl, rfl⟩ := hcs
        exact back_walk none 0 0 (fun _ => zeroMv) s W (by omega) (by omega) (fun j hj => by omega) (fun h => by omega)
      · simp [Value.cells] at hcs
        obtain ⟨rfl, rfl, rfl⟩ := hcs
        simp only [if_true] at hmm
        have hv : ∀ i, i < m → ∃ o : Mv, (Wide o.C o.D o.I o.M o.K o.U ∧ o.s.size ≤ maxLen) ∧ W.cells? 0 (a.add (i * 7)) 7 = some [.int .i64 o.C, .int .i64 o.D, .int .i64 o.I, .int .i64 o.M, .int .i64 o.K, .int .i64 o.U, .string o.s] := by
          intro i him
          obtain ⟨cs', h1, h2⟩ := hi i him
          rw [cells25] at h1
          obtain ⟨C, D, I, M, K, U, t, rfl, hw, ht⟩ := read_op h2
          exact ⟨⟨C, D, I, M, K, U, t⟩, ⟨hw, ht⟩, h1⟩
        obtain ⟨f, hf2⟩ := choose_lt hv
        refine back_walk (some a) len cap f s W (by omega) (by omega) (fun j hj => (hf2 j (by omega)).1) (fun h => ?_)
        obtain ⟨bb, off, spot⟩ := a
        have cell : ∀ i, i < len → ∀ j v, [Value.int .i64 (f i).C, .int .i64 (f i).D, .int .i64 (f i).I, .int .i64 (f i).M, .int .i64 (f i).K, .int .i64 (f i).U, .string (f i).s][j]? = some v → W.cell? (((⟨bb, off, spot⟩ : Addr).add (i * 7)).add j) = some v := by
          intro i hil j v hv
          obtain ⟨_, hlen, hcell⟩ := World.cells?_some (hf2 i (by omega)).2
          have hj : j < 7 := by have := (List.getElem?_eq_some_iff.1 hv).1; simpa using this
          have := hcell j hj
          rw [this]; exact hv
        have hspot : spot = none := by
          have := cell 0 h 0 _ rfl
          simpa [Addr.add] using World.cell?_spot this
        subst hspot
        refine ⟨bb, off, rfl, block_lt_of_cell (cell 0 h 0 _ rfl), fun i hil => ?_⟩
        refine ⟨?_, ?_, ?_, ?_, ?_, ?_, ?_⟩
        · have := cell i hil 0 _ rfl; rwa [add_plain, add_plain] at this
        · have := cell i hil 1 _ rfl; rwa [add_plain, add_plain] at this
        · have := cell i hil 2 _ rfl; rwa [add_plain, add_plain] at this
        · have := cell i hil 3 _ rfl; rwa [add_plain, add_plain] at this
        · have := cell i hil 4 _ rfl; rwa [add_plain, add_plain] at this
        · have := cell i hil 5 _ rfl; rwa [add_plain, add_plain] at this
        · have := cell i hil 6 _ rfl; rwa [add_plain, add_plain] at this
  refine hc.mono fun e W' ⟨he, hb⟩ => ?_
  subst he
  exact ⟨_, rfl, Frm.law_post (by kernel_rfl) (by kernel_rfl) (by kernel_rfl) Try.underlying4 rfl rfl hW' hb⟩

theorem back_holds : Rows.OpBackSaid :=
  OpenClaim.holds_of_wide 5 Try.f5 rfl rfl rfl rfl rfl rfl rfl ⟨rfl, rfl, rfl, rfl, rfl⟩ rfl rfl rfl rfl rfl (by kernel_rfl) Try.func5 (by kernel_rfl)
    (of_decide_eq_true (by kernel_rfl)) (by unfold Func.isWrapper; first | (rw [if_pos (by decide +kernel)]; kernel_rfl) | (rw [if_neg (by decide +kernel)]; exact ⟨rfl, rfl⟩))
    (fun os started H enc _ => back_lifted os started H enc)

end Go.Proofs.Ytkocehjomjaidaa
