/- CrcRow is proved: sealed texts, one behind the other, are opened one by one, and nothing is left. Conditions: the package's table reads, when the call begins, as the program's own text lays it (the card ties that). -/
import Derived.Test.YtajiekodfdbkkaaDoorOpn
import Derived.SliceStrings
namespace Go.Proofs.YtajiekodfdbkkaaDoor
open Go.ChangeShapes Go.WideShapes Go.ChangeAt Go.RowKit Crc

/-- The first k texts, sealed, one behind the other. -/
def rowF (f : Nat → ByteArray) : Nat → ByteArray
  | 0 => ⟨#[]⟩
  | k + 1 => rowF f k ++ sealOf (f k)
def posF (f : Nat → ByteArray) (k : Nat) : Nat := (rowF f k).size

theorem pos_succ (f : Nat → ByteArray) (k : Nat) : posF f (k + 1) = posF f k + (8 + (f k).size) := by
  unfold posF; rw [rowF, ByteArray.size_append, seal_size]
theorem row_le (f : Nat → ByteArray) : ∀ k, (∀ j, j < k → (f j).size ≤ 300) → (rowF f k).size ≤ 308 * k
  | 0, _ => Nat.le_refl 0
  | k + 1, h => by
    have h1 := row_le f k (fun j hj => h j (by omega))
    have h2 := h k (by omega)
    rw [rowF, ByteArray.size_append, seal_size]; omega
theorem small_succ {f : Nat → ByteArray} {k : Nat} {x : ByteArray} (h : ∀ j, j < k → (f j).size ≤ 300) (hx : f k = x) (h3 : x.size ≤ 300) : ∀ j, j < k + 1 → (f j).size ≤ 300 := by
  intro j hj
  by_cases e : j = k
  · subst e; rw [hx]; exact h3
  · exact h j (by omega)
theorem row_rest (f : Nat → ByteArray) (k : Nat) : ∀ n, k ≤ n → ∃ R, rowF f n = rowF f k ++ R
  | 0, h => by
    obtain rfl : k = 0 := by omega
    exact ⟨⟨#[]⟩, L_inj (by rw [L_app]; exact (List.append_nil _).symm)⟩
  | n + 1, h => by
    by_cases e : k = n + 1
    · subst e
      exact ⟨⟨#[]⟩, L_inj (by rw [L_app]; exact (List.append_nil _).symm)⟩
    · obtain ⟨R, hR⟩ := row_rest f k n (by omega)
      exact ⟨R ++ sealOf (f n), by rw [rowF, hR, ByteArray.append_assoc]⟩
theorem row_at (f : Nat → ByteArray) (k n : Nat) (h : k < n) : ∃ R, (rowF f n).extract (posF f k) (rowF f n).size = sealOf (f k) ++ R ∧ posF f k + (8 + (f k).size) + R.size = (rowF f n).size := by
  obtain ⟨R, hR⟩ := row_rest f (k + 1) n (by omega)
  rw [rowF, ByteArray.append_assoc] at hR
  refine ⟨R, L_inj ?_, ?_⟩
  · rw [L_ext, ← L_len, List.take_length, hR, L_app]
    unfold posF
    rw [← L_len]
    exact List.drop_left' rfl
  · rw [hR, ByteArray.size_append, ByteArray.size_append, seal_size]; unfold posF; omega

theorem row_long (a : Option Addr) (len cap : Nat) (w : World) (hL : Laid w) (h : 40 < len) :
    Calls Tryd.prog 6 #[.slice a len cap] w fun e w' => e = .returned (.bool true) ∧ Below w.heap.size w w' := by
  have HL := Lib.hid hL
  clear hL
  go_enter Tryd.func6, Tryd.ntmps6
  go_wp2_with (go_at_call 7; (with_reducible refine (awake_any _ HL.out).mono ?_); rintro e w1 ⟨rfl, hb1⟩)
  go_ret
  exact ⟨rfl, hb1⟩

set_option maxHeartbeats 4000000 in
theorem row_walk (b off len cap : Nat) (f : Nat → ByteArray) (w : World) (hL : Laid w) (hb : b < w.heap.size) (hlen : len ≤ 40) (hc : ∀ i, i < len → w.cell? ⟨b, off + i, none⟩ = some (.string (f i))) :
    Calls Tryd.prog 6 #[.slice (some ⟨b, off, none⟩) len cap] w fun e w' => e = .returned (.bool true) ∧ Below w.heap.size w w' := by
  have HL := Lib.hid hL
  have HC := Lib.hid hc
  clear hL hc
  go_enter Tryd.func6, Tryd.ntmps6
  go_wp2
  go_loopw [3, 4] (fun v i wr => ∃ k : Nat, k ≤ len ∧ i = .int .i64 k ∧ v = .string (rowF f k) ∧ (∀ j, j < k → (f j).size ≤ 300) ∧ Below w.heap.size w wr) (fun _ i _ => len - (intOf i).toNat)
  case atStart => exact ⟨0, Nat.zero_le _, rfl, rfl, fun j hj => by omega, Below.refl _ _⟩
  case round =>
    obtain ⟨k, hk, rfl, rfl, hsm, hnx⟩ := hrel
    have HS := Lib.hid hsm
    have hrl := row_le f k hsm
    clear hsm
    by_cases hlt : k < len
    · have hcx : wr.cell? ⟨b, off + k, none⟩ = some (.string (f k)) := by rw [(bcell hnx).1 _ _ hb]; exact HC.out k hlt
      obtain ⟨x, hx⟩ : ∃ x, f k = x := ⟨_, rfl⟩
      rw [hx] at hcx
      have HX := Lib.hid hx
      clear hx
      by_cases h3 : x.size ≤ 300
      · have hsz : (sealOf x).size ≤ 308 := by rw [seal_size]; omega
        go_wp2_with (go_at_call 12; (with_reducible refine (seal_any x _ (by omega) (laid_below HL.out hnx)).mono ?_); rintro e w1 ⟨rfl, hb1⟩)
        go_roundw
        case rel => exact ⟨k + 1, by omega, by go_num, by rw [rowF, HX.out], small_succ HS.out HX.out h3, below_then hnx hb1⟩
        case measure => simp [intOf]; omega
      · go_wp2_with (go_at_call 7; (with_reducible refine (awake_any _ (laid_below HL.out hnx)).mono ?_); rintro e w1 ⟨rfl, hb1⟩)
        go_ret
        exact ⟨rfl, below_then hnx hb1⟩
    · obtain rfl : k = len := by omega
      clear hlt
      obtain ⟨S, hS⟩ : ∃ S, rowF f k = S := ⟨_, rfl⟩
      rw [hS] at hrl ⊢
      have HSS := Lib.hid hS
      clear hS
      go_wp2
      go_loopw [5, 6] (fun a i wq => ∃ n : Nat, n ≤ k ∧ i = .int .i64 n ∧ a = .int .i64 (posF f n) ∧ Below w.heap.size w wq) (fun _ i _ => k - (intOf i).toNat)
      case atStart => exact ⟨0, Nat.zero_le _, rfl, rfl, hnx⟩
      case round =>
        obtain ⟨n, hn, rfl, rfl, hnq⟩ := hrel
        by_cases hlt : n < k
        · have hcx : wr.cell? ⟨b, off + n, none⟩ = some (.string (f n)) := by rw [(bcell hnq).1 _ _ hb]; exact HC.out n hlt
          obtain ⟨R, hR, hsz⟩ := row_at f n k hlt
          have hps := pos_succ f n
          have hxs := HS.out n hlt
          rw [HSS.out] at hR hsz
          obtain ⟨x, hx⟩ : ∃ x, f n = x := ⟨_, rfl⟩
          obtain ⟨P, hP⟩ : ∃ P, posF f n = P := ⟨_, rfl⟩
          obtain ⟨X, hX⟩ : ∃ X, sealOf x ++ R = X := ⟨_, rfl⟩
          rw [hx] at hcx hR hsz hxs hps
          rw [hP] at hR hsz hps ⊢
          rw [hX] at hR
          have c8 : ∀ w, Laid w → Calls Tryd.prog 8 #[.string X] w fun e w' => e = .returned (.tuple #[.string x, .int .i64 (8 + (x.size : Int))]) ∧ Below w.heap.size w w' := fun w h => by
            have o := open_any X w (by rw [← hX, ByteArray.size_append, seal_size]; omega) h
            rw [← hX, (seal_opens x R (by omega)).1, (seal_opens x R (by omega)).2] at o
            rw [← hX]; exact o
          have K8 := Lib.hid c8
          have HP := Lib.hid (show posF f (n + 1) = P + (8 + x.size) from hps)
          have hp1 : P ≤ S.size := by omega
          have hp2 : P + (8 + x.size) ≤ 20000 := by omega
          clear hx hP hX hps hsz c8
          go_wp2_with (go_at_call 8; (with_reducible refine (K8.out _ (laid_below HL.out hnq)).mono ?_); rintro e w1 ⟨rfl, hb1⟩; have hcy : w1.cell? ⟨b, off + n, none⟩ = some (.string x) := (by rw [(bcell hb1).1 _ _ (Nat.lt_of_lt_of_le hb hnq.size)]; exact hcx))
          go_roundw
          case rel => exact ⟨n + 1, by omega, by go_num, by rw [HP.out]; go_num, below_then hnq hb1⟩
          case measure => simp [intOf]; omega
        · obtain rfl : n = k := by omega
          have HP := Lib.hid (show posF f n = S.size by unfold posF; rw [HSS.out])
          rw [HP.out]
          clear hlt
          go_wp2_with (go_at_call 7; (with_reducible refine (awake_any _ (laid_below HL.out hnq)).mono ?_); rintro e w1 ⟨rfl, hb1⟩)
          go_ret
          exact ⟨rfl, below_then hnq hb1⟩

set_option maxHeartbeats 4000000 in
theorem row_empty (a : Option Addr) (cap : Nat) (w : World) (hL : Laid w) :
    Calls Tryd.prog 6 #[.slice a 0 cap] w fun e w' => e = .returned (.bool true) ∧ Below w.heap.size w w' := by
  have HL := Lib.hid hL
  clear hL
  go_enter Tryd.func6, Tryd.ntmps6
  go_wp2
  go_loopw [3, 4] (fun v i wr => i = .int .i64 0 ∧ v = .string ⟨#[]⟩ ∧ w = wr) (fun _ _ _ => 0)
  case atStart => exact ⟨rfl, rfl, rfl⟩
  case round =>
    obtain ⟨rfl, rfl, rfl⟩ := hrel
    go_wp2
    go_loopw [5, 6] (fun a i wr => i = .int .i64 0 ∧ a = .int .i64 0 ∧ w = wr) (fun _ _ _ => 0)
    case atStart => exact ⟨rfl, rfl, rfl⟩
    case round =>
      obtain ⟨rfl, rfl, rfl⟩ := hrel
      go_wp2_with (go_at_call 7; (with_reducible refine (awake_any _ HL.out).mono ?_); rintro e w1 ⟨rfl, hb1⟩)
      go_ret
      exact ⟨rfl, hb1⟩

theorem cells9 : Tryd.prog.cellsOf 9 = 1 := by kernel_rfl

set_option maxRecDepth 100000 in
theorem row_lifted (os : Os) (started : os.Started) (H : Type) (enc : TypeId × Value → H) :
    ReturnsInHanded {} Tryd.checked os 6 .any (fun w args => (Rows.crcRowSpec.pre enc Tryd.prog Tryd.f6 [] false w args ∧ laidMetH Tryd.prog laid1 w) ∧ sizedMet enc Tryd.prog Tryd.f6 (OpenSpec.ofChange Rows.crcRowSpec) false w args)
      (Rows.crcRowSpec.post enc Tryd.prog Tryd.f6 false true false false) := by
  refine returnsInHanded_of_change_and (C := Tryd.checked) (X := fun w _ => laidMetH Tryd.prog laid1 w) (fun _ _ _ hh h => h.of_heap hh) own started (by kernel_rfl) Tryd.func6
    (ChangeSpec.witness_shaped (enc := enc) (C := Tryd.checked) (os := os) (X := fun w _ => laidMetH Tryd.prog laid1 w) false (World.doorLaid Tryd.prog 14 os) #[.slice none 0 0] 8 rfl (World.shaped_of_RefB (by kernel_rfl) (by kernel_rfl)) (by kernel_rfl) (by kernel_rfl) (by kernel_rfl) (door_met os _)) ?_
  intro W base args ds gs before hval0 hW _ _ hL _
  have hval : ∀ (j : Nat) t v, Tryd.f6.params[j]? = some t → args[j]? = some v → Value.okWide Tryd.prog W .any base t v := hval0
  have hW' := hW
  have hlt : ∀ p ∈ before, p.block < W.heap.size := fun p hp => hW.lt p hp
  obtain ⟨p, q, hA0, hV, rfl, _, _⟩ := hW
  have hA : DataW.TrodAll enc Tryd.prog W 0 (fun _ => true) true Tryd.f6.params.toList args.toList ds p := hA0
  rw [Tryd.params6] at hA hval
  obtain ⟨v0, d0, rfl, rfl, h0⟩ := trodAll_one hA
  obtain ⟨rfl, rfl⟩ := trodVars_none hV
  have hl := of_laid hL
  have hc : Calls Tryd.prog 6 #[v0] W fun e w' => e = .returned (.bool true) ∧ Below W.heap.size W w' := by
    obtain ⟨a0, len, cap, rfl, _⟩ := okWide_slice Tryd.underlying35 (hval 0 35 v0 rfl rfl)
    by_cases h40 : 40 < len
    · exact row_long a0 len cap W hl h40
    · obtain ⟨fuel, hf⟩ := h0
      rcases open_strings Tryd.underlying35 Tryd.underlying9 cells9 hf with ⟨hcs, hx⟩ | ⟨a, len', cap', ss, hcs, _, hle, hm, hz, hx, hcell, hws⟩
      · simp [Value.cells] at hcs
        obtain ⟨rfl, rfl, rfl⟩ := hcs
        exact row_empty none 0 W hl
      · simp [Value.cells] at hcs
        obtain ⟨rfl, rfl, rfl⟩ := hcs
        simp only [Prod.mk.injEq] at hx
        obtain ⟨rfl, rfl⟩ := hx
        simp only [if_true] at hz
        by_cases hl0 : len = 0
        · subst hl0
          exact row_empty _ _ W hl
        · obtain ⟨b, off, spot⟩ := a
          have hspot : spot = none := by simpa [Addr.add] using World.cell?_spot (hcell 0 (by omega))
          subst hspot
          have hbW : b < W.heap.size := block_lt_of_cell (hcell 0 (by omega))
          exact row_walk b off len cap (fun i => ss.getD i ByteArray.empty) W hl hbW (by omega) (fun j hj => by rw [← add_plain]; exact hcell j (by omega))
  refine hc.mono fun e W' ⟨he, hb⟩ => ?_
  subst he
  exact ⟨_, rfl, Frm.law_post (by kernel_rfl) (by kernel_rfl) (by kernel_rfl) Tryd.underlying4 rfl rfl hW' hb⟩

theorem row_said : Rows.CrcRowSaid :=
  OpenClaim.holds_of_wide 6 Tryd.f6 rfl rfl rfl rfl rfl rfl rfl ⟨rfl, rfl, rfl, rfl, rfl⟩ rfl rfl rfl rfl rfl (by kernel_rfl) Tryd.func6 (by kernel_rfl)
    (of_decide_eq_true (by kernel_rfl)) (by unfold Func.isWrapper; first | (rw [if_pos (by decide +kernel)]; kernel_rfl) | (rw [if_neg (by decide +kernel)]; exact ⟨rfl, rfl⟩))
    (fun os started H enc _ => row_lifted os started H enc)

theorem row_holds : Rows.CrcRowCardSaid :=
  Claim7.holds_tied_plain_at .later [] [.data] true (true, "758bbf90500c1b449d68af4083feaff34ed2a52c7a0841659f3d8b00909361b8") false
    row_said (fun _ h => by cases h) (by kernel_rfl) (fun _ h => by cases h) crcRow_row_tie rfl ⟨rfl, rfl⟩ (by kernel_rfl) rfl
    (fun f fn hf hfn => by
      obtain rfl : f = 6 := Option.some.inj ((show Tryd.prog.funcNamed "bargeman/bargemanlaw02.CrcRow" = some 6 by kernel_rfl).symm.trans hf) |>.symm
      obtain rfl : fn = Tryd.f6 := (Option.some.inj (Tryd.func6.symm.trans hfn)).symm
      exact ⟨by kernel_rfl, fun j t ht => by
        rw [Tryd.params6] at ht
        have hm : t ∈ [35] := by simpa using Array.mem_of_getElem? ht
        have hall : ([35].all fun u => !Tryd.prog.wantsStandIn u) = true := by kernel_rfl
        exact (show Tryd.prog.wantsStandIn t = false by simpa using List.all_eq_true.1 hall t hm)⟩)
    (by kernel_rfl)

end Go.Proofs.YtajiekodfdbkkaaDoor
