/- CrcTears is proved: sealed bytes without their end aren't open; nor are they, if up to four that stand side by side behind the first eight are others. Conditions: the package's table reads, when the call begins, as the program's own text lays it (the card ties that). -/
import Derived.Test.YtajiekodfdbkkaaDoorOpn
import Derived.Test.YtajiekodfdbkkaaDoorTrm
namespace Go.Proofs.YtajiekodfdbkkaaDoor
open Go.ChangeShapes Go.WideShapes Go.ChangeAt Go.RowKit Crc

/-- What the conversion of a text to bytes lays. -/
theorem bytes_start (T : ByteArray) (w : World) (cap : Nat) (g : Nat) (hg : w.heap.size = g) (j : Nat) (hj : j < T.size) :
    (w.drew.alloc (.cells (bytesRow T cap) 5 ((bytesRow T cap).size, (bytesRow T cap).size + 1))).cell? ⟨g, j, none⟩ = some (.int .u8 ((L T).getD j 0).toNat) ∧
    (w.drew.alloc (.cells (bytesRow T cap) 5 ((bytesRow T cap).size, (bytesRow T cap).size + 1))).frozen? ⟨g, j, none⟩ = false := by
  subst hg
  have hs : T.data.size ≤ (bytesRow T cap).size := by unfold bytesRow; rw [Array.size_append, Array.size_map]; omega
  have hj2 : j < T.data.size := hj
  constructor
  · have h := World.cell?_alloc_mark w.drew (bytesRow T cap) 5 ((bytesRow T cap).size, (bytesRow T cap).size + 1) j
    rw [bytesRow_at T cap j hj2] at h
    have e : (L T).getD j 0 = T.data[j] := by
      rw [List.getD_eq_getElem?_getD, List.getElem?_eq_getElem (by rw [L_len]; exact hj)]; rfl
    rw [e]; exact h
  · have h := World.frozen?_alloc_mark w.drew (bytesRow T cap) 5 (bytesRow T cap).size ((bytesRow T cap).size + 1) j
    have e : (decide ((bytesRow T cap).size ≤ j) && decide (j < (bytesRow T cap).size + 1)) = false := by
      rw [decide_eq_false (by omega)]; rfl
    rw [e] at h; exact h

theorem byt_int (n q : Nat) : (n : Int) / 2 ^ (8 * q) % 256 = ((byt n q).toNat : Int) := by
  unfold byt
  rw [ofNat_val _ (Nat.mod_lt _ (by decide)), Int.natCast_emod, Int.natCast_ediv, Int.natCast_pow]; rfl

theorem tears_none (s : ByteArray) (a : Int) (n : Nat) (w : World) (hL : Laid w) (h : s.size = 0) :
    Calls Tryd.prog 5 #[.string s, .int .u16 a, .int .u32 n] w fun e w' => e = .returned (.bool true) ∧ Below w.heap.size w w' := by
  have HL := Lib.hid hL
  clear hL
  have hz : (s.size : Int) = 0 := by omega
  go_enter Tryd.func5, Tryd.ntmps5
  go_wp2_with (go_at_call 7; (with_reducible refine (awake_any _ HL.out).mono ?_); rintro e w1 ⟨rfl, hb1⟩)
  go_ret
  exact ⟨rfl, hb1⟩

theorem tears_long (s : ByteArray) (a : Int) (n : Nat) (w : World) (hL : Laid w) (h : 3000 < s.size) :
    Calls Tryd.prog 5 #[.string s, .int .u16 a, .int .u32 n] w fun e w' => e = .returned (.bool true) ∧ Below w.heap.size w w' := by
  have HL := Lib.hid hL
  clear hL
  have hzb : ((s.size : Int) == 0) = false := beq_eq_false_iff_ne.2 (by omega)
  go_enter Tryd.func5, Tryd.ntmps5
  go_wp2_with (go_at_call 7; (with_reducible refine (awake_any _ HL.out).mono ?_); rintro e w1 ⟨rfl, hb1⟩)
  go_ret
  exact ⟨rfl, hb1⟩

set_option maxHeartbeats 2000000 in
theorem tears_walk (s : ByteArray) (a n : Nat) (w : World) (hL : Laid w) (h0 : 0 < s.size) (h1 : s.size ≤ 3000) (ha : a < 65536) (hn : n < 4294967296) :
    Calls Tryd.prog 5 #[.string s, .int .u16 a, .int .u32 n] w fun e w' => e = .returned (.bool true) ∧ Below w.heap.size w w' := by
  obtain ⟨T, hT⟩ : ∃ T, sealOf s = T := ⟨_, rfl⟩
  obtain ⟨N, hN⟩ : ∃ N, T.size = N := ⟨_, rfl⟩
  have sT : N = 8 + s.size := by rw [← hN, ← hT, seal_size]
  obtain ⟨t, ht⟩ : ∃ t : Nat, a % N = t := ⟨_, rfl⟩
  obtain ⟨p, hp⟩ : ∃ p : Nat, a % s.size = p := ⟨_, rfl⟩
  have htN : t < N := by rw [← ht]; exact Nat.mod_lt _ (by omega)
  have hps : p < s.size := by rw [← hp]; exact Nat.mod_lt _ h0
  have et : (a : Int) % (8 + (s.size : Int)) = (t : Int) := by rw [← ht, sT]; push_cast; rfl
  have ep : (a : Int) % (s.size : Int) = (p : Int) := by rw [← hp]; push_cast; rfl
  have eN : (T.size : Int) = 8 + (s.size : Int) := by omega
  have hN3 : N ≤ 8 + s.size := by omega
  have hN4 : 8 + s.size ≤ N := by omega
  obtain ⟨X, hX⟩ : ∃ X, T.extract 0 t = X := ⟨_, rfl⟩
  obtain ⟨E, hE⟩ : ∃ E, opT X = E := ⟨_, rfl⟩
  obtain ⟨m, hm⟩ : ∃ m : Int, -1 = m := ⟨_, rfl⟩
  have c12 : ∀ w, Laid w → Calls Tryd.prog 12 #[.string s] w fun e w' => e = .returned (.string T) ∧ Below w.heap.size w w' := fun w k => by rw [← hT]; exact seal_any s w (by omega) k
  have c8 : ∀ w, Laid w → Calls Tryd.prog 8 #[.string X] w fun e w' => e = .returned (.tuple #[.string E, .int .i64 (-1)]) ∧ Below w.heap.size w w' := fun w k => by
    have o := open_any X w (by rw [← hX, ByteArray.size_extract]; omega) k
    have e1 : opC X = -1 := by rw [← hX, ← hT]; exact cut_shut s t (by omega) (by omega)
    rwa [hE, e1] at o
  have K12 := Lib.hid c12
  have K8 := Lib.hid c8
  have HL := Lib.hid hL
  have hcv := fun w => run_bytes_of_string (P := Tryd.prog) w 9 32 5 T Tryd.underlying9 Tryd.underlying32 Tryd.underlying5
  rw [hN] at hcv
  have HCV := Lib.hid hcv
  have hzb : ((s.size : Int) == 0) = false := beq_eq_false_iff_ne.2 (by omega)
  obtain ⟨H, hH⟩ : ∃ H, H = fourL s.size ++ (fourL (sumB s) ++ (L s).take p) := ⟨_, rfl⟩
  obtain ⟨R, hR⟩ : ∃ R, R = (L s).drop p := ⟨_, rfl⟩
  have hHR : L T = H ++ R := by rw [← hT, L_seal, hH, hR, List.append_assoc, List.append_assoc, List.take_append_drop]
  have hHl : H.length = 8 + p := by rw [hH, List.length_append, List.length_append, fourL_len, fourL_len, List.length_take, L_len]; omega
  have hRl : R.length = s.size - p := by rw [hR, List.length_drop, L_len]
  have HH := Lib.hid hH
  have HR := Lib.hid hR
  have HHR := Lib.hid hHR
  have HHL := Lib.hid hHl
  have HRL := Lib.hid hRl
  clear hH hR hHR hHl hRl
  have hN1 : T.size ≤ N := by omega
  have hN2 : N ≤ T.size := by omega
  clear hT hN sT ht hp hE hm c12 c8 hL hcv
  go_enter Tryd.func5, Tryd.ntmps5
  go_wp2_with (first | (go_at_call 12; (with_reducible refine (K12.out _ HL.out).mono ?_); rintro e w1 ⟨rfl, hb1'⟩; have hb1 := Lib.hid hb1'; clear hb1'; have HL1 := Lib.hid (laid_below HL.out hb1.out))
                     | (go_at_call 8; (with_reducible refine (K8.out _ HL1.out).mono ?_); rintro e w2 ⟨rfl, hb2'⟩; have hb2 := Lib.hid hb2'; clear hb2'; have HL2 := Lib.hid (laid_below HL1.out hb2.out); have hcv2 := HCV.out w2; obtain ⟨g, hg⟩ : ∃ g, w2.heap.size = g := ⟨_, rfl⟩; obtain ⟨cp, hcp⟩ : ∃ cp, grownCap w2 N 0 5 = cp := ⟨_, rfl⟩; rw [hg, hcp] at hcv2; have HG := Lib.hid hg; clear hg hcp))
  clear hcv2 et ep hX
  go_loopw [12, 13] (fun tv i wr => ∃ q : Nat, q ≤ 4 ∧ q ≤ s.size - p ∧ i = .int .i64 q ∧ tv = .bool (tur n q) ∧ (∀ j, j < N → wr.cell? ⟨g, j, none⟩ = some (.int .u8 ((cu H R n q).getD j 0).toNat)) ∧
      (∀ j, j < N → wr.frozen? ⟨g, j, none⟩ = false) ∧ Below w.heap.size w wr) (fun _ i _ => 4 - (intOf i).toNat)
  case atStart =>
    refine ⟨0, by omega, by omega, rfl, rfl, fun j hj => ?_, fun j hj => ?_, ?_⟩
    · rw [cu_zero, ← HHR.out]
      exact (bytes_start T w2 cp g HG.out j (by omega)).1
    · exact (bytes_start T w2 cp g HG.out j (by omega)).2
    · exact ((below_then (below_then hb1.out hb2.out) (below_alloc (Below.refl _ _) _))).drew
  case round =>
    obtain ⟨q, hq4, hqs, rfl, rfl, hcl, hfr, hnx⟩ := hrel
    by_cases hgo : q < 4 ∧ q < s.size - p
    · obtain ⟨hg4, hgs⟩ := hgo
      have hcx := hcl (8 + p + q) (by omega)
      have hfx := hfr (8 + p + q) (by omega)
      have hqR : q < R.length := by rw [HRL.out]; exact hgs
      have hc0 : (cu H R n q).getD (8 + p + q) 0 = R[q] := by rw [← HHL.out]; exact cu_at H R n q hqR
      have hcs : cu H R n (q + 1) = (cu H R n q).set (8 + p + q) (R[q] ^^^ byt n q) := by rw [← HHL.out]; exact cu_succ H R n q hqR
      have hcn : (cu H R n q).length = N := by rw [cu_len H R n q (by omega), HHL.out, HRL.out]; omega
      rw [hc0] at hcx
      obtain ⟨c, hc⟩ : ∃ c, R[q] = c := ⟨_, rfl⟩
      obtain ⟨x, hx⟩ : ∃ x, byt n q = x := ⟨_, rfl⟩
      have ex : (n : Int) / 2 ^ (8 * q) % 256 = (x.toNat : Int) := by rw [← hx]; exact byt_int n q
      obtain ⟨d, hd⟩ : ∃ d, c ^^^ x = d := ⟨_, rfl⟩
      have exd : bits .xor .u8 (c.toNat : Int) (x.toNat : Int) = (d.toNat : Int) := by
        rw [u8_xor_nat _ _ c.toNat_lt x.toNat_lt, ← hd, UInt8.toNat_xor]
      rw [hc] at hcx
      have hset : ∀ j, j < N → (wr.setCell ⟨g, 8 + p + q, none⟩ (.int .u8 d.toNat)).cell? ⟨g, j, none⟩ = some (.int .u8 ((cu H R n (q + 1)).getD j 0).toNat) := by
        intro j hj
        rw [hcs, getD_set _ _ _ _ (by omega), hc, hx, hd]
        by_cases e : 8 + p + q = j
        · rw [if_pos e, ← e]; exact World.cell?_setCell_same _ _ _ hcx
        · rw [if_neg e, World.cell?_setCell_other _ _ _ _ (fun h => e (congrArg Addr.off h))]; exact hcl j hj
      have hfs : ∀ j, j < N → (wr.setCell ⟨g, 8 + p + q, none⟩ (.int .u8 d.toNat)).frozen? ⟨g, j, none⟩ = false := by
        intro j hj
        rw [World.frozen?_setCell]; exact hfr j hj
      have hbs : Below w.heap.size w (wr.setCell ⟨g, 8 + p + q, none⟩ (.int .u8 d.toNat)) := hnx.setCell (by show w.heap.size ≤ g; have := (below_then hb1.out hb2.out).size; rw [HG.out] at this; exact this) _
      have hts : tur n (q + 1) = (tur n q || !(x == 0)) := by rw [← hx]; rfl
      obtain ⟨tb, htb⟩ : ∃ tb, tur n q = tb := ⟨_, rfl⟩
      rw [htb] at hts ⊢
      have HSET := Lib.hid hset
      have HFS := Lib.hid hfs
      have HTS := Lib.hid hts
      clear hcl hfr hc0 hcs hcn hc hx hd hset hfs hts htb
      cases tb
      · by_cases hx0 : x = 0
        · have hxb : ((x.toNat : Int) != 0) = false := by subst hx0; rfl
          have hxc : (x == 0) = true := by subst hx0; rfl
          rw [hxc] at HTS
          clear hxc hx0
          go_wp2
          go_roundw
          case rel => exact ⟨q + 1, by omega, by omega, by go_num, by rw [HTS.out]; rfl, HSET.out, HFS.out, hbs⟩
          case measure => simp [intOf]; omega
        · have hxi : ¬ (x.toNat : Int) = 0 := fun h => hx0 (UInt8.toNat_inj.1 (by simpa using h))
          have hxb : ((x.toNat : Int) != 0) = true := by simpa using hxi
          have hxc : (x == 0) = false := by simpa using hx0
          rw [hxc] at HTS
          clear hxi hxc hx0
          go_wp2
          go_roundw
          case rel => exact ⟨q + 1, by omega, by omega, by go_num, by rw [HTS.out]; rfl, HSET.out, HFS.out, hbs⟩
          case measure => simp [intOf]; omega
      · go_wp2
        go_roundw
        case rel => exact ⟨q + 1, by omega, by omega, by go_num, by rw [HTS.out]; rfl, HSET.out, HFS.out, hbs⟩
        case measure => simp [intOf]; omega
    · obtain ⟨l, hl⟩ : ∃ l, cu H R n q = l := ⟨_, rfl⟩
      have hln : l.length = N := by rw [← hl, cu_len H R n q (by rw [HRL.out]; exact hqs), HHL.out, HRL.out]; omega
      have hcb := run_convert_bytes_back (P := Tryd.prog) wr 32 9 5 ⟨g, 0, none⟩ cp l Tryd.underlying32 Tryd.underlying5 Tryd.underlying9 (fun j hj => by
        have h := hcl j (by omega)
        rw [hl, List.getD_eq_getElem?_getD, List.getElem?_eq_getElem hj] at h
        rw [add_plain, Nat.zero_add, h]; rfl)
      obtain ⟨U, hU⟩ : ∃ U : ByteArray, ⟨l.toArray⟩ = U := ⟨_, rfl⟩
      rw [hln, hU] at hcb
      obtain ⟨F, hF⟩ : ∃ F, opT U = F := ⟨_, rfl⟩
      have hts := turned_shut s p n q (by omega) hps hqs hq4
      rw [← HH.out, ← HR.out, hl, hU] at hts
      have hUs : U.size ≤ 1000000 := by rw [← L_len, ← hU]; show l.length ≤ _; omega
      have c8 : ∀ w, Laid w → Calls Tryd.prog 8 #[.string U] w fun e w' => e = .returned (.tuple #[.string F, .int .i64 (opC U)]) ∧ Below w.heap.size w w' := fun w k => by rw [← hF]; exact open_any U w hUs k
      have hend : ¬ q < 4 ∨ (q < 4 ∧ q = s.size - p) := by omega
      have HLr := Lib.hid (laid_below HL.out hnx)
      obtain ⟨tb, htb⟩ : ∃ tb, tur n q = tb := ⟨_, rfl⟩
      rw [htb] at hts ⊢
      clear hcl hfr hl hln hU hF hUs htb hgo
      cases tb
      · have hC : opC U = 8 + (s.size : Int) := hts.2 rfl
        rw [hC] at c8
        have K8b := Lib.hid c8
        clear c8 hC hts
        rcases hend with hend | ⟨hend, he2⟩
        · go_wp2_with (first | (go_at_call 8; (with_reducible refine (K8b.out _ HLr.out).mono ?_); rintro e w4 ⟨rfl, hb4⟩; have HL4 := Lib.hid (laid_below HLr.out hb4))
                             | (go_at_call 7; (with_reducible refine (awake_any _ HL4.out).mono ?_); rintro e w5 ⟨rfl, hb5⟩))
          go_ret
          exact ⟨rfl, below_then (below_then hnx hb4) hb5⟩
        · go_wp2_with (first | (go_at_call 8; (with_reducible refine (K8b.out _ HLr.out).mono ?_); rintro e w4 ⟨rfl, hb4⟩; have HL4 := Lib.hid (laid_below HLr.out hb4))
                             | (go_at_call 7; (with_reducible refine (awake_any _ HL4.out).mono ?_); rintro e w5 ⟨rfl, hb5⟩))
          go_ret
          exact ⟨rfl, below_then (below_then hnx hb4) hb5⟩
      · have hC : opC U = -1 := hts.1 rfl
        rw [hC] at c8
        have K8b := Lib.hid c8
        clear c8 hC hts
        rcases hend with hend | ⟨hend, he2⟩
        · go_wp2_with (first | (go_at_call 8; (with_reducible refine (K8b.out _ HLr.out).mono ?_); rintro e w4 ⟨rfl, hb4⟩; have HL4 := Lib.hid (laid_below HLr.out hb4))
                             | (go_at_call 7; (with_reducible refine (awake_any _ HL4.out).mono ?_); rintro e w5 ⟨rfl, hb5⟩))
          go_ret
          exact ⟨rfl, below_then (below_then hnx hb4) hb5⟩
        · go_wp2_with (first | (go_at_call 8; (with_reducible refine (K8b.out _ HLr.out).mono ?_); rintro e w4 ⟨rfl, hb4⟩; have HL4 := Lib.hid (laid_below HLr.out hb4))
                             | (go_at_call 7; (with_reducible refine (awake_any _ HL4.out).mono ?_); rintro e w5 ⟨rfl, hb5⟩))
          go_ret
          exact ⟨rfl, below_then (below_then hnx hb4) hb5⟩

/-- A number of sixteen bits among the arguments. -/
theorem open_u16 {H : Type} {enc : TypeId × Value → H} {W : World} {base : Nat} {sp : Nat → Bool} {v : Value} {d : DataW H} {ps : List MemPlace}
    (hv : Value.okWide Tryd.prog W .any base 31 v) (h : DataW.Trod enc Tryd.prog W 0 sp true 31 v d ps) : ∃ n : Nat, v = .int .u16 n ∧ n < 65536 := by
  obtain ⟨a, rfl, _, _, wf⟩ := open_int Tryd.underlying31 hv h
  have hb := bounds_u16 wf
  exact ⟨a.toNat, by rw [Int.toNat_of_nonneg hb.1], by omega⟩

set_option maxRecDepth 100000 in
theorem tears_lifted (os : Os) (started : os.Started) (H : Type) (enc : TypeId × Value → H) :
    ReturnsInHanded {} Tryd.checked os 5 .any (fun w args => (Rows.crcTearsSpec.pre enc Tryd.prog Tryd.f5 [] false w args ∧ laidMetH Tryd.prog laid1 w) ∧ sizedMet enc Tryd.prog Tryd.f5 (OpenSpec.ofChange Rows.crcTearsSpec) false w args)
      (Rows.crcTearsSpec.post enc Tryd.prog Tryd.f5 false true false false) := by
  refine returnsInHanded_of_change_and (C := Tryd.checked) (X := fun w _ => laidMetH Tryd.prog laid1 w) (fun _ _ _ hh h => h.of_heap hh) own started (by kernel_rfl) Tryd.func5
    (ChangeSpec.witness_shaped (enc := enc) (C := Tryd.checked) (os := os) (X := fun w _ => laidMetH Tryd.prog laid1 w) false (World.doorLaid Tryd.prog 14 os) #[.string ⟨#[]⟩, .int .u16 0, .int .u32 0] 8 rfl (World.shaped_of_RefB (by kernel_rfl) (by kernel_rfl)) (by kernel_rfl) (by kernel_rfl) (by kernel_rfl) (door_met os _)) ?_
  intro W base args ds gs before hval0 hW _ _ hL _
  have hval : ∀ (j : Nat) t v, Tryd.f5.params[j]? = some t → args[j]? = some v → Value.okWide Tryd.prog W .any base t v := hval0
  have hW' := hW
  obtain ⟨p, q, hA0, hV, rfl, _, _⟩ := hW
  have hA : DataW.TrodAll enc Tryd.prog W 0 (fun _ => true) true Tryd.f5.params.toList args.toList ds p := hA0
  rw [Tryd.params5] at hA hval
  obtain ⟨v0, v1, v2, d0, d1, d2, p0, p1, p2, rfl, rfl, rfl, h0, h1, h2⟩ := trodAll_three hA
  obtain ⟨s, rfl, _⟩ := open_str (hval 0 9 v0 rfl rfl) h0
  obtain ⟨a, rfl, ha⟩ := open_u16 (hval 1 31 v1 rfl rfl) h1
  obtain ⟨n, rfl, hn⟩ := open_u32 (hval 2 22 v2 rfl rfl) h2
  have hl := of_laid hL
  have hc : Calls Tryd.prog 5 #[.string s, .int .u16 a, .int .u32 n] W fun e w' => e = .returned (.bool true) ∧ Below W.heap.size W w' := by
    by_cases h : s.size = 0
    · exact tears_none s a n W hl h
    · by_cases h3 : s.size ≤ 3000
      · exact tears_walk s a n W hl (by omega) h3 ha hn
      · exact tears_long s a n W hl (by omega)
  refine hc.mono fun e W' ⟨he, hb⟩ => ?_
  subst he
  exact ⟨_, rfl, Frm.law_post (by kernel_rfl) (by kernel_rfl) (by kernel_rfl) Tryd.underlying4 rfl rfl hW' hb⟩

theorem tears_said : Rows.CrcTearsSaid :=
  OpenClaim.holds_of_wide 5 Tryd.f5 rfl rfl rfl rfl rfl rfl rfl ⟨rfl, rfl, rfl, rfl, rfl⟩ rfl rfl rfl rfl rfl (by kernel_rfl) Tryd.func5 (by kernel_rfl)
    (of_decide_eq_true (by kernel_rfl)) (by unfold Func.isWrapper; first | (rw [if_pos (by decide +kernel)]; kernel_rfl) | (rw [if_neg (by decide +kernel)]; exact ⟨rfl, rfl⟩))
    (fun os started H enc _ => tears_lifted os started H enc)

theorem tears_holds : Rows.CrcTearsCardSaid :=
  Claim7.holds_tied_plain_at .later [] [.data] true (true, "758bbf90500c1b449d68af4083feaff34ed2a52c7a0841659f3d8b00909361b8") false
    tears_said (fun _ h => by cases h) (by kernel_rfl) (fun _ h => by cases h) crcTears_row_tie rfl ⟨rfl, rfl⟩ (by kernel_rfl) rfl
    (fun f fn hf hfn => by
      obtain rfl : f = 5 := Option.some.inj ((show Tryd.prog.funcNamed "bargeman/bargemanlaw02.CrcTears" = some 5 by kernel_rfl).symm.trans hf) |>.symm
      obtain rfl : fn = Tryd.f5 := (Option.some.inj (Tryd.func5.symm.trans hfn)).symm
      exact ⟨by kernel_rfl, fun j t ht => by
        rw [Tryd.params5] at ht
        have hm : t ∈ [9, 31, 22] := by simpa using Array.mem_of_getElem? ht
        have hall : ([9, 31, 22].all fun u => !Tryd.prog.wantsStandIn u) = true := by kernel_rfl
        exact (show Tryd.prog.wantsStandIn t = false by simpa using List.all_eq_true.1 hall t hm)⟩)
    (by kernel_rfl)

end Go.Proofs.YtajiekodfdbkkaaDoor
