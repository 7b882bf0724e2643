/- RosterMins is proved: no member has less than the stable place, none can send up to the stable counter, and who is no member counts for nothing. No condition. -/
import Derived.Test.YtjjjpifdmgpnjaaB05
namespace Go.Proofs.Ytjjjpifdmgpnjaa
open Go.ChangeShapes Go.WideShapes Go.ChangeAt Go.RowKit Go.Deep Cod

theorem fold_le {f : Int → Mb → Int} (hf : ∀ t m, f t m ≤ t) : ∀ (l : List Mb) (t : Int), l.foldl f t ≤ t
  | [], t => Int.le_refl t
  | m :: l, t => Int.le_trans (fold_le hf l (f t m)) (hf t m)
theorem fold_mem {f : Int → Mb → Int} (hf : ∀ t m, f t m ≤ t) {m : Mb} {g : Int} (hg : ∀ t, f t m ≤ g) : ∀ (l : List Mb) (t : Int), m ∈ l → l.foldl f t ≤ g
  | x :: l, t, h => by
    rcases List.mem_cons.1 h with rfl | h
    · exact Int.le_trans (fold_le hf l (f t m)) (hg t)
    · exact fold_mem hf hg l (f t x) h
theorem fold_filter {f : Int → Mb → Int} {p : Mb → Bool} (hf : ∀ t m, p m = false → f t m = t) : ∀ (l : List Mb) (t : Int), (l.filter p).foldl f t = l.foldl f t
  | [], t => rfl
  | m :: l, t => by
    cases hp : p m with
    | true => rw [List.filter_cons_of_pos hp]; exact fold_filter hf l (f t m)
    | false => rw [List.filter_cons_of_neg (by rw [hp]; decide), fold_filter hf l t, List.foldl_cons, hf t m hp]
theorem stabM1_le (t : Int) (m : Mb) : stabM1 t m ≤ t := by
  unfold stabM1
  split
  · exact Int.min_le_left _ _
  · exact Int.le_refl _
theorem cntM1_le (t : Int) (m : Mb) : cntM1 t m ≤ t := by
  unfold cntM1
  split
  · split <;> exact Int.min_le_left _ _
  · exact Int.le_refl _
theorem stabM_mem {l : List Mb} {m : Mb} (h : m ∈ l) (hw : m.w = true) (pos : Int) : stabM l pos ≤ m.r.p :=
  fold_mem stabM1_le (fun t => by unfold stabM1; rw [if_pos hw]; exact Int.min_le_right _ _) l pos h
theorem cntrM_same {l : List Mb} {m : Mb} (h : m ∈ l) (hw : m.w = true) (hs : m.r.s = m.n) (c lo : Int) : cntrM l c lo ≤ m.r.c :=
  fold_mem cntM1_le (fun t => by unfold cntM1; rw [if_pos hw, if_pos hs]; exact Int.min_le_right _ _) l _ h
theorem cntrM_other {l : List Mb} {m : Mb} (h : m ∈ l) (hw : m.w = true) (hs : ¬ m.r.s = m.n) (c lo : Int) : cntrM l c lo ≤ m.l :=
  fold_mem cntM1_le (fun t => by unfold cntM1; rw [if_pos hw, if_neg hs]; exact Int.min_le_right _ _) l _ h
theorem stabM_filter (l : List Mb) (pos : Int) : stabM (l.filter Mb.w) pos = stabM l pos := fold_filter (fun t m h => by unfold stabM1; rw [if_neg (by rw [h]; decide)]) l pos
theorem cntrM_filter (l : List Mb) (c lo : Int) : cntrM (l.filter Mb.w) c lo = cntrM l c lo := fold_filter (fun t m h => by unfold cntM1; rw [if_neg (by rw [h]; decide)]) l _
theorem cntrM_le (l : List Mb) (c lo : Int) : cntrM l c lo ≤ c ∧ cntrM l c lo ≤ lo - 1 := by
  have h := fold_le cntM1_le l (min c (lo - 1))
  have h1 := Int.min_le_left c (lo - 1)
  have h2 := Int.min_le_right c (lo - 1)
  exact ⟨Int.le_trans h h1, Int.le_trans h h2⟩
set_option maxRecDepth 100000 in
set_option maxHeartbeats 8000000 in
theorem mins16_walk (H : RosterCalls) (A : Option Addr) (c : Nat) (l : List Mb) (p q r : Int) (w : World) (hT : SlV mbE w A c l) (hq : ∀ m ∈ l, MbQ m) (hl : l.length ≤ reachBytes) (hr : i64 r) :
    Calls Try.prog 6 #[.slice A l.length c, .agg #[.int .i64 p, .int .i64 q, .int .i64 r]] w fun e w' => e = .returned (.bool true) ∧ Below w.heap.size w w' := by
  have hB := below_alloc (Below.refl w.heap.size w) (.cells #[.int .i64 p, .int .i64 q, .int .i64 r] 23)
  have p0 : (w.alloc (.cells #[.int .i64 p, .int .i64 q, .int .i64 r] 23)).cell? ⟨w.heap.size, 0, none⟩ = some (.int .i64 p) := rowCell16 w _ _ 0
  have p1 : (w.alloc (.cells #[.int .i64 p, .int .i64 q, .int .i64 r] 23)).cell? ⟨w.heap.size, 1, none⟩ = some (.int .i64 q) := rowCell16 w _ _ 1
  have p2 : (w.alloc (.cells #[.int .i64 p, .int .i64 q, .int .i64 r] 23)).cell? ⟨w.heap.size, 2, none⟩ = some (.int .i64 r) := rowCell16 w _ _ 2
  have HWH := Lib.hid (fun (wx : World) (hb : Below w.heap.size w wx) => whole16_any A c l wx (by unfold reachBytes at hl; omega) (hT.1.below hb) (fun m hm => by have := (hq m hm).f; unfold maxLen at this; omega))
  have HA := Lib.hid (fun wx => awake16_any H wx)
  have HT := Lib.hid hT
  clear hT hq hl
  go_enter Try.func6, Try.ntmps6
  go_upto_region 1 with fail
  generalize w.alloc (.cells #[.int .i64 p, .int .i64 q, .int .i64 r] 23) = W at *
  obtain ⟨n1, h1⟩ : ∃ n, w.heap.size = n := ⟨_, rfl⟩
  rw [h1] at p0 p1 p2 ⊢
  clear h1
  go_quiet (fail)
  replace hB := below_drew hB nq
  clear p0 p1 p2
  go_wp2_with fail
  refine (HWH.out _ hB).mono ?_
  rintro e w2 ⟨bv, rfl, hbv, hb2⟩
  replace hB := below_then hB hb2
  clear hb2 HWH
  cases bv with
  | false =>
    go_wp2_with fail
    refine (HA.out _).mono ?_
    rintro e w3 ⟨rfl, hb3⟩
    go_wp2_with fail
    go_ret
    exact ⟨rfl, below_then hB hb3⟩
  | true =>
    by_cases hlo : r < -1152921504606846976
    · have f1 : decide (r < -1152921504606846976) = true := decide_eq_true hlo
      clear hlo
      go_wp2_with fail
      refine (HA.out _).mono ?_
      rintro e w3 ⟨rfl, hb3⟩
      go_wp2_with fail
      go_ret
      exact ⟨rfl, below_then hB hb3⟩
    · have f1 : decide (r < -1152921504606846976) = false := decide_eq_false hlo
      obtain ⟨h4, hs⟩ := hbv.out rfl
      have hr2 := hr.2
      clear hr
      have H4 := Lib.hid h4
      have D5 := Lib.hid (fun wx (hb : Below w.heap.size w wx) => H.stable A c l p wx (by omega) (SlV.below HT.out hb))
      have D7 := Lib.hid (fun wx (hb : Below w.heap.size w wx) => H.counter A c l q r wx (by omega) (SlV.below HT.out hb) (by omega) hr2)
      have HFL := Lib.hid (show (l.filter Mb.w).length ≤ 1000 from Nat.le_trans (List.length_filter_le _ _) (by omega))
      have E5 := Lib.hid (fun (A' : Option Addr) (c' : Nat) wx (hT' : SlV mbE wx A' c' (l.filter Mb.w)) => (by
        have h := H.stable A' c' (l.filter Mb.w) p wx HFL.out hT'
        rw [stabM_filter] at h
        exact h : Calls Try.prog 14 #[.slice A' (l.filter Mb.w).length c', .int .i64 p] wx fun e w' => e = .returned (.int .i64 (stabM l p)) ∧ Below wx.heap.size wx w'))
      have E7 := Lib.hid (fun (A' : Option Addr) (c' : Nat) wx (hT' : SlV mbE wx A' c' (l.filter Mb.w)) => (by
        have h := H.counter A' c' (l.filter Mb.w) q r wx HFL.out hT' (by omega) hr2
        rw [cntrM_filter] at h
        exact h : Calls Try.prog 16 #[.slice A' (l.filter Mb.w).length c', .int .i64 q, .int .i64 r] wx fun e w' => e = .returned (.int .i64 (cntrM l q r)) ∧ Below wx.heap.size wx w'))
      have K1 := Lib.hid (fun (m : Mb) (hm : m ∈ l) (hw : m.w = true) => stabM_mem hm hw p)
      have K2 := Lib.hid (fun (m : Mb) (hm : m ∈ l) (hw : m.w = true) (hs : m.r.s = m.n) => cntrM_same hm hw hs q r)
      have K3 := Lib.hid (fun (m : Mb) (hm : m ∈ l) (hw : m.w = true) (hs : ¬ m.r.s = m.n) => cntrM_other hm hw hs q r)
      have g1 : decide (stabM l p ≤ p) = true := decide_eq_true (fold_le stabM1_le l p)
      have g2 : decide (cntrM l q r ≤ q) = true := decide_eq_true (cntrM_le l q r).1
      have g3 : decide (cntrM l q r ≤ r - 1) = true := decide_eq_true (cntrM_le l q r).2
      have g4 : IntKind.i64.wrap (r - 1) = r - 1 := by rw [IntKind.wrap_i64]; omega
      generalize stabM l p = s at *
      generalize cntrM l q r = t at *
      clear hs hr2 hlo
      go_wp2_with fail
      refine (D5.out _ hB).mono ?_
      rintro e w3 ⟨rfl, hb3⟩
      replace hB := below_then hB hb3
      clear hb3
      go_wp2_with fail
      refine (D7.out _ hB).mono ?_
      rintro e w4 ⟨rfl, hb4⟩
      replace hB := below_then hB hb4
      clear hb4 D5 D7
      have hO := El.Own.nil (E := mbE) w4 w.heap.size
      go_wp2_with fail
      go_loopw [10, 11] (fun p y wr => ∃ (k : Nat) (v : Value), k ≤ l.length ∧ y = .int .i64 k ∧ p = v ∧ mbE.Own wr w.heap.size v ((l.take k).filter Mb.w) ∧ Below w.heap.size w wr) (fun _ y _ => l.length - (intOf y).toNat)
      case atStart => exact ⟨0, _, Nat.zero_le _, rfl, rfl, hO, hB⟩
      case round =>
        clear hB hO
        obtain ⟨k, v, hk, rfl, rfl, hO, hB⟩ := hrel
        by_cases hkl : k < l.length
        · obtain ⟨b, off, eA, hbw, hc⟩ := HT.out.1 (by omega)
          have hx := mbIdx (cap := c) eA hkl
          have hat : mbE.At wr b (off + k * 16) l[k] := (hc k hkl).below hB hbw
          have HNX := Lib.hid (show (l.take (k + 1)).filter Mb.w = (l.take k).filter Mb.w ++ (if l[k].w = true then [l[k]] else []) by
            rw [List.take_succ_eq_append_getElem hkl, List.filter_append]
            congr 1
            by_cases c : l[k].w = true
            · rw [if_pos c, List.filter_cons_of_pos c]; rfl
            · rw [if_neg c, List.filter_cons_of_neg c]; rfl)
          have HLE := Lib.hid (show ((l.take k).filter Mb.w).length ≤ 1000 from Nat.le_trans (List.length_filter_le _ _) (by rw [List.length_take]; have := H4.out; omega))
          have k1 := K1.out l[k] (List.getElem_mem _)
          have k2 := K2.out l[k] (List.getElem_mem _)
          have k3 := K3.out l[k] (List.getElem_mem _)
          generalize l[k] = x at *
          generalize (l.take k).filter Mb.w = LO at *
          obtain ⟨A0, c0, rfl, _⟩ := SlV.own hO
          have hnO1 : ∀ g, (Value.slice A0 LO.length c0).ownBlock = some g → g < wr.heap.size := fun g e => (hO.lt g e).2
          have hwr := hB.size
          have hE : mbE.In (wr.alloc (.cells #[.int .i64 x.d, .int .i64 x.i, .bool x.w, .int .i64 x.n, .int .i64 x.l, .int .i64 x.o, .int .i64 x.r.d, .int .i64 x.r.i, .int .i64 x.r.b, .int .i64 x.r.t, .int .i64 x.r.m, .int .i64 x.r.p, .int .i64 x.r.c, .int .i64 x.r.s, .int .i64 x.r.k, .string x.f] 39)) wr.heap.size x := El.In.new (E := mbE) wr x _ rfl
          have hal := below_alloc (Below.refl wr.heap.size wr) (.cells #[.int .i64 x.d, .int .i64 x.i, .bool x.w, .int .i64 x.n, .int .i64 x.l, .int .i64 x.o, .int .i64 x.r.d, .int .i64 x.r.i, .int .i64 x.r.b, .int .i64 x.r.t, .int .i64 x.r.m, .int .i64 x.r.p, .int .i64 x.r.c, .int .i64 x.r.s, .int .i64 x.r.k, .string x.f] 39)
          replace hB := below_then hB hal
          replace hO := hO.below hal
          clear hal hc eA
          go_upto_region 10 with (first | (refine El.load mbRow rfl _ rfl b (off + k * 16) rfl x hat #[.int .i64 x.d, .int .i64 x.i, .bool x.w, .int .i64 x.n, .int .i64 x.l, .int .i64 x.o, .int .i64 x.r.d, .int .i64 x.r.i, .int .i64 x.r.b, .int .i64 x.r.t, .int .i64 x.r.m, .int .i64 x.r.p, .int .i64 x.r.c, .int .i64 x.r.s, .int .i64 x.r.k, .string x.f] rfl ?_) | fail)
          clear hat hx hbw
          generalize wr.alloc (.cells #[.int .i64 x.d, .int .i64 x.i, .bool x.w, .int .i64 x.n, .int .i64 x.l, .int .i64 x.o, .int .i64 x.r.d, .int .i64 x.r.i, .int .i64 x.r.b, .int .i64 x.r.t, .int .i64 x.r.m, .int .i64 x.r.p, .int .i64 x.r.c, .int .i64 x.r.s, .int .i64 x.r.k, .string x.f] 39) = V at *
          have hnO_lt : ∀ g, (Value.slice A0 LO.length c0).ownBlock = some g → g < wr.heap.size := hnO1
          generalize wr.heap.size = n at *
          obtain ⟨_, _, h2, _, _, _, _, _, _, _, _, _, _, _, _, _⟩ := mbIn16 hE
          cases hw : x.w with
          | false =>
            rw [hw] at h2
            have HNV := Lib.hid (show (l.take (k + 1)).filter Mb.w = LO by rw [HNX.out, hw]; simp)
            clear hw k1 k2 k3 hE
            go_wp2_with fail
            exact ⟨⟨k + 1, _, by omega, by go_num, rfl, by rw [HNV.out]; exact hO, hB⟩, by simp [intOf]; omega⟩
          | true =>
            have HNV := Lib.hid (show (l.take (k + 1)).filter Mb.w = LO ++ [x] by rw [HNX.out, hw, if_pos rfl])
            rw [hw] at h2
            have j1 : decide (x.r.p < s) = false := decide_eq_false (by have := k1 hw; omega)
            have hk3 := k3 hw
            have hk2 := k2 hw
            clear k1 k2 k3 HNX
            have hal2 := below_alloc (Below.refl V.heap.size V) (.cells #[.int .i64 x.d, .int .i64 x.i, .bool x.w, .int .i64 x.n, .int .i64 x.l, .int .i64 x.o, .int .i64 x.r.d, .int .i64 x.r.i, .int .i64 x.r.b, .int .i64 x.r.t, .int .i64 x.r.m, .int .i64 x.r.p, .int .i64 x.r.c, .int .i64 x.r.s, .int .i64 x.r.k, .string x.f] 39)
            have hO2 := hO.below hal2
            have hT2 : mbE.Sl (V.alloc (.cells #[.int .i64 x.d, .int .i64 x.i, .bool x.w, .int .i64 x.n, .int .i64 x.l, .int .i64 x.o, .int .i64 x.r.d, .int .i64 x.r.i, .int .i64 x.r.b, .int .i64 x.r.t, .int .i64 x.r.m, .int .i64 x.r.p, .int .i64 x.r.c, .int .i64 x.r.s, .int .i64 x.r.k, .string x.f] 39)) (some ⟨V.heap.size, 0, none⟩) [x] := (El.In.new (E := mbE) V x _ rfl).sl
            have hE2 := hE.below hal2
            have hB2 := below_then hB hal2
            have hBs := hB2.size
            have hno : ∀ g, (Value.slice A0 LO.length c0).ownBlock = some g → g < n := hnO_lt
            clear hal2 hO hw
            by_cases he : x.r.s = x.n
            · have j2 : (x.r.s == x.n) = true := beq_iff_eq.2 he
              have j2b : (x.r.s != x.n) = false := by simp [he]
              have j2c : decide (x.r.s = x.n) = true := decide_eq_true he
              have j2d : decide (¬ x.r.s = x.n) = false := decide_eq_false (fun h => h he)
              have j3 : decide (x.r.c < t) = false := decide_eq_false (by have := hk2 he; omega)
              clear hk2 hk3 he
              go_wp2_with (first | (at_builtin; refine El.wpList_app mbInn rfl _ _ rfl w.heap.size _ LO [x] rfl hO2 (some ⟨V.heap.size, 0, none⟩) 1 1 rfl rfl hT2 (fun e => by cases e) (by have := HLE.out; rw [List.length_singleton]; omega) hBs ?_; intro v' w5 hO5 hg5 _; have hE5 := hE2.keep hg5 (fun e => by have := hno _ e.symm; omega); obtain ⟨_, _, q2, q3, q4, _, _, _, _, _, _, q11, q12, q13, _, _⟩ := mbIn16 hE5) | (refine El.load mbRow rfl _ rfl n 0 rfl x hE.at #[.int .i64 x.d, .int .i64 x.i, .bool x.w, .int .i64 x.n, .int .i64 x.l, .int .i64 x.o, .int .i64 x.r.d, .int .i64 x.r.i, .int .i64 x.r.b, .int .i64 x.r.t, .int .i64 x.r.m, .int .i64 x.r.p, .int .i64 x.r.c, .int .i64 x.r.s, .int .i64 x.r.k, .string x.f] rfl ?_) | fail)
              exact ⟨⟨k + 1, _, by omega, by go_num, rfl, by rw [HNV.out]; exact hO5, hB2.grown hg5 hB2.size (fun k e => (hO2.lt k e).1)⟩, by simp [intOf]; omega⟩
            · have j2 : (x.r.s == x.n) = false := beq_eq_false_iff_ne.2 he
              have j2b : (x.r.s != x.n) = true := by simp [he]
              have j2c : decide (x.r.s = x.n) = false := decide_eq_false he
              have j2d : decide (¬ x.r.s = x.n) = true := decide_eq_true he
              have j3 : decide (x.l < t) = false := decide_eq_false (by have := hk3 he; omega)
              clear hk2 hk3 he
              go_wp2_with (first | (at_builtin; refine El.wpList_app mbInn rfl _ _ rfl w.heap.size _ LO [x] rfl hO2 (some ⟨V.heap.size, 0, none⟩) 1 1 rfl rfl hT2 (fun e => by cases e) (by have := HLE.out; rw [List.length_singleton]; omega) hBs ?_; intro v' w5 hO5 hg5 _; have hE5 := hE2.keep hg5 (fun e => by have := hno _ e.symm; omega); obtain ⟨_, _, q2, q3, q4, _, _, _, _, _, _, q11, q12, q13, _, _⟩ := mbIn16 hE5) | (refine El.load mbRow rfl _ rfl n 0 rfl x hE.at #[.int .i64 x.d, .int .i64 x.i, .bool x.w, .int .i64 x.n, .int .i64 x.l, .int .i64 x.o, .int .i64 x.r.d, .int .i64 x.r.i, .int .i64 x.r.b, .int .i64 x.r.t, .int .i64 x.r.m, .int .i64 x.r.p, .int .i64 x.r.c, .int .i64 x.r.s, .int .i64 x.r.k, .string x.f] rfl ?_) | fail)
              exact ⟨⟨k + 1, _, by omega, by go_num, rfl, by rw [HNV.out]; exact hO5, hB2.grown hg5 hB2.size (fun k e => (hO2.lt k e).1)⟩, by simp [intOf]; omega⟩
        · obtain rfl : k = l.length := by omega
          rw [List.take_length] at hO
          obtain ⟨A', c', rfl, hS⟩ := SlV.own hO
          clear hO K1 K2 K3
          as_aux_lemma =>
            go_wp2_with fail
            refine (HA.out _).mono ?_
            rintro e w5 ⟨rfl, hb5⟩
            replace hS := SlV.below hS hb5
            replace hB := below_then hB hb5
            clear hb5
            go_wp2_with fail
            refine (E5.out A' c' _ hS).mono ?_
            rintro e w6 ⟨rfl, hb6⟩
            replace hS := SlV.below hS hb6
            replace hB := below_then hB hb6
            clear hb6 E5
            go_wp2_with fail
            refine (E7.out A' c' _ hS).mono ?_
            rintro e w7 ⟨rfl, hb7⟩
            replace hB := below_then hB hb7
            go_wp2_with fail
            go_ret
            exact ⟨by simp, hB⟩
set_option maxRecDepth 100000 in
theorem mins16_lifted (H0 : RosterCalls) (os : Os) (started : os.Started) (H : Type) (enc : TypeId × Value → H) :
    ReturnsInHanded {} Try.checked os 6 .any (Rows.rosterMinsSpec.pre6 enc Try.prog Try.f6 Rows.rosterMinsRow.domain false) (Rows.rosterMinsSpec.post enc Try.prog Try.f6 false true false false) := by
  refine handed_sized (C := Try.checked) own started (by kernel_rfl) Try.func6
    (ChangeSpec.witness6 (enc := enc) (C := Try.checked) false ⟨#[], #[.slice none 0 0, .agg #[.int .i64 0, .int .i64 0, .int .i64 0]], []⟩ 8 (by kernel_rfl) (by kernel_rfl) (by kernel_rfl) (by kernel_rfl)) ?_
  intro W base args ds gs before hval0 hW hL0
  have hval : ∀ (j : Nat) t v, Try.f6.params[j]? = some t → args[j]? = some v → Value.okWide Try.prog W .any base t v := hval0
  have hW' := hW
  obtain ⟨p, q, hA0, hV, rfl, _, _⟩ := hW
  have hA : DataW.TrodAll enc Try.prog W 0 (fun _ => true) true Try.f6.params.toList args.toList ds p := hA0
  rw [Try.params6] at hA hval
  obtain ⟨v0, v1, d0, d1, p0, p1, rfl, rfl, rfl, h0, h1⟩ := trodAll_two hA
  simp only [Try.params6, List.cons_append, List.nil_append, DataW.weightsEach, List.all_append, Bool.and_eq_true] at hL0
  obtain ⟨A, c, l, rfl, hS, hn, hq⟩ := open_mbsN (hval 0 22 v0 rfl rfl) h0 hL0.1
  obtain ⟨x1, x2, x3, rfl, i1, i2, i3⟩ := open_int3 (hval 1 23 v1 rfl rfl) h1
  have hc : Calls Try.prog 6 #[.slice A l.length c, .agg #[.int .i64 x1, .int .i64 x2, .int .i64 x3]] W fun e w' => e = .returned (.bool true) ∧ Below W.heap.size W w' := by
    exact mins16_walk H0 A c l x1 x2 x3 W hS hq hn i3
  refine hc.mono fun e W' ⟨he, hb⟩ => ?_
  subst he
  exact ⟨_, rfl, Frm.law_post (by kernel_rfl) (by kernel_rfl) (by kernel_rfl) Try.underlying4 rfl rfl hW' hb⟩

theorem mins16_holds (H0 : RosterCalls) : Rows.RosterMinsSaid :=
  OpenClaim.holds_of_wide 6 Try.f6 rfl rfl rfl rfl rfl rfl rfl ⟨rfl, rfl, rfl, rfl, rfl⟩ rfl rfl rfl rfl rfl (by kernel_rfl) Try.func6 (by kernel_rfl)
    (of_decide_eq_true (by kernel_rfl)) (by unfold Func.isWrapper; first | (rw [if_pos (by decide +kernel)]; kernel_rfl) | (rw [if_neg (by decide +kernel)]; exact ⟨rfl, rfl⟩))
    (fun os started H enc _ => mins16_lifted H0 os started H enc)
end Go.Proofs.Ytjjjpifdmgpnjaa

namespace Go.Proofs.Ytjjjpifdmgpnjaa
theorem rosterMins_all : Rows.RosterMinsSaid := mins16_holds rosterCalls
end Go.Proofs.Ytjjjpifdmgpnjaa
