/- Texts laid one behind the other: Fp, Fq, Ft, Je, Jf. -/
import Derived.Test.YtndahomgglpdhaaDoorB06
import Derived.Deep.CutRange
/- The document's Read of reports, and of gifts. -/
namespace Go.Proofs.YtndahomgglpdhaaDoor
open Go.RowKit Nam Cod

/-- An array of nine numbers. -/
def niE : El Rp where
  e := 104
  k := 9
  c r := [.int .i64 r.d, .int .i64 r.i, .int .i64 r.b, .int .i64 r.t, .int .i64 r.m, .int .i64 r.p, .int .i64 r.c, .int .i64 r.s, .int .i64 r.k]
  len _ := rfl
  one p u h := by
    simp only [List.mem_cons, List.not_mem_nil, or_false] at h
    rcases h with rfl | rfl | rfl | rfl | rfl | rfl | rfl | rfl | rfl <;> rfl
  pos := by decide
theorem niIn9 {w : World} {b : Nat} {r : Rp} (h : niE.In w b r) : w.cell? ⟨b, 0, none⟩ = some (.int .i64 r.d) ∧ w.cell? ⟨b, 1, none⟩ = some (.int .i64 r.i) ∧ w.cell? ⟨b, 2, none⟩ = some (.int .i64 r.b) ∧ w.cell? ⟨b, 3, none⟩ = some (.int .i64 r.t) ∧ w.cell? ⟨b, 4, none⟩ = some (.int .i64 r.m) ∧ w.cell? ⟨b, 5, none⟩ = some (.int .i64 r.p) ∧ w.cell? ⟨b, 6, none⟩ = some (.int .i64 r.c) ∧ w.cell? ⟨b, 7, none⟩ = some (.int .i64 r.s) ∧ w.cell? ⟨b, 8, none⟩ = some (.int .i64 r.k) :=
  ⟨h.cell 0, h.cell 1, h.cell 2, h.cell 3, h.cell 4, h.cell 5, h.cell 6, h.cell 7, h.cell 8⟩
theorem niCell {w : World} {b : Nat} {r : Rp} (h : niE.In w b r) : ∀ k, k < 9 → w.cell? ⟨b, k, none⟩ = some (.int .i64 ((rpL r).getD k 0))
  | 0, _ => h.cell 0
  | 1, _ => h.cell 1
  | 2, _ => h.cell 2
  | 3, _ => h.cell 3
  | 4, _ => h.cell 4
  | 5, _ => h.cell 5
  | 6, _ => h.cell 6
  | 7, _ => h.cell 7
  | 8, _ => h.cell 8
  | k + 9, h => absurd h (by omega)
theorem setF_ni (r : Rp) (n : Int) (k : Nat) (h : k < 9) : niE.c (setF r k n) = (niE.c r).set k (.int .i64 n) := setF_c r n k h
theorem two_ni (w : World) (a : Array Value) (T : TypeId) : niE.In ((w.alloc (.cells a T)).alloc (.cells #[.int .i64 0, .int .i64 0, .int .i64 0, .int .i64 0, .int .i64 0, .int .i64 0, .int .i64 0, .int .i64 0, .int .i64 0] 104)) (w.heap.size + 1) zeroRp := by
  have h := El.In.new (E := niE) (w.alloc (.cells a T)) zeroRp _ rfl
  rw [alloc_size] at h; exact h
set_option maxRecDepth 100000 in
set_option maxHeartbeats 4000000 in
theorem refRpRead_uni {w : World} {b p : Nat} {s : ByteArray} {bad : Bool} (hs : s.size ≤ 1000000) (hp : p ≤ s.size) (hr : Rd 87 w b s p bad) :
    Calls Tryd.prog 60 #[.pointer (some ⟨b, 0, none⟩)] w fun e w' => ∃ (x : Rp) (q : Nat) (bad' : Bool), e = .returned (.agg #[.int .i64 x.d, .int .i64 x.i, .int .i64 x.b, .int .i64 x.t, .int .i64 x.m, .int .i64 x.p, .int .i64 x.c, .int .i64 x.s, .int .i64 x.k]) ∧ Rd 87 w' b s q bad' ∧ q ≤ s.size ∧ w.grownBy w' (some b) ∧ rpStep s p bad x q bad' := by
  have hbw := hr.lt
  go_enter Tryd.func60, Tryd.ntmps60
  go_upto_region 2 with fail
  have hZ : rpE.In ((w.alloc (.cells #[.int .i64 0, .int .i64 0, .int .i64 0, .int .i64 0, .int .i64 0, .int .i64 0, .int .i64 0, .int .i64 0, .int .i64 0] 54)).alloc (.cells #[.int .i64 0, .int .i64 0, .int .i64 0, .int .i64 0, .int .i64 0, .int .i64 0, .int .i64 0, .int .i64 0, .int .i64 0] 104)) w.heap.size zeroRp := (El.In.new (E := rpE) w zeroRp #[.int .i64 0, .int .i64 0, .int .i64 0, .int .i64 0, .int .i64 0, .int .i64 0, .int .i64 0, .int .i64 0, .int .i64 0] rfl).alloc _
  have hY := two_ni w #[.int .i64 0, .int .i64 0, .int .i64 0, .int .i64 0, .int .i64 0, .int .i64 0, .int .i64 0, .int .i64 0, .int .i64 0] 54
  have hB := below_alloc (below_alloc (Below.refl w.heap.size w) (.cells #[.int .i64 0, .int .i64 0, .int .i64 0, .int .i64 0, .int .i64 0, .int .i64 0, .int .i64 0, .int .i64 0, .int .i64 0] 54)) (.cells #[.int .i64 0, .int .i64 0, .int .i64 0, .int .i64 0, .int .i64 0, .int .i64 0, .int .i64 0, .int .i64 0, .int .i64 0] 104)
  have hR := hr.below hB
  have hG := by_below hB (some b)
  obtain ⟨n3, h3⟩ : ∃ n, w.heap.size + 1 = n := ⟨_, rfl⟩
  obtain ⟨n2, h2⟩ : ∃ n, w.heap.size = n := ⟨_, rfl⟩
  have hn2 : w.heap.size ≤ n2 := by omega
  have hwn : w.heap.size ≤ n3 := by omega
  have e2 : b ≠ n2 := by omega
  have e3 : b ≠ n3 := by omega
  have e4 : n2 ≠ n3 := by omega
  have i2 : some n2 ≠ some b := fun e => e2 (Option.some.inj e).symm
  have i3 : some n3 ≠ some b := fun e => e3 (Option.some.inj e).symm
  generalize (w.alloc (.cells #[.int .i64 0, .int .i64 0, .int .i64 0, .int .i64 0, .int .i64 0, .int .i64 0, .int .i64 0, .int .i64 0, .int .i64 0] 54)).alloc (.cells #[.int .i64 0, .int .i64 0, .int .i64 0, .int .i64 0, .int .i64 0, .int .i64 0, .int .i64 0, .int .i64 0, .int .i64 0] 104) = W0 at *
  rw [h3] at hY ⊢
  rw [h2] at hZ ⊢
  clear h2 h3 hB hr
  have HS0 := Lib.hid (fdState.zero s p bad zeroRp)
  go_wp2_with fail
  go_loopw [4] (fun i wr => ∃ (k : Nat) (x : Rp) (q : Nat) (b' : Bool), k ≤ 9 ∧ i = .int .i64 k ∧ rpE.In wr n2 zeroRp ∧ niE.In wr n3 x ∧ Rd 87 wr b s q b' ∧ q ≤ s.size ∧ w.grownBy wr (some b) ∧ Hid (fdState s p bad k x q b')) (fun i _ => 9 - (intOf i).toNat)
  case atStart => exact ⟨0, zeroRp, p, bad, Nat.zero_le _, rfl, hZ, hY, hR, hp, hG, HS0⟩
  case round =>
    clear hZ hY hR hp hG HS0
    obtain ⟨k, x, q, b', hk, rfl, hZ, hY, hR, hq, hG, HS⟩ := hrel
    by_cases hkl : k < 9
    · go_wp2_with fail
      refine (refNum_uni hs hq hR).mono ?_
      rintro e w1 ⟨v, q', b1, rfl, hR1, hq1, hg, st⟩
      have HS1 := Lib.hid (HS.out.next hkl st)
      replace hZ := hZ.keep hg i2
      replace hY := hY.keep hg i3
      replace hG := by_trans hG hg
      clear hg hR HS st
      have c0 := niCell hY k hkl
      have cf := hY.frozen k
      have hY1 : niE.In (w1.setCell ⟨n3, k, none⟩ (.int .i64 v)) n3 (setF x k v) := hY.put _ k _ (setF_ni x v k hkl)
      replace hZ := hZ.other n3 k (.int .i64 v) e4
      replace hR1 := hR1.other n3 k (.int .i64 v) e3
      replace hG := by_setNew hG n3 k (.int .i64 v) hwn
      generalize (rpL x).getD k 0 = y at *
      clear hY
      go_wp2_with fail
      exact ⟨⟨k + 1, setF x k v, q', b1, by omega, by go_num, hZ, hY1, hR1, hq1, hG, HS1⟩, by simp [intOf]; omega⟩
    · obtain rfl : k = 9 := by omega
      clear hkl hk
      obtain ⟨y0, y1, y2, y3, y4, y5, y6, y7, y8⟩ := niIn9 hY
      have hX : rpE.In (wr.alloc (.cells #[.int .i64 0, .int .i64 0, .int .i64 0, .int .i64 0, .int .i64 0, .int .i64 0, .int .i64 0, .int .i64 0, .int .i64 0] 54)) wr.heap.size zeroRp := El.In.new (E := rpE) wr zeroRp #[.int .i64 0, .int .i64 0, .int .i64 0, .int .i64 0, .int .i64 0, .int .i64 0, .int .i64 0, .int .i64 0, .int .i64 0] rfl
      have hX2 := hX.set x #[.int .i64 x.d, .int .i64 x.i, .int .i64 x.b, .int .i64 x.t, .int .i64 x.m, .int .i64 x.p, .int .i64 x.c, .int .i64 x.s, .int .i64 x.k] rfl
      have hal := below_alloc (Below.refl wr.heap.size wr) (.cells #[.int .i64 0, .int .i64 0, .int .i64 0, .int .i64 0, .int .i64 0, .int .i64 0, .int .i64 0, .int .i64 0, .int .i64 0] 54)
      have hnz := hZ.lt
      have hnb := hR.lt
      have hgs := hG.size
      have hZ2 := (hZ.below hal).rowN wr.heap.size #[.int .i64 x.d, .int .i64 x.i, .int .i64 x.b, .int .i64 x.t, .int .i64 x.m, .int .i64 x.p, .int .i64 x.c, .int .i64 x.s, .int .i64 x.k] (by omega)
      have hR2 := (hR.below hal).row wr.heap.size #[.int .i64 x.d, .int .i64 x.i, .int .i64 x.b, .int .i64 x.t, .int .i64 x.m, .int .i64 x.p, .int .i64 x.c, .int .i64 x.s, .int .i64 x.k] (by omega)
      have hG2 := by_setRow (by_trans hG (by_below hal _)) wr.heap.size #[.int .i64 x.d, .int .i64 x.i, .int .i64 x.b, .int .i64 x.t, .int .i64 x.m, .int .i64 x.p, .int .i64 x.c, .int .i64 x.s, .int .i64 x.k] (by omega)
      clear hZ hR hG hal hnz hnb hgs hY
      go_upto_region 7 with (first | (refine El.store rpRow rfl _ _ rfl wr.heap.size x #[.int .i64 x.d, .int .i64 x.i, .int .i64 x.b, .int .i64 x.t, .int .i64 x.m, .int .i64 x.p, .int .i64 x.c, .int .i64 x.s, .int .i64 x.k] rfl rfl rfl zeroRp hX ?_) | fail)
      clear hX y0 y1 y2 y3 y4 y5 y6 y7 y8
      have hX := hX2
      have hZ := hZ2
      have hR := hR2
      have hG := hG2
      clear hX2 hZ2 hR2 hG2
      generalize (wr.alloc (.cells #[.int .i64 0, .int .i64 0, .int .i64 0, .int .i64 0, .int .i64 0, .int .i64 0, .int .i64 0, .int .i64 0, .int .i64 0] 54)).setRow wr.heap.size #[.int .i64 x.d, .int .i64 x.i, .int .i64 x.b, .int .i64 x.t, .int .i64 x.m, .int .i64 x.p, .int .i64 x.c, .int .i64 x.s, .int .i64 x.k] = W1 at *
      generalize wr.heap.size = n4 at *
      obtain ⟨r0, r1, r2⟩ := hR.cells
      have rf := hR.frozen
      cases b'
      · have hst := HS.out.last
        have CR := Lib.hid (fun wx => refRpRight_any x wx)
        obtain ⟨y0, y1, y2, y3, y4, y5, y6, y7, y8⟩ := rpIn9 hX
        cases hN : rpB x
        · rw [hN, if_neg (by decide)] at hst
          rw [hN] at CR
          have HG := Lib.hid hst
          clear hst hN
          go_wp2_with fail
          clear y0 y1 y2 y3 y4 y5 y6 y7 y8
          refine (CR.out _).mono ?_
          rintro r w5 ⟨rfl, hb5⟩
          replace hZ := hZ.below hb5
          replace hX := hX.below hb5
          replace hR := hR.below hb5
          replace hG := by_trans hG (by_below hb5 _)
          clear hb5
          clear r0 r1 r2 rf
          obtain ⟨r0, r1, r2⟩ := hR.cells
          have rf := hR.frozen
          have hR2 := hR.setBad
          have hG2 := by_set hG 2 (.bool true)
          replace hZ := hZ.other b 2 (.bool true) (fun e => e2 e.symm)
          clear hR hG
          go_upto_region 9 with fail
          clear r0 r1 r2 rf
          generalize w5.setCell ⟨b, 2, none⟩ (.bool true) = W9 at *
          go_wp2_with (first | (refine El.store rpRow rfl _ _ rfl n2 zeroRp #[.int .i64 0, .int .i64 0, .int .i64 0, .int .i64 0, .int .i64 0, .int .i64 0, .int .i64 0, .int .i64 0, .int .i64 0] rfl rfl rfl zeroRp hZ ?_) | fail)
          refine El.ret1 rpRow (hZ.set zeroRp _ rfl) rfl rfl rfl #[.int .i64 0, .int .i64 0, .int .i64 0, .int .i64 0, .int .i64 0, .int .i64 0, .int .i64 0, .int .i64 0, .int .i64 0] rfl ?_
          exact ⟨zeroRp, q, true, rfl, hR2.row n2 _ e2, hq, by_setRow hG2 n2 _ hn2, Or.inr ⟨HG.out, rfl, rfl⟩⟩
        · rw [hN, if_pos rfl] at hst
          rw [hN] at CR
          have HG := Lib.hid hst
          clear hst hN
          go_wp2_with fail
          clear y0 y1 y2 y3 y4 y5 y6 y7 y8
          refine (CR.out _).mono ?_
          rintro r w5 ⟨rfl, hb5⟩
          replace hZ := hZ.below hb5
          replace hX := hX.below hb5
          replace hR := hR.below hb5
          replace hG := by_trans hG (by_below hb5 _)
          clear hb5
          clear r0 r1 r2 rf
          go_wp2_with (first | (refine El.load rpRow rfl _ rfl n4 0 rfl x hX.at #[.int .i64 x.d, .int .i64 x.i, .int .i64 x.b, .int .i64 x.t, .int .i64 x.m, .int .i64 x.p, .int .i64 x.c, .int .i64 x.s, .int .i64 x.k] rfl ?_) | (refine El.store rpRow rfl _ _ rfl n2 x #[.int .i64 x.d, .int .i64 x.i, .int .i64 x.b, .int .i64 x.t, .int .i64 x.m, .int .i64 x.p, .int .i64 x.c, .int .i64 x.s, .int .i64 x.k] rfl rfl rfl zeroRp hZ ?_) | fail)
          refine El.ret1 rpRow (hZ.set x _ rfl) rfl rfl rfl #[.int .i64 x.d, .int .i64 x.i, .int .i64 x.b, .int .i64 x.t, .int .i64 x.m, .int .i64 x.p, .int .i64 x.c, .int .i64 x.s, .int .i64 x.k] rfl ?_
          exact ⟨x, q, false, rfl, hR.row n2 _ e2, hq, by_setRow hG n2 _ hn2, Or.inl ⟨HG.out, rfl⟩⟩
      · have HG := Lib.hid HS.out.ill
        clear HS hX
        have hR2 := hR.setBad
        have hG2 := by_set hG 2 (.bool true)
        replace hZ := hZ.other b 2 (.bool true) (fun e => e2 e.symm)
        clear hR hG
        go_upto_region 9 with fail
        clear r0 r1 r2 rf
        generalize W1.setCell ⟨b, 2, none⟩ (.bool true) = W9 at *
        go_wp2_with (first | (refine El.store rpRow rfl _ _ rfl n2 zeroRp #[.int .i64 0, .int .i64 0, .int .i64 0, .int .i64 0, .int .i64 0, .int .i64 0, .int .i64 0, .int .i64 0, .int .i64 0] rfl rfl rfl zeroRp hZ ?_) | fail)
        refine El.ret1 rpRow (hZ.set zeroRp _ rfl) rfl rfl rfl #[.int .i64 0, .int .i64 0, .int .i64 0, .int .i64 0, .int .i64 0, .int .i64 0, .int .i64 0, .int .i64 0, .int .i64 0] rfl ?_
        exact ⟨zeroRp, q, true, rfl, hR2.row n2 _ e2, hq, by_setRow hG2 n2 _ hn2, Or.inr ⟨HG.out, rfl, rfl⟩⟩
end Go.Proofs.YtndahomgglpdhaaDoor

/- Reading a frame's parts: texts, counts, gifts, lists, whatever the reader's state; the document's ReadGift. -/
namespace Go.Proofs.YtndahomgglpdhaaDoor
open Go.RowKit Nam Cod

theorem refText_m {w : World} {b p : Nat} {s : ByteArray} {bad : Bool} (most : Int) (hs : s.size ≤ 1000000) (hp : p ≤ s.size) (hr : Rd 87 w b s p bad) :
    Calls Tryd.prog 94 #[.pointer (some ⟨b, 0, none⟩), .int .i64 most] w fun e w' => ∃ v q bad', e = .returned (.string v) ∧ Rd 87 w' b s q bad' ∧ q ≤ s.size ∧ v.size ≤ 1000000 ∧ w.grownBy w' (some b) ∧ tStepF most s p bad v q bad' := by
  rcases h : isText s p bad most with _ | ⟨v, q⟩
  · exact (refRtext_no hs hp hr h).mono fun e w' ⟨he, ⟨q, hq, hr'⟩, hg⟩ => ⟨⟨#[]⟩, q, true, he, hr', hq, by decide, hg, Or.inr ⟨h, rfl, rfl⟩⟩
  · obtain ⟨n, q0, h1, h2, rfl, rfl⟩ := isText_some h
    exact (refRtext_yes hs hp hr h).mono fun e w' ⟨he, hr', hg⟩ => ⟨_, _, false, he, hr', by omega, by rw [ByteArray.size_extract]; omega, hg, Or.inl ⟨h, rfl⟩⟩
theorem refCnt_m {w : World} {b p : Nat} {s : ByteArray} {bad : Bool} (most : Nat) (hs : s.size ≤ 1000000) (hp : p ≤ s.size) (hr : Rd 87 w b s p bad) :
    Calls Tryd.prog 58 #[.pointer (some ⟨b, 0, none⟩), .int .i64 most] w fun e w' => ∃ v q bad', e = .returned (.int .i64 (v : Nat)) ∧ v ≤ most ∧ Rd 87 w' b s q bad' ∧ q ≤ s.size ∧ w.grownBy w' (some b) ∧ cStepF most s p bad v q bad' := by
  rcases h : isCount s p bad most with _ | ⟨v, q⟩
  · exact (refCount_no hs hp hr h).mono fun e w' ⟨he, ⟨q, hq, hr'⟩, hg⟩ => ⟨0, q, true, he, by omega, hr', hq, hg, Or.inr ⟨h, rfl, rfl⟩⟩
  · obtain ⟨h1, h2, h3⟩ := isCount_some h
    obtain ⟨n, rfl⟩ : ∃ n : Nat, v = n := ⟨v.toNat, by omega⟩
    exact (refCount_yes hs hp hr h).mono fun e w' ⟨he, hr', hg⟩ => ⟨n, q, false, he, by omega, hr', (isNum_some h1).2.2.1, hg, Or.inl ⟨h, rfl⟩⟩
theorem gf_good {s : ByteArray} {p : Nat} {bad : Bool} {a b c d : Int} {e : ByteArray} {q1 q2 q3 q4 q : Nat} {b1 b2 b3 b4 : Bool} (h1 : numStep s p bad a q1 b1) (h2 : numStep s q1 b1 b q2 b2) (h3 : numStep s q2 b2 c q3 b3) (h4 : numStep s q3 b3 d q4 b4) (h5 : tStepF 256 s q4 b4 e q false) : isGf s p bad = if gfB ⟨a, b, c, d, e⟩ = true then some (⟨a, b, c, d, e⟩, q) else none := by
  rcases h5 with ⟨g5, _⟩ | ⟨_, _, h⟩
  · have e4 : b4 = false := by
      cases b4
      · rfl
      · rw [isText_bad] at g5; cases g5
    subst e4
    obtain ⟨rfl, g4⟩ := h4.good
    obtain ⟨rfl, g3⟩ := h3.good
    obtain ⟨rfl, g2⟩ := h2.good
    unfold isGf
    rw [h1.back, Option.bind_some, g2, Option.bind_some, g3, Option.bind_some, g4, Option.bind_some, g5, Option.bind_some]
  · cases h
theorem gf_ill {s : ByteArray} {p : Nat} {bad : Bool} {a b c d : Int} {e : ByteArray} {q1 q2 q3 q4 q : Nat} {b1 b2 b3 b4 : Bool} (h1 : numStep s p bad a q1 b1) (h2 : numStep s q1 b1 b q2 b2) (h3 : numStep s q2 b2 c q3 b3) (h4 : numStep s q3 b3 d q4 b4) (h5 : tStepF 256 s q4 b4 e q true) : isGf s p bad = none := by
  unfold isGf
  cases b1
  · rw [h1.back, Option.bind_some]
    cases b2
    · rw [h2.back, Option.bind_some]
      cases b3
      · rw [h3.back, Option.bind_some]
        cases b4
        · rw [h4.back, Option.bind_some]
          rcases h5 with ⟨_, h⟩ | ⟨g5, _⟩
          · cases h
          · rw [g5]; rfl
        · rw [h4.ill]; rfl
      · rw [h3.ill]; rfl
    · rw [h2.ill]; rfl
  · rw [h1.ill]; rfl
theorem two_gf (w : World) (a : Array Value) (T : TypeId) : gfE.In ((w.alloc (.cells a T)).alloc (.cells #[.int .i64 0, .int .i64 0, .int .i64 0, .int .i64 0, .string ⟨#[]⟩] 32)) (w.heap.size + 1) zeroGf := by
  have h := El.In.new (E := gfE) (w.alloc (.cells a T)) zeroGf _ rfl
  rw [alloc_size] at h; exact h
set_option maxRecDepth 100000 in
set_option maxHeartbeats 4000000 in
theorem refGfRead_uni {w : World} {b p : Nat} {s : ByteArray} {bad : Bool} (hs : s.size ≤ 1000000) (hp : p ≤ s.size) (hr : Rd 87 w b s p bad) :
    Calls Tryd.prog 62 #[.pointer (some ⟨b, 0, none⟩)] w fun e w' => ∃ (x : Gf) (q : Nat) (bad' : Bool), e = .returned (.agg #[.int .i64 x.d, .int .i64 x.i, .int .i64 x.c, .int .i64 x.t, .string x.s]) ∧ Rd 87 w' b s q bad' ∧ q ≤ s.size ∧ w.grownBy w' (some b) ∧ gfStep s p bad x q bad' := by
  have hbw := hr.lt
  go_enter Tryd.func62, Tryd.ntmps62
  go_upto_region 2 with fail
  have hZ : gfE.In ((w.alloc (.cells #[.int .i64 0, .int .i64 0, .int .i64 0, .int .i64 0, .string ⟨#[]⟩] 32)).alloc (.cells #[.int .i64 0, .int .i64 0, .int .i64 0, .int .i64 0, .string ⟨#[]⟩] 32)) w.heap.size zeroGf := (El.In.new (E := gfE) w zeroGf #[.int .i64 0, .int .i64 0, .int .i64 0, .int .i64 0, .string ⟨#[]⟩] rfl).alloc _
  have hY := two_gf w #[.int .i64 0, .int .i64 0, .int .i64 0, .int .i64 0, .string ⟨#[]⟩] 32
  have hB := below_alloc (below_alloc (Below.refl w.heap.size w) (.cells #[.int .i64 0, .int .i64 0, .int .i64 0, .int .i64 0, .string ⟨#[]⟩] 32)) (.cells #[.int .i64 0, .int .i64 0, .int .i64 0, .int .i64 0, .string ⟨#[]⟩] 32)
  have hR := hr.below hB
  have hG := by_below hB (some b)
  obtain ⟨n3, h3⟩ : ∃ n, w.heap.size + 1 = n := ⟨_, rfl⟩
  obtain ⟨n2, h2⟩ : ∃ n, w.heap.size = n := ⟨_, rfl⟩
  have hn2 : w.heap.size ≤ n2 := by omega
  have hwn : w.heap.size ≤ n3 := by omega
  have e2 : b ≠ n2 := by omega
  have e3 : b ≠ n3 := by omega
  have e4 : n2 ≠ n3 := by omega
  have i2 : some n2 ≠ some b := fun e => e2 (Option.some.inj e).symm
  have i3 : some n3 ≠ some b := fun e => e3 (Option.some.inj e).symm
  generalize (w.alloc (.cells #[.int .i64 0, .int .i64 0, .int .i64 0, .int .i64 0, .string ⟨#[]⟩] 32)).alloc (.cells #[.int .i64 0, .int .i64 0, .int .i64 0, .int .i64 0, .string ⟨#[]⟩] 32) = W0 at *
  rw [h3] at hY ⊢
  rw [h2] at hZ ⊢
  clear h2 h3 hB hr
  go_wp2_with fail
  refine (refNum_uni hs hp hR).mono ?_
  rintro e w1 ⟨v1, q1, b1, rfl, hR, hq1, hg, st1⟩
  replace hZ := hZ.keep hg i2
  replace hY := hY.keep hg i3
  replace hG := by_trans hG hg
  clear hg
  have kc := hY.cell 0
  have kf := hY.frozen
  replace kc : w1.cell? ⟨n3, 0, none⟩ = some (.int .i64 0) := kc
  replace hY := hY.put ⟨v1, 0, 0, 0, ⟨#[]⟩⟩ 0 (.int .i64 v1) rfl
  replace hZ := hZ.other n3 0 (.int .i64 v1) e4
  replace hR := hR.other n3 0 (.int .i64 v1) e3
  replace hG := by_setNew hG n3 0 (.int .i64 v1) hwn
  go_wp2_with fail
  clear kc kf
  generalize w1.setCell ⟨n3, 0, none⟩ (.int .i64 v1) = W1 at *
  refine (refNum_uni hs hq1 hR).mono ?_
  rintro e w2 ⟨v2, q2, b2, rfl, hR, hq2, hg, st2⟩
  replace hZ := hZ.keep hg i2
  replace hY := hY.keep hg i3
  replace hG := by_trans hG hg
  clear hg
  have kc := hY.cell 1
  have kf := hY.frozen
  replace kc : w2.cell? ⟨n3, 1, none⟩ = some (.int .i64 0) := kc
  replace hY := hY.put ⟨v1, v2, 0, 0, ⟨#[]⟩⟩ 1 (.int .i64 v2) rfl
  replace hZ := hZ.other n3 1 (.int .i64 v2) e4
  replace hR := hR.other n3 1 (.int .i64 v2) e3
  replace hG := by_setNew hG n3 1 (.int .i64 v2) hwn
  go_wp2_with fail
  clear kc kf
  generalize w2.setCell ⟨n3, 1, none⟩ (.int .i64 v2) = W2 at *
  refine (refNum_uni hs hq2 hR).mono ?_
  rintro e w3 ⟨v3, q3, b3, rfl, hR, hq3, hg, st3⟩
  replace hZ := hZ.keep hg i2
  replace hY := hY.keep hg i3
  replace hG := by_trans hG hg
  clear hg
  have kc := hY.cell 2
  have kf := hY.frozen
  replace kc : w3.cell? ⟨n3, 2, none⟩ = some (.int .i64 0) := kc
  replace hY := hY.put ⟨v1, v2, v3, 0, ⟨#[]⟩⟩ 2 (.int .i64 v3) rfl
  replace hZ := hZ.other n3 2 (.int .i64 v3) e4
  replace hR := hR.other n3 2 (.int .i64 v3) e3
  replace hG := by_setNew hG n3 2 (.int .i64 v3) hwn
  go_wp2_with fail
  clear kc kf
  generalize w3.setCell ⟨n3, 2, none⟩ (.int .i64 v3) = W3 at *
  refine (refNum_uni hs hq3 hR).mono ?_
  rintro e w4 ⟨v4, q4, b4, rfl, hR, hq4, hg, st4⟩
  replace hZ := hZ.keep hg i2
  replace hY := hY.keep hg i3
  replace hG := by_trans hG hg
  clear hg
  have kc := hY.cell 3
  have kf := hY.frozen
  replace kc : w4.cell? ⟨n3, 3, none⟩ = some (.int .i64 0) := kc
  replace hY := hY.put ⟨v1, v2, v3, v4, ⟨#[]⟩⟩ 3 (.int .i64 v4) rfl
  replace hZ := hZ.other n3 3 (.int .i64 v4) e4
  replace hR := hR.other n3 3 (.int .i64 v4) e3
  replace hG := by_setNew hG n3 3 (.int .i64 v4) hwn
  go_wp2_with fail
  clear kc kf
  generalize w4.setCell ⟨n3, 3, none⟩ (.int .i64 v4) = W4 at *
  refine (refText_m 256 hs hq4 hR).mono ?_
  rintro e w5 ⟨v5, q5, b5, rfl, hR, hq5, hv5, hg, st5⟩
  replace hZ := hZ.keep hg i2
  replace hY := hY.keep hg i3
  replace hG := by_trans hG hg
  clear hg
  have kc := hY.cell 4
  have kf := hY.frozen
  replace kc : w5.cell? ⟨n3, 4, none⟩ = some (.string ⟨#[]⟩) := kc
  replace hY := hY.put ⟨v1, v2, v3, v4, v5⟩ 4 (.string v5) rfl
  replace hZ := hZ.other n3 4 (.string v5) e4
  replace hR := hR.other n3 4 (.string v5) e3
  replace hG := by_setNew hG n3 4 (.string v5) hwn
  go_upto_region 7 with fail
  clear kc kf
  generalize w5.setCell ⟨n3, 4, none⟩ (.string v5) = W5 at *
  obtain ⟨r0, r1, r2⟩ := hR.cells
  have rf := hR.frozen
  cases b5
  · have hst := gf_good st1 st2 st3 st4 st5
    clear st1 st2 st3 st4 st5
    have CR := Lib.hid (fun wx => refRightGift_any ⟨v1, v2, v3, v4, v5⟩ wx hv5)
    obtain ⟨y0, y1, y2, y3, y4⟩ := gfIn5 hY
    dsimp only at y0 y1 y2 y3 y4
    cases hN : gfB ⟨v1, v2, v3, v4, v5⟩
    · rw [hN, if_neg (by decide)] at hst
      rw [hN] at CR
      have HG := Lib.hid hst
      clear hst hN
      go_wp2_with fail
      clear y0 y1 y2 y3 y4
      refine (CR.out _).mono ?_
      rintro r w6 ⟨rfl, hb5⟩
      replace hZ := hZ.below hb5
      replace hR := hR.below hb5
      replace hG := by_trans hG (by_below hb5 _)
      clear r0 r1 r2 rf hY hb5
      obtain ⟨r0, r1, r2⟩ := hR.cells
      have rf := hR.frozen
      have hR2 := hR.setBad
      have hG2 := by_set hG 2 (.bool true)
      replace hZ := hZ.other b 2 (.bool true) (fun e => e2 e.symm)
      clear hR hG
      go_upto_region 9 with fail
      clear r0 r1 r2 rf
      generalize w6.setCell ⟨b, 2, none⟩ (.bool true) = W9 at *
      go_wp2_with (first | (refine El.store gfRow rfl _ _ rfl n2 zeroGf #[.int .i64 0, .int .i64 0, .int .i64 0, .int .i64 0, .string ⟨#[]⟩] rfl rfl rfl zeroGf hZ ?_) | fail)
      refine El.ret1 gfRow (hZ.set zeroGf _ rfl) rfl rfl rfl #[.int .i64 0, .int .i64 0, .int .i64 0, .int .i64 0, .string ⟨#[]⟩] rfl ?_
      exact ⟨zeroGf, q5, true, rfl, hR2.row n2 _ e2, hq5, by_setRow hG2 n2 _ hn2, Or.inr ⟨HG.out, rfl, rfl⟩⟩
    · rw [hN, if_pos rfl] at hst
      rw [hN] at CR
      have HG := Lib.hid hst
      clear hst hN
      go_wp2_with fail
      clear y0 y1 y2 y3 y4
      refine (CR.out _).mono ?_
      rintro r w6 ⟨rfl, hb5⟩
      replace hZ := hZ.below hb5
      replace hY := hY.below hb5
      replace hR := hR.below hb5
      replace hG := by_trans hG (by_below hb5 _)
      clear r0 r1 r2 rf hb5
      go_wp2_with (first | (refine El.load gfRow rfl _ rfl n3 0 rfl ⟨v1, v2, v3, v4, v5⟩ hY.at #[.int .i64 v1, .int .i64 v2, .int .i64 v3, .int .i64 v4, .string v5] rfl ?_) | (refine El.store gfRow rfl _ _ rfl n2 ⟨v1, v2, v3, v4, v5⟩ #[.int .i64 v1, .int .i64 v2, .int .i64 v3, .int .i64 v4, .string v5] rfl rfl rfl zeroGf hZ ?_) | fail)
      refine El.ret1 gfRow (hZ.set ⟨v1, v2, v3, v4, v5⟩ _ rfl) rfl rfl rfl #[.int .i64 v1, .int .i64 v2, .int .i64 v3, .int .i64 v4, .string v5] rfl ?_
      exact ⟨⟨v1, v2, v3, v4, v5⟩, q5, false, rfl, hR.row n2 _ e2, hq5, by_setRow hG n2 _ hn2, Or.inl ⟨HG.out, rfl⟩⟩
  · have HG := Lib.hid (gf_ill st1 st2 st3 st4 st5)
    clear st1 st2 st3 st4 st5 hY
    have hR2 := hR.setBad
    have hG2 := by_set hG 2 (.bool true)
    replace hZ := hZ.other b 2 (.bool true) (fun e => e2 e.symm)
    clear hR hG
    go_upto_region 9 with fail
    clear r0 r1 r2 rf
    generalize W5.setCell ⟨b, 2, none⟩ (.bool true) = W9 at *
    go_wp2_with (first | (refine El.store gfRow rfl _ _ rfl n2 zeroGf #[.int .i64 0, .int .i64 0, .int .i64 0, .int .i64 0, .string ⟨#[]⟩] rfl rfl rfl zeroGf hZ ?_) | fail)
    refine El.ret1 gfRow (hZ.set zeroGf _ rfl) rfl rfl rfl #[.int .i64 0, .int .i64 0, .int .i64 0, .int .i64 0, .string ⟨#[]⟩] rfl ?_
    exact ⟨zeroGf, q5, true, rfl, hR2.row n2 _ e2, hq5, by_setRow hG2 n2 _ hn2, Or.inr ⟨HG.out, rfl, rfl⟩⟩

/-- What is left to read behind the numbers, the operations, the reports, the entries. -/
def bod4 (t : ByteArray) (l : List Int) (os : List Mv) (rs : List Rp) (es : List En) (e : List Gf × Nat) : Option Fr := if e.2 = t.size ∧ frB (ofFr l os rs es e.1) = true then some (ofFr l os rs es e.1) else none
def bod3 (t : ByteArray) (l : List Int) (os : List Mv) (rs : List Rp) (d : List En × Nat) : Option Fr := (gfK.isPart 8 t d.2 false).bind (bod4 t l os rs d.1)
def bod2 (t : ByteArray) (l : List Int) (os : List Mv) (c : List Rp × Nat) : Option Fr := (enK.isPart 64 t c.2 false).bind (bod3 t l os c.1)
def bod1 (t : ByteArray) (l : List Int) (b : List Mv × Nat) : Option Fr := (rpK.isPart 8 t b.2 false).bind (bod2 t l b.1)
def bod0 (t : ByteArray) (a : List Int × Nat) : Option Fr := (opK.isPart 64 t a.2 false).bind (bod1 t a.1)
theorem isBody_eq (t : ByteArray) : isBody t = (isNums t 10 0).bind (bod0 t) := rfl
/-- Behind j of n in a list: read, or it went wrong, and nothing is read in the end. -/
def PSt {α : Type} (K : Kd α) (most : Int) (P : Prop) (t : ByteArray) (q0 : Nat) (rest : List α × Nat → Option Fr) (n j : Nat) (l : List α) (q : Nat) (b : Bool) : Prop :=
  (b = false ∧ (∃ qc, isCount t q0 false most = some ((n : Int), qc) ∧ K.isL t j qc = some (l, q)) ∧ P ∧ isBody t = (K.isPart most t q0 false).bind rest) ∨ (b = true ∧ isBody t = none)
section
variable {α : Type} {K : Kd α} {most : Int} {P : Prop} {t : ByteArray} {q0 : Nat} {rest : List α × Nat → Option Fr} {n j q : Nat} {l : List α}
theorem PSt.start {b0 b : Bool} (h : (b0 = false ∧ P ∧ isBody t = (K.isPart most t q0 false).bind rest) ∨ (b0 = true ∧ isBody t = none)) (hc : cStepF most t q0 b0 n q b) : PSt K most P t q0 rest n 0 [] q b := by
  rcases h with ⟨rfl, hP, h⟩ | ⟨rfl, h⟩
  · rcases hc with ⟨h1, rfl⟩ | ⟨h1, _, rfl⟩
    · exact Or.inl ⟨rfl, ⟨q, h1, rfl⟩, hP, h⟩
    · refine Or.inr ⟨rfl, ?_⟩
      rw [h]; unfold Kd.isPart; rw [h1]; rfl
  · rcases hc with ⟨h1, _⟩ | ⟨_, _, rfl⟩
    · rw [isCount_badF] at h1; cases h1
    · exact Or.inr ⟨rfl, h⟩
theorem PSt.next {x : α} {q' : Nat} {b' : Bool} (h : PSt K most P t q0 rest n j l q false) (hj : j < n) (hx : (K.is t q false = some (x, q') ∧ b' = false) ∨ (K.is t q false = none ∧ b' = true)) : PSt K most P t q0 rest n (j + 1) (l ++ [x]) q' b' := by
  rcases h with ⟨_, ⟨qc, h1, h2⟩, hP, h3⟩ | ⟨h, _⟩
  · rcases hx with ⟨hx, rfl⟩ | ⟨hx, rfl⟩
    · exact Or.inl ⟨rfl, ⟨qc, h1, by rw [K.isL_next, h2, Option.bind_some, hx, Option.bind_some]⟩, hP, h3⟩
    · refine Or.inr ⟨rfl, ?_⟩
      have h4 : K.isL t (j + 1) qc = none := by rw [K.isL_next, h2, Option.bind_some, hx]; rfl
      have h5 := K.isL_none t qc (j + 1) h4 (n - (j + 1))
      rw [show j + 1 + (n - (j + 1)) = n by omega] at h5
      rw [h3]; unfold Kd.isPart
      rw [h1, Option.bind_some]
      show (K.isL t ((n : Int)).toNat qc).bind rest = none
      rw [show ((n : Int)).toNat = n from rfl, h5]; rfl
  · cases h
theorem PSt.done {b : Bool} (h : PSt K most P t q0 rest n j l q b) (hj : b = false → j = n) : (b = false ∧ (P ∧ K.isPart most t q0 false = some (l, q)) ∧ isBody t = rest (l, q)) ∨ (b = true ∧ isBody t = none) := by
  rcases h with ⟨rfl, ⟨qc, h1, h2⟩, hP, h3⟩ | h
  · rw [hj rfl] at h2
    have h4 : K.isPart most t q0 false = some (l, q) := by
      unfold Kd.isPart
      rw [h1, Option.bind_some]
      exact h2
    exact Or.inl ⟨rfl, ⟨hP, h4⟩, by rw [h3, h4, Option.bind_some]⟩
  · exact Or.inr h
end
end Go.Proofs.YtndahomgglpdhaaDoor

/- A frame that is being read: ten numbers in an array, four lists in rows of the call's own. -/
namespace Go.Proofs.YtndahomgglpdhaaDoor
open Go.RowKit Nam Cod

/-- An array of ten numbers: those of a frame. -/
def tnE : El Fr where
  e := 82
  k := 10
  c f := [.int .i64 f.a, .int .i64 f.b, .int .i64 f.boot, .int .i64 f.first, .int .i64 f.pos, .int .i64 f.start, .int .i64 f.ack, .int .i64 f.grant, .int .i64 f.s, .int .i64 f.t]
  len _ := rfl
  one p u h := by
    simp only [List.mem_cons, List.not_mem_nil, or_false] at h
    rcases h with rfl | rfl | rfl | rfl | rfl | rfl | rfl | rfl | rfl | rfl <;> rfl
  pos := by decide
def setT (f : Fr) : Nat → Int → Fr
  | 0, n => { f with a := n }
  | 1, n => { f with b := n }
  | 2, n => { f with boot := n }
  | 3, n => { f with first := n }
  | 4, n => { f with pos := n }
  | 5, n => { f with start := n }
  | 6, n => { f with ack := n }
  | 7, n => { f with grant := n }
  | 8, n => { f with s := n }
  | 9, n => { f with t := n }
  | _, _ => f
theorem setT_c (f : Fr) (n : Int) : ∀ k, k < 10 → tnE.c (setT f k n) = (tnE.c f).set k (.int .i64 n)
  | 0, _ => rfl
  | 1, _ => rfl
  | 2, _ => rfl
  | 3, _ => rfl
  | 4, _ => rfl
  | 5, _ => rfl
  | 6, _ => rfl
  | 7, _ => rfl
  | 8, _ => rfl
  | 9, _ => rfl
  | k + 10, h => absurd h (by omega)
theorem setT_take (f : Fr) (n : Int) : ∀ k, k < 10 → (frL (setT f k n)).take (k + 1) = (frL f).take k ++ [n]
  | 0, _ => rfl
  | 1, _ => rfl
  | 2, _ => rfl
  | 3, _ => rfl
  | 4, _ => rfl
  | 5, _ => rfl
  | 6, _ => rfl
  | 7, _ => rfl
  | 8, _ => rfl
  | 9, _ => rfl
  | k + 10, h => absurd h (by omega)
theorem tnCell {w : World} {b : Nat} {f : Fr} (h : tnE.In w b f) : ∀ k, k < 10 → w.cell? ⟨b, k, none⟩ = some (.int .i64 ((frL f).getD k 0))
  | 0, _ => h.cell 0
  | 1, _ => h.cell 1
  | 2, _ => h.cell 2
  | 3, _ => h.cell 3
  | 4, _ => h.cell 4
  | 5, _ => h.cell 5
  | 6, _ => h.cell 6
  | 7, _ => h.cell 7
  | 8, _ => h.cell 8
  | 9, _ => h.cell 9
  | k + 10, h => absurd h (by omega)
/-- Behind k of ten numbers. -/
def TSt (t : ByteArray) (k : Nat) (x : Fr) (q : Nat) (b : Bool) : Prop := (b = false ∧ isNums t k 0 = some ((frL x).take k, q)) ∨ (b = true ∧ isBody t = none)
theorem TSt.zero (t : ByteArray) (x : Fr) : TSt t 0 x 0 false := Or.inl ⟨rfl, rfl⟩
theorem TSt.next {t : ByteArray} {k : Nat} {x : Fr} {q : Nat} {b : Bool} {v : Int} {q' : Nat} {b' : Bool} (hk : k < 10) (h : TSt t k x q b) (hs : numStep t q b v q' b') : TSt t (k + 1) (setT x k v) q' b' := by
  rcases h with ⟨rfl, hn⟩ | ⟨rfl, hn⟩
  · rcases hs with ⟨h1, rfl⟩ | ⟨h1, _, rfl⟩
    · refine Or.inl ⟨rfl, ?_⟩
      rw [isNums_next, hn, Option.bind_some, h1, Option.bind_some, setT_take x v k hk]
    · refine Or.inr ⟨rfl, ?_⟩
      have h2 : isNums t (k + 1) 0 = none := by rw [isNums_next, hn, Option.bind_some, h1]; rfl
      have h3 := isNums_none t 0 (k + 1) h2 (10 - (k + 1))
      rw [show k + 1 + (10 - (k + 1)) = 10 by omega] at h3
      rw [isBody_eq, h3]; rfl
  · rcases hs with ⟨h1, _⟩ | ⟨_, _, rfl⟩
    · rw [isNum_bad] at h1; cases h1
    · exact Or.inr ⟨rfl, hn⟩
theorem TSt.done {t : ByteArray} {x : Fr} {q : Nat} {b : Bool} (h : TSt t 10 x q b) : (b = false ∧ isNums t 10 0 = some (frL x, q) ∧ isBody t = bod0 t (frL x, q)) ∨ (b = true ∧ isBody t = none) := by
  rcases h with ⟨rfl, hn⟩ | h
  · have hn : isNums t 10 0 = some (frL x, q) := hn
    exact Or.inl ⟨rfl, hn, by rw [isBody_eq, hn, Option.bind_some]⟩
  · exact Or.inr h

/-- Rows of unlike types are unlike blocks. -/
theorem own_other {α : Type} {E : El α} {w : World} {B : Nat} {v : Value} {l : List α} (h : E.Own w B v l) {n : Nat} {cs : Array Value} {ty : TypeId} (hn : w.heap[n]? = some (.cells cs ty (0, 0))) (hne : E.e ≠ ty) : v.ownBlock = none ∨ v.ownBlock ≠ some n := by
  unfold El.Own at h
  rcases h.2 with ⟨e, _⟩ | ⟨g', cap', cur, e, hb, hg, _⟩
  · left; rw [e]; rfl
  · right
    intro e2
    rw [e] at e2
    have e3 : g' = n := Option.some.inj e2
    subst e3
    rw [hg] at hn
    injection hn with hn
    injection hn with _ h2 _
    exact hne h2
theorem own_own {α β : Type} {E : El α} {F : El β} {w : World} {B C : Nat} {v u : Value} {l : List α} {m : List β} (h : E.Own w B v l) (k : F.Own w C u m) (hne : E.e ≠ F.e) : v.ownBlock = none ∨ v.ownBlock ≠ u.ownBlock := by
  have k2 := k
  unfold El.Own at k
  rcases k.2 with ⟨e, _⟩ | ⟨g', cap', cur, e, hb, hg, _⟩
  · rw [e]
    rcases hv : v.ownBlock with _ | n
    · left; rfl
    · right; intro e2; cases e2
  · rw [e]
    exact own_other h hg hne
/-- The four lists of a frame lie in rows of the call's own. -/
structure FwO (B : Nat) (y : Fw) (w : World) : Prop where
  o : opE.Own w B (.slice y.oA y.x.os.length y.oc) y.x.os
  r : rpE.Own w B (.slice y.rA y.x.rs.length y.rc) y.x.rs
  e : enE.Own w B (.slice y.eA y.x.es.length y.ec) y.x.es
  g : gfE.Own w B (.slice y.gA y.x.gs.length y.gc) y.x.gs
theorem FwO.zero (B : Nat) (y : Fw) (w : World) (h0 : y.oA = none ∧ y.oc = 0 ∧ y.rA = none ∧ y.rc = 0 ∧ y.eA = none ∧ y.ec = 0 ∧ y.gA = none ∧ y.gc = 0) (h : y.x.os = [] ∧ y.x.rs = [] ∧ y.x.es = [] ∧ y.x.gs = []) : FwO B y w := by
  obtain ⟨oA, oc, rA, rc, eA, ec, gA, gc, x⟩ := y
  obtain ⟨a, b, c, d, e, f, g, i, j, k, os, rs, es, gs⟩ := x
  dsimp only at h0 h
  obtain ⟨rfl, rfl, rfl, rfl, rfl, rfl, rfl, rfl⟩ := h0
  obtain ⟨rfl, rfl, rfl, rfl⟩ := h
  exact ⟨El.Own.nil _ _, El.Own.nil _ _, El.Own.nil _ _, El.Own.nil _ _⟩
theorem FwO.below {B : Nat} {y : Fw} {W w : World} (h : FwO B y W) (hb : Below W.heap.size W w) : FwO B y w := ⟨h.o.below hb, h.r.below hb, h.e.below hb, h.g.below hb⟩
theorem FwO.keep {B : Nat} {y : Fw} {w w' : World} {n : Nat} {cs : Array Value} {ty : TypeId} (h : FwO B y w) (hg : w.grownBy w' (some n)) (hn : w.heap[n]? = some (.cells cs ty (0, 0))) (h1 : opE.e ≠ ty) (h2 : rpE.e ≠ ty) (h3 : enE.e ≠ ty) (h4 : gfE.e ≠ ty) : FwO B y w' :=
  ⟨h.o.kept hg (own_other h.o hn h1), h.r.kept hg (own_other h.r hn h2), h.e.kept hg (own_other h.e hn h3), h.g.kept hg (own_other h.g hn h4)⟩
theorem FwO.ok {B : Nat} {y : Fw} {w : World} (h : FwO B y w) : y.ok w := by
  obtain ⟨A, c, e, hS⟩ := SlV.own h.o
  injection e with e1 _ e3
  obtain ⟨A2, c2, e, hS2⟩ := SlV.own h.r
  injection e with e4 _ e6
  obtain ⟨A3, c3, e, hS3⟩ := SlV.own h.e
  injection e with e7 _ e9
  obtain ⟨A4, c4, e, hS4⟩ := SlV.own h.g
  injection e with e10 _ e12
  exact ⟨by rw [e1, e3]; exact hS, by rw [e4, e6]; exact hS2, by rw [e7, e9]; exact hS3, by rw [e10, e12]; exact hS4⟩
theorem FwO.keepN {B : Nat} {y : Fw} {w w' : World} {n : Nat} (h : FwO B y w) (hg : w.grownBy w' (some n)) (hn : n < B) : FwO B y w' := by
  have hr : ∀ {v : Value}, (∀ k, v.ownBlock = some k → B ≤ k) → v.ownBlock = none ∨ v.ownBlock ≠ some n := fun {v} hv => by
    rcases hv2 : v.ownBlock with _ | k
    · exact Or.inl rfl
    · right; intro e
      have := hv k hv2
      have := Option.some.inj e
      omega
  exact ⟨h.o.kept hg (hr h.o.rows), h.r.kept hg (hr h.r.rows), h.e.kept hg (hr h.e.rows), h.g.kept hg (hr h.g.rows)⟩
theorem FwO.reads {B : Nat} {y : Fw} {w w' : World} {b : Nat} {t : ByteArray} {p : Nat} {bad : Bool} (h : FwO B y w) (hg : w.grownBy w' (some b)) (hr : Rd 87 w b t p bad) : FwO B y w' := h.keep hg hr (by decide) (by decide) (by decide) (by decide)
theorem nums_i64 : ∀ (n : Nat) (s : ByteArray) (p : Nat) (l : List Int) (q : Nat), isNums s n p = some (l, q) → ∀ v ∈ l, i64 v
  | 0, s, p, l, q, h, v, hv => by
    injection h with h
    injection h with h1 h2
    subst h1
    cases hv
  | n + 1, s, p, l, q, h, v, hv => by
    rw [isNums] at h
    cases ha : isNum s p false with
    | none => rw [ha] at h; cases h
    | some a =>
      obtain ⟨e, qe⟩ := a
      rw [ha, Option.bind_some] at h
      dsimp only at h
      cases hb : isNums s n qe with
      | none => rw [hb] at h; cases h
      | some b =>
        obtain ⟨r, qr⟩ := b
        rw [hb, Option.bind_some] at h
        injection h with h
        injection h with h1 h2
        subst h1
        rcases List.mem_cons.1 hv with rfl | hv
        · exact (isNum_some ha).2.2.2.2
        · exact nums_i64 n s qe r _ hb v hv
/-- What is read may be looked at. -/
theorem frW_of {t : ByteArray} {x : Fr} {q0 q1 q2 q3 q : Nat} (h0 : isNums t 10 0 = some (frL x, q0)) (h1 : opK.isPart 64 t q0 false = some (x.os, q1)) (h2 : rpK.isPart 8 t q1 false = some (x.rs, q2)) (h3 : enK.isPart 64 t q2 false = some (x.es, q3)) (h4 : gfK.isPart 8 t q3 false = some (x.gs, q)) (ht : t.size ≤ 1000000) : FrW x := by
  obtain ⟨_, g0⟩ := nums_bytes _ _ _ _ _ h0
  obtain ⟨l1, k1, g1⟩ := opK.part_bytes h1
  obtain ⟨l2, k2, g2⟩ := rpK.part_bytes h2
  obtain ⟨l3, k3, g3⟩ := enK.part_bytes h3
  obtain ⟨l4, k4, g4⟩ := gfK.part_bytes h4
  have hb : (L t).drop 0 = L (bodyF x) ++ (L t).drop q := by
    rw [g0, g1, g2, g3, g4]
    unfold bodyF
    simp only [L_app, List.append_assoc]
  have hz : (bodyF x).size ≤ 1000000 := by
    have h := congrArg List.length hb
    rw [List.drop_zero, List.length_append, L_len, L_len] at h
    omega
  refine ⟨?_, fun o ho => ?_, fun r hr => ?_, fun e he => ?_, fun g hg => ?_, ⟨by omega, by omega, by omega, by omega⟩, hz⟩
  · exact nums_i64 _ _ _ _ _ h0
  · have h := k1 o ho
    exact ⟨(opB_wide h).1, Nat.le_trans (opB_wide h).2.2.1 (by decide)⟩
  · exact (rpB_iff.1 (k2 r hr)).i64
  · have hb := k3 e he
    by_cases h1 : e.k = 1
    · obtain ⟨g1, g2, g3⟩ := entB_one hb h1
      exact ⟨⟨by unfold i64; omega, by unfold i64; omega, by unfold i64; omega, (opB_wide g3).1⟩, Nat.le_trans (opB_wide g3).2.2.1 (by decide)⟩
    · obtain ⟨g1, g2, g3⟩ := entB_two hb h1
      refine ⟨⟨by unfold i64; omega, by unfold i64; omega, by unfold i64; omega, ?_⟩, by rw [g3]; exact Nat.zero_le _⟩
      rw [g3]
      exact ⟨by unfold i64; decide, by unfold i64; decide, by unfold i64; decide, by unfold i64; decide, by unfold i64; decide, by unfold i64; decide⟩
  · have hb : gfB g = true := k4 g hg
    unfold gfB at hb
    rw [decide_eq_true_iff] at hb
    exact ⟨by unfold i64; omega, by unfold i64; omega, by unfold i64; omega, by unfold i64; omega, by omega⟩
end Go.Proofs.YtndahomgglpdhaaDoor

/- The program's frames: ReadGift, readList of four kinds. -/
namespace Go.Proofs.YtndahomgglpdhaaDoor
open Go.RowKit Nam Cod

theorem textF_m {w : World} {b p : Nat} {s : ByteArray} {bad : Bool} (most : Int) (hs : s.size ≤ 1000000) (hp : p ≤ s.size) (hr : Rd 44 w b s p bad) :
    Calls Tryd.prog 69 #[.pointer (some ⟨b, 0, none⟩), .int .i64 most] w fun e w' => ∃ v q bad', e = .returned (.string v) ∧ Rd 44 w' b s q bad' ∧ q ≤ s.size ∧ v.size ≤ 1000000 ∧ w.grownBy w' (some b) ∧ tStepF most s p bad v q bad' := by
  rcases h : isText s p bad most with _ | ⟨v, q⟩
  · exact (rtext_no hs hp hr h).mono fun e w' ⟨he, ⟨q, hq, hr'⟩, hg⟩ => ⟨⟨#[]⟩, q, true, he, hr', hq, by decide, hg, Or.inr ⟨h, rfl, rfl⟩⟩
  · obtain ⟨n, q0, h1, h2, rfl, rfl⟩ := isText_some h
    exact (rtext_yes hs hp hr h).mono fun e w' ⟨he, hr', hg⟩ => ⟨_, _, false, he, hr', by omega, by rw [ByteArray.size_extract]; omega, hg, Or.inl ⟨h, rfl⟩⟩
theorem cntF_m {w : World} {b p : Nat} {s : ByteArray} {bad : Bool} (most : Nat) (hs : s.size ≤ 1000000) (hp : p ≤ s.size) (hr : Rd 44 w b s p bad) :
    Calls Tryd.prog 96 #[.pointer (some ⟨b, 0, none⟩), .int .i64 most] w fun e w' => ∃ v q bad', e = .returned (.int .i64 (v : Nat)) ∧ v ≤ most ∧ Rd 44 w' b s q bad' ∧ q ≤ s.size ∧ w.grownBy w' (some b) ∧ cStepF most s p bad v q bad' := by
  rcases h : isCount s p bad most with _ | ⟨v, q⟩
  · exact (count_no hs hp hr h).mono fun e w' ⟨he, ⟨q, hq, hr'⟩, hg⟩ => ⟨0, q, true, he, by omega, hr', hq, hg, Or.inr ⟨h, rfl, rfl⟩⟩
  · obtain ⟨h1, h2, h3⟩ := isCount_some h
    obtain ⟨n, rfl⟩ : ∃ n : Nat, v = n := ⟨v.toNat, by omega⟩
    exact (count_yes hs hp hr h).mono fun e w' ⟨he, hr', hg⟩ => ⟨n, q, false, he, by omega, hr', (isNum_some h1).2.2.1, hg, Or.inl ⟨h, rfl⟩⟩
set_option maxRecDepth 100000 in
set_option maxHeartbeats 4000000 in
theorem gfRead_uni {w : World} {b p : Nat} {s : ByteArray} {bad : Bool} (hs : s.size ≤ 1000000) (hp : p ≤ s.size) (hr : Rd 44 w b s p bad) :
    Calls Tryd.prog 21 #[.pointer (some ⟨b, 0, none⟩)] w fun e w' => ∃ (x : Gf) (q : Nat) (bad' : Bool), e = .returned (.agg #[.int .i64 x.d, .int .i64 x.i, .int .i64 x.c, .int .i64 x.t, .string x.s]) ∧ Rd 44 w' b s q bad' ∧ q ≤ s.size ∧ w.grownBy w' (some b) ∧ gfStep s p bad x q bad' := by
  have hbw := hr.lt
  go_enter Tryd.func21, Tryd.ntmps21
  go_upto_region 2 with fail
  have hZ : gfE.In ((w.alloc (.cells #[.int .i64 0, .int .i64 0, .int .i64 0, .int .i64 0, .string ⟨#[]⟩] 32)).alloc (.cells #[.int .i64 0, .int .i64 0, .int .i64 0, .int .i64 0, .string ⟨#[]⟩] 32)) w.heap.size zeroGf := (El.In.new (E := gfE) w zeroGf #[.int .i64 0, .int .i64 0, .int .i64 0, .int .i64 0, .string ⟨#[]⟩] rfl).alloc _
  have hY := two_gf w #[.int .i64 0, .int .i64 0, .int .i64 0, .int .i64 0, .string ⟨#[]⟩] 32
  have hB := below_alloc (below_alloc (Below.refl w.heap.size w) (.cells #[.int .i64 0, .int .i64 0, .int .i64 0, .int .i64 0, .string ⟨#[]⟩] 32)) (.cells #[.int .i64 0, .int .i64 0, .int .i64 0, .int .i64 0, .string ⟨#[]⟩] 32)
  have hR := hr.below hB
  have hG := by_below hB (some b)
  obtain ⟨n3, h3⟩ : ∃ n, w.heap.size + 1 = n := ⟨_, rfl⟩
  obtain ⟨n2, h2⟩ : ∃ n, w.heap.size = n := ⟨_, rfl⟩
  have hn2 : w.heap.size ≤ n2 := by omega
  have hwn : w.heap.size ≤ n3 := by omega
  have e2 : b ≠ n2 := by omega
  have e3 : b ≠ n3 := by omega
  have e4 : n2 ≠ n3 := by omega
  have i2 : some n2 ≠ some b := fun e => e2 (Option.some.inj e).symm
  have i3 : some n3 ≠ some b := fun e => e3 (Option.some.inj e).symm
  generalize (w.alloc (.cells #[.int .i64 0, .int .i64 0, .int .i64 0, .int .i64 0, .string ⟨#[]⟩] 32)).alloc (.cells #[.int .i64 0, .int .i64 0, .int .i64 0, .int .i64 0, .string ⟨#[]⟩] 32) = W0 at *
  rw [h3] at hY ⊢
  rw [h2] at hZ ⊢
  clear h2 h3 hB hr
  go_wp2_with fail
  refine (num_uni hs hp hR).mono ?_
  rintro e w1 ⟨v1, q1, b1, rfl, hR, hq1, hg, st1⟩
  replace hZ := hZ.keep hg i2
  replace hY := hY.keep hg i3
  replace hG := by_trans hG hg
  clear hg
  have kc := hY.cell 0
  have kf := hY.frozen
  replace kc : w1.cell? ⟨n3, 0, none⟩ = some (.int .i64 0) := kc
  replace hY := hY.put ⟨v1, 0, 0, 0, ⟨#[]⟩⟩ 0 (.int .i64 v1) rfl
  replace hZ := hZ.other n3 0 (.int .i64 v1) e4
  replace hR := hR.other n3 0 (.int .i64 v1) e3
  replace hG := by_setNew hG n3 0 (.int .i64 v1) hwn
  go_wp2_with fail
  clear kc kf
  generalize w1.setCell ⟨n3, 0, none⟩ (.int .i64 v1) = W1 at *
  refine (num_uni hs hq1 hR).mono ?_
  rintro e w2 ⟨v2, q2, b2, rfl, hR, hq2, hg, st2⟩
  replace hZ := hZ.keep hg i2
  replace hY := hY.keep hg i3
  replace hG := by_trans hG hg
  clear hg
  have kc := hY.cell 1
  have kf := hY.frozen
  replace kc : w2.cell? ⟨n3, 1, none⟩ = some (.int .i64 0) := kc
  replace hY := hY.put ⟨v1, v2, 0, 0, ⟨#[]⟩⟩ 1 (.int .i64 v2) rfl
  replace hZ := hZ.other n3 1 (.int .i64 v2) e4
  replace hR := hR.other n3 1 (.int .i64 v2) e3
  replace hG := by_setNew hG n3 1 (.int .i64 v2) hwn
  go_wp2_with fail
  clear kc kf
  generalize w2.setCell ⟨n3, 1, none⟩ (.int .i64 v2) = W2 at *
  refine (num_uni hs hq2 hR).mono ?_
  rintro e w3 ⟨v3, q3, b3, rfl, hR, hq3, hg, st3⟩
  replace hZ := hZ.keep hg i2
  replace hY := hY.keep hg i3
  replace hG := by_trans hG hg
  clear hg
  have kc := hY.cell 2
  have kf := hY.frozen
  replace kc : w3.cell? ⟨n3, 2, none⟩ = some (.int .i64 0) := kc
  replace hY := hY.put ⟨v1, v2, v3, 0, ⟨#[]⟩⟩ 2 (.int .i64 v3) rfl
  replace hZ := hZ.other n3 2 (.int .i64 v3) e4
  replace hR := hR.other n3 2 (.int .i64 v3) e3
  replace hG := by_setNew hG n3 2 (.int .i64 v3) hwn
  go_wp2_with fail
  clear kc kf
  generalize w3.setCell ⟨n3, 2, none⟩ (.int .i64 v3) = W3 at *
  refine (num_uni hs hq3 hR).mono ?_
  rintro e w4 ⟨v4, q4, b4, rfl, hR, hq4, hg, st4⟩
  replace hZ := hZ.keep hg i2
  replace hY := hY.keep hg i3
  replace hG := by_trans hG hg
  clear hg
  have kc := hY.cell 3
  have kf := hY.frozen
  replace kc : w4.cell? ⟨n3, 3, none⟩ = some (.int .i64 0) := kc
  replace hY := hY.put ⟨v1, v2, v3, v4, ⟨#[]⟩⟩ 3 (.int .i64 v4) rfl
  replace hZ := hZ.other n3 3 (.int .i64 v4) e4
  replace hR := hR.other n3 3 (.int .i64 v4) e3
  replace hG := by_setNew hG n3 3 (.int .i64 v4) hwn
  go_wp2_with fail
  clear kc kf
  generalize w4.setCell ⟨n3, 3, none⟩ (.int .i64 v4) = W4 at *
  refine (textF_m 256 hs hq4 hR).mono ?_
  rintro e w5 ⟨v5, q5, b5, rfl, hR, hq5, hv5, hg, st5⟩
  replace hZ := hZ.keep hg i2
  replace hY := hY.keep hg i3
  replace hG := by_trans hG hg
  clear hg
  have kc := hY.cell 4
  have kf := hY.frozen
  replace kc : w5.cell? ⟨n3, 4, none⟩ = some (.string ⟨#[]⟩) := kc
  replace hY := hY.put ⟨v1, v2, v3, v4, v5⟩ 4 (.string v5) rfl
  replace hZ := hZ.other n3 4 (.string v5) e4
  replace hR := hR.other n3 4 (.string v5) e3
  replace hG := by_setNew hG n3 4 (.string v5) hwn
  go_upto_region 7 with fail
  clear kc kf
  generalize w5.setCell ⟨n3, 4, none⟩ (.string v5) = W5 at *
  obtain ⟨r0, r1, r2⟩ := hR.cells
  have rf := hR.frozen
  cases b5
  · have hst := gf_good st1 st2 st3 st4 st5
    clear st1 st2 st3 st4 st5
    have CR := Lib.hid (fun wx => gfRight_any ⟨v1, v2, v3, v4, v5⟩ wx hv5)
    obtain ⟨y0, y1, y2, y3, y4⟩ := gfIn5 hY
    dsimp only at y0 y1 y2 y3 y4
    cases hN : gfB ⟨v1, v2, v3, v4, v5⟩
    · rw [hN, if_neg (by decide)] at hst
      rw [hN] at CR
      have HG := Lib.hid hst
      clear hst hN
      go_wp2_with fail
      clear y0 y1 y2 y3 y4
      refine (CR.out _).mono ?_
      rintro r w6 ⟨rfl, hb5⟩
      replace hZ := hZ.below hb5
      replace hR := hR.below hb5
      replace hG := by_trans hG (by_below hb5 _)
      clear r0 r1 r2 rf hY hb5
      obtain ⟨r0, r1, r2⟩ := hR.cells
      have rf := hR.frozen
      have hR2 := hR.setBad
      have hG2 := by_set hG 2 (.bool true)
      replace hZ := hZ.other b 2 (.bool true) (fun e => e2 e.symm)
      clear hR hG
      go_upto_region 9 with fail
      clear r0 r1 r2 rf
      generalize w6.setCell ⟨b, 2, none⟩ (.bool true) = W9 at *
      go_wp2_with (first | (refine El.store gfRow rfl _ _ rfl n2 zeroGf #[.int .i64 0, .int .i64 0, .int .i64 0, .int .i64 0, .string ⟨#[]⟩] rfl rfl rfl zeroGf hZ ?_) | fail)
      refine El.ret1 gfRow (hZ.set zeroGf _ rfl) rfl rfl rfl #[.int .i64 0, .int .i64 0, .int .i64 0, .int .i64 0, .string ⟨#[]⟩] rfl ?_
      exact ⟨zeroGf, q5, true, rfl, hR2.row n2 _ e2, hq5, by_setRow hG2 n2 _ hn2, Or.inr ⟨HG.out, rfl, rfl⟩⟩
    · rw [hN, if_pos rfl] at hst
      rw [hN] at CR
      have HG := Lib.hid hst
      clear hst hN
      go_wp2_with fail
      clear y0 y1 y2 y3 y4
      refine (CR.out _).mono ?_
      rintro r w6 ⟨rfl, hb5⟩
      replace hZ := hZ.below hb5
      replace hY := hY.below hb5
      replace hR := hR.below hb5
      replace hG := by_trans hG (by_below hb5 _)
      clear r0 r1 r2 rf hb5
      go_wp2_with (first | (refine El.load gfRow rfl _ rfl n3 0 rfl ⟨v1, v2, v3, v4, v5⟩ hY.at #[.int .i64 v1, .int .i64 v2, .int .i64 v3, .int .i64 v4, .string v5] rfl ?_) | (refine El.store gfRow rfl _ _ rfl n2 ⟨v1, v2, v3, v4, v5⟩ #[.int .i64 v1, .int .i64 v2, .int .i64 v3, .int .i64 v4, .string v5] rfl rfl rfl zeroGf hZ ?_) | fail)
      refine El.ret1 gfRow (hZ.set ⟨v1, v2, v3, v4, v5⟩ _ rfl) rfl rfl rfl #[.int .i64 v1, .int .i64 v2, .int .i64 v3, .int .i64 v4, .string v5] rfl ?_
      exact ⟨⟨v1, v2, v3, v4, v5⟩, q5, false, rfl, hR.row n2 _ e2, hq5, by_setRow hG n2 _ hn2, Or.inl ⟨HG.out, rfl⟩⟩
  · have HG := Lib.hid (gf_ill st1 st2 st3 st4 st5)
    clear st1 st2 st3 st4 st5 hY
    have hR2 := hR.setBad
    have hG2 := by_set hG 2 (.bool true)
    replace hZ := hZ.other b 2 (.bool true) (fun e => e2 e.symm)
    clear hR hG
    go_upto_region 9 with fail
    clear r0 r1 r2 rf
    generalize W5.setCell ⟨b, 2, none⟩ (.bool true) = W9 at *
    go_wp2_with (first | (refine El.store gfRow rfl _ _ rfl n2 zeroGf #[.int .i64 0, .int .i64 0, .int .i64 0, .int .i64 0, .string ⟨#[]⟩] rfl rfl rfl zeroGf hZ ?_) | fail)
    refine El.ret1 gfRow (hZ.set zeroGf _ rfl) rfl rfl rfl #[.int .i64 0, .int .i64 0, .int .i64 0, .int .i64 0, .string ⟨#[]⟩] rfl ?_
    exact ⟨zeroGf, q5, true, rfl, hR2.row n2 _ e2, hq5, by_setRow hG2 n2 _ hn2, Or.inr ⟨HG.out, rfl, rfl⟩⟩


theorem by_ownF {a w w' : World} {b : Nat} {row : Option Nat} (h : a.grownBy w (some b)) (g : w.grownBy w' row) (hrow : ∀ k, row = some k → a.heap.size ≤ k) : a.grownBy w' (some b) :=
  ⟨g.os.trans h.os, g.tape.trans h.tape, g.output.trans h.output, Nat.le_trans h.size g.size, fun k hk hne =>
    (g.block k (Nat.lt_of_lt_of_le hk h.size) (fun e => by have := hrow k e.symm; omega)).trans (h.block k hk hne)⟩
def lenF : Value → Nat
  | .slice _ n _ => n
  | _ => 0
theorem own_lenF {α : Type} {E : El α} {w : World} {B : Nat} {v : Value} {l : List α} (h : E.Own w B v l) : lenF v = l.length := by
  obtain ⟨A, c, rfl, _⟩ := SlV.own h
  rfl
set_option maxRecDepth 100000 in
set_option maxHeartbeats 4000000 in
theorem rdOp_any {w : World} {b p : Nat} {s : ByteArray} {bad : Bool} (most : Nat) (hm : most ≤ 64) (hs : s.size ≤ 1000000) (hp : p ≤ s.size) (hr : Rd 44 w b s p bad) :
    Calls Tryd.prog 86 #[.pointer (some ⟨b, 0, none⟩), .int .i64 most, .func (.func 87) #[] #[]] w fun r w' => ∃ (A : Option Addr) (c : Nat) (l : List Mv) (q : Nat) (bad' : Bool), r = .returned (.slice A l.length c) ∧ opE.Own w' w.heap.size (.slice A l.length c) l ∧ Rd 44 w' b s q bad' ∧ q ≤ s.size ∧ w.grownBy w' (some b) ∧ Hid (pStep opK most s p bad l q bad') := by
  have hbw := hr.lt
  have hGw := by_below (Below.refl w.heap.size w) (some b)
  go_enter Tryd.func86, Tryd.ntmps86
  go_wp2_with fail
  refine (cntF_m most hs hp hr).mono ?_
  rintro e w1 ⟨n, q0, b0, rfl, hnm, hR, hq0, hg, st⟩
  have HS := Lib.hid (pAt.start (K := opK) st)
  replace hGw := by_trans hGw hg
  have HNM := Lib.hid (show n ≤ 64 by omega)
  clear hr hg st hnm hm
  go_wp2_with fail
  go_loopw [8] (fun x wr => ∃ (v : Value) (l : List Mv) (q : Nat) (bd : Bool), x = v ∧ opE.Own wr w.heap.size v l ∧ Hid (l.length ≤ n) ∧ Rd 44 wr b s q bd ∧ q ≤ s.size ∧ w.grownBy wr (some b) ∧ Hid (pAt opK most s p bad n l q bd)) (fun x _ => n - lenF x)
  case atStart => exact ⟨_, [], q0, b0, rfl, El.Own.nil w1 w.heap.size, Lib.hid (Nat.zero_le _), hR, hq0, hGw, HS⟩
  case round =>
    clear hR hGw HS hq0
    obtain ⟨v, l, q, bd, rfl, hO, hl, hR, hq, hG, HS⟩ := hrel
    have hlv := own_lenF hO
    obtain ⟨A, c, rfl, hS⟩ := SlV.own hO
    obtain ⟨r0, r1, r2⟩ := hR.cells
    cases bd
    · by_cases hlt : l.length < n
      · have HLE := Lib.hid (show l.length + 1 ≤ 64 by have := HNM.out; omega)
        have f5 : decide ((l.length : Int) < (n : Int)) = true := decide_eq_true (by omega)
        have f6 : decide (l.length < n) = true := decide_eq_true hlt
        have CR := opRead_uni hs hq hR
        have HLT := Lib.hid hlt
        clear hS hlv hlt
        go_wp2_with fail
        refine CR.mono ?_
        clear CR hR r0 r1 r2 f5 f6
        rintro e w3 ⟨x, q2, b2, rfl, hR, hq2, hg3, hst⟩
        have HN := Lib.hid (HS.out.next HLT.out (hst.imp (fun h => h) (fun h => ⟨h.1, h.2.2⟩)))
        replace hO := hO.kept hg3 (Or.inr (fun e => by have := (hO.lt b e).1; omega))
        replace hG := by_trans hG hg3
        have hb4 := below_alloc (Below.refl _ w3) (.cells #[.int .i64 x.C, .int .i64 x.D, .int .i64 x.I, .int .i64 x.M, .int .i64 x.K, .int .i64 x.U, .string x.s] 50)
        have hE : opE.Sl (w3.alloc (.cells #[.int .i64 x.C, .int .i64 x.D, .int .i64 x.I, .int .i64 x.M, .int .i64 x.K, .int .i64 x.U, .string x.s] 50)) (some ⟨w3.heap.size, 0, none⟩) [x] := (El.In.new (E := opE) w3 x _ rfl).sl
        replace hO := hO.below hb4
        replace hR := hR.below hb4
        replace hG := by_trans hG (by_below hb4 _)
        have hB := hG.size
        clear hg3 hb4 hst
        go_wp2_with (at_builtin; refine El.wpList_app opInn rfl _ _ rfl w.heap.size _ l [x] rfl hO (some ⟨w3.heap.size, 0, none⟩) 1 1 rfl rfl hE (fun e => by cases e) (by have := HLE.out; rw [List.length_singleton]; omega) hB ?_; intro v' w5 hO5 hg5 _)
        replace hR := hR.keep hg5 (fun e => by have := (hO.lt b e.symm).1; omega)
        replace hG := by_ownF hG hg5 (fun k e => (hO.lt k e).1)
        have hlv5 := own_lenF hO5
        rw [List.length_append, List.length_singleton] at hlv5
        go_wp2
        go_roundw
        case rel => exact ⟨v', l ++ [x], q2, b2, rfl, hO5, Lib.hid (by rw [List.length_append, List.length_singleton]; have := HLT.out; omega), hR, hq2, hG, HN⟩
        case measure =>
          have h1 := HLT.out
          show n - lenF v' < n - l.length
          omega
      · have HG := Lib.hid (HS.out.good hlt hl.out)
        have f5 : decide ((l.length : Int) < (n : Int)) = false := decide_eq_false (by omega)
        have f6 : decide (l.length < n) = false := decide_eq_false hlt
        clear hlv hlt
        go_wp2_with fail
        go_ret
        exact ⟨A, c, l, q, false, rfl, hO, hR, hq, hG, HG⟩
    · have HI := Lib.hid HS.out.ill
      by_cases hlt : l.length < n
      · have f5 : decide ((l.length : Int) < (n : Int)) = true := decide_eq_true (by omega)
        have f6 : decide (l.length < n) = true := decide_eq_true hlt
        clear hlv hlt
        go_wp2_with fail
        go_ret
        exact ⟨A, c, l, q, true, rfl, hO, hR, hq, hG, HI⟩
      · have f5 : decide ((l.length : Int) < (n : Int)) = false := decide_eq_false (by omega)
        have f6 : decide (l.length < n) = false := decide_eq_false hlt
        clear hlv hlt
        go_wp2_with fail
        go_ret
        exact ⟨A, c, l, q, true, rfl, hO, hR, hq, hG, HI⟩
set_option maxRecDepth 100000 in
set_option maxHeartbeats 4000000 in
theorem rdRp_any {w : World} {b p : Nat} {s : ByteArray} {bad : Bool} (most : Nat) (hm : most ≤ 64) (hs : s.size ≤ 1000000) (hp : p ≤ s.size) (hr : Rd 44 w b s p bad) :
    Calls Tryd.prog 88 #[.pointer (some ⟨b, 0, none⟩), .int .i64 most, .func (.func 89) #[] #[]] w fun r w' => ∃ (A : Option Addr) (c : Nat) (l : List Rp) (q : Nat) (bad' : Bool), r = .returned (.slice A l.length c) ∧ rpE.Own w' w.heap.size (.slice A l.length c) l ∧ Rd 44 w' b s q bad' ∧ q ≤ s.size ∧ w.grownBy w' (some b) ∧ Hid (pStep rpK most s p bad l q bad') := by
  have hbw := hr.lt
  have hGw := by_below (Below.refl w.heap.size w) (some b)
  go_enter Tryd.func88, Tryd.ntmps88
  go_wp2_with fail
  refine (cntF_m most hs hp hr).mono ?_
  rintro e w1 ⟨n, q0, b0, rfl, hnm, hR, hq0, hg, st⟩
  have HS := Lib.hid (pAt.start (K := rpK) st)
  replace hGw := by_trans hGw hg
  have HNM := Lib.hid (show n ≤ 64 by omega)
  clear hr hg st hnm hm
  go_wp2_with fail
  go_loopw [8] (fun x wr => ∃ (v : Value) (l : List Rp) (q : Nat) (bd : Bool), x = v ∧ rpE.Own wr w.heap.size v l ∧ Hid (l.length ≤ n) ∧ Rd 44 wr b s q bd ∧ q ≤ s.size ∧ w.grownBy wr (some b) ∧ Hid (pAt rpK most s p bad n l q bd)) (fun x _ => n - lenF x)
  case atStart => exact ⟨_, [], q0, b0, rfl, El.Own.nil w1 w.heap.size, Lib.hid (Nat.zero_le _), hR, hq0, hGw, HS⟩
  case round =>
    clear hR hGw HS hq0
    obtain ⟨v, l, q, bd, rfl, hO, hl, hR, hq, hG, HS⟩ := hrel
    have hlv := own_lenF hO
    obtain ⟨A, c, rfl, hS⟩ := SlV.own hO
    obtain ⟨r0, r1, r2⟩ := hR.cells
    cases bd
    · by_cases hlt : l.length < n
      · have HLE := Lib.hid (show l.length + 1 ≤ 64 by have := HNM.out; omega)
        have f5 : decide ((l.length : Int) < (n : Int)) = true := decide_eq_true (by omega)
        have f6 : decide (l.length < n) = true := decide_eq_true hlt
        have CR := rpRead_uni _ _ _ _ _ hs hq hR
        have HLT := Lib.hid hlt
        clear hS hlv hlt
        go_wp2_with fail
        refine CR.mono ?_
        clear CR hR r0 r1 r2 f5 f6
        rintro e w3 ⟨x, q2, b2, rfl, hR, hq2, hg3, hst⟩
        have HN := Lib.hid (HS.out.next HLT.out (hst.imp (fun h => h) (fun h => ⟨h.1, h.2.2⟩)))
        replace hO := hO.kept hg3 (Or.inr (fun e => by have := (hO.lt b e).1; omega))
        replace hG := by_trans hG hg3
        have hb4 := below_alloc (Below.refl _ w3) (.cells #[.int .i64 x.d, .int .i64 x.i, .int .i64 x.b, .int .i64 x.t, .int .i64 x.m, .int .i64 x.p, .int .i64 x.c, .int .i64 x.s, .int .i64 x.k] 54)
        have hE : rpE.Sl (w3.alloc (.cells #[.int .i64 x.d, .int .i64 x.i, .int .i64 x.b, .int .i64 x.t, .int .i64 x.m, .int .i64 x.p, .int .i64 x.c, .int .i64 x.s, .int .i64 x.k] 54)) (some ⟨w3.heap.size, 0, none⟩) [x] := (El.In.new (E := rpE) w3 x _ rfl).sl
        replace hO := hO.below hb4
        replace hR := hR.below hb4
        replace hG := by_trans hG (by_below hb4 _)
        have hB := hG.size
        clear hg3 hb4 hst
        go_wp2_with (at_builtin; refine El.wpList_app rpInn rfl _ _ rfl w.heap.size _ l [x] rfl hO (some ⟨w3.heap.size, 0, none⟩) 1 1 rfl rfl hE (fun e => by cases e) (by have := HLE.out; rw [List.length_singleton]; omega) hB ?_; intro v' w5 hO5 hg5 _)
        replace hR := hR.keep hg5 (fun e => by have := (hO.lt b e.symm).1; omega)
        replace hG := by_ownF hG hg5 (fun k e => (hO.lt k e).1)
        have hlv5 := own_lenF hO5
        rw [List.length_append, List.length_singleton] at hlv5
        go_wp2
        go_roundw
        case rel => exact ⟨v', l ++ [x], q2, b2, rfl, hO5, Lib.hid (by rw [List.length_append, List.length_singleton]; have := HLT.out; omega), hR, hq2, hG, HN⟩
        case measure =>
          have h1 := HLT.out
          show n - lenF v' < n - l.length
          omega
      · have HG := Lib.hid (HS.out.good hlt hl.out)
        have f5 : decide ((l.length : Int) < (n : Int)) = false := decide_eq_false (by omega)
        have f6 : decide (l.length < n) = false := decide_eq_false hlt
        clear hlv hlt
        go_wp2_with fail
        go_ret
        exact ⟨A, c, l, q, false, rfl, hO, hR, hq, hG, HG⟩
    · have HI := Lib.hid HS.out.ill
      by_cases hlt : l.length < n
      · have f5 : decide ((l.length : Int) < (n : Int)) = true := decide_eq_true (by omega)
        have f6 : decide (l.length < n) = true := decide_eq_true hlt
        clear hlv hlt
        go_wp2_with fail
        go_ret
        exact ⟨A, c, l, q, true, rfl, hO, hR, hq, hG, HI⟩
      · have f5 : decide ((l.length : Int) < (n : Int)) = false := decide_eq_false (by omega)
        have f6 : decide (l.length < n) = false := decide_eq_false hlt
        clear hlv hlt
        go_wp2_with fail
        go_ret
        exact ⟨A, c, l, q, true, rfl, hO, hR, hq, hG, HI⟩
set_option maxRecDepth 100000 in
set_option maxHeartbeats 4000000 in
theorem rdEn_any {w : World} {b p : Nat} {s : ByteArray} {bad : Bool} (most : Nat) (hm : most ≤ 64) (hs : s.size ≤ 1000000) (hp : p ≤ s.size) (hr : Rd 44 w b s p bad) :
    Calls Tryd.prog 90 #[.pointer (some ⟨b, 0, none⟩), .int .i64 most, .func (.func 91) #[] #[]] w fun r w' => ∃ (A : Option Addr) (c : Nat) (l : List En) (q : Nat) (bad' : Bool), r = .returned (.slice A l.length c) ∧ enE.Own w' w.heap.size (.slice A l.length c) l ∧ Rd 44 w' b s q bad' ∧ q ≤ s.size ∧ w.grownBy w' (some b) ∧ Hid (pStep enK most s p bad l q bad') := by
  have hbw := hr.lt
  have hGw := by_below (Below.refl w.heap.size w) (some b)
  go_enter Tryd.func90, Tryd.ntmps90
  go_wp2_with fail
  refine (cntF_m most hs hp hr).mono ?_
  rintro e w1 ⟨n, q0, b0, rfl, hnm, hR, hq0, hg, st⟩
  have HS := Lib.hid (pAt.start (K := enK) st)
  replace hGw := by_trans hGw hg
  have HNM := Lib.hid (show n ≤ 64 by omega)
  clear hr hg st hnm hm
  go_wp2_with fail
  go_loopw [8] (fun x wr => ∃ (v : Value) (l : List En) (q : Nat) (bd : Bool), x = v ∧ enE.Own wr w.heap.size v l ∧ Hid (l.length ≤ n) ∧ Rd 44 wr b s q bd ∧ q ≤ s.size ∧ w.grownBy wr (some b) ∧ Hid (pAt enK most s p bad n l q bd)) (fun x _ => n - lenF x)
  case atStart => exact ⟨_, [], q0, b0, rfl, El.Own.nil w1 w.heap.size, Lib.hid (Nat.zero_le _), hR, hq0, hGw, HS⟩
  case round =>
    clear hR hGw HS hq0
    obtain ⟨v, l, q, bd, rfl, hO, hl, hR, hq, hG, HS⟩ := hrel
    have hlv := own_lenF hO
    obtain ⟨A, c, rfl, hS⟩ := SlV.own hO
    obtain ⟨r0, r1, r2⟩ := hR.cells
    cases bd
    · by_cases hlt : l.length < n
      · have HLE := Lib.hid (show l.length + 1 ≤ 64 by have := HNM.out; omega)
        have f5 : decide ((l.length : Int) < (n : Int)) = true := decide_eq_true (by omega)
        have f6 : decide (l.length < n) = true := decide_eq_true hlt
        have CR := entRead_uni hs hq hR
        have HLT := Lib.hid hlt
        clear hS hlv hlt
        go_wp2_with fail
        refine CR.mono ?_
        clear CR hR r0 r1 r2 f5 f6
        rintro e w3 ⟨x, q2, b2, rfl, hR, hq2, hg3, hst⟩
        have HN := Lib.hid (HS.out.next HLT.out (hst.imp (fun h => h) (fun h => ⟨h.1, h.2.2⟩)))
        replace hO := hO.kept hg3 (Or.inr (fun e => by have := (hO.lt b e).1; omega))
        replace hG := by_trans hG hg3
        have hb4 := below_alloc (Below.refl _ w3) (.cells #[.int .i64 x.k, .int .i64 x.d, .int .i64 x.i, .int .i64 x.o.C, .int .i64 x.o.D, .int .i64 x.o.I, .int .i64 x.o.M, .int .i64 x.o.K, .int .i64 x.o.U, .string x.o.s] 52)
        have hE : enE.Sl (w3.alloc (.cells #[.int .i64 x.k, .int .i64 x.d, .int .i64 x.i, .int .i64 x.o.C, .int .i64 x.o.D, .int .i64 x.o.I, .int .i64 x.o.M, .int .i64 x.o.K, .int .i64 x.o.U, .string x.o.s] 52)) (some ⟨w3.heap.size, 0, none⟩) [x] := (El.In.new (E := enE) w3 x _ rfl).sl
        replace hO := hO.below hb4
        replace hR := hR.below hb4
        replace hG := by_trans hG (by_below hb4 _)
        have hB := hG.size
        clear hg3 hb4 hst
        go_wp2_with (at_builtin; refine El.wpList_app enInn rfl _ _ rfl w.heap.size _ l [x] rfl hO (some ⟨w3.heap.size, 0, none⟩) 1 1 rfl rfl hE (fun e => by cases e) (by have := HLE.out; rw [List.length_singleton]; omega) hB ?_; intro v' w5 hO5 hg5 _)
        replace hR := hR.keep hg5 (fun e => by have := (hO.lt b e.symm).1; omega)
        replace hG := by_ownF hG hg5 (fun k e => (hO.lt k e).1)
        have hlv5 := own_lenF hO5
        rw [List.length_append, List.length_singleton] at hlv5
        go_wp2
        go_roundw
        case rel => exact ⟨v', l ++ [x], q2, b2, rfl, hO5, Lib.hid (by rw [List.length_append, List.length_singleton]; have := HLT.out; omega), hR, hq2, hG, HN⟩
        case measure =>
          have h1 := HLT.out
          show n - lenF v' < n - l.length
          omega
      · have HG := Lib.hid (HS.out.good hlt hl.out)
        have f5 : decide ((l.length : Int) < (n : Int)) = false := decide_eq_false (by omega)
        have f6 : decide (l.length < n) = false := decide_eq_false hlt
        clear hlv hlt
        go_wp2_with fail
        go_ret
        exact ⟨A, c, l, q, false, rfl, hO, hR, hq, hG, HG⟩
    · have HI := Lib.hid HS.out.ill
      by_cases hlt : l.length < n
      · have f5 : decide ((l.length : Int) < (n : Int)) = true := decide_eq_true (by omega)
        have f6 : decide (l.length < n) = true := decide_eq_true hlt
        clear hlv hlt
        go_wp2_with fail
        go_ret
        exact ⟨A, c, l, q, true, rfl, hO, hR, hq, hG, HI⟩
      · have f5 : decide ((l.length : Int) < (n : Int)) = false := decide_eq_false (by omega)
        have f6 : decide (l.length < n) = false := decide_eq_false hlt
        clear hlv hlt
        go_wp2_with fail
        go_ret
        exact ⟨A, c, l, q, true, rfl, hO, hR, hq, hG, HI⟩
set_option maxRecDepth 100000 in
set_option maxHeartbeats 4000000 in
theorem rdGf_any {w : World} {b p : Nat} {s : ByteArray} {bad : Bool} (most : Nat) (hm : most ≤ 64) (hs : s.size ≤ 1000000) (hp : p ≤ s.size) (hr : Rd 44 w b s p bad) :
    Calls Tryd.prog 92 #[.pointer (some ⟨b, 0, none⟩), .int .i64 most, .func (.func 21) #[] #[]] w fun r w' => ∃ (A : Option Addr) (c : Nat) (l : List Gf) (q : Nat) (bad' : Bool), r = .returned (.slice A l.length c) ∧ gfE.Own w' w.heap.size (.slice A l.length c) l ∧ Rd 44 w' b s q bad' ∧ q ≤ s.size ∧ w.grownBy w' (some b) ∧ Hid (pStep gfK most s p bad l q bad') := by
  have hbw := hr.lt
  have hGw := by_below (Below.refl w.heap.size w) (some b)
  go_enter Tryd.func92, Tryd.ntmps92
  go_wp2_with fail
  refine (cntF_m most hs hp hr).mono ?_
  rintro e w1 ⟨n, q0, b0, rfl, hnm, hR, hq0, hg, st⟩
  have HS := Lib.hid (pAt.start (K := gfK) st)
  replace hGw := by_trans hGw hg
  have HNM := Lib.hid (show n ≤ 64 by omega)
  clear hr hg st hnm hm
  go_wp2_with fail
  go_loopw [8] (fun x wr => ∃ (v : Value) (l : List Gf) (q : Nat) (bd : Bool), x = v ∧ gfE.Own wr w.heap.size v l ∧ Hid (l.length ≤ n) ∧ Rd 44 wr b s q bd ∧ q ≤ s.size ∧ w.grownBy wr (some b) ∧ Hid (pAt gfK most s p bad n l q bd)) (fun x _ => n - lenF x)
  case atStart => exact ⟨_, [], q0, b0, rfl, El.Own.nil w1 w.heap.size, Lib.hid (Nat.zero_le _), hR, hq0, hGw, HS⟩
  case round =>
    clear hR hGw HS hq0
    obtain ⟨v, l, q, bd, rfl, hO, hl, hR, hq, hG, HS⟩ := hrel
    have hlv := own_lenF hO
    obtain ⟨A, c, rfl, hS⟩ := SlV.own hO
    obtain ⟨r0, r1, r2⟩ := hR.cells
    cases bd
    · by_cases hlt : l.length < n
      · have HLE := Lib.hid (show l.length + 1 ≤ 64 by have := HNM.out; omega)
        have f5 : decide ((l.length : Int) < (n : Int)) = true := decide_eq_true (by omega)
        have f6 : decide (l.length < n) = true := decide_eq_true hlt
        have CR := gfRead_uni hs hq hR
        have HLT := Lib.hid hlt
        clear hS hlv hlt
        go_wp2_with fail
        refine CR.mono ?_
        clear CR hR r0 r1 r2 f5 f6
        rintro e w3 ⟨x, q2, b2, rfl, hR, hq2, hg3, hst⟩
        have HN := Lib.hid (HS.out.next HLT.out (hst.imp (fun h => h) (fun h => ⟨h.1, h.2.2⟩)))
        replace hO := hO.kept hg3 (Or.inr (fun e => by have := (hO.lt b e).1; omega))
        replace hG := by_trans hG hg3
        have hb4 := below_alloc (Below.refl _ w3) (.cells #[.int .i64 x.d, .int .i64 x.i, .int .i64 x.c, .int .i64 x.t, .string x.s] 32)
        have hE : gfE.Sl (w3.alloc (.cells #[.int .i64 x.d, .int .i64 x.i, .int .i64 x.c, .int .i64 x.t, .string x.s] 32)) (some ⟨w3.heap.size, 0, none⟩) [x] := (El.In.new (E := gfE) w3 x _ rfl).sl
        replace hO := hO.below hb4
        replace hR := hR.below hb4
        replace hG := by_trans hG (by_below hb4 _)
        have hB := hG.size
        clear hg3 hb4 hst
        go_wp2_with (at_builtin; refine El.wpList_app gfInn rfl _ _ rfl w.heap.size _ l [x] rfl hO (some ⟨w3.heap.size, 0, none⟩) 1 1 rfl rfl hE (fun e => by cases e) (by have := HLE.out; rw [List.length_singleton]; omega) hB ?_; intro v' w5 hO5 hg5 _)
        replace hR := hR.keep hg5 (fun e => by have := (hO.lt b e.symm).1; omega)
        replace hG := by_ownF hG hg5 (fun k e => (hO.lt k e).1)
        have hlv5 := own_lenF hO5
        rw [List.length_append, List.length_singleton] at hlv5
        go_wp2
        go_roundw
        case rel => exact ⟨v', l ++ [x], q2, b2, rfl, hO5, Lib.hid (by rw [List.length_append, List.length_singleton]; have := HLT.out; omega), hR, hq2, hG, HN⟩
        case measure =>
          have h1 := HLT.out
          show n - lenF v' < n - l.length
          omega
      · have HG := Lib.hid (HS.out.good hlt hl.out)
        have f5 : decide ((l.length : Int) < (n : Int)) = false := decide_eq_false (by omega)
        have f6 : decide (l.length < n) = false := decide_eq_false hlt
        clear hlv hlt
        go_wp2_with fail
        go_ret
        exact ⟨A, c, l, q, false, rfl, hO, hR, hq, hG, HG⟩
    · have HI := Lib.hid HS.out.ill
      by_cases hlt : l.length < n
      · have f5 : decide ((l.length : Int) < (n : Int)) = true := decide_eq_true (by omega)
        have f6 : decide (l.length < n) = true := decide_eq_true hlt
        clear hlv hlt
        go_wp2_with fail
        go_ret
        exact ⟨A, c, l, q, true, rfl, hO, hR, hq, hG, HI⟩
      · have f5 : decide ((l.length : Int) < (n : Int)) = false := decide_eq_false (by omega)
        have f6 : decide (l.length < n) = false := decide_eq_false hlt
        clear hlv hlt
        go_wp2_with fail
        go_ret
        exact ⟨A, c, l, q, true, rfl, hO, hR, hq, hG, HI⟩
end Go.Proofs.YtndahomgglpdhaaDoor

/- The program's frames: read, Parse; all calls (FrameCalls). -/
namespace Go.Proofs.YtndahomgglpdhaaDoor
open Go.RowKit Nam Cod

/-- One list more. -/
theorem pStep.thenB {α : Type} {K : Kd α} {most : Int} {P : Prop} {t : ByteArray} {q q' : Nat} {b b' : Bool} {l : List α} {rest : List α × Nat → Option Fr} (h : (b = false ∧ P ∧ isBody t = (K.isPart most t q false).bind rest) ∨ (b = true ∧ isBody t = none)) (st : pStep K most t q b l q' b') : (b' = false ∧ (P ∧ K.isPart most t q false = some (l, q')) ∧ isBody t = rest (l, q')) ∨ (b' = true ∧ isBody t = none) := by
  rcases h with ⟨rfl, hP, h⟩ | ⟨rfl, h⟩
  · rcases st with ⟨st, rfl⟩ | ⟨st, rfl⟩
    · exact Or.inl ⟨rfl, ⟨hP, st⟩, by rw [h, st, Option.bind_some]⟩
    · exact Or.inr ⟨rfl, by rw [h, st]; rfl⟩
  · rcases st with ⟨st, rfl⟩ | ⟨st, rfl⟩
    · exfalso
      unfold Kd.isPart at st
      rw [isCount_badF] at st
      cases st
    · exact Or.inr ⟨rfl, h⟩
/-- What a frame that was read is, behind its numbers and lists. -/
def rdFr (t : ByteArray) (x : Fr) (q : Nat) (b : Bool) : Prop := (b = false ∧ FrW x ∧ (frB x = frN3 x) ∧ isBody t = if q = t.size ∧ frB x = true then some x else none) ∨ (b = true ∧ isBody t = none)
theorem rdFr_of {t : ByteArray} {x : Fr} {q0 q1 q2 q3 q : Nat} {b : Bool} (ht : t.size ≤ 1000000) (h : (b = false ∧ ((((isNums t 10 0 = some (frL x, q0) ∧ opK.isPart 64 t q0 false = some (x.os, q1)) ∧ rpK.isPart 8 t q1 false = some (x.rs, q2)) ∧ enK.isPart 64 t q2 false = some (x.es, q3)) ∧ gfK.isPart 8 t q3 false = some (x.gs, q)) ∧ isBody t = bod4 t (frL x) x.os x.rs x.es (x.gs, q)) ∨ (b = true ∧ isBody t = none)) : rdFr t x q b := by
  rcases h with ⟨rfl, ⟨⟨⟨⟨h0, h1⟩, h2⟩, h3⟩, h4⟩, h5⟩ | h
  · refine Or.inl ⟨rfl, frW_of h0 h1 h2 h3 h4 ht, ?_, h5⟩
    obtain ⟨l1, k1, _⟩ := opK.part_bytes h1
    obtain ⟨l2, k2, _⟩ := rpK.part_bytes h2
    obtain ⟨l3, k3, _⟩ := enK.part_bytes h3
    obtain ⟨l4, k4, _⟩ := gfK.part_bytes h4
    rw [frB_parts, decide_eq_true (show x.os.length ≤ 64 by omega), decide_eq_true (show x.es.length ≤ 64 by omega), decide_eq_true (show x.rs.length ≤ 8 by omega), decide_eq_true (show x.gs.length ≤ 8 by omega), (List.all_eq_true.2 k1 : x.os.all okB = true), (List.all_eq_true.2 k2 : x.rs.all rpB = true), (List.all_eq_true.2 k3 : x.es.all entB = true), (List.all_eq_true.2 k4 : x.gs.all gfB = true)]
    simp
  · exact Or.inr h
theorem FwO.le {B C : Nat} {y : Fw} {w : World} (h : FwO B y w) (hb : C ≤ B) : FwO C y w := ⟨Joins.ownsRow_le h.o hb, Joins.ownsRow_le h.r hb, Joins.ownsRow_le h.e hb, Joins.ownsRow_le h.g hb⟩
theorem two_fr (w : World) (a : Array Value) (T : TypeId) : frE.In ((w.alloc (.cells a T)).alloc (.cells #[.int .i64 0, .int .i64 0, .int .i64 0, .int .i64 0, .slice none 0 0, .int .i64 0, .slice none 0 0, .int .i64 0, .slice none 0 0, .int .i64 0, .int .i64 0, .int .i64 0, .int .i64 0, .slice none 0 0] 27)) (w.heap.size + 1) zeroFw := by
  have h := El.In.new (E := frE) (w.alloc (.cells a T)) zeroFw _ rfl
  rw [alloc_size] at h; exact h
/-- The numbers are there, the lists not yet. -/
def fwM (f : Fr) : Fw := ⟨none, 0, none, 0, none, 0, none, 0, ⟨f.a, f.b, f.boot, f.first, f.pos, f.start, f.ack, f.grant, f.s, f.t, [], [], [], []⟩⟩
set_option maxRecDepth 100000 in
set_option maxHeartbeats 16000000 in
theorem frRead_any (w : World) (b : Nat) (t : ByteArray) (ht : t.size ≤ 1000000) (hr : Rd 44 w b t 0 false) :
    Calls Tryd.prog 54 #[.pointer (some ⟨b, 0, none⟩)] w fun e w' => ∃ (y : Fw) (q : Nat) (bad' : Bool), e = .returned (.agg #[.int .i64 y.x.a, .int .i64 y.x.b, .int .i64 y.x.boot, .int .i64 y.x.first, .slice y.oA y.x.os.length y.oc, .int .i64 y.x.pos, .slice y.rA y.x.rs.length y.rc, .int .i64 y.x.start, .slice y.eA y.x.es.length y.ec, .int .i64 y.x.ack, .int .i64 y.x.grant, .int .i64 y.x.s, .int .i64 y.x.t, .slice y.gA y.x.gs.length y.gc]) ∧ FwO w.heap.size y w' ∧ Rd 44 w' b t q bad' ∧ q ≤ t.size ∧ w.grownBy w' (some b) ∧ Hid (rdFr t y.x q bad') := by
  have hbw := hr.lt
  go_enter Tryd.func54, Tryd.ntmps54
  go_upto_region 2 with fail
  have hZ : frE.In ((w.alloc (.cells #[.int .i64 0, .int .i64 0, .int .i64 0, .int .i64 0, .slice none 0 0, .int .i64 0, .slice none 0 0, .int .i64 0, .slice none 0 0, .int .i64 0, .int .i64 0, .int .i64 0, .int .i64 0, .slice none 0 0] 27)).alloc (.cells #[.int .i64 0, .int .i64 0, .int .i64 0, .int .i64 0, .slice none 0 0, .int .i64 0, .slice none 0 0, .int .i64 0, .slice none 0 0, .int .i64 0, .int .i64 0, .int .i64 0, .int .i64 0, .slice none 0 0] 27)) w.heap.size zeroFw := (El.In.new (E := frE) w zeroFw #[.int .i64 0, .int .i64 0, .int .i64 0, .int .i64 0, .slice none 0 0, .int .i64 0, .slice none 0 0, .int .i64 0, .slice none 0 0, .int .i64 0, .int .i64 0, .int .i64 0, .int .i64 0, .slice none 0 0] rfl).alloc _
  have hY := two_fr w #[.int .i64 0, .int .i64 0, .int .i64 0, .int .i64 0, .slice none 0 0, .int .i64 0, .slice none 0 0, .int .i64 0, .slice none 0 0, .int .i64 0, .int .i64 0, .int .i64 0, .int .i64 0, .slice none 0 0] 27
  have hB := below_alloc (below_alloc (Below.refl w.heap.size w) (.cells #[.int .i64 0, .int .i64 0, .int .i64 0, .int .i64 0, .slice none 0 0, .int .i64 0, .slice none 0 0, .int .i64 0, .slice none 0 0, .int .i64 0, .int .i64 0, .int .i64 0, .int .i64 0, .slice none 0 0] 27)) (.cells #[.int .i64 0, .int .i64 0, .int .i64 0, .int .i64 0, .slice none 0 0, .int .i64 0, .slice none 0 0, .int .i64 0, .slice none 0 0, .int .i64 0, .int .i64 0, .int .i64 0, .int .i64 0, .slice none 0 0] 27)
  have hR := hr.below hB
  have hG := by_below hB (some b)
  have hsz : ((w.alloc (.cells #[.int .i64 0, .int .i64 0, .int .i64 0, .int .i64 0, .slice none 0 0, .int .i64 0, .slice none 0 0, .int .i64 0, .slice none 0 0, .int .i64 0, .int .i64 0, .int .i64 0, .int .i64 0, .slice none 0 0] 27)).alloc (.cells #[.int .i64 0, .int .i64 0, .int .i64 0, .int .i64 0, .slice none 0 0, .int .i64 0, .slice none 0 0, .int .i64 0, .slice none 0 0, .int .i64 0, .int .i64 0, .int .i64 0, .int .i64 0, .slice none 0 0] 27)).heap.size = w.heap.size + 1 + 1 := by rw [alloc_size, alloc_size]
  obtain ⟨BB, hBB⟩ : ∃ B, w.heap.size + 1 + 1 = B := ⟨_, rfl⟩
  obtain ⟨n3, h3⟩ : ∃ n, w.heap.size + 1 = n := ⟨_, rfl⟩
  obtain ⟨n2, h2⟩ : ∃ n, w.heap.size = n := ⟨_, rfl⟩
  have hn2 : w.heap.size ≤ n2 := by omega
  have hwn : w.heap.size ≤ n3 := by omega
  have e2 : b ≠ n2 := by omega
  have e3 : b ≠ n3 := by omega
  have e4 : n2 ≠ n3 := by omega
  have d2 : n2 < BB := by omega
  have d3 : n3 < BB := by omega
  have db : b < BB := by omega
  have hwB : w.heap.size ≤ BB := by omega
  have i2 : some n2 ≠ some b := fun e => e2 (Option.some.inj e).symm
  have i3 : some n3 ≠ some b := fun e => e3 (Option.some.inj e).symm
  have hBV : BB ≤ ((w.alloc (.cells #[.int .i64 0, .int .i64 0, .int .i64 0, .int .i64 0, .slice none 0 0, .int .i64 0, .slice none 0 0, .int .i64 0, .slice none 0 0, .int .i64 0, .int .i64 0, .int .i64 0, .int .i64 0, .slice none 0 0] 27)).alloc (.cells #[.int .i64 0, .int .i64 0, .int .i64 0, .int .i64 0, .slice none 0 0, .int .i64 0, .slice none 0 0, .int .i64 0, .slice none 0 0, .int .i64 0, .int .i64 0, .int .i64 0, .int .i64 0, .slice none 0 0] 27)).heap.size := by omega
  generalize (w.alloc (.cells #[.int .i64 0, .int .i64 0, .int .i64 0, .int .i64 0, .slice none 0 0, .int .i64 0, .slice none 0 0, .int .i64 0, .slice none 0 0, .int .i64 0, .int .i64 0, .int .i64 0, .int .i64 0, .slice none 0 0] 27)).alloc (.cells #[.int .i64 0, .int .i64 0, .int .i64 0, .int .i64 0, .slice none 0 0, .int .i64 0, .slice none 0 0, .int .i64 0, .slice none 0 0, .int .i64 0, .int .i64 0, .int .i64 0, .int .i64 0, .slice none 0 0] 27) = W0 at *
  rw [h3] at hY ⊢
  rw [h2] at hZ ⊢
  clear h2 h3 hB hr hsz hBB
  have HS0 := Lib.hid (TSt.zero t zeroFr)
  replace hY : frE.In W0 n3 (fwM zeroFr) := hY
  have hGV := hG
  go_wp2_with fail
  refine (num_uni ht (Nat.zero_le _) hR).mono ?_
  rintro e w1 ⟨v1, q1, b1, rfl, hR, hq1, hg, st1⟩
  replace hZ := hZ.keep hg i2
  replace hY := hY.keep hg i3
  replace hG := by_trans hG hg
  replace hBV := Nat.le_trans hBV hg.size
  clear hg
  have HS1 := Lib.hid (show TSt t 1 ⟨v1, 0, 0, 0, 0, 0, 0, 0, 0, 0, [], [], [], []⟩ q1 b1 from HS0.out.next (by decide) st1)
  clear st1 HS0
  have kc := hY.cell 0
  have kf := hY.frozen 0
  replace kc : w1.cell? ⟨n3, 0, none⟩ = some (.int .i64 0) := kc
  replace hY := hY.put (fwM ⟨v1, 0, 0, 0, 0, 0, 0, 0, 0, 0, [], [], [], []⟩) 0 (.int .i64 v1) rfl
  replace hZ := hZ.other n3 0 (.int .i64 v1) e4
  replace hR := hR.other n3 0 (.int .i64 v1) e3
  replace hG := by_setNew hG n3 0 (.int .i64 v1) hwn
  replace hBV := Nat.le_trans hBV (by_cell w1 n3 0 (.int .i64 v1)).size
  go_wp2_with fail
  clear kc kf
  generalize w1.setCell ⟨n3, 0, none⟩ (.int .i64 v1) = W1 at *
  refine (num_uni ht hq1 hR).mono ?_
  rintro e w2 ⟨v2, q2, b2, rfl, hR, hq2, hg, st2⟩
  replace hZ := hZ.keep hg i2
  replace hY := hY.keep hg i3
  replace hG := by_trans hG hg
  replace hBV := Nat.le_trans hBV hg.size
  clear hg
  have HS2 := Lib.hid (show TSt t 2 ⟨v1, v2, 0, 0, 0, 0, 0, 0, 0, 0, [], [], [], []⟩ q2 b2 from HS1.out.next (by decide) st2)
  clear st2 HS1
  have kc := hY.cell 1
  have kf := hY.frozen 1
  replace kc : w2.cell? ⟨n3, 1, none⟩ = some (.int .i64 0) := kc
  replace hY := hY.put (fwM ⟨v1, v2, 0, 0, 0, 0, 0, 0, 0, 0, [], [], [], []⟩) 1 (.int .i64 v2) rfl
  replace hZ := hZ.other n3 1 (.int .i64 v2) e4
  replace hR := hR.other n3 1 (.int .i64 v2) e3
  replace hG := by_setNew hG n3 1 (.int .i64 v2) hwn
  replace hBV := Nat.le_trans hBV (by_cell w2 n3 1 (.int .i64 v2)).size
  go_wp2_with fail
  clear kc kf
  generalize w2.setCell ⟨n3, 1, none⟩ (.int .i64 v2) = W2 at *
  refine (num_uni ht hq2 hR).mono ?_
  rintro e w3 ⟨v3, q3, b3, rfl, hR, hq3, hg, st3⟩
  replace hZ := hZ.keep hg i2
  replace hY := hY.keep hg i3
  replace hG := by_trans hG hg
  replace hBV := Nat.le_trans hBV hg.size
  clear hg
  have HS3 := Lib.hid (show TSt t 3 ⟨v1, v2, v3, 0, 0, 0, 0, 0, 0, 0, [], [], [], []⟩ q3 b3 from HS2.out.next (by decide) st3)
  clear st3 HS2
  have kc := hY.cell 2
  have kf := hY.frozen 2
  replace kc : w3.cell? ⟨n3, 2, none⟩ = some (.int .i64 0) := kc
  replace hY := hY.put (fwM ⟨v1, v2, v3, 0, 0, 0, 0, 0, 0, 0, [], [], [], []⟩) 2 (.int .i64 v3) rfl
  replace hZ := hZ.other n3 2 (.int .i64 v3) e4
  replace hR := hR.other n3 2 (.int .i64 v3) e3
  replace hG := by_setNew hG n3 2 (.int .i64 v3) hwn
  replace hBV := Nat.le_trans hBV (by_cell w3 n3 2 (.int .i64 v3)).size
  go_wp2_with fail
  clear kc kf
  generalize w3.setCell ⟨n3, 2, none⟩ (.int .i64 v3) = W3 at *
  refine (num_uni ht hq3 hR).mono ?_
  rintro e w4 ⟨v4, q4, b4, rfl, hR, hq4, hg, st4⟩
  replace hZ := hZ.keep hg i2
  replace hY := hY.keep hg i3
  replace hG := by_trans hG hg
  replace hBV := Nat.le_trans hBV hg.size
  clear hg
  have HS4 := Lib.hid (show TSt t 4 ⟨v1, v2, v3, v4, 0, 0, 0, 0, 0, 0, [], [], [], []⟩ q4 b4 from HS3.out.next (by decide) st4)
  clear st4 HS3
  have kc := hY.cell 3
  have kf := hY.frozen 3
  replace kc : w4.cell? ⟨n3, 3, none⟩ = some (.int .i64 0) := kc
  replace hY := hY.put (fwM ⟨v1, v2, v3, v4, 0, 0, 0, 0, 0, 0, [], [], [], []⟩) 3 (.int .i64 v4) rfl
  replace hZ := hZ.other n3 3 (.int .i64 v4) e4
  replace hR := hR.other n3 3 (.int .i64 v4) e3
  replace hG := by_setNew hG n3 3 (.int .i64 v4) hwn
  replace hBV := Nat.le_trans hBV (by_cell w4 n3 3 (.int .i64 v4)).size
  go_wp2_with fail
  clear kc kf
  generalize w4.setCell ⟨n3, 3, none⟩ (.int .i64 v4) = W4 at *
  refine (num_uni ht hq4 hR).mono ?_
  rintro e w5 ⟨v5, q5, b5, rfl, hR, hq5, hg, st5⟩
  replace hZ := hZ.keep hg i2
  replace hY := hY.keep hg i3
  replace hG := by_trans hG hg
  replace hBV := Nat.le_trans hBV hg.size
  clear hg
  have HS5 := Lib.hid (show TSt t 5 ⟨v1, v2, v3, v4, v5, 0, 0, 0, 0, 0, [], [], [], []⟩ q5 b5 from HS4.out.next (by decide) st5)
  clear st5 HS4
  have kc := hY.cell 5
  have kf := hY.frozen 5
  replace kc : w5.cell? ⟨n3, 5, none⟩ = some (.int .i64 0) := kc
  replace hY := hY.put (fwM ⟨v1, v2, v3, v4, v5, 0, 0, 0, 0, 0, [], [], [], []⟩) 5 (.int .i64 v5) rfl
  replace hZ := hZ.other n3 5 (.int .i64 v5) e4
  replace hR := hR.other n3 5 (.int .i64 v5) e3
  replace hG := by_setNew hG n3 5 (.int .i64 v5) hwn
  replace hBV := Nat.le_trans hBV (by_cell w5 n3 5 (.int .i64 v5)).size
  go_wp2_with fail
  clear kc kf
  generalize w5.setCell ⟨n3, 5, none⟩ (.int .i64 v5) = W5 at *
  refine (num_uni ht hq5 hR).mono ?_
  rintro e w6 ⟨v6, q6, b6, rfl, hR, hq6, hg, st6⟩
  replace hZ := hZ.keep hg i2
  replace hY := hY.keep hg i3
  replace hG := by_trans hG hg
  replace hBV := Nat.le_trans hBV hg.size
  clear hg
  have HS6 := Lib.hid (show TSt t 6 ⟨v1, v2, v3, v4, v5, v6, 0, 0, 0, 0, [], [], [], []⟩ q6 b6 from HS5.out.next (by decide) st6)
  clear st6 HS5
  have kc := hY.cell 7
  have kf := hY.frozen 7
  replace kc : w6.cell? ⟨n3, 7, none⟩ = some (.int .i64 0) := kc
  replace hY := hY.put (fwM ⟨v1, v2, v3, v4, v5, v6, 0, 0, 0, 0, [], [], [], []⟩) 7 (.int .i64 v6) rfl
  replace hZ := hZ.other n3 7 (.int .i64 v6) e4
  replace hR := hR.other n3 7 (.int .i64 v6) e3
  replace hG := by_setNew hG n3 7 (.int .i64 v6) hwn
  replace hBV := Nat.le_trans hBV (by_cell w6 n3 7 (.int .i64 v6)).size
  go_wp2_with fail
  clear kc kf
  generalize w6.setCell ⟨n3, 7, none⟩ (.int .i64 v6) = W6 at *
  refine (num_uni ht hq6 hR).mono ?_
  rintro e w7 ⟨v7, q7, b7, rfl, hR, hq7, hg, st7⟩
  replace hZ := hZ.keep hg i2
  replace hY := hY.keep hg i3
  replace hG := by_trans hG hg
  replace hBV := Nat.le_trans hBV hg.size
  clear hg
  have HS7 := Lib.hid (show TSt t 7 ⟨v1, v2, v3, v4, v5, v6, v7, 0, 0, 0, [], [], [], []⟩ q7 b7 from HS6.out.next (by decide) st7)
  clear st7 HS6
  have kc := hY.cell 9
  have kf := hY.frozen 9
  replace kc : w7.cell? ⟨n3, 9, none⟩ = some (.int .i64 0) := kc
  replace hY := hY.put (fwM ⟨v1, v2, v3, v4, v5, v6, v7, 0, 0, 0, [], [], [], []⟩) 9 (.int .i64 v7) rfl
  replace hZ := hZ.other n3 9 (.int .i64 v7) e4
  replace hR := hR.other n3 9 (.int .i64 v7) e3
  replace hG := by_setNew hG n3 9 (.int .i64 v7) hwn
  replace hBV := Nat.le_trans hBV (by_cell w7 n3 9 (.int .i64 v7)).size
  go_wp2_with fail
  clear kc kf
  generalize w7.setCell ⟨n3, 9, none⟩ (.int .i64 v7) = W7 at *
  refine (num_uni ht hq7 hR).mono ?_
  rintro e w8 ⟨v8, q8, b8, rfl, hR, hq8, hg, st8⟩
  replace hZ := hZ.keep hg i2
  replace hY := hY.keep hg i3
  replace hG := by_trans hG hg
  replace hBV := Nat.le_trans hBV hg.size
  clear hg
  have HS8 := Lib.hid (show TSt t 8 ⟨v1, v2, v3, v4, v5, v6, v7, v8, 0, 0, [], [], [], []⟩ q8 b8 from HS7.out.next (by decide) st8)
  clear st8 HS7
  have kc := hY.cell 10
  have kf := hY.frozen 10
  replace kc : w8.cell? ⟨n3, 10, none⟩ = some (.int .i64 0) := kc
  replace hY := hY.put (fwM ⟨v1, v2, v3, v4, v5, v6, v7, v8, 0, 0, [], [], [], []⟩) 10 (.int .i64 v8) rfl
  replace hZ := hZ.other n3 10 (.int .i64 v8) e4
  replace hR := hR.other n3 10 (.int .i64 v8) e3
  replace hG := by_setNew hG n3 10 (.int .i64 v8) hwn
  replace hBV := Nat.le_trans hBV (by_cell w8 n3 10 (.int .i64 v8)).size
  go_wp2_with fail
  clear kc kf
  generalize w8.setCell ⟨n3, 10, none⟩ (.int .i64 v8) = W8 at *
  refine (num_uni ht hq8 hR).mono ?_
  rintro e w9 ⟨v9, q9, b9, rfl, hR, hq9, hg, st9⟩
  replace hZ := hZ.keep hg i2
  replace hY := hY.keep hg i3
  replace hG := by_trans hG hg
  replace hBV := Nat.le_trans hBV hg.size
  clear hg
  have HS9 := Lib.hid (show TSt t 9 ⟨v1, v2, v3, v4, v5, v6, v7, v8, v9, 0, [], [], [], []⟩ q9 b9 from HS8.out.next (by decide) st9)
  clear st9 HS8
  have kc := hY.cell 11
  have kf := hY.frozen 11
  replace kc : w9.cell? ⟨n3, 11, none⟩ = some (.int .i64 0) := kc
  replace hY := hY.put (fwM ⟨v1, v2, v3, v4, v5, v6, v7, v8, v9, 0, [], [], [], []⟩) 11 (.int .i64 v9) rfl
  replace hZ := hZ.other n3 11 (.int .i64 v9) e4
  replace hR := hR.other n3 11 (.int .i64 v9) e3
  replace hG := by_setNew hG n3 11 (.int .i64 v9) hwn
  replace hBV := Nat.le_trans hBV (by_cell w9 n3 11 (.int .i64 v9)).size
  go_wp2_with fail
  clear kc kf
  generalize w9.setCell ⟨n3, 11, none⟩ (.int .i64 v9) = W9 at *
  refine (num_uni ht hq9 hR).mono ?_
  rintro e w10 ⟨v10, q10, b10, rfl, hR, hq10, hg, st10⟩
  replace hZ := hZ.keep hg i2
  replace hY := hY.keep hg i3
  replace hG := by_trans hG hg
  replace hBV := Nat.le_trans hBV hg.size
  clear hg
  have HS10 := Lib.hid (show TSt t 10 ⟨v1, v2, v3, v4, v5, v6, v7, v8, v9, v10, [], [], [], []⟩ q10 b10 from HS9.out.next (by decide) st10)
  clear st10 HS9
  have kc := hY.cell 12
  have kf := hY.frozen 12
  replace kc : w10.cell? ⟨n3, 12, none⟩ = some (.int .i64 0) := kc
  replace hY := hY.put (fwM ⟨v1, v2, v3, v4, v5, v6, v7, v8, v9, v10, [], [], [], []⟩) 12 (.int .i64 v10) rfl
  replace hZ := hZ.other n3 12 (.int .i64 v10) e4
  replace hR := hR.other n3 12 (.int .i64 v10) e3
  replace hG := by_setNew hG n3 12 (.int .i64 v10) hwn
  replace hBV := Nat.le_trans hBV (by_cell w10 n3 12 (.int .i64 v10)).size
  go_wp2_with fail
  clear kc kf
  generalize w10.setCell ⟨n3, 12, none⟩ (.int .i64 v10) = W10 at *
  have HD := Lib.hid HS10.out.done
  clear HS10
  have hsz := hBV
  clear hBV hGV
  have hO := FwO.zero BB (fwM ⟨v1, v2, v3, v4, v5, v6, v7, v8, v9, v10, [], [], [], []⟩) W10 ⟨rfl, rfl, rfl, rfl, rfl, rfl, rfl, rfl⟩ ⟨rfl, rfl, rfl, rfl⟩
  refine (rdOp_any 64 (by decide) ht hq10 hR).mono ?_
  rintro e w11 ⟨A1, c1, l1, q11, b11, rfl, hOwn, hR, hq11, hg, st11⟩
  replace hOwn := Joins.ownsRow_le hOwn hsz
  replace hZ := hZ.keep hg i2
  replace hY := hY.keep hg i3
  replace hG := by_trans hG hg
  replace hO := hO.keepN hg db
  replace hsz := Nat.le_trans hsz hg.size
  clear hg
  have HD1 := Lib.hid (pStep.thenB HD.out st11.out)
  clear HD st11
  replace hO : FwO BB ⟨A1, c1, none, 0, none, 0, none, 0, ⟨v1, v2, v3, v4, v5, v6, v7, v8, v9, v10, l1, [], [], []⟩⟩ w11 := ⟨hOwn, hO.r, hO.e, hO.g⟩
  clear hOwn
  have kc := hY.cell 4
  have kf := hY.frozen 4
  replace kc : w11.cell? ⟨n3, 4, none⟩ = some (.slice none 0 0) := kc
  replace hY := hY.put ⟨A1, c1, none, 0, none, 0, none, 0, ⟨v1, v2, v3, v4, v5, v6, v7, v8, v9, v10, l1, [], [], []⟩⟩ 4 (.slice A1 l1.length c1) rfl
  replace hZ := hZ.other n3 4 (.slice A1 l1.length c1) e4
  replace hR := hR.other n3 4 (.slice A1 l1.length c1) e3
  replace hG := by_setNew hG n3 4 (.slice A1 l1.length c1) hwn
  replace hO := hO.keepN (by_cell w11 n3 4 (.slice A1 l1.length c1)) d3
  replace hsz := Nat.le_trans hsz (by_cell w11 n3 4 (.slice A1 l1.length c1)).size
  go_wp2_with fail
  clear kc kf
  generalize w11.setCell ⟨n3, 4, none⟩ (.slice A1 l1.length c1) = W11 at *
  refine (rdRp_any 8 (by decide) ht hq11 hR).mono ?_
  rintro e w12 ⟨A2, c2, l2, q12, b12, rfl, hOwn, hR, hq12, hg, st12⟩
  replace hOwn := Joins.ownsRow_le hOwn hsz
  replace hZ := hZ.keep hg i2
  replace hY := hY.keep hg i3
  replace hG := by_trans hG hg
  replace hO := hO.keepN hg db
  replace hsz := Nat.le_trans hsz hg.size
  clear hg
  have HD2 := Lib.hid (pStep.thenB HD1.out st12.out)
  clear HD1 st12
  replace hO : FwO BB ⟨A1, c1, A2, c2, none, 0, none, 0, ⟨v1, v2, v3, v4, v5, v6, v7, v8, v9, v10, l1, l2, [], []⟩⟩ w12 := ⟨hO.o, hOwn, hO.e, hO.g⟩
  clear hOwn
  have kc := hY.cell 6
  have kf := hY.frozen 6
  replace kc : w12.cell? ⟨n3, 6, none⟩ = some (.slice none 0 0) := kc
  replace hY := hY.put ⟨A1, c1, A2, c2, none, 0, none, 0, ⟨v1, v2, v3, v4, v5, v6, v7, v8, v9, v10, l1, l2, [], []⟩⟩ 6 (.slice A2 l2.length c2) rfl
  replace hZ := hZ.other n3 6 (.slice A2 l2.length c2) e4
  replace hR := hR.other n3 6 (.slice A2 l2.length c2) e3
  replace hG := by_setNew hG n3 6 (.slice A2 l2.length c2) hwn
  replace hO := hO.keepN (by_cell w12 n3 6 (.slice A2 l2.length c2)) d3
  replace hsz := Nat.le_trans hsz (by_cell w12 n3 6 (.slice A2 l2.length c2)).size
  go_wp2_with fail
  clear kc kf
  generalize w12.setCell ⟨n3, 6, none⟩ (.slice A2 l2.length c2) = W12 at *
  refine (rdEn_any 64 (by decide) ht hq12 hR).mono ?_
  rintro e w13 ⟨A3, c3, l3, q13, b13, rfl, hOwn, hR, hq13, hg, st13⟩
  replace hOwn := Joins.ownsRow_le hOwn hsz
  replace hZ := hZ.keep hg i2
  replace hY := hY.keep hg i3
  replace hG := by_trans hG hg
  replace hO := hO.keepN hg db
  replace hsz := Nat.le_trans hsz hg.size
  clear hg
  have HD3 := Lib.hid (pStep.thenB HD2.out st13.out)
  clear HD2 st13
  replace hO : FwO BB ⟨A1, c1, A2, c2, A3, c3, none, 0, ⟨v1, v2, v3, v4, v5, v6, v7, v8, v9, v10, l1, l2, l3, []⟩⟩ w13 := ⟨hO.o, hO.r, hOwn, hO.g⟩
  clear hOwn
  have kc := hY.cell 8
  have kf := hY.frozen 8
  replace kc : w13.cell? ⟨n3, 8, none⟩ = some (.slice none 0 0) := kc
  replace hY := hY.put ⟨A1, c1, A2, c2, A3, c3, none, 0, ⟨v1, v2, v3, v4, v5, v6, v7, v8, v9, v10, l1, l2, l3, []⟩⟩ 8 (.slice A3 l3.length c3) rfl
  replace hZ := hZ.other n3 8 (.slice A3 l3.length c3) e4
  replace hR := hR.other n3 8 (.slice A3 l3.length c3) e3
  replace hG := by_setNew hG n3 8 (.slice A3 l3.length c3) hwn
  replace hO := hO.keepN (by_cell w13 n3 8 (.slice A3 l3.length c3)) d3
  replace hsz := Nat.le_trans hsz (by_cell w13 n3 8 (.slice A3 l3.length c3)).size
  go_wp2_with fail
  clear kc kf
  generalize w13.setCell ⟨n3, 8, none⟩ (.slice A3 l3.length c3) = W13 at *
  refine (rdGf_any 8 (by decide) ht hq13 hR).mono ?_
  rintro e w14 ⟨A4, c4, l4, q14, b14, rfl, hOwn, hR, hq14, hg, st14⟩
  replace hOwn := Joins.ownsRow_le hOwn hsz
  replace hZ := hZ.keep hg i2
  replace hY := hY.keep hg i3
  replace hG := by_trans hG hg
  replace hO := hO.keepN hg db
  replace hsz := Nat.le_trans hsz hg.size
  clear hg
  have HD4 := Lib.hid (pStep.thenB HD3.out st14.out)
  clear HD3 st14
  replace hO : FwO BB ⟨A1, c1, A2, c2, A3, c3, A4, c4, ⟨v1, v2, v3, v4, v5, v6, v7, v8, v9, v10, l1, l2, l3, l4⟩⟩ w14 := ⟨hO.o, hO.r, hO.e, hOwn⟩
  clear hOwn
  have kc := hY.cell 13
  have kf := hY.frozen 13
  replace kc : w14.cell? ⟨n3, 13, none⟩ = some (.slice none 0 0) := kc
  replace hY := hY.put ⟨A1, c1, A2, c2, A3, c3, A4, c4, ⟨v1, v2, v3, v4, v5, v6, v7, v8, v9, v10, l1, l2, l3, l4⟩⟩ 13 (.slice A4 l4.length c4) rfl
  replace hZ := hZ.other n3 13 (.slice A4 l4.length c4) e4
  replace hR := hR.other n3 13 (.slice A4 l4.length c4) e3
  replace hG := by_setNew hG n3 13 (.slice A4 l4.length c4) hwn
  replace hO := hO.keepN (by_cell w14 n3 13 (.slice A4 l4.length c4)) d3
  replace hsz := Nat.le_trans hsz (by_cell w14 n3 13 (.slice A4 l4.length c4)).size
  go_upto_region 16 with fail
  clear kc kf
  generalize w14.setCell ⟨n3, 13, none⟩ (.slice A4 l4.length c4) = W14 at *
  have HF := Lib.hid (rdFr_of (x := ⟨v1, v2, v3, v4, v5, v6, v7, v8, v9, v10, l1, l2, l3, l4⟩) ht HD4.out)
  clear HD4
  go_wp2_with (first | (refine El.load frRow rfl _ rfl n3 0 rfl ⟨A1, c1, A2, c2, A3, c3, A4, c4, ⟨v1, v2, v3, v4, v5, v6, v7, v8, v9, v10, l1, l2, l3, l4⟩⟩ hY.at #[.int .i64 v1, .int .i64 v2, .int .i64 v3, .int .i64 v4, .slice A1 l1.length c1, .int .i64 v5, .slice A2 l2.length c2, .int .i64 v6, .slice A3 l3.length c3, .int .i64 v7, .int .i64 v8, .int .i64 v9, .int .i64 v10, .slice A4 l4.length c4] rfl ?_) | (refine El.store frRow rfl _ _ rfl n2 ⟨A1, c1, A2, c2, A3, c3, A4, c4, ⟨v1, v2, v3, v4, v5, v6, v7, v8, v9, v10, l1, l2, l3, l4⟩⟩ #[.int .i64 v1, .int .i64 v2, .int .i64 v3, .int .i64 v4, .slice A1 l1.length c1, .int .i64 v5, .slice A2 l2.length c2, .int .i64 v6, .slice A3 l3.length c3, .int .i64 v7, .int .i64 v8, .int .i64 v9, .int .i64 v10, .slice A4 l4.length c4] rfl rfl rfl zeroFw hZ ?_) | fail)
  refine El.ret1 frRow (hZ.set ⟨A1, c1, A2, c2, A3, c3, A4, c4, ⟨v1, v2, v3, v4, v5, v6, v7, v8, v9, v10, l1, l2, l3, l4⟩⟩ _ rfl) rfl rfl rfl #[.int .i64 v1, .int .i64 v2, .int .i64 v3, .int .i64 v4, .slice A1 l1.length c1, .int .i64 v5, .slice A2 l2.length c2, .int .i64 v6, .slice A3 l3.length c3, .int .i64 v7, .int .i64 v8, .int .i64 v9, .int .i64 v10, .slice A4 l4.length c4] rfl ?_
  exact ⟨⟨A1, c1, A2, c2, A3, c3, A4, c4, ⟨v1, v2, v3, v4, v5, v6, v7, v8, v9, v10, l1, l2, l3, l4⟩⟩, q14, b14, rfl, (hO.keepN (by_row _ n2 _) d2).le hwB, hR.row n2 _ e2, hq14, by_setRow hG n2 _ hn2, HF⟩

theorem frN3_le {t : ByteArray} {f : Fr} (h : isBody t = some f) : t.size ≤ 20000 := by
  obtain ⟨h1, h2⟩ := body_bytes h
  rw [← h2]
  exact bodyF_le h1
theorem opT_size {s : ByteArray} (h : Crk.opC s = s.size) : (Crk.opT s).size + 8 = s.size := by
  have h1 := Crk.seal_of h
  have h2 := Crk.seal_size (Crk.opT s)
  rw [h1] at h2
  omega
theorem opT_leF (s : ByteArray) : (Crk.opT s).size ≤ s.size := by
  unfold Crk.opT
  split
  · unfold Crk.bodyOf; rw [ByteArray.size_extract]; omega
  · exact Nat.zero_le _
set_option maxRecDepth 100000 in
set_option maxHeartbeats 16000000 in
theorem frParse_any (s : ByteArray) (w : World) (hL : Crk.Laid w) (hs : s.size ≤ 1000000) : Calls Tryd.prog 18 #[.string s] w fun e w' => ∃ (y : Fw) (bv : Bool), e = .returned (.tuple #[.agg #[.int .i64 y.x.a, .int .i64 y.x.b, .int .i64 y.x.boot, .int .i64 y.x.first, .slice y.oA y.x.os.length y.oc, .int .i64 y.x.pos, .slice y.rA y.x.rs.length y.rc, .int .i64 y.x.start, .slice y.eA y.x.es.length y.ec, .int .i64 y.x.ack, .int .i64 y.x.grant, .int .i64 y.x.s, .int .i64 y.x.t, .slice y.gA y.x.gs.length y.gc], .bool bv]) ∧ y.ok w' ∧ ((parseF s = some y.x ∧ bv = true) ∨ (parseF s = none ∧ y.x = zeroFr ∧ bv = false)) ∧ Below w.heap.size w w' := by
  have hZ : frE.In (w.alloc (.cells #[.int .i64 0, .int .i64 0, .int .i64 0, .int .i64 0, .slice none 0 0, .int .i64 0, .slice none 0 0, .int .i64 0, .slice none 0 0, .int .i64 0, .int .i64 0, .int .i64 0, .int .i64 0, .slice none 0 0] 27)) w.heap.size zeroFw := El.In.new (E := frE) w zeroFw _ rfl
  have hB := below_alloc (Below.refl w.heap.size w) (.cells #[.int .i64 0, .int .i64 0, .int .i64 0, .int .i64 0, .slice none 0 0, .int .i64 0, .slice none 0 0, .int .i64 0, .slice none 0 0, .int .i64 0, .int .i64 0, .int .i64 0, .int .i64 0, .slice none 0 0] 27)
  obtain ⟨PF, hPF⟩ : ∃ PF, parseF s = PF := ⟨_, rfl⟩
  rw [hPF]
  have HLD := Lib.hid hL
  clear hL
  have hts := opT_leF s
  have HO := Lib.hid (fun wx hx => Crk.open_any s wx hs hx)
  have HU := Lib.hid (show (if Crk.opC s = s.size ∧ s.size ≤ 65536 then isBody (Crk.opT s) else none) = PF from hPF)
  have HSZ := Lib.hid (show Crk.opC s = s.size → (Crk.opT s).size + 8 = s.size from opT_size)
  clear hPF
  generalize Crk.opT s = t at *
  generalize Crk.opC s = c at *
  go_enter Tryd.func18, Tryd.ntmps18
  go_upto_region 1 with fail
  generalize w.alloc (.cells #[.int .i64 0, .int .i64 0, .int .i64 0, .int .i64 0, .slice none 0 0, .int .i64 0, .slice none 0 0, .int .i64 0, .slice none 0 0, .int .i64 0, .int .i64 0, .int .i64 0, .int .i64 0, .slice none 0 0] 27) = W0 at *
  obtain ⟨n2, h2⟩ : ∃ n, w.heap.size = n := ⟨_, rfl⟩
  have hn2 : w.heap.size ≤ n2 := by omega
  rw [h2] at hZ ⊢
  clear h2
  go_wp2_with fail
  refine (HO.out _ (Crk.laid_below HLD.out hB)).mono ?_
  rintro e w1 ⟨rfl, hb1⟩
  replace hZ := hZ.below hb1
  replace hB := below_then hB hb1
  clear hb1 HO HLD
  by_cases h1 : c = s.size
  · subst h1
    have f1 : ((s.size : Int) == (s.size : Int)) = true := by simp
    have CL := Lib.hid (fun wx => least_any t wx)
    have hts8 := HSZ.out rfl
    by_cases h6 : t.size ≤ 65536
    · have hPB : isBody t = PF := by
        have h := HU.out
        by_cases h7 : s.size ≤ 65536
        · rw [if_pos ⟨rfl, h7⟩] at h; exact h
        · rw [if_neg (fun hh => h7 hh.2)] at h
          rw [← h]
          cases hb : isBody t with
          | none => rfl
          | some f => have := frN3_le hb; omega
      have HPB := Lib.hid hPB
      clear hPB HU HSZ hts8 hts
      have f2 : decide ((t.size : Int) ≤ 65536) = true := decide_eq_true (by omega)
      rw [f2] at CL
      have htl : t.size ≤ 1000000 := by omega
      clear f2 h6
      go_wp2_with fail
      refine (CL.out _).mono ?_
      rintro e w2 ⟨rfl, rfl⟩
      clear CL
      have hRr := Rd.new w1 44 t 0 rfl
      have hal := below_alloc (Below.refl w1.heap.size w1) (.cells #[.string t, .int .i64 0, .bool false] 44)
      have hwb := hB.size
      have hnb := hZ.lt
      replace hZ := hZ.below hal
      replace hB := below_then hB hal
      clear hal
      go_upto_region 5 with fail
      generalize w1.alloc (.cells #[.string t, .int .i64 0, .bool false] 44) = V at *
      generalize w1.heap.size = b at *
      have hnV := hZ.lt
      go_wp2_with fail
      refine (frRead_any V b t htl hRr).mono ?_
      rintro e w2 ⟨y, q, b', rfl, hok, hR, hq, hg, HF⟩
      replace hZ := hZ.keep hg (fun e => by have := Option.some.inj e; omega)
      replace hB := below_by hB hg hwb
      clear hg hRr
      have hE : frE.In (w2.alloc (.cells #[.int .i64 y.x.a, .int .i64 y.x.b, .int .i64 y.x.boot, .int .i64 y.x.first, .slice y.oA y.x.os.length y.oc, .int .i64 y.x.pos, .slice y.rA y.x.rs.length y.rc, .int .i64 y.x.start, .slice y.eA y.x.es.length y.ec, .int .i64 y.x.ack, .int .i64 y.x.grant, .int .i64 y.x.s, .int .i64 y.x.t, .slice y.gA y.x.gs.length y.gc] 27)) w2.heap.size y := El.In.new (E := frE) w2 y _ rfl
      have hal := below_alloc (Below.refl w2.heap.size w2) (.cells #[.int .i64 y.x.a, .int .i64 y.x.b, .int .i64 y.x.boot, .int .i64 y.x.first, .slice y.oA y.x.os.length y.oc, .int .i64 y.x.pos, .slice y.rA y.x.rs.length y.rc, .int .i64 y.x.start, .slice y.eA y.x.es.length y.ec, .int .i64 y.x.ack, .int .i64 y.x.grant, .int .i64 y.x.s, .int .i64 y.x.t, .slice y.gA y.x.gs.length y.gc] 27)
      have hwe := hB.size
      have hne : n2 ≠ w2.heap.size := by have := hZ.lt; omega
      replace hZ := hZ.below hal
      replace hB := below_then hB hal
      replace hR := hR.below hal
      replace hok := hok.below hal
      clear hal
      go_upto_region 6 with fail
      generalize w2.alloc (.cells #[.int .i64 y.x.a, .int .i64 y.x.b, .int .i64 y.x.boot, .int .i64 y.x.first, .slice y.oA y.x.os.length y.oc, .int .i64 y.x.pos, .slice y.rA y.x.rs.length y.rc, .int .i64 y.x.start, .slice y.eA y.x.es.length y.ec, .int .i64 y.x.ack, .int .i64 y.x.grant, .int .i64 y.x.s, .int .i64 y.x.t, .slice y.gA y.x.gs.length y.gc] 27) = V2 at *
      generalize w2.heap.size = n7 at *
      have CD := (done_any hq hR).mono (fun e w' (h : _ ∧ ∃ n, w' = V2.drewN n) => (by
        obtain ⟨he, n, rfl⟩ := h
        exact ⟨he, below_drew (Below.refl _ _) n⟩ : e = .returned (.bool (isDone t q b')) ∧ Below V2.heap.size V2 w'))
      obtain ⟨dv, hdv⟩ : ∃ d, isDone t q b' = d := ⟨_, rfl⟩
      rw [hdv] at CD
      have HDV := Lib.hid hdv
      have HCD := Lib.hid CD
      clear CD hdv hq htl hnb hwb
      cases dv with
      | false =>
        have hPN : PF = none := by
          rw [← HPB.out]
          rcases HF.out with ⟨rfl, _, _, hbd⟩ | ⟨rfl, hbd⟩
          · rw [hbd]
            have h := HDV.out
            unfold isDone at h
            rw [if_neg]
            intro hh
            rw [decide_eq_true hh.1] at h
            cases h
          · exact hbd
        have HPN := Lib.hid hPN
        clear hPN hE hR hok
        go_wp2_with fail
        refine HCD.out.mono ?_
        rintro e w3 ⟨rfl, hb3⟩
        replace hZ := hZ.below hb3
        replace hB := below_then hB hb3
        clear hb3 HCD
        go_wp2_with (first | (refine El.store frRow rfl _ _ rfl n2 zeroFw #[.int .i64 0, .int .i64 0, .int .i64 0, .int .i64 0, .slice none 0 0, .int .i64 0, .slice none 0 0, .int .i64 0, .slice none 0 0, .int .i64 0, .int .i64 0, .int .i64 0, .int .i64 0, .slice none 0 0] rfl rfl rfl zeroFw hZ ?_) | fail)
        refine El.ret2 frRow (hZ.set zeroFw _ rfl) rfl rfl rfl rfl #[.int .i64 0, .int .i64 0, .int .i64 0, .int .i64 0, .slice none 0 0, .int .i64 0, .slice none 0 0, .int .i64 0, .slice none 0 0, .int .i64 0, .int .i64 0, .int .i64 0, .int .i64 0, .slice none 0 0] rfl ?_
        exact ⟨zeroFw, false, rfl, ⟨SlV.nil _ _, SlV.nil _ _, SlV.nil _ _, SlV.nil _ _⟩, Or.inr ⟨HPN.out, rfl, rfl⟩, below_setRow hB hn2 _⟩
      | true =>
        have hgood : (if frN3 y.x = true then some y.x else none) = PF ∧ FrW y.x := by
          rw [← HPB.out]
          have h := HDV.out
          unfold isDone at h
          rcases HF.out with ⟨rfl, hW, hfb, hbd⟩ | ⟨rfl, hbd⟩
          · have hqs : q = t.size := by simpa using h
            rw [hbd]
            refine ⟨?_, hW⟩
            rw [hfb]
            by_cases hc : frN3 y.x = true
            · rw [if_pos hc, if_pos ⟨hqs, hc⟩]
            · rw [if_neg hc, if_neg (fun hh => hc hh.2)]
          · cases h
        have HGD := Lib.hid hgood
        clear hgood HF HDV
        go_wp2_with fail
        refine HCD.out.mono ?_
        rintro e w3 ⟨rfl, hb3⟩
        replace hZ := hZ.below hb3
        replace hE := hE.below hb3
        replace hok := hok.below hb3
        replace hB := below_then hB hb3
        clear hb3 HCD hR
        have CN := Lib.hid (fun wx => frNumbers_any y wx)
        obtain ⟨nv, hnv⟩ : ∃ d, frN3 y.x = d := ⟨_, rfl⟩
        rw [hnv] at CN
        have HNV := Lib.hid hnv
        clear hnv
        obtain ⟨p0, p1, p2, p3, p4, p5, p6, p7, p8, p9, p10, p11, p12, p13⟩ := frIn14 hE
        go_wp2_with fail
        refine (CN.out _).mono ?_
        rintro e w4 ⟨rfl, hb4⟩
        replace hZ := hZ.below hb4
        replace hE := hE.below hb4
        replace hok := hok.below hb4
        replace hB := below_then hB hb4
        clear hb4 CN p0 p1 p2 p3 p4 p5 p6 p7 p8 p9 p10 p11 p12 p13
        cases nv with
        | false =>
          have hPN : PF = none := by rw [← HGD.out.1, if_neg (by rw [HNV.out]; decide)]
          have HPN := Lib.hid hPN
          clear hPN hE hok
          go_wp2_with (first | (refine El.store frRow rfl _ _ rfl n2 zeroFw #[.int .i64 0, .int .i64 0, .int .i64 0, .int .i64 0, .slice none 0 0, .int .i64 0, .slice none 0 0, .int .i64 0, .slice none 0 0, .int .i64 0, .int .i64 0, .int .i64 0, .int .i64 0, .slice none 0 0] rfl rfl rfl zeroFw hZ ?_) | fail)
          refine El.ret2 frRow (hZ.set zeroFw _ rfl) rfl rfl rfl rfl #[.int .i64 0, .int .i64 0, .int .i64 0, .int .i64 0, .slice none 0 0, .int .i64 0, .slice none 0 0, .int .i64 0, .slice none 0 0, .int .i64 0, .int .i64 0, .int .i64 0, .int .i64 0, .slice none 0 0] rfl ?_
          exact ⟨zeroFw, false, rfl, ⟨SlV.nil _ _, SlV.nil _ _, SlV.nil _ _, SlV.nil _ _⟩, Or.inr ⟨HPN.out, rfl, rfl⟩, below_setRow hB hn2 _⟩
        | true =>
          have hPS : PF = some y.x := by rw [← HGD.out.1, if_pos HNV.out]
          have HPS := Lib.hid hPS
          clear hPS
          go_wp2_with (first | (refine El.load frRow rfl _ rfl n7 0 rfl y hE.at #[.int .i64 y.x.a, .int .i64 y.x.b, .int .i64 y.x.boot, .int .i64 y.x.first, .slice y.oA y.x.os.length y.oc, .int .i64 y.x.pos, .slice y.rA y.x.rs.length y.rc, .int .i64 y.x.start, .slice y.eA y.x.es.length y.ec, .int .i64 y.x.ack, .int .i64 y.x.grant, .int .i64 y.x.s, .int .i64 y.x.t, .slice y.gA y.x.gs.length y.gc] rfl ?_) | (refine El.store frRow rfl _ _ rfl n2 y #[.int .i64 y.x.a, .int .i64 y.x.b, .int .i64 y.x.boot, .int .i64 y.x.first, .slice y.oA y.x.os.length y.oc, .int .i64 y.x.pos, .slice y.rA y.x.rs.length y.rc, .int .i64 y.x.start, .slice y.eA y.x.es.length y.ec, .int .i64 y.x.ack, .int .i64 y.x.grant, .int .i64 y.x.s, .int .i64 y.x.t, .slice y.gA y.x.gs.length y.gc] rfl rfl rfl zeroFw hZ ?_) | fail)
          refine El.ret2 frRow (hZ.set y _ rfl) rfl rfl rfl rfl #[.int .i64 y.x.a, .int .i64 y.x.b, .int .i64 y.x.boot, .int .i64 y.x.first, .slice y.oA y.x.os.length y.oc, .int .i64 y.x.pos, .slice y.rA y.x.rs.length y.rc, .int .i64 y.x.start, .slice y.eA y.x.es.length y.ec, .int .i64 y.x.ack, .int .i64 y.x.grant, .int .i64 y.x.s, .int .i64 y.x.t, .slice y.gA y.x.gs.length y.gc] rfl ?_
          exact ⟨y, true, rfl, (hok.keepN (by_row _ n2 _) hnV).ok, Or.inl ⟨HPS.out, rfl⟩, below_setRow hB hn2 _⟩
    · have hPN : PF = none := by
        have h := HU.out
        rw [if_neg (fun hh => by have := hh.2; omega)] at h
        exact h.symm
      have HPN := Lib.hid hPN
      clear HU HSZ hts8 hts hPN
      have f2 : decide ((t.size : Int) ≤ 65536) = false := decide_eq_false (by omega)
      rw [f2] at CL
      clear f2 h6
      go_wp2_with fail
      refine (CL.out _).mono ?_
      rintro e w2 ⟨rfl, rfl⟩
      clear CL
      go_wp2_with (first | (refine El.store frRow rfl _ _ rfl n2 zeroFw #[.int .i64 0, .int .i64 0, .int .i64 0, .int .i64 0, .slice none 0 0, .int .i64 0, .slice none 0 0, .int .i64 0, .slice none 0 0, .int .i64 0, .int .i64 0, .int .i64 0, .int .i64 0, .slice none 0 0] rfl rfl rfl zeroFw hZ ?_) | fail)
      refine El.ret2 frRow (hZ.set zeroFw _ rfl) rfl rfl rfl rfl #[.int .i64 0, .int .i64 0, .int .i64 0, .int .i64 0, .slice none 0 0, .int .i64 0, .slice none 0 0, .int .i64 0, .slice none 0 0, .int .i64 0, .int .i64 0, .int .i64 0, .int .i64 0, .slice none 0 0] rfl ?_
      exact ⟨zeroFw, false, rfl, ⟨SlV.nil _ _, SlV.nil _ _, SlV.nil _ _, SlV.nil _ _⟩, Or.inr ⟨HPN.out, rfl, rfl⟩, below_setRow hB hn2 _⟩
  · have hPN : PF = none := by
      have h := HU.out
      rw [if_neg (fun hh => h1 hh.1)] at h
      exact h.symm
    have HPN := Lib.hid hPN
    clear HU HSZ hPN
    have g1 : (c == (s.size : Int)) = false := beq_eq_false_iff_ne.2 h1
    have g2 : (c != (s.size : Int)) = true := by simp [h1]
    have g3 : decide (c = (s.size : Int)) = false := decide_eq_false h1
    have g4 : decide (¬ c = (s.size : Int)) = true := decide_eq_true h1
    clear h1
    go_wp2_with (first | (refine El.store frRow rfl _ _ rfl n2 zeroFw #[.int .i64 0, .int .i64 0, .int .i64 0, .int .i64 0, .slice none 0 0, .int .i64 0, .slice none 0 0, .int .i64 0, .slice none 0 0, .int .i64 0, .int .i64 0, .int .i64 0, .int .i64 0, .slice none 0 0] rfl rfl rfl zeroFw hZ ?_) | fail)
    refine El.ret2 frRow (hZ.set zeroFw _ rfl) rfl rfl rfl rfl #[.int .i64 0, .int .i64 0, .int .i64 0, .int .i64 0, .slice none 0 0, .int .i64 0, .slice none 0 0, .int .i64 0, .slice none 0 0, .int .i64 0, .int .i64 0, .int .i64 0, .int .i64 0, .slice none 0 0] rfl ?_
    exact ⟨zeroFw, false, rfl, ⟨SlV.nil _ _, SlV.nil _ _, SlV.nil _ _, SlV.nil _ _⟩, Or.inr ⟨HPN.out, rfl, rfl⟩, below_setRow hB hn2 _⟩

theorem frameCalls : FrameCalls where
  right y w hw hok := frRight_any y w hw hok
  rightGift g w hs := gfRight_any g w hs
  print y w hL hw hok := frPrint_any y w hL hw hok
  parse s w hL hs := frParse_any s w hL hs
  printGift g w hw := gfPrint_any g w hw
  readGift _ _ _ _ _ hs hp hr := gfRead_uni hs hp hr
end Go.Proofs.YtndahomgglpdhaaDoor
