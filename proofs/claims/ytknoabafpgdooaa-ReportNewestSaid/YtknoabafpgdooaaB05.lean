/- Texts laid one behind the other: Is, Ij. -/
import Derived.Test.YtknoabafpgdooaaB04
import Derived.Test.YtknoabafpgdooaaRows
import Derived.Deep.RegionHeld3
/- The program's reports: Print, Read; all calls. -/
namespace Go.Proofs.Ytknoabafpgdooaa
open Go.RowKit Nam Cod

set_option maxRecDepth 100000 in
set_option maxHeartbeats 4000000 in
theorem rpPrint_any (r : Rp) (w : World) (hw : RpW r) : Calls Try.prog 13 #[.agg #[.int .i64 r.d, .int .i64 r.i, .int .i64 r.b, .int .i64 r.t, .int .i64 r.m, .int .i64 r.p, .int .i64 r.c, .int .i64 r.s, .int .i64 r.k]] w fun e w' => e = .returned (.string (rpBytes r)) ∧ Below w.heap.size w w' := by
  have hP : rpE.In ((w.alloc (.cells #[.int .i64 r.d, .int .i64 r.i, .int .i64 r.b, .int .i64 r.t, .int .i64 r.m, .int .i64 r.p, .int .i64 r.c, .int .i64 r.s, .int .i64 r.k] 23)).alloc (.cells #[.pointer none, .slice none 0 0] 48)) w.heap.size r := (El.In.new (E := rpE) w r _ rfl).alloc _
  have hbd := builder_new (w.alloc (.cells #[.int .i64 r.d, .int .i64 r.i, .int .i64 r.b, .int .i64 r.t, .int .i64 r.m, .int .i64 r.p, .int .i64 r.c, .int .i64 r.s, .int .i64 r.k] 23))
  have hB := below_alloc (below_alloc (Below.refl w.heap.size w) (.cells #[.int .i64 r.d, .int .i64 r.i, .int .i64 r.b, .int .i64 r.t, .int .i64 r.m, .int .i64 r.p, .int .i64 r.c, .int .i64 r.s, .int .i64 r.k] 23)) (.cells #[.pointer none, .slice none 0 0] 48)
  have hL : w.heap.size + 1 < ((w.alloc (.cells #[.int .i64 r.d, .int .i64 r.i, .int .i64 r.b, .int .i64 r.t, .int .i64 r.m, .int .i64 r.p, .int .i64 r.c, .int .i64 r.s, .int .i64 r.k] 23)).alloc (.cells #[.pointer none, .slice none 0 0] 48)).heap.size := by rw [alloc_size, alloc_size]; omega
  rw [alloc_size] at hbd
  have HW := Lib.hid hw
  have CF := Lib.hid (fun wx => fieldsOf_any r wx)
  clear hw
  go_enter Try.func13, Try.ntmps13
  go_upto_region 2 with fail
  generalize (w.alloc (.cells #[.int .i64 r.d, .int .i64 r.i, .int .i64 r.b, .int .i64 r.t, .int .i64 r.m, .int .i64 r.p, .int .i64 r.c, .int .i64 r.s, .int .i64 r.k] 23)).alloc (.cells #[.pointer none, .slice none 0 0] 48) = W at *
  obtain ⟨nb, hnb⟩ : ∃ n, w.heap.size + 1 = n := ⟨_, rfl⟩
  obtain ⟨n1, hn1⟩ : ∃ n, w.heap.size = n := ⟨_, rfl⟩
  have hwb : w.heap.size ≤ nb := by omega
  rw [hnb] at hbd hL ⊢
  rw [hn1] at hP ⊢
  clear hn1 hnb
  go_wp2_with (first | (refine El.load rpRow rfl _ rfl n1 0 rfl r hP.at #[.int .i64 r.d, .int .i64 r.i, .int .i64 r.b, .int .i64 r.t, .int .i64 r.m, .int .i64 r.p, .int .i64 r.c, .int .i64 r.s, .int .i64 r.k] rfl ?_) | fail)
  refine (CF.out _).mono ?_
  rintro e w2 ⟨rfl, hb2⟩
  replace hbd := builder_below hbd hb2
  replace hB := below_then hB hb2
  replace hL := Nat.lt_of_lt_of_le hL hb2.size
  clear hb2 hP CF
  go_wp2_with fail
  have hbd0 : Lib.IsBuilder 48 5 nb nb (Lib.strCells (catN ((rpL r).take 0))) w2 := hbd
  clear hbd hL
  go_loopw [8] (fun i wr => ∃ k : Nat, k ≤ 9 ∧ i = .int .i64 k ∧ Lib.IsBuilder 48 5 nb nb (Lib.strCells (catN ((rpL r).take k))) wr ∧ Below w.heap.size w wr) (fun i _ => 9 - (intOf i).toNat)
  case atStart => exact ⟨0, Nat.zero_le _, rfl, hbd0, hB⟩
  case round =>
    clear hbd0 hB
    obtain ⟨k, hk, rfl, hbd, hB⟩ := hrel
    have hlt : nb < wr.heap.size := by rcases hbd with h | h <;> exact h.lt
    by_cases hkl : k < 9
    · have hx := fun wx => idxFd r wx k hkl
      have hi := rp9_i64 HW.out hkl
      have HNX := Lib.hid (rp9_next r hkl)
      have hle := catN_le ((rpL r).take k) (fun n hn => HW.out n (List.mem_of_mem_take hn))
      rw [List.length_take] at hle
      generalize (rpL r).getD k 0 = n at *
      have C := Lib.hid (fun wx => num_any n wx hi.1 hi.2)
      have hz : (bytesOf n).size ≤ 10 := by rw [bytesOf_size]; exact enc_ten _ (fold_lt n hi.1 hi.2)
      generalize catN ((rpL r).take k) = T at *
      generalize bytesOf n = x at *
      have hT : T.size ≤ 90 := by omega
      clear hi hle
      go_wp2_with fail
      refine (C.out _).mono ?_
      rintro e w3 ⟨rfl, hb3⟩
      replace hbd := builder_below hbd hb3
      replace hB := below_then hB hb3
      replace hlt := Nat.lt_of_lt_of_le hlt hb3.size
      clear hb3
      go_wp2_with fail
      refine (wstr_any nb nb _ x _ hbd (by simp only [Lib.strCells_length]; omega) (Nat.le_of_lt hlt)).mono ?_
      rintro e w4 ⟨rfl, hbd4, hN4, _⟩
      rw [← strCells_app, ← HNX.out] at hbd4
      replace hB := hB.trans (hN4.mono hwb)
      go_wp2_with fail
      exact ⟨⟨k + 1, by omega, by go_num, hbd4, hB⟩, by simp [intOf]; omega⟩
    · obtain rfl : k = 9 := by omega
      have C := builder_String_any nb nb (L (catN ((rpL r).take 9))) wr hbd (Nat.le_of_lt hlt)
      have he : (⟨(L (catN ((rpL r).take 9))).toArray⟩ : ByteArray) = rpBytes r := back_L _
      rw [he] at C
      have HC := Lib.hid C
      clear C he hbd
      go_wp2_with fail
      refine HC.out.mono ?_
      rintro e w5 ⟨rfl, hb5⟩
      go_wp2_with fail
      go_ret
      exact ⟨rfl, hB.trans (hb5.mono hwb)⟩

theorem isNums_none9 {s : ByteArray} {p k : Nat} (hk : k ≤ 9) (h : isNums s k p = none) : isNums s 9 p = none := by
  have := isNums_none s p k h (9 - k)
  rw [show k + (9 - k) = 9 by omega] at this; exact this
/-- Behind k numbers: all read, or it went wrong. -/
def fdState (s : ByteArray) (p : Nat) (bad : Bool) (k : Nat) (x : Rp) (q : Nat) (b : Bool) : Prop := (b = false ∧ bad = false ∧ isNums s k p = some ((rpL x).take k, q)) ∨ (b = true ∧ isRp s p bad = none)
theorem fdState.zero (s : ByteArray) (p : Nat) (bad : Bool) (x : Rp) : fdState s p bad 0 x p bad := by
  cases bad
  · exact Or.inl ⟨rfl, rfl, rfl⟩
  · exact Or.inr ⟨rfl, rfl⟩
theorem fdState.next {s : ByteArray} {p : Nat} {bad : Bool} {k : Nat} {x : Rp} {q : Nat} {b : Bool} {v : Int} {q' : Nat} {b' : Bool} (hk : k < 9) (h : fdState s p bad k x q b) (hs : numStep s q b v q' b') : fdState s p bad (k + 1) (setF x k v) q' b' := by
  rcases h with ⟨rfl, rfl, hn⟩ | ⟨rfl, hn⟩
  · rcases hs with ⟨h1, rfl⟩ | ⟨h1, _, rfl⟩
    · refine Or.inl ⟨rfl, rfl, ?_⟩
      rw [isNums_next, hn, Option.bind_some, h1, Option.bind_some, setF_take x v k hk]
    · refine Or.inr ⟨rfl, ?_⟩
      have h2 : isNums s (k + 1) p = none := by rw [isNums_next, hn, Option.bind_some, h1]; rfl
      unfold isRp
      rw [if_neg (by decide), isNums_none9 (by omega) h2]; rfl
  · rcases hs with ⟨h1, _⟩ | ⟨_, _, rfl⟩
    · rw [isNum_bad] at h1; cases h1
    · exact Or.inr ⟨rfl, hn⟩
theorem fdState.last {s : ByteArray} {p : Nat} {bad : Bool} {x : Rp} {q : Nat} (h : fdState s p bad 9 x q false) : isRp s p bad = if rpB x = true then some (x, q) else none := by
  rcases h with ⟨_, rfl, hn⟩ | ⟨h, _⟩
  · unfold isRp
    rw [if_neg (by decide), hn, Option.bind_some]
    rfl
  · cases h
theorem fdState.ill {s : ByteArray} {p : Nat} {bad : Bool} {x : Rp} {q : Nat} (h : fdState s p bad 9 x q true) : isRp s p bad = none := by
  rcases h with ⟨h, _⟩ | ⟨_, h⟩
  · cases h
  · exact h
set_option maxRecDepth 100000 in
set_option maxHeartbeats 4000000 in
theorem rpRead_uni (w : World) (b p : Nat) (s : ByteArray) (bad : Bool) (hs : s.size ≤ 1000000) (hp : p ≤ s.size) (hr : Rd 34 w b s p bad) :
    Calls Try.prog 18 #[.pointer (some ⟨b, 0, none⟩)] w fun e w' => ∃ (x : Rp) (q : Nat) (bad' : Bool), e = .returned (.agg #[.int .i64 x.d, .int .i64 x.i, .int .i64 x.b, .int .i64 x.t, .int .i64 x.m, .int .i64 x.p, .int .i64 x.c, .int .i64 x.s, .int .i64 x.k]) ∧ Rd 34 w' b s q bad' ∧ q ≤ s.size ∧ w.grownBy w' (some b) ∧ rpStep s p bad x q bad' := by
  have hbw := hr.lt
  go_enter Try.func18, Try.ntmps18
  go_upto_region 2 with fail
  have hZ : rpE.In ((w.alloc (.cells #[.int .i64 0, .int .i64 0, .int .i64 0, .int .i64 0, .int .i64 0, .int .i64 0, .int .i64 0, .int .i64 0, .int .i64 0] 23)).alloc (.cells #[.int .i64 0, .int .i64 0, .int .i64 0, .int .i64 0, .int .i64 0, .int .i64 0, .int .i64 0, .int .i64 0, .int .i64 0] 41)) w.heap.size zeroRp := (El.In.new (E := rpE) w zeroRp #[.int .i64 0, .int .i64 0, .int .i64 0, .int .i64 0, .int .i64 0, .int .i64 0, .int .i64 0, .int .i64 0, .int .i64 0] rfl).alloc _
  have hY := two_fd w #[.int .i64 0, .int .i64 0, .int .i64 0, .int .i64 0, .int .i64 0, .int .i64 0, .int .i64 0, .int .i64 0, .int .i64 0] 23
  have hB := below_alloc (below_alloc (Below.refl w.heap.size w) (.cells #[.int .i64 0, .int .i64 0, .int .i64 0, .int .i64 0, .int .i64 0, .int .i64 0, .int .i64 0, .int .i64 0, .int .i64 0] 23)) (.cells #[.int .i64 0, .int .i64 0, .int .i64 0, .int .i64 0, .int .i64 0, .int .i64 0, .int .i64 0, .int .i64 0, .int .i64 0] 41)
  have hR := hr.below hB
  have hG := by_below hB (some b)
  obtain ⟨n3, h3⟩ : ∃ n, w.heap.size + 1 = n := ⟨_, rfl⟩
  obtain ⟨n2, h2⟩ : ∃ n, w.heap.size = n := ⟨_, rfl⟩
  have hn2 : w.heap.size ≤ n2 := by omega
  have hwn : w.heap.size ≤ n3 := by omega
  have e2 : b ≠ n2 := by omega
  have e3 : b ≠ n3 := by omega
  have e4 : n2 ≠ n3 := by omega
  have i2 : some n2 ≠ some b := fun e => e2 (Option.some.inj e).symm
  have i3 : some n3 ≠ some b := fun e => e3 (Option.some.inj e).symm
  generalize (w.alloc (.cells #[.int .i64 0, .int .i64 0, .int .i64 0, .int .i64 0, .int .i64 0, .int .i64 0, .int .i64 0, .int .i64 0, .int .i64 0] 23)).alloc (.cells #[.int .i64 0, .int .i64 0, .int .i64 0, .int .i64 0, .int .i64 0, .int .i64 0, .int .i64 0, .int .i64 0, .int .i64 0] 41) = W0 at *
  rw [h3] at hY ⊢
  rw [h2] at hZ ⊢
  clear h2 h3 hB hr
  have HS0 := Lib.hid (fdState.zero s p bad zeroRp)
  go_wp2_with fail
  go_loopw [5] (fun i wr => ∃ (k : Nat) (x : Rp) (q : Nat) (b' : Bool), k ≤ 9 ∧ i = .int .i64 k ∧ rpE.In wr n2 zeroRp ∧ fdE.In wr n3 x ∧ Rd 34 wr b s q b' ∧ q ≤ s.size ∧ w.grownBy wr (some b) ∧ Hid (fdState s p bad k x q b')) (fun i _ => 9 - (intOf i).toNat)
  case atStart => exact ⟨0, zeroRp, p, bad, Nat.zero_le _, rfl, hZ, hY, hR, hp, hG, HS0⟩
  case round =>
    clear hZ hY hR hp hG HS0
    obtain ⟨k, x, q, b', hk, rfl, hZ, hY, hR, hq, hG, HS⟩ := hrel
    by_cases hkl : k < 9
    · go_wp2_with fail
      refine (num_uni hs hq hR).mono ?_
      rintro e w1 ⟨v, q', b1, rfl, hR1, hq1, hg, st⟩
      have HS1 := Lib.hid (HS.out.next hkl st)
      replace hZ := hZ.keep hg i2
      replace hY := hY.keep hg i3
      replace hG := by_trans hG hg
      clear hg hR HS st
      have c0 := fdCell hY k hkl
      have cf := hY.frozen k
      have hY1 : fdE.In (w1.setCell ⟨n3, k, none⟩ (.int .i64 v)) n3 (setF x k v) := hY.put _ k _ (setF_c x v k hkl)
      replace hZ := hZ.other n3 k (.int .i64 v) e4
      replace hR1 := hR1.other n3 k (.int .i64 v) e3
      replace hG := by_setNew hG n3 k (.int .i64 v) hwn
      generalize (rpL x).getD k 0 = y at *
      clear hY
      go_wp2_with fail
      exact ⟨⟨k + 1, setF x k v, q', b1, by omega, by go_num, hZ, hY1, hR1, hq1, hG, HS1⟩, by simp [intOf]; omega⟩
    · obtain rfl : k = 9 := by omega
      clear hkl hk
      obtain ⟨r0, r1, r2⟩ := hR.cells
      have rf := hR.frozen
      cases b'
      · have hst := HS.out.last
        have CR := Lib.hid (fun wx => fdRight_any x wx)
        cases hN : rpB x
        · rw [hN, if_neg (by decide)] at hst
          rw [hN] at CR
          have HG := Lib.hid hst
          clear hst hN
          obtain ⟨y0, y1, y2, y3, y4, y5, y6, y7, y8⟩ := fdIn9 hY
          go_wp2_with fail
          clear y0 y1 y2 y3 y4 y5 y6 y7 y8
          refine (CR.out _).mono ?_
          rintro r w5 ⟨rfl, hb5⟩
          replace hZ := hZ.below hb5
          replace hR := hR.below hb5
          replace hG := by_trans hG (by_below hb5 _)
          clear hb5 r0 r1 r2 rf hY
          obtain ⟨r0, r1, r2⟩ := hR.cells
          have rf := hR.frozen
          have hR2 := hR.setBad
          have hG2 := by_set hG 2 (.bool true)
          replace hZ := hZ.other b 2 (.bool true) (fun e => e2 e.symm)
          clear hR hG
          go_upto_region 9 with fail
          clear r0 r1 r2 rf
          generalize w5.setCell ⟨b, 2, none⟩ (.bool true) = W9 at *
          go_wp2_with (first | (refine El.store rpRow rfl _ _ rfl n2 zeroRp #[.int .i64 0, .int .i64 0, .int .i64 0, .int .i64 0, .int .i64 0, .int .i64 0, .int .i64 0, .int .i64 0, .int .i64 0] rfl rfl rfl zeroRp hZ ?_) | fail)
          refine El.ret1 rpRow (hZ.set zeroRp _ rfl) rfl rfl rfl #[.int .i64 0, .int .i64 0, .int .i64 0, .int .i64 0, .int .i64 0, .int .i64 0, .int .i64 0, .int .i64 0, .int .i64 0] rfl ?_
          exact ⟨zeroRp, q, true, rfl, hR2.row n2 _ e2, hq, by_setRow hG2 n2 _ hn2, Or.inr ⟨HG.out, rfl, rfl⟩⟩
        · rw [hN, if_pos rfl] at hst
          rw [hN] at CR
          have HG := Lib.hid hst
          clear hst hN
          obtain ⟨y0, y1, y2, y3, y4, y5, y6, y7, y8⟩ := fdIn9 hY
          go_wp2_with fail
          clear y0 y1 y2 y3 y4 y5 y6 y7 y8
          refine (CR.out _).mono ?_
          rintro r w5 ⟨rfl, hb5⟩
          replace hZ := hZ.below hb5
          replace hY := hY.below hb5
          replace hR := hR.below hb5
          replace hG := by_trans hG (by_below hb5 _)
          clear hb5 r0 r1 r2 rf
          have CT := Lib.hid (fun wx => report_any x wx)
          go_wp2_with (first | (refine El.load fdRow rfl _ rfl n3 0 rfl x hY.at #[.int .i64 x.d, .int .i64 x.i, .int .i64 x.b, .int .i64 x.t, .int .i64 x.m, .int .i64 x.p, .int .i64 x.c, .int .i64 x.s, .int .i64 x.k] rfl ?_) | fail)
          refine (CT.out _).mono ?_
          rintro r w6 ⟨rfl, hb6⟩
          replace hZ := hZ.below hb6
          replace hR := hR.below hb6
          replace hG := by_trans hG (by_below hb6 _)
          clear hb6 hY
          go_wp2_with (first | (refine El.store rpRow rfl _ _ rfl n2 x #[.int .i64 x.d, .int .i64 x.i, .int .i64 x.b, .int .i64 x.t, .int .i64 x.m, .int .i64 x.p, .int .i64 x.c, .int .i64 x.s, .int .i64 x.k] rfl rfl rfl zeroRp hZ ?_) | fail)
          refine El.ret1 rpRow (hZ.set x _ rfl) rfl rfl rfl #[.int .i64 x.d, .int .i64 x.i, .int .i64 x.b, .int .i64 x.t, .int .i64 x.m, .int .i64 x.p, .int .i64 x.c, .int .i64 x.s, .int .i64 x.k] rfl ?_
          exact ⟨x, q, false, rfl, hR.row n2 _ e2, hq, by_setRow hG n2 _ hn2, Or.inl ⟨HG.out, rfl⟩⟩
      · have HG := Lib.hid HS.out.ill
        clear hY HS
        have hR2 := hR.setBad
        have hG2 := by_set hG 2 (.bool true)
        replace hZ := hZ.other b 2 (.bool true) (fun e => e2 e.symm)
        clear hR hG
        go_upto_region 9 with fail
        clear r0 r1 r2 rf
        generalize wr.setCell ⟨b, 2, none⟩ (.bool true) = W9 at *
        go_wp2_with (first | (refine El.store rpRow rfl _ _ rfl n2 zeroRp #[.int .i64 0, .int .i64 0, .int .i64 0, .int .i64 0, .int .i64 0, .int .i64 0, .int .i64 0, .int .i64 0, .int .i64 0] rfl rfl rfl zeroRp hZ ?_) | fail)
        refine El.ret1 rpRow (hZ.set zeroRp _ rfl) rfl rfl rfl #[.int .i64 0, .int .i64 0, .int .i64 0, .int .i64 0, .int .i64 0, .int .i64 0, .int .i64 0, .int .i64 0, .int .i64 0] rfl ?_
        exact ⟨zeroRp, q, true, rfl, hR2.row n2 _ e2, hq, by_setRow hG2 n2 _ hn2, Or.inr ⟨HG.out, rfl, rfl⟩⟩

theorem reportCalls : ReportCalls where
  right r w := rpRight_any r w
  newer a b w := rpNewer_any a b w
  merge A c l r w hl hT := rpMerge_any A c l r w hl hT
  print r w hw := rpPrint_any r w hw
  read w b p s bad hs hp hr := rpRead_uni w b p s bad hs hp hr
end Go.Proofs.Ytknoabafpgdooaa

/- ReportMerges, given the program's calls: any reports, merged one by one, are the document's. -/
namespace Go.Proofs.Ytknoabafpgdooaa
open Go.ChangeShapes Go.WideShapes Go.ChangeAt Go.RowKit Go.Deep Cod

theorem foldR_next (l : List Rp) (k : Nat) (h : k < l.length) : foldR (l.take (k + 1)) = mergeR (foldR (l.take k)) l[k] := by
  rw [List.take_succ_eq_append_getElem h, foldR_snoc]
theorem foldR_len (l : List Rp) : ∀ k, (foldR (l.take k)).length ≤ k
  | 0 => by rw [List.take_zero]; exact Nat.le_refl _
  | k + 1 => by
    by_cases h : k < l.length
    · rw [foldR_next l k h]
      have := mergeR_len (foldR (l.take k)) l[k]
      have := foldR_len l k
      omega
    · rw [List.take_of_length_le (by omega)]
      have h2 := foldR_len l k
      rw [List.take_of_length_le (by omega)] at h2
      omega
set_option maxRecDepth 100000 in
set_option maxHeartbeats 2000000 in
theorem merges14_no (H : ReportCalls) (A : Option Addr) (c : Nat) (l : List Rp) (w : World) (h : 60 < l.length) : Calls Try.prog 4 #[.slice A l.length c] w fun r w' => r = .returned (.bool true) ∧ Below w.heap.size w w' := by
  go_enter Try.func4, Try.ntmps4
  go_wp2_with fail
  refine (awake14_any H _).mono ?_
  rintro r w1 ⟨rfl, hb1⟩
  go_wp2_with fail
  go_ret
  exact ⟨rfl, hb1⟩
set_option maxRecDepth 100000 in
set_option maxHeartbeats 4000000 in
theorem merges14_yes (H : ReportCalls) (A : Option Addr) (c : Nat) (l : List Rp) (w : World) (hT : rpE.Sl w A l) (h : l.length ≤ 60) : Calls Try.prog 4 #[.slice A l.length c] w fun r w' => r = .returned (.bool true) ∧ Below w.heap.size w w' := by
  have HA := Lib.hid (fun (wx : World) => awake14_any H wx)
  have HH := Lib.hid H
  clear H
  go_enter Try.func4, Try.ntmps4
  go_wp2_with fail
  have h0 : SlV rpE w none 0 (foldR (l.take 0)) := by rw [List.take_zero]; exact SlV.nil rpE _
  have hB0 := Below.refl w.heap.size w
  go_loopw [3, 4, 5] (fun x y z wr => ∃ (k : Nat) (A1 A2 : Option Addr) (c1 c2 : Nat), k ≤ l.length ∧ x = .slice A1 (foldR (l.take k)).length c1 ∧ y = .slice A2 (foldR (l.take k)).length c2 ∧ z = .int .i64 k ∧ SlV rpE wr A1 c1 (foldR (l.take k)) ∧ SlV rpE wr A2 c2 (foldR (l.take k)) ∧ Below w.heap.size w wr) (fun _ _ z _ => l.length - (intOf z).toNat)
  case atStart => exact ⟨0, none, none, 0, 0, Nat.zero_le _, by rw [List.take_zero]; rfl, by rw [List.take_zero]; rfl, rfl, h0, h0, hB0⟩
  case round =>
    clear h0 hB0
    obtain ⟨k, A1, A2, c1, c2, hk, rfl, rfl, rfl, hS1, hS2, hN⟩ := hrel
    by_cases hkl : k < l.length
    · obtain ⟨b, off, rfl, hbw, hc⟩ := hT (by omega)
      have hat : rpE.At wr b (off + k * 9) l[k] := (hc k hkl).below hN hbw
      have hbr := Nat.lt_of_lt_of_le hbw hN.size
      have hnx := foldR_next l k hkl
      have hln := foldR_len l k
      obtain ⟨x, hx⟩ : ∃ x, l[k] = x := ⟨_, rfl⟩
      rw [hx] at hat hnx
      generalize foldR (l.take k) = L at *
      have hml := mergeR_len L x
      have HM := Lib.hid (fun (wx : World) (g : SlV rpE wx A1 c1 L) => HH.out.merge A1 c1 L x wx (by omega) g)
      have HRM := Lib.hid (fun (wx : World) (g : SlV rpE wx A2 c2 L) => refRpMerge_any A2 c2 L x wx (by omega) g)
      have HNX := Lib.hid hnx
      obtain ⟨M, hM⟩ : ∃ M, mergeR L x = M := ⟨_, rfl⟩
      rw [hM] at HM HRM HNX hml
      have HML := Lib.hid (show M.length ≤ 100000 by omega)
      clear hc hx hnx hM hml hln
      go_wp2_with fail
      replace hat : rpE.At wr.drew b (off + k * 9) x := hat
      replace hS1 : SlV rpE wr.drew A1 c1 L := hS1
      replace hS2 : SlV rpE wr.drew A2 c2 L := hS2
      replace hN := hN.drew
      replace hbr : b < wr.drew.heap.size := hbr
      go_region_held3 (fun w' => w'.cell? ⟨b, off + k * 9, none⟩ = some (.int .i64 x.d) ∧ w'.cell? ⟨b, off + k * 9 + 1, none⟩ = some (.int .i64 x.i) ∧ w'.cell? ⟨b, off + k * 9 + 2, none⟩ = some (.int .i64 x.b) ∧ w'.cell? ⟨b, off + k * 9 + 3, none⟩ = some (.int .i64 x.t) ∧ w'.cell? ⟨b, off + k * 9 + 4, none⟩ = some (.int .i64 x.m) ∧ w'.cell? ⟨b, off + k * 9 + 5, none⟩ = some (.int .i64 x.p) ∧ w'.cell? ⟨b, off + k * 9 + 6, none⟩ = some (.int .i64 x.c) ∧ w'.cell? ⟨b, off + k * 9 + 7, none⟩ = some (.int .i64 x.s) ∧ w'.cell? ⟨b, off + k * 9 + 8, none⟩ = some (.int .i64 x.k)) (with_reducible exact rpAt9 hat) (first | (go_at_call 15; (with_reducible refine (HM.out _ hS1).mono ?_); rintro e w5 ⟨A3, c3, rfl, hS3, hb5⟩; have hat := hat.below hb5 hbr; have hbr := Nat.lt_of_lt_of_le hbr hb5.size; have hS2 := hS2.below hb5; have hN := below_then hN hb5) | (go_at_call 16; (with_reducible refine (HRM.out _ hS2).mono ?_); rintro e w5 ⟨A4, c4, rfl, hS4, hb5⟩; have hat := hat.below hb5 hbr; have hbr := Nat.lt_of_lt_of_le hbr hb5.size; have hS3 := hS3.below hb5; have hN := below_then hN hb5))
      all_goals
        have CS := Lib.hid (refSameRp_any A3 A4 c3 c4 M _ hS3.1 hS4.1 HML.out)
        go_wp2_with fail
        refine CS.out.mono ?_
        rintro e w6 ⟨rfl, hb6⟩
        clear CS
        go_wp2_with fail
        exact ⟨⟨k + 1, A3, A4, c3, c4, by omega, by rw [HNX.out], by rw [HNX.out], by go_num, by rw [HNX.out]; exact hS3.below hb6, by rw [HNX.out]; exact hS4.below hb6, below_then hN hb6⟩, by simp [intOf]; omega⟩
    · obtain rfl : k = l.length := by omega
      clear hS1 hS2
      go_wp2_with fail
      refine (HA.out _).mono ?_
      rintro r w1 ⟨rfl, hb1⟩
      go_wp2_with fail
      go_ret
      exact ⟨rfl, below_then hN hb1⟩
set_option maxRecDepth 100000 in
theorem merges14_lifted (H0 : ReportCalls) (os : Os) (started : os.Started) (H : Type) (enc : TypeId × Value → H) :
    ReturnsInHanded {} Try.checked os 4 .any (Rows.reportMergesSpec.pre6 enc Try.prog Try.f4 Rows.reportMergesRow.domain false) (Rows.reportMergesSpec.post enc Try.prog Try.f4 false true false false) := by
  refine returnsInHanded_of_change (C := Try.checked) own started (by kernel_rfl) Try.func4
    (ChangeSpec.witness6 (enc := enc) (C := Try.checked) false ⟨#[], #[.slice none 0 0], []⟩ 8 (by kernel_rfl) (by kernel_rfl) (by kernel_rfl) (by kernel_rfl)) ?_
  intro W base args ds gs before hval0 hW _ _
  have hval : ∀ (j : Nat) t v, Try.f4.params[j]? = some t → args[j]? = some v → Value.okWide Try.prog W .any base t v := hval0
  have hW' := hW
  obtain ⟨p, q, hA0, hV, rfl, _, _⟩ := hW
  have hA : DataW.TrodAll enc Try.prog W 0 (fun _ => true) true Try.f4.params.toList args.toList ds p := hA0
  rw [Try.params4] at hA hval
  obtain ⟨v0, d0, rfl, rfl, h0⟩ := trodAll_one hA
  obtain ⟨A, c, l, rfl, hL, _, _, _⟩ := open_rps (hval 0 28 v0 rfl rfl) h0
  have hc : Calls Try.prog 4 #[.slice A l.length c] W fun e w' => e = .returned (.bool true) ∧ Below W.heap.size W w' := by
    by_cases h : l.length ≤ 60
    · exact merges14_yes H0 A c l W hL h
    · exact merges14_no H0 A c l W (by omega)
  refine hc.mono fun e W' ⟨he, hb⟩ => ?_
  subst he
  exact ⟨_, rfl, Frm.law_post (by kernel_rfl) (by kernel_rfl) (by kernel_rfl) Try.underlying4 rfl rfl hW' hb⟩

theorem merges14_holds (H0 : ReportCalls) : Rows.ReportMergesSaid :=
  OpenClaim.holds_of_wide 4 Try.f4 rfl rfl rfl rfl rfl rfl rfl ⟨rfl, rfl, rfl, rfl, rfl⟩ rfl rfl rfl rfl rfl (by kernel_rfl) Try.func4 (by kernel_rfl)
    (of_decide_eq_true (by kernel_rfl)) (by unfold Func.isWrapper; first | (rw [if_pos (by decide +kernel)]; kernel_rfl) | (rw [if_neg (by decide +kernel)]; exact ⟨rfl, rfl⟩))
    (fun os started H enc _ => merges14_lifted H0 os started H enc)
end Go.Proofs.Ytknoabafpgdooaa
