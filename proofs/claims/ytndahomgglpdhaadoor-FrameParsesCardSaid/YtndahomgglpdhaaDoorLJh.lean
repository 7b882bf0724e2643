/- FrameParses is proved: the frame of any bytes, 5,000 at most, or that they are none's, is the document's. Conditions: the package's table that the sums read lies, when the call begins, as the program's own text lays it (the card ties that). -/
import Derived.Test.YtndahomgglpdhaaDoorB07
import Derived.Deep.CutBlock
import Derived.Test.YtndahomgglpdhaaDoorRows
namespace Go.Proofs.YtndahomgglpdhaaDoor
open Go.RowKit Nam Cod

theorem opT_le (s : ByteArray) : (Crk.opT s).size ≤ s.size := by
  unfold Crk.opT
  split
  · unfold Crk.bodyOf; rw [ByteArray.size_extract]; omega
  · exact Nat.zero_le _
def TnS (n : Nat) (f : Fr) (w : World) : Prop := w.cell? ⟨n, 0, none⟩ = some (.int .i64 f.a) ∧ w.cell? ⟨n, 1, none⟩ = some (.int .i64 f.b) ∧ w.cell? ⟨n, 2, none⟩ = some (.int .i64 f.boot) ∧ w.cell? ⟨n, 3, none⟩ = some (.int .i64 f.first) ∧ w.cell? ⟨n, 4, none⟩ = some (.int .i64 f.pos) ∧ w.cell? ⟨n, 5, none⟩ = some (.int .i64 f.start) ∧ w.cell? ⟨n, 6, none⟩ = some (.int .i64 f.ack) ∧ w.cell? ⟨n, 7, none⟩ = some (.int .i64 f.grant) ∧ w.cell? ⟨n, 8, none⟩ = some (.int .i64 f.s) ∧ w.cell? ⟨n, 9, none⟩ = some (.int .i64 f.t)
theorem tnS {w : World} {n : Nat} {f : Fr} (h : tnE.In w n f) : TnS n f w := ⟨h.cell 0, h.cell 1, h.cell 2, h.cell 3, h.cell 4, h.cell 5, h.cell 6, h.cell 7, h.cell 8, h.cell 9⟩
/-- The numbers are there, the lists not yet. -/
def fwN (f : Fr) : Fw := ⟨none, 0, none, 0, none, 0, none, 0, ⟨f.a, f.b, f.boot, f.first, f.pos, f.start, f.ack, f.grant, f.s, f.t, [], [], [], []⟩⟩
set_option maxRecDepth 100000 in
set_option maxHeartbeats 16000000 in
theorem refParse15_any (s : ByteArray) (w : World) (hs : s.size ≤ 1000000) : Calls Tryd.prog 19 #[.string s] w fun e w' => ∃ (y : Fw) (bv : Bool), e = .returned (.tuple #[.agg #[.int .i64 y.x.a, .int .i64 y.x.b, .int .i64 y.x.boot, .int .i64 y.x.first, .slice y.oA y.x.os.length y.oc, .int .i64 y.x.pos, .slice y.rA y.x.rs.length y.rc, .int .i64 y.x.start, .slice y.eA y.x.es.length y.ec, .int .i64 y.x.ack, .int .i64 y.x.grant, .int .i64 y.x.s, .int .i64 y.x.t, .slice y.gA y.x.gs.length y.gc], .bool bv]) ∧ y.ok w' ∧ Hid ((parseF s = some y.x ∧ bv = true) ∨ (parseF s = none ∧ y.x = zeroFr ∧ bv = false)) ∧ Below w.heap.size w w' := by
  have hZ : frE.In (w.alloc (.cells #[.int .i64 0, .int .i64 0, .int .i64 0, .int .i64 0, .slice none 0 0, .int .i64 0, .slice none 0 0, .int .i64 0, .slice none 0 0, .int .i64 0, .int .i64 0, .int .i64 0, .int .i64 0, .slice none 0 0] 27)) w.heap.size zeroFw := El.In.new (E := frE) w zeroFw _ rfl
  have hB := below_alloc (Below.refl w.heap.size w) (.cells #[.int .i64 0, .int .i64 0, .int .i64 0, .int .i64 0, .slice none 0 0, .int .i64 0, .slice none 0 0, .int .i64 0, .slice none 0 0, .int .i64 0, .int .i64 0, .int .i64 0, .int .i64 0, .slice none 0 0] 27)
  obtain ⟨PF, hPF⟩ : ∃ PF, parseF s = PF := ⟨_, rfl⟩
  rw [hPF]
  have HPF := Lib.hid hPF
  clear hPF
  have hts := opT_le s
  have HO := Lib.hid (fun wx => Crk.refOpen_all s wx hs)
  have HU := Lib.hid (show parseF s = if Crk.opC s = s.size ∧ s.size ≤ 65536 then isBody (Crk.opT s) else none from rfl)
  generalize Crk.opT s = t at *
  generalize Crk.opC s = c at *
  go_enter Tryd.func19, Tryd.ntmps19
  go_upto_region 1 with fail
  generalize w.alloc (.cells #[.int .i64 0, .int .i64 0, .int .i64 0, .int .i64 0, .slice none 0 0, .int .i64 0, .slice none 0 0, .int .i64 0, .slice none 0 0, .int .i64 0, .int .i64 0, .int .i64 0, .int .i64 0, .slice none 0 0] 27) = W0 at *
  obtain ⟨n2, h2⟩ : ∃ n, w.heap.size = n := ⟨_, rfl⟩
  have hn2 : w.heap.size ≤ n2 := by omega
  rw [h2] at hZ ⊢
  clear h2
  go_wp2_with fail
  refine (HO.out _).mono ?_
  rintro e w1 ⟨rfl, hb1⟩
  replace hZ := hZ.below hb1
  replace hB := below_then hB hb1
  clear hb1 HO
  by_cases hc : ¬ (c = s.size ∧ s.size ≤ 65536)
  · have hPN : PF = none := by rw [← HPF.out, HU.out, if_neg hc]
    have HPN := Lib.hid hPN
    have HC := Lib.hid hc
    clear HU HPF hc hPN
    by_cases h1 : c = s.size
    · subst h1
      have h6 : ¬ s.size ≤ 65536 := fun h => HC.out ⟨rfl, h⟩
      have f1 : decide ((65536 : Int) < (s.size : Int)) = true := decide_eq_true (by omega)
      go_wp2_with (first | (refine El.store frRow rfl _ _ rfl n2 zeroFw #[.int .i64 0, .int .i64 0, .int .i64 0, .int .i64 0, .slice none 0 0, .int .i64 0, .slice none 0 0, .int .i64 0, .slice none 0 0, .int .i64 0, .int .i64 0, .int .i64 0, .int .i64 0, .slice none 0 0] rfl rfl rfl zeroFw hZ ?_) | fail)
      refine El.ret2 frRow (hZ.set zeroFw _ rfl) rfl rfl rfl rfl #[.int .i64 0, .int .i64 0, .int .i64 0, .int .i64 0, .slice none 0 0, .int .i64 0, .slice none 0 0, .int .i64 0, .slice none 0 0, .int .i64 0, .int .i64 0, .int .i64 0, .int .i64 0, .slice none 0 0] rfl ?_
      exact ⟨zeroFw, false, rfl, ⟨SlV.nil _ _, SlV.nil _ _, SlV.nil _ _, SlV.nil _ _⟩, Lib.hid (Or.inr ⟨HPN.out, rfl, rfl⟩), below_setRow hB hn2 _⟩
    · have f1 : (c == (s.size : Int)) = false := beq_eq_false_iff_ne.2 h1
      have f2 : (c != (s.size : Int)) = true := by simp [h1]
      have f3 : decide (c = (s.size : Int)) = false := decide_eq_false h1
      have f4 : decide (¬ c = (s.size : Int)) = true := decide_eq_true h1
      clear h1
      go_wp2_with (first | (refine El.store frRow rfl _ _ rfl n2 zeroFw #[.int .i64 0, .int .i64 0, .int .i64 0, .int .i64 0, .slice none 0 0, .int .i64 0, .slice none 0 0, .int .i64 0, .slice none 0 0, .int .i64 0, .int .i64 0, .int .i64 0, .int .i64 0, .slice none 0 0] rfl rfl rfl zeroFw hZ ?_) | fail)
      refine El.ret2 frRow (hZ.set zeroFw _ rfl) rfl rfl rfl rfl #[.int .i64 0, .int .i64 0, .int .i64 0, .int .i64 0, .slice none 0 0, .int .i64 0, .slice none 0 0, .int .i64 0, .slice none 0 0, .int .i64 0, .int .i64 0, .int .i64 0, .int .i64 0, .slice none 0 0] rfl ?_
      exact ⟨zeroFw, false, rfl, ⟨SlV.nil _ _, SlV.nil _ _, SlV.nil _ _, SlV.nil _ _⟩, Lib.hid (Or.inr ⟨HPN.out, rfl, rfl⟩), below_setRow hB hn2 _⟩
  · obtain ⟨rfl, h6⟩ := Classical.not_not.1 hc
    clear hc
    have hPB := HU.out.symm.trans HPF.out
    rw [if_pos ⟨rfl, h6⟩] at hPB
    have HPB := Lib.hid hPB
    clear hPB HU HPF
    have f1 : decide ((65536 : Int) < (s.size : Int)) = false := decide_eq_false (by omega)
    go_upto_region 7 with fail
    clear f1
    have hR0 := Rd.new w1 87 t 0 rfl
    have hR : Rd 87 (((w1.alloc (.cells #[.string t, .int .i64 0, .bool false] 87)).alloc (.cells #[.int .i64 0, .int .i64 0, .int .i64 0, .int .i64 0, .slice none 0 0, .int .i64 0, .slice none 0 0, .int .i64 0, .slice none 0 0, .int .i64 0, .int .i64 0, .int .i64 0, .int .i64 0, .slice none 0 0] 27)).alloc (.cells #[.int .i64 0, .int .i64 0, .int .i64 0, .int .i64 0, .int .i64 0, .int .i64 0, .int .i64 0, .int .i64 0, .int .i64 0, .int .i64 0] 82)) w1.heap.size t 0 false := hR0.below (below_alloc (below_alloc (Below.refl _ _) _) _)
    have hY : frE.In (((w1.alloc (.cells #[.string t, .int .i64 0, .bool false] 87)).alloc (.cells #[.int .i64 0, .int .i64 0, .int .i64 0, .int .i64 0, .slice none 0 0, .int .i64 0, .slice none 0 0, .int .i64 0, .slice none 0 0, .int .i64 0, .int .i64 0, .int .i64 0, .int .i64 0, .slice none 0 0] 27)).alloc (.cells #[.int .i64 0, .int .i64 0, .int .i64 0, .int .i64 0, .int .i64 0, .int .i64 0, .int .i64 0, .int .i64 0, .int .i64 0, .int .i64 0] 82)) (w1.heap.size + 1) zeroFw := by
      have h := El.In.new (E := frE) (w1.alloc (.cells #[.string t, .int .i64 0, .bool false] 87)) zeroFw #[.int .i64 0, .int .i64 0, .int .i64 0, .int .i64 0, .slice none 0 0, .int .i64 0, .slice none 0 0, .int .i64 0, .slice none 0 0, .int .i64 0, .int .i64 0, .int .i64 0, .int .i64 0, .slice none 0 0] rfl
      rw [alloc_size] at h; exact h.alloc _
    have hX : tnE.In (((w1.alloc (.cells #[.string t, .int .i64 0, .bool false] 87)).alloc (.cells #[.int .i64 0, .int .i64 0, .int .i64 0, .int .i64 0, .slice none 0 0, .int .i64 0, .slice none 0 0, .int .i64 0, .slice none 0 0, .int .i64 0, .int .i64 0, .int .i64 0, .int .i64 0, .slice none 0 0] 27)).alloc (.cells #[.int .i64 0, .int .i64 0, .int .i64 0, .int .i64 0, .int .i64 0, .int .i64 0, .int .i64 0, .int .i64 0, .int .i64 0, .int .i64 0] 82)) (w1.heap.size + 1 + 1) zeroFr := by
      have h := El.In.new (E := tnE) ((w1.alloc (.cells #[.string t, .int .i64 0, .bool false] 87)).alloc (.cells #[.int .i64 0, .int .i64 0, .int .i64 0, .int .i64 0, .slice none 0 0, .int .i64 0, .slice none 0 0, .int .i64 0, .slice none 0 0, .int .i64 0, .int .i64 0, .int .i64 0, .int .i64 0, .slice none 0 0] 27)) zeroFr #[.int .i64 0, .int .i64 0, .int .i64 0, .int .i64 0, .int .i64 0, .int .i64 0, .int .i64 0, .int .i64 0, .int .i64 0, .int .i64 0] rfl
      rw [alloc_size, alloc_size] at h; exact h
    have hBV : (((w1.alloc (.cells #[.string t, .int .i64 0, .bool false] 87)).alloc (.cells #[.int .i64 0, .int .i64 0, .int .i64 0, .int .i64 0, .slice none 0 0, .int .i64 0, .slice none 0 0, .int .i64 0, .slice none 0 0, .int .i64 0, .int .i64 0, .int .i64 0, .int .i64 0, .slice none 0 0] 27)).alloc (.cells #[.int .i64 0, .int .i64 0, .int .i64 0, .int .i64 0, .int .i64 0, .int .i64 0, .int .i64 0, .int .i64 0, .int .i64 0, .int .i64 0] 82)).heap.size = w1.heap.size + 1 + 1 + 1 := by rw [alloc_size, alloc_size, alloc_size]
    have hlt2 := hZ.lt
    replace hZ := ((hZ.alloc (.cells #[.string t, .int .i64 0, .bool false] 87)).alloc (.cells #[.int .i64 0, .int .i64 0, .int .i64 0, .int .i64 0, .slice none 0 0, .int .i64 0, .slice none 0 0, .int .i64 0, .slice none 0 0, .int .i64 0, .int .i64 0, .int .i64 0, .int .i64 0, .slice none 0 0] 27)).alloc (.cells #[.int .i64 0, .int .i64 0, .int .i64 0, .int .i64 0, .int .i64 0, .int .i64 0, .int .i64 0, .int .i64 0, .int .i64 0, .int .i64 0] 82)
    have hws := hB.size
    replace hB := below_alloc (below_alloc (below_alloc hB (.cells #[.string t, .int .i64 0, .bool false] 87)) (.cells #[.int .i64 0, .int .i64 0, .int .i64 0, .int .i64 0, .slice none 0 0, .int .i64 0, .slice none 0 0, .int .i64 0, .slice none 0 0, .int .i64 0, .int .i64 0, .int .i64 0, .int .i64 0, .slice none 0 0] 27)) (.cells #[.int .i64 0, .int .i64 0, .int .i64 0, .int .i64 0, .int .i64 0, .int .i64 0, .int .i64 0, .int .i64 0, .int .i64 0, .int .i64 0] 82)
    generalize ((w1.alloc (.cells #[.string t, .int .i64 0, .bool false] 87)).alloc (.cells #[.int .i64 0, .int .i64 0, .int .i64 0, .int .i64 0, .slice none 0 0, .int .i64 0, .slice none 0 0, .int .i64 0, .slice none 0 0, .int .i64 0, .int .i64 0, .int .i64 0, .int .i64 0, .slice none 0 0] 27)).alloc (.cells #[.int .i64 0, .int .i64 0, .int .i64 0, .int .i64 0, .int .i64 0, .int .i64 0, .int .i64 0, .int .i64 0, .int .i64 0, .int .i64 0] 82) = W at *
    clear hR0
    obtain ⟨BB, hBB⟩ : ∃ B, W.heap.size = B := ⟨_, rfl⟩
    rw [hBV] at hBB
    replace hBV : BB ≤ W.heap.size := by omega
    obtain ⟨n8, h8⟩ : ∃ n, w1.heap.size + 1 + 1 = n := ⟨_, rfl⟩
    obtain ⟨n7, h7⟩ : ∃ n, w1.heap.size + 1 = n := ⟨_, rfl⟩
    obtain ⟨b, h6⟩ : ∃ n, w1.heap.size = n := ⟨_, rfl⟩
    rw [h8] at hX ⊢
    rw [h7] at hY ⊢
    rw [h6] at hR ⊢
    have hwb : w.heap.size ≤ b := by omega
    have d1 : n2 < b := by omega
    have d2 : b < n7 := by omega
    have d3 : n7 < n8 := by omega
    have d4 : n8 < BB := by omega
    clear h6 h7 h8 hBB hlt2 hws
    have HS0 := Lib.hid (TSt.zero t zeroFr)
    have htl : t.size ≤ 1000000 := by omega
    go_upto_block 0 with fail
    go_cut [] from 31 to 38 (fun wr => ∃ (x : Fr) (q : Nat) (b' : Bool), frE.In wr n2 zeroFw ∧ frE.In wr n7 zeroFw ∧ tnE.In wr n8 x ∧ Rd 87 wr b t q b' ∧ q ≤ t.size ∧ Below w.heap.size w wr ∧ BB ≤ wr.heap.size ∧ Hid ((b' = false ∧ isNums t 10 0 = some (frL x, q) ∧ isBody t = bod0 t (frL x, q)) ∨ (b' = true ∧ isBody t = none)))
    case first =>
      go_wp2_with fail
      go_loopw [9] (fun i wr => ∃ (k : Nat) (x : Fr) (q : Nat) (b' : Bool), k ≤ 10 ∧ i = .int .i64 k ∧ frE.In wr n2 zeroFw ∧ frE.In wr n7 zeroFw ∧ tnE.In wr n8 x ∧ Rd 87 wr b t q b' ∧ q ≤ t.size ∧ Below w.heap.size w wr ∧ BB ≤ wr.heap.size ∧ Hid (TSt t k x q b')) (fun i _ => 10 - (intOf i).toNat)
      case atStart => exact ⟨0, zeroFr, 0, false, Nat.zero_le _, rfl, hZ, hY, hX, hR, Nat.zero_le _, hB, hBV, HS0⟩
      case round =>
        clear hZ hY hX hR hB hBV HS0
        obtain ⟨k, x, q, b', hk, rfl, hZ, hY, hX, hR, hq, hB, hBV, HS⟩ := hrel
        by_cases hkl : k < 10
        · go_wp2_with fail
          refine (refNum_uni htl hq hR).mono ?_
          rintro e w1 ⟨v, q', b1, rfl, hR1, hq1, hg, st⟩
          have HS1 := Lib.hid (HS.out.next hkl st)
          replace hZ := hZ.keep hg (fun e => by have := Option.some.inj e; omega)
          replace hY := hY.keep hg (fun e => by have := Option.some.inj e; omega)
          replace hX := hX.keep hg (fun e => by have := Option.some.inj e; omega)
          replace hB := below_by hB hg hwb
          replace hBV := Nat.le_trans hBV hg.size
          clear hg hR HS st
          have c0 := tnCell hX k hkl
          have cf := hX.frozen k
          have hX1 : tnE.In (w1.setCell ⟨n8, k, none⟩ (.int .i64 v)) n8 (setT x k v) := hX.put _ k _ (setT_c x v k hkl)
          replace hZ := hZ.other n8 k (.int .i64 v) (by omega)
          replace hY := hY.other n8 k (.int .i64 v) (by omega)
          replace hR1 := hR1.other n8 k (.int .i64 v) (by omega)
          replace hB := below_setC hB n8 k (.int .i64 v) (by omega)
          replace hBV := Nat.le_trans hBV (by_cell w1 n8 k (.int .i64 v)).size
          generalize (frL x).getD k 0 = y at *
          clear hX
          go_wp2_with fail
          exact ⟨⟨k + 1, setT x k v, q', b1, by omega, by go_num, hZ, hY, hX1, hR1, hq1, hB, hBV, HS1⟩, by simp [intOf]; omega⟩
        · obtain rfl : k = 10 := by omega
          clear hkl hk
          have HS9 := Lib.hid HS.out.done
          clear HS
          go_wp2_with fail
          go_meet
          exact ⟨x, q, b', hZ, hY, hX, hR, hq, hB, hBV, HS9⟩
    case rest =>
      clear hZ hY hX hR hB hBV HS0
      obtain ⟨x, q, b', hZ, hY, hX, hR, hq, hB, hBV, ST⟩ := hcut
      generalize wc = wr at *
      go_upto_region 11 with fail
      go_cut [] from 39 to 68 (fun wx => frE.In wx n2 zeroFw ∧ frE.In wx n7 (fwN x) ∧ Rd 87 wx b t q b' ∧ Below w.heap.size w wx ∧ BB ≤ wx.heap.size)
      case first =>
        refine region_anyG (S := TnS n8 x) 39 (by kernel_rfl) ?_
        replace hZ : frE.In wr.drew n2 zeroFw := hZ
        replace hY : frE.In wr.drew n7 (fwN zeroFr) := hY
        replace hX : tnE.In wr.drew n8 x := hX
        replace hR : Rd 87 wr.drew b t q b' := hR
        replace hB := hB.drew
        replace hBV : BB ≤ wr.drew.heap.size := hBV
        generalize wr.drew = U at *
        have hS : TnS n8 x U := tnS hX
        refine anyG_take (i := 0) (v := .pointer (some ⟨n8, 0, none⟩)) rfl (by kernel_rfl) (by kernel_rfl) (by kernel_rfl) (by kernel_rfl) (by kernel_rfl) (fun _ _ _ h => h) (Or.inl ⟨by rfl, fun w' hSw => by (obtain ⟨s0, s1, s2, s3, s4, s5, s6, s7, s8, s9⟩ := hSw; go_simp)⟩) hS ?_
        try simp only [Act.put, List.setIfInBounds_toArray, List.set_cons_zero, List.set_cons_succ]
        refine anyG_take (i := 1) (v := .int .i64 x.a) rfl (by kernel_rfl) (by kernel_rfl) (by kernel_rfl) (by kernel_rfl) (by kernel_rfl) (fun _ _ _ h => h) (Or.inl ⟨by rfl, fun w' hSw => by (obtain ⟨s0, s1, s2, s3, s4, s5, s6, s7, s8, s9⟩ := hSw; go_simp)⟩) hS ?_
        try simp only [Act.put, List.setIfInBounds_toArray, List.set_cons_zero, List.set_cons_succ]
        refine anyG_take (i := 2) (v := .pointer (some ⟨n8, 1, none⟩)) rfl (by kernel_rfl) (by kernel_rfl) (by kernel_rfl) (by kernel_rfl) (by kernel_rfl) (fun _ _ _ h => h) (Or.inl ⟨by rfl, fun w' hSw => by (obtain ⟨s0, s1, s2, s3, s4, s5, s6, s7, s8, s9⟩ := hSw; go_simp)⟩) hS ?_
        try simp only [Act.put, List.setIfInBounds_toArray, List.set_cons_zero, List.set_cons_succ]
        refine anyG_take (i := 3) (v := .int .i64 x.b) rfl (by kernel_rfl) (by kernel_rfl) (by kernel_rfl) (by kernel_rfl) (by kernel_rfl) (fun _ _ _ h => h) (Or.inl ⟨by rfl, fun w' hSw => by (obtain ⟨s0, s1, s2, s3, s4, s5, s6, s7, s8, s9⟩ := hSw; go_simp)⟩) hS ?_
        try simp only [Act.put, List.setIfInBounds_toArray, List.set_cons_zero, List.set_cons_succ]
        refine anyG_take (i := 4) (v := .pointer (some ⟨n8, 2, none⟩)) rfl (by kernel_rfl) (by kernel_rfl) (by kernel_rfl) (by kernel_rfl) (by kernel_rfl) (fun _ _ _ h => h) (Or.inl ⟨by rfl, fun w' hSw => by (obtain ⟨s0, s1, s2, s3, s4, s5, s6, s7, s8, s9⟩ := hSw; go_simp)⟩) hS ?_
        try simp only [Act.put, List.setIfInBounds_toArray, List.set_cons_zero, List.set_cons_succ]
        refine anyG_take (i := 5) (v := .int .i64 x.boot) rfl (by kernel_rfl) (by kernel_rfl) (by kernel_rfl) (by kernel_rfl) (by kernel_rfl) (fun _ _ _ h => h) (Or.inl ⟨by rfl, fun w' hSw => by (obtain ⟨s0, s1, s2, s3, s4, s5, s6, s7, s8, s9⟩ := hSw; go_simp)⟩) hS ?_
        try simp only [Act.put, List.setIfInBounds_toArray, List.set_cons_zero, List.set_cons_succ]
        refine anyG_take (i := 6) (v := .pointer (some ⟨n8, 3, none⟩)) rfl (by kernel_rfl) (by kernel_rfl) (by kernel_rfl) (by kernel_rfl) (by kernel_rfl) (fun _ _ _ h => h) (Or.inl ⟨by rfl, fun w' hSw => by (obtain ⟨s0, s1, s2, s3, s4, s5, s6, s7, s8, s9⟩ := hSw; go_simp)⟩) hS ?_
        try simp only [Act.put, List.setIfInBounds_toArray, List.set_cons_zero, List.set_cons_succ]
        refine anyG_take (i := 7) (v := .int .i64 x.first) rfl (by kernel_rfl) (by kernel_rfl) (by kernel_rfl) (by kernel_rfl) (by kernel_rfl) (fun _ _ _ h => h) (Or.inl ⟨by rfl, fun w' hSw => by (obtain ⟨s0, s1, s2, s3, s4, s5, s6, s7, s8, s9⟩ := hSw; go_simp)⟩) hS ?_
        try simp only [Act.put, List.setIfInBounds_toArray, List.set_cons_zero, List.set_cons_succ]
        refine anyG_take (i := 8) (v := .pointer (some ⟨n8, 4, none⟩)) rfl (by kernel_rfl) (by kernel_rfl) (by kernel_rfl) (by kernel_rfl) (by kernel_rfl) (fun _ _ _ h => h) (Or.inl ⟨by rfl, fun w' hSw => by (obtain ⟨s0, s1, s2, s3, s4, s5, s6, s7, s8, s9⟩ := hSw; go_simp)⟩) hS ?_
        try simp only [Act.put, List.setIfInBounds_toArray, List.set_cons_zero, List.set_cons_succ]
        refine anyG_take (i := 9) (v := .int .i64 x.pos) rfl (by kernel_rfl) (by kernel_rfl) (by kernel_rfl) (by kernel_rfl) (by kernel_rfl) (fun _ _ _ h => h) (Or.inl ⟨by rfl, fun w' hSw => by (obtain ⟨s0, s1, s2, s3, s4, s5, s6, s7, s8, s9⟩ := hSw; go_simp)⟩) hS ?_
        try simp only [Act.put, List.setIfInBounds_toArray, List.set_cons_zero, List.set_cons_succ]
        refine anyG_take (i := 10) (v := .pointer (some ⟨n8, 5, none⟩)) rfl (by kernel_rfl) (by kernel_rfl) (by kernel_rfl) (by kernel_rfl) (by kernel_rfl) (fun _ _ _ h => h) (Or.inl ⟨by rfl, fun w' hSw => by (obtain ⟨s0, s1, s2, s3, s4, s5, s6, s7, s8, s9⟩ := hSw; go_simp)⟩) hS ?_
        try simp only [Act.put, List.setIfInBounds_toArray, List.set_cons_zero, List.set_cons_succ]
        refine anyG_take (i := 11) (v := .int .i64 x.start) rfl (by kernel_rfl) (by kernel_rfl) (by kernel_rfl) (by kernel_rfl) (by kernel_rfl) (fun _ _ _ h => h) (Or.inl ⟨by rfl, fun w' hSw => by (obtain ⟨s0, s1, s2, s3, s4, s5, s6, s7, s8, s9⟩ := hSw; go_simp)⟩) hS ?_
        try simp only [Act.put, List.setIfInBounds_toArray, List.set_cons_zero, List.set_cons_succ]
        refine anyG_take (i := 12) (v := .pointer (some ⟨n8, 6, none⟩)) rfl (by kernel_rfl) (by kernel_rfl) (by kernel_rfl) (by kernel_rfl) (by kernel_rfl) (fun _ _ _ h => h) (Or.inl ⟨by rfl, fun w' hSw => by (obtain ⟨s0, s1, s2, s3, s4, s5, s6, s7, s8, s9⟩ := hSw; go_simp)⟩) hS ?_
        try simp only [Act.put, List.setIfInBounds_toArray, List.set_cons_zero, List.set_cons_succ]
        refine anyG_take (i := 13) (v := .int .i64 x.ack) rfl (by kernel_rfl) (by kernel_rfl) (by kernel_rfl) (by kernel_rfl) (by kernel_rfl) (fun _ _ _ h => h) (Or.inl ⟨by rfl, fun w' hSw => by (obtain ⟨s0, s1, s2, s3, s4, s5, s6, s7, s8, s9⟩ := hSw; go_simp)⟩) hS ?_
        try simp only [Act.put, List.setIfInBounds_toArray, List.set_cons_zero, List.set_cons_succ]
        refine anyG_take (i := 14) (v := .pointer (some ⟨n8, 7, none⟩)) rfl (by kernel_rfl) (by kernel_rfl) (by kernel_rfl) (by kernel_rfl) (by kernel_rfl) (fun _ _ _ h => h) (Or.inl ⟨by rfl, fun w' hSw => by (obtain ⟨s0, s1, s2, s3, s4, s5, s6, s7, s8, s9⟩ := hSw; go_simp)⟩) hS ?_
        try simp only [Act.put, List.setIfInBounds_toArray, List.set_cons_zero, List.set_cons_succ]
        refine anyG_take (i := 15) (v := .int .i64 x.grant) rfl (by kernel_rfl) (by kernel_rfl) (by kernel_rfl) (by kernel_rfl) (by kernel_rfl) (fun _ _ _ h => h) (Or.inl ⟨by rfl, fun w' hSw => by (obtain ⟨s0, s1, s2, s3, s4, s5, s6, s7, s8, s9⟩ := hSw; go_simp)⟩) hS ?_
        try simp only [Act.put, List.setIfInBounds_toArray, List.set_cons_zero, List.set_cons_succ]
        refine anyG_take (i := 16) (v := .pointer (some ⟨n8, 8, none⟩)) rfl (by kernel_rfl) (by kernel_rfl) (by kernel_rfl) (by kernel_rfl) (by kernel_rfl) (fun _ _ _ h => h) (Or.inl ⟨by rfl, fun w' hSw => by (obtain ⟨s0, s1, s2, s3, s4, s5, s6, s7, s8, s9⟩ := hSw; go_simp)⟩) hS ?_
        try simp only [Act.put, List.setIfInBounds_toArray, List.set_cons_zero, List.set_cons_succ]
        refine anyG_take (i := 17) (v := .int .i64 x.s) rfl (by kernel_rfl) (by kernel_rfl) (by kernel_rfl) (by kernel_rfl) (by kernel_rfl) (fun _ _ _ h => h) (Or.inl ⟨by rfl, fun w' hSw => by (obtain ⟨s0, s1, s2, s3, s4, s5, s6, s7, s8, s9⟩ := hSw; go_simp)⟩) hS ?_
        try simp only [Act.put, List.setIfInBounds_toArray, List.set_cons_zero, List.set_cons_succ]
        refine anyG_take (i := 18) (v := .pointer (some ⟨n8, 9, none⟩)) rfl (by kernel_rfl) (by kernel_rfl) (by kernel_rfl) (by kernel_rfl) (by kernel_rfl) (fun _ _ _ h => h) (Or.inl ⟨by rfl, fun w' hSw => by (obtain ⟨s0, s1, s2, s3, s4, s5, s6, s7, s8, s9⟩ := hSw; go_simp)⟩) hS ?_
        try simp only [Act.put, List.setIfInBounds_toArray, List.set_cons_zero, List.set_cons_succ]
        refine anyG_take (i := 19) (v := .int .i64 x.t) rfl (by kernel_rfl) (by kernel_rfl) (by kernel_rfl) (by kernel_rfl) (by kernel_rfl) (fun _ _ _ h => h) (Or.inl ⟨by rfl, fun w' hSw => by (obtain ⟨s0, s1, s2, s3, s4, s5, s6, s7, s8, s9⟩ := hSw; go_simp)⟩) hS ?_
        try simp only [Act.put, List.setIfInBounds_toArray, List.set_cons_zero, List.set_cons_succ]
        refine anyG_take (i := 20) (v := .pointer (some ⟨n7, 0, none⟩)) rfl (by kernel_rfl) (by kernel_rfl) (by kernel_rfl) (by kernel_rfl) (by kernel_rfl) (fun _ _ _ h => h) (Or.inl ⟨by rfl, fun w' hSw => by (obtain ⟨s0, s1, s2, s3, s4, s5, s6, s7, s8, s9⟩ := hSw; go_simp)⟩) hS ?_
        try simp only [Act.put, List.setIfInBounds_toArray, List.set_cons_zero, List.set_cons_succ]
        have kc := hY.cell 0
        have kf := hY.frozen 0
        replace kc : U.cell? ⟨n7, 0, none⟩ = some (.int .i64 0) := kc
        have hY2 : frE.In (U.setCell ⟨n7, 0, none⟩ (.int .i64 x.a)) n7 (fwN ⟨x.a, 0, 0, 0, 0, 0, 0, 0, 0, 0, [], [], [], []⟩) := hY.put _ 0 (.int .i64 x.a) rfl
        replace hZ := hZ.other n7 0 (.int .i64 x.a) (by omega)
        replace hX := hX.other n7 0 (.int .i64 x.a) (by omega)
        replace hR := hR.other n7 0 (.int .i64 x.a) (by omega)
        replace hB := below_setC hB n7 0 (.int .i64 x.a) (by omega)
        replace hBV := Nat.le_trans hBV (by_cell U n7 0 (.int .i64 x.a)).size
        clear hY hS
        refine anyG_step (rs := [21]) (by kernel_rfl) (by simp) ?_
        refine AllG.cons rfl (fun K hK => ?_) AllG.nil
        go_simp
        refine hK.out _ _ (tnS hX) ?_
        try simp only [Act.put, List.setIfInBounds_toArray, List.set_cons_zero, List.set_cons_succ]
        clear hK kc kf
        have hY := hY2
        clear hY2
        generalize U.setCell ⟨n7, 0, none⟩ (.int .i64 x.a) = V at *
        generalize V = U at *
        have hS : TnS n8 x U := tnS hX
        refine anyG_take (i := 22) (v := .pointer (some ⟨n7, 1, none⟩)) rfl (by kernel_rfl) (by kernel_rfl) (by kernel_rfl) (by kernel_rfl) (by kernel_rfl) (fun _ _ _ h => h) (Or.inl ⟨by rfl, fun w' hSw => by (obtain ⟨s0, s1, s2, s3, s4, s5, s6, s7, s8, s9⟩ := hSw; go_simp)⟩) hS ?_
        try simp only [Act.put, List.setIfInBounds_toArray, List.set_cons_zero, List.set_cons_succ]
        have kc := hY.cell 1
        have kf := hY.frozen 1
        replace kc : U.cell? ⟨n7, 1, none⟩ = some (.int .i64 0) := kc
        have hY2 : frE.In (U.setCell ⟨n7, 1, none⟩ (.int .i64 x.b)) n7 (fwN ⟨x.a, x.b, 0, 0, 0, 0, 0, 0, 0, 0, [], [], [], []⟩) := hY.put _ 1 (.int .i64 x.b) rfl
        replace hZ := hZ.other n7 1 (.int .i64 x.b) (by omega)
        replace hX := hX.other n7 1 (.int .i64 x.b) (by omega)
        replace hR := hR.other n7 1 (.int .i64 x.b) (by omega)
        replace hB := below_setC hB n7 1 (.int .i64 x.b) (by omega)
        replace hBV := Nat.le_trans hBV (by_cell U n7 1 (.int .i64 x.b)).size
        clear hY hS
        refine anyG_step (rs := [23]) (by kernel_rfl) (by simp) ?_
        refine AllG.cons rfl (fun K hK => ?_) AllG.nil
        go_simp
        refine hK.out _ _ (tnS hX) ?_
        try simp only [Act.put, List.setIfInBounds_toArray, List.set_cons_zero, List.set_cons_succ]
        clear hK kc kf
        have hY := hY2
        clear hY2
        generalize U.setCell ⟨n7, 1, none⟩ (.int .i64 x.b) = V at *
        generalize V = U at *
        have hS : TnS n8 x U := tnS hX
        refine anyG_take (i := 24) (v := .pointer (some ⟨n7, 2, none⟩)) rfl (by kernel_rfl) (by kernel_rfl) (by kernel_rfl) (by kernel_rfl) (by kernel_rfl) (fun _ _ _ h => h) (Or.inl ⟨by rfl, fun w' hSw => by (obtain ⟨s0, s1, s2, s3, s4, s5, s6, s7, s8, s9⟩ := hSw; go_simp)⟩) hS ?_
        try simp only [Act.put, List.setIfInBounds_toArray, List.set_cons_zero, List.set_cons_succ]
        have kc := hY.cell 2
        have kf := hY.frozen 2
        replace kc : U.cell? ⟨n7, 2, none⟩ = some (.int .i64 0) := kc
        have hY2 : frE.In (U.setCell ⟨n7, 2, none⟩ (.int .i64 x.boot)) n7 (fwN ⟨x.a, x.b, x.boot, 0, 0, 0, 0, 0, 0, 0, [], [], [], []⟩) := hY.put _ 2 (.int .i64 x.boot) rfl
        replace hZ := hZ.other n7 2 (.int .i64 x.boot) (by omega)
        replace hX := hX.other n7 2 (.int .i64 x.boot) (by omega)
        replace hR := hR.other n7 2 (.int .i64 x.boot) (by omega)
        replace hB := below_setC hB n7 2 (.int .i64 x.boot) (by omega)
        replace hBV := Nat.le_trans hBV (by_cell U n7 2 (.int .i64 x.boot)).size
        clear hY hS
        refine anyG_step (rs := [25]) (by kernel_rfl) (by simp) ?_
        refine AllG.cons rfl (fun K hK => ?_) AllG.nil
        go_simp
        refine hK.out _ _ (tnS hX) ?_
        try simp only [Act.put, List.setIfInBounds_toArray, List.set_cons_zero, List.set_cons_succ]
        clear hK kc kf
        have hY := hY2
        clear hY2
        generalize U.setCell ⟨n7, 2, none⟩ (.int .i64 x.boot) = V at *
        generalize V = U at *
        have hS : TnS n8 x U := tnS hX
        refine anyG_take (i := 26) (v := .pointer (some ⟨n7, 3, none⟩)) rfl (by kernel_rfl) (by kernel_rfl) (by kernel_rfl) (by kernel_rfl) (by kernel_rfl) (fun _ _ _ h => h) (Or.inl ⟨by rfl, fun w' hSw => by (obtain ⟨s0, s1, s2, s3, s4, s5, s6, s7, s8, s9⟩ := hSw; go_simp)⟩) hS ?_
        try simp only [Act.put, List.setIfInBounds_toArray, List.set_cons_zero, List.set_cons_succ]
        have kc := hY.cell 3
        have kf := hY.frozen 3
        replace kc : U.cell? ⟨n7, 3, none⟩ = some (.int .i64 0) := kc
        have hY2 : frE.In (U.setCell ⟨n7, 3, none⟩ (.int .i64 x.first)) n7 (fwN ⟨x.a, x.b, x.boot, x.first, 0, 0, 0, 0, 0, 0, [], [], [], []⟩) := hY.put _ 3 (.int .i64 x.first) rfl
        replace hZ := hZ.other n7 3 (.int .i64 x.first) (by omega)
        replace hX := hX.other n7 3 (.int .i64 x.first) (by omega)
        replace hR := hR.other n7 3 (.int .i64 x.first) (by omega)
        replace hB := below_setC hB n7 3 (.int .i64 x.first) (by omega)
        replace hBV := Nat.le_trans hBV (by_cell U n7 3 (.int .i64 x.first)).size
        clear hY hS
        refine anyG_step (rs := [27]) (by kernel_rfl) (by simp) ?_
        refine AllG.cons rfl (fun K hK => ?_) AllG.nil
        go_simp
        refine hK.out _ _ (tnS hX) ?_
        try simp only [Act.put, List.setIfInBounds_toArray, List.set_cons_zero, List.set_cons_succ]
        clear hK kc kf
        have hY := hY2
        clear hY2
        generalize U.setCell ⟨n7, 3, none⟩ (.int .i64 x.first) = V at *
        generalize V = U at *
        have hS : TnS n8 x U := tnS hX
        refine anyG_take (i := 28) (v := .pointer (some ⟨n7, 5, none⟩)) rfl (by kernel_rfl) (by kernel_rfl) (by kernel_rfl) (by kernel_rfl) (by kernel_rfl) (fun _ _ _ h => h) (Or.inl ⟨by rfl, fun w' hSw => by (obtain ⟨s0, s1, s2, s3, s4, s5, s6, s7, s8, s9⟩ := hSw; go_simp)⟩) hS ?_
        try simp only [Act.put, List.setIfInBounds_toArray, List.set_cons_zero, List.set_cons_succ]
        have kc := hY.cell 5
        have kf := hY.frozen 5
        replace kc : U.cell? ⟨n7, 5, none⟩ = some (.int .i64 0) := kc
        have hY2 : frE.In (U.setCell ⟨n7, 5, none⟩ (.int .i64 x.pos)) n7 (fwN ⟨x.a, x.b, x.boot, x.first, x.pos, 0, 0, 0, 0, 0, [], [], [], []⟩) := hY.put _ 5 (.int .i64 x.pos) rfl
        replace hZ := hZ.other n7 5 (.int .i64 x.pos) (by omega)
        replace hX := hX.other n7 5 (.int .i64 x.pos) (by omega)
        replace hR := hR.other n7 5 (.int .i64 x.pos) (by omega)
        replace hB := below_setC hB n7 5 (.int .i64 x.pos) (by omega)
        replace hBV := Nat.le_trans hBV (by_cell U n7 5 (.int .i64 x.pos)).size
        clear hY hS
        refine anyG_step (rs := [29]) (by kernel_rfl) (by simp) ?_
        refine AllG.cons rfl (fun K hK => ?_) AllG.nil
        go_simp
        refine hK.out _ _ (tnS hX) ?_
        try simp only [Act.put, List.setIfInBounds_toArray, List.set_cons_zero, List.set_cons_succ]
        clear hK kc kf
        have hY := hY2
        clear hY2
        generalize U.setCell ⟨n7, 5, none⟩ (.int .i64 x.pos) = V at *
        generalize V = U at *
        have hS : TnS n8 x U := tnS hX
        refine anyG_take (i := 30) (v := .pointer (some ⟨n7, 7, none⟩)) rfl (by kernel_rfl) (by kernel_rfl) (by kernel_rfl) (by kernel_rfl) (by kernel_rfl) (fun _ _ _ h => h) (Or.inl ⟨by rfl, fun w' hSw => by (obtain ⟨s0, s1, s2, s3, s4, s5, s6, s7, s8, s9⟩ := hSw; go_simp)⟩) hS ?_
        try simp only [Act.put, List.setIfInBounds_toArray, List.set_cons_zero, List.set_cons_succ]
        have kc := hY.cell 7
        have kf := hY.frozen 7
        replace kc : U.cell? ⟨n7, 7, none⟩ = some (.int .i64 0) := kc
        have hY2 : frE.In (U.setCell ⟨n7, 7, none⟩ (.int .i64 x.start)) n7 (fwN ⟨x.a, x.b, x.boot, x.first, x.pos, x.start, 0, 0, 0, 0, [], [], [], []⟩) := hY.put _ 7 (.int .i64 x.start) rfl
        replace hZ := hZ.other n7 7 (.int .i64 x.start) (by omega)
        replace hX := hX.other n7 7 (.int .i64 x.start) (by omega)
        replace hR := hR.other n7 7 (.int .i64 x.start) (by omega)
        replace hB := below_setC hB n7 7 (.int .i64 x.start) (by omega)
        replace hBV := Nat.le_trans hBV (by_cell U n7 7 (.int .i64 x.start)).size
        clear hY hS
        refine anyG_step (rs := [31]) (by kernel_rfl) (by simp) ?_
        refine AllG.cons rfl (fun K hK => ?_) AllG.nil
        go_simp
        refine hK.out _ _ (tnS hX) ?_
        try simp only [Act.put, List.setIfInBounds_toArray, List.set_cons_zero, List.set_cons_succ]
        clear hK kc kf
        have hY := hY2
        clear hY2
        generalize U.setCell ⟨n7, 7, none⟩ (.int .i64 x.start) = V at *
        generalize V = U at *
        have hS : TnS n8 x U := tnS hX
        refine anyG_take (i := 32) (v := .pointer (some ⟨n7, 9, none⟩)) rfl (by kernel_rfl) (by kernel_rfl) (by kernel_rfl) (by kernel_rfl) (by kernel_rfl) (fun _ _ _ h => h) (Or.inl ⟨by rfl, fun w' hSw => by (obtain ⟨s0, s1, s2, s3, s4, s5, s6, s7, s8, s9⟩ := hSw; go_simp)⟩) hS ?_
        try simp only [Act.put, List.setIfInBounds_toArray, List.set_cons_zero, List.set_cons_succ]
        have kc := hY.cell 9
        have kf := hY.frozen 9
        replace kc : U.cell? ⟨n7, 9, none⟩ = some (.int .i64 0) := kc
        have hY2 : frE.In (U.setCell ⟨n7, 9, none⟩ (.int .i64 x.ack)) n7 (fwN ⟨x.a, x.b, x.boot, x.first, x.pos, x.start, x.ack, 0, 0, 0, [], [], [], []⟩) := hY.put _ 9 (.int .i64 x.ack) rfl
        replace hZ := hZ.other n7 9 (.int .i64 x.ack) (by omega)
        replace hX := hX.other n7 9 (.int .i64 x.ack) (by omega)
        replace hR := hR.other n7 9 (.int .i64 x.ack) (by omega)
        replace hB := below_setC hB n7 9 (.int .i64 x.ack) (by omega)
        replace hBV := Nat.le_trans hBV (by_cell U n7 9 (.int .i64 x.ack)).size
        clear hY hS
        refine anyG_step (rs := [33]) (by kernel_rfl) (by simp) ?_
        refine AllG.cons rfl (fun K hK => ?_) AllG.nil
        go_simp
        refine hK.out _ _ (tnS hX) ?_
        try simp only [Act.put, List.setIfInBounds_toArray, List.set_cons_zero, List.set_cons_succ]
        clear hK kc kf
        have hY := hY2
        clear hY2
        generalize U.setCell ⟨n7, 9, none⟩ (.int .i64 x.ack) = V at *
        generalize V = U at *
        have hS : TnS n8 x U := tnS hX
        refine anyG_take (i := 34) (v := .pointer (some ⟨n7, 10, none⟩)) rfl (by kernel_rfl) (by kernel_rfl) (by kernel_rfl) (by kernel_rfl) (by kernel_rfl) (fun _ _ _ h => h) (Or.inl ⟨by rfl, fun w' hSw => by (obtain ⟨s0, s1, s2, s3, s4, s5, s6, s7, s8, s9⟩ := hSw; go_simp)⟩) hS ?_
        try simp only [Act.put, List.setIfInBounds_toArray, List.set_cons_zero, List.set_cons_succ]
        have kc := hY.cell 10
        have kf := hY.frozen 10
        replace kc : U.cell? ⟨n7, 10, none⟩ = some (.int .i64 0) := kc
        have hY2 : frE.In (U.setCell ⟨n7, 10, none⟩ (.int .i64 x.grant)) n7 (fwN ⟨x.a, x.b, x.boot, x.first, x.pos, x.start, x.ack, x.grant, 0, 0, [], [], [], []⟩) := hY.put _ 10 (.int .i64 x.grant) rfl
        replace hZ := hZ.other n7 10 (.int .i64 x.grant) (by omega)
        replace hX := hX.other n7 10 (.int .i64 x.grant) (by omega)
        replace hR := hR.other n7 10 (.int .i64 x.grant) (by omega)
        replace hB := below_setC hB n7 10 (.int .i64 x.grant) (by omega)
        replace hBV := Nat.le_trans hBV (by_cell U n7 10 (.int .i64 x.grant)).size
        clear hY hS
        refine anyG_step (rs := [35]) (by kernel_rfl) (by simp) ?_
        refine AllG.cons rfl (fun K hK => ?_) AllG.nil
        go_simp
        refine hK.out _ _ (tnS hX) ?_
        try simp only [Act.put, List.setIfInBounds_toArray, List.set_cons_zero, List.set_cons_succ]
        clear hK kc kf
        have hY := hY2
        clear hY2
        generalize U.setCell ⟨n7, 10, none⟩ (.int .i64 x.grant) = V at *
        generalize V = U at *
        have hS : TnS n8 x U := tnS hX
        refine anyG_take (i := 36) (v := .pointer (some ⟨n7, 11, none⟩)) rfl (by kernel_rfl) (by kernel_rfl) (by kernel_rfl) (by kernel_rfl) (by kernel_rfl) (fun _ _ _ h => h) (Or.inl ⟨by rfl, fun w' hSw => by (obtain ⟨s0, s1, s2, s3, s4, s5, s6, s7, s8, s9⟩ := hSw; go_simp)⟩) hS ?_
        try simp only [Act.put, List.setIfInBounds_toArray, List.set_cons_zero, List.set_cons_succ]
        have kc := hY.cell 11
        have kf := hY.frozen 11
        replace kc : U.cell? ⟨n7, 11, none⟩ = some (.int .i64 0) := kc
        have hY2 : frE.In (U.setCell ⟨n7, 11, none⟩ (.int .i64 x.s)) n7 (fwN ⟨x.a, x.b, x.boot, x.first, x.pos, x.start, x.ack, x.grant, x.s, 0, [], [], [], []⟩) := hY.put _ 11 (.int .i64 x.s) rfl
        replace hZ := hZ.other n7 11 (.int .i64 x.s) (by omega)
        replace hX := hX.other n7 11 (.int .i64 x.s) (by omega)
        replace hR := hR.other n7 11 (.int .i64 x.s) (by omega)
        replace hB := below_setC hB n7 11 (.int .i64 x.s) (by omega)
        replace hBV := Nat.le_trans hBV (by_cell U n7 11 (.int .i64 x.s)).size
        clear hY hS
        refine anyG_step (rs := [37]) (by kernel_rfl) (by simp) ?_
        refine AllG.cons rfl (fun K hK => ?_) AllG.nil
        go_simp
        refine hK.out _ _ (tnS hX) ?_
        try simp only [Act.put, List.setIfInBounds_toArray, List.set_cons_zero, List.set_cons_succ]
        clear hK kc kf
        have hY := hY2
        clear hY2
        generalize U.setCell ⟨n7, 11, none⟩ (.int .i64 x.s) = V at *
        generalize V = U at *
        have hS : TnS n8 x U := tnS hX
        refine anyG_take (i := 38) (v := .pointer (some ⟨n7, 12, none⟩)) rfl (by kernel_rfl) (by kernel_rfl) (by kernel_rfl) (by kernel_rfl) (by kernel_rfl) (fun _ _ _ h => h) (Or.inl ⟨by rfl, fun w' hSw => by (obtain ⟨s0, s1, s2, s3, s4, s5, s6, s7, s8, s9⟩ := hSw; go_simp)⟩) hS ?_
        try simp only [Act.put, List.setIfInBounds_toArray, List.set_cons_zero, List.set_cons_succ]
        have kc := hY.cell 12
        have kf := hY.frozen 12
        replace kc : U.cell? ⟨n7, 12, none⟩ = some (.int .i64 0) := kc
        have hY2 : frE.In (U.setCell ⟨n7, 12, none⟩ (.int .i64 x.t)) n7 (fwN ⟨x.a, x.b, x.boot, x.first, x.pos, x.start, x.ack, x.grant, x.s, x.t, [], [], [], []⟩) := hY.put _ 12 (.int .i64 x.t) rfl
        replace hZ := hZ.other n7 12 (.int .i64 x.t) (by omega)
        replace hX := hX.other n7 12 (.int .i64 x.t) (by omega)
        replace hR := hR.other n7 12 (.int .i64 x.t) (by omega)
        replace hB := below_setC hB n7 12 (.int .i64 x.t) (by omega)
        replace hBV := Nat.le_trans hBV (by_cell U n7 12 (.int .i64 x.t)).size
        clear hY hS
        refine anyG_step (rs := [39]) (by kernel_rfl) (by simp) ?_
        refine AllG.last (n := 39) rfl (fun K hK => ?_)
        go_simp
        refine hK.out _ _ ?_
        try simp only [Act.put, List.setIfInBounds_toArray, List.set_cons_zero, List.set_cons_succ]
        clear hK kc kf
        refine anyG_done (by kernel_rfl) ?_ _
        have hY := hY2
        clear hY2
        generalize U.setCell ⟨n7, 12, none⟩ (.int .i64 x.t) = V at *
        generalize V = U at *
        go_wp2_with fail
        go_meet
        exact ⟨hZ, hY, hR, hB, hBV⟩
      case rest =>
        obtain ⟨hZ, hY, hR, hB, hBV⟩ := hcut
        have hO : FwO BB (fwN x) wc := FwO.zero BB (fwN x) wc ⟨rfl, rfl, rfl, rfl, rfl, rfl, rfl, rfl⟩ ⟨rfl, rfl, rfl, rfl⟩
        have hI := Lib.hid (show frL (fwN x).x = frL x ∧ (fwN x).x.rs = [] ∧ (fwN x).x.es = [] ∧ (fwN x).x.gs = [] from ⟨rfl, rfl, rfl, rfl⟩)
        have hL0 := Lib.hid (show (fwN x).x.os = [] from rfl)
        obtain ⟨y0, hy0⟩ : ∃ y', y' = fwN x := ⟨_, rfl⟩
        rw [← hy0] at hO hI hL0 hY
        obtain ⟨q0, hqe⟩ : ∃ q', q' = q := ⟨_, rfl⟩
        rw [← hqe] at hR hq ST
        have hq0 := hq
        clear hy0 hqe hq
        go_wp2_with fail
        have CC := refCnt_m 64 htl hq0 hR
        simp only [show ((64 : Nat) : Int) = (64 : Int) from rfl] at CC
        have HCC := Lib.hid CC
        clear CC
        with_reducible refine HCC.out.mono ?_
        clear HCC
        rintro e wA ⟨n, q, bx, rfl, hn, hR1, hq, hg, st⟩
        have HS0 := Lib.hid (PSt.start (K := opK) (most := 64) (P := isNums t 10 0 = some (frL x, q0)) (q0 := q0) (rest := (bod1 t (frL x))) ST.out st)
        replace hZ := hZ.keep hg (fun e => by have := Option.some.inj e; omega)
        replace hY := hY.keep hg (fun e => by have := Option.some.inj e; omega)
        replace hO := hO.keepN hg (by omega)
        replace hB := below_by hB hg hwb
        replace hBV := Nat.le_trans hBV hg.size
        have HL0 := Lib.hid (show y0.x.os = [] from hL0.out)
        clear hg hR ST st hL0
        go_upto_block 2 with fail
        go_cut [] from 71 to 88 (fun wr => ∃ (y : Fw) (q : Nat) (b' : Bool), Hid (frL y.x = frL x ∧ y.x.rs = [] ∧ y.x.es = [] ∧ y.x.gs = []) ∧ frE.In wr n2 zeroFw ∧ frE.In wr n7 y ∧ FwO BB y wr ∧ Rd 87 wr b t q b' ∧ q ≤ t.size ∧ Below w.heap.size w wr ∧ BB ≤ wr.heap.size ∧ Hid ((b' = false ∧ ((isNums t 10 0 = some (frL x, q0)) ∧ opK.isPart 64 t q0 false = some (y.x.os, q)) ∧ isBody t = (bod1 t (frL x)) (y.x.os, q)) ∨ (b' = true ∧ isBody t = none)))
        case first =>
          go_wp2_with fail
          go_loopw [10] (fun i wr => ∃ (j m : Nat) (y : Fw) (q : Nat) (b' : Bool), Hid (j + m = n) ∧ i = .int .i64 m ∧ Hid (y.x.os.length = j ∧ frL y.x = frL x ∧ y.x.rs = [] ∧ y.x.es = [] ∧ y.x.gs = []) ∧ frE.In wr n2 zeroFw ∧ frE.In wr n7 y ∧ FwO BB y wr ∧ Rd 87 wr b t q b' ∧ q ≤ t.size ∧ Below w.heap.size w wr ∧ BB ≤ wr.heap.size ∧ Hid (PSt opK 64 (isNums t 10 0 = some (frL x, q0)) t q0 (bod1 t (frL x)) n j y.x.os q b')) (fun i _ => (intOf i).toNat)
          case atStart => exact ⟨0, n, y0, q, bx, Lib.hid (Nat.zero_add n), rfl, Lib.hid ⟨by rw [HL0.out]; rfl, by have h := hI.out; simpa using h⟩, hZ, hY, hO, hR1, hq, hB, hBV, by rw [HL0.out]; exact HS0⟩
          case round =>
            clear hZ hY hO hR1 hq hB hBV HS0 HL0 hI
            obtain ⟨j, m, y, q, b', hm, rfl, hI, hZ, hY, hO, hR, hq, hB, hBV, HS⟩ := hrel
            by_cases h0 : 0 < m
            · have f1 : decide ((0 : Int) < (m : Int)) = true := decide_eq_true (by omega)
              have f2 : decide (0 < m) = true := decide_eq_true h0
              cases b'
              · skip
                obtain ⟨m, rfl⟩ : ∃ m', m = m' + 1 := ⟨m - 1, by omega⟩
                have hln : y.x.os.length ≤ 64 := by have := hm.out; have := hI.out.1; omega
                obtain ⟨r0, r1, r2⟩ := hR.cells
                go_wp2_with fail
                clear r0 r1 r2 f1 f2
                refine region_anyG (S := fun w' => w'.cell? ⟨n7, 4, none⟩ = some (.slice y.oA y.x.os.length y.oc) ∧ w'.frozen? ⟨n7, 4, none⟩ = false) 7 (by kernel_rfl) ?_
                replace hZ : frE.In wr.drew n2 zeroFw := hZ
                replace hY : frE.In wr.drew n7 y := hY
                replace hO := hO.below (Below.refl wr.heap.size wr).drew
                replace hR : Rd 87 wr.drew b t q false := hR
                replace hB := hB.drew
                replace hBV : BB ≤ wr.drew.heap.size := hBV
                generalize wr.drew = U at *
                have hS : U.cell? ⟨n7, 4, none⟩ = some (.slice y.oA y.x.os.length y.oc) ∧ U.frozen? ⟨n7, 4, none⟩ = false := ⟨hY.cell 4, hY.frozen 4⟩
                refine anyG_take (i := 0) (v := .pointer (some ⟨n7, 4, none⟩)) rfl (by kernel_rfl) (by kernel_rfl) (by kernel_rfl) (by kernel_rfl) (by kernel_rfl) (fun _ _ _ h => h) (Or.inl ⟨by rfl, fun w' hSw => by (obtain ⟨s0, s1⟩ := hSw; go_simp)⟩) hS ?_
                try simp only [Act.put, List.setIfInBounds_toArray, List.set_cons_zero, List.set_cons_succ]
                refine anyG_take (i := 1) (v := .slice y.oA y.x.os.length y.oc) rfl (by kernel_rfl) (by kernel_rfl) (by kernel_rfl) (by kernel_rfl) (by kernel_rfl) (fun _ _ _ h => h) (Or.inl ⟨by rfl, fun w' hSw => by (obtain ⟨s0, s1⟩ := hSw; go_simp)⟩) hS ?_
                try simp only [Act.put, List.setIfInBounds_toArray, List.set_cons_zero, List.set_cons_succ]
                refine anyG_take (i := 2) (v := .pointer (some ⟨b, 0, none⟩)) rfl (by kernel_rfl) (by kernel_rfl) (by kernel_rfl) (by kernel_rfl) (by kernel_rfl) (fun _ _ _ h => h) (Or.inl ⟨by rfl, fun w' hSw => by (obtain ⟨s0, s1⟩ := hSw; go_simp)⟩) hS ?_
                try simp only [Act.put, List.setIfInBounds_toArray, List.set_cons_zero, List.set_cons_succ]
                refine anyG_step (rs := [3]) (by kernel_rfl) (by simp) ?_
                refine AllG.cons rfl (fun K hK => ?_) AllG.nil
                clear hS
                go_simp
                refine (opRefRead_uni htl hq hR).mono ?_
                rintro r U1 ⟨v, q', b2, rfl, hR1, hq1, hg, st⟩
                have HS1 := Lib.hid (HS.out.next (by have := hm.out; omega) (st.imp (fun h => h) (fun h => ⟨h.1, h.2.2⟩)))
                replace hZ := hZ.keep hg (fun e => by have := Option.some.inj e; omega)
                replace hY := hY.keep hg (fun e => by have := Option.some.inj e; omega)
                replace hO := hO.keepN hg (by omega)
                replace hB := below_by hB hg hwb
                replace hBV := Nat.le_trans hBV hg.size
                clear hg hR HS st
                try go_wp2_with fail
                refine hK.out _ _ ⟨hY.cell 4, hY.frozen 4⟩ ?_
                try simp only [Act.put, List.setIfInBounds_toArray, List.set_cons_zero, List.set_cons_succ]
                clear hK
                have he : opE.Sl (U1.alloc (.cells #[.int .i64 v.C, .int .i64 v.D, .int .i64 v.I, .int .i64 v.M, .int .i64 v.K, .int .i64 v.U, .string v.s] 50)) (some ⟨U1.heap.size, 0, none⟩) [v] := (El.In.new (E := opE) U1 v _ rfl).sl
                have hal := below_alloc (Below.refl U1.heap.size U1) (.cells #[.int .i64 v.C, .int .i64 v.D, .int .i64 v.I, .int .i64 v.M, .int .i64 v.K, .int .i64 v.U, .string v.s] 50)
                replace hZ := hZ.below hal
                replace hY := hY.below hal
                replace hO := hO.below hal
                replace hR1 := hR1.below hal
                replace hB := below_then hB hal
                replace hBV := Nat.le_trans hBV hal.size
                refine anyG_step (rs := [4]) (by kernel_rfl) (by simp) ?_
                refine AllG.cons rfl (fun K hK => ?_) AllG.nil
                go_simp
                refine hK.out _ _ ⟨hY.cell 4, hY.frozen 4⟩ ?_
                try simp only [Act.put, List.setIfInBounds_toArray, List.set_cons_zero, List.set_cons_succ]
                clear hK hal
                generalize U1.alloc (.cells #[.int .i64 v.C, .int .i64 v.D, .int .i64 v.I, .int .i64 v.M, .int .i64 v.K, .int .i64 v.U, .string v.s] 50) = U2 at *
                generalize U1.heap.size = n6 at *
                refine anyG_step (rs := [5]) (by kernel_rfl) (by simp) ?_
                refine AllG.cons rfl (fun K hK => ?_) AllG.nil
                refine El.step_app opInn rfl (.tmp 83) (.tmp 86) rfl BB (.slice y.oA y.x.os.length y.oc) y.x.os [v] rfl hO.o (some ⟨n6, 0, none⟩) 1 1 rfl rfl he (fun e => by cases e) (by rw [List.length_singleton]; omega) hBV ?_
                intro v2 U3 hO2 hg7 _
                have hr := hO.o.rows
                replace hZ := hZ.keep hg7 (fun e => by have := hr n2 e.symm; omega)
                replace hY := hY.keep hg7 (fun e => by have := hr n7 e.symm; omega)
                replace hR1 := hR1.keep hg7 (fun e => by have := hr b e.symm; omega)
                have hO_r := hO.r.kept hg7 (own_own hO.r hO.o (by decide))
                have hO_e := hO.e.kept hg7 (own_own hO.e hO.o (by decide))
                have hO_g := hO.g.kept hg7 (own_own hO.g hO.o (by decide))
                replace hB := hB.grown hg7 hB.size (fun k e => by have := hr k e; have := hB.size; omega)
                replace hBV := Nat.le_trans hBV hg7.size
                clear hr hg7 hO he
                refine hK.out _ _ ⟨hY.cell 4, hY.frozen 4⟩ ?_
                try simp only [Act.put, List.setIfInBounds_toArray, List.set_cons_zero, List.set_cons_succ]
                clear hK
                obtain ⟨L2, hL2⟩ : ∃ L2, y.x.os ++ [v] = L2 := ⟨_, rfl⟩
                rw [hL2] at hO2 HS1
                have hlL : L2.length = j + 1 := by rw [← hL2, List.length_append, List.length_singleton, hI.out.1]
                have HLL := Lib.hid hlL
                clear hL2 hlL
                obtain ⟨A', c', rfl, _⟩ := SlV.own hO2
                have hS : U3.cell? ⟨n7, 4, none⟩ = some (.slice y.oA y.x.os.length y.oc) ∧ U3.frozen? ⟨n7, 4, none⟩ = false := ⟨hY.cell 4, hY.frozen 4⟩
                refine anyG_take (i := 6) (v := .pointer (some ⟨n7, 4, none⟩)) rfl (by kernel_rfl) (by kernel_rfl) (by kernel_rfl) (by kernel_rfl) (by kernel_rfl) (fun _ _ _ h => h) (Or.inl ⟨by rfl, fun w' hSw => by (obtain ⟨s0, s1⟩ := hSw; go_simp)⟩) hS ?_
                try simp only [Act.put, List.setIfInBounds_toArray, List.set_cons_zero, List.set_cons_succ]
                obtain ⟨kc, kf⟩ := hS
                obtain ⟨yn, hyn⟩ : ∃ yn : Fw, yn = ⟨A', c', y.rA, y.rc, y.eA, y.ec, y.gA, y.gc, { y.x with os := L2 }⟩ := ⟨_, rfl⟩
                have hY2 : frE.In (U3.setCell ⟨n7, 4, none⟩ (.slice A' L2.length c')) n7 yn := by rw [hyn]; exact hY.put _ 4 (.slice A' L2.length c') rfl
                have hO3 : FwO BB yn (U3.setCell ⟨n7, 4, none⟩ (.slice A' L2.length c')) := by rw [hyn]; exact FwO.keepN (⟨hO2, hO_r, hO_e, hO_g⟩ : FwO BB ⟨A', c', y.rA, y.rc, y.eA, y.ec, y.gA, y.gc, { y.x with os := L2 }⟩ U3) (by_cell U3 n7 4 _) (by omega)
                have hI2 := Lib.hid (show yn.x.os.length = j + 1 ∧ frL yn.x = frL x ∧ yn.x.rs = [] ∧ yn.x.es = [] ∧ yn.x.gs = [] by rw [hyn]; exact ⟨HLL.out, hI.out.2⟩)
                have HS2 := Lib.hid (show PSt opK 64 (isNums t 10 0 = some (frL x, q0)) t q0 (bod1 t (frL x)) n (j + 1) yn.x.os q' b2 by rw [hyn]; exact HS1.out)
                replace hZ := hZ.other n7 4 (.slice A' L2.length c') (by omega)
                replace hR1 := hR1.other n7 4 (.slice A' L2.length c') (by omega)
                replace hB := below_setC hB n7 4 (.slice A' L2.length c') (by omega)
                replace hBV := Nat.le_trans hBV (by_cell U3 n7 4 (.slice A' L2.length c')).size
                clear hY hO2 hO_r hO_e hO_g hI HS1 hyn HLL
                refine anyG_step (rs := [7]) (by kernel_rfl) (by simp) ?_
                refine AllG.last (n := 7) rfl (fun K hK => ?_)
                go_simp
                refine hK.out _ _ ?_
                try simp only [Act.put, List.setIfInBounds_toArray, List.set_cons_zero, List.set_cons_succ]
                clear hK kc kf
                refine anyG_done (by kernel_rfl) ?_ _
                generalize U3.setCell ⟨n7, 4, none⟩ (.slice A' L2.length c') = V at *
                have hmm := Lib.hid (show j + 1 + m = n by have := hm.out; omega)
                clear hm
                have hm64 : m ≤ 64 := by have := hmm.out; omega
                go_wp2_with fail
                exact ⟨⟨j + 1, m, yn, q', b2, hmm, by go_num, hI2, hZ, hY2, hO3, hR1, hq1, hB, hBV, HS2⟩, by simp [intOf]⟩
              · have HD := Lib.hid (show isBody t = none from by
                  rcases HS.out.done (fun hb => by cases hb) with ⟨h, _⟩ | ⟨_, h⟩
                  · cases h
                  · exact h)
                obtain ⟨r0, r1, r2⟩ := hR.cells
                clear HS h0
                go_wp2_with fail
                go_meet
                exact ⟨y, q, true, Lib.hid hI.out.2, hZ, hY, hO, hR, hq, hB, hBV, Lib.hid (Or.inr ⟨rfl, HD.out⟩)⟩
            · have f1 : decide ((0 : Int) < (m : Int)) = false := decide_eq_false (by omega)
              have f2 : decide (0 < m) = false := decide_eq_false h0
              have HD := Lib.hid (HS.out.done (fun _ => by have := hm.out; omega))
              clear HS h0
              go_wp2_with fail
              go_meet
              exact ⟨y, q, b', Lib.hid hI.out.2, hZ, hY, hO, hR, hq, hB, hBV, HD⟩
        case rest =>
          clear hZ hY hO hR1 hq hB hBV HS0 HL0 hI
          obtain ⟨y, q, b', hI0, hZ, hY, hO, hR, hq, hB, hBV, ST⟩ := hcut
          have hI := Lib.hid (show True ∧ frL y.x = frL x ∧ y.x.rs = [] ∧ y.x.es = [] ∧ y.x.gs = [] from ⟨trivial, hI0.out⟩)
          clear hI0
          generalize wc = wr at *
          have hI2 := Lib.hid (show frL y.x = frL x ∧ y.x.os = y.x.os ∧ y.x.es = [] ∧ y.x.gs = [] from ⟨hI.out.2.1, rfl, hI.out.2.2.2.1, hI.out.2.2.2.2⟩)
          have hL0 := Lib.hid (show y.x.rs = [] from hI.out.2.2.1)
          clear hI
          obtain ⟨y1, hye⟩ : ∃ y', y' = y := ⟨_, rfl⟩
          obtain ⟨q1, hqe⟩ : ∃ q', q' = q := ⟨_, rfl⟩
          rw [← hye] at hI2 hL0 hY hO ST
          rw [← hqe] at hR hq ST
          have hI := hI2
          have hq1 := hq
          clear hye hqe hI2 hq
          go_wp2_with fail
          have CC := refCnt_m 8 htl hq1 hR
          simp only [show ((8 : Nat) : Int) = (8 : Int) from rfl] at CC
          have HCC := Lib.hid CC
          clear CC
          with_reducible refine HCC.out.mono ?_
          clear HCC
          rintro e wA ⟨n, q, bx, rfl, hn, hR1, hq, hg, st⟩
          have HS0 := Lib.hid (PSt.start (K := rpK) (most := 8) (P := (isNums t 10 0 = some (frL x, q0)) ∧ opK.isPart 64 t q0 false = some (y1.x.os, q1)) (q0 := q1) (rest := (bod2 t (frL x) y1.x.os)) ST.out st)
          replace hZ := hZ.keep hg (fun e => by have := Option.some.inj e; omega)
          replace hY := hY.keep hg (fun e => by have := Option.some.inj e; omega)
          replace hO := hO.keepN hg (by omega)
          replace hB := below_by hB hg hwb
          replace hBV := Nat.le_trans hBV hg.size
          have HL0 := Lib.hid (show y1.x.rs = [] from hL0.out)
          clear hg hR ST st hL0
          go_upto_block 4 with fail
          go_cut [] from 91 to 108 (fun wr => ∃ (y : Fw) (q : Nat) (b' : Bool), Hid (frL y.x = frL x ∧ y.x.os = y1.x.os ∧ y.x.es = [] ∧ y.x.gs = []) ∧ frE.In wr n2 zeroFw ∧ frE.In wr n7 y ∧ FwO BB y wr ∧ Rd 87 wr b t q b' ∧ q ≤ t.size ∧ Below w.heap.size w wr ∧ BB ≤ wr.heap.size ∧ Hid ((b' = false ∧ (((isNums t 10 0 = some (frL x, q0)) ∧ opK.isPart 64 t q0 false = some (y1.x.os, q1)) ∧ rpK.isPart 8 t q1 false = some (y.x.rs, q)) ∧ isBody t = (bod2 t (frL x) y1.x.os) (y.x.rs, q)) ∨ (b' = true ∧ isBody t = none)))
          case first =>
            go_wp2_with fail
            go_loopw [11] (fun i wr => ∃ (j m : Nat) (y : Fw) (q : Nat) (b' : Bool), Hid (j + m = n) ∧ i = .int .i64 m ∧ Hid (y.x.rs.length = j ∧ frL y.x = frL x ∧ y.x.os = y1.x.os ∧ y.x.es = [] ∧ y.x.gs = []) ∧ frE.In wr n2 zeroFw ∧ frE.In wr n7 y ∧ FwO BB y wr ∧ Rd 87 wr b t q b' ∧ q ≤ t.size ∧ Below w.heap.size w wr ∧ BB ≤ wr.heap.size ∧ Hid (PSt rpK 8 ((isNums t 10 0 = some (frL x, q0)) ∧ opK.isPart 64 t q0 false = some (y1.x.os, q1)) t q1 (bod2 t (frL x) y1.x.os) n j y.x.rs q b')) (fun i _ => (intOf i).toNat)
            case atStart => exact ⟨0, n, y1, q, bx, Lib.hid (Nat.zero_add n), rfl, Lib.hid ⟨by rw [HL0.out]; rfl, by have h := hI.out; simpa using h⟩, hZ, hY, hO, hR1, hq, hB, hBV, by rw [HL0.out]; exact HS0⟩
            case round =>
              clear hZ hY hO hR1 hq hB hBV HS0 HL0 hI
              obtain ⟨j, m, y, q, b', hm, rfl, hI, hZ, hY, hO, hR, hq, hB, hBV, HS⟩ := hrel
              by_cases h0 : 0 < m
              · have f1 : decide ((0 : Int) < (m : Int)) = true := decide_eq_true (by omega)
                have f2 : decide (0 < m) = true := decide_eq_true h0
                cases b'
                · skip
                  obtain ⟨m, rfl⟩ : ∃ m', m = m' + 1 := ⟨m - 1, by omega⟩
                  have hln : y.x.rs.length ≤ 64 := by have := hm.out; have := hI.out.1; omega
                  obtain ⟨r0, r1, r2⟩ := hR.cells
                  go_wp2_with fail
                  clear r0 r1 r2 f1 f2
                  refine region_anyG (S := fun w' => w'.cell? ⟨n7, 6, none⟩ = some (.slice y.rA y.x.rs.length y.rc) ∧ w'.frozen? ⟨n7, 6, none⟩ = false) 7 (by kernel_rfl) ?_
                  replace hZ : frE.In wr.drew n2 zeroFw := hZ
                  replace hY : frE.In wr.drew n7 y := hY
                  replace hO := hO.below (Below.refl wr.heap.size wr).drew
                  replace hR : Rd 87 wr.drew b t q false := hR
                  replace hB := hB.drew
                  replace hBV : BB ≤ wr.drew.heap.size := hBV
                  generalize wr.drew = U at *
                  have hS : U.cell? ⟨n7, 6, none⟩ = some (.slice y.rA y.x.rs.length y.rc) ∧ U.frozen? ⟨n7, 6, none⟩ = false := ⟨hY.cell 6, hY.frozen 6⟩
                  refine anyG_take (i := 0) (v := .pointer (some ⟨n7, 6, none⟩)) rfl (by kernel_rfl) (by kernel_rfl) (by kernel_rfl) (by kernel_rfl) (by kernel_rfl) (fun _ _ _ h => h) (Or.inl ⟨by rfl, fun w' hSw => by (obtain ⟨s0, s1⟩ := hSw; go_simp)⟩) hS ?_
                  try simp only [Act.put, List.setIfInBounds_toArray, List.set_cons_zero, List.set_cons_succ]
                  refine anyG_take (i := 1) (v := .slice y.rA y.x.rs.length y.rc) rfl (by kernel_rfl) (by kernel_rfl) (by kernel_rfl) (by kernel_rfl) (by kernel_rfl) (fun _ _ _ h => h) (Or.inl ⟨by rfl, fun w' hSw => by (obtain ⟨s0, s1⟩ := hSw; go_simp)⟩) hS ?_
                  try simp only [Act.put, List.setIfInBounds_toArray, List.set_cons_zero, List.set_cons_succ]
                  refine anyG_take (i := 2) (v := .pointer (some ⟨b, 0, none⟩)) rfl (by kernel_rfl) (by kernel_rfl) (by kernel_rfl) (by kernel_rfl) (by kernel_rfl) (fun _ _ _ h => h) (Or.inl ⟨by rfl, fun w' hSw => by (obtain ⟨s0, s1⟩ := hSw; go_simp)⟩) hS ?_
                  try simp only [Act.put, List.setIfInBounds_toArray, List.set_cons_zero, List.set_cons_succ]
                  refine anyG_step (rs := [3]) (by kernel_rfl) (by simp) ?_
                  refine AllG.cons rfl (fun K hK => ?_) AllG.nil
                  clear hS
                  go_simp
                  refine (refRpRead_uni htl hq hR).mono ?_
                  rintro r U1 ⟨v, q', b2, rfl, hR1, hq1, hg, st⟩
                  have HS1 := Lib.hid (HS.out.next (by have := hm.out; omega) (st.imp (fun h => h) (fun h => ⟨h.1, h.2.2⟩)))
                  replace hZ := hZ.keep hg (fun e => by have := Option.some.inj e; omega)
                  replace hY := hY.keep hg (fun e => by have := Option.some.inj e; omega)
                  replace hO := hO.keepN hg (by omega)
                  replace hB := below_by hB hg hwb
                  replace hBV := Nat.le_trans hBV hg.size
                  clear hg hR HS st
                  try go_wp2_with fail
                  refine hK.out _ _ ⟨hY.cell 6, hY.frozen 6⟩ ?_
                  try simp only [Act.put, List.setIfInBounds_toArray, List.set_cons_zero, List.set_cons_succ]
                  clear hK
                  have he : rpE.Sl (U1.alloc (.cells #[.int .i64 v.d, .int .i64 v.i, .int .i64 v.b, .int .i64 v.t, .int .i64 v.m, .int .i64 v.p, .int .i64 v.c, .int .i64 v.s, .int .i64 v.k] 54)) (some ⟨U1.heap.size, 0, none⟩) [v] := (El.In.new (E := rpE) U1 v _ rfl).sl
                  have hal := below_alloc (Below.refl U1.heap.size U1) (.cells #[.int .i64 v.d, .int .i64 v.i, .int .i64 v.b, .int .i64 v.t, .int .i64 v.m, .int .i64 v.p, .int .i64 v.c, .int .i64 v.s, .int .i64 v.k] 54)
                  replace hZ := hZ.below hal
                  replace hY := hY.below hal
                  replace hO := hO.below hal
                  replace hR1 := hR1.below hal
                  replace hB := below_then hB hal
                  replace hBV := Nat.le_trans hBV hal.size
                  refine anyG_step (rs := [4]) (by kernel_rfl) (by simp) ?_
                  refine AllG.cons rfl (fun K hK => ?_) AllG.nil
                  go_simp
                  refine hK.out _ _ ⟨hY.cell 6, hY.frozen 6⟩ ?_
                  try simp only [Act.put, List.setIfInBounds_toArray, List.set_cons_zero, List.set_cons_succ]
                  clear hK hal
                  generalize U1.alloc (.cells #[.int .i64 v.d, .int .i64 v.i, .int .i64 v.b, .int .i64 v.t, .int .i64 v.m, .int .i64 v.p, .int .i64 v.c, .int .i64 v.s, .int .i64 v.k] 54) = U2 at *
                  generalize U1.heap.size = n6 at *
                  refine anyG_step (rs := [5]) (by kernel_rfl) (by simp) ?_
                  refine AllG.cons rfl (fun K hK => ?_) AllG.nil
                  refine El.step_app rpInn rfl (.tmp 103) (.tmp 106) rfl BB (.slice y.rA y.x.rs.length y.rc) y.x.rs [v] rfl hO.r (some ⟨n6, 0, none⟩) 1 1 rfl rfl he (fun e => by cases e) (by rw [List.length_singleton]; omega) hBV ?_
                  intro v2 U3 hO2 hg7 _
                  have hr := hO.r.rows
                  replace hZ := hZ.keep hg7 (fun e => by have := hr n2 e.symm; omega)
                  replace hY := hY.keep hg7 (fun e => by have := hr n7 e.symm; omega)
                  replace hR1 := hR1.keep hg7 (fun e => by have := hr b e.symm; omega)
                  have hO_o := hO.o.kept hg7 (own_own hO.o hO.r (by decide))
                  have hO_e := hO.e.kept hg7 (own_own hO.e hO.r (by decide))
                  have hO_g := hO.g.kept hg7 (own_own hO.g hO.r (by decide))
                  replace hB := hB.grown hg7 hB.size (fun k e => by have := hr k e; have := hB.size; omega)
                  replace hBV := Nat.le_trans hBV hg7.size
                  clear hr hg7 hO he
                  refine hK.out _ _ ⟨hY.cell 6, hY.frozen 6⟩ ?_
                  try simp only [Act.put, List.setIfInBounds_toArray, List.set_cons_zero, List.set_cons_succ]
                  clear hK
                  obtain ⟨L2, hL2⟩ : ∃ L2, y.x.rs ++ [v] = L2 := ⟨_, rfl⟩
                  rw [hL2] at hO2 HS1
                  have hlL : L2.length = j + 1 := by rw [← hL2, List.length_append, List.length_singleton, hI.out.1]
                  have HLL := Lib.hid hlL
                  clear hL2 hlL
                  obtain ⟨A', c', rfl, _⟩ := SlV.own hO2
                  have hS : U3.cell? ⟨n7, 6, none⟩ = some (.slice y.rA y.x.rs.length y.rc) ∧ U3.frozen? ⟨n7, 6, none⟩ = false := ⟨hY.cell 6, hY.frozen 6⟩
                  refine anyG_take (i := 6) (v := .pointer (some ⟨n7, 6, none⟩)) rfl (by kernel_rfl) (by kernel_rfl) (by kernel_rfl) (by kernel_rfl) (by kernel_rfl) (fun _ _ _ h => h) (Or.inl ⟨by rfl, fun w' hSw => by (obtain ⟨s0, s1⟩ := hSw; go_simp)⟩) hS ?_
                  try simp only [Act.put, List.setIfInBounds_toArray, List.set_cons_zero, List.set_cons_succ]
                  obtain ⟨kc, kf⟩ := hS
                  obtain ⟨yn, hyn⟩ : ∃ yn : Fw, yn = ⟨y.oA, y.oc, A', c', y.eA, y.ec, y.gA, y.gc, { y.x with rs := L2 }⟩ := ⟨_, rfl⟩
                  have hY2 : frE.In (U3.setCell ⟨n7, 6, none⟩ (.slice A' L2.length c')) n7 yn := by rw [hyn]; exact hY.put _ 6 (.slice A' L2.length c') rfl
                  have hO3 : FwO BB yn (U3.setCell ⟨n7, 6, none⟩ (.slice A' L2.length c')) := by rw [hyn]; exact FwO.keepN (⟨hO_o, hO2, hO_e, hO_g⟩ : FwO BB ⟨y.oA, y.oc, A', c', y.eA, y.ec, y.gA, y.gc, { y.x with rs := L2 }⟩ U3) (by_cell U3 n7 6 _) (by omega)
                  have hI2 := Lib.hid (show yn.x.rs.length = j + 1 ∧ frL yn.x = frL x ∧ yn.x.os = y1.x.os ∧ yn.x.es = [] ∧ yn.x.gs = [] by rw [hyn]; exact ⟨HLL.out, hI.out.2⟩)
                  have HS2 := Lib.hid (show PSt rpK 8 ((isNums t 10 0 = some (frL x, q0)) ∧ opK.isPart 64 t q0 false = some (y1.x.os, q1)) t q1 (bod2 t (frL x) y1.x.os) n (j + 1) yn.x.rs q' b2 by rw [hyn]; exact HS1.out)
                  replace hZ := hZ.other n7 6 (.slice A' L2.length c') (by omega)
                  replace hR1 := hR1.other n7 6 (.slice A' L2.length c') (by omega)
                  replace hB := below_setC hB n7 6 (.slice A' L2.length c') (by omega)
                  replace hBV := Nat.le_trans hBV (by_cell U3 n7 6 (.slice A' L2.length c')).size
                  clear hY hO2 hO_o hO_e hO_g hI HS1 hyn HLL
                  refine anyG_step (rs := [7]) (by kernel_rfl) (by simp) ?_
                  refine AllG.last (n := 7) rfl (fun K hK => ?_)
                  go_simp
                  refine hK.out _ _ ?_
                  try simp only [Act.put, List.setIfInBounds_toArray, List.set_cons_zero, List.set_cons_succ]
                  clear hK kc kf
                  refine anyG_done (by kernel_rfl) ?_ _
                  generalize U3.setCell ⟨n7, 6, none⟩ (.slice A' L2.length c') = V at *
                  have hmm := Lib.hid (show j + 1 + m = n by have := hm.out; omega)
                  clear hm
                  have hm64 : m ≤ 64 := by have := hmm.out; omega
                  go_wp2_with fail
                  exact ⟨⟨j + 1, m, yn, q', b2, hmm, by go_num, hI2, hZ, hY2, hO3, hR1, hq1, hB, hBV, HS2⟩, by simp [intOf]⟩
                · have HD := Lib.hid (show isBody t = none from by
                    rcases HS.out.done (fun hb => by cases hb) with ⟨h, _⟩ | ⟨_, h⟩
                    · cases h
                    · exact h)
                  obtain ⟨r0, r1, r2⟩ := hR.cells
                  clear HS h0
                  go_wp2_with fail
                  go_meet
                  exact ⟨y, q, true, Lib.hid hI.out.2, hZ, hY, hO, hR, hq, hB, hBV, Lib.hid (Or.inr ⟨rfl, HD.out⟩)⟩
              · have f1 : decide ((0 : Int) < (m : Int)) = false := decide_eq_false (by omega)
                have f2 : decide (0 < m) = false := decide_eq_false h0
                have HD := Lib.hid (HS.out.done (fun _ => by have := hm.out; omega))
                clear HS h0
                go_wp2_with fail
                go_meet
                exact ⟨y, q, b', Lib.hid hI.out.2, hZ, hY, hO, hR, hq, hB, hBV, HD⟩
          case rest =>
            clear hZ hY hO hR1 hq hB hBV HS0 HL0 hI
            obtain ⟨y, q, b', hI0, hZ, hY, hO, hR, hq, hB, hBV, ST⟩ := hcut
            have hI := Lib.hid (show True ∧ frL y.x = frL x ∧ y.x.os = y1.x.os ∧ y.x.es = [] ∧ y.x.gs = [] from ⟨trivial, hI0.out⟩)
            clear hI0
            generalize wc = wr at *
            have hI2 := Lib.hid (show frL y.x = frL x ∧ y.x.os = y1.x.os ∧ y.x.rs = y.x.rs ∧ y.x.gs = [] from ⟨hI.out.2.1, hI.out.2.2.1, rfl, hI.out.2.2.2.2⟩)
            have hL0 := Lib.hid (show y.x.es = [] from hI.out.2.2.2.1)
            clear hI
            obtain ⟨y2, hye⟩ : ∃ y', y' = y := ⟨_, rfl⟩
            obtain ⟨q2, hqe⟩ : ∃ q', q' = q := ⟨_, rfl⟩
            rw [← hye] at hI2 hL0 hY hO ST
            rw [← hqe] at hR hq ST
            have hI := hI2
            have hq2 := hq
            clear hye hqe hI2 hq
            go_wp2_with fail
            have CC := refCnt_m 64 htl hq2 hR
            simp only [show ((64 : Nat) : Int) = (64 : Int) from rfl] at CC
            have HCC := Lib.hid CC
            clear CC
            with_reducible refine HCC.out.mono ?_
            clear HCC
            rintro e wA ⟨n, q, bx, rfl, hn, hR1, hq, hg, st⟩
            have HS0 := Lib.hid (PSt.start (K := enK) (most := 64) (P := ((isNums t 10 0 = some (frL x, q0)) ∧ opK.isPart 64 t q0 false = some (y1.x.os, q1)) ∧ rpK.isPart 8 t q1 false = some (y2.x.rs, q2)) (q0 := q2) (rest := (bod3 t (frL x) y1.x.os y2.x.rs)) ST.out st)
            replace hZ := hZ.keep hg (fun e => by have := Option.some.inj e; omega)
            replace hY := hY.keep hg (fun e => by have := Option.some.inj e; omega)
            replace hO := hO.keepN hg (by omega)
            replace hB := below_by hB hg hwb
            replace hBV := Nat.le_trans hBV hg.size
            have HL0 := Lib.hid (show y2.x.es = [] from hL0.out)
            clear hg hR ST st hL0
            go_upto_block 6 with fail
            go_cut [] from 111 to 128 (fun wr => ∃ (y : Fw) (q : Nat) (b' : Bool), Hid (frL y.x = frL x ∧ y.x.os = y1.x.os ∧ y.x.rs = y2.x.rs ∧ y.x.gs = []) ∧ frE.In wr n2 zeroFw ∧ frE.In wr n7 y ∧ FwO BB y wr ∧ Rd 87 wr b t q b' ∧ q ≤ t.size ∧ Below w.heap.size w wr ∧ BB ≤ wr.heap.size ∧ Hid ((b' = false ∧ ((((isNums t 10 0 = some (frL x, q0)) ∧ opK.isPart 64 t q0 false = some (y1.x.os, q1)) ∧ rpK.isPart 8 t q1 false = some (y2.x.rs, q2)) ∧ enK.isPart 64 t q2 false = some (y.x.es, q)) ∧ isBody t = (bod3 t (frL x) y1.x.os y2.x.rs) (y.x.es, q)) ∨ (b' = true ∧ isBody t = none)))
            case first =>
              go_wp2_with fail
              go_loopw [12] (fun i wr => ∃ (j m : Nat) (y : Fw) (q : Nat) (b' : Bool), Hid (j + m = n) ∧ i = .int .i64 m ∧ Hid (y.x.es.length = j ∧ frL y.x = frL x ∧ y.x.os = y1.x.os ∧ y.x.rs = y2.x.rs ∧ y.x.gs = []) ∧ frE.In wr n2 zeroFw ∧ frE.In wr n7 y ∧ FwO BB y wr ∧ Rd 87 wr b t q b' ∧ q ≤ t.size ∧ Below w.heap.size w wr ∧ BB ≤ wr.heap.size ∧ Hid (PSt enK 64 (((isNums t 10 0 = some (frL x, q0)) ∧ opK.isPart 64 t q0 false = some (y1.x.os, q1)) ∧ rpK.isPart 8 t q1 false = some (y2.x.rs, q2)) t q2 (bod3 t (frL x) y1.x.os y2.x.rs) n j y.x.es q b')) (fun i _ => (intOf i).toNat)
              case atStart => exact ⟨0, n, y2, q, bx, Lib.hid (Nat.zero_add n), rfl, Lib.hid ⟨by rw [HL0.out]; rfl, by have h := hI.out; simpa using h⟩, hZ, hY, hO, hR1, hq, hB, hBV, by rw [HL0.out]; exact HS0⟩
              case round =>
                clear hZ hY hO hR1 hq hB hBV HS0 HL0 hI
                obtain ⟨j, m, y, q, b', hm, rfl, hI, hZ, hY, hO, hR, hq, hB, hBV, HS⟩ := hrel
                by_cases h0 : 0 < m
                · have f1 : decide ((0 : Int) < (m : Int)) = true := decide_eq_true (by omega)
                  have f2 : decide (0 < m) = true := decide_eq_true h0
                  cases b'
                  · skip
                    obtain ⟨m, rfl⟩ : ∃ m', m = m' + 1 := ⟨m - 1, by omega⟩
                    have hln : y.x.es.length ≤ 64 := by have := hm.out; have := hI.out.1; omega
                    obtain ⟨r0, r1, r2⟩ := hR.cells
                    go_wp2_with fail
                    clear r0 r1 r2 f1 f2
                    refine region_anyG (S := fun w' => w'.cell? ⟨n7, 8, none⟩ = some (.slice y.eA y.x.es.length y.ec) ∧ w'.frozen? ⟨n7, 8, none⟩ = false) 7 (by kernel_rfl) ?_
                    replace hZ : frE.In wr.drew n2 zeroFw := hZ
                    replace hY : frE.In wr.drew n7 y := hY
                    replace hO := hO.below (Below.refl wr.heap.size wr).drew
                    replace hR : Rd 87 wr.drew b t q false := hR
                    replace hB := hB.drew
                    replace hBV : BB ≤ wr.drew.heap.size := hBV
                    generalize wr.drew = U at *
                    have hS : U.cell? ⟨n7, 8, none⟩ = some (.slice y.eA y.x.es.length y.ec) ∧ U.frozen? ⟨n7, 8, none⟩ = false := ⟨hY.cell 8, hY.frozen 8⟩
                    refine anyG_take (i := 0) (v := .pointer (some ⟨n7, 8, none⟩)) rfl (by kernel_rfl) (by kernel_rfl) (by kernel_rfl) (by kernel_rfl) (by kernel_rfl) (fun _ _ _ h => h) (Or.inl ⟨by rfl, fun w' hSw => by (obtain ⟨s0, s1⟩ := hSw; go_simp)⟩) hS ?_
                    try simp only [Act.put, List.setIfInBounds_toArray, List.set_cons_zero, List.set_cons_succ]
                    refine anyG_take (i := 1) (v := .slice y.eA y.x.es.length y.ec) rfl (by kernel_rfl) (by kernel_rfl) (by kernel_rfl) (by kernel_rfl) (by kernel_rfl) (fun _ _ _ h => h) (Or.inl ⟨by rfl, fun w' hSw => by (obtain ⟨s0, s1⟩ := hSw; go_simp)⟩) hS ?_
                    try simp only [Act.put, List.setIfInBounds_toArray, List.set_cons_zero, List.set_cons_succ]
                    refine anyG_take (i := 2) (v := .pointer (some ⟨b, 0, none⟩)) rfl (by kernel_rfl) (by kernel_rfl) (by kernel_rfl) (by kernel_rfl) (by kernel_rfl) (fun _ _ _ h => h) (Or.inl ⟨by rfl, fun w' hSw => by (obtain ⟨s0, s1⟩ := hSw; go_simp)⟩) hS ?_
                    try simp only [Act.put, List.setIfInBounds_toArray, List.set_cons_zero, List.set_cons_succ]
                    refine anyG_step (rs := [3]) (by kernel_rfl) (by simp) ?_
                    refine AllG.cons rfl (fun K hK => ?_) AllG.nil
                    clear hS
                    go_simp
                    refine (refEntRead_uni htl hq hR).mono ?_
                    rintro r U1 ⟨v, q', b2, rfl, hR1, hq1, hg, st⟩
                    have HS1 := Lib.hid (HS.out.next (by have := hm.out; omega) (st.imp (fun h => h) (fun h => ⟨h.1, h.2.2⟩)))
                    replace hZ := hZ.keep hg (fun e => by have := Option.some.inj e; omega)
                    replace hY := hY.keep hg (fun e => by have := Option.some.inj e; omega)
                    replace hO := hO.keepN hg (by omega)
                    replace hB := below_by hB hg hwb
                    replace hBV := Nat.le_trans hBV hg.size
                    clear hg hR HS st
                    try go_wp2_with fail
                    refine hK.out _ _ ⟨hY.cell 8, hY.frozen 8⟩ ?_
                    try simp only [Act.put, List.setIfInBounds_toArray, List.set_cons_zero, List.set_cons_succ]
                    clear hK
                    have he : enE.Sl (U1.alloc (.cells #[.int .i64 v.k, .int .i64 v.d, .int .i64 v.i, .int .i64 v.o.C, .int .i64 v.o.D, .int .i64 v.o.I, .int .i64 v.o.M, .int .i64 v.o.K, .int .i64 v.o.U, .string v.o.s] 52)) (some ⟨U1.heap.size, 0, none⟩) [v] := (El.In.new (E := enE) U1 v _ rfl).sl
                    have hal := below_alloc (Below.refl U1.heap.size U1) (.cells #[.int .i64 v.k, .int .i64 v.d, .int .i64 v.i, .int .i64 v.o.C, .int .i64 v.o.D, .int .i64 v.o.I, .int .i64 v.o.M, .int .i64 v.o.K, .int .i64 v.o.U, .string v.o.s] 52)
                    replace hZ := hZ.below hal
                    replace hY := hY.below hal
                    replace hO := hO.below hal
                    replace hR1 := hR1.below hal
                    replace hB := below_then hB hal
                    replace hBV := Nat.le_trans hBV hal.size
                    refine anyG_step (rs := [4]) (by kernel_rfl) (by simp) ?_
                    refine AllG.cons rfl (fun K hK => ?_) AllG.nil
                    go_simp
                    refine hK.out _ _ ⟨hY.cell 8, hY.frozen 8⟩ ?_
                    try simp only [Act.put, List.setIfInBounds_toArray, List.set_cons_zero, List.set_cons_succ]
                    clear hK hal
                    generalize U1.alloc (.cells #[.int .i64 v.k, .int .i64 v.d, .int .i64 v.i, .int .i64 v.o.C, .int .i64 v.o.D, .int .i64 v.o.I, .int .i64 v.o.M, .int .i64 v.o.K, .int .i64 v.o.U, .string v.o.s] 52) = U2 at *
                    generalize U1.heap.size = n6 at *
                    refine anyG_step (rs := [5]) (by kernel_rfl) (by simp) ?_
                    refine AllG.cons rfl (fun K hK => ?_) AllG.nil
                    refine El.step_app enInn rfl (.tmp 123) (.tmp 126) rfl BB (.slice y.eA y.x.es.length y.ec) y.x.es [v] rfl hO.e (some ⟨n6, 0, none⟩) 1 1 rfl rfl he (fun e => by cases e) (by rw [List.length_singleton]; omega) hBV ?_
                    intro v2 U3 hO2 hg7 _
                    have hr := hO.e.rows
                    replace hZ := hZ.keep hg7 (fun e => by have := hr n2 e.symm; omega)
                    replace hY := hY.keep hg7 (fun e => by have := hr n7 e.symm; omega)
                    replace hR1 := hR1.keep hg7 (fun e => by have := hr b e.symm; omega)
                    have hO_o := hO.o.kept hg7 (own_own hO.o hO.e (by decide))
                    have hO_r := hO.r.kept hg7 (own_own hO.r hO.e (by decide))
                    have hO_g := hO.g.kept hg7 (own_own hO.g hO.e (by decide))
                    replace hB := hB.grown hg7 hB.size (fun k e => by have := hr k e; have := hB.size; omega)
                    replace hBV := Nat.le_trans hBV hg7.size
                    clear hr hg7 hO he
                    refine hK.out _ _ ⟨hY.cell 8, hY.frozen 8⟩ ?_
                    try simp only [Act.put, List.setIfInBounds_toArray, List.set_cons_zero, List.set_cons_succ]
                    clear hK
                    obtain ⟨L2, hL2⟩ : ∃ L2, y.x.es ++ [v] = L2 := ⟨_, rfl⟩
                    rw [hL2] at hO2 HS1
                    have hlL : L2.length = j + 1 := by rw [← hL2, List.length_append, List.length_singleton, hI.out.1]
                    have HLL := Lib.hid hlL
                    clear hL2 hlL
                    obtain ⟨A', c', rfl, _⟩ := SlV.own hO2
                    have hS : U3.cell? ⟨n7, 8, none⟩ = some (.slice y.eA y.x.es.length y.ec) ∧ U3.frozen? ⟨n7, 8, none⟩ = false := ⟨hY.cell 8, hY.frozen 8⟩
                    refine anyG_take (i := 6) (v := .pointer (some ⟨n7, 8, none⟩)) rfl (by kernel_rfl) (by kernel_rfl) (by kernel_rfl) (by kernel_rfl) (by kernel_rfl) (fun _ _ _ h => h) (Or.inl ⟨by rfl, fun w' hSw => by (obtain ⟨s0, s1⟩ := hSw; go_simp)⟩) hS ?_
                    try simp only [Act.put, List.setIfInBounds_toArray, List.set_cons_zero, List.set_cons_succ]
                    obtain ⟨kc, kf⟩ := hS
                    obtain ⟨yn, hyn⟩ : ∃ yn : Fw, yn = ⟨y.oA, y.oc, y.rA, y.rc, A', c', y.gA, y.gc, { y.x with es := L2 }⟩ := ⟨_, rfl⟩
                    have hY2 : frE.In (U3.setCell ⟨n7, 8, none⟩ (.slice A' L2.length c')) n7 yn := by rw [hyn]; exact hY.put _ 8 (.slice A' L2.length c') rfl
                    have hO3 : FwO BB yn (U3.setCell ⟨n7, 8, none⟩ (.slice A' L2.length c')) := by rw [hyn]; exact FwO.keepN (⟨hO_o, hO_r, hO2, hO_g⟩ : FwO BB ⟨y.oA, y.oc, y.rA, y.rc, A', c', y.gA, y.gc, { y.x with es := L2 }⟩ U3) (by_cell U3 n7 8 _) (by omega)
                    have hI2 := Lib.hid (show yn.x.es.length = j + 1 ∧ frL yn.x = frL x ∧ yn.x.os = y1.x.os ∧ yn.x.rs = y2.x.rs ∧ yn.x.gs = [] by rw [hyn]; exact ⟨HLL.out, hI.out.2⟩)
                    have HS2 := Lib.hid (show PSt enK 64 (((isNums t 10 0 = some (frL x, q0)) ∧ opK.isPart 64 t q0 false = some (y1.x.os, q1)) ∧ rpK.isPart 8 t q1 false = some (y2.x.rs, q2)) t q2 (bod3 t (frL x) y1.x.os y2.x.rs) n (j + 1) yn.x.es q' b2 by rw [hyn]; exact HS1.out)
                    replace hZ := hZ.other n7 8 (.slice A' L2.length c') (by omega)
                    replace hR1 := hR1.other n7 8 (.slice A' L2.length c') (by omega)
                    replace hB := below_setC hB n7 8 (.slice A' L2.length c') (by omega)
                    replace hBV := Nat.le_trans hBV (by_cell U3 n7 8 (.slice A' L2.length c')).size
                    clear hY hO2 hO_o hO_r hO_g hI HS1 hyn HLL
                    refine anyG_step (rs := [7]) (by kernel_rfl) (by simp) ?_
                    refine AllG.last (n := 7) rfl (fun K hK => ?_)
                    go_simp
                    refine hK.out _ _ ?_
                    try simp only [Act.put, List.setIfInBounds_toArray, List.set_cons_zero, List.set_cons_succ]
                    clear hK kc kf
                    refine anyG_done (by kernel_rfl) ?_ _
                    generalize U3.setCell ⟨n7, 8, none⟩ (.slice A' L2.length c') = V at *
                    have hmm := Lib.hid (show j + 1 + m = n by have := hm.out; omega)
                    clear hm
                    have hm64 : m ≤ 64 := by have := hmm.out; omega
                    go_wp2_with fail
                    exact ⟨⟨j + 1, m, yn, q', b2, hmm, by go_num, hI2, hZ, hY2, hO3, hR1, hq1, hB, hBV, HS2⟩, by simp [intOf]⟩
                  · have HD := Lib.hid (show isBody t = none from by
                      rcases HS.out.done (fun hb => by cases hb) with ⟨h, _⟩ | ⟨_, h⟩
                      · cases h
                      · exact h)
                    obtain ⟨r0, r1, r2⟩ := hR.cells
                    clear HS h0
                    go_wp2_with fail
                    go_meet
                    exact ⟨y, q, true, Lib.hid hI.out.2, hZ, hY, hO, hR, hq, hB, hBV, Lib.hid (Or.inr ⟨rfl, HD.out⟩)⟩
                · have f1 : decide ((0 : Int) < (m : Int)) = false := decide_eq_false (by omega)
                  have f2 : decide (0 < m) = false := decide_eq_false h0
                  have HD := Lib.hid (HS.out.done (fun _ => by have := hm.out; omega))
                  clear HS h0
                  go_wp2_with fail
                  go_meet
                  exact ⟨y, q, b', Lib.hid hI.out.2, hZ, hY, hO, hR, hq, hB, hBV, HD⟩
            case rest =>
              clear hZ hY hO hR1 hq hB hBV HS0 HL0 hI
              obtain ⟨y, q, b', hI0, hZ, hY, hO, hR, hq, hB, hBV, ST⟩ := hcut
              have hI := Lib.hid (show True ∧ frL y.x = frL x ∧ y.x.os = y1.x.os ∧ y.x.rs = y2.x.rs ∧ y.x.gs = [] from ⟨trivial, hI0.out⟩)
              clear hI0
              generalize wc = wr at *
              have hI2 := Lib.hid (show frL y.x = frL x ∧ y.x.os = y1.x.os ∧ y.x.rs = y2.x.rs ∧ y.x.es = y.x.es from ⟨hI.out.2.1, hI.out.2.2.1, hI.out.2.2.2.1, rfl⟩)
              have hL0 := Lib.hid (show y.x.gs = [] from hI.out.2.2.2.2)
              clear hI
              obtain ⟨y3, hye⟩ : ∃ y', y' = y := ⟨_, rfl⟩
              obtain ⟨q3, hqe⟩ : ∃ q', q' = q := ⟨_, rfl⟩
              rw [← hye] at hI2 hL0 hY hO ST
              rw [← hqe] at hR hq ST
              have hI := hI2
              have hq3 := hq
              clear hye hqe hI2 hq
              go_wp2_with fail
              have CC := refCnt_m 8 htl hq3 hR
              simp only [show ((8 : Nat) : Int) = (8 : Int) from rfl] at CC
              have HCC := Lib.hid CC
              clear CC
              with_reducible refine HCC.out.mono ?_
              clear HCC
              rintro e wA ⟨n, q, bx, rfl, hn, hR1, hq, hg, st⟩
              have HS0 := Lib.hid (PSt.start (K := gfK) (most := 8) (P := (((isNums t 10 0 = some (frL x, q0)) ∧ opK.isPart 64 t q0 false = some (y1.x.os, q1)) ∧ rpK.isPart 8 t q1 false = some (y2.x.rs, q2)) ∧ enK.isPart 64 t q2 false = some (y3.x.es, q3)) (q0 := q3) (rest := (bod4 t (frL x) y1.x.os y2.x.rs y3.x.es)) ST.out st)
              replace hZ := hZ.keep hg (fun e => by have := Option.some.inj e; omega)
              replace hY := hY.keep hg (fun e => by have := Option.some.inj e; omega)
              replace hO := hO.keepN hg (by omega)
              replace hB := below_by hB hg hwb
              replace hBV := Nat.le_trans hBV hg.size
              have HL0 := Lib.hid (show y3.x.gs = [] from hL0.out)
              clear hg hR ST st hL0
              go_upto_block 8 with fail
              go_cut [] from 131 to 148 (fun wr => ∃ (y : Fw) (q : Nat) (b' : Bool), Hid (frL y.x = frL x ∧ y.x.os = y1.x.os ∧ y.x.rs = y2.x.rs ∧ y.x.es = y3.x.es) ∧ frE.In wr n2 zeroFw ∧ frE.In wr n7 y ∧ FwO BB y wr ∧ Rd 87 wr b t q b' ∧ q ≤ t.size ∧ Below w.heap.size w wr ∧ BB ≤ wr.heap.size ∧ Hid ((b' = false ∧ (((((isNums t 10 0 = some (frL x, q0)) ∧ opK.isPart 64 t q0 false = some (y1.x.os, q1)) ∧ rpK.isPart 8 t q1 false = some (y2.x.rs, q2)) ∧ enK.isPart 64 t q2 false = some (y3.x.es, q3)) ∧ gfK.isPart 8 t q3 false = some (y.x.gs, q)) ∧ isBody t = (bod4 t (frL x) y1.x.os y2.x.rs y3.x.es) (y.x.gs, q)) ∨ (b' = true ∧ isBody t = none)))
              case first =>
                go_wp2_with fail
                go_loopw [13] (fun i wr => ∃ (j m : Nat) (y : Fw) (q : Nat) (b' : Bool), Hid (j + m = n) ∧ i = .int .i64 m ∧ Hid (y.x.gs.length = j ∧ frL y.x = frL x ∧ y.x.os = y1.x.os ∧ y.x.rs = y2.x.rs ∧ y.x.es = y3.x.es) ∧ frE.In wr n2 zeroFw ∧ frE.In wr n7 y ∧ FwO BB y wr ∧ Rd 87 wr b t q b' ∧ q ≤ t.size ∧ Below w.heap.size w wr ∧ BB ≤ wr.heap.size ∧ Hid (PSt gfK 8 ((((isNums t 10 0 = some (frL x, q0)) ∧ opK.isPart 64 t q0 false = some (y1.x.os, q1)) ∧ rpK.isPart 8 t q1 false = some (y2.x.rs, q2)) ∧ enK.isPart 64 t q2 false = some (y3.x.es, q3)) t q3 (bod4 t (frL x) y1.x.os y2.x.rs y3.x.es) n j y.x.gs q b')) (fun i _ => (intOf i).toNat)
                case atStart => exact ⟨0, n, y3, q, bx, Lib.hid (Nat.zero_add n), rfl, Lib.hid ⟨by rw [HL0.out]; rfl, by have h := hI.out; simpa using h⟩, hZ, hY, hO, hR1, hq, hB, hBV, by rw [HL0.out]; exact HS0⟩
                case round =>
                  clear hZ hY hO hR1 hq hB hBV HS0 HL0 hI
                  obtain ⟨j, m, y, q, b', hm, rfl, hI, hZ, hY, hO, hR, hq, hB, hBV, HS⟩ := hrel
                  by_cases h0 : 0 < m
                  · have f1 : decide ((0 : Int) < (m : Int)) = true := decide_eq_true (by omega)
                    have f2 : decide (0 < m) = true := decide_eq_true h0
                    cases b'
                    · skip
                      obtain ⟨m, rfl⟩ : ∃ m', m = m' + 1 := ⟨m - 1, by omega⟩
                      have hln : y.x.gs.length ≤ 64 := by have := hm.out; have := hI.out.1; omega
                      obtain ⟨r0, r1, r2⟩ := hR.cells
                      go_wp2_with fail
                      clear r0 r1 r2 f1 f2
                      refine region_anyG (S := fun w' => w'.cell? ⟨n7, 13, none⟩ = some (.slice y.gA y.x.gs.length y.gc) ∧ w'.frozen? ⟨n7, 13, none⟩ = false) 7 (by kernel_rfl) ?_
                      replace hZ : frE.In wr.drew n2 zeroFw := hZ
                      replace hY : frE.In wr.drew n7 y := hY
                      replace hO := hO.below (Below.refl wr.heap.size wr).drew
                      replace hR : Rd 87 wr.drew b t q false := hR
                      replace hB := hB.drew
                      replace hBV : BB ≤ wr.drew.heap.size := hBV
                      generalize wr.drew = U at *
                      have hS : U.cell? ⟨n7, 13, none⟩ = some (.slice y.gA y.x.gs.length y.gc) ∧ U.frozen? ⟨n7, 13, none⟩ = false := ⟨hY.cell 13, hY.frozen 13⟩
                      refine anyG_take (i := 0) (v := .pointer (some ⟨n7, 13, none⟩)) rfl (by kernel_rfl) (by kernel_rfl) (by kernel_rfl) (by kernel_rfl) (by kernel_rfl) (fun _ _ _ h => h) (Or.inl ⟨by rfl, fun w' hSw => by (obtain ⟨s0, s1⟩ := hSw; go_simp)⟩) hS ?_
                      try simp only [Act.put, List.setIfInBounds_toArray, List.set_cons_zero, List.set_cons_succ]
                      refine anyG_take (i := 1) (v := .slice y.gA y.x.gs.length y.gc) rfl (by kernel_rfl) (by kernel_rfl) (by kernel_rfl) (by kernel_rfl) (by kernel_rfl) (fun _ _ _ h => h) (Or.inl ⟨by rfl, fun w' hSw => by (obtain ⟨s0, s1⟩ := hSw; go_simp)⟩) hS ?_
                      try simp only [Act.put, List.setIfInBounds_toArray, List.set_cons_zero, List.set_cons_succ]
                      refine anyG_take (i := 2) (v := .pointer (some ⟨b, 0, none⟩)) rfl (by kernel_rfl) (by kernel_rfl) (by kernel_rfl) (by kernel_rfl) (by kernel_rfl) (fun _ _ _ h => h) (Or.inl ⟨by rfl, fun w' hSw => by (obtain ⟨s0, s1⟩ := hSw; go_simp)⟩) hS ?_
                      try simp only [Act.put, List.setIfInBounds_toArray, List.set_cons_zero, List.set_cons_succ]
                      refine anyG_step (rs := [3]) (by kernel_rfl) (by simp) ?_
                      refine AllG.cons rfl (fun K hK => ?_) AllG.nil
                      clear hS
                      go_simp
                      refine (refGfRead_uni htl hq hR).mono ?_
                      rintro r U1 ⟨v, q', b2, rfl, hR1, hq1, hg, st⟩
                      have HS1 := Lib.hid (HS.out.next (by have := hm.out; omega) (st.imp (fun h => h) (fun h => ⟨h.1, h.2.2⟩)))
                      replace hZ := hZ.keep hg (fun e => by have := Option.some.inj e; omega)
                      replace hY := hY.keep hg (fun e => by have := Option.some.inj e; omega)
                      replace hO := hO.keepN hg (by omega)
                      replace hB := below_by hB hg hwb
                      replace hBV := Nat.le_trans hBV hg.size
                      clear hg hR HS st
                      try go_wp2_with fail
                      refine hK.out _ _ ⟨hY.cell 13, hY.frozen 13⟩ ?_
                      try simp only [Act.put, List.setIfInBounds_toArray, List.set_cons_zero, List.set_cons_succ]
                      clear hK
                      have he : gfE.Sl (U1.alloc (.cells #[.int .i64 v.d, .int .i64 v.i, .int .i64 v.c, .int .i64 v.t, .string v.s] 32)) (some ⟨U1.heap.size, 0, none⟩) [v] := (El.In.new (E := gfE) U1 v _ rfl).sl
                      have hal := below_alloc (Below.refl U1.heap.size U1) (.cells #[.int .i64 v.d, .int .i64 v.i, .int .i64 v.c, .int .i64 v.t, .string v.s] 32)
                      replace hZ := hZ.below hal
                      replace hY := hY.below hal
                      replace hO := hO.below hal
                      replace hR1 := hR1.below hal
                      replace hB := below_then hB hal
                      replace hBV := Nat.le_trans hBV hal.size
                      refine anyG_step (rs := [4]) (by kernel_rfl) (by simp) ?_
                      refine AllG.cons rfl (fun K hK => ?_) AllG.nil
                      go_simp
                      refine hK.out _ _ ⟨hY.cell 13, hY.frozen 13⟩ ?_
                      try simp only [Act.put, List.setIfInBounds_toArray, List.set_cons_zero, List.set_cons_succ]
                      clear hK hal
                      generalize U1.alloc (.cells #[.int .i64 v.d, .int .i64 v.i, .int .i64 v.c, .int .i64 v.t, .string v.s] 32) = U2 at *
                      generalize U1.heap.size = n6 at *
                      refine anyG_step (rs := [5]) (by kernel_rfl) (by simp) ?_
                      refine AllG.cons rfl (fun K hK => ?_) AllG.nil
                      refine El.step_app gfInn rfl (.tmp 143) (.tmp 146) rfl BB (.slice y.gA y.x.gs.length y.gc) y.x.gs [v] rfl hO.g (some ⟨n6, 0, none⟩) 1 1 rfl rfl he (fun e => by cases e) (by rw [List.length_singleton]; omega) hBV ?_
                      intro v2 U3 hO2 hg7 _
                      have hr := hO.g.rows
                      replace hZ := hZ.keep hg7 (fun e => by have := hr n2 e.symm; omega)
                      replace hY := hY.keep hg7 (fun e => by have := hr n7 e.symm; omega)
                      replace hR1 := hR1.keep hg7 (fun e => by have := hr b e.symm; omega)
                      have hO_o := hO.o.kept hg7 (own_own hO.o hO.g (by decide))
                      have hO_r := hO.r.kept hg7 (own_own hO.r hO.g (by decide))
                      have hO_e := hO.e.kept hg7 (own_own hO.e hO.g (by decide))
                      replace hB := hB.grown hg7 hB.size (fun k e => by have := hr k e; have := hB.size; omega)
                      replace hBV := Nat.le_trans hBV hg7.size
                      clear hr hg7 hO he
                      refine hK.out _ _ ⟨hY.cell 13, hY.frozen 13⟩ ?_
                      try simp only [Act.put, List.setIfInBounds_toArray, List.set_cons_zero, List.set_cons_succ]
                      clear hK
                      obtain ⟨L2, hL2⟩ : ∃ L2, y.x.gs ++ [v] = L2 := ⟨_, rfl⟩
                      rw [hL2] at hO2 HS1
                      have hlL : L2.length = j + 1 := by rw [← hL2, List.length_append, List.length_singleton, hI.out.1]
                      have HLL := Lib.hid hlL
                      clear hL2 hlL
                      obtain ⟨A', c', rfl, _⟩ := SlV.own hO2
                      have hS : U3.cell? ⟨n7, 13, none⟩ = some (.slice y.gA y.x.gs.length y.gc) ∧ U3.frozen? ⟨n7, 13, none⟩ = false := ⟨hY.cell 13, hY.frozen 13⟩
                      refine anyG_take (i := 6) (v := .pointer (some ⟨n7, 13, none⟩)) rfl (by kernel_rfl) (by kernel_rfl) (by kernel_rfl) (by kernel_rfl) (by kernel_rfl) (fun _ _ _ h => h) (Or.inl ⟨by rfl, fun w' hSw => by (obtain ⟨s0, s1⟩ := hSw; go_simp)⟩) hS ?_
                      try simp only [Act.put, List.setIfInBounds_toArray, List.set_cons_zero, List.set_cons_succ]
                      obtain ⟨kc, kf⟩ := hS
                      obtain ⟨yn, hyn⟩ : ∃ yn : Fw, yn = ⟨y.oA, y.oc, y.rA, y.rc, y.eA, y.ec, A', c', { y.x with gs := L2 }⟩ := ⟨_, rfl⟩
                      have hY2 : frE.In (U3.setCell ⟨n7, 13, none⟩ (.slice A' L2.length c')) n7 yn := by rw [hyn]; exact hY.put _ 13 (.slice A' L2.length c') rfl
                      have hO3 : FwO BB yn (U3.setCell ⟨n7, 13, none⟩ (.slice A' L2.length c')) := by rw [hyn]; exact FwO.keepN (⟨hO_o, hO_r, hO_e, hO2⟩ : FwO BB ⟨y.oA, y.oc, y.rA, y.rc, y.eA, y.ec, A', c', { y.x with gs := L2 }⟩ U3) (by_cell U3 n7 13 _) (by omega)
                      have hI2 := Lib.hid (show yn.x.gs.length = j + 1 ∧ frL yn.x = frL x ∧ yn.x.os = y1.x.os ∧ yn.x.rs = y2.x.rs ∧ yn.x.es = y3.x.es by rw [hyn]; exact ⟨HLL.out, hI.out.2⟩)
                      have HS2 := Lib.hid (show PSt gfK 8 ((((isNums t 10 0 = some (frL x, q0)) ∧ opK.isPart 64 t q0 false = some (y1.x.os, q1)) ∧ rpK.isPart 8 t q1 false = some (y2.x.rs, q2)) ∧ enK.isPart 64 t q2 false = some (y3.x.es, q3)) t q3 (bod4 t (frL x) y1.x.os y2.x.rs y3.x.es) n (j + 1) yn.x.gs q' b2 by rw [hyn]; exact HS1.out)
                      replace hZ := hZ.other n7 13 (.slice A' L2.length c') (by omega)
                      replace hR1 := hR1.other n7 13 (.slice A' L2.length c') (by omega)
                      replace hB := below_setC hB n7 13 (.slice A' L2.length c') (by omega)
                      replace hBV := Nat.le_trans hBV (by_cell U3 n7 13 (.slice A' L2.length c')).size
                      clear hY hO2 hO_o hO_r hO_e hI HS1 hyn HLL
                      refine anyG_step (rs := [7]) (by kernel_rfl) (by simp) ?_
                      refine AllG.last (n := 7) rfl (fun K hK => ?_)
                      go_simp
                      refine hK.out _ _ ?_
                      try simp only [Act.put, List.setIfInBounds_toArray, List.set_cons_zero, List.set_cons_succ]
                      clear hK kc kf
                      refine anyG_done (by kernel_rfl) ?_ _
                      generalize U3.setCell ⟨n7, 13, none⟩ (.slice A' L2.length c') = V at *
                      have hmm := Lib.hid (show j + 1 + m = n by have := hm.out; omega)
                      clear hm
                      have hm64 : m ≤ 64 := by have := hmm.out; omega
                      go_wp2_with fail
                      exact ⟨⟨j + 1, m, yn, q', b2, hmm, by go_num, hI2, hZ, hY2, hO3, hR1, hq1, hB, hBV, HS2⟩, by simp [intOf]⟩
                    · have HD := Lib.hid (show isBody t = none from by
                        rcases HS.out.done (fun hb => by cases hb) with ⟨h, _⟩ | ⟨_, h⟩
                        · cases h
                        · exact h)
                      obtain ⟨r0, r1, r2⟩ := hR.cells
                      clear HS h0
                      go_wp2_with fail
                      go_meet
                      exact ⟨y, q, true, Lib.hid hI.out.2, hZ, hY, hO, hR, hq, hB, hBV, Lib.hid (Or.inr ⟨rfl, HD.out⟩)⟩
                  · have f1 : decide ((0 : Int) < (m : Int)) = false := decide_eq_false (by omega)
                    have f2 : decide (0 < m) = false := decide_eq_false h0
                    have HD := Lib.hid (HS.out.done (fun _ => by have := hm.out; omega))
                    clear HS h0
                    go_wp2_with fail
                    go_meet
                    exact ⟨y, q, b', Lib.hid hI.out.2, hZ, hY, hO, hR, hq, hB, hBV, HD⟩
              case rest =>
                clear hZ hY hO hR1 hq hB hBV HS0 HL0 hI
                obtain ⟨y, q, b', hI0, hZ, hY, hO, hR, hq, hB, hBV, ST⟩ := hcut
                have hI := Lib.hid (show True ∧ frL y.x = frL x ∧ y.x.os = y1.x.os ∧ y.x.rs = y2.x.rs ∧ y.x.es = y3.x.es from ⟨trivial, hI0.out⟩)
                clear hI0
                generalize wc = wr at *
                obtain ⟨l1, l2, l3, l4, l5⟩ := hI.out
                have hX : y.x = ofFr (frL x) y1.x.os y2.x.rs y3.x.es y.x.gs := by
                  have h := ofFr_self y.x
                  rw [l2, l3, l4, l5] at h; exact h.symm
                have HIS := Lib.hid (show isBody t = PF ∧ ((b' = false ∧ FrW y.x ∧ PF = if q = t.size ∧ frB y.x = true then some y.x else none) ∨ (b' = true ∧ PF = none)) from by
                  refine ⟨HPB.out, ?_⟩
                  rcases ST.out with ⟨e, ⟨⟨⟨⟨g0, g1⟩, g2⟩, g3⟩, g4⟩, h⟩ | ⟨e, h⟩
                  · refine Or.inl ⟨e, frW_of (q0 := q0) (by rw [l2]; exact g0) (by rw [l3]; exact g1) (by rw [l4]; exact g2) (by rw [l5]; exact g3) g4 htl, ?_⟩
                    rw [← HPB.out, h]
                    unfold bod4
                    dsimp only
                    rw [← hX]
                  · exact Or.inr ⟨e, by rw [← HPB.out]; exact h⟩)
                clear hX l1 l2 l3 l4 l5 hI ST HPB
                have cD := Lib.hid (refDone_any hR)
                obtain ⟨d, hd⟩ : ∃ d, isDone t q b' = d := ⟨_, rfl⟩
                rw [hd] at cD
                have HD := Lib.hid hd
                clear hd hR
                go_wp2_with fail
                with_reducible refine cD.out.mono ?_
                rintro e wD ⟨rfl, nd, rfl⟩
                replace hZ : frE.In (wr.drewN nd) n2 zeroFw := hZ
                replace hY : frE.In (wr.drewN nd) n7 y := hY
                replace hO := hO.below (below_drew (Below.refl wr.heap.size wr) nd)
                replace hB := below_drew hB nd
                clear cD
                generalize wr.drewN nd = V at *
                cases d
                · have hp : PF = none := by
                    rcases HIS.out.2 with ⟨e, _, h⟩ | ⟨_, h⟩
                    · rw [h, if_neg]
                      rintro ⟨e2, _⟩
                      have h3 := HD.out
                      unfold isDone at h3
                      rw [e, e2] at h3
                      simp at h3
                    · exact h
                  have HPN := Lib.hid hp
                  clear hp HIS HD hY hO
                  go_wp2_with (first | (refine El.store frRow rfl _ _ rfl n2 zeroFw #[.int .i64 0, .int .i64 0, .int .i64 0, .int .i64 0, .slice none 0 0, .int .i64 0, .slice none 0 0, .int .i64 0, .slice none 0 0, .int .i64 0, .int .i64 0, .int .i64 0, .int .i64 0, .slice none 0 0] rfl rfl rfl zeroFw hZ ?_) | fail)
                  refine El.ret2 frRow (hZ.set zeroFw _ rfl) rfl rfl rfl rfl #[.int .i64 0, .int .i64 0, .int .i64 0, .int .i64 0, .slice none 0 0, .int .i64 0, .slice none 0 0, .int .i64 0, .slice none 0 0, .int .i64 0, .int .i64 0, .int .i64 0, .int .i64 0, .slice none 0 0] rfl ?_
                  exact ⟨zeroFw, false, rfl, ⟨SlV.nil _ _, SlV.nil _ _, SlV.nil _ _, SlV.nil _ _⟩, Lib.hid (Or.inr ⟨HPN.out, rfl, rfl⟩), below_setRow hB hn2 _⟩
                · have hq2 : b' = false ∧ q = t.size := by
                    have h3 := HD.out
                    unfold isDone at h3
                    rw [Bool.and_eq_true, decide_eq_true_iff] at h3
                    refine ⟨?_, h3.2⟩
                    have h4 := h3.1
                    cases b'
                    · rfl
                    · cases h4
                  have hg : FrW y.x ∧ PF = if frB y.x = true then some y.x else none := by
                    rcases HIS.out.2 with ⟨_, hW, h⟩ | ⟨e, _⟩
                    · refine ⟨hW, ?_⟩
                      rw [h]
                      by_cases hb : frB y.x = true
                      · rw [if_pos ⟨hq2.2, hb⟩, if_pos hb]
                      · rw [if_neg (fun h => hb h.2), if_neg hb]
                    · rw [hq2.1] at e; cases e
                  obtain ⟨hW, hg⟩ := hg
                  have HG := Lib.hid hg
                  have CR := Lib.hid (refRight15_any y V hW hO.ok)
                  obtain ⟨p0, p1, p2, p3, p4, p5, p6, p7, p8, p9, p10, p11, p12, p13⟩ := frIn14 hY
                  clear hg hW HIS HD hq2
                  go_wp2_with fail
                  clear p0 p1 p2 p3 p4 p5 p6 p7 p8 p9 p10 p11 p12 p13
                  with_reducible refine CR.out.mono ?_
                  rintro e wR ⟨rfl, hbR⟩
                  replace hZ := hZ.below hbR
                  replace hY := hY.below hbR
                  replace hO := hO.below hbR
                  replace hB := below_then hB hbR
                  clear hbR CR
                  cases hfb : frB y.x
                  · have HPN := Lib.hid (show PF = none by rw [HG.out, hfb]; rfl)
                    clear HG hfb hY hO
                    go_wp2_with (first | (refine El.store frRow rfl _ _ rfl n2 zeroFw #[.int .i64 0, .int .i64 0, .int .i64 0, .int .i64 0, .slice none 0 0, .int .i64 0, .slice none 0 0, .int .i64 0, .slice none 0 0, .int .i64 0, .int .i64 0, .int .i64 0, .int .i64 0, .slice none 0 0] rfl rfl rfl zeroFw hZ ?_) | fail)
                    refine El.ret2 frRow (hZ.set zeroFw _ rfl) rfl rfl rfl rfl #[.int .i64 0, .int .i64 0, .int .i64 0, .int .i64 0, .slice none 0 0, .int .i64 0, .slice none 0 0, .int .i64 0, .slice none 0 0, .int .i64 0, .int .i64 0, .int .i64 0, .int .i64 0, .slice none 0 0] rfl ?_
                    exact ⟨zeroFw, false, rfl, ⟨SlV.nil _ _, SlV.nil _ _, SlV.nil _ _, SlV.nil _ _⟩, Lib.hid (Or.inr ⟨HPN.out, rfl, rfl⟩), below_setRow hB hn2 _⟩
                  · have HPN := Lib.hid (show PF = some y.x by rw [HG.out, hfb]; rfl)
                    clear HG hfb
                    go_wp2_with (first | (refine El.load frRow rfl _ rfl n7 0 rfl y hY.at #[.int .i64 y.x.a, .int .i64 y.x.b, .int .i64 y.x.boot, .int .i64 y.x.first, .slice y.oA y.x.os.length y.oc, .int .i64 y.x.pos, .slice y.rA y.x.rs.length y.rc, .int .i64 y.x.start, .slice y.eA y.x.es.length y.ec, .int .i64 y.x.ack, .int .i64 y.x.grant, .int .i64 y.x.s, .int .i64 y.x.t, .slice y.gA y.x.gs.length y.gc] rfl ?_) | (refine El.store frRow rfl _ _ rfl n2 y #[.int .i64 y.x.a, .int .i64 y.x.b, .int .i64 y.x.boot, .int .i64 y.x.first, .slice y.oA y.x.os.length y.oc, .int .i64 y.x.pos, .slice y.rA y.x.rs.length y.rc, .int .i64 y.x.start, .slice y.eA y.x.es.length y.ec, .int .i64 y.x.ack, .int .i64 y.x.grant, .int .i64 y.x.s, .int .i64 y.x.t, .slice y.gA y.x.gs.length y.gc] rfl rfl rfl zeroFw hZ ?_) | fail)
                    refine El.ret2 frRow (hZ.set y _ rfl) rfl rfl rfl rfl #[.int .i64 y.x.a, .int .i64 y.x.b, .int .i64 y.x.boot, .int .i64 y.x.first, .slice y.oA y.x.os.length y.oc, .int .i64 y.x.pos, .slice y.rA y.x.rs.length y.rc, .int .i64 y.x.start, .slice y.eA y.x.es.length y.ec, .int .i64 y.x.ack, .int .i64 y.x.grant, .int .i64 y.x.s, .int .i64 y.x.t, .slice y.gA y.x.gs.length y.gc] rfl ?_
                    exact ⟨y, true, rfl, (hO.keepN (by_row _ n2 _) (by omega)).ok, Lib.hid (Or.inl ⟨HPN.out, rfl⟩), below_setRow hB hn2 _⟩
end Go.Proofs.YtndahomgglpdhaaDoor

namespace Go.Proofs.YtndahomgglpdhaaDoor
open Go.ChangeShapes Go.WideShapes Go.ChangeAt Go.RowKit Go.Deep Nam Cod

set_option maxRecDepth 100000 in
set_option maxHeartbeats 4000000 in
theorem parses15_walk (H : FrameCalls) (s : ByteArray) (w : World) (hL : Crk.Laid w) (hs : s.size ≤ 5000) : Calls Tryd.prog 4 #[.string s] w fun e w' => e = .returned (.bool true) ∧ Below w.heap.size w w' := by
  have HAW := Lib.hid (fun wx hb => awake15_any H wx (laid_belowK hL hb))
  have HP := Lib.hid (H.parse s w hL (by omega))
  have HR := Lib.hid (fun wx => refParse15_any s wx (by omega))
  have hB := Below.refl w.heap.size w
  have f1 : decide ((5000 : Int) < (s.size : Int)) = false := decide_eq_false (by omega)
  clear hL
  go_enter Tryd.func4, Tryd.ntmps4
  go_wp2_with fail
  refine HP.out.mono ?_
  rintro e w1 ⟨y, bv, rfl, hy, hpy, hb1⟩
  have HPY := Lib.hid hpy
  clear hpy HP f1 hB
  have hE : frE.In ((w1).alloc (.cells #[.int .i64 0, .int .i64 0, .int .i64 0, .int .i64 0, .slice none 0 0, .int .i64 0, .slice none 0 0, .int .i64 0, .slice none 0 0, .int .i64 0, .int .i64 0, .int .i64 0, .int .i64 0, .slice none 0 0] 27)) (w1).heap.size zeroFw := El.In.new (E := frE) w1 zeroFw _ rfl
  have hal := below_setRow (below_alloc (Below.refl (w1).heap.size w1) (.cells #[.int .i64 0, .int .i64 0, .int .i64 0, .int .i64 0, .slice none 0 0, .int .i64 0, .slice none 0 0, .int .i64 0, .slice none 0 0, .int .i64 0, .int .i64 0, .int .i64 0, .int .i64 0, .slice none 0 0] 27)) (Nat.le_refl _) #[.int .i64 y.x.a, .int .i64 y.x.b, .int .i64 y.x.boot, .int .i64 y.x.first, .slice y.oA y.x.os.length y.oc, .int .i64 y.x.pos, .slice y.rA y.x.rs.length y.rc, .int .i64 y.x.start, .slice y.eA y.x.es.length y.ec, .int .i64 y.x.ack, .int .i64 y.x.grant, .int .i64 y.x.s, .int .i64 y.x.t, .slice y.gA y.x.gs.length y.gc]
  have hSy := hE.set y #[.int .i64 y.x.a, .int .i64 y.x.b, .int .i64 y.x.boot, .int .i64 y.x.first, .slice y.oA y.x.os.length y.oc, .int .i64 y.x.pos, .slice y.rA y.x.rs.length y.rc, .int .i64 y.x.start, .slice y.eA y.x.es.length y.ec, .int .i64 y.x.ack, .int .i64 y.x.grant, .int .i64 y.x.s, .int .i64 y.x.t, .slice y.gA y.x.gs.length y.gc] rfl
  replace hy := hy.below hal
  have hB := below_then hb1 hal
  go_upto_region 4 with (first | (refine El.store frRow rfl _ _ rfl w1.heap.size y #[.int .i64 y.x.a, .int .i64 y.x.b, .int .i64 y.x.boot, .int .i64 y.x.first, .slice y.oA y.x.os.length y.oc, .int .i64 y.x.pos, .slice y.rA y.x.rs.length y.rc, .int .i64 y.x.start, .slice y.eA y.x.es.length y.ec, .int .i64 y.x.ack, .int .i64 y.x.grant, .int .i64 y.x.s, .int .i64 y.x.t, .slice y.gA y.x.gs.length y.gc] rfl rfl rfl zeroFw hE ?_) | fail)
  clear hE hal hb1
  generalize (w1.alloc (.cells #[.int .i64 0, .int .i64 0, .int .i64 0, .int .i64 0, .slice none 0 0, .int .i64 0, .slice none 0 0, .int .i64 0, .slice none 0 0, .int .i64 0, .int .i64 0, .int .i64 0, .int .i64 0, .slice none 0 0] 27)).setRow w1.heap.size #[.int .i64 y.x.a, .int .i64 y.x.b, .int .i64 y.x.boot, .int .i64 y.x.first, .slice y.oA y.x.os.length y.oc, .int .i64 y.x.pos, .slice y.rA y.x.rs.length y.rc, .int .i64 y.x.start, .slice y.eA y.x.es.length y.ec, .int .i64 y.x.ack, .int .i64 y.x.grant, .int .i64 y.x.s, .int .i64 y.x.t, .slice y.gA y.x.gs.length y.gc] = W1 at *
  generalize w1.heap.size = n1 at *
  go_wp2_with fail
  refine (HR.out _).mono ?_
  rintro e w2 ⟨z, bw, rfl, hz, hpz, hb2⟩
  obtain ⟨hzy, hbw, hly⟩ : z.x = y.x ∧ bw = bv ∧ y.x.os.length ≤ 50000 ∧ y.x.rs.length ≤ 50000 ∧ y.x.es.length ≤ 50000 ∧ y.x.gs.length ≤ 50000 := by
    rcases HPY.out with ⟨h1, h2⟩ | ⟨h1, h2, h3⟩
    · rcases hpz.out with ⟨g1, g2⟩ | ⟨g1, _, _⟩
      · rw [h1] at g1
        have h := (fparse_bytes h1).1.e
        exact ⟨(Option.some.inj g1).symm, by rw [g2, h2], by omega, by omega, by omega, by omega⟩
      · rw [h1] at g1; cases g1
    · rcases hpz.out with ⟨g1, _⟩ | ⟨_, g2, g3⟩
      · rw [h1] at g1; cases g1
      · rw [h2]
        exact ⟨g2, by rw [g3, h3], by decide, by decide, by decide, by decide⟩
  subst hbw
  have HZY := Lib.hid hzy
  clear hpz HPY hzy
  replace hy := hy.below hb2
  replace hSy := hSy.below hb2
  replace hB := below_then hB hb2
  have hE : frE.In ((w2).alloc (.cells #[.int .i64 0, .int .i64 0, .int .i64 0, .int .i64 0, .slice none 0 0, .int .i64 0, .slice none 0 0, .int .i64 0, .slice none 0 0, .int .i64 0, .int .i64 0, .int .i64 0, .int .i64 0, .slice none 0 0] 27)) (w2).heap.size zeroFw := El.In.new (E := frE) w2 zeroFw _ rfl
  have hal := below_setRow (below_alloc (Below.refl (w2).heap.size w2) (.cells #[.int .i64 0, .int .i64 0, .int .i64 0, .int .i64 0, .slice none 0 0, .int .i64 0, .slice none 0 0, .int .i64 0, .slice none 0 0, .int .i64 0, .int .i64 0, .int .i64 0, .int .i64 0, .slice none 0 0] 27)) (Nat.le_refl _) #[.int .i64 z.x.a, .int .i64 z.x.b, .int .i64 z.x.boot, .int .i64 z.x.first, .slice z.oA z.x.os.length z.oc, .int .i64 z.x.pos, .slice z.rA z.x.rs.length z.rc, .int .i64 z.x.start, .slice z.eA z.x.es.length z.ec, .int .i64 z.x.ack, .int .i64 z.x.grant, .int .i64 z.x.s, .int .i64 z.x.t, .slice z.gA z.x.gs.length z.gc]
  have hSz := hE.set z #[.int .i64 z.x.a, .int .i64 z.x.b, .int .i64 z.x.boot, .int .i64 z.x.first, .slice z.oA z.x.os.length z.oc, .int .i64 z.x.pos, .slice z.rA z.x.rs.length z.rc, .int .i64 z.x.start, .slice z.eA z.x.es.length z.ec, .int .i64 z.x.ack, .int .i64 z.x.grant, .int .i64 z.x.s, .int .i64 z.x.t, .slice z.gA z.x.gs.length z.gc] rfl
  replace hz := hz.below hal
  replace hy := hy.below hal
  replace hSy := (hSy.below hal)
  replace hB := below_then hB hal
  clear hb2
  go_upto_region 5 with (first | (refine El.store frRow rfl _ _ rfl w2.heap.size z #[.int .i64 z.x.a, .int .i64 z.x.b, .int .i64 z.x.boot, .int .i64 z.x.first, .slice z.oA z.x.os.length z.oc, .int .i64 z.x.pos, .slice z.rA z.x.rs.length z.rc, .int .i64 z.x.start, .slice z.eA z.x.es.length z.ec, .int .i64 z.x.ack, .int .i64 z.x.grant, .int .i64 z.x.s, .int .i64 z.x.t, .slice z.gA z.x.gs.length z.gc] rfl rfl rfl zeroFw hE ?_) | fail)
  clear hE hal
  generalize (w2.alloc (.cells #[.int .i64 0, .int .i64 0, .int .i64 0, .int .i64 0, .slice none 0 0, .int .i64 0, .slice none 0 0, .int .i64 0, .slice none 0 0, .int .i64 0, .int .i64 0, .int .i64 0, .int .i64 0, .slice none 0 0] 27)).setRow w2.heap.size #[.int .i64 z.x.a, .int .i64 z.x.b, .int .i64 z.x.boot, .int .i64 z.x.first, .slice z.oA z.x.os.length z.oc, .int .i64 z.x.pos, .slice z.rA z.x.rs.length z.rc, .int .i64 z.x.start, .slice z.eA z.x.es.length z.ec, .int .i64 z.x.ack, .int .i64 z.x.grant, .int .i64 z.x.s, .int .i64 z.x.t, .slice z.gA z.x.gs.length z.gc] = W2 at *
  generalize w2.heap.size = n2 at *
  go_wp2_with fail
  refine (HAW.out _ hB).mono ?_
  rintro e w3 ⟨rfl, hb3⟩
  replace hy := hy.below hb3
  replace hz := hz.below hb3
  replace hSy := hSy.below hb3
  replace hSz := hSz.below hb3
  replace hB := hB.trans (hb3.mono hB.size)
  clear hb3 HAW HR
  have CS := Lib.hid (refSameFr_eq y z w3 HZY.out hy hz hly)
  obtain ⟨p0, p1, p2, p3, p4, p5, p6, p7, p8, p9, p10, p11, p12, p13⟩ := frIn14 hSy
  obtain ⟨q0, q1, q2, q3, q4, q5, q6, q7, q8, q9, q10, q11, q12, q13⟩ := frIn14 hSz
  have fb : (bw == bw) = true := by cases bw <;> rfl
  clear hy hz hly hSy hSz
  go_wp2_with fail
  refine CS.out.mono ?_
  rintro e w4 ⟨rfl, hb4⟩
  go_wp2_with fail
  go_ret
  exact ⟨rfl, hB.trans (hb4.mono hB.size)⟩
set_option maxRecDepth 100000 in
theorem parses15_long (H : FrameCalls) (s : ByteArray) (w : World) (hL : Crk.Laid w) (hs : 5000 < s.size) (hm : s.size ≤ maxLen) : Calls Tryd.prog 4 #[.string s] w fun e w' => e = .returned (.bool true) ∧ Below w.heap.size w w' := by
  have HAW := Lib.hid (awake15_any H w hL)
  have f1 : decide ((5000 : Int) < (s.size : Int)) = true := decide_eq_true (by omega)
  go_enter Tryd.func4, Tryd.ntmps4
  go_wp2_with fail
  refine HAW.out.mono ?_
  rintro e w3 ⟨rfl, hb3⟩
  go_wp2_with fail
  go_ret
  exact ⟨rfl, hb3⟩
set_option maxRecDepth 100000 in
theorem parses15_lifted (H0 : FrameCalls) (os : Os) (started : os.Started) (H : Type) (enc : TypeId × Value → H) :
    ReturnsInHanded {} Tryd.checked os 4 .any (fun w args => (Rows.frameParsesSpec.pre enc Tryd.prog Tryd.f4 [] false w args ∧ laidMetH Tryd.prog laid1 w) ∧ sizedMet enc Tryd.prog Tryd.f4 (OpenSpec.ofChange Rows.frameParsesSpec) false w args) (Rows.frameParsesSpec.post enc Tryd.prog Tryd.f4 false true false false) := by
  refine returnsInHanded_of_change_and (C := Tryd.checked) (X := fun w _ => laidMetH Tryd.prog laid1 w) (fun _ _ _ hh h => h.of_heap hh) own started (by kernel_rfl) Tryd.func4
    (ChangeSpec.witness_shaped (enc := enc) (C := Tryd.checked) (os := os) (X := fun w _ => laidMetH Tryd.prog laid1 w) false (World.doorLaid Tryd.prog 14 os) #[.string ⟨#[]⟩] 8 rfl (World.shaped_of_RefB (by kernel_rfl) (by kernel_rfl)) (by kernel_rfl) (by kernel_rfl) (by kernel_rfl) (door_met os _)) ?_
  intro W base args ds gs before hval0 hW _ _ hL _
  have hval : ∀ (j : Nat) t v, Tryd.f4.params[j]? = some t → args[j]? = some v → Value.okWide Tryd.prog W .any base t v := hval0
  have hW' := hW
  obtain ⟨p, q, hA0, hV, rfl, _, _⟩ := hW
  have hA : DataW.TrodAll enc Tryd.prog W 0 (fun _ => true) true Tryd.f4.params.toList args.toList ds p := hA0
  rw [Tryd.params4] at hA hval
  obtain ⟨v0, d0, rfl, rfl, h0⟩ := trodAll_one hA
  obtain ⟨s, rfl, hs⟩ := open_str (hval 0 9 v0 rfl rfl) h0
  have hl := of_laid hL
  have hc : Calls Tryd.prog 4 #[.string s] W fun e w' => e = .returned (.bool true) ∧ Below W.heap.size W w' := by
    by_cases h : s.size ≤ 5000
    · exact parses15_walk H0 s W hl h
    · exact parses15_long H0 s W hl (by omega) hs
  refine hc.mono fun e W' ⟨he, hb⟩ => ?_
  subst he
  exact ⟨_, rfl, Frm.law_post (by kernel_rfl) (by kernel_rfl) (by kernel_rfl) Tryd.underlying4 rfl rfl hW' hb⟩

theorem parses15_said (H0 : FrameCalls) : Rows.FrameParsesSaid :=
  OpenClaim.holds_of_wide 4 Tryd.f4 rfl rfl rfl rfl rfl rfl rfl ⟨rfl, rfl, rfl, rfl, rfl⟩ rfl rfl rfl rfl rfl (by kernel_rfl) Tryd.func4 (by kernel_rfl)
    (of_decide_eq_true (by kernel_rfl)) (by unfold Func.isWrapper; first | (rw [if_pos (by decide +kernel)]; kernel_rfl) | (rw [if_neg (by decide +kernel)]; exact ⟨rfl, rfl⟩))
    (fun os started H enc _ => parses15_lifted H0 os started H enc)

theorem parses15_holds (H0 : FrameCalls) : Rows.FrameParsesCardSaid :=
  Claim7.holds_tied_plain_at .later [] [.data] true (true, "592bd563c67d30f64e5f2d516a984832c0f7d2e182453aec19ea26cfb8f3d092") false
    (parses15_said H0) (fun _ h => by cases h) (by kernel_rfl) (fun _ h => by cases h) frameParses_row_tie rfl ⟨rfl, rfl⟩ (by kernel_rfl) rfl
    (fun f fn hf hfn => by
      obtain rfl : f = 4 := Option.some.inj ((show Tryd.prog.funcNamed "bargeman/bargemanlaw15.FrameParses" = some 4 by kernel_rfl).symm.trans hf) |>.symm
      obtain rfl : fn = Tryd.f4 := (Option.some.inj (Tryd.func4.symm.trans hfn)).symm
      exact ⟨by kernel_rfl, fun j t ht => by
        rw [Tryd.params4] at ht
        have hm : t ∈ [9] := by simpa using Array.mem_of_getElem? ht
        have hall : ([9].all fun u => !Tryd.prog.wantsStandIn u) = true := by kernel_rfl
        exact (show Tryd.prog.wantsStandIn t = false by simpa using List.all_eq_true.1 hall t hm)⟩)
    (by kernel_rfl)
end Go.Proofs.YtndahomgglpdhaaDoor

namespace Go.Proofs.YtndahomgglpdhaaDoor
theorem frameParses_all : Rows.FrameParsesCardSaid := parses15_holds frameCalls
end Go.Proofs.YtndahomgglpdhaaDoor
