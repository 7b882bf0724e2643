/- FrameBack is proved: a frame that may be is read from its bytes as it was; what is read has just those; bytes that are cut, or of which one is another one, are none's. Conditions: the package's table that the sums read lies, when the call begins, as the program's own text lays it (the card ties that). -/
import Derived.Test.YtndahomgglpdhaaDoorB07
import Derived.Laws.IdiomStrings
import Derived.Deep.CutRange
namespace Go.Proofs.YtndahomgglpdhaaDoor
open Go.ChangeShapes Go.WideShapes Go.ChangeAt Go.RowKit Go.Deep Nam Cod

theorem FrN.body_le {x : Fr} (h : FrN x) (hg : greatN x ≤ 200) : (bodyF x).size ≤ 900000 := by
  unfold greatN at hg
  have b10 : ∀ n : Nat, n ≤ 1000 → (bytesOf (n : Int)).size ≤ 10 := fun n hn => bytesOf_le10 (by unfold i64; omega)
  have h0 := catN_le (frL x) h.n
  rw [show (frL x).length = 10 from rfl] at h0
  have h1 := opK.cat_sum opZ 70 x.os (fun o ho => opB_le (h.os o ho).1 (h.os o ho).2)
  have h2 := rpK.cat_le 90 x.rs (fun r hr => by
    have := catN_le (rpL r) (h.rs r hr)
    rw [show (rpL r).length = 9 from rfl] at this
    exact this)
  have h3 := enK.cat_sum enZ 80 x.es (fun e he => enB_le (h.es e he).1 (h.es e he).2)
  have h4 := gfK.cat_sum gfZ 50 x.gs (fun g hg2 => gfB_le (h.gs g hg2).1 (h.gs g hg2).2)
  have b1 := b10 x.os.length (by omega)
  have b2 := b10 x.rs.length (by omega)
  have b3 := b10 x.es.length (by omega)
  have b4 := b10 x.gs.length (by omega)
  unfold bodyF Kd.part
  simp only [ByteArray.size_append]
  omega
theorem body_pos (f : Fr) : 2 ≤ (bodyF f).size := by
  have h1 := bytesOf_pos f.a
  have h2 := bytesOf_pos f.b
  unfold bodyF frL catN catN
  simp only [ByteArray.size_append]
  omega
set_option maxRecDepth 100000 in
/-- A number of sixteen bits among the arguments. -/
theorem open_u16F {H : Type} {enc : TypeId × Value → H} {W : World} {base : Nat} {sp : Nat → Bool} {v : Value} {d : DataW H} {ps : List MemPlace}
    (hv : Value.okWide Tryd.prog W .any base 39 v) (h : DataW.Trod enc Tryd.prog W 0 sp true 39 v d ps) : ∃ n : Nat, v = .int .u16 n ∧ n < 65536 := by
  obtain ⟨a, rfl, _, _, wf⟩ := open_int Tryd.underlying39 hv h
  have hb := bounds_u16 wf
  exact ⟨a.toNat, by rw [Int.toNat_of_nonneg hb.1], by omega⟩
/-- What the conversion of a text to bytes lays. -/
theorem bytes_laid (T : ByteArray) (w : World) (cap : Nat) (j : Nat) (hj : j < T.size) :
    (w.drew.alloc (.cells (bytesRow T cap) 5 ((bytesRow T cap).size, (bytesRow T cap).size + 1))).cell? ⟨w.heap.size, j, none⟩ = some (.int .u8 ((T.data.toList).getD j 0).toNat) ∧
    (w.drew.alloc (.cells (bytesRow T cap) 5 ((bytesRow T cap).size, (bytesRow T cap).size + 1))).frozen? ⟨w.heap.size, j, none⟩ = false := by
  have hs : T.data.size ≤ (bytesRow T cap).size := by unfold bytesRow; rw [Array.size_append, Array.size_map]; omega
  have hj2 : j < T.data.size := hj
  constructor
  · have h := World.cell?_alloc_mark w.drew (bytesRow T cap) 5 ((bytesRow T cap).size, (bytesRow T cap).size + 1) j
    rw [bytesRow_at T cap j hj2] at h
    have e : (T.data.toList).getD j 0 = T.data[j] := by
      rw [List.getD_eq_getElem?_getD, List.getElem?_eq_getElem (by simpa using hj2)]; rfl
    rw [e]; exact h
  · have h := World.frozen?_alloc_mark w.drew (bytesRow T cap) 5 (bytesRow T cap).size ((bytesRow T cap).size + 1) j
    have e : (decide ((bytesRow T cap).size ≤ j) && decide (j < (bytesRow T cap).size + 1)) = false := by
      rw [decide_eq_false (by omega)]; rfl
    rw [e] at h; exact h
set_option maxRecDepth 100000 in
set_option maxHeartbeats 8000000 in
theorem back15_walk (H : FrameCalls) (y : Fw) (s : ByteArray) (a : Nat) (w : World) (hL : Crk.Laid w) (hy : y.ok w) (ny : FrN y.x) (ly : FrLen y.x) (hs : s.size ≤ maxLen) (ha : a < 65536) :
    Calls Tryd.prog 5 #[.agg #[.int .i64 y.x.a, .int .i64 y.x.b, .int .i64 y.x.boot, .int .i64 y.x.first, .slice y.oA y.x.os.length y.oc, .int .i64 y.x.pos, .slice y.rA y.x.rs.length y.rc, .int .i64 y.x.start, .slice y.eA y.x.es.length y.ec, .int .i64 y.x.ack, .int .i64 y.x.grant, .int .i64 y.x.s, .int .i64 y.x.t, .slice y.gA y.x.gs.length y.gc], .string s, .int .u16 a] w fun e w' => e = .returned (.bool true) ∧ Below w.heap.size w w' := by
  have HAW := Lib.hid (fun (wx : World) (hb : Below w.heap.size w wx) => awake15_any H wx (laid_belowK hL hb))
  have HGY := Lib.hid (fun (wx : World) (g : y.ok wx) => great15_any y wx g ny ly)
  have HWY := Lib.hid (fun (h : greatN y.x ≤ 200) => And.intro (ny.small h) (ny.body_le h))
  have HLH := Lib.hid (fun (wx : World) (hb : Below w.heap.size w wx) => laid_belowK hL hb)
  have HH := Lib.hid H
  have hP : frE.In (w.alloc (.cells #[.int .i64 y.x.a, .int .i64 y.x.b, .int .i64 y.x.boot, .int .i64 y.x.first, .slice y.oA y.x.os.length y.oc, .int .i64 y.x.pos, .slice y.rA y.x.rs.length y.rc, .int .i64 y.x.start, .slice y.eA y.x.es.length y.ec, .int .i64 y.x.ack, .int .i64 y.x.grant, .int .i64 y.x.s, .int .i64 y.x.t, .slice y.gA y.x.gs.length y.gc] 27)) w.heap.size y := El.In.new (E := frE) w y _ rfl
  have hB := below_alloc (Below.refl w.heap.size w) (.cells #[.int .i64 y.x.a, .int .i64 y.x.b, .int .i64 y.x.boot, .int .i64 y.x.first, .slice y.oA y.x.os.length y.oc, .int .i64 y.x.pos, .slice y.rA y.x.rs.length y.rc, .int .i64 y.x.start, .slice y.eA y.x.es.length y.ec, .int .i64 y.x.ack, .int .i64 y.x.grant, .int .i64 y.x.s, .int .i64 y.x.t, .slice y.gA y.x.gs.length y.gc] 27)
  replace hy := hy.below hB
  unfold maxLen at hs
  clear H hL ny ly
  go_enter Tryd.func5, Tryd.ntmps5
  go_upto_region 1 with fail
  generalize w.alloc (.cells #[.int .i64 y.x.a, .int .i64 y.x.b, .int .i64 y.x.boot, .int .i64 y.x.first, .slice y.oA y.x.os.length y.oc, .int .i64 y.x.pos, .slice y.rA y.x.rs.length y.rc, .int .i64 y.x.start, .slice y.eA y.x.es.length y.ec, .int .i64 y.x.ack, .int .i64 y.x.grant, .int .i64 y.x.s, .int .i64 y.x.t, .slice y.gA y.x.gs.length y.gc] 27) = W at *
  obtain ⟨n1, hn1⟩ : ∃ n, w.heap.size = n := ⟨_, rfl⟩
  rw [hn1] at hP ⊢
  clear hn1
  go_wp2_with (first | (refine El.load frRow rfl _ rfl n1 0 rfl y hP.at #[.int .i64 y.x.a, .int .i64 y.x.b, .int .i64 y.x.boot, .int .i64 y.x.first, .slice y.oA y.x.os.length y.oc, .int .i64 y.x.pos, .slice y.rA y.x.rs.length y.rc, .int .i64 y.x.start, .slice y.eA y.x.es.length y.ec, .int .i64 y.x.ack, .int .i64 y.x.grant, .int .i64 y.x.s, .int .i64 y.x.t, .slice y.gA y.x.gs.length y.gc] rfl ?_) | fail)
  refine (HGY.out _ hy).mono ?_
  rintro e w1 ⟨b1, rfl, hg1, hb1⟩
  replace hP := hP.below hb1
  replace hy := hy.below hb1
  replace hB := below_then hB hb1
  clear hb1 HGY
  cases b1 with
  | true =>
    go_wp2_with fail
    refine (HAW.out _ hB).mono ?_
    rintro e w9 ⟨rfl, hb9⟩
    go_wp2_with fail
    go_ret
    exact ⟨rfl, below_then hB hb9⟩
  | false =>
    obtain ⟨WY, hbz⟩ := HWY.out (hg1 rfl)
    clear HWY hg1
    by_cases h5 : 5000 < s.size
    · have f1 : decide ((5000 : Int) < (s.size : Int)) = true := decide_eq_true (by omega)
      have f2 : decide (5000 < s.size) = true := decide_eq_true h5
      go_wp2_with fail
      refine (HAW.out _ hB).mono ?_
      rintro e w9 ⟨rfl, hb9⟩
      go_wp2_with fail
      go_ret
      exact ⟨rfl, below_then hB hb9⟩
    · have f1 : decide ((5000 : Int) < (s.size : Int)) = false := decide_eq_false (by omega)
      have f2 : decide (5000 < s.size) = false := decide_eq_false h5
      go_wp2_with (first | (refine El.load frRow rfl _ rfl n1 0 rfl y hP.at #[.int .i64 y.x.a, .int .i64 y.x.b, .int .i64 y.x.boot, .int .i64 y.x.first, .slice y.oA y.x.os.length y.oc, .int .i64 y.x.pos, .slice y.rA y.x.rs.length y.rc, .int .i64 y.x.start, .slice y.eA y.x.es.length y.ec, .int .i64 y.x.ack, .int .i64 y.x.grant, .int .i64 y.x.s, .int .i64 y.x.t, .slice y.gA y.x.gs.length y.gc] rfl ?_) | fail)
      refine (HH.out.print y _ (HLH.out _ hB) WY hy).mono ?_
      rintro e w2 ⟨rfl, hb2⟩
      replace hP := hP.below hb2
      replace hy := hy.below hb2
      replace hB := below_then hB hb2
      clear hb2 f1 f2
      have hTz : (frBytes y.x).size = 8 + (bodyF y.x).size := Crk.seal_size _
      have hbp := body_pos y.x
      have HSELF := Lib.hid (fun (h : frB y.x = true) => fparse_self (frB_iff.1 h))
      have HCUT := Lib.hid (fun k (hk : k < (frBytes y.x).size) => fparse_cut (bodyF y.x) k (by omega) (by omega))
      have HTUR := Lib.hid (fun (t : ByteArray) (k : Nat) (m : UInt8) (hk : k < (frBytes y.x).size) (hm : m ≠ 0) (h : t.data.toList = (frBytes y.x).data.toList.set k ((frBytes y.x).data.toList.getD k 0 ^^^ m)) => fparse_turned (bodyF y.x) t k m (by omega) (by omega) hm h)
      have HCUT2 := Lib.hid (show ∀ k, k < (frBytes y.x).size → parseF ((frBytes y.x).extract 0 k) = none from HCUT.out)
      obtain ⟨T, hT⟩ : ∃ T, frBytes y.x = T := ⟨_, rfl⟩
      rw [hT] at hTz HSELF HCUT2 HTUR ⊢
      have HT := Lib.hid hT
      clear hT HCUT
      have hT1 : 10 ≤ T.size := by omega
      have hT2 : T.size ≤ 900008 := by omega
      clear hTz hbz hbp
      have f9 : decide ((T.size : Int) < 9) = false := decide_eq_false (by omega)
      have f8 : decide (T.size < 9) = false := decide_eq_false (by omega)
      go_wp2_with fail
      clear f9 f8
      refine (HH.out.parse T _ (HLH.out _ hB) (by omega)).mono ?_
      rintro e w3 ⟨g, ok, rfl, hg, hst, hb3⟩
      replace hP := hP.below hb3
      replace hy := hy.below hb3
      replace hB := below_then hB hb3
      have HST := Lib.hid hst
      clear hb3 hst
      have hQ : frE.In (w3.alloc (.cells #[.int .i64 g.x.a, .int .i64 g.x.b, .int .i64 g.x.boot, .int .i64 g.x.first, .slice g.oA g.x.os.length g.oc, .int .i64 g.x.pos, .slice g.rA g.x.rs.length g.rc, .int .i64 g.x.start, .slice g.eA g.x.es.length g.ec, .int .i64 g.x.ack, .int .i64 g.x.grant, .int .i64 g.x.s, .int .i64 g.x.t, .slice g.gA g.x.gs.length g.gc] 27)) w3.heap.size g := El.In.new (E := frE) w3 g _ rfl
      have hal := below_alloc (Below.refl w3.heap.size w3) (.cells #[.int .i64 g.x.a, .int .i64 g.x.b, .int .i64 g.x.boot, .int .i64 g.x.first, .slice g.oA g.x.os.length g.oc, .int .i64 g.x.pos, .slice g.rA g.x.rs.length g.rc, .int .i64 g.x.start, .slice g.eA g.x.es.length g.ec, .int .i64 g.x.ack, .int .i64 g.x.grant, .int .i64 g.x.s, .int .i64 g.x.t, .slice g.gA g.x.gs.length g.gc] 27)
      replace hP := hP.below hal
      replace hy := hy.below hal
      replace hB := below_then hB hal
      replace hg := hg.below hal
      clear hal
      go_wp2_with fail
      generalize w3.alloc (.cells #[.int .i64 g.x.a, .int .i64 g.x.b, .int .i64 g.x.boot, .int .i64 g.x.first, .slice g.oA g.x.os.length g.oc, .int .i64 g.x.pos, .slice g.rA g.x.rs.length g.rc, .int .i64 g.x.start, .slice g.eA g.x.es.length g.ec, .int .i64 g.x.ack, .int .i64 g.x.grant, .int .i64 g.x.s, .int .i64 g.x.t, .slice g.gA g.x.gs.length g.gc] 27) = W3 at *
      obtain ⟨n2, hn2⟩ : ∃ n, w3.heap.size = n := ⟨_, rfl⟩
      rw [hn2] at hQ ⊢
      clear hn2
      refine (HH.out.parse s _ (HLH.out _ hB) (by omega)).mono ?_
      rintro e w4 ⟨h, is, rfl, hh, hst2, hb4⟩
      replace hP := hP.below hb4
      replace hy := hy.below hb4
      replace hB := below_then hB hb4
      replace hQ := hQ.below hb4
      replace hg := hg.below hb4
      have HST2 := Lib.hid hst2
      clear hb4 hst2
      have hR : frE.In (w4.alloc (.cells #[.int .i64 h.x.a, .int .i64 h.x.b, .int .i64 h.x.boot, .int .i64 h.x.first, .slice h.oA h.x.os.length h.oc, .int .i64 h.x.pos, .slice h.rA h.x.rs.length h.rc, .int .i64 h.x.start, .slice h.eA h.x.es.length h.ec, .int .i64 h.x.ack, .int .i64 h.x.grant, .int .i64 h.x.s, .int .i64 h.x.t, .slice h.gA h.x.gs.length h.gc] 27)) w4.heap.size h := El.In.new (E := frE) w4 h _ rfl
      have hal := below_alloc (Below.refl w4.heap.size w4) (.cells #[.int .i64 h.x.a, .int .i64 h.x.b, .int .i64 h.x.boot, .int .i64 h.x.first, .slice h.oA h.x.os.length h.oc, .int .i64 h.x.pos, .slice h.rA h.x.rs.length h.rc, .int .i64 h.x.start, .slice h.eA h.x.es.length h.ec, .int .i64 h.x.ack, .int .i64 h.x.grant, .int .i64 h.x.s, .int .i64 h.x.t, .slice h.gA h.x.gs.length h.gc] 27)
      replace hP := hP.below hal
      replace hy := hy.below hal
      replace hB := below_then hB hal
      replace hQ := hQ.below hal
      replace hg := hg.below hal
      replace hh := hh.below hal
      clear hal
      obtain ⟨k, hk⟩ : ∃ k, a % T.size = k := ⟨_, rfl⟩
      have hkT : k < T.size := by rw [← hk]; exact Nat.mod_lt _ (by omega)
      have f3 : IntKind.i64.wrap (a : Int) = (a : Int) := by rw [IntKind.wrap_i64]; omega
      have f4 : (a : Int) % (T.size : Int) = (k : Int) := by rw [← hk]; exact Int.natCast_emod _ _
      have f5 : Int.tmod (a : Int) (T.size : Int) = (k : Int) := by rw [Int.tmod_eq_emod_of_nonneg (by omega)]; exact f4
      have f6 : ((T.size : Int) == 0) = false := beq_eq_false_iff_ne.2 (by omega)
      have g1 : (k : Int) ≤ (T.size : Int) := by omega
      have hxs : (T.extract 0 k).size ≤ 1000000 := by rw [ByteArray.size_extract]; omega
      have HXS := Lib.hid hxs
      have HC := Lib.hid (HCUT2.out k hkT)
      clear hk hxs HCUT2
      go_wp2_with fail
      generalize w4.alloc (.cells #[.int .i64 h.x.a, .int .i64 h.x.b, .int .i64 h.x.boot, .int .i64 h.x.first, .slice h.oA h.x.os.length h.oc, .int .i64 h.x.pos, .slice h.rA h.x.rs.length h.rc, .int .i64 h.x.start, .slice h.eA h.x.es.length h.ec, .int .i64 h.x.ack, .int .i64 h.x.grant, .int .i64 h.x.s, .int .i64 h.x.t, .slice h.gA h.x.gs.length h.gc] 27) = W4 at *
      obtain ⟨n3, hn3⟩ : ∃ n, w4.heap.size = n := ⟨_, rfl⟩
      rw [hn3] at hR ⊢
      clear hn3
      refine (HH.out.parse (T.extract 0 k) _ (HLH.out _ hB) HXS.out).mono ?_
      rintro e w5 ⟨z4, bv, rfl, _, hst3, hb5⟩
      obtain rfl : bv = false := by
        rcases hst3 with ⟨h, _⟩ | ⟨_, h2⟩
        · rw [HC.out] at h; cases h
        · exact h2.2
      replace hP := hP.below hb5
      replace hy := hy.below hb5
      replace hB := below_then hB hb5
      replace hQ := hQ.below hb5
      replace hg := hg.below hb5
      replace hR := hR.below hb5
      replace hh := hh.below hb5
      clear hst3 hb5 HC HXS f3 f4 f5 f6 g1
      have hal := below_alloc (Below.refl w5.heap.size w5) (.cells #[.int .i64 z4.x.a, .int .i64 z4.x.b, .int .i64 z4.x.boot, .int .i64 z4.x.first, .slice z4.oA z4.x.os.length z4.oc, .int .i64 z4.x.pos, .slice z4.rA z4.x.rs.length z4.rc, .int .i64 z4.x.start, .slice z4.eA z4.x.es.length z4.ec, .int .i64 z4.x.ack, .int .i64 z4.x.grant, .int .i64 z4.x.s, .int .i64 z4.x.t, .slice z4.gA z4.x.gs.length z4.gc] 27)
      replace hP := hP.below hal
      replace hy := hy.below hal
      replace hB := below_then hB hal
      replace hQ := hQ.below hal
      replace hg := hg.below hal
      replace hR := hR.below hal
      replace hh := hh.below hal
      clear hal
      have hcv := run_bytes_of_string (P := Tryd.prog) (w5.alloc (.cells #[.int .i64 z4.x.a, .int .i64 z4.x.b, .int .i64 z4.x.boot, .int .i64 z4.x.first, .slice z4.oA z4.x.os.length z4.oc, .int .i64 z4.x.pos, .slice z4.rA z4.x.rs.length z4.rc, .int .i64 z4.x.start, .slice z4.eA z4.x.es.length z4.ec, .int .i64 z4.x.ack, .int .i64 z4.x.grant, .int .i64 z4.x.s, .int .i64 z4.x.t, .slice z4.gA z4.x.gs.length z4.gc] 27)) 9 40 5 T Tryd.underlying9 Tryd.underlying40 Tryd.underlying5
      obtain ⟨cp, hcp⟩ : ∃ cp, grownCap (w5.alloc (.cells #[.int .i64 z4.x.a, .int .i64 z4.x.b, .int .i64 z4.x.boot, .int .i64 z4.x.first, .slice z4.oA z4.x.os.length z4.oc, .int .i64 z4.x.pos, .slice z4.rA z4.x.rs.length z4.rc, .int .i64 z4.x.start, .slice z4.eA z4.x.es.length z4.ec, .int .i64 z4.x.ack, .int .i64 z4.x.grant, .int .i64 z4.x.s, .int .i64 z4.x.t, .slice z4.gA z4.x.gs.length z4.gc] 27)) T.size 0 5 = cp := ⟨_, rfl⟩
      rw [hcp] at hcv
      clear hcp
      have hlay := fun j hj => bytes_laid T (w5.alloc (.cells #[.int .i64 z4.x.a, .int .i64 z4.x.b, .int .i64 z4.x.boot, .int .i64 z4.x.first, .slice z4.oA z4.x.os.length z4.oc, .int .i64 z4.x.pos, .slice z4.rA z4.x.rs.length z4.rc, .int .i64 z4.x.start, .slice z4.eA z4.x.es.length z4.ec, .int .i64 z4.x.ack, .int .i64 z4.x.grant, .int .i64 z4.x.s, .int .i64 z4.x.t, .slice z4.gA z4.x.gs.length z4.gc] 27)) cp j hj
      have hal := (below_alloc (Below.refl (w5.alloc (.cells #[.int .i64 z4.x.a, .int .i64 z4.x.b, .int .i64 z4.x.boot, .int .i64 z4.x.first, .slice z4.oA z4.x.os.length z4.oc, .int .i64 z4.x.pos, .slice z4.rA z4.x.rs.length z4.rc, .int .i64 z4.x.start, .slice z4.eA z4.x.es.length z4.ec, .int .i64 z4.x.ack, .int .i64 z4.x.grant, .int .i64 z4.x.s, .int .i64 z4.x.t, .slice z4.gA z4.x.gs.length z4.gc] 27)).heap.size (w5.alloc (.cells #[.int .i64 z4.x.a, .int .i64 z4.x.b, .int .i64 z4.x.boot, .int .i64 z4.x.first, .slice z4.oA z4.x.os.length z4.oc, .int .i64 z4.x.pos, .slice z4.rA z4.x.rs.length z4.rc, .int .i64 z4.x.start, .slice z4.eA z4.x.es.length z4.ec, .int .i64 z4.x.ack, .int .i64 z4.x.grant, .int .i64 z4.x.s, .int .i64 z4.x.t, .slice z4.gA z4.x.gs.length z4.gc] 27))).drew (.cells (bytesRow T cp) 5 ((bytesRow T cp).size, (bytesRow T cp).size + 1)))
      have hwg : w.heap.size ≤ (w5.alloc (.cells #[.int .i64 z4.x.a, .int .i64 z4.x.b, .int .i64 z4.x.boot, .int .i64 z4.x.first, .slice z4.oA z4.x.os.length z4.oc, .int .i64 z4.x.pos, .slice z4.rA z4.x.rs.length z4.rc, .int .i64 z4.x.start, .slice z4.eA z4.x.es.length z4.ec, .int .i64 z4.x.ack, .int .i64 z4.x.grant, .int .i64 z4.x.s, .int .i64 z4.x.t, .slice z4.gA z4.x.gs.length z4.gc] 27)).heap.size := hB.size
      go_upto_region 10 with fail
      generalize w5.alloc (.cells #[.int .i64 z4.x.a, .int .i64 z4.x.b, .int .i64 z4.x.boot, .int .i64 z4.x.first, .slice z4.oA z4.x.os.length z4.oc, .int .i64 z4.x.pos, .slice z4.rA z4.x.rs.length z4.rc, .int .i64 z4.x.start, .slice z4.eA z4.x.es.length z4.ec, .int .i64 z4.x.ack, .int .i64 z4.x.grant, .int .i64 z4.x.s, .int .i64 z4.x.t, .slice z4.gA z4.x.gs.length z4.gc] 27) = W5 at *
      obtain ⟨g0, hg0⟩ : ∃ n, W5.heap.size = n := ⟨_, rfl⟩
      rw [hg0] at hcv hlay hwg
      have HG0 := Lib.hid hg0
      clear hg0
      go_upto_region 11 with fail
      rw [show (W5.alloc (.cells (bytesRow T cp) 5 ((bytesRow T cp).size, (bytesRow T cp).size + 1))).drew = W5.drew.alloc (.cells (bytesRow T cp) 5 ((bytesRow T cp).size, (bytesRow T cp).size + 1)) from rfl]
      generalize W5.drew.alloc (.cells (bytesRow T cp) 5 ((bytesRow T cp).size, (bytesRow T cp).size + 1)) = W6 at *
      clear hcv
      obtain ⟨hck, hfk⟩ := hlay k hkT
      obtain ⟨c, hc⟩ : ∃ c, (T.data.toList).getD k 0 = c := ⟨_, rfl⟩
      rw [hc] at hck
      have HLAY := Lib.hid hlay
      clear hlay
      obtain ⟨r, hr⟩ : ∃ r, a % 255 = r := ⟨_, rfl⟩
      have hr2 : r < 255 := by omega
      obtain ⟨m, hm⟩ : ∃ m, UInt8.ofNat (1 + r) = m := ⟨_, rfl⟩
      have hmt : m.toNat = 1 + r := by rw [← hm, UInt8.toNat_ofNat']; omega
      have hm0 : m ≠ 0 := fun e => by rw [e] at hmt; have h0 : (0 : UInt8).toNat = 0 := rfl; omega
      obtain ⟨d, hd⟩ : ∃ d, c ^^^ m = d := ⟨_, rfl⟩
      have exd : bits .xor .u8 (c.toNat : Int) (m.toNat : Int) = (d.toNat : Int) := by
        rw [u8_xor_nat _ _ c.toNat_lt m.toNat_lt, ← hd, UInt8.toNat_xor]
      have q1 : (a : Int) % 255 = (r : Int) := by omega
      have q2 : Int.tmod (a : Int) 255 = (r : Int) := by rw [Int.tmod_eq_emod_of_nonneg (by omega)]; exact q1
      have q3 : IntKind.u16.wrap (1 + (r : Int)) = ((m.toNat : Nat) : Int) := by rw [hmt]; show (1 + (r : Int)) % 65536 = _; omega
      have q4 : (1 + (r : Int)) % 65536 = ((m.toNat : Nat) : Int) := by rw [hmt]; omega
      have q5 : IntKind.u8.wrap ((m.toNat : Nat) : Int) = ((m.toNat : Nat) : Int) := by rw [hmt]; show ((1 + r : Nat) : Int) % 256 = _; omega
      have q6 : ((m.toNat : Nat) : Int) % 256 = ((m.toNat : Nat) : Int) := by rw [hmt]; omega
      have q7 : IntKind.u16.wrap (r : Int) = (r : Int) := by show (r : Int) % 65536 = _; omega
      have hkT2 : (k : Int) < (T.size : Int) := by omega
      have HMT := Lib.hid hmt
      have HHD := Lib.hid hd
      have HCC := Lib.hid hc
      clear hmt hr hm hd hc
      go_upto_region 12 with fail
      have hal7 : Below W5.heap.size W5 (W6.setCell ⟨g0, k, none⟩ (.int .u8 d.toNat)) := hal.setCell (by show W5.heap.size ≤ g0; rw [HG0.out]; exact Nat.le_refl _) _
      have hset : ∀ j, j < T.size → (W6.setCell ⟨g0, k, none⟩ (.int .u8 d.toNat)).cell? ⟨g0, j, none⟩ = some (.int .u8 ((T.data.toList.set k d).getD j 0).toNat) := fun j hj => by
        have hjl : j < T.data.toList.length := by simpa using hj
        by_cases e : k = j
        · subst e
          rw [List.getD_eq_getElem?_getD, List.getElem?_set_self hjl]
          exact World.cell?_setCell_same _ _ _ hck
        · rw [World.cell?_setCell_other _ _ _ _ (fun h => e (congrArg Addr.off h)), List.getD_eq_getElem?_getD, List.getElem?_set_ne e, ← List.getD_eq_getElem?_getD]
          exact (HLAY.out j hj).1
      replace hP := hP.below hal7
      replace hy := hy.below hal7
      replace hB := below_then hB hal7
      replace hQ := hQ.below hal7
      replace hg := hg.below hal7
      replace hR := hR.below hal7
      replace hh := hh.below hal7
      clear hal7 hal hck hfk exd q1 q2 q3 q4 q5 q6 q7 hkT2
      generalize W6.setCell ⟨g0, k, none⟩ (.int .u8 d.toNat) = W7 at *
      have hln : (T.data.toList.set k d).length = T.size := by rw [List.length_set]; simp
      have hcb := run_convert_bytes_back (P := Tryd.prog) W7 40 9 5 ⟨g0, 0, none⟩ cp (T.data.toList.set k d) Tryd.underlying40 Tryd.underlying5 Tryd.underlying9 (fun j hj => by
        have h := hset j (by omega)
        rw [List.getD_eq_getElem?_getD, List.getElem?_eq_getElem hj] at h
        rw [add_plain, Nat.zero_add, h]; rfl)
      obtain ⟨U, hU⟩ : ∃ U : ByteArray, ⟨(T.data.toList.set k d).toArray⟩ = U := ⟨_, rfl⟩
      rw [hln, hU] at hcb
      have hUl : U.data.toList = T.data.toList.set k d := by rw [← hU]
      have hUs : U.size ≤ 1000000 := by
        have h : U.data.toList.length = T.size := by rw [hUl]; exact hln
        have h2 : U.data.toList.length = U.size := by simp
        omega
      have HNO := Lib.hid (HTUR.out U k m hkT hm0 (by rw [hUl, ← HHD.out, HCC.out]))
      have HUS := Lib.hid hUs
      clear hset hln hU hUl hUs HTUR HLAY HHD HCC HMT HG0 hwg
      go_wp2_with fail
      refine (HH.out.parse U _ (HLH.out _ hB) HUS.out).mono ?_
      rintro e w8 ⟨z5, bv, rfl, _, hst4, hb8⟩
      obtain rfl : bv = false := by
        rcases hst4 with ⟨h, _⟩ | ⟨_, h2⟩
        · rw [HNO.out] at h; cases h
        · exact h2.2
      replace hP := hP.below hb8
      replace hy := hy.below hb8
      replace hB := below_then hB hb8
      replace hQ := hQ.below hb8
      replace hg := hg.below hb8
      replace hR := hR.below hb8
      replace hh := hh.below hb8
      clear hst4 hb8 HUS HNO hcb
      have hal := below_alloc (Below.refl w8.heap.size w8) (.cells #[.int .i64 z5.x.a, .int .i64 z5.x.b, .int .i64 z5.x.boot, .int .i64 z5.x.first, .slice z5.oA z5.x.os.length z5.oc, .int .i64 z5.x.pos, .slice z5.rA z5.x.rs.length z5.rc, .int .i64 z5.x.start, .slice z5.eA z5.x.es.length z5.ec, .int .i64 z5.x.ack, .int .i64 z5.x.grant, .int .i64 z5.x.s, .int .i64 z5.x.t, .slice z5.gA z5.x.gs.length z5.gc] 27)
      replace hP := hP.below hal
      replace hy := hy.below hal
      replace hB := below_then hB hal
      replace hQ := hQ.below hal
      replace hg := hg.below hal
      replace hR := hR.below hal
      replace hh := hh.below hal
      clear hal
      go_wp2_with fail
      generalize w8.alloc (.cells #[.int .i64 z5.x.a, .int .i64 z5.x.b, .int .i64 z5.x.boot, .int .i64 z5.x.first, .slice z5.oA z5.x.os.length z5.oc, .int .i64 z5.x.pos, .slice z5.rA z5.x.rs.length z5.rc, .int .i64 z5.x.start, .slice z5.eA z5.x.es.length z5.ec, .int .i64 z5.x.ack, .int .i64 z5.x.grant, .int .i64 z5.x.s, .int .i64 z5.x.t, .slice z5.gA z5.x.gs.length z5.gc] 27) = W8 at *
      refine (HAW.out _ hB).mono ?_
      rintro e w9 ⟨rfl, hb9⟩
      replace hP := hP.below hb9
      replace hy := hy.below hb9
      replace hB := below_then hB hb9
      replace hQ := hQ.below hb9
      replace hg := hg.below hb9
      replace hR := hR.below hb9
      replace hh := hh.below hb9
      clear hb9 HAW
      have hle : y.x.os.length ≤ 50000 ∧ y.x.rs.length ≤ 50000 ∧ y.x.es.length ≤ 50000 ∧ y.x.gs.length ≤ 50000 := by have := WY.l; omega
      have HH0 := HH
      have HST' := HST.out
      have HST2' := HST2.out
      clear HST HST2
      cases hby : frB y.x with
      | true =>
        have CRY := Lib.hid (fun (wx : World) (ho : y.ok wx) => (by
          have h := HH.out.right y wx WY ho
          rw [hby] at h
          exact h : Calls Tryd.prog 14 #[.agg #[.int .i64 y.x.a, .int .i64 y.x.b, .int .i64 y.x.boot, .int .i64 y.x.first, .slice y.oA y.x.os.length y.oc, .int .i64 y.x.pos, .slice y.rA y.x.rs.length y.rc, .int .i64 y.x.start, .slice y.eA y.x.es.length y.ec, .int .i64 y.x.ack, .int .i64 y.x.grant, .int .i64 y.x.s, .int .i64 y.x.t, .slice y.gA y.x.gs.length y.gc]] wx fun e w' => e = .returned (.bool true) ∧ Below wx.heap.size wx w'))
        have hself := HSELF.out hby
        rcases HST' with ⟨ht, rfl⟩ | ⟨ht, _, _⟩
        · have hgy : g.x = y.x := by rw [hself] at ht; exact (Option.some.inj ht).symm
          have CSM := Lib.hid (fun (wx : World) (ho : y.ok wx) (ho2 : g.ok wx) => refSameFr_eq y g wx hgy ho ho2 hle)
          obtain ⟨RG, hTG⟩ := fparse_bytes ht
          have CRG := Lib.hid (fun (wx : World) (ho : g.ok wx) => (by
            have h0 := HH0.out.right g wx RG.w ho
            rw [frB_iff.2 RG] at h0
            exact h0 : Calls Tryd.prog 14 #[.agg #[.int .i64 g.x.a, .int .i64 g.x.b, .int .i64 g.x.boot, .int .i64 g.x.first, .slice g.oA g.x.os.length g.oc, .int .i64 g.x.pos, .slice g.rA g.x.rs.length g.rc, .int .i64 g.x.start, .slice g.eA g.x.es.length g.ec, .int .i64 g.x.ack, .int .i64 g.x.grant, .int .i64 g.x.s, .int .i64 g.x.t, .slice g.gA g.x.gs.length g.gc]] wx fun e w' => e = .returned (.bool true) ∧ Below wx.heap.size wx w'))
          have CPG := Lib.hid (fun (wx : World) (hb : Below w.heap.size w wx) (ho : g.ok wx) => (by
            have h0 := HH0.out.print g wx (HLH.out wx hb) RG.w ho
            rw [hTG] at h0
            exact h0 : Calls Tryd.prog 16 #[.agg #[.int .i64 g.x.a, .int .i64 g.x.b, .int .i64 g.x.boot, .int .i64 g.x.first, .slice g.oA g.x.os.length g.oc, .int .i64 g.x.pos, .slice g.rA g.x.rs.length g.rc, .int .i64 g.x.start, .slice g.eA g.x.es.length g.ec, .int .i64 g.x.ack, .int .i64 g.x.grant, .int .i64 g.x.s, .int .i64 g.x.t, .slice g.gA g.x.gs.length g.gc]] wx fun e w' => e = .returned (.string T) ∧ Below wx.heap.size wx w'))
          clear RG hTG
          clear ht hgy hself hby HSELF hle WY HH
          rcases HST2' with ⟨ht, rfl⟩ | ⟨ht, hz, rfl⟩
          · skip
            obtain ⟨RH, hTH⟩ := fparse_bytes ht
            have CRH := Lib.hid (fun (wx : World) (ho : h.ok wx) => (by
              have h0 := HH0.out.right h wx RH.w ho
              rw [frB_iff.2 RH] at h0
              exact h0 : Calls Tryd.prog 14 #[.agg #[.int .i64 h.x.a, .int .i64 h.x.b, .int .i64 h.x.boot, .int .i64 h.x.first, .slice h.oA h.x.os.length h.oc, .int .i64 h.x.pos, .slice h.rA h.x.rs.length h.rc, .int .i64 h.x.start, .slice h.eA h.x.es.length h.ec, .int .i64 h.x.ack, .int .i64 h.x.grant, .int .i64 h.x.s, .int .i64 h.x.t, .slice h.gA h.x.gs.length h.gc]] wx fun e w' => e = .returned (.bool true) ∧ Below wx.heap.size wx w'))
            have CPH := Lib.hid (fun (wx : World) (hb : Below w.heap.size w wx) (ho : h.ok wx) => (by
              have h0 := HH0.out.print h wx (HLH.out wx hb) RH.w ho
              rw [hTH] at h0
              exact h0 : Calls Tryd.prog 16 #[.agg #[.int .i64 h.x.a, .int .i64 h.x.b, .int .i64 h.x.boot, .int .i64 h.x.first, .slice h.oA h.x.os.length h.oc, .int .i64 h.x.pos, .slice h.rA h.x.rs.length h.rc, .int .i64 h.x.start, .slice h.eA h.x.es.length h.ec, .int .i64 h.x.ack, .int .i64 h.x.grant, .int .i64 h.x.s, .int .i64 h.x.t, .slice h.gA h.x.gs.length h.gc]] wx fun e w' => e = .returned (.string s) ∧ Below wx.heap.size wx w'))
            clear RH hTH ht
            as_aux_lemma =>
              obtain ⟨p0, p1, p2, p3, p4, p5, p6, p7, p8, p9, p10, p11, p12, p13⟩ := frIn14 hP
              obtain ⟨q0, q1, q2, q3, q4, q5, q6, q7, q8, q9, q10, q11, q12, q13⟩ := frIn14 hQ
              obtain ⟨r0, r1, r2, r3, r4, r5, r6, r7, r8, r9, r10, r11, r12, r13⟩ := frIn14 hR
              go_wp2_with fail
              refine (CRY.out _ hy).mono ?_
              rintro e v ⟨rfl, hb⟩
              replace hP := hP.below hb
              replace hy := hy.below hb
              replace hB := below_then hB hb
              replace hQ := hQ.below hb
              replace hg := hg.below hb
              replace hR := hR.below hb
              replace hh := hh.below hb
              clear hb
              clear p0 p1 p2 p3 p4 p5 p6 p7 p8 p9 p10 p11 p12 p13 q0 q1 q2 q3 q4 q5 q6 q7 q8 q9 q10 q11 q12 q13 r0 r1 r2 r3 r4 r5 r6 r7 r8 r9 r10 r11 r12 r13
              obtain ⟨p0, p1, p2, p3, p4, p5, p6, p7, p8, p9, p10, p11, p12, p13⟩ := frIn14 hP
              obtain ⟨q0, q1, q2, q3, q4, q5, q6, q7, q8, q9, q10, q11, q12, q13⟩ := frIn14 hQ
              obtain ⟨r0, r1, r2, r3, r4, r5, r6, r7, r8, r9, r10, r11, r12, r13⟩ := frIn14 hR
              go_wp2_with fail
              refine (CSM.out _ hy hg).mono ?_
              rintro e v ⟨rfl, hb⟩
              replace hP := hP.below hb
              replace hy := hy.below hb
              replace hB := below_then hB hb
              replace hQ := hQ.below hb
              replace hg := hg.below hb
              replace hR := hR.below hb
              replace hh := hh.below hb
              clear hb
              clear p0 p1 p2 p3 p4 p5 p6 p7 p8 p9 p10 p11 p12 p13 q0 q1 q2 q3 q4 q5 q6 q7 q8 q9 q10 q11 q12 q13 r0 r1 r2 r3 r4 r5 r6 r7 r8 r9 r10 r11 r12 r13
              obtain ⟨p0, p1, p2, p3, p4, p5, p6, p7, p8, p9, p10, p11, p12, p13⟩ := frIn14 hP
              obtain ⟨q0, q1, q2, q3, q4, q5, q6, q7, q8, q9, q10, q11, q12, q13⟩ := frIn14 hQ
              obtain ⟨r0, r1, r2, r3, r4, r5, r6, r7, r8, r9, r10, r11, r12, r13⟩ := frIn14 hR
              go_wp2_with fail
              refine (CRG.out _ hg).mono ?_
              rintro e v ⟨rfl, hb⟩
              replace hP := hP.below hb
              replace hy := hy.below hb
              replace hB := below_then hB hb
              replace hQ := hQ.below hb
              replace hg := hg.below hb
              replace hR := hR.below hb
              replace hh := hh.below hb
              clear hb
              clear p0 p1 p2 p3 p4 p5 p6 p7 p8 p9 p10 p11 p12 p13 q0 q1 q2 q3 q4 q5 q6 q7 q8 q9 q10 q11 q12 q13 r0 r1 r2 r3 r4 r5 r6 r7 r8 r9 r10 r11 r12 r13
              obtain ⟨p0, p1, p2, p3, p4, p5, p6, p7, p8, p9, p10, p11, p12, p13⟩ := frIn14 hP
              obtain ⟨q0, q1, q2, q3, q4, q5, q6, q7, q8, q9, q10, q11, q12, q13⟩ := frIn14 hQ
              obtain ⟨r0, r1, r2, r3, r4, r5, r6, r7, r8, r9, r10, r11, r12, r13⟩ := frIn14 hR
              go_wp2_with fail
              refine (CPG.out _ hB hg).mono ?_
              rintro e v ⟨rfl, hb⟩
              replace hP := hP.below hb
              replace hy := hy.below hb
              replace hB := below_then hB hb
              replace hQ := hQ.below hb
              replace hg := hg.below hb
              replace hR := hR.below hb
              replace hh := hh.below hb
              clear hb
              clear p0 p1 p2 p3 p4 p5 p6 p7 p8 p9 p10 p11 p12 p13 q0 q1 q2 q3 q4 q5 q6 q7 q8 q9 q10 q11 q12 q13 r0 r1 r2 r3 r4 r5 r6 r7 r8 r9 r10 r11 r12 r13
              obtain ⟨p0, p1, p2, p3, p4, p5, p6, p7, p8, p9, p10, p11, p12, p13⟩ := frIn14 hP
              obtain ⟨q0, q1, q2, q3, q4, q5, q6, q7, q8, q9, q10, q11, q12, q13⟩ := frIn14 hQ
              obtain ⟨r0, r1, r2, r3, r4, r5, r6, r7, r8, r9, r10, r11, r12, r13⟩ := frIn14 hR
              go_wp2_with fail
              refine (CRH.out _ hh).mono ?_
              rintro e v ⟨rfl, hb⟩
              replace hP := hP.below hb
              replace hy := hy.below hb
              replace hB := below_then hB hb
              replace hQ := hQ.below hb
              replace hg := hg.below hb
              replace hR := hR.below hb
              replace hh := hh.below hb
              clear hb
              clear p0 p1 p2 p3 p4 p5 p6 p7 p8 p9 p10 p11 p12 p13 q0 q1 q2 q3 q4 q5 q6 q7 q8 q9 q10 q11 q12 q13 r0 r1 r2 r3 r4 r5 r6 r7 r8 r9 r10 r11 r12 r13
              obtain ⟨p0, p1, p2, p3, p4, p5, p6, p7, p8, p9, p10, p11, p12, p13⟩ := frIn14 hP
              obtain ⟨q0, q1, q2, q3, q4, q5, q6, q7, q8, q9, q10, q11, q12, q13⟩ := frIn14 hQ
              obtain ⟨r0, r1, r2, r3, r4, r5, r6, r7, r8, r9, r10, r11, r12, r13⟩ := frIn14 hR
              go_wp2_with fail
              refine (CPH.out _ hB hh).mono ?_
              rintro e v ⟨rfl, hb⟩
              replace hP := hP.below hb
              replace hy := hy.below hb
              replace hB := below_then hB hb
              replace hQ := hQ.below hb
              replace hg := hg.below hb
              replace hR := hR.below hb
              replace hh := hh.below hb
              clear hb
              clear p0 p1 p2 p3 p4 p5 p6 p7 p8 p9 p10 p11 p12 p13 q0 q1 q2 q3 q4 q5 q6 q7 q8 q9 q10 q11 q12 q13 r0 r1 r2 r3 r4 r5 r6 r7 r8 r9 r10 r11 r12 r13
              go_wp2_with fail
              go_ret
              exact ⟨rfl, hB⟩
          · clear ht hz
            as_aux_lemma =>
              obtain ⟨p0, p1, p2, p3, p4, p5, p6, p7, p8, p9, p10, p11, p12, p13⟩ := frIn14 hP
              obtain ⟨q0, q1, q2, q3, q4, q5, q6, q7, q8, q9, q10, q11, q12, q13⟩ := frIn14 hQ
              obtain ⟨r0, r1, r2, r3, r4, r5, r6, r7, r8, r9, r10, r11, r12, r13⟩ := frIn14 hR
              go_wp2_with fail
              refine (CRY.out _ hy).mono ?_
              rintro e v ⟨rfl, hb⟩
              replace hP := hP.below hb
              replace hy := hy.below hb
              replace hB := below_then hB hb
              replace hQ := hQ.below hb
              replace hg := hg.below hb
              replace hR := hR.below hb
              replace hh := hh.below hb
              clear hb
              clear p0 p1 p2 p3 p4 p5 p6 p7 p8 p9 p10 p11 p12 p13 q0 q1 q2 q3 q4 q5 q6 q7 q8 q9 q10 q11 q12 q13 r0 r1 r2 r3 r4 r5 r6 r7 r8 r9 r10 r11 r12 r13
              obtain ⟨p0, p1, p2, p3, p4, p5, p6, p7, p8, p9, p10, p11, p12, p13⟩ := frIn14 hP
              obtain ⟨q0, q1, q2, q3, q4, q5, q6, q7, q8, q9, q10, q11, q12, q13⟩ := frIn14 hQ
              obtain ⟨r0, r1, r2, r3, r4, r5, r6, r7, r8, r9, r10, r11, r12, r13⟩ := frIn14 hR
              go_wp2_with fail
              refine (CSM.out _ hy hg).mono ?_
              rintro e v ⟨rfl, hb⟩
              replace hP := hP.below hb
              replace hy := hy.below hb
              replace hB := below_then hB hb
              replace hQ := hQ.below hb
              replace hg := hg.below hb
              replace hR := hR.below hb
              replace hh := hh.below hb
              clear hb
              clear p0 p1 p2 p3 p4 p5 p6 p7 p8 p9 p10 p11 p12 p13 q0 q1 q2 q3 q4 q5 q6 q7 q8 q9 q10 q11 q12 q13 r0 r1 r2 r3 r4 r5 r6 r7 r8 r9 r10 r11 r12 r13
              obtain ⟨p0, p1, p2, p3, p4, p5, p6, p7, p8, p9, p10, p11, p12, p13⟩ := frIn14 hP
              obtain ⟨q0, q1, q2, q3, q4, q5, q6, q7, q8, q9, q10, q11, q12, q13⟩ := frIn14 hQ
              obtain ⟨r0, r1, r2, r3, r4, r5, r6, r7, r8, r9, r10, r11, r12, r13⟩ := frIn14 hR
              go_wp2_with fail
              refine (CRG.out _ hg).mono ?_
              rintro e v ⟨rfl, hb⟩
              replace hP := hP.below hb
              replace hy := hy.below hb
              replace hB := below_then hB hb
              replace hQ := hQ.below hb
              replace hg := hg.below hb
              replace hR := hR.below hb
              replace hh := hh.below hb
              clear hb
              clear p0 p1 p2 p3 p4 p5 p6 p7 p8 p9 p10 p11 p12 p13 q0 q1 q2 q3 q4 q5 q6 q7 q8 q9 q10 q11 q12 q13 r0 r1 r2 r3 r4 r5 r6 r7 r8 r9 r10 r11 r12 r13
              obtain ⟨p0, p1, p2, p3, p4, p5, p6, p7, p8, p9, p10, p11, p12, p13⟩ := frIn14 hP
              obtain ⟨q0, q1, q2, q3, q4, q5, q6, q7, q8, q9, q10, q11, q12, q13⟩ := frIn14 hQ
              obtain ⟨r0, r1, r2, r3, r4, r5, r6, r7, r8, r9, r10, r11, r12, r13⟩ := frIn14 hR
              go_wp2_with fail
              refine (CPG.out _ hB hg).mono ?_
              rintro e v ⟨rfl, hb⟩
              replace hP := hP.below hb
              replace hy := hy.below hb
              replace hB := below_then hB hb
              replace hQ := hQ.below hb
              replace hg := hg.below hb
              replace hR := hR.below hb
              replace hh := hh.below hb
              clear hb
              clear p0 p1 p2 p3 p4 p5 p6 p7 p8 p9 p10 p11 p12 p13 q0 q1 q2 q3 q4 q5 q6 q7 q8 q9 q10 q11 q12 q13 r0 r1 r2 r3 r4 r5 r6 r7 r8 r9 r10 r11 r12 r13
              go_wp2_with fail
              go_ret
              exact ⟨rfl, hB⟩
        · rw [hself] at ht; cases ht
      | false =>
        have CRY := Lib.hid (fun (wx : World) (ho : y.ok wx) => (by
          have h := HH.out.right y wx WY ho
          rw [hby] at h
          exact h : Calls Tryd.prog 14 #[.agg #[.int .i64 y.x.a, .int .i64 y.x.b, .int .i64 y.x.boot, .int .i64 y.x.first, .slice y.oA y.x.os.length y.oc, .int .i64 y.x.pos, .slice y.rA y.x.rs.length y.rc, .int .i64 y.x.start, .slice y.eA y.x.es.length y.ec, .int .i64 y.x.ack, .int .i64 y.x.grant, .int .i64 y.x.s, .int .i64 y.x.t, .slice y.gA y.x.gs.length y.gc]] wx fun e w' => e = .returned (.bool false) ∧ Below wx.heap.size wx w'))
        clear hby HSELF hle
        rcases HST' with ⟨ht, rfl⟩ | ⟨ht, hz, rfl⟩
        · skip
          obtain ⟨RG, hTG⟩ := fparse_bytes ht
          have CRG := Lib.hid (fun (wx : World) (ho : g.ok wx) => (by
            have h0 := HH0.out.right g wx RG.w ho
            rw [frB_iff.2 RG] at h0
            exact h0 : Calls Tryd.prog 14 #[.agg #[.int .i64 g.x.a, .int .i64 g.x.b, .int .i64 g.x.boot, .int .i64 g.x.first, .slice g.oA g.x.os.length g.oc, .int .i64 g.x.pos, .slice g.rA g.x.rs.length g.rc, .int .i64 g.x.start, .slice g.eA g.x.es.length g.ec, .int .i64 g.x.ack, .int .i64 g.x.grant, .int .i64 g.x.s, .int .i64 g.x.t, .slice g.gA g.x.gs.length g.gc]] wx fun e w' => e = .returned (.bool true) ∧ Below wx.heap.size wx w'))
          have CPG := Lib.hid (fun (wx : World) (hb : Below w.heap.size w wx) (ho : g.ok wx) => (by
            have h0 := HH0.out.print g wx (HLH.out wx hb) RG.w ho
            rw [hTG] at h0
            exact h0 : Calls Tryd.prog 16 #[.agg #[.int .i64 g.x.a, .int .i64 g.x.b, .int .i64 g.x.boot, .int .i64 g.x.first, .slice g.oA g.x.os.length g.oc, .int .i64 g.x.pos, .slice g.rA g.x.rs.length g.rc, .int .i64 g.x.start, .slice g.eA g.x.es.length g.ec, .int .i64 g.x.ack, .int .i64 g.x.grant, .int .i64 g.x.s, .int .i64 g.x.t, .slice g.gA g.x.gs.length g.gc]] wx fun e w' => e = .returned (.string T) ∧ Below wx.heap.size wx w'))
          clear RG hTG
          clear ht WY HH
          rcases HST2' with ⟨ht, rfl⟩ | ⟨ht, hz, rfl⟩
          · skip
            obtain ⟨RH, hTH⟩ := fparse_bytes ht
            have CRH := Lib.hid (fun (wx : World) (ho : h.ok wx) => (by
              have h0 := HH0.out.right h wx RH.w ho
              rw [frB_iff.2 RH] at h0
              exact h0 : Calls Tryd.prog 14 #[.agg #[.int .i64 h.x.a, .int .i64 h.x.b, .int .i64 h.x.boot, .int .i64 h.x.first, .slice h.oA h.x.os.length h.oc, .int .i64 h.x.pos, .slice h.rA h.x.rs.length h.rc, .int .i64 h.x.start, .slice h.eA h.x.es.length h.ec, .int .i64 h.x.ack, .int .i64 h.x.grant, .int .i64 h.x.s, .int .i64 h.x.t, .slice h.gA h.x.gs.length h.gc]] wx fun e w' => e = .returned (.bool true) ∧ Below wx.heap.size wx w'))
            have CPH := Lib.hid (fun (wx : World) (hb : Below w.heap.size w wx) (ho : h.ok wx) => (by
              have h0 := HH0.out.print h wx (HLH.out wx hb) RH.w ho
              rw [hTH] at h0
              exact h0 : Calls Tryd.prog 16 #[.agg #[.int .i64 h.x.a, .int .i64 h.x.b, .int .i64 h.x.boot, .int .i64 h.x.first, .slice h.oA h.x.os.length h.oc, .int .i64 h.x.pos, .slice h.rA h.x.rs.length h.rc, .int .i64 h.x.start, .slice h.eA h.x.es.length h.ec, .int .i64 h.x.ack, .int .i64 h.x.grant, .int .i64 h.x.s, .int .i64 h.x.t, .slice h.gA h.x.gs.length h.gc]] wx fun e w' => e = .returned (.string s) ∧ Below wx.heap.size wx w'))
            clear RH hTH ht
            as_aux_lemma =>
              obtain ⟨p0, p1, p2, p3, p4, p5, p6, p7, p8, p9, p10, p11, p12, p13⟩ := frIn14 hP
              obtain ⟨q0, q1, q2, q3, q4, q5, q6, q7, q8, q9, q10, q11, q12, q13⟩ := frIn14 hQ
              obtain ⟨r0, r1, r2, r3, r4, r5, r6, r7, r8, r9, r10, r11, r12, r13⟩ := frIn14 hR
              go_wp2_with fail
              refine (CRY.out _ hy).mono ?_
              rintro e v ⟨rfl, hb⟩
              replace hP := hP.below hb
              replace hy := hy.below hb
              replace hB := below_then hB hb
              replace hQ := hQ.below hb
              replace hg := hg.below hb
              replace hR := hR.below hb
              replace hh := hh.below hb
              clear hb
              clear p0 p1 p2 p3 p4 p5 p6 p7 p8 p9 p10 p11 p12 p13 q0 q1 q2 q3 q4 q5 q6 q7 q8 q9 q10 q11 q12 q13 r0 r1 r2 r3 r4 r5 r6 r7 r8 r9 r10 r11 r12 r13
              obtain ⟨p0, p1, p2, p3, p4, p5, p6, p7, p8, p9, p10, p11, p12, p13⟩ := frIn14 hP
              obtain ⟨q0, q1, q2, q3, q4, q5, q6, q7, q8, q9, q10, q11, q12, q13⟩ := frIn14 hQ
              obtain ⟨r0, r1, r2, r3, r4, r5, r6, r7, r8, r9, r10, r11, r12, r13⟩ := frIn14 hR
              go_wp2_with fail
              refine (CRG.out _ hg).mono ?_
              rintro e v ⟨rfl, hb⟩
              replace hP := hP.below hb
              replace hy := hy.below hb
              replace hB := below_then hB hb
              replace hQ := hQ.below hb
              replace hg := hg.below hb
              replace hR := hR.below hb
              replace hh := hh.below hb
              clear hb
              clear p0 p1 p2 p3 p4 p5 p6 p7 p8 p9 p10 p11 p12 p13 q0 q1 q2 q3 q4 q5 q6 q7 q8 q9 q10 q11 q12 q13 r0 r1 r2 r3 r4 r5 r6 r7 r8 r9 r10 r11 r12 r13
              obtain ⟨p0, p1, p2, p3, p4, p5, p6, p7, p8, p9, p10, p11, p12, p13⟩ := frIn14 hP
              obtain ⟨q0, q1, q2, q3, q4, q5, q6, q7, q8, q9, q10, q11, q12, q13⟩ := frIn14 hQ
              obtain ⟨r0, r1, r2, r3, r4, r5, r6, r7, r8, r9, r10, r11, r12, r13⟩ := frIn14 hR
              go_wp2_with fail
              refine (CPG.out _ hB hg).mono ?_
              rintro e v ⟨rfl, hb⟩
              replace hP := hP.below hb
              replace hy := hy.below hb
              replace hB := below_then hB hb
              replace hQ := hQ.below hb
              replace hg := hg.below hb
              replace hR := hR.below hb
              replace hh := hh.below hb
              clear hb
              clear p0 p1 p2 p3 p4 p5 p6 p7 p8 p9 p10 p11 p12 p13 q0 q1 q2 q3 q4 q5 q6 q7 q8 q9 q10 q11 q12 q13 r0 r1 r2 r3 r4 r5 r6 r7 r8 r9 r10 r11 r12 r13
              obtain ⟨p0, p1, p2, p3, p4, p5, p6, p7, p8, p9, p10, p11, p12, p13⟩ := frIn14 hP
              obtain ⟨q0, q1, q2, q3, q4, q5, q6, q7, q8, q9, q10, q11, q12, q13⟩ := frIn14 hQ
              obtain ⟨r0, r1, r2, r3, r4, r5, r6, r7, r8, r9, r10, r11, r12, r13⟩ := frIn14 hR
              go_wp2_with fail
              refine (CRH.out _ hh).mono ?_
              rintro e v ⟨rfl, hb⟩
              replace hP := hP.below hb
              replace hy := hy.below hb
              replace hB := below_then hB hb
              replace hQ := hQ.below hb
              replace hg := hg.below hb
              replace hR := hR.below hb
              replace hh := hh.below hb
              clear hb
              clear p0 p1 p2 p3 p4 p5 p6 p7 p8 p9 p10 p11 p12 p13 q0 q1 q2 q3 q4 q5 q6 q7 q8 q9 q10 q11 q12 q13 r0 r1 r2 r3 r4 r5 r6 r7 r8 r9 r10 r11 r12 r13
              obtain ⟨p0, p1, p2, p3, p4, p5, p6, p7, p8, p9, p10, p11, p12, p13⟩ := frIn14 hP
              obtain ⟨q0, q1, q2, q3, q4, q5, q6, q7, q8, q9, q10, q11, q12, q13⟩ := frIn14 hQ
              obtain ⟨r0, r1, r2, r3, r4, r5, r6, r7, r8, r9, r10, r11, r12, r13⟩ := frIn14 hR
              go_wp2_with fail
              refine (CPH.out _ hB hh).mono ?_
              rintro e v ⟨rfl, hb⟩
              replace hP := hP.below hb
              replace hy := hy.below hb
              replace hB := below_then hB hb
              replace hQ := hQ.below hb
              replace hg := hg.below hb
              replace hR := hR.below hb
              replace hh := hh.below hb
              clear hb
              clear p0 p1 p2 p3 p4 p5 p6 p7 p8 p9 p10 p11 p12 p13 q0 q1 q2 q3 q4 q5 q6 q7 q8 q9 q10 q11 q12 q13 r0 r1 r2 r3 r4 r5 r6 r7 r8 r9 r10 r11 r12 r13
              go_wp2_with fail
              go_ret
              exact ⟨rfl, hB⟩
          · clear ht hz
            as_aux_lemma =>
              obtain ⟨p0, p1, p2, p3, p4, p5, p6, p7, p8, p9, p10, p11, p12, p13⟩ := frIn14 hP
              obtain ⟨q0, q1, q2, q3, q4, q5, q6, q7, q8, q9, q10, q11, q12, q13⟩ := frIn14 hQ
              obtain ⟨r0, r1, r2, r3, r4, r5, r6, r7, r8, r9, r10, r11, r12, r13⟩ := frIn14 hR
              go_wp2_with fail
              refine (CRY.out _ hy).mono ?_
              rintro e v ⟨rfl, hb⟩
              replace hP := hP.below hb
              replace hy := hy.below hb
              replace hB := below_then hB hb
              replace hQ := hQ.below hb
              replace hg := hg.below hb
              replace hR := hR.below hb
              replace hh := hh.below hb
              clear hb
              clear p0 p1 p2 p3 p4 p5 p6 p7 p8 p9 p10 p11 p12 p13 q0 q1 q2 q3 q4 q5 q6 q7 q8 q9 q10 q11 q12 q13 r0 r1 r2 r3 r4 r5 r6 r7 r8 r9 r10 r11 r12 r13
              obtain ⟨p0, p1, p2, p3, p4, p5, p6, p7, p8, p9, p10, p11, p12, p13⟩ := frIn14 hP
              obtain ⟨q0, q1, q2, q3, q4, q5, q6, q7, q8, q9, q10, q11, q12, q13⟩ := frIn14 hQ
              obtain ⟨r0, r1, r2, r3, r4, r5, r6, r7, r8, r9, r10, r11, r12, r13⟩ := frIn14 hR
              go_wp2_with fail
              refine (CRG.out _ hg).mono ?_
              rintro e v ⟨rfl, hb⟩
              replace hP := hP.below hb
              replace hy := hy.below hb
              replace hB := below_then hB hb
              replace hQ := hQ.below hb
              replace hg := hg.below hb
              replace hR := hR.below hb
              replace hh := hh.below hb
              clear hb
              clear p0 p1 p2 p3 p4 p5 p6 p7 p8 p9 p10 p11 p12 p13 q0 q1 q2 q3 q4 q5 q6 q7 q8 q9 q10 q11 q12 q13 r0 r1 r2 r3 r4 r5 r6 r7 r8 r9 r10 r11 r12 r13
              obtain ⟨p0, p1, p2, p3, p4, p5, p6, p7, p8, p9, p10, p11, p12, p13⟩ := frIn14 hP
              obtain ⟨q0, q1, q2, q3, q4, q5, q6, q7, q8, q9, q10, q11, q12, q13⟩ := frIn14 hQ
              obtain ⟨r0, r1, r2, r3, r4, r5, r6, r7, r8, r9, r10, r11, r12, r13⟩ := frIn14 hR
              go_wp2_with fail
              refine (CPG.out _ hB hg).mono ?_
              rintro e v ⟨rfl, hb⟩
              replace hP := hP.below hb
              replace hy := hy.below hb
              replace hB := below_then hB hb
              replace hQ := hQ.below hb
              replace hg := hg.below hb
              replace hR := hR.below hb
              replace hh := hh.below hb
              clear hb
              clear p0 p1 p2 p3 p4 p5 p6 p7 p8 p9 p10 p11 p12 p13 q0 q1 q2 q3 q4 q5 q6 q7 q8 q9 q10 q11 q12 q13 r0 r1 r2 r3 r4 r5 r6 r7 r8 r9 r10 r11 r12 r13
              go_wp2_with fail
              go_ret
              exact ⟨rfl, hB⟩
        · clear ht hz WY
          rcases HST2' with ⟨ht, rfl⟩ | ⟨ht, hz, rfl⟩
          · skip
            obtain ⟨RH, hTH⟩ := fparse_bytes ht
            have CRH := Lib.hid (fun (wx : World) (ho : h.ok wx) => (by
              have h0 := HH0.out.right h wx RH.w ho
              rw [frB_iff.2 RH] at h0
              exact h0 : Calls Tryd.prog 14 #[.agg #[.int .i64 h.x.a, .int .i64 h.x.b, .int .i64 h.x.boot, .int .i64 h.x.first, .slice h.oA h.x.os.length h.oc, .int .i64 h.x.pos, .slice h.rA h.x.rs.length h.rc, .int .i64 h.x.start, .slice h.eA h.x.es.length h.ec, .int .i64 h.x.ack, .int .i64 h.x.grant, .int .i64 h.x.s, .int .i64 h.x.t, .slice h.gA h.x.gs.length h.gc]] wx fun e w' => e = .returned (.bool true) ∧ Below wx.heap.size wx w'))
            have CPH := Lib.hid (fun (wx : World) (hb : Below w.heap.size w wx) (ho : h.ok wx) => (by
              have h0 := HH0.out.print h wx (HLH.out wx hb) RH.w ho
              rw [hTH] at h0
              exact h0 : Calls Tryd.prog 16 #[.agg #[.int .i64 h.x.a, .int .i64 h.x.b, .int .i64 h.x.boot, .int .i64 h.x.first, .slice h.oA h.x.os.length h.oc, .int .i64 h.x.pos, .slice h.rA h.x.rs.length h.rc, .int .i64 h.x.start, .slice h.eA h.x.es.length h.ec, .int .i64 h.x.ack, .int .i64 h.x.grant, .int .i64 h.x.s, .int .i64 h.x.t, .slice h.gA h.x.gs.length h.gc]] wx fun e w' => e = .returned (.string s) ∧ Below wx.heap.size wx w'))
            clear RH hTH ht
            as_aux_lemma =>
              obtain ⟨p0, p1, p2, p3, p4, p5, p6, p7, p8, p9, p10, p11, p12, p13⟩ := frIn14 hP
              obtain ⟨q0, q1, q2, q3, q4, q5, q6, q7, q8, q9, q10, q11, q12, q13⟩ := frIn14 hQ
              obtain ⟨r0, r1, r2, r3, r4, r5, r6, r7, r8, r9, r10, r11, r12, r13⟩ := frIn14 hR
              go_wp2_with fail
              refine (CRY.out _ hy).mono ?_
              rintro e v ⟨rfl, hb⟩
              replace hP := hP.below hb
              replace hy := hy.below hb
              replace hB := below_then hB hb
              replace hQ := hQ.below hb
              replace hg := hg.below hb
              replace hR := hR.below hb
              replace hh := hh.below hb
              clear hb
              clear p0 p1 p2 p3 p4 p5 p6 p7 p8 p9 p10 p11 p12 p13 q0 q1 q2 q3 q4 q5 q6 q7 q8 q9 q10 q11 q12 q13 r0 r1 r2 r3 r4 r5 r6 r7 r8 r9 r10 r11 r12 r13
              obtain ⟨p0, p1, p2, p3, p4, p5, p6, p7, p8, p9, p10, p11, p12, p13⟩ := frIn14 hP
              obtain ⟨q0, q1, q2, q3, q4, q5, q6, q7, q8, q9, q10, q11, q12, q13⟩ := frIn14 hQ
              obtain ⟨r0, r1, r2, r3, r4, r5, r6, r7, r8, r9, r10, r11, r12, r13⟩ := frIn14 hR
              go_wp2_with fail
              refine (CRH.out _ hh).mono ?_
              rintro e v ⟨rfl, hb⟩
              replace hP := hP.below hb
              replace hy := hy.below hb
              replace hB := below_then hB hb
              replace hQ := hQ.below hb
              replace hg := hg.below hb
              replace hR := hR.below hb
              replace hh := hh.below hb
              clear hb
              clear p0 p1 p2 p3 p4 p5 p6 p7 p8 p9 p10 p11 p12 p13 q0 q1 q2 q3 q4 q5 q6 q7 q8 q9 q10 q11 q12 q13 r0 r1 r2 r3 r4 r5 r6 r7 r8 r9 r10 r11 r12 r13
              obtain ⟨p0, p1, p2, p3, p4, p5, p6, p7, p8, p9, p10, p11, p12, p13⟩ := frIn14 hP
              obtain ⟨q0, q1, q2, q3, q4, q5, q6, q7, q8, q9, q10, q11, q12, q13⟩ := frIn14 hQ
              obtain ⟨r0, r1, r2, r3, r4, r5, r6, r7, r8, r9, r10, r11, r12, r13⟩ := frIn14 hR
              go_wp2_with fail
              refine (CPH.out _ hB hh).mono ?_
              rintro e v ⟨rfl, hb⟩
              replace hP := hP.below hb
              replace hy := hy.below hb
              replace hB := below_then hB hb
              replace hQ := hQ.below hb
              replace hg := hg.below hb
              replace hR := hR.below hb
              replace hh := hh.below hb
              clear hb
              clear p0 p1 p2 p3 p4 p5 p6 p7 p8 p9 p10 p11 p12 p13 q0 q1 q2 q3 q4 q5 q6 q7 q8 q9 q10 q11 q12 q13 r0 r1 r2 r3 r4 r5 r6 r7 r8 r9 r10 r11 r12 r13
              go_wp2_with fail
              go_ret
              exact ⟨rfl, hB⟩
          · clear ht hz
            as_aux_lemma =>
              obtain ⟨p0, p1, p2, p3, p4, p5, p6, p7, p8, p9, p10, p11, p12, p13⟩ := frIn14 hP
              obtain ⟨q0, q1, q2, q3, q4, q5, q6, q7, q8, q9, q10, q11, q12, q13⟩ := frIn14 hQ
              obtain ⟨r0, r1, r2, r3, r4, r5, r6, r7, r8, r9, r10, r11, r12, r13⟩ := frIn14 hR
              go_wp2_with fail
              refine (CRY.out _ hy).mono ?_
              rintro e v ⟨rfl, hb⟩
              replace hP := hP.below hb
              replace hy := hy.below hb
              replace hB := below_then hB hb
              replace hQ := hQ.below hb
              replace hg := hg.below hb
              replace hR := hR.below hb
              replace hh := hh.below hb
              clear hb
              clear p0 p1 p2 p3 p4 p5 p6 p7 p8 p9 p10 p11 p12 p13 q0 q1 q2 q3 q4 q5 q6 q7 q8 q9 q10 q11 q12 q13 r0 r1 r2 r3 r4 r5 r6 r7 r8 r9 r10 r11 r12 r13
              go_wp2_with fail
              go_ret
              exact ⟨rfl, hB⟩
set_option maxRecDepth 100000 in
theorem back15_lifted (H0 : FrameCalls) (os : Os) (started : os.Started) (H : Type) (enc : TypeId × Value → H) :
    ReturnsInHanded {} Tryd.checked os 5 .any (fun w args => (Rows.frameBackSpec.pre enc Tryd.prog Tryd.f5 [] false w args ∧ laidMetH Tryd.prog laid1 w) ∧ sizedMet enc Tryd.prog Tryd.f5 (OpenSpec.ofChange Rows.frameBackSpec) false w args) (Rows.frameBackSpec.post enc Tryd.prog Tryd.f5 false true false false) := by
  refine returnsInHanded_of_change_and (C := Tryd.checked) (X := fun w _ => laidMetH Tryd.prog laid1 w) (fun _ _ _ hh h => h.of_heap hh) own started (by kernel_rfl) Tryd.func5
    (ChangeSpec.witness_shaped (enc := enc) (C := Tryd.checked) (os := os) (X := fun w _ => laidMetH Tryd.prog laid1 w) false (World.doorLaid Tryd.prog 14 os) #[.agg #[.int .i64 0, .int .i64 0, .int .i64 0, .int .i64 0, .slice none 0 0, .int .i64 0, .slice none 0 0, .int .i64 0, .slice none 0 0, .int .i64 0, .int .i64 0, .int .i64 0, .int .i64 0, .slice none 0 0], .string ⟨#[]⟩, .int .u16 0] 8 rfl (World.shaped_of_RefB (by kernel_rfl) (by kernel_rfl)) (by kernel_rfl) (by kernel_rfl) (by kernel_rfl) (door_met os _)) ?_
  intro W base args ds gs before hval0 hW _ hL0 hL _
  have hval : ∀ (j : Nat) t v, Tryd.f5.params[j]? = some t → args[j]? = some v → Value.okWide Tryd.prog W .any base t v := hval0
  have hW' := hW
  obtain ⟨p, q, hA0, hV, rfl, _, _⟩ := hW
  have hA : DataW.TrodAll enc Tryd.prog W 0 (fun _ => true) true Tryd.f5.params.toList args.toList ds p := hA0
  rw [Tryd.params5] at hA hval
  have hsz := hL0
  obtain ⟨v0, v1, v2, d0, d1, d2, p0, p1, p2, rfl, rfl, rfl, h0, h1, h2⟩ := trodAll_three hA
  simp only [Tryd.params5, List.cons_append, List.nil_append, DataW.weightsEach, List.all_append, Bool.and_eq_true] at hsz
  obtain ⟨y, rfl, hy, ny, ly⟩ := open_fr (hval 0 27 v0 rfl rfl) h0 hsz.1
  obtain ⟨s, rfl, hs⟩ := open_str (hval 1 9 v1 rfl rfl) h1
  obtain ⟨a, rfl, ha⟩ := open_u16F (hval 2 39 v2 rfl rfl) h2
  have hl := of_laid hL
  have hc : Calls Tryd.prog 5 #[.agg #[.int .i64 y.x.a, .int .i64 y.x.b, .int .i64 y.x.boot, .int .i64 y.x.first, .slice y.oA y.x.os.length y.oc, .int .i64 y.x.pos, .slice y.rA y.x.rs.length y.rc, .int .i64 y.x.start, .slice y.eA y.x.es.length y.ec, .int .i64 y.x.ack, .int .i64 y.x.grant, .int .i64 y.x.s, .int .i64 y.x.t, .slice y.gA y.x.gs.length y.gc], .string s, .int .u16 a] W fun e w' => e = .returned (.bool true) ∧ Below W.heap.size W w' := by
    exact back15_walk H0 y s a W hl hy ny ly hs ha
  refine hc.mono fun e W' ⟨he, hb⟩ => ?_
  subst he
  exact ⟨_, rfl, Frm.law_post (by kernel_rfl) (by kernel_rfl) (by kernel_rfl) Tryd.underlying4 rfl rfl hW' hb⟩

theorem back15_said (H0 : FrameCalls) : Rows.FrameBackSaid :=
  OpenClaim.holds_of_wide 5 Tryd.f5 rfl rfl rfl rfl rfl rfl rfl ⟨rfl, rfl, rfl, rfl, rfl⟩ rfl rfl rfl rfl rfl (by kernel_rfl) Tryd.func5 (by kernel_rfl)
    (of_decide_eq_true (by kernel_rfl)) (by unfold Func.isWrapper; first | (rw [if_pos (by decide +kernel)]; kernel_rfl) | (rw [if_neg (by decide +kernel)]; exact ⟨rfl, rfl⟩))
    (fun os started H enc _ => back15_lifted H0 os started H enc)

theorem back15_holds (H0 : FrameCalls) : Rows.FrameBackCardSaid :=
  Claim7.holds_tied_plain_at .later [] [.data] true (true, "592bd563c67d30f64e5f2d516a984832c0f7d2e182453aec19ea26cfb8f3d092") false
    (back15_said H0) (fun _ h => by cases h) (by kernel_rfl) (fun _ h => by cases h) frameBack_row_tie rfl ⟨rfl, rfl⟩ (by kernel_rfl) rfl
    (fun f fn hf hfn => by
      obtain rfl : f = 5 := Option.some.inj ((show Tryd.prog.funcNamed "bargeman/bargemanlaw15.FrameBack" = some 5 by kernel_rfl).symm.trans hf) |>.symm
      obtain rfl : fn = Tryd.f5 := (Option.some.inj (Tryd.func5.symm.trans hfn)).symm
      exact ⟨by kernel_rfl, fun j t ht => by
        rw [Tryd.params5] at ht
        have hm : t ∈ [27, 9, 39] := by simpa using Array.mem_of_getElem? ht
        have hall : ([27, 9, 39].all fun u => !Tryd.prog.wantsStandIn u) = true := by kernel_rfl
        exact (show Tryd.prog.wantsStandIn t = false by simpa using List.all_eq_true.1 hall t hm)⟩)
    (by kernel_rfl)
end Go.Proofs.YtndahomgglpdhaaDoor

namespace Go.Proofs.YtndahomgglpdhaaDoor
theorem frameBack_all : Rows.FrameBackCardSaid := back15_holds frameCalls
end Go.Proofs.YtndahomgglpdhaaDoor
