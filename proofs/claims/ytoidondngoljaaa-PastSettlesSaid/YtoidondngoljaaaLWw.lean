/- PastSettles is proved: what is settled changes nothing of the tree, nor of one that more operations make, as long as none comes too late. Conditions: none. -/
import Derived.Test.YtoidondngoljaaaB06
import Derived.Test.YtoidondngoljaaaRows
namespace Go.Proofs.Ytoidondngoljaaa
open Go.ChangeShapes Go.WideShapes Go.ChangeAt Go.RowKit Go.Deep Nam Cod Tre Pst

theorem settle_now {q : Pv} (h : PInv q) (t : Int) : (settleV q t).now = q.now := by
  by_cases ht : t ≤ q.t
  · rw [settleV_late' ht]
  · rw [h.settle_eq ht]
theorem settle_t {q : Pv} (t : Int) (h : q.t ≤ t) : (settleV q t).t = t := by
  by_cases ht : t ≤ q.t
  · rw [settleV_late' ht]; omega
  · unfold settleV; rw [if_neg ht]
theorem add_t (q : Pv) (m : Mv) : (addV q m).1.t = q.t := by
  unfold addV
  split
  · rfl
  · split <;> rfl
theorem settle_add {q : Pv} (h : PInv q) {m : Mv} {t : Int} (ht : t < m.C) : addV (settleV q t) m = (settleV (addV q m).1 t, (addV q m).2) := by
  by_cases h1 : t ≤ q.t
  · rw [settleV_late' h1, settleV_late' (show t ≤ (addV q m).1.t by rw [add_t]; exact h1)]
  · have hgt : ¬ m.C ≤ q.t := by omega
    have e : settleV q t = ⟨(foldL q.base (mvs (q.ops.take (upto Mv.C q.ops t)))).1, t, q.ops.drop (upto Mv.C q.ops t), (foldL (foldL q.base (mvs (q.ops.take (upto Mv.C q.ops t)))).1 (mvs (q.ops.drop (upto Mv.C q.ops t)))).2, (foldL (foldL q.base (mvs (q.ops.take (upto Mv.C q.ops t)))).1 (mvs (q.ops.drop (upto Mv.C q.ops t)))).1⟩ := by unfold settleV; rw [if_neg h1]
    have hc := has_cut h.ris (d := Mv.D) ht
    rcases hh : has Mv.C Mv.D q.ops m with _ | _
    · rw [addV_new' hgt hh]
      rw [hh] at hc
      rw [e, addV_new' (q := ⟨_, t, _, _, _⟩) (show ¬ m.C ≤ t by omega) hc.symm]
      have hi := ins_cut h.ris (d := Mv.D) ht
      have hu := upto_ins h.ris (d := Mv.D) ht
      have hk := upto_le (c := Mv.C) q.ops t
      have ht1 : (insL Mv.C Mv.D q.ops m).take (upto Mv.C q.ops t) = q.ops.take (upto Mv.C q.ops t) := by
        rw [hi]; exact List.take_left' (by rw [List.length_take]; omega)
      have ht2 : (insL Mv.C Mv.D q.ops m).drop (upto Mv.C q.ops t) = insL Mv.C Mv.D (q.ops.drop (upto Mv.C q.ops t)) m := by
        conv => lhs; rw [hi]
        exact List.drop_left' (by rw [List.length_take]; omega)
      congr 1
      unfold settleV
      rw [if_neg (show ¬ t ≤ q.t from h1)]
      simp only [hu, ht1, ht2]
    · rw [addV_same' hgt hh]
      rw [hh] at hc
      rw [e, addV_same' (q := ⟨_, t, _, _, _⟩) (show ¬ m.C ≤ t by omega) hc.symm]

theorem settles_no (A : Option Addr) (c : Nat) (l : List Mv) (t : Int) (A2 : Option Addr) (c2 : Nat) (l2 : List Mv) (w : World) (hsz : ∀ m ∈ l, m.s.size ≤ 9223372036854775807) (hsz2 : ∀ m ∈ l2, m.s.size ≤ 9223372036854775807) (hT : opE.Sl w A l) (hT2 : opE.Sl w A2 l2) (h : ¬ Fine l ∨ (Fine l ∧ ¬ Fine l2)) :
    Calls Try.prog 6 #[.slice A l.length c, .int .u8 t, .slice A2 l2.length c2] w fun e w' => e = .returned (.bool true) ∧ Below w.heap.size w w' := by
  rcases h with h | ⟨h, h2⟩
  · have HC1 := Lib.hid (fine_any A c l w hsz hT false ⟨fun e => (by cases e), fun k => absurd k h⟩)
    go_enter Try.func6, Try.ntmps6
    go_wp2_with fail
    refine HC1.out.mono ?_
    rintro e w1 ⟨rfl, hb1⟩
    go_wp2_with fail
    refine (awake_any _).mono ?_
    rintro e w2 ⟨rfl, hb2⟩
    go_wp2_with fail
    go_ret
    exact ⟨rfl, below_then hb1 hb2⟩
  · have HC1 := Lib.hid (fine_any A c l w hsz hT true ⟨fun _ => h, fun _ => rfl⟩)
    have HC2 := Lib.hid (fun wx (hx : opE.Sl wx A2 l2) => fine_any A2 c2 l2 wx hsz2 hx false ⟨fun e => (by cases e), fun k => absurd k h2⟩)
    go_enter Try.func6, Try.ntmps6
    go_wp2_with fail
    refine HC1.out.mono ?_
    rintro e w1 ⟨rfl, hb1⟩
    go_wp2_with fail
    refine (HC2.out _ (hT2.below hb1)).mono ?_
    rintro e w2 ⟨rfl, hb2⟩
    go_wp2_with fail
    refine (awake_any _).mono ?_
    rintro e w3 ⟨rfl, hb3⟩
    go_wp2_with fail
    go_ret
    exact ⟨rfl, below_then hb1 (below_then hb2 hb3)⟩


def TwoP (n1 : Nat) (y1 : Pw) (n2 : Nat) (y2 : Pw) (w : World) : Prop := PaS n1 y1 w ∧ PaS n2 y2 w
set_option maxRecDepth 100000 in
set_option maxHeartbeats 8000000 in
theorem settles_walk (A : Option Addr) (c : Nat) (l : List Mv) (t : Int) (A2 : Option Addr) (c2 : Nat) (l2 : List Mv) (w : World) (hsz : ∀ m ∈ l, m.s.size ≤ 9223372036854775807) (hsz2 : ∀ m ∈ l2, m.s.size ≤ 9223372036854775807) (hT : opE.Sl w A l) (hT2 : opE.Sl w A2 l2) (hf : Fine l) (hf2 : Fine l2) (ht : 0 ≤ t ∧ t ≤ 255) :
    Calls Try.prog 6 #[.slice A l.length c, .int .u8 t, .slice A2 l2.length c2] w fun e w' => e = .returned (.bool true) ∧ Below w.heap.size w w' := by
  have C1 := fine_any A c l w hsz hT true ⟨fun _ => hf, fun _ => rfl⟩
  have C2 := fun wx (hx : opE.Sl wx A2 l2) => fine_any A2 c2 l2 wx hsz2 hx true ⟨fun _ => hf2, fun _ => rfl⟩
  have hwr : IntKind.i64.wrap t = t := IntWalk.i64_in _ (by omega)
  obtain ⟨hl, hok⟩ := hf
  obtain ⟨hl2, hok2⟩ := hf2
  have hI := (stG_inv hok [] l.length).1
  have hIl := (stG_inv hok [] l.length).2
  have hGt := (stG_has hok l.length (Nat.le_refl _)).1
  have CG := fun wx (h : opE.Sl wx A l) => grown_any A c l none 0 [] wx hl hok h (El.Sl.nil wx none) (fun t h => by cases h)
  obtain ⟨G, hG⟩ : ∃ G, stG l [] l.length = G := ⟨_, rfl⟩
  rw [hG] at hI hIl hGt CG
  have HG := Lib.hid CG
  have HI := Lib.hid hI
  have HIL := Lib.hid hIl
  have HGT := Lib.hid hGt
  have HC2 := Lib.hid C2
  clear CG hG hI hIl hGt C2
  go_enter Try.func6, Try.ntmps6
  go_wp2_with fail
  refine C1.mono ?_
  rintro e w1 ⟨rfl, hb1⟩
  clear C1
  go_wp2_with fail
  refine (HC2.out _ (hT2.below hb1)).mono ?_
  rintro e w1' ⟨rfl, hb1'⟩
  replace hb1 := below_then hb1 hb1'
  clear HC2 hb1'
  go_wp2_with fail
  refine (HG.out _ (hT.below hb1)).mono ?_
  rintro e w2 ⟨y1, rfl, hy1, hv1, hb2⟩
  have hB2 := below_then hb1 hb2
  clear hb1 hb2 HG
  have hz : pwE.In (w2.alloc (.cells #[.slice none 0 0, .int .i64 0, .slice none 0 0, .slice none 0 0, .slice none 0 0] 29)) w2.heap.size Pw.zero := El.In.new (E := pwE) w2 Pw.zero #[.slice none 0 0, .int .i64 0, .slice none 0 0, .slice none 0 0, .slice none 0 0] rfl
  have hP1 := hz.set y1 #[.slice y1.bA y1.base.length y1.bc, .int .i64 y1.t, .slice y1.oA y1.ops.length y1.oc, .slice y1.uA y1.us.length y1.uc, .slice y1.wA y1.now.length y1.wc] rfl
  have hbz : Below w2.heap.size w2 ((w2.alloc (.cells #[.slice none 0 0, .int .i64 0, .slice none 0 0, .slice none 0 0, .slice none 0 0] 29)).setRow w2.heap.size #[.slice y1.bA y1.base.length y1.bc, .int .i64 y1.t, .slice y1.oA y1.ops.length y1.oc, .slice y1.uA y1.us.length y1.uc, .slice y1.wA y1.now.length y1.wc]) := below_setRow (below_alloc (Below.refl _ _) _) (Nat.le_refl _) _
  go_wp2_with (first | (refine El.store pwRow rfl _ _ rfl w2.heap.size y1 #[.slice y1.bA y1.base.length y1.bc, .int .i64 y1.t, .slice y1.oA y1.ops.length y1.oc, .slice y1.uA y1.us.length y1.uc, .slice y1.wA y1.now.length y1.wc] rfl rfl rfl Pw.zero hz ?_) | (refine El.load pwRow rfl _ rfl w2.heap.size 0 rfl y1 hP1.at #[.slice y1.bA y1.base.length y1.bc, .int .i64 y1.t, .slice y1.oA y1.ops.length y1.oc, .slice y1.uA y1.us.length y1.uc, .slice y1.wA y1.now.length y1.wc] rfl ?_) | fail)
  try simp only [Act.put, List.setIfInBounds_toArray, List.set_cons_zero, List.set_cons_succ]
  replace hy1 := hy1.below hbz
  have hn7w : w.heap.size ≤ w2.heap.size := hB2.size
  replace hB2 := below_then hB2 hbz
  generalize (w2.alloc (.cells #[.slice none 0 0, .int .i64 0, .slice none 0 0, .slice none 0 0, .slice none 0 0] 29)).setRow w2.heap.size #[.slice y1.bA y1.base.length y1.bc, .int .i64 y1.t, .slice y1.oA y1.ops.length y1.oc, .slice y1.uA y1.us.length y1.uc, .slice y1.wA y1.now.length y1.wc] = W2 at *
  generalize w2.heap.size = n7 at *
  clear hz hbz
  refine (settlec y1 t W2 hy1 hv1 HI.out (by have := HIL.out; omega) rfl).mono ?_
  rintro e W3 ⟨y2, rfl, hy2, hv2, hb3⟩
  have hB3 := hB2.trans (hb3.mono hB2.size)
  replace hP1 := hP1.below hb3
  replace hy1 := hy1.below hb3
  have hn9w : w.heap.size ≤ W3.heap.size := hB3.size
  have hn79 : n7 ≠ W3.heap.size := by have := hP1.lt; omega
  have hz : pwE.In (W3.alloc (.cells #[.slice none 0 0, .int .i64 0, .slice none 0 0, .slice none 0 0, .slice none 0 0] 29)) W3.heap.size Pw.zero := El.In.new (E := pwE) W3 Pw.zero #[.slice none 0 0, .int .i64 0, .slice none 0 0, .slice none 0 0, .slice none 0 0] rfl
  have hP2 := hz.set y2 #[.slice y2.bA y2.base.length y2.bc, .int .i64 y2.t, .slice y2.oA y2.ops.length y2.oc, .slice y2.uA y2.us.length y2.uc, .slice y2.wA y2.now.length y2.wc] rfl
  have hbz : Below W3.heap.size W3 ((W3.alloc (.cells #[.slice none 0 0, .int .i64 0, .slice none 0 0, .slice none 0 0, .slice none 0 0] 29)).setRow W3.heap.size #[.slice y2.bA y2.base.length y2.bc, .int .i64 y2.t, .slice y2.oA y2.ops.length y2.oc, .slice y2.uA y2.us.length y2.uc, .slice y2.wA y2.now.length y2.wc]) := below_setRow (below_alloc (Below.refl _ _) _) (Nat.le_refl _) _
  have hPz := hP1.below hbz
  obtain ⟨p0, p1, p2, p3, p4⟩ := pwIn5 hPz
  obtain ⟨q0, q1, q2, q3, q4⟩ := pwIn5 hP2
  go_wp2_with (first | (refine El.store pwRow rfl _ _ rfl W3.heap.size y2 #[.slice y2.bA y2.base.length y2.bc, .int .i64 y2.t, .slice y2.oA y2.ops.length y2.oc, .slice y2.uA y2.us.length y2.uc, .slice y2.wA y2.now.length y2.wc] rfl rfl rfl Pw.zero hz ?_) | fail)
  clear p0 p1 p2 p3 p4 q0 q1 q2 q3 q4
  try simp only [Act.put, List.setIfInBounds_toArray, List.set_cons_zero, List.set_cons_succ]
  replace hy1 := hy1.below hbz
  replace hy2 := hy2.below hbz
  replace hB3 := hB3.trans (hbz.mono hB3.size)
  replace hP1 := hPz
  clear hPz
  generalize (W3.alloc (.cells #[.slice none 0 0, .int .i64 0, .slice none 0 0, .slice none 0 0, .slice none 0 0] 29)).setRow W3.heap.size #[.slice y2.bA y2.base.length y2.bc, .int .i64 y2.t, .slice y2.oA y2.ops.length y2.oc, .slice y2.uA y2.us.length y2.uc, .slice y2.wA y2.now.length y2.wc] = W4 at *
  generalize W3.heap.size = n9 at *
  clear hz hbz hb3 hB2
  have hv10 : y1.now = G.now := by rw [← hv1]; rfl
  have hv20 : y2.now = G.now := by rw [← settle_now HI.out t, ← hv2]; rfl
  have e1 : y1.t = 0 := by rw [← HGT.out, ← hv1]; rfl
  have e2 : y2.t = t := by
    have h : y2.t = (settleV G t).t := by rw [← hv2]; rfl
    rw [h]; exact settle_t t (by rw [HGT.out]; omega)
  have hnl : y1.now.length ≤ 62 := by rw [hv10]; exact tree_len HI.out.ntree
  have hnl2 : y2.now.length ≤ 62 := by rw [hv20]; exact tree_len HI.out.ntree
  refine (samePl_any y1.wA y2.wA y1.wc y2.wc y1.now y2.now W4 (by omega) (by omega) hy1.w.1 hy2.w.1).mono ?_
  rintro e W5 ⟨bs, rfl, hbs, hb5⟩
  obtain rfl : bs = true := hbs.2 (hv10.trans hv20.symm)
  replace hP1 := hP1.below hb5
  replace hP2 := hP2.below hb5
  replace hy1 := hy1.below hb5
  replace hy2 := hy2.below hb5
  replace hB3 := hB3.trans (hb5.mono hB3.size)
  clear hb5 hbs hv10 hv20 hnl hnl2
  obtain ⟨p0, p1, p2, p3, p4⟩ := pwIn5 hP1
  obtain ⟨q0, q1, q2, q3, q4⟩ := pwIn5 hP2
  rw [e1] at p1
  rw [e2] at q1
  have hmx : max (0 : Int) t = t := by omega
  rcases (show t = 0 ∨ 0 < t by omega) with h0 | h0
  · subst h0
    go_wp2_with fail
    clear p0 p1 p2 p3 p4 q0 q1 q2 q3 q4 e1 e2 hmx
    go_loopw [10] (fun yi wr => ∃ (k : Nat) (P : Pv) (y1 y2 : Pw), k ≤ l2.length ∧ yi = .int .i64 k ∧ PInv P ∧ P.t = 0 ∧ P.ops.length ≤ 60 + k ∧ y1.v = P ∧ y2.v = settleV P 0 ∧ pwE.In wr n7 y1 ∧ PastOk wr y1 ∧ pwE.In wr n9 y2 ∧ PastOk wr y2 ∧ Below w.heap.size w wr) (fun yi _ => l2.length - (intOf yi).toNat)
    case atStart => exact ⟨0, G, y1, y2, Nat.zero_le _, rfl, HI.out, HGT.out, by have := HIL.out; omega, hv1, hv2, hP1, hy1, hP2, hy2, hB3⟩
    case round =>
      clear hP1 hy1 hP2 hy2 hB3 hv1 hv2
      obtain ⟨k, P, x, y, hk, rfl, hPI, hPt, hPl, hxv, hyv, hP1, hy1, hP2, hy2, hB⟩ := hrel
      by_cases hkl : k < l2.length
      · obtain ⟨b, off, rfl, hbw, hc⟩ := hT2 (by omega)
        have hat : opE.At wr b (off + k * 7) l2[k] := (hc k hkl).below hB hbw
        have hbW := Nat.lt_of_lt_of_le hbw hB.size
        have hmo := hok2 l2[k] (List.getElem_mem _)
        obtain ⟨m, hm⟩ : ∃ m, l2[k] = m := ⟨_, rfl⟩
        rw [hm] at hat hmo
        clear hc hm
        by_cases hct : m.C ≤ 0
        · obtain ⟨t0, t1, t2, t3, t4, t5, t6⟩ := opAt hat
          clear t1 t2 t3 t4 t5 t6
          have HX := Lib.hid hxv
          have HY := Lib.hid hyv
          have HT := Lib.hid hPt
          clear hxv hyv hPt
          have hdc : decide (m.C ≤ 0) = true := decide_eq_true hct
          go_wp2_with fail
          exact ⟨⟨k + 1, P, x, y, by omega, by go_num, hPI, HT.out, by omega, HX.out, HY.out, hP1, hy1, hP2, hy2, hB⟩, by simp [intOf]; omega⟩
        · have hsa := settle_add hPI (m := m) (t := 0) (by omega)
          have hPI2 := hPI.add hmo
          have hPt2 := add_t P m
          have hPl2 := addV_len P m
          have hSI := hPI.settle (t := 0) (by omega)
          have hSl := settleV_len P 0
          have hsn := settle_now hPI2 0
          have hnl := tree_len hPI2.ntree
          obtain ⟨V, hV⟩ : ∃ V, (addV P m).1 = V := ⟨_, rfl⟩
          obtain ⟨bb, hbb⟩ : ∃ bb, (addV P m).2 = bb := ⟨_, rfl⟩
          rw [hV] at hsa hPI2 hPt2 hPl2 hsn hnl
          rw [hbb] at hsa
          have HADD1 := Lib.hid (fun wx (h : PastOk wx x) => addc x m wx h hxv hPI (by omega) (show addV P m = (V, bb) by rw [← hV, ← hbb]))
          obtain ⟨VS, hVS⟩ : ∃ VS, settleV V 0 = VS := ⟨_, rfl⟩
          rw [hVS] at hsa hsn
          have HADD2 := Lib.hid (fun wx (h : PastOk wx y) => addc y m wx h hyv hSI (by omega) hsa)
          have HVS := Lib.hid hVS
          have HSN := Lib.hid hsn
          have HPI2 := Lib.hid hPI2
          have HPL := Lib.hid (⟨hPt2.trans hPt, by omega⟩ : V.t = 0 ∧ V.ops.length ≤ 60 + (k + 1))
          have HNL := Lib.hid hnl
          have hdc : decide (m.C ≤ 0) = false := decide_eq_false hct
          have hl79 : n7 < wr.heap.size ∧ n9 < wr.heap.size := ⟨hP1.lt, hP2.lt⟩
          clear hsa hPI2 hPt2 hPl2 hSI hSl hsn hnl hV hbb hVS hxv hyv hPI hPt hPl hmo
          obtain ⟨t0, t1, t2, t3, t4, t5, t6⟩ := opAt hat
          clear t1 t2 t3 t4 t5 t6
          go_wp2_with fail
          clear t0
          generalize wr = W at *
          have hP := hP1
          have hy := hy1
          apply wp_merge (fun z kk w' => z.v = V ∧ W.heap.size ≤ kk ∧ pwE.In w' kk z ∧ PastOk w' z ∧ Below W.heap.size W w')
          · have hn1 := hP.lt
            refine region_anyG (S := PoS n7 x b (off + k * 7) m) 10 (by kernel_rfl) ?_
            have hd : Below W.heap.size W W.drew := (Below.refl _ _).drew
            replace hP : pwE.In W.drew n7 x := hP
            replace hy : PastOk W.drew x := hy.below hd
            replace hat : opE.At W.drew b (off + k * 7) m := hat
            replace hbW : b < W.drew.heap.size := hbW
            generalize W.drew = V at *
            have hS : PoS n7 x b (off + k * 7) m V := ⟨pwIn5 hP, opAt hat⟩
            refine anyG_take (i := 0) (v := .agg #[.slice x.bA x.base.length x.bc, .int .i64 x.t, .slice x.oA x.ops.length x.oc, .slice x.uA x.us.length x.uc, .slice x.wA x.now.length x.wc]) rfl (by kernel_rfl) (by kernel_rfl) (by kernel_rfl) (by kernel_rfl) (by kernel_rfl) (fun _ _ _ h => h) (Or.inl ⟨by rfl, fun w' hSw => by (obtain ⟨⟨s0, s1, s2, s3, s4⟩, s5, s6, s7, s8, s9, s10, s11⟩ := hSw; go_simp)⟩) hS ?_
            try simp only [Act.put, List.setIfInBounds_toArray, List.set_cons_zero, List.set_cons_succ]
            refine anyG_take (i := 1) (v := .slice (some ⟨b, off, none⟩) l2.length c2) rfl (by kernel_rfl) (by kernel_rfl) (by kernel_rfl) (by kernel_rfl) (by kernel_rfl) (fun _ _ _ h => h) (Or.inl ⟨by rfl, fun w' hSw => by (obtain ⟨⟨s0, s1, s2, s3, s4⟩, s5, s6, s7, s8, s9, s10, s11⟩ := hSw; go_simp)⟩) hS ?_
            try simp only [Act.put, List.setIfInBounds_toArray, List.set_cons_zero, List.set_cons_succ]
            refine anyG_take (i := 2) (v := .int .i64 k) rfl (by kernel_rfl) (by kernel_rfl) (by kernel_rfl) (by kernel_rfl) (by kernel_rfl) (fun _ _ _ h => h) (Or.inl ⟨by rfl, fun w' hSw => by (obtain ⟨⟨s0, s1, s2, s3, s4⟩, s5, s6, s7, s8, s9, s10, s11⟩ := hSw; go_simp)⟩) hS ?_
            try simp only [Act.put, List.setIfInBounds_toArray, List.set_cons_zero, List.set_cons_succ]
            refine anyG_take (i := 3) (v := .pointer (some ⟨b, off + k * 7, none⟩)) rfl (by kernel_rfl) (by kernel_rfl) (by kernel_rfl) (by kernel_rfl) (by kernel_rfl) (fun _ _ _ h => h) (Or.inl ⟨by rfl, fun w' hSw => by (obtain ⟨⟨s0, s1, s2, s3, s4⟩, s5, s6, s7, s8, s9, s10, s11⟩ := hSw; go_simp)⟩) hS ?_
            try simp only [Act.put, List.setIfInBounds_toArray, List.set_cons_zero, List.set_cons_succ]
            refine anyG_take (i := 4) (v := .agg #[.int .i64 m.C, .int .i64 m.D, .int .i64 m.I, .int .i64 m.M, .int .i64 m.K, .int .i64 m.U, .string m.s]) rfl (by kernel_rfl) (by kernel_rfl) (by kernel_rfl) (by kernel_rfl) (by kernel_rfl) (fun _ _ _ h => h) (Or.inl ⟨by rfl, fun w' hSw => by (obtain ⟨⟨s0, s1, s2, s3, s4⟩, s5, s6, s7, s8, s9, s10, s11⟩ := hSw; go_simp)⟩) hS ?_
            try simp only [Act.put, List.setIfInBounds_toArray, List.set_cons_zero, List.set_cons_succ]
            have hda : Below W.heap.size W (V.alloc (.cells #[.slice none 0 0, .int .i64 0, .slice none 0 0, .slice none 0 0, .slice none 0 0] 29)) := hd.alloc hd.size (.cells #[.slice none 0 0, .int .i64 0, .slice none 0 0, .slice none 0 0, .slice none 0 0] 29)
            have hz : pwE.In (V.alloc (.cells #[.slice none 0 0, .int .i64 0, .slice none 0 0, .slice none 0 0, .slice none 0 0] 29)) V.heap.size Pw.zero := El.In.new (E := pwE) V Pw.zero #[.slice none 0 0, .int .i64 0, .slice none 0 0, .slice none 0 0, .slice none 0 0] rfl
            refine anyG_step (rs := [5, 9]) (by kernel_rfl) (by simp) ?_
            refine AllG.cons rfl (fun K hK => ?_) (AllG.cons rfl (fun K hK => ?_) AllG.nil)
            · skip
              go_simp
              refine (HADD1.out V hy).mono ?_
              rintro e W6 ⟨z, rfl, hyz, hvz, hb6⟩
              have hP6 := hP.below hb6
              have hB6 := hd.trans (hb6.mono hd.size)
              have hat6 := hat.below hb6 hbW
              have hbl6 := Nat.lt_of_lt_of_le hbW hb6.size
              have hS6 : PoS n7 x b (off + k * 7) m W6 := ⟨pwIn5 hP6, opAt hat6⟩
              try go_wp2_with fail
              refine hK.out _ _ hS6 ?_
              try simp only [Act.put, List.setIfInBounds_toArray, List.set_cons_zero, List.set_cons_succ]
              clear hK hS
              have hS := hS6
              have hz6 : pwE.In (W6.alloc (.cells #[.slice none 0 0, .int .i64 0, .slice none 0 0, .slice none 0 0, .slice none 0 0] 29)) W6.heap.size Pw.zero := El.In.new (E := pwE) W6 Pw.zero #[.slice none 0 0, .int .i64 0, .slice none 0 0, .slice none 0 0, .slice none 0 0] rfl
              refine anyG_plain (i := 6) (v := .tuple #[.agg #[.slice z.bA z.base.length z.bc, .int .i64 z.t, .slice z.oA z.ops.length z.oc, .slice z.uA z.us.length z.uc, .slice z.wA z.now.length z.wc], .bool bb]) rfl (by kernel_rfl) (by kernel_rfl) (by kernel_rfl) (by kernel_rfl) (fun _ _ _ h => h) (Or.inl ⟨by rfl, fun w' => by go_simp⟩) (fun _ => hS) ?_
              try simp only [Act.put, List.setIfInBounds_toArray, List.set_cons_zero, List.set_cons_succ]
              refine anyG_plain (i := 7) (v := .agg #[.slice z.bA z.base.length z.bc, .int .i64 z.t, .slice z.oA z.ops.length z.oc, .slice z.uA z.us.length z.uc, .slice z.wA z.now.length z.wc]) rfl (by kernel_rfl) (by kernel_rfl) (by kernel_rfl) (by kernel_rfl) (fun _ _ _ h => h) (Or.inl ⟨by rfl, fun w' => by go_simp⟩) (fun _ => hS) ?_
              try simp only [Act.put, List.setIfInBounds_toArray, List.set_cons_zero, List.set_cons_succ]
              refine anyG_plain (i := 8) (v := .bool bb) rfl (by kernel_rfl) (by kernel_rfl) (by kernel_rfl) (by kernel_rfl) (fun _ _ _ h => h) (Or.inl ⟨by rfl, fun w' => by go_simp⟩) (fun _ => hS) ?_
              try simp only [Act.put, List.setIfInBounds_toArray, List.set_cons_zero, List.set_cons_succ]
              refine anyG_step (rs := [9]) (by kernel_rfl) (by simp) ?_
              refine AllG.cons rfl (fun K hK => ?_) AllG.nil
              have hata := hat6.below (below_alloc (Below.refl W6.heap.size W6) (.cells #[.slice none 0 0, .int .i64 0, .slice none 0 0, .slice none 0 0, .slice none 0 0] 29)) hbl6
              have hSa : PoS n7 x b (off + k * 7) m (W6.alloc (.cells #[.slice none 0 0, .int .i64 0, .slice none 0 0, .slice none 0 0, .slice none 0 0] 29)) := ⟨pwIn5 (hP6.alloc (.cells #[.slice none 0 0, .int .i64 0, .slice none 0 0, .slice none 0 0, .slice none 0 0] 29)), opAt hata⟩
              go_simp
              refine hK.out _ _ hSa ?_
              try simp only [Act.put, List.setIfInBounds_toArray, List.set_cons_zero, List.set_cons_succ]
              clear hK hS
              have hS := hSa
              have hyz' := hyz.below (below_alloc (Below.refl W6.heap.size W6) (.cells #[.slice none 0 0, .int .i64 0, .slice none 0 0, .slice none 0 0, .slice none 0 0] 29))
              have hBz := hB6.alloc hB6.size (.cells #[.slice none 0 0, .int .i64 0, .slice none 0 0, .slice none 0 0, .slice none 0 0] 29)
              have hkW : W.heap.size ≤ W6.heap.size := hB6.size
              generalize W6.alloc (.cells #[.slice none 0 0, .int .i64 0, .slice none 0 0, .slice none 0 0, .slice none 0 0] 29) = W7 at *
              generalize W6.heap.size = nA at *
              refine anyG_step (rs := [10]) (by kernel_rfl) (by simp) ?_
              refine AllG.last (n := 10) rfl (fun K hK => ?_)
              refine El.step_store pwRow rfl _ _ rfl nA z #[.slice z.bA z.base.length z.bc, .int .i64 z.t, .slice z.oA z.ops.length z.oc, .slice z.uA z.us.length z.uc, .slice z.wA z.now.length z.wc] rfl rfl rfl Pw.zero hz6 ?_
              refine hK.out _ _ ?_
              try simp only [Act.put, List.setIfInBounds_toArray, List.set_cons_zero, List.set_cons_succ]
              clear hK hS
              refine anyG_plain_after (i := 11) (v := .bool bb) rfl (by kernel_rfl) (by kernel_rfl) (by kernel_rfl) (by kernel_rfl) (fun _ _ _ h => h) (Or.inl ⟨by rfl, fun w' => by go_simp⟩) (by kernel_rfl) ?_
              try simp only [Act.put, List.setIfInBounds_toArray, List.set_cons_zero, List.set_cons_succ]
              refine anyG_done (by kernel_rfl) ?_ _
              have hPz := (hz6).set z #[.slice z.bA z.base.length z.bc, .int .i64 z.t, .slice z.oA z.ops.length z.oc, .slice z.uA z.us.length z.uc, .slice z.wA z.now.length z.wc] rfl
              exact ⟨z, nA, rfl, hvz, hkW, hPz, hyz'.off hz6 (by_row _ _ _), below_setRow hBz hkW _⟩
            · skip
              have hata := hat.below (below_alloc (Below.refl V.heap.size V) (.cells #[.slice none 0 0, .int .i64 0, .slice none 0 0, .slice none 0 0, .slice none 0 0] 29)) hbW
              have hSa : PoS n7 x b (off + k * 7) m (V.alloc (.cells #[.slice none 0 0, .int .i64 0, .slice none 0 0, .slice none 0 0, .slice none 0 0] 29)) := ⟨pwIn5 (hP.alloc (.cells #[.slice none 0 0, .int .i64 0, .slice none 0 0, .slice none 0 0, .slice none 0 0] 29)), opAt hata⟩
              go_simp
              refine hK.out _ _ hSa ?_
              try simp only [Act.put, List.setIfInBounds_toArray, List.set_cons_zero, List.set_cons_succ]
              clear hK hS
              have hS := hSa
              have hya := hy.below (below_alloc (Below.refl V.heap.size V) (.cells #[.slice none 0 0, .int .i64 0, .slice none 0 0, .slice none 0 0, .slice none 0 0] 29))
              have hPa := hP.alloc (.cells #[.slice none 0 0, .int .i64 0, .slice none 0 0, .slice none 0 0, .slice none 0 0] 29)
              have hbWa : b < (V.alloc (.cells #[.slice none 0 0, .int .i64 0, .slice none 0 0, .slice none 0 0, .slice none 0 0] 29)).heap.size := by rw [alloc_size]; omega
              have hkW : W.heap.size ≤ V.heap.size := hd.size
              generalize V.alloc (.cells #[.slice none 0 0, .int .i64 0, .slice none 0 0, .slice none 0 0, .slice none 0 0] 29) = V7 at *
              generalize V.heap.size = nA at *
              refine anyG_step (rs := [5]) (by kernel_rfl) (by simp) ?_
              refine AllG.cons rfl (fun K hK => ?_) AllG.nil
              go_simp
              refine (HADD1.out V7 hya).mono ?_
              rintro e W6 ⟨z, rfl, hyz, hvz, hb6⟩
              have hP6 := hPa.below hb6
              have hB6 := hda.trans (hb6.mono hda.size)
              have hat6 := hata.below hb6 hbWa
              have hbl6 := Nat.lt_of_lt_of_le hbWa hb6.size
              have hS6 : PoS n7 x b (off + k * 7) m W6 := ⟨pwIn5 hP6, opAt hat6⟩
              try go_wp2_with fail
              refine hK.out _ _ hS6 ?_
              try simp only [Act.put, List.setIfInBounds_toArray, List.set_cons_zero, List.set_cons_succ]
              clear hK hS
              have hS := hS6
              have hz6 := hz.below hb6
              refine anyG_plain (i := 6) (v := .tuple #[.agg #[.slice z.bA z.base.length z.bc, .int .i64 z.t, .slice z.oA z.ops.length z.oc, .slice z.uA z.us.length z.uc, .slice z.wA z.now.length z.wc], .bool bb]) rfl (by kernel_rfl) (by kernel_rfl) (by kernel_rfl) (by kernel_rfl) (fun _ _ _ h => h) (Or.inl ⟨by rfl, fun w' => by go_simp⟩) (fun _ => hS) ?_
              try simp only [Act.put, List.setIfInBounds_toArray, List.set_cons_zero, List.set_cons_succ]
              refine anyG_plain (i := 7) (v := .agg #[.slice z.bA z.base.length z.bc, .int .i64 z.t, .slice z.oA z.ops.length z.oc, .slice z.uA z.us.length z.uc, .slice z.wA z.now.length z.wc]) rfl (by kernel_rfl) (by kernel_rfl) (by kernel_rfl) (by kernel_rfl) (fun _ _ _ h => h) (Or.inl ⟨by rfl, fun w' => by go_simp⟩) (fun _ => hS) ?_
              try simp only [Act.put, List.setIfInBounds_toArray, List.set_cons_zero, List.set_cons_succ]
              refine anyG_plain (i := 8) (v := .bool bb) rfl (by kernel_rfl) (by kernel_rfl) (by kernel_rfl) (by kernel_rfl) (fun _ _ _ h => h) (Or.inl ⟨by rfl, fun w' => by go_simp⟩) (fun _ => hS) ?_
              try simp only [Act.put, List.setIfInBounds_toArray, List.set_cons_zero, List.set_cons_succ]
              refine anyG_step (rs := [10]) (by kernel_rfl) (by simp) ?_
              refine AllG.last (n := 10) rfl (fun K hK => ?_)
              refine El.step_store pwRow rfl _ _ rfl nA z #[.slice z.bA z.base.length z.bc, .int .i64 z.t, .slice z.oA z.ops.length z.oc, .slice z.uA z.us.length z.uc, .slice z.wA z.now.length z.wc] rfl rfl rfl Pw.zero hz6 ?_
              refine hK.out _ _ ?_
              try simp only [Act.put, List.setIfInBounds_toArray, List.set_cons_zero, List.set_cons_succ]
              clear hK hS
              refine anyG_plain_after (i := 11) (v := .bool bb) rfl (by kernel_rfl) (by kernel_rfl) (by kernel_rfl) (by kernel_rfl) (fun _ _ _ h => h) (Or.inl ⟨by rfl, fun w' => by go_simp⟩) (by kernel_rfl) ?_
              try simp only [Act.put, List.setIfInBounds_toArray, List.set_cons_zero, List.set_cons_succ]
              refine anyG_done (by kernel_rfl) ?_ _
              have hPz := (hz6).set z #[.slice z.bA z.base.length z.bc, .int .i64 z.t, .slice z.oA z.ops.length z.oc, .slice z.uA z.us.length z.uc, .slice z.wA z.now.length z.wc] rfl
              exact ⟨z, nA, rfl, hvz, hkW, hPz, hyz.off hz6 (by_row _ _ _), below_setRow hB6 hkW _⟩
          rintro x1 nx w' ⟨hvx, hnx1, hPx, hyx, hbx⟩
          replace hP1 := hP1.below hbx
          replace hP2 := hP2.below hbx
          replace hy2 := hy2.below hbx
          replace hB := hB.trans (hbx.mono hB.size)
          replace hat := hat.below hbx hbW
          replace hbW := Nat.lt_of_lt_of_le hbW hbx.size
          have hne7x : n7 ≠ nx := by have := hP.lt; omega
          clear hP hy hy1 hbx hnx1
          have hnxlt := hPx.lt
          have hn9lt := hP2.lt
          have hn7lt := hP1.lt
          go_wp2_with fail
          generalize w' = W at *
          have hP := hP2
          have hy := hy2
          apply wp_merge (fun z kk w' => z.v = VS ∧ W.heap.size ≤ kk ∧ pwE.In w' kk z ∧ PastOk w' z ∧ Below W.heap.size W w')
          · have hn1 := hP.lt
            refine region_anyG (S := PoS n9 y b (off + k * 7) m) 10 (by kernel_rfl) ?_
            have hd : Below W.heap.size W W.drew := (Below.refl _ _).drew
            replace hP : pwE.In W.drew n9 y := hP
            replace hy : PastOk W.drew y := hy.below hd
            replace hat : opE.At W.drew b (off + k * 7) m := hat
            replace hbW : b < W.drew.heap.size := hbW
            generalize W.drew = V at *
            have hS : PoS n9 y b (off + k * 7) m V := ⟨pwIn5 hP, opAt hat⟩
            refine anyG_take (i := 0) (v := .agg #[.slice y.bA y.base.length y.bc, .int .i64 y.t, .slice y.oA y.ops.length y.oc, .slice y.uA y.us.length y.uc, .slice y.wA y.now.length y.wc]) rfl (by kernel_rfl) (by kernel_rfl) (by kernel_rfl) (by kernel_rfl) (by kernel_rfl) (fun _ _ _ h => h) (Or.inl ⟨by rfl, fun w' hSw => by (obtain ⟨⟨s0, s1, s2, s3, s4⟩, s5, s6, s7, s8, s9, s10, s11⟩ := hSw; go_simp)⟩) hS ?_
            try simp only [Act.put, List.setIfInBounds_toArray, List.set_cons_zero, List.set_cons_succ]
            refine anyG_take (i := 1) (v := .slice (some ⟨b, off, none⟩) l2.length c2) rfl (by kernel_rfl) (by kernel_rfl) (by kernel_rfl) (by kernel_rfl) (by kernel_rfl) (fun _ _ _ h => h) (Or.inl ⟨by rfl, fun w' hSw => by (obtain ⟨⟨s0, s1, s2, s3, s4⟩, s5, s6, s7, s8, s9, s10, s11⟩ := hSw; go_simp)⟩) hS ?_
            try simp only [Act.put, List.setIfInBounds_toArray, List.set_cons_zero, List.set_cons_succ]
            refine anyG_take (i := 2) (v := .int .i64 k) rfl (by kernel_rfl) (by kernel_rfl) (by kernel_rfl) (by kernel_rfl) (by kernel_rfl) (fun _ _ _ h => h) (Or.inl ⟨by rfl, fun w' hSw => by (obtain ⟨⟨s0, s1, s2, s3, s4⟩, s5, s6, s7, s8, s9, s10, s11⟩ := hSw; go_simp)⟩) hS ?_
            try simp only [Act.put, List.setIfInBounds_toArray, List.set_cons_zero, List.set_cons_succ]
            refine anyG_take (i := 3) (v := .pointer (some ⟨b, off + k * 7, none⟩)) rfl (by kernel_rfl) (by kernel_rfl) (by kernel_rfl) (by kernel_rfl) (by kernel_rfl) (fun _ _ _ h => h) (Or.inl ⟨by rfl, fun w' hSw => by (obtain ⟨⟨s0, s1, s2, s3, s4⟩, s5, s6, s7, s8, s9, s10, s11⟩ := hSw; go_simp)⟩) hS ?_
            try simp only [Act.put, List.setIfInBounds_toArray, List.set_cons_zero, List.set_cons_succ]
            refine anyG_take (i := 4) (v := .agg #[.int .i64 m.C, .int .i64 m.D, .int .i64 m.I, .int .i64 m.M, .int .i64 m.K, .int .i64 m.U, .string m.s]) rfl (by kernel_rfl) (by kernel_rfl) (by kernel_rfl) (by kernel_rfl) (by kernel_rfl) (fun _ _ _ h => h) (Or.inl ⟨by rfl, fun w' hSw => by (obtain ⟨⟨s0, s1, s2, s3, s4⟩, s5, s6, s7, s8, s9, s10, s11⟩ := hSw; go_simp)⟩) hS ?_
            try simp only [Act.put, List.setIfInBounds_toArray, List.set_cons_zero, List.set_cons_succ]
            have hda : Below W.heap.size W (V.alloc (.cells #[.slice none 0 0, .int .i64 0, .slice none 0 0, .slice none 0 0, .slice none 0 0] 29)) := hd.alloc hd.size (.cells #[.slice none 0 0, .int .i64 0, .slice none 0 0, .slice none 0 0, .slice none 0 0] 29)
            have hz : pwE.In (V.alloc (.cells #[.slice none 0 0, .int .i64 0, .slice none 0 0, .slice none 0 0, .slice none 0 0] 29)) V.heap.size Pw.zero := El.In.new (E := pwE) V Pw.zero #[.slice none 0 0, .int .i64 0, .slice none 0 0, .slice none 0 0, .slice none 0 0] rfl
            refine anyG_step (rs := [5, 9]) (by kernel_rfl) (by simp) ?_
            refine AllG.cons rfl (fun K hK => ?_) (AllG.cons rfl (fun K hK => ?_) AllG.nil)
            · skip
              go_simp
              refine (HADD2.out V hy).mono ?_
              rintro e W6 ⟨z, rfl, hyz, hvz, hb6⟩
              have hP6 := hP.below hb6
              have hB6 := hd.trans (hb6.mono hd.size)
              have hat6 := hat.below hb6 hbW
              have hbl6 := Nat.lt_of_lt_of_le hbW hb6.size
              have hS6 : PoS n9 y b (off + k * 7) m W6 := ⟨pwIn5 hP6, opAt hat6⟩
              try go_wp2_with fail
              refine hK.out _ _ hS6 ?_
              try simp only [Act.put, List.setIfInBounds_toArray, List.set_cons_zero, List.set_cons_succ]
              clear hK hS
              have hS := hS6
              have hz6 : pwE.In (W6.alloc (.cells #[.slice none 0 0, .int .i64 0, .slice none 0 0, .slice none 0 0, .slice none 0 0] 29)) W6.heap.size Pw.zero := El.In.new (E := pwE) W6 Pw.zero #[.slice none 0 0, .int .i64 0, .slice none 0 0, .slice none 0 0, .slice none 0 0] rfl
              refine anyG_plain (i := 6) (v := .tuple #[.agg #[.slice z.bA z.base.length z.bc, .int .i64 z.t, .slice z.oA z.ops.length z.oc, .slice z.uA z.us.length z.uc, .slice z.wA z.now.length z.wc], .bool bb]) rfl (by kernel_rfl) (by kernel_rfl) (by kernel_rfl) (by kernel_rfl) (fun _ _ _ h => h) (Or.inl ⟨by rfl, fun w' => by go_simp⟩) (fun _ => hS) ?_
              try simp only [Act.put, List.setIfInBounds_toArray, List.set_cons_zero, List.set_cons_succ]
              refine anyG_plain (i := 7) (v := .agg #[.slice z.bA z.base.length z.bc, .int .i64 z.t, .slice z.oA z.ops.length z.oc, .slice z.uA z.us.length z.uc, .slice z.wA z.now.length z.wc]) rfl (by kernel_rfl) (by kernel_rfl) (by kernel_rfl) (by kernel_rfl) (fun _ _ _ h => h) (Or.inl ⟨by rfl, fun w' => by go_simp⟩) (fun _ => hS) ?_
              try simp only [Act.put, List.setIfInBounds_toArray, List.set_cons_zero, List.set_cons_succ]
              refine anyG_plain (i := 8) (v := .bool bb) rfl (by kernel_rfl) (by kernel_rfl) (by kernel_rfl) (by kernel_rfl) (fun _ _ _ h => h) (Or.inl ⟨by rfl, fun w' => by go_simp⟩) (fun _ => hS) ?_
              try simp only [Act.put, List.setIfInBounds_toArray, List.set_cons_zero, List.set_cons_succ]
              refine anyG_step (rs := [9]) (by kernel_rfl) (by simp) ?_
              refine AllG.cons rfl (fun K hK => ?_) AllG.nil
              have hata := hat6.below (below_alloc (Below.refl W6.heap.size W6) (.cells #[.slice none 0 0, .int .i64 0, .slice none 0 0, .slice none 0 0, .slice none 0 0] 29)) hbl6
              have hSa : PoS n9 y b (off + k * 7) m (W6.alloc (.cells #[.slice none 0 0, .int .i64 0, .slice none 0 0, .slice none 0 0, .slice none 0 0] 29)) := ⟨pwIn5 (hP6.alloc (.cells #[.slice none 0 0, .int .i64 0, .slice none 0 0, .slice none 0 0, .slice none 0 0] 29)), opAt hata⟩
              go_simp
              refine hK.out _ _ hSa ?_
              try simp only [Act.put, List.setIfInBounds_toArray, List.set_cons_zero, List.set_cons_succ]
              clear hK hS
              have hS := hSa
              have hyz' := hyz.below (below_alloc (Below.refl W6.heap.size W6) (.cells #[.slice none 0 0, .int .i64 0, .slice none 0 0, .slice none 0 0, .slice none 0 0] 29))
              have hBz := hB6.alloc hB6.size (.cells #[.slice none 0 0, .int .i64 0, .slice none 0 0, .slice none 0 0, .slice none 0 0] 29)
              have hkW : W.heap.size ≤ W6.heap.size := hB6.size
              generalize W6.alloc (.cells #[.slice none 0 0, .int .i64 0, .slice none 0 0, .slice none 0 0, .slice none 0 0] 29) = W7 at *
              generalize W6.heap.size = nA at *
              refine anyG_step (rs := [10]) (by kernel_rfl) (by simp) ?_
              refine AllG.last (n := 10) rfl (fun K hK => ?_)
              refine El.step_store pwRow rfl _ _ rfl nA z #[.slice z.bA z.base.length z.bc, .int .i64 z.t, .slice z.oA z.ops.length z.oc, .slice z.uA z.us.length z.uc, .slice z.wA z.now.length z.wc] rfl rfl rfl Pw.zero hz6 ?_
              refine hK.out _ _ ?_
              try simp only [Act.put, List.setIfInBounds_toArray, List.set_cons_zero, List.set_cons_succ]
              clear hK hS
              refine anyG_plain_after (i := 11) (v := .bool bb) rfl (by kernel_rfl) (by kernel_rfl) (by kernel_rfl) (by kernel_rfl) (fun _ _ _ h => h) (Or.inl ⟨by rfl, fun w' => by go_simp⟩) (by kernel_rfl) ?_
              try simp only [Act.put, List.setIfInBounds_toArray, List.set_cons_zero, List.set_cons_succ]
              refine anyG_done (by kernel_rfl) ?_ _
              have hPz := (hz6).set z #[.slice z.bA z.base.length z.bc, .int .i64 z.t, .slice z.oA z.ops.length z.oc, .slice z.uA z.us.length z.uc, .slice z.wA z.now.length z.wc] rfl
              exact ⟨z, nA, rfl, hvz, hkW, hPz, hyz'.off hz6 (by_row _ _ _), below_setRow hBz hkW _⟩
            · skip
              have hata := hat.below (below_alloc (Below.refl V.heap.size V) (.cells #[.slice none 0 0, .int .i64 0, .slice none 0 0, .slice none 0 0, .slice none 0 0] 29)) hbW
              have hSa : PoS n9 y b (off + k * 7) m (V.alloc (.cells #[.slice none 0 0, .int .i64 0, .slice none 0 0, .slice none 0 0, .slice none 0 0] 29)) := ⟨pwIn5 (hP.alloc (.cells #[.slice none 0 0, .int .i64 0, .slice none 0 0, .slice none 0 0, .slice none 0 0] 29)), opAt hata⟩
              go_simp
              refine hK.out _ _ hSa ?_
              try simp only [Act.put, List.setIfInBounds_toArray, List.set_cons_zero, List.set_cons_succ]
              clear hK hS
              have hS := hSa
              have hya := hy.below (below_alloc (Below.refl V.heap.size V) (.cells #[.slice none 0 0, .int .i64 0, .slice none 0 0, .slice none 0 0, .slice none 0 0] 29))
              have hPa := hP.alloc (.cells #[.slice none 0 0, .int .i64 0, .slice none 0 0, .slice none 0 0, .slice none 0 0] 29)
              have hbWa : b < (V.alloc (.cells #[.slice none 0 0, .int .i64 0, .slice none 0 0, .slice none 0 0, .slice none 0 0] 29)).heap.size := by rw [alloc_size]; omega
              have hkW : W.heap.size ≤ V.heap.size := hd.size
              generalize V.alloc (.cells #[.slice none 0 0, .int .i64 0, .slice none 0 0, .slice none 0 0, .slice none 0 0] 29) = V7 at *
              generalize V.heap.size = nA at *
              refine anyG_step (rs := [5]) (by kernel_rfl) (by simp) ?_
              refine AllG.cons rfl (fun K hK => ?_) AllG.nil
              go_simp
              refine (HADD2.out V7 hya).mono ?_
              rintro e W6 ⟨z, rfl, hyz, hvz, hb6⟩
              have hP6 := hPa.below hb6
              have hB6 := hda.trans (hb6.mono hda.size)
              have hat6 := hata.below hb6 hbWa
              have hbl6 := Nat.lt_of_lt_of_le hbWa hb6.size
              have hS6 : PoS n9 y b (off + k * 7) m W6 := ⟨pwIn5 hP6, opAt hat6⟩
              try go_wp2_with fail
              refine hK.out _ _ hS6 ?_
              try simp only [Act.put, List.setIfInBounds_toArray, List.set_cons_zero, List.set_cons_succ]
              clear hK hS
              have hS := hS6
              have hz6 := hz.below hb6
              refine anyG_plain (i := 6) (v := .tuple #[.agg #[.slice z.bA z.base.length z.bc, .int .i64 z.t, .slice z.oA z.ops.length z.oc, .slice z.uA z.us.length z.uc, .slice z.wA z.now.length z.wc], .bool bb]) rfl (by kernel_rfl) (by kernel_rfl) (by kernel_rfl) (by kernel_rfl) (fun _ _ _ h => h) (Or.inl ⟨by rfl, fun w' => by go_simp⟩) (fun _ => hS) ?_
              try simp only [Act.put, List.setIfInBounds_toArray, List.set_cons_zero, List.set_cons_succ]
              refine anyG_plain (i := 7) (v := .agg #[.slice z.bA z.base.length z.bc, .int .i64 z.t, .slice z.oA z.ops.length z.oc, .slice z.uA z.us.length z.uc, .slice z.wA z.now.length z.wc]) rfl (by kernel_rfl) (by kernel_rfl) (by kernel_rfl) (by kernel_rfl) (fun _ _ _ h => h) (Or.inl ⟨by rfl, fun w' => by go_simp⟩) (fun _ => hS) ?_
              try simp only [Act.put, List.setIfInBounds_toArray, List.set_cons_zero, List.set_cons_succ]
              refine anyG_plain (i := 8) (v := .bool bb) rfl (by kernel_rfl) (by kernel_rfl) (by kernel_rfl) (by kernel_rfl) (fun _ _ _ h => h) (Or.inl ⟨by rfl, fun w' => by go_simp⟩) (fun _ => hS) ?_
              try simp only [Act.put, List.setIfInBounds_toArray, List.set_cons_zero, List.set_cons_succ]
              refine anyG_step (rs := [10]) (by kernel_rfl) (by simp) ?_
              refine AllG.last (n := 10) rfl (fun K hK => ?_)
              refine El.step_store pwRow rfl _ _ rfl nA z #[.slice z.bA z.base.length z.bc, .int .i64 z.t, .slice z.oA z.ops.length z.oc, .slice z.uA z.us.length z.uc, .slice z.wA z.now.length z.wc] rfl rfl rfl Pw.zero hz6 ?_
              refine hK.out _ _ ?_
              try simp only [Act.put, List.setIfInBounds_toArray, List.set_cons_zero, List.set_cons_succ]
              clear hK hS
              refine anyG_plain_after (i := 11) (v := .bool bb) rfl (by kernel_rfl) (by kernel_rfl) (by kernel_rfl) (by kernel_rfl) (fun _ _ _ h => h) (Or.inl ⟨by rfl, fun w' => by go_simp⟩) (by kernel_rfl) ?_
              try simp only [Act.put, List.setIfInBounds_toArray, List.set_cons_zero, List.set_cons_succ]
              refine anyG_done (by kernel_rfl) ?_ _
              have hPz := (hz6).set z #[.slice z.bA z.base.length z.bc, .int .i64 z.t, .slice z.oA z.ops.length z.oc, .slice z.uA z.us.length z.uc, .slice z.wA z.now.length z.wc] rfl
              exact ⟨z, nA, rfl, hvz, hkW, hPz, hyz.off hz6 (by_row _ _ _), below_setRow hB6 hkW _⟩
          rintro z nz w' ⟨hvz, hnz, hPz, hyz, hbz⟩
          replace hP1 := hP1.below hbz
          replace hP2 := hP2.below hbz
          replace hPx := hPx.below hbz
          replace hyx := hyx.below hbz
          replace hB := hB.trans (hbz.mono hB.size)
          clear hP hy hy2 hbz hat hbW
          have hs1 : x1.now = V.now := by rw [← hvx]; rfl
          have hs2 : z.now = V.now := by rw [← HSN.out, ← hvz]; rfl
          have hnl1 : x1.now.length ≤ 62 := by rw [hs1]; exact HNL.out
          have hnl2 : z.now.length ≤ 62 := by rw [hs2]; exact HNL.out
          have HS := Lib.hid (samePl_any x1.wA z.wA x1.wc z.wc x1.now z.now w' (by omega) (by omega) hyx.w.1 hyz.w.1)
          have HSE := Lib.hid (hs1.trans hs2.symm)
          clear hs1 hs2 hnl1 hnl2
          have p4 := (pwIn5 hPx).2.2.2.2
          have q4 := (pwIn5 hPz).2.2.2.2
          go_wp2_with fail
          clear p4 q4
          refine HS.out.mono ?_
          rintro e w9 ⟨bs, rfl, hbs, hb9⟩
          obtain rfl : bs = true := hbs.2 HSE.out
          clear hbs HS
          replace hP1 := hP1.below hb9
          replace hP2 := hP2.below hb9
          replace hPx := hPx.below hb9
          replace hPz := hPz.below hb9
          replace hyx := hyx.below hb9
          replace hyz := hyz.below hb9
          replace hB := hB.trans (hb9.mono hB.size)
          clear hb9
          have hnz9 : n9 ≠ nz := by omega
          have hn7z : n7 ≠ nz := by omega
          have hxz : nx ≠ nz := by omega
          go_wp2_with fail
          refine region_anyG (S := TwoP nx x1 nz z) 3 (by kernel_rfl) ?_
          replace hP1 : pwE.In w9.drew n7 x := hP1
          replace hP2 : pwE.In w9.drew n9 y := hP2
          replace hPx : pwE.In w9.drew nx x1 := hPx
          replace hPz : pwE.In w9.drew nz z := hPz
          replace hyx : PastOk w9.drew x1 := hyx.below (Below.refl _ _).drew
          replace hyz : PastOk w9.drew z := hyz.below (Below.refl _ _).drew
          replace hB := hB.drew
          generalize w9.drew = V9 at *
          have hS : TwoP nx x1 nz z V9 := ⟨pwIn5 hPx, pwIn5 hPz⟩
          refine anyG_take (i := 0) (v := .agg #[.slice x1.bA x1.base.length x1.bc, .int .i64 x1.t, .slice x1.oA x1.ops.length x1.oc, .slice x1.uA x1.us.length x1.uc, .slice x1.wA x1.now.length x1.wc]) rfl (by kernel_rfl) (by kernel_rfl) (by kernel_rfl) (by kernel_rfl) (by kernel_rfl) (fun _ _ _ h => h) (Or.inl ⟨by rfl, fun w' hSw => by (obtain ⟨⟨s0, s1, s2, s3, s4⟩, s5, s6, s7, s8, s9⟩ := hSw; go_simp)⟩) hS ?_
          try simp only [Act.put, List.setIfInBounds_toArray, List.set_cons_zero, List.set_cons_succ]
          refine anyG_take (i := 1) (v := .agg #[.slice z.bA z.base.length z.bc, .int .i64 z.t, .slice z.oA z.ops.length z.oc, .slice z.uA z.us.length z.uc, .slice z.wA z.now.length z.wc]) rfl (by kernel_rfl) (by kernel_rfl) (by kernel_rfl) (by kernel_rfl) (by kernel_rfl) (fun _ _ _ h => h) (Or.inl ⟨by rfl, fun w' hSw => by (obtain ⟨⟨s0, s1, s2, s3, s4⟩, s5, s6, s7, s8, s9⟩ := hSw; go_simp)⟩) hS ?_
          try simp only [Act.put, List.setIfInBounds_toArray, List.set_cons_zero, List.set_cons_succ]
          refine anyG_step (rs := [2]) (by kernel_rfl) (by simp) ?_
          refine AllG.cons rfl (fun K hK => ?_) AllG.nil
          refine El.step_store pwRow rfl _ _ rfl n7 x1 #[.slice x1.bA x1.base.length x1.bc, .int .i64 x1.t, .slice x1.oA x1.ops.length x1.oc, .slice x1.uA x1.us.length x1.uc, .slice x1.wA x1.now.length x1.wc] rfl rfl rfl x hP1 ?_
          have hg1 := by_row V9 n7 #[.slice x1.bA x1.base.length x1.bc, .int .i64 x1.t, .slice x1.oA x1.ops.length x1.oc, .slice x1.uA x1.us.length x1.uc, .slice x1.wA x1.now.length x1.wc]
          have hPx2 := hPx.keep hg1 (fun e => hne7x (Option.some.inj e).symm)
          have hPz2 := hPz.keep hg1 (fun e => hn7z (Option.some.inj e).symm)
          have hP22 := hP2.keep hg1 (fun e => hn79 (Option.some.inj e).symm)
          have hS2 : TwoP nx x1 nz z (V9.setRow n7 #[.slice x1.bA x1.base.length x1.bc, .int .i64 x1.t, .slice x1.oA x1.ops.length x1.oc, .slice x1.uA x1.us.length x1.uc, .slice x1.wA x1.now.length x1.wc]) := ⟨pwIn5 hPx2, pwIn5 hPz2⟩
          refine hK.out _ _ hS2 ?_
          try simp only [Act.put, List.setIfInBounds_toArray, List.set_cons_zero, List.set_cons_succ]
          clear hK hS
          have hS := hS2
          refine anyG_step (rs := [3]) (by kernel_rfl) (by simp) ?_
          refine AllG.last (n := 3) rfl (fun K hK => ?_)
          refine El.step_store pwRow rfl _ _ rfl n9 z #[.slice z.bA z.base.length z.bc, .int .i64 z.t, .slice z.oA z.ops.length z.oc, .slice z.uA z.us.length z.uc, .slice z.wA z.now.length z.wc] rfl rfl rfl y hP22 ?_
          refine hK.out _ _ ?_
          try simp only [Act.put, List.setIfInBounds_toArray, List.set_cons_zero, List.set_cons_succ]
          clear hK hS hS2
          refine anyG_done (by kernel_rfl) ?_ _
          have hg2 := by_row (V9.setRow n7 #[.slice x1.bA x1.base.length x1.bc, .int .i64 x1.t, .slice x1.oA x1.ops.length x1.oc, .slice x1.uA x1.us.length x1.uc, .slice x1.wA x1.now.length x1.wc]) n9 #[.slice z.bA z.base.length z.bc, .int .i64 z.t, .slice z.oA z.ops.length z.oc, .slice z.uA z.us.length z.uc, .slice z.wA z.now.length z.wc]
          have hA1 := (hP1.set x1 #[.slice x1.bA x1.base.length x1.bc, .int .i64 x1.t, .slice x1.oA x1.ops.length x1.oc, .slice x1.uA x1.us.length x1.uc, .slice x1.wA x1.now.length x1.wc] rfl).rowN n9 #[.slice z.bA z.base.length z.bc, .int .i64 z.t, .slice z.oA z.ops.length z.oc, .slice z.uA z.us.length z.uc, .slice z.wA z.now.length z.wc] hn79
          have hA2 := hP22.set z #[.slice z.bA z.base.length z.bc, .int .i64 z.t, .slice z.oA z.ops.length z.oc, .slice z.uA z.us.length z.uc, .slice z.wA z.now.length z.wc] rfl
          have hA3 := (hyx.off hP1 hg1).off hP22 hg2
          have hA4 := (hyz.off hP1 hg1).off hP22 hg2
          have hA5 := below_setRow (below_setRow hB hn7w #[.slice x1.bA x1.base.length x1.bc, .int .i64 x1.t, .slice x1.oA x1.ops.length x1.oc, .slice x1.uA x1.us.length x1.uc, .slice x1.wA x1.now.length x1.wc]) hn9w #[.slice z.bA z.base.length z.bc, .int .i64 z.t, .slice z.oA z.ops.length z.oc, .slice z.uA z.us.length z.uc, .slice z.wA z.now.length z.wc]
          go_wp2_with fail
          exact ⟨⟨k + 1, V, x1, z, by omega, by go_num, HPI2.out, HPL.out.1, by have := HPL.out.2; omega, hvx, hvz.trans HVS.out.symm, hA1, hA3, hA2, hA4, hA5⟩, by simp [intOf]; omega⟩
      · have hSI := hPI.settle (t := 0) (by omega)
        have hSl := settleV_len P 0
        have hul := hSI.ulen
        have hyI : PInv y.v := by rw [hyv]; exact hSI
        have hb1 : y.base.length ≤ 200 := by have := tree_len hyI.tree; exact Nat.le_trans this (by omega)
        have hb2 : y.ops.length ≤ 200 := by have h : y.ops = y.v.ops := rfl; rw [h, hyv]; omega
        have hb3 : y.us.length ≤ 200 := by have h : y.us = y.v.us := rfl; rw [h, hyv]; omega
        have hb4 : y.now.length ≤ 200 := by have := tree_len hyI.ntree; exact Nat.le_trans this (by omega)
        have HR := Lib.hid (fun wx (h : PastOk wx y) => pRight_any y wx h hb1 hb2 hb3 hb4 (fun p hp => by have := (tree_fit hyI.tree p hp).s; omega) (fun m hm => by have := opB_wide (hyI.ok m hm); omega) true ⟨fun _ => hyI.right, fun _ => rfl⟩)
        clear hSI hSl hul hyI hb1 hb2 hb3 hb4 hxv hyv hPI hPt hPl
        go_wp2_with fail
        refine (awake_any _).mono ?_
        rintro e w9 ⟨rfl, hb9⟩
        replace hP2 := hP2.below hb9
        replace hy2 := hy2.below hb9
        replace hB := hB.trans (hb9.mono hB.size)
        obtain ⟨p0, p1, p2, p3, p4⟩ := pwIn5 hP2
        go_wp2_with fail
        refine (HR.out w9 hy2).mono ?_
        rintro e w10 ⟨rfl, hb10⟩
        go_wp2_with fail
        go_ret
        exact ⟨rfl, hB.trans (hb10.mono hB.size)⟩
  · go_wp2_with fail
    clear p0 p1 p2 p3 p4 q0 q1 q2 q3 q4 e1 e2 hmx
    go_loopw [10] (fun yi wr => ∃ (k : Nat) (P : Pv) (y1 y2 : Pw), k ≤ l2.length ∧ yi = .int .i64 k ∧ PInv P ∧ P.t = 0 ∧ P.ops.length ≤ 60 + k ∧ y1.v = P ∧ y2.v = settleV P t ∧ pwE.In wr n7 y1 ∧ PastOk wr y1 ∧ pwE.In wr n9 y2 ∧ PastOk wr y2 ∧ Below w.heap.size w wr) (fun yi _ => l2.length - (intOf yi).toNat)
    case atStart => exact ⟨0, G, y1, y2, Nat.zero_le _, rfl, HI.out, HGT.out, by have := HIL.out; omega, hv1, hv2, hP1, hy1, hP2, hy2, hB3⟩
    case round =>
      clear hP1 hy1 hP2 hy2 hB3 hv1 hv2
      obtain ⟨k, P, x, y, hk, rfl, hPI, hPt, hPl, hxv, hyv, hP1, hy1, hP2, hy2, hB⟩ := hrel
      by_cases hkl : k < l2.length
      · obtain ⟨b, off, rfl, hbw, hc⟩ := hT2 (by omega)
        have hat : opE.At wr b (off + k * 7) l2[k] := (hc k hkl).below hB hbw
        have hbW := Nat.lt_of_lt_of_le hbw hB.size
        have hmo := hok2 l2[k] (List.getElem_mem _)
        obtain ⟨m, hm⟩ : ∃ m, l2[k] = m := ⟨_, rfl⟩
        rw [hm] at hat hmo
        clear hc hm
        by_cases hct : m.C ≤ t
        · obtain ⟨t0, t1, t2, t3, t4, t5, t6⟩ := opAt hat
          clear t1 t2 t3 t4 t5 t6
          have HX := Lib.hid hxv
          have HY := Lib.hid hyv
          have HT := Lib.hid hPt
          clear hxv hyv hPt
          have hdc : decide (m.C ≤ t) = true := decide_eq_true hct
          go_wp2_with fail
          exact ⟨⟨k + 1, P, x, y, by omega, by go_num, hPI, HT.out, by omega, HX.out, HY.out, hP1, hy1, hP2, hy2, hB⟩, by simp [intOf]; omega⟩
        · have hsa := settle_add hPI (m := m) (t := t) (by omega)
          have hPI2 := hPI.add hmo
          have hPt2 := add_t P m
          have hPl2 := addV_len P m
          have hSI := hPI.settle (t := t) (by omega)
          have hSl := settleV_len P t
          have hsn := settle_now hPI2 t
          have hnl := tree_len hPI2.ntree
          obtain ⟨V, hV⟩ : ∃ V, (addV P m).1 = V := ⟨_, rfl⟩
          obtain ⟨bb, hbb⟩ : ∃ bb, (addV P m).2 = bb := ⟨_, rfl⟩
          rw [hV] at hsa hPI2 hPt2 hPl2 hsn hnl
          rw [hbb] at hsa
          have HADD1 := Lib.hid (fun wx (h : PastOk wx x) => addc x m wx h hxv hPI (by omega) (show addV P m = (V, bb) by rw [← hV, ← hbb]))
          obtain ⟨VS, hVS⟩ : ∃ VS, settleV V t = VS := ⟨_, rfl⟩
          rw [hVS] at hsa hsn
          have HADD2 := Lib.hid (fun wx (h : PastOk wx y) => addc y m wx h hyv hSI (by omega) hsa)
          have HVS := Lib.hid hVS
          have HSN := Lib.hid hsn
          have HPI2 := Lib.hid hPI2
          have HPL := Lib.hid (⟨hPt2.trans hPt, by omega⟩ : V.t = 0 ∧ V.ops.length ≤ 60 + (k + 1))
          have HNL := Lib.hid hnl
          have hdc : decide (m.C ≤ t) = false := decide_eq_false hct
          have hl79 : n7 < wr.heap.size ∧ n9 < wr.heap.size := ⟨hP1.lt, hP2.lt⟩
          clear hsa hPI2 hPt2 hPl2 hSI hSl hsn hnl hV hbb hVS hxv hyv hPI hPt hPl hmo
          obtain ⟨t0, t1, t2, t3, t4, t5, t6⟩ := opAt hat
          clear t1 t2 t3 t4 t5 t6
          go_wp2_with fail
          clear t0
          generalize wr = W at *
          have hP := hP1
          have hy := hy1
          apply wp_merge (fun z kk w' => z.v = V ∧ W.heap.size ≤ kk ∧ pwE.In w' kk z ∧ PastOk w' z ∧ Below W.heap.size W w')
          · have hn1 := hP.lt
            refine region_anyG (S := PoS n7 x b (off + k * 7) m) 10 (by kernel_rfl) ?_
            have hd : Below W.heap.size W W.drew := (Below.refl _ _).drew
            replace hP : pwE.In W.drew n7 x := hP
            replace hy : PastOk W.drew x := hy.below hd
            replace hat : opE.At W.drew b (off + k * 7) m := hat
            replace hbW : b < W.drew.heap.size := hbW
            generalize W.drew = V at *
            have hS : PoS n7 x b (off + k * 7) m V := ⟨pwIn5 hP, opAt hat⟩
            refine anyG_take (i := 0) (v := .agg #[.slice x.bA x.base.length x.bc, .int .i64 x.t, .slice x.oA x.ops.length x.oc, .slice x.uA x.us.length x.uc, .slice x.wA x.now.length x.wc]) rfl (by kernel_rfl) (by kernel_rfl) (by kernel_rfl) (by kernel_rfl) (by kernel_rfl) (fun _ _ _ h => h) (Or.inl ⟨by rfl, fun w' hSw => by (obtain ⟨⟨s0, s1, s2, s3, s4⟩, s5, s6, s7, s8, s9, s10, s11⟩ := hSw; go_simp)⟩) hS ?_
            try simp only [Act.put, List.setIfInBounds_toArray, List.set_cons_zero, List.set_cons_succ]
            refine anyG_take (i := 1) (v := .slice (some ⟨b, off, none⟩) l2.length c2) rfl (by kernel_rfl) (by kernel_rfl) (by kernel_rfl) (by kernel_rfl) (by kernel_rfl) (fun _ _ _ h => h) (Or.inl ⟨by rfl, fun w' hSw => by (obtain ⟨⟨s0, s1, s2, s3, s4⟩, s5, s6, s7, s8, s9, s10, s11⟩ := hSw; go_simp)⟩) hS ?_
            try simp only [Act.put, List.setIfInBounds_toArray, List.set_cons_zero, List.set_cons_succ]
            refine anyG_take (i := 2) (v := .int .i64 k) rfl (by kernel_rfl) (by kernel_rfl) (by kernel_rfl) (by kernel_rfl) (by kernel_rfl) (fun _ _ _ h => h) (Or.inl ⟨by rfl, fun w' hSw => by (obtain ⟨⟨s0, s1, s2, s3, s4⟩, s5, s6, s7, s8, s9, s10, s11⟩ := hSw; go_simp)⟩) hS ?_
            try simp only [Act.put, List.setIfInBounds_toArray, List.set_cons_zero, List.set_cons_succ]
            refine anyG_take (i := 3) (v := .pointer (some ⟨b, off + k * 7, none⟩)) rfl (by kernel_rfl) (by kernel_rfl) (by kernel_rfl) (by kernel_rfl) (by kernel_rfl) (fun _ _ _ h => h) (Or.inl ⟨by rfl, fun w' hSw => by (obtain ⟨⟨s0, s1, s2, s3, s4⟩, s5, s6, s7, s8, s9, s10, s11⟩ := hSw; go_simp)⟩) hS ?_
            try simp only [Act.put, List.setIfInBounds_toArray, List.set_cons_zero, List.set_cons_succ]
            refine anyG_take (i := 4) (v := .agg #[.int .i64 m.C, .int .i64 m.D, .int .i64 m.I, .int .i64 m.M, .int .i64 m.K, .int .i64 m.U, .string m.s]) rfl (by kernel_rfl) (by kernel_rfl) (by kernel_rfl) (by kernel_rfl) (by kernel_rfl) (fun _ _ _ h => h) (Or.inl ⟨by rfl, fun w' hSw => by (obtain ⟨⟨s0, s1, s2, s3, s4⟩, s5, s6, s7, s8, s9, s10, s11⟩ := hSw; go_simp)⟩) hS ?_
            try simp only [Act.put, List.setIfInBounds_toArray, List.set_cons_zero, List.set_cons_succ]
            have hda : Below W.heap.size W (V.alloc (.cells #[.slice none 0 0, .int .i64 0, .slice none 0 0, .slice none 0 0, .slice none 0 0] 29)) := hd.alloc hd.size (.cells #[.slice none 0 0, .int .i64 0, .slice none 0 0, .slice none 0 0, .slice none 0 0] 29)
            have hz : pwE.In (V.alloc (.cells #[.slice none 0 0, .int .i64 0, .slice none 0 0, .slice none 0 0, .slice none 0 0] 29)) V.heap.size Pw.zero := El.In.new (E := pwE) V Pw.zero #[.slice none 0 0, .int .i64 0, .slice none 0 0, .slice none 0 0, .slice none 0 0] rfl
            refine anyG_step (rs := [5, 9]) (by kernel_rfl) (by simp) ?_
            refine AllG.cons rfl (fun K hK => ?_) (AllG.cons rfl (fun K hK => ?_) AllG.nil)
            · skip
              go_simp
              refine (HADD1.out V hy).mono ?_
              rintro e W6 ⟨z, rfl, hyz, hvz, hb6⟩
              have hP6 := hP.below hb6
              have hB6 := hd.trans (hb6.mono hd.size)
              have hat6 := hat.below hb6 hbW
              have hbl6 := Nat.lt_of_lt_of_le hbW hb6.size
              have hS6 : PoS n7 x b (off + k * 7) m W6 := ⟨pwIn5 hP6, opAt hat6⟩
              try go_wp2_with fail
              refine hK.out _ _ hS6 ?_
              try simp only [Act.put, List.setIfInBounds_toArray, List.set_cons_zero, List.set_cons_succ]
              clear hK hS
              have hS := hS6
              have hz6 : pwE.In (W6.alloc (.cells #[.slice none 0 0, .int .i64 0, .slice none 0 0, .slice none 0 0, .slice none 0 0] 29)) W6.heap.size Pw.zero := El.In.new (E := pwE) W6 Pw.zero #[.slice none 0 0, .int .i64 0, .slice none 0 0, .slice none 0 0, .slice none 0 0] rfl
              refine anyG_plain (i := 6) (v := .tuple #[.agg #[.slice z.bA z.base.length z.bc, .int .i64 z.t, .slice z.oA z.ops.length z.oc, .slice z.uA z.us.length z.uc, .slice z.wA z.now.length z.wc], .bool bb]) rfl (by kernel_rfl) (by kernel_rfl) (by kernel_rfl) (by kernel_rfl) (fun _ _ _ h => h) (Or.inl ⟨by rfl, fun w' => by go_simp⟩) (fun _ => hS) ?_
              try simp only [Act.put, List.setIfInBounds_toArray, List.set_cons_zero, List.set_cons_succ]
              refine anyG_plain (i := 7) (v := .agg #[.slice z.bA z.base.length z.bc, .int .i64 z.t, .slice z.oA z.ops.length z.oc, .slice z.uA z.us.length z.uc, .slice z.wA z.now.length z.wc]) rfl (by kernel_rfl) (by kernel_rfl) (by kernel_rfl) (by kernel_rfl) (fun _ _ _ h => h) (Or.inl ⟨by rfl, fun w' => by go_simp⟩) (fun _ => hS) ?_
              try simp only [Act.put, List.setIfInBounds_toArray, List.set_cons_zero, List.set_cons_succ]
              refine anyG_plain (i := 8) (v := .bool bb) rfl (by kernel_rfl) (by kernel_rfl) (by kernel_rfl) (by kernel_rfl) (fun _ _ _ h => h) (Or.inl ⟨by rfl, fun w' => by go_simp⟩) (fun _ => hS) ?_
              try simp only [Act.put, List.setIfInBounds_toArray, List.set_cons_zero, List.set_cons_succ]
              refine anyG_step (rs := [9]) (by kernel_rfl) (by simp) ?_
              refine AllG.cons rfl (fun K hK => ?_) AllG.nil
              have hata := hat6.below (below_alloc (Below.refl W6.heap.size W6) (.cells #[.slice none 0 0, .int .i64 0, .slice none 0 0, .slice none 0 0, .slice none 0 0] 29)) hbl6
              have hSa : PoS n7 x b (off + k * 7) m (W6.alloc (.cells #[.slice none 0 0, .int .i64 0, .slice none 0 0, .slice none 0 0, .slice none 0 0] 29)) := ⟨pwIn5 (hP6.alloc (.cells #[.slice none 0 0, .int .i64 0, .slice none 0 0, .slice none 0 0, .slice none 0 0] 29)), opAt hata⟩
              go_simp
              refine hK.out _ _ hSa ?_
              try simp only [Act.put, List.setIfInBounds_toArray, List.set_cons_zero, List.set_cons_succ]
              clear hK hS
              have hS := hSa
              have hyz' := hyz.below (below_alloc (Below.refl W6.heap.size W6) (.cells #[.slice none 0 0, .int .i64 0, .slice none 0 0, .slice none 0 0, .slice none 0 0] 29))
              have hBz := hB6.alloc hB6.size (.cells #[.slice none 0 0, .int .i64 0, .slice none 0 0, .slice none 0 0, .slice none 0 0] 29)
              have hkW : W.heap.size ≤ W6.heap.size := hB6.size
              generalize W6.alloc (.cells #[.slice none 0 0, .int .i64 0, .slice none 0 0, .slice none 0 0, .slice none 0 0] 29) = W7 at *
              generalize W6.heap.size = nA at *
              refine anyG_step (rs := [10]) (by kernel_rfl) (by simp) ?_
              refine AllG.last (n := 10) rfl (fun K hK => ?_)
              refine El.step_store pwRow rfl _ _ rfl nA z #[.slice z.bA z.base.length z.bc, .int .i64 z.t, .slice z.oA z.ops.length z.oc, .slice z.uA z.us.length z.uc, .slice z.wA z.now.length z.wc] rfl rfl rfl Pw.zero hz6 ?_
              refine hK.out _ _ ?_
              try simp only [Act.put, List.setIfInBounds_toArray, List.set_cons_zero, List.set_cons_succ]
              clear hK hS
              refine anyG_plain_after (i := 11) (v := .bool bb) rfl (by kernel_rfl) (by kernel_rfl) (by kernel_rfl) (by kernel_rfl) (fun _ _ _ h => h) (Or.inl ⟨by rfl, fun w' => by go_simp⟩) (by kernel_rfl) ?_
              try simp only [Act.put, List.setIfInBounds_toArray, List.set_cons_zero, List.set_cons_succ]
              refine anyG_done (by kernel_rfl) ?_ _
              have hPz := (hz6).set z #[.slice z.bA z.base.length z.bc, .int .i64 z.t, .slice z.oA z.ops.length z.oc, .slice z.uA z.us.length z.uc, .slice z.wA z.now.length z.wc] rfl
              exact ⟨z, nA, rfl, hvz, hkW, hPz, hyz'.off hz6 (by_row _ _ _), below_setRow hBz hkW _⟩
            · skip
              have hata := hat.below (below_alloc (Below.refl V.heap.size V) (.cells #[.slice none 0 0, .int .i64 0, .slice none 0 0, .slice none 0 0, .slice none 0 0] 29)) hbW
              have hSa : PoS n7 x b (off + k * 7) m (V.alloc (.cells #[.slice none 0 0, .int .i64 0, .slice none 0 0, .slice none 0 0, .slice none 0 0] 29)) := ⟨pwIn5 (hP.alloc (.cells #[.slice none 0 0, .int .i64 0, .slice none 0 0, .slice none 0 0, .slice none 0 0] 29)), opAt hata⟩
              go_simp
              refine hK.out _ _ hSa ?_
              try simp only [Act.put, List.setIfInBounds_toArray, List.set_cons_zero, List.set_cons_succ]
              clear hK hS
              have hS := hSa
              have hya := hy.below (below_alloc (Below.refl V.heap.size V) (.cells #[.slice none 0 0, .int .i64 0, .slice none 0 0, .slice none 0 0, .slice none 0 0] 29))
              have hPa := hP.alloc (.cells #[.slice none 0 0, .int .i64 0, .slice none 0 0, .slice none 0 0, .slice none 0 0] 29)
              have hbWa : b < (V.alloc (.cells #[.slice none 0 0, .int .i64 0, .slice none 0 0, .slice none 0 0, .slice none 0 0] 29)).heap.size := by rw [alloc_size]; omega
              have hkW : W.heap.size ≤ V.heap.size := hd.size
              generalize V.alloc (.cells #[.slice none 0 0, .int .i64 0, .slice none 0 0, .slice none 0 0, .slice none 0 0] 29) = V7 at *
              generalize V.heap.size = nA at *
              refine anyG_step (rs := [5]) (by kernel_rfl) (by simp) ?_
              refine AllG.cons rfl (fun K hK => ?_) AllG.nil
              go_simp
              refine (HADD1.out V7 hya).mono ?_
              rintro e W6 ⟨z, rfl, hyz, hvz, hb6⟩
              have hP6 := hPa.below hb6
              have hB6 := hda.trans (hb6.mono hda.size)
              have hat6 := hata.below hb6 hbWa
              have hbl6 := Nat.lt_of_lt_of_le hbWa hb6.size
              have hS6 : PoS n7 x b (off + k * 7) m W6 := ⟨pwIn5 hP6, opAt hat6⟩
              try go_wp2_with fail
              refine hK.out _ _ hS6 ?_
              try simp only [Act.put, List.setIfInBounds_toArray, List.set_cons_zero, List.set_cons_succ]
              clear hK hS
              have hS := hS6
              have hz6 := hz.below hb6
              refine anyG_plain (i := 6) (v := .tuple #[.agg #[.slice z.bA z.base.length z.bc, .int .i64 z.t, .slice z.oA z.ops.length z.oc, .slice z.uA z.us.length z.uc, .slice z.wA z.now.length z.wc], .bool bb]) rfl (by kernel_rfl) (by kernel_rfl) (by kernel_rfl) (by kernel_rfl) (fun _ _ _ h => h) (Or.inl ⟨by rfl, fun w' => by go_simp⟩) (fun _ => hS) ?_
              try simp only [Act.put, List.setIfInBounds_toArray, List.set_cons_zero, List.set_cons_succ]
              refine anyG_plain (i := 7) (v := .agg #[.slice z.bA z.base.length z.bc, .int .i64 z.t, .slice z.oA z.ops.length z.oc, .slice z.uA z.us.length z.uc, .slice z.wA z.now.length z.wc]) rfl (by kernel_rfl) (by kernel_rfl) (by kernel_rfl) (by kernel_rfl) (fun _ _ _ h => h) (Or.inl ⟨by rfl, fun w' => by go_simp⟩) (fun _ => hS) ?_
              try simp only [Act.put, List.setIfInBounds_toArray, List.set_cons_zero, List.set_cons_succ]
              refine anyG_plain (i := 8) (v := .bool bb) rfl (by kernel_rfl) (by kernel_rfl) (by kernel_rfl) (by kernel_rfl) (fun _ _ _ h => h) (Or.inl ⟨by rfl, fun w' => by go_simp⟩) (fun _ => hS) ?_
              try simp only [Act.put, List.setIfInBounds_toArray, List.set_cons_zero, List.set_cons_succ]
              refine anyG_step (rs := [10]) (by kernel_rfl) (by simp) ?_
              refine AllG.last (n := 10) rfl (fun K hK => ?_)
              refine El.step_store pwRow rfl _ _ rfl nA z #[.slice z.bA z.base.length z.bc, .int .i64 z.t, .slice z.oA z.ops.length z.oc, .slice z.uA z.us.length z.uc, .slice z.wA z.now.length z.wc] rfl rfl rfl Pw.zero hz6 ?_
              refine hK.out _ _ ?_
              try simp only [Act.put, List.setIfInBounds_toArray, List.set_cons_zero, List.set_cons_succ]
              clear hK hS
              refine anyG_plain_after (i := 11) (v := .bool bb) rfl (by kernel_rfl) (by kernel_rfl) (by kernel_rfl) (by kernel_rfl) (fun _ _ _ h => h) (Or.inl ⟨by rfl, fun w' => by go_simp⟩) (by kernel_rfl) ?_
              try simp only [Act.put, List.setIfInBounds_toArray, List.set_cons_zero, List.set_cons_succ]
              refine anyG_done (by kernel_rfl) ?_ _
              have hPz := (hz6).set z #[.slice z.bA z.base.length z.bc, .int .i64 z.t, .slice z.oA z.ops.length z.oc, .slice z.uA z.us.length z.uc, .slice z.wA z.now.length z.wc] rfl
              exact ⟨z, nA, rfl, hvz, hkW, hPz, hyz.off hz6 (by_row _ _ _), below_setRow hB6 hkW _⟩
          rintro x1 nx w' ⟨hvx, hnx1, hPx, hyx, hbx⟩
          replace hP1 := hP1.below hbx
          replace hP2 := hP2.below hbx
          replace hy2 := hy2.below hbx
          replace hB := hB.trans (hbx.mono hB.size)
          replace hat := hat.below hbx hbW
          replace hbW := Nat.lt_of_lt_of_le hbW hbx.size
          have hne7x : n7 ≠ nx := by have := hP.lt; omega
          clear hP hy hy1 hbx hnx1
          have hnxlt := hPx.lt
          have hn9lt := hP2.lt
          have hn7lt := hP1.lt
          go_wp2_with fail
          generalize w' = W at *
          have hP := hP2
          have hy := hy2
          apply wp_merge (fun z kk w' => z.v = VS ∧ W.heap.size ≤ kk ∧ pwE.In w' kk z ∧ PastOk w' z ∧ Below W.heap.size W w')
          · have hn1 := hP.lt
            refine region_anyG (S := PoS n9 y b (off + k * 7) m) 10 (by kernel_rfl) ?_
            have hd : Below W.heap.size W W.drew := (Below.refl _ _).drew
            replace hP : pwE.In W.drew n9 y := hP
            replace hy : PastOk W.drew y := hy.below hd
            replace hat : opE.At W.drew b (off + k * 7) m := hat
            replace hbW : b < W.drew.heap.size := hbW
            generalize W.drew = V at *
            have hS : PoS n9 y b (off + k * 7) m V := ⟨pwIn5 hP, opAt hat⟩
            refine anyG_take (i := 0) (v := .agg #[.slice y.bA y.base.length y.bc, .int .i64 y.t, .slice y.oA y.ops.length y.oc, .slice y.uA y.us.length y.uc, .slice y.wA y.now.length y.wc]) rfl (by kernel_rfl) (by kernel_rfl) (by kernel_rfl) (by kernel_rfl) (by kernel_rfl) (fun _ _ _ h => h) (Or.inl ⟨by rfl, fun w' hSw => by (obtain ⟨⟨s0, s1, s2, s3, s4⟩, s5, s6, s7, s8, s9, s10, s11⟩ := hSw; go_simp)⟩) hS ?_
            try simp only [Act.put, List.setIfInBounds_toArray, List.set_cons_zero, List.set_cons_succ]
            refine anyG_take (i := 1) (v := .slice (some ⟨b, off, none⟩) l2.length c2) rfl (by kernel_rfl) (by kernel_rfl) (by kernel_rfl) (by kernel_rfl) (by kernel_rfl) (fun _ _ _ h => h) (Or.inl ⟨by rfl, fun w' hSw => by (obtain ⟨⟨s0, s1, s2, s3, s4⟩, s5, s6, s7, s8, s9, s10, s11⟩ := hSw; go_simp)⟩) hS ?_
            try simp only [Act.put, List.setIfInBounds_toArray, List.set_cons_zero, List.set_cons_succ]
            refine anyG_take (i := 2) (v := .int .i64 k) rfl (by kernel_rfl) (by kernel_rfl) (by kernel_rfl) (by kernel_rfl) (by kernel_rfl) (fun _ _ _ h => h) (Or.inl ⟨by rfl, fun w' hSw => by (obtain ⟨⟨s0, s1, s2, s3, s4⟩, s5, s6, s7, s8, s9, s10, s11⟩ := hSw; go_simp)⟩) hS ?_
            try simp only [Act.put, List.setIfInBounds_toArray, List.set_cons_zero, List.set_cons_succ]
            refine anyG_take (i := 3) (v := .pointer (some ⟨b, off + k * 7, none⟩)) rfl (by kernel_rfl) (by kernel_rfl) (by kernel_rfl) (by kernel_rfl) (by kernel_rfl) (fun _ _ _ h => h) (Or.inl ⟨by rfl, fun w' hSw => by (obtain ⟨⟨s0, s1, s2, s3, s4⟩, s5, s6, s7, s8, s9, s10, s11⟩ := hSw; go_simp)⟩) hS ?_
            try simp only [Act.put, List.setIfInBounds_toArray, List.set_cons_zero, List.set_cons_succ]
            refine anyG_take (i := 4) (v := .agg #[.int .i64 m.C, .int .i64 m.D, .int .i64 m.I, .int .i64 m.M, .int .i64 m.K, .int .i64 m.U, .string m.s]) rfl (by kernel_rfl) (by kernel_rfl) (by kernel_rfl) (by kernel_rfl) (by kernel_rfl) (fun _ _ _ h => h) (Or.inl ⟨by rfl, fun w' hSw => by (obtain ⟨⟨s0, s1, s2, s3, s4⟩, s5, s6, s7, s8, s9, s10, s11⟩ := hSw; go_simp)⟩) hS ?_
            try simp only [Act.put, List.setIfInBounds_toArray, List.set_cons_zero, List.set_cons_succ]
            have hda : Below W.heap.size W (V.alloc (.cells #[.slice none 0 0, .int .i64 0, .slice none 0 0, .slice none 0 0, .slice none 0 0] 29)) := hd.alloc hd.size (.cells #[.slice none 0 0, .int .i64 0, .slice none 0 0, .slice none 0 0, .slice none 0 0] 29)
            have hz : pwE.In (V.alloc (.cells #[.slice none 0 0, .int .i64 0, .slice none 0 0, .slice none 0 0, .slice none 0 0] 29)) V.heap.size Pw.zero := El.In.new (E := pwE) V Pw.zero #[.slice none 0 0, .int .i64 0, .slice none 0 0, .slice none 0 0, .slice none 0 0] rfl
            refine anyG_step (rs := [5, 9]) (by kernel_rfl) (by simp) ?_
            refine AllG.cons rfl (fun K hK => ?_) (AllG.cons rfl (fun K hK => ?_) AllG.nil)
            · skip
              go_simp
              refine (HADD2.out V hy).mono ?_
              rintro e W6 ⟨z, rfl, hyz, hvz, hb6⟩
              have hP6 := hP.below hb6
              have hB6 := hd.trans (hb6.mono hd.size)
              have hat6 := hat.below hb6 hbW
              have hbl6 := Nat.lt_of_lt_of_le hbW hb6.size
              have hS6 : PoS n9 y b (off + k * 7) m W6 := ⟨pwIn5 hP6, opAt hat6⟩
              try go_wp2_with fail
              refine hK.out _ _ hS6 ?_
              try simp only [Act.put, List.setIfInBounds_toArray, List.set_cons_zero, List.set_cons_succ]
              clear hK hS
              have hS := hS6
              have hz6 : pwE.In (W6.alloc (.cells #[.slice none 0 0, .int .i64 0, .slice none 0 0, .slice none 0 0, .slice none 0 0] 29)) W6.heap.size Pw.zero := El.In.new (E := pwE) W6 Pw.zero #[.slice none 0 0, .int .i64 0, .slice none 0 0, .slice none 0 0, .slice none 0 0] rfl
              refine anyG_plain (i := 6) (v := .tuple #[.agg #[.slice z.bA z.base.length z.bc, .int .i64 z.t, .slice z.oA z.ops.length z.oc, .slice z.uA z.us.length z.uc, .slice z.wA z.now.length z.wc], .bool bb]) rfl (by kernel_rfl) (by kernel_rfl) (by kernel_rfl) (by kernel_rfl) (fun _ _ _ h => h) (Or.inl ⟨by rfl, fun w' => by go_simp⟩) (fun _ => hS) ?_
              try simp only [Act.put, List.setIfInBounds_toArray, List.set_cons_zero, List.set_cons_succ]
              refine anyG_plain (i := 7) (v := .agg #[.slice z.bA z.base.length z.bc, .int .i64 z.t, .slice z.oA z.ops.length z.oc, .slice z.uA z.us.length z.uc, .slice z.wA z.now.length z.wc]) rfl (by kernel_rfl) (by kernel_rfl) (by kernel_rfl) (by kernel_rfl) (fun _ _ _ h => h) (Or.inl ⟨by rfl, fun w' => by go_simp⟩) (fun _ => hS) ?_
              try simp only [Act.put, List.setIfInBounds_toArray, List.set_cons_zero, List.set_cons_succ]
              refine anyG_plain (i := 8) (v := .bool bb) rfl (by kernel_rfl) (by kernel_rfl) (by kernel_rfl) (by kernel_rfl) (fun _ _ _ h => h) (Or.inl ⟨by rfl, fun w' => by go_simp⟩) (fun _ => hS) ?_
              try simp only [Act.put, List.setIfInBounds_toArray, List.set_cons_zero, List.set_cons_succ]
              refine anyG_step (rs := [9]) (by kernel_rfl) (by simp) ?_
              refine AllG.cons rfl (fun K hK => ?_) AllG.nil
              have hata := hat6.below (below_alloc (Below.refl W6.heap.size W6) (.cells #[.slice none 0 0, .int .i64 0, .slice none 0 0, .slice none 0 0, .slice none 0 0] 29)) hbl6
              have hSa : PoS n9 y b (off + k * 7) m (W6.alloc (.cells #[.slice none 0 0, .int .i64 0, .slice none 0 0, .slice none 0 0, .slice none 0 0] 29)) := ⟨pwIn5 (hP6.alloc (.cells #[.slice none 0 0, .int .i64 0, .slice none 0 0, .slice none 0 0, .slice none 0 0] 29)), opAt hata⟩
              go_simp
              refine hK.out _ _ hSa ?_
              try simp only [Act.put, List.setIfInBounds_toArray, List.set_cons_zero, List.set_cons_succ]
              clear hK hS
              have hS := hSa
              have hyz' := hyz.below (below_alloc (Below.refl W6.heap.size W6) (.cells #[.slice none 0 0, .int .i64 0, .slice none 0 0, .slice none 0 0, .slice none 0 0] 29))
              have hBz := hB6.alloc hB6.size (.cells #[.slice none 0 0, .int .i64 0, .slice none 0 0, .slice none 0 0, .slice none 0 0] 29)
              have hkW : W.heap.size ≤ W6.heap.size := hB6.size
              generalize W6.alloc (.cells #[.slice none 0 0, .int .i64 0, .slice none 0 0, .slice none 0 0, .slice none 0 0] 29) = W7 at *
              generalize W6.heap.size = nA at *
              refine anyG_step (rs := [10]) (by kernel_rfl) (by simp) ?_
              refine AllG.last (n := 10) rfl (fun K hK => ?_)
              refine El.step_store pwRow rfl _ _ rfl nA z #[.slice z.bA z.base.length z.bc, .int .i64 z.t, .slice z.oA z.ops.length z.oc, .slice z.uA z.us.length z.uc, .slice z.wA z.now.length z.wc] rfl rfl rfl Pw.zero hz6 ?_
              refine hK.out _ _ ?_
              try simp only [Act.put, List.setIfInBounds_toArray, List.set_cons_zero, List.set_cons_succ]
              clear hK hS
              refine anyG_plain_after (i := 11) (v := .bool bb) rfl (by kernel_rfl) (by kernel_rfl) (by kernel_rfl) (by kernel_rfl) (fun _ _ _ h => h) (Or.inl ⟨by rfl, fun w' => by go_simp⟩) (by kernel_rfl) ?_
              try simp only [Act.put, List.setIfInBounds_toArray, List.set_cons_zero, List.set_cons_succ]
              refine anyG_done (by kernel_rfl) ?_ _
              have hPz := (hz6).set z #[.slice z.bA z.base.length z.bc, .int .i64 z.t, .slice z.oA z.ops.length z.oc, .slice z.uA z.us.length z.uc, .slice z.wA z.now.length z.wc] rfl
              exact ⟨z, nA, rfl, hvz, hkW, hPz, hyz'.off hz6 (by_row _ _ _), below_setRow hBz hkW _⟩
            · skip
              have hata := hat.below (below_alloc (Below.refl V.heap.size V) (.cells #[.slice none 0 0, .int .i64 0, .slice none 0 0, .slice none 0 0, .slice none 0 0] 29)) hbW
              have hSa : PoS n9 y b (off + k * 7) m (V.alloc (.cells #[.slice none 0 0, .int .i64 0, .slice none 0 0, .slice none 0 0, .slice none 0 0] 29)) := ⟨pwIn5 (hP.alloc (.cells #[.slice none 0 0, .int .i64 0, .slice none 0 0, .slice none 0 0, .slice none 0 0] 29)), opAt hata⟩
              go_simp
              refine hK.out _ _ hSa ?_
              try simp only [Act.put, List.setIfInBounds_toArray, List.set_cons_zero, List.set_cons_succ]
              clear hK hS
              have hS := hSa
              have hya := hy.below (below_alloc (Below.refl V.heap.size V) (.cells #[.slice none 0 0, .int .i64 0, .slice none 0 0, .slice none 0 0, .slice none 0 0] 29))
              have hPa := hP.alloc (.cells #[.slice none 0 0, .int .i64 0, .slice none 0 0, .slice none 0 0, .slice none 0 0] 29)
              have hbWa : b < (V.alloc (.cells #[.slice none 0 0, .int .i64 0, .slice none 0 0, .slice none 0 0, .slice none 0 0] 29)).heap.size := by rw [alloc_size]; omega
              have hkW : W.heap.size ≤ V.heap.size := hd.size
              generalize V.alloc (.cells #[.slice none 0 0, .int .i64 0, .slice none 0 0, .slice none 0 0, .slice none 0 0] 29) = V7 at *
              generalize V.heap.size = nA at *
              refine anyG_step (rs := [5]) (by kernel_rfl) (by simp) ?_
              refine AllG.cons rfl (fun K hK => ?_) AllG.nil
              go_simp
              refine (HADD2.out V7 hya).mono ?_
              rintro e W6 ⟨z, rfl, hyz, hvz, hb6⟩
              have hP6 := hPa.below hb6
              have hB6 := hda.trans (hb6.mono hda.size)
              have hat6 := hata.below hb6 hbWa
              have hbl6 := Nat.lt_of_lt_of_le hbWa hb6.size
              have hS6 : PoS n9 y b (off + k * 7) m W6 := ⟨pwIn5 hP6, opAt hat6⟩
              try go_wp2_with fail
              refine hK.out _ _ hS6 ?_
              try simp only [Act.put, List.setIfInBounds_toArray, List.set_cons_zero, List.set_cons_succ]
              clear hK hS
              have hS := hS6
              have hz6 := hz.below hb6
              refine anyG_plain (i := 6) (v := .tuple #[.agg #[.slice z.bA z.base.length z.bc, .int .i64 z.t, .slice z.oA z.ops.length z.oc, .slice z.uA z.us.length z.uc, .slice z.wA z.now.length z.wc], .bool bb]) rfl (by kernel_rfl) (by kernel_rfl) (by kernel_rfl) (by kernel_rfl) (fun _ _ _ h => h) (Or.inl ⟨by rfl, fun w' => by go_simp⟩) (fun _ => hS) ?_
              try simp only [Act.put, List.setIfInBounds_toArray, List.set_cons_zero, List.set_cons_succ]
              refine anyG_plain (i := 7) (v := .agg #[.slice z.bA z.base.length z.bc, .int .i64 z.t, .slice z.oA z.ops.length z.oc, .slice z.uA z.us.length z.uc, .slice z.wA z.now.length z.wc]) rfl (by kernel_rfl) (by kernel_rfl) (by kernel_rfl) (by kernel_rfl) (fun _ _ _ h => h) (Or.inl ⟨by rfl, fun w' => by go_simp⟩) (fun _ => hS) ?_
              try simp only [Act.put, List.setIfInBounds_toArray, List.set_cons_zero, List.set_cons_succ]
              refine anyG_plain (i := 8) (v := .bool bb) rfl (by kernel_rfl) (by kernel_rfl) (by kernel_rfl) (by kernel_rfl) (fun _ _ _ h => h) (Or.inl ⟨by rfl, fun w' => by go_simp⟩) (fun _ => hS) ?_
              try simp only [Act.put, List.setIfInBounds_toArray, List.set_cons_zero, List.set_cons_succ]
              refine anyG_step (rs := [10]) (by kernel_rfl) (by simp) ?_
              refine AllG.last (n := 10) rfl (fun K hK => ?_)
              refine El.step_store pwRow rfl _ _ rfl nA z #[.slice z.bA z.base.length z.bc, .int .i64 z.t, .slice z.oA z.ops.length z.oc, .slice z.uA z.us.length z.uc, .slice z.wA z.now.length z.wc] rfl rfl rfl Pw.zero hz6 ?_
              refine hK.out _ _ ?_
              try simp only [Act.put, List.setIfInBounds_toArray, List.set_cons_zero, List.set_cons_succ]
              clear hK hS
              refine anyG_plain_after (i := 11) (v := .bool bb) rfl (by kernel_rfl) (by kernel_rfl) (by kernel_rfl) (by kernel_rfl) (fun _ _ _ h => h) (Or.inl ⟨by rfl, fun w' => by go_simp⟩) (by kernel_rfl) ?_
              try simp only [Act.put, List.setIfInBounds_toArray, List.set_cons_zero, List.set_cons_succ]
              refine anyG_done (by kernel_rfl) ?_ _
              have hPz := (hz6).set z #[.slice z.bA z.base.length z.bc, .int .i64 z.t, .slice z.oA z.ops.length z.oc, .slice z.uA z.us.length z.uc, .slice z.wA z.now.length z.wc] rfl
              exact ⟨z, nA, rfl, hvz, hkW, hPz, hyz.off hz6 (by_row _ _ _), below_setRow hB6 hkW _⟩
          rintro z nz w' ⟨hvz, hnz, hPz, hyz, hbz⟩
          replace hP1 := hP1.below hbz
          replace hP2 := hP2.below hbz
          replace hPx := hPx.below hbz
          replace hyx := hyx.below hbz
          replace hB := hB.trans (hbz.mono hB.size)
          clear hP hy hy2 hbz hat hbW
          have hs1 : x1.now = V.now := by rw [← hvx]; rfl
          have hs2 : z.now = V.now := by rw [← HSN.out, ← hvz]; rfl
          have hnl1 : x1.now.length ≤ 62 := by rw [hs1]; exact HNL.out
          have hnl2 : z.now.length ≤ 62 := by rw [hs2]; exact HNL.out
          have HS := Lib.hid (samePl_any x1.wA z.wA x1.wc z.wc x1.now z.now w' (by omega) (by omega) hyx.w.1 hyz.w.1)
          have HSE := Lib.hid (hs1.trans hs2.symm)
          clear hs1 hs2 hnl1 hnl2
          have p4 := (pwIn5 hPx).2.2.2.2
          have q4 := (pwIn5 hPz).2.2.2.2
          go_wp2_with fail
          clear p4 q4
          refine HS.out.mono ?_
          rintro e w9 ⟨bs, rfl, hbs, hb9⟩
          obtain rfl : bs = true := hbs.2 HSE.out
          clear hbs HS
          replace hP1 := hP1.below hb9
          replace hP2 := hP2.below hb9
          replace hPx := hPx.below hb9
          replace hPz := hPz.below hb9
          replace hyx := hyx.below hb9
          replace hyz := hyz.below hb9
          replace hB := hB.trans (hb9.mono hB.size)
          clear hb9
          have hnz9 : n9 ≠ nz := by omega
          have hn7z : n7 ≠ nz := by omega
          have hxz : nx ≠ nz := by omega
          go_wp2_with fail
          refine region_anyG (S := TwoP nx x1 nz z) 3 (by kernel_rfl) ?_
          replace hP1 : pwE.In w9.drew n7 x := hP1
          replace hP2 : pwE.In w9.drew n9 y := hP2
          replace hPx : pwE.In w9.drew nx x1 := hPx
          replace hPz : pwE.In w9.drew nz z := hPz
          replace hyx : PastOk w9.drew x1 := hyx.below (Below.refl _ _).drew
          replace hyz : PastOk w9.drew z := hyz.below (Below.refl _ _).drew
          replace hB := hB.drew
          generalize w9.drew = V9 at *
          have hS : TwoP nx x1 nz z V9 := ⟨pwIn5 hPx, pwIn5 hPz⟩
          refine anyG_take (i := 0) (v := .agg #[.slice x1.bA x1.base.length x1.bc, .int .i64 x1.t, .slice x1.oA x1.ops.length x1.oc, .slice x1.uA x1.us.length x1.uc, .slice x1.wA x1.now.length x1.wc]) rfl (by kernel_rfl) (by kernel_rfl) (by kernel_rfl) (by kernel_rfl) (by kernel_rfl) (fun _ _ _ h => h) (Or.inl ⟨by rfl, fun w' hSw => by (obtain ⟨⟨s0, s1, s2, s3, s4⟩, s5, s6, s7, s8, s9⟩ := hSw; go_simp)⟩) hS ?_
          try simp only [Act.put, List.setIfInBounds_toArray, List.set_cons_zero, List.set_cons_succ]
          refine anyG_take (i := 1) (v := .agg #[.slice z.bA z.base.length z.bc, .int .i64 z.t, .slice z.oA z.ops.length z.oc, .slice z.uA z.us.length z.uc, .slice z.wA z.now.length z.wc]) rfl (by kernel_rfl) (by kernel_rfl) (by kernel_rfl) (by kernel_rfl) (by kernel_rfl) (fun _ _ _ h => h) (Or.inl ⟨by rfl, fun w' hSw => by (obtain ⟨⟨s0, s1, s2, s3, s4⟩, s5, s6, s7, s8, s9⟩ := hSw; go_simp)⟩) hS ?_
          try simp only [Act.put, List.setIfInBounds_toArray, List.set_cons_zero, List.set_cons_succ]
          refine anyG_step (rs := [2]) (by kernel_rfl) (by simp) ?_
          refine AllG.cons rfl (fun K hK => ?_) AllG.nil
          refine El.step_store pwRow rfl _ _ rfl n7 x1 #[.slice x1.bA x1.base.length x1.bc, .int .i64 x1.t, .slice x1.oA x1.ops.length x1.oc, .slice x1.uA x1.us.length x1.uc, .slice x1.wA x1.now.length x1.wc] rfl rfl rfl x hP1 ?_
          have hg1 := by_row V9 n7 #[.slice x1.bA x1.base.length x1.bc, .int .i64 x1.t, .slice x1.oA x1.ops.length x1.oc, .slice x1.uA x1.us.length x1.uc, .slice x1.wA x1.now.length x1.wc]
          have hPx2 := hPx.keep hg1 (fun e => hne7x (Option.some.inj e).symm)
          have hPz2 := hPz.keep hg1 (fun e => hn7z (Option.some.inj e).symm)
          have hP22 := hP2.keep hg1 (fun e => hn79 (Option.some.inj e).symm)
          have hS2 : TwoP nx x1 nz z (V9.setRow n7 #[.slice x1.bA x1.base.length x1.bc, .int .i64 x1.t, .slice x1.oA x1.ops.length x1.oc, .slice x1.uA x1.us.length x1.uc, .slice x1.wA x1.now.length x1.wc]) := ⟨pwIn5 hPx2, pwIn5 hPz2⟩
          refine hK.out _ _ hS2 ?_
          try simp only [Act.put, List.setIfInBounds_toArray, List.set_cons_zero, List.set_cons_succ]
          clear hK hS
          have hS := hS2
          refine anyG_step (rs := [3]) (by kernel_rfl) (by simp) ?_
          refine AllG.last (n := 3) rfl (fun K hK => ?_)
          refine El.step_store pwRow rfl _ _ rfl n9 z #[.slice z.bA z.base.length z.bc, .int .i64 z.t, .slice z.oA z.ops.length z.oc, .slice z.uA z.us.length z.uc, .slice z.wA z.now.length z.wc] rfl rfl rfl y hP22 ?_
          refine hK.out _ _ ?_
          try simp only [Act.put, List.setIfInBounds_toArray, List.set_cons_zero, List.set_cons_succ]
          clear hK hS hS2
          refine anyG_done (by kernel_rfl) ?_ _
          have hg2 := by_row (V9.setRow n7 #[.slice x1.bA x1.base.length x1.bc, .int .i64 x1.t, .slice x1.oA x1.ops.length x1.oc, .slice x1.uA x1.us.length x1.uc, .slice x1.wA x1.now.length x1.wc]) n9 #[.slice z.bA z.base.length z.bc, .int .i64 z.t, .slice z.oA z.ops.length z.oc, .slice z.uA z.us.length z.uc, .slice z.wA z.now.length z.wc]
          have hA1 := (hP1.set x1 #[.slice x1.bA x1.base.length x1.bc, .int .i64 x1.t, .slice x1.oA x1.ops.length x1.oc, .slice x1.uA x1.us.length x1.uc, .slice x1.wA x1.now.length x1.wc] rfl).rowN n9 #[.slice z.bA z.base.length z.bc, .int .i64 z.t, .slice z.oA z.ops.length z.oc, .slice z.uA z.us.length z.uc, .slice z.wA z.now.length z.wc] hn79
          have hA2 := hP22.set z #[.slice z.bA z.base.length z.bc, .int .i64 z.t, .slice z.oA z.ops.length z.oc, .slice z.uA z.us.length z.uc, .slice z.wA z.now.length z.wc] rfl
          have hA3 := (hyx.off hP1 hg1).off hP22 hg2
          have hA4 := (hyz.off hP1 hg1).off hP22 hg2
          have hA5 := below_setRow (below_setRow hB hn7w #[.slice x1.bA x1.base.length x1.bc, .int .i64 x1.t, .slice x1.oA x1.ops.length x1.oc, .slice x1.uA x1.us.length x1.uc, .slice x1.wA x1.now.length x1.wc]) hn9w #[.slice z.bA z.base.length z.bc, .int .i64 z.t, .slice z.oA z.ops.length z.oc, .slice z.uA z.us.length z.uc, .slice z.wA z.now.length z.wc]
          go_wp2_with fail
          exact ⟨⟨k + 1, V, x1, z, by omega, by go_num, HPI2.out, HPL.out.1, by have := HPL.out.2; omega, hvx, hvz.trans HVS.out.symm, hA1, hA3, hA2, hA4, hA5⟩, by simp [intOf]; omega⟩
      · have hSI := hPI.settle (t := t) (by omega)
        have hSl := settleV_len P t
        have hul := hSI.ulen
        have hyI : PInv y.v := by rw [hyv]; exact hSI
        have hb1 : y.base.length ≤ 200 := by have := tree_len hyI.tree; exact Nat.le_trans this (by omega)
        have hb2 : y.ops.length ≤ 200 := by have h : y.ops = y.v.ops := rfl; rw [h, hyv]; omega
        have hb3 : y.us.length ≤ 200 := by have h : y.us = y.v.us := rfl; rw [h, hyv]; omega
        have hb4 : y.now.length ≤ 200 := by have := tree_len hyI.ntree; exact Nat.le_trans this (by omega)
        have HR := Lib.hid (fun wx (h : PastOk wx y) => pRight_any y wx h hb1 hb2 hb3 hb4 (fun p hp => by have := (tree_fit hyI.tree p hp).s; omega) (fun m hm => by have := opB_wide (hyI.ok m hm); omega) true ⟨fun _ => hyI.right, fun _ => rfl⟩)
        clear hSI hSl hul hyI hb1 hb2 hb3 hb4 hxv hyv hPI hPt hPl
        go_wp2_with fail
        refine (awake_any _).mono ?_
        rintro e w9 ⟨rfl, hb9⟩
        replace hP2 := hP2.below hb9
        replace hy2 := hy2.below hb9
        replace hB := hB.trans (hb9.mono hB.size)
        obtain ⟨p0, p1, p2, p3, p4⟩ := pwIn5 hP2
        go_wp2_with fail
        refine (HR.out w9 hy2).mono ?_
        rintro e w10 ⟨rfl, hb10⟩
        go_wp2_with fail
        go_ret
        exact ⟨rfl, hB.trans (hb10.mono hB.size)⟩

set_option maxRecDepth 100000 in
theorem settles_lifted (os : Os) (started : os.Started) (H : Type) (enc : TypeId × Value → H) :
    ReturnsInHanded {} Try.checked os 6 .any (Rows.pastSettlesSpec.pre6 enc Try.prog Try.f6 Rows.pastSettlesRow.domain false) (Rows.pastSettlesSpec.post enc Try.prog Try.f6 false true false false) := by
  refine returnsInHanded_of_change (C := Try.checked) own started (by kernel_rfl) Try.func6
    (ChangeSpec.witness6 (enc := enc) (C := Try.checked) false ⟨#[], #[.slice none 0 0, .int .u8 0, .slice none 0 0], []⟩ 8 (by kernel_rfl) (by kernel_rfl) (by kernel_rfl) (by kernel_rfl)) ?_
  intro W base args ds gs before hval0 hW _ _
  have hval : ∀ (j : Nat) t v, Try.f6.params[j]? = some t → args[j]? = some v → Value.okWide Try.prog W .any base t v := hval0
  have hW' := hW
  obtain ⟨p, q, hA0, hV, rfl, _, _⟩ := hW
  have hA : DataW.TrodAll enc Try.prog W 0 (fun _ => true) true Try.f6.params.toList args.toList ds p := hA0
  rw [Try.params6] at hA hval
  obtain ⟨v0, v1, v2, d0, d1, d2, p0, p1, p2, rfl, rfl, rfl, h0, h1, h2⟩ := trodAll_three hA
  obtain ⟨A, cap, l, rfl, hT, _, _, hw⟩ := open_ops (hval 0 22 v0 rfl rfl) h0
  obtain ⟨t, rfl, ht⟩ := open_u8 (hval 1 5 v1 rfl rfl) h1
  obtain ⟨A2, cap2, l2, rfl, hT2, _, _, hw2⟩ := open_ops (hval 2 22 v2 rfl rfl) h2
  have hc : Calls Try.prog 6 #[.slice A l.length cap, .int .u8 t, .slice A2 l2.length cap2] W fun e w' => e = .returned (.bool true) ∧ Below W.heap.size W w' := by
    by_cases hf : Fine l
    · by_cases hf2 : Fine l2
      · exact settles_walk A cap l t A2 cap2 l2 W (opsz hw) (opsz hw2) hT hT2 hf hf2 ht
      · exact settles_no A cap l t A2 cap2 l2 W (opsz hw) (opsz hw2) hT hT2 (Or.inr ⟨hf, hf2⟩)
    · exact settles_no A cap l t A2 cap2 l2 W (opsz hw) (opsz hw2) hT hT2 (Or.inl hf)
  refine hc.mono fun e W' ⟨he, hb⟩ => ?_
  subst he
  exact ⟨_, rfl, Frm.law_post (by kernel_rfl) (by kernel_rfl) (by kernel_rfl) Try.underlying4 rfl rfl hW' hb⟩

theorem settles_holds : Rows.PastSettlesSaid :=
  OpenClaim.holds_of_wide 6 Try.f6 rfl rfl rfl rfl rfl rfl rfl ⟨rfl, rfl, rfl, rfl, rfl⟩ rfl rfl rfl rfl rfl (by kernel_rfl) Try.func6 (by kernel_rfl)
    (of_decide_eq_true (by kernel_rfl)) (by unfold Func.isWrapper; first | (rw [if_pos (by decide +kernel)]; kernel_rfl) | (rw [if_neg (by decide +kernel)]; exact ⟨rfl, rfl⟩))
    (fun os started H enc _ => settles_lifted os started H enc)
end Go.Proofs.Ytoidondngoljaaa
