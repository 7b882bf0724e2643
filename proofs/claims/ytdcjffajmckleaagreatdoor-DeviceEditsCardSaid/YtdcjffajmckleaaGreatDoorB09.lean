/- Texts laid one behind the other: Tg, Vl, Vi, Xe, Pa, Pb, Pj, Rf, Rj. -/
import Derived.Test.YtdcjffajmckleaaGreatDoorB08
import Derived.Deep.RegionHeld3
import Derived.Lib.MinMax
import Derived.Deep.CutRange
import Derived.Lib.QuietBelow
import Derived.BigQuiet
/- What Print gives, of the program and of the document. -/
namespace Go.Proofs.YtdcjffajmckleaaGreatDoor
open Go.RowKit Tre Nam Cod
theorem headOf (l : List Pl) (n : Nat) (h : l.length ≤ 1000) : (bytesOf l.length).size ≤ 10 := bytesOf_le _ (by omega) (by omega)
theorem catL_take (l : List Pl) (k : Nat) (h : k < l.length) : catL (l.take (k + 1)) = catL (l.take k) ++ plBytes l[k] := by
  rw [List.take_succ_eq_append_getElem h, catL_snoc]
theorem take_le {l : List Pl} (hf : ∀ p ∈ l, Fit p) (k : Nat) : (catL (l.take k)).size ≤ 46 * l.length := by
  have h := catL_le (l.take k) (fun p hp => hf p (List.mem_of_mem_take hp))
  have : (l.take k).length ≤ l.length := by rw [List.length_take]; omega
  omega
theorem PlIn.rest {w w' : World} {b k : Nat} {p : Pl} (h : PlIn w k p) (hr : Rest b w w') (hne : k ≠ b) : PlIn w' k p := (hr k _ _ _ h hne (by decide)).trans h

set_option maxHeartbeats 4000000 in
theorem refPrint_any (A : Option Addr) (cap : Nat) (l : List Pl) (w : World) (hl : l.length ≤ 1000) (hf : ∀ p ∈ l, Fit p) (hT : Tr w A l) :
    Calls Tryz.prog 88 #[.slice A l.length cap] w fun e w' => e = .returned (.string (treeBytes l)) ∧ Below w.heap.size w w' := by
  have cn := fun w => refNum_any (l.length : Int) w (by omega) (by omega)
  have hh := headOf l 0 hl
  have hT0 : treeBytes l = bytesOf l.length ++ catL l := rfl
  have HT0 := Lib.hid hT0
  generalize bytesOf (l.length : Int) = H at *
  have CN := Lib.hid cn
  clear hT0 cn
  go_enter Tryz.func88, Tryz.ntmps88
  go_wp2_with (go_at_call 56; (with_reducible refine (CN.out _).mono ?_); rintro e w1 ⟨rfl, hb1⟩)
  go_loopw [3, 4] (fun v x wr => ∃ k : Nat, k ≤ l.length ∧ x = .int .i64 k ∧ v = .string (H ++ catL (l.take k)) ∧ Below w.heap.size w wr) (fun _ x _ => l.length - (intOf x).toNat)
  case atStart => exact ⟨0, Nat.zero_le _, rfl, by simp [catL]; rw [bempty], hb1⟩
  case round =>
    obtain ⟨k, hk, rfl, rfl, hnx⟩ := hrel
    have htl := take_le hf k
    by_cases hlt : k < l.length
    · obtain ⟨bb, off, hAe, hbw, hc⟩ := hT (by omega)
      have hbr := Nat.lt_of_lt_of_le hbw hnx.size
      have hat := (hc k hlt).below hnx hbw
      have hft := hf _ (List.getElem_mem hlt)
      have hcat := catL_take l k hlt
      obtain ⟨p, hp⟩ : ∃ p, l[k] = p := ⟨_, rfl⟩
      rw [hp] at hat hft hcat
      obtain ⟨q0, q1, q2⟩ := hat
      have hcat2 : H ++ catL (l.take (k + 1)) = (H ++ catL (l.take k)) ++ bytesOf p.n ++ bytesOf p.u ++ textOf p.s := by rw [hcat]; unfold plBytes; simp only [ByteArray.append_assoc]
      have z := plBytes_le hft
      unfold plBytes at z
      have n1 := fun w => refNum_any p.n w hft.n1 hft.n2
      have n2 := fun w => refNum_any p.u w hft.u1 hft.u2
      have n3 := fun w => refText_any p.s w (by have := hft.s; omega)
      have hXs : (H ++ catL (l.take k)).size = H.size + (catL (l.take k)).size := ByteArray.size_append
      generalize catL (l.take k) = T at *
      generalize H ++ T = X at *
      generalize bytesOf p.n = x1 at *
      generalize bytesOf p.u = x2 at *
      generalize textOf p.s = x3 at *
      simp only [ByteArray.size_append] at z
      have HC := Lib.hid hcat2
      have k0 := cell_regrown q0
      have k1 := cell_regrown q1
      have k2 := cell_regrown q2
      have N1 := Lib.hid n1
      have N2 := Lib.hid n2
      have N3 := Lib.hid n3
      have HF := Lib.hid hf
      clear hcat hcat2 n1 n2 n3 hc hf hp hft q0 q1 q2
      subst hAe
      have y0 : X.size ≤ 47000 := by omega
      have y1 : x1.size ≤ 46 := by omega
      have y2 : x2.size ≤ 46 := by omega
      have y3 : x3.size ≤ 46 := by omega
      have d1 : ∀ d os, Calls Tryz.prog 56 #[.int .i64 p.n] (Sort.grow (redrawn wr d) os) fun e w'' => e = .returned (.string x1) ∧ ∃ p : Regrown, w'' = Sort.grow (redrawn wr p.d) p.os := fun d os => Calls.regrown_of (N1.out _)
      have d2 : ∀ d os, Calls Tryz.prog 56 #[.int .i64 p.u] (Sort.grow (redrawn wr d) os) fun e w'' => e = .returned (.string x2) ∧ ∃ p : Regrown, w'' = Sort.grow (redrawn wr p.d) p.os := fun d os => Calls.regrown_of (N2.out _)
      have d3 : ∀ d os, Calls Tryz.prog 108 #[.string p.s] (Sort.grow (redrawn wr d) os) fun e w'' => e = .returned (.string x3) ∧ ∃ p : Regrown, w'' = Sort.grow (redrawn wr p.d) p.os := fun d os => Calls.regrown_of (N3.out _)
      go_wp2
      refine wp_region_quiet_below (by kernel_rfl) (by kernel_rfl) ?_
      repeat (go_big_quiet_step ((with_reducible (first | exact d1 _ _ | exact d2 _ _ | exact d3 _ _))))
      refine wpQuiet_nil ?_
      intro _ hw'
      obtain ⟨⟨dq, osq⟩, hw''⟩ := hw'
      subst hw''
      go_wp2
      go_roundw
      case rel => exact ⟨k + 1, by omega, by go_num, by rw [HC.out], below_then hnx (below_regrown wr dq osq)⟩
      case measure => simp [intOf]; omega
    · obtain rfl : k = l.length := by omega
      rw [List.take_length]
      go_wp2
      go_ret
      exact ⟨by rw [HT0.out]; rfl, hnx⟩
end Go.Proofs.YtdcjffajmckleaaGreatDoor

/- The document's Print. -/
namespace Go.Proofs.YtdcjffajmckleaaGreatDoor
open Go.RowKit Tre Cod Pst

/-- Operations' bytes, one behind the other. -/
def catM (l : List Mv) : ByteArray := l.foldl (fun s m => s ++ m.bytes) ⟨#[]⟩
theorem catM_snoc (l : List Mv) (m : Mv) : catM (l ++ [m]) = catM l ++ m.bytes := by unfold catM; rw [List.foldl_append]; rfl
theorem catM_next {l : List Mv} {k : Nat} {m : Mv} (h : k < l.length) (hm : l[k] = m) : catM (l.take (k + 1)) = catM (l.take k) ++ m.bytes := by
  rw [List.take_succ_eq_append_getElem h, catM_snoc, hm]
theorem catM_le : ∀ (l : List Mv) (k : Nat), (∀ m ∈ l, m.ok) → (catM (l.take k)).size ≤ 86 * l.length
  | l, 0, _ => by show (ByteArray.mk #[]).size ≤ _; exact Nat.zero_le _
  | l, k + 1, h => by
    by_cases hk : k < l.length
    · have h1 : ∀ j, j ≤ l.length → (catM (l.take j)).size ≤ 86 * j := by
        intro j
        induction j with
        | zero => intro _; exact Nat.zero_le _
        | succ j ih =>
          intro hj
          rw [catM_next (by omega) rfl, ByteArray.size_append]
          have := ih (by omega)
          have := bytes_le (h l[j] (List.getElem_mem _))
          omega
      have := h1 (k + 1) hk
      omega
    · have e : l.take (k + 1) = l.take k := by rw [List.take_of_length_le (by omega), List.take_of_length_le (by omega)]
      rw [e]; exact catM_le l k h
def headV (q : Pv) : ByteArray := treeBytes q.base ++ bytesOf q.t ++ bytesOf q.ops.length
def pastBytes (q : Pv) : ByteArray := headV q ++ catM q.ops

set_option maxRecDepth 100000 in
set_option maxHeartbeats 4000000 in
theorem pastRefPrint_any (x : Pw) (w : World) (hx : PastOk w x) (hl : x.base.length ≤ 1000) (hl2 : x.ops.length ≤ 1000) (hf : ∀ p ∈ x.base, Fit p) (ht : i64 x.t) (ho : ∀ m ∈ x.ops, m.ok) (hts : (treeBytes x.base).size ≤ 100000) :
    Calls Tryz.prog 57 #[.agg #[.slice x.bA x.base.length x.bc, .int .i64 x.t, .slice x.oA x.ops.length x.oc, .slice x.uA x.us.length x.uc, .slice x.wA x.now.length x.wc]] w fun e w' => e = .returned (.string (pastBytes x.v)) ∧ Below w.heap.size w w' := by
  obtain ⟨bA, bc, base, t, oA, oc, ops, uA, uc, us, wA, wc, now⟩ := x
  simp only at hl hl2 hf ht ho hts
  have hxo := hx.o
  have hxb := hx.b
  simp only at hxo hxb
  clear hx
  have hv : pastBytes (⟨bA, bc, base, t, oA, oc, ops, uA, uc, us, wA, wc, now⟩ : Pw).v = (treeBytes base ++ bytesOf t ++ bytesOf ops.length) ++ catM (ops.take ops.length) := by rw [List.take_length]; rfl
  rw [hv]
  clear hv
  have hP : pwE.In (w.alloc (.cells #[.slice bA base.length bc, .int .i64 t, .slice oA ops.length oc, .slice uA us.length uc, .slice wA now.length wc] 40)) w.heap.size (⟨bA, bc, base, t, oA, oc, ops, uA, uc, us, wA, wc, now⟩ : Pw) := El.In.new (E := pwE) w (⟨bA, bc, base, t, oA, oc, ops, uA, uc, us, wA, wc, now⟩ : Pw) #[.slice bA base.length bc, .int .i64 t, .slice oA ops.length oc, .slice uA us.length uc, .slice wA now.length wc] rfl
  have hB := below_alloc (Below.refl w.heap.size w) (.cells #[.slice bA base.length bc, .int .i64 t, .slice oA ops.length oc, .slice uA us.length uc, .slice wA now.length wc] 40)
  have hxo := hxo.below hB
  have hxb := hxb.below hB
  have hcat := fun k => catM_le ops k ho
  have z1 := bytesOf_le t ht.1 ht.2
  have z2 := bytesOf_le ops.length (by omega) (by omega)
  have C1 := fun w (hT : SlV plE w bA bc base) => refPrint_any bA bc base w hl hf (plSl.1 hT.1)
  have C2 := fun w => refNum_any t w ht.1 ht.2
  have C3 := fun w => refNum_any ops.length w (by omega) (by omega)
  generalize treeBytes base = x1 at *
  generalize bytesOf t = x2 at *
  generalize bytesOf ops.length = x3 at *
  have HC1 := Lib.hid C1
  have HC2 := Lib.hid C2
  have HC3 := Lib.hid C3
  clear C1 C2 C3
  go_enter Tryz.func57, Tryz.ntmps57
  go_wp2_with fail
  generalize w.alloc (.cells #[.slice bA base.length bc, .int .i64 t, .slice oA ops.length oc, .slice uA us.length uc, .slice wA now.length wc] 40) = W at *
  have hBs := hB.size
  obtain ⟨n0, h0⟩ : ∃ n, w.heap.size = n := ⟨_, rfl⟩
  rw [h0] at hP ⊢
  clear h0
  obtain ⟨p0, p1, p2, p3, p4⟩ := pwIn5 hP
  have k0 := cell_regrown p0
  have k1 := cell_regrown p1
  have k2 := cell_regrown p2
  clear p0 p1 p2 p3 p4
  have d1 : ∀ d os, Calls Tryz.prog 88 #[.slice bA base.length bc] (Sort.grow (redrawn W d) os) fun e w'' => e = .returned (.string x1) ∧ ∃ p : Regrown, w'' = Sort.grow (redrawn W p.d) p.os := fun d os => Calls.regrown_of (HC1.out _ (hxb.below (below_regrown W d os)))
  have d2 : ∀ d os, Calls Tryz.prog 56 #[.int .i64 t] (Sort.grow (redrawn W d) os) fun e w'' => e = .returned (.string x2) ∧ ∃ p : Regrown, w'' = Sort.grow (redrawn W p.d) p.os := fun d os => Calls.regrown_of (HC2.out _)
  have d3 : ∀ d os, Calls Tryz.prog 56 #[.int .i64 ops.length] (Sort.grow (redrawn W d) os) fun e w'' => e = .returned (.string x3) ∧ ∃ p : Regrown, w'' = Sort.grow (redrawn W p.d) p.os := fun d os => Calls.regrown_of (HC3.out _)
  refine wp_region_quiet_below (by kernel_rfl) (by kernel_rfl) ?_
  repeat (go_big_quiet_step ((with_reducible (first | exact d1 _ _ | exact d2 _ _ | exact d3 _ _))))
  refine wpQuiet_nil ?_
  intro _ hw'
  obtain ⟨⟨dq, osq⟩, hw''⟩ := hw'
  subst hw''
  have hq := below_regrown W dq osq
  generalize Sort.grow (redrawn W dq) osq = W1 at *
  clear d1 d2 d3 k0 k1 k2
  have hP1 := hP.below hq
  have hxo1 := hxo.below hq
  have hB1 := hB.trans (hq.mono hBs)
  go_wp2_with fail
  obtain ⟨H, hH⟩ : ∃ H, x1 ++ x2 ++ x3 = H := ⟨_, rfl⟩
  have hHs : H.size ≤ 100020 := by rw [← hH, ByteArray.size_append, ByteArray.size_append]; omega
  have HH := Lib.hid hH
  clear hH
  have hn0 := hP1.lt
  go_loopw [3, 4] (fun s y wr => ∃ k : Nat, k ≤ ops.length ∧ y = .int .i64 k ∧ s = .string (H ++ catM (ops.take k)) ∧ Below W1.heap.size W1 wr) (fun _ y _ => ops.length - (intOf y).toNat)
  case atStart =>
    refine ⟨0, Nat.zero_le _, rfl, ?_, Below.refl _ _⟩
    rw [← HH.out]
    congr 1
    apply L_inj; rw [L_app]; simp [L, catM]
  case round =>
    obtain ⟨k, hk, rfl, rfl, hnx⟩ := hrel
    obtain ⟨p0, p1, p2, p3, p4⟩ := pwIn5 (hP1.below hnx)
    have hck := hcat k
    by_cases hkl : k < ops.length
    · obtain ⟨b, off, hoA, hbw, hc⟩ := hxo1.1 (by omega)
      have hat : opE.At wr b (off + k * 7) ops[k] := (hc k hkl).below hnx hbw
      have hnext := catM_next hkl rfl
      have hmo := ho ops[k] (List.getElem_mem _)
      obtain ⟨mk, hmk⟩ : ∃ mk, ops[k] = mk := ⟨_, rfl⟩
      rw [hmk] at hat hnext hmo
      have hml := bytes_le hmo
      have hwd := opB_wide hmo
      have CP := fun w => opRefPrint_any mk.C mk.D mk.I mk.M mk.K mk.U mk.s w hwd.1 (by omega)
      have hby : printOf mk.C mk.D mk.I mk.M mk.K mk.U mk.s = mk.bytes := rfl
      rw [hby] at CP
      have HN := Lib.hid hnext
      have HCP := Lib.hid CP
      clear hnext CP hby hc hmk hwd hmo
      generalize catM (ops.take k) = ck at *
      generalize mk.bytes = mb at *
      subst hoA
      go_wp2_with (first | (refine El.load opRow rfl _ rfl b (off + k * 7) rfl mk hat #[.int .i64 mk.C, .int .i64 mk.D, .int .i64 mk.I, .int .i64 mk.M, .int .i64 mk.K, .int .i64 mk.U, .string mk.s] rfl ?_) | (go_at_call 89; (with_reducible refine (HCP.out _).mono ?_); rintro e w3 ⟨rfl, hb3⟩))
      go_roundw
      case rel => exact ⟨k + 1, by omega, by go_num, by rw [HN.out, ByteArray.append_assoc], below_then hnx hb3⟩
      case measure => simp [intOf]; omega
    · obtain rfl : k = ops.length := by omega
      go_wp2
      go_ret
      refine ⟨?_, hB1.trans (hnx.mono (by have := hB1.size; omega))⟩
      rw [HH.out]; rfl
end Go.Proofs.YtdcjffajmckleaaGreatDoor

/- The document's Add. -/
namespace Go.Proofs.YtdcjffajmckleaaGreatDoor
open Go.RowKit Tre Cod Pst

/-- What stays while the new list of operations is built. -/
structure InsK (W0 : World) (n0 n1 n2 B : Nat) (x : Pw) (m : Mv) (A1 A3 : Option Addr) (L1 L3 : List Mv) (W : World) : Prop where
  P : pwE.In W n0 x
  O : opE.In W n1 m
  R : pwE.In W n2 Pw.zero
  o1 : opE.SlB B W A1 L1
  o3 : opE.SlB B W A3 L3
  bel : Below W0.heap.size W0 W
  sz : B ≤ W.heap.size
  lt : n0 < B ∧ n1 < B ∧ n2 < B ∧ W0.heap.size ≤ B
theorem InsK.grown {W0 W W' : World} {n0 n1 n2 B : Nat} {x : Pw} {m : Mv} {A1 A3 : Option Addr} {L1 L3 : List Mv} {row : Option Nat} (h : InsK W0 n0 n1 n2 B x m A1 A3 L1 L3 W) (hg : W.grownBy W' row) (hrow : ∀ k, row = some k → B ≤ k) : InsK W0 n0 n1 n2 B x m A1 A3 L1 L3 W' := by
  obtain ⟨l0, l1, l2, l3⟩ := h.lt
  exact ⟨h.P.keep hg (fun e => by have := hrow _ e.symm; omega), h.O.keep hg (fun e => by have := hrow _ e.symm; omega), h.R.keep hg (fun e => by have := hrow _ e.symm; omega), h.o1.keep hg hrow, h.o3.keep hg hrow, h.bel.grown hg h.bel.size (fun k e => by have := hrow k e; omega), Nat.le_trans h.sz hg.size, h.lt⟩
theorem InsK.alloc {W0 W : World} {n0 n1 n2 B : Nat} {x : Pw} {m : Mv} {A1 A3 : Option Addr} {L1 L3 : List Mv} (h : InsK W0 n0 n1 n2 B x m A1 A3 L1 L3 W) (o : Obj) : InsK W0 n0 n1 n2 B x m A1 A3 L1 L3 (W.alloc o) :=
  h.grown (World.grownBy_alloc W o none) (fun k e => by cases e)
/-- What the region reads. -/
def InsS (n0 n1 : Nat) (A : Option Addr) (len c : Nat) (m : Mv) (w : World) : Prop := w.cell? ⟨n0, 2, none⟩ = some (.slice A len c) ∧ (w.cell? ⟨n1, 0, none⟩ = some (.int .i64 m.C) ∧ w.cell? ⟨n1, 1, none⟩ = some (.int .i64 m.D) ∧ w.cell? ⟨n1, 2, none⟩ = some (.int .i64 m.I) ∧ w.cell? ⟨n1, 3, none⟩ = some (.int .i64 m.M) ∧ w.cell? ⟨n1, 4, none⟩ = some (.int .i64 m.K) ∧ w.cell? ⟨n1, 5, none⟩ = some (.int .i64 m.U) ∧ w.cell? ⟨n1, 6, none⟩ = some (.string m.s))
theorem InsK.s {W0 W : World} {n0 n1 n2 B : Nat} {x : Pw} {m : Mv} {A1 A3 : Option Addr} {L1 L3 : List Mv} (h : InsK W0 n0 n1 n2 B x m A1 A3 L1 L3 W) : InsS n0 n1 x.oA x.ops.length x.oc m W := ⟨(pwIn5 h.P).2.2.1, opIn7 h.O⟩
/-- Where y's lists lie: where x's lay, or in memory made behind n. -/
def Nr (n : Nat) (x y : Pw) : Prop := (y.bA = x.bA ∧ y.base = x.base) ∧ ((y.oA = x.oA ∧ y.ops = x.ops) ∨ Frs n y.oA) ∧ ((y.uA = x.uA ∧ y.us = x.us) ∨ Frs n y.uA) ∧ ((y.wA = x.wA ∧ y.now = x.now) ∨ Frs n y.wA)
theorem addV_same {q : Pv} {m : Mv} (h : ¬ m.C ≤ q.t) (hh : has Mv.C Mv.D q.ops m = true) : addV q m = (q, false) := by unfold addV; rw [if_neg h, if_pos hh]
theorem addV_new {q : Pv} {m : Mv} (h : ¬ m.C ≤ q.t) (hh : has Mv.C Mv.D q.ops m = false) : addV q m = ({ q with ops := insL Mv.C Mv.D q.ops m, us := (foldL q.base (mvs (insL Mv.C Mv.D q.ops m))).2, now := (foldL q.base (mvs (insL Mv.C Mv.D q.ops m))).1 }, true) := by
  unfold addV; rw [if_neg h, hh]; rfl
theorem insL_eq {l : List Mv} {m : Mv} {k : Nat} (h : k = pos Mv.C Mv.D l m) : insL Mv.C Mv.D l m = (l.take k ++ [m]) ++ l.drop k := by unfold insL; rw [← h]

set_option maxRecDepth 100000 in
set_option maxHeartbeats 4000000 in
theorem refAdd_near (x : Pw) (m : Mv) (w : World) (hx : PastOk w x) (hl : x.base.length + x.ops.length ≤ 890) :
    Calls Tryz.prog 12 #[.agg #[.slice x.bA x.base.length x.bc, .int .i64 x.t, .slice x.oA x.ops.length x.oc, .slice x.uA x.us.length x.uc, .slice x.wA x.now.length x.wc], .agg #[.int .i64 m.C, .int .i64 m.D, .int .i64 m.I, .int .i64 m.M, .int .i64 m.K, .int .i64 m.U, .string m.s]] w fun e w' => ∃ y : Pw, e = .returned (.tuple #[.agg #[.slice y.bA y.base.length y.bc, .int .i64 y.t, .slice y.oA y.ops.length y.oc, .slice y.uA y.us.length y.uc, .slice y.wA y.now.length y.wc], .bool (addV x.v m).2]) ∧ PastOk w' y ∧ y.v = (addV x.v m).1 ∧ Below w.heap.size w w' ∧ Nr w.heap.size x y := by
  obtain ⟨bA, bc, base, t, oA, oc, ops, uA, uc, us, wA, wc, now⟩ := x
  simp only at hl
  have hv : (⟨bA, bc, base, t, oA, oc, ops, uA, uc, us, wA, wc, now⟩ : Pw).v = ⟨base, t, ops, us, now⟩ := rfl
  have hP : pwE.In (((w.alloc (.cells #[.slice bA base.length bc, .int .i64 t, .slice oA ops.length oc, .slice uA us.length uc, .slice wA now.length wc] 40)).alloc (.cells #[.int .i64 m.C, .int .i64 m.D, .int .i64 m.I, .int .i64 m.M, .int .i64 m.K, .int .i64 m.U, .string m.s] 55)).alloc (.cells #[.slice none 0 0, .int .i64 0, .slice none 0 0, .slice none 0 0, .slice none 0 0] 40)) w.heap.size (⟨bA, bc, base, t, oA, oc, ops, uA, uc, us, wA, wc, now⟩ : Pw) := ((El.In.new (E := pwE) w (⟨bA, bc, base, t, oA, oc, ops, uA, uc, us, wA, wc, now⟩ : Pw) _ rfl).alloc _).alloc _
  have hO : opE.In (((w.alloc (.cells #[.slice bA base.length bc, .int .i64 t, .slice oA ops.length oc, .slice uA us.length uc, .slice wA now.length wc] 40)).alloc (.cells #[.int .i64 m.C, .int .i64 m.D, .int .i64 m.I, .int .i64 m.M, .int .i64 m.K, .int .i64 m.U, .string m.s] 55)).alloc (.cells #[.slice none 0 0, .int .i64 0, .slice none 0 0, .slice none 0 0, .slice none 0 0] 40)) (w.heap.size + 1) m := by
    have h := (El.In.new (E := opE) (w.alloc (.cells #[.slice bA base.length bc, .int .i64 t, .slice oA ops.length oc, .slice uA us.length uc, .slice wA now.length wc] 40)) m #[.int .i64 m.C, .int .i64 m.D, .int .i64 m.I, .int .i64 m.M, .int .i64 m.K, .int .i64 m.U, .string m.s] rfl).alloc (.cells #[.slice none 0 0, .int .i64 0, .slice none 0 0, .slice none 0 0, .slice none 0 0] 40)
    rw [alloc_size] at h; exact h
  have hR : pwE.In (((w.alloc (.cells #[.slice bA base.length bc, .int .i64 t, .slice oA ops.length oc, .slice uA us.length uc, .slice wA now.length wc] 40)).alloc (.cells #[.int .i64 m.C, .int .i64 m.D, .int .i64 m.I, .int .i64 m.M, .int .i64 m.K, .int .i64 m.U, .string m.s] 55)).alloc (.cells #[.slice none 0 0, .int .i64 0, .slice none 0 0, .slice none 0 0, .slice none 0 0] 40)) (w.heap.size + 2) Pw.zero := by
    have h := El.In.new (E := pwE) ((w.alloc (.cells #[.slice bA base.length bc, .int .i64 t, .slice oA ops.length oc, .slice uA us.length uc, .slice wA now.length wc] 40)).alloc (.cells #[.int .i64 m.C, .int .i64 m.D, .int .i64 m.I, .int .i64 m.M, .int .i64 m.K, .int .i64 m.U, .string m.s] 55)) Pw.zero #[.slice none 0 0, .int .i64 0, .slice none 0 0, .slice none 0 0, .slice none 0 0] rfl
    rw [alloc_size, alloc_size] at h; exact h
  have hB := below_alloc (below_alloc (below_alloc (Below.refl w.heap.size w) (.cells #[.slice bA base.length bc, .int .i64 t, .slice oA ops.length oc, .slice uA us.length uc, .slice wA now.length wc] 40)) (.cells #[.int .i64 m.C, .int .i64 m.D, .int .i64 m.I, .int .i64 m.M, .int .i64 m.K, .int .i64 m.U, .string m.s] 55)) (.cells #[.slice none 0 0, .int .i64 0, .slice none 0 0, .slice none 0 0, .slice none 0 0] 40)
  rw [hv]
  clear hv
  by_cases hle : m.C ≤ t
  · have ha : addV ⟨base, t, ops, us, now⟩ m = (⟨base, t, ops, us, now⟩, false) := by unfold addV; rw [if_pos hle]
    rw [ha]
    clear ha
    go_enter Tryz.func12, Tryz.ntmps12
    go_wp2_with (first | (refine El.load pwRow rfl _ rfl w.heap.size 0 rfl (⟨bA, bc, base, t, oA, oc, ops, uA, uc, us, wA, wc, now⟩ : Pw) hP.at #[.slice bA base.length bc, .int .i64 t, .slice oA ops.length oc, .slice uA us.length uc, .slice wA now.length wc] rfl ?_) | (refine El.store pwRow rfl _ _ rfl (w.heap.size + 2) (⟨bA, bc, base, t, oA, oc, ops, uA, uc, us, wA, wc, now⟩ : Pw) #[.slice bA base.length bc, .int .i64 t, .slice oA ops.length oc, .slice uA us.length uc, .slice wA now.length wc] rfl rfl rfl Pw.zero hR ?_))
    refine El.ret2 pwRow (hR.set (⟨bA, bc, base, t, oA, oc, ops, uA, uc, us, wA, wc, now⟩ : Pw) #[.slice bA base.length bc, .int .i64 t, .slice oA ops.length oc, .slice uA us.length uc, .slice wA now.length wc] rfl) rfl rfl rfl rfl _ rfl ?_
    exact ⟨(⟨bA, bc, base, t, oA, oc, ops, uA, uc, us, wA, wc, now⟩ : Pw), rfl, hx.below (below_setRow hB (by omega) _), rfl, below_setRow hB (by omega) _, ⟨rfl, rfl⟩, Or.inl ⟨rfl, rfl⟩, Or.inl ⟨rfl, rfl⟩, Or.inl ⟨rfl, rfl⟩⟩
  · have hlt : t < m.C := by omega
    go_enter Tryz.func12, Tryz.ntmps12
    go_wp2_with fail
    generalize (((w.alloc (.cells #[.slice bA base.length bc, .int .i64 t, .slice oA ops.length oc, .slice uA us.length uc, .slice wA now.length wc] 40)).alloc (.cells #[.int .i64 m.C, .int .i64 m.D, .int .i64 m.I, .int .i64 m.M, .int .i64 m.K, .int .i64 m.U, .string m.s] 55)).alloc (.cells #[.slice none 0 0, .int .i64 0, .slice none 0 0, .slice none 0 0, .slice none 0 0] 40)) = W at *
    have hBs := hB.size
    obtain ⟨n2, h2⟩ : ∃ n, w.heap.size + 1 + 1 = n := ⟨_, rfl⟩
    rw [h2] at ⊢
    rw [show w.heap.size + 2 = n2 from h2] at hR
    obtain ⟨n1, h1⟩ : ∃ n, w.heap.size + 1 = n := ⟨_, rfl⟩
    rw [h1] at hO ⊢
    obtain ⟨n0, h0⟩ : ∃ n, w.heap.size = n := ⟨_, rfl⟩
    rw [h0] at hP ⊢
    have hx1 := hx.below hB
    rw [h0] at hB
    have hnn : n1 = n0 + 1 ∧ n2 = n0 + 2 ∧ n0 ≤ w.heap.size := by omega
    have HNN := Lib.hid hnn
    have HNW := Lib.hid h0
    have hle9 : ops.length ≤ 890 := by omega
    have hn0W : n0 ≤ W.heap.size := by omega
    have HL9 := Lib.hid hl
    have HL := Lib.hid hx
    clear h0 h1 h2 hnn hx hl
    obtain ⟨hxb, hxo, hxu, hxw⟩ := hx1
    simp only at hxb hxo hxu hxw
    go_loopw [6] (fun k0 wr => ∃ k : Nat, k ≤ ops.length ∧ k0 = .int .i64 k ∧ (∀ i (h : i < ops.length), i < k → bef Mv.C Mv.D ops[i] m) ∧ Below W.heap.size W wr) (fun k0 _ => ops.length - (intOf k0).toNat)
    case atStart => exact ⟨0, Nat.zero_le _, rfl, fun i h hi => by omega, Below.refl _ _⟩
    case round =>
      obtain ⟨k, hk, rfl, hlo, hnx⟩ := hrel
      have hPr := hP.below hnx
      have hOr := hO.below hnx
      by_cases hkl : k < ops.length
      · obtain ⟨b, off, hoA, hbw, hc⟩ := hxo.1 (by omega)
        have hat : opE.At wr b (off + k * 7) ops[k] := (hc k hkl).below hnx hbw
        obtain ⟨mk, hmk⟩ : ∃ mk, ops[k] = mk := ⟨_, rfl⟩
        rw [hmk] at hat
        obtain ⟨t0, t1, t2, t3, t4, t5, t6⟩ := opAt hat
        obtain ⟨p0, p1, p2, p3, p4⟩ := pwIn5 hPr
        obtain ⟨o0, o1, o2, o3, o4, o5, o6⟩ := opIn7 hOr
        have C1 := fun w => refBefore_any mk.C mk.D m.C m.D w
        rw [bef_iff] at C1
        subst hoA
        have k0 := cell_regrown t0
        have k1 := cell_regrown t1
        have k2 := cell_regrown p2
        have k3 := cell_regrown o0
        have k4 := cell_regrown o1
        by_cases hbf : bef Mv.C Mv.D mk m
        · rw [decide_eq_true hbf] at C1
          have HC := Lib.hid C1
          have d1 : ∀ d os, Calls Tryz.prog 31 #[.agg #[.int .i64 mk.C, .int .i64 mk.D], .agg #[.int .i64 m.C, .int .i64 m.D]] (Sort.grow (redrawn wr d) os) fun e w'' => e = .returned (.bool true) ∧ ∃ p : Regrown, w'' = Sort.grow (redrawn wr p.d) p.os := fun d os => Calls.regrown_of (HC.out _)
          have HBF := Lib.hid hbf
          clear C1 hbf t0 t1 t2 t3 t4 t5 t6 p0 p1 p2 p3 p4 o0 o1 o2 o3 o4 o5 o6
          go_wp2_with fail
          refine wp_region_quiet_below (by kernel_rfl) (by kernel_rfl) ?_
          repeat (go_big_quiet_step ((with_reducible (first | exact d1 _ _))))
          refine wpQuiet_nil ?_
          intro _ hw'
          obtain ⟨⟨dq, osq⟩, hw''⟩ := hw'
          subst hw''
          have hq := below_regrown wr dq osq
          generalize Sort.grow (redrawn wr dq) osq = w2 at *
          have hB2 := below_then hnx hq
          clear k0 k1 k2 k3 k4 d1
          go_wp2_with fail
          go_roundw
          case rel =>
            refine ⟨k + 1, by omega, by go_num, fun i hi hlt2 => ?_, hB2⟩
            by_cases e : i = k
            · subst e; rw [hmk]; exact HBF.out
            · exact hlo i hi (by omega)
          case measure => simp [intOf]; omega
        · rw [decide_eq_false hbf] at C1
          have HC := Lib.hid C1
          have d1 : ∀ d os, Calls Tryz.prog 31 #[.agg #[.int .i64 mk.C, .int .i64 mk.D], .agg #[.int .i64 m.C, .int .i64 m.D]] (Sort.grow (redrawn wr d) os) fun e w'' => e = .returned (.bool false) ∧ ∃ p : Regrown, w'' = Sort.grow (redrawn wr p.d) p.os := fun d os => Calls.regrown_of (HC.out _)
          have hpos : k = pos Mv.C Mv.D ops m := pos_eq hk hlo (fun h => by rw [hmk]; exact hbf)
          have hhas := has_at hpos hkl hmk
          have HPOS := Lib.hid hpos
          have HHAS := Lib.hid hhas
          clear C1 hbf hpos hhas t0 t1 t2 t3 t4 t5 t6 p0 p1 p2 p3 p4 o0 o1 o2 o3 o4 o5 o6
          go_wp2_with fail
          refine wp_region_quiet_below (by kernel_rfl) (by kernel_rfl) ?_
          repeat (go_big_quiet_step ((with_reducible (first | exact d1 _ _))))
          refine wpQuiet_nil ?_
          intro _ hw'
          obtain ⟨⟨dq, osq⟩, hw''⟩ := hw'
          subst hw''
          have hq := below_regrown wr dq osq
          generalize Sort.grow (redrawn wr dq) osq = w2 at *
          have hB2 := below_then hnx hq
          clear k0 k1 k2 k3 k4 d1
          go_wp2_with fail
          have hP2 := hPr.below hq
          have hO2 := hOr.below hq
          obtain ⟨p0, p1, p2, p3, p4⟩ := pwIn5 hP2
          obtain ⟨o0, o1, o2, o3, o4, o5, o6⟩ := opIn7 hO2
          obtain ⟨t0, t1, t2, t3, t4, t5, t6⟩ := opAt (hat.below hq (Nat.lt_of_lt_of_le hbw hnx.size))
          have k0 := cell_regrown t0
          have k1 := cell_regrown t1
          have k2 := cell_regrown p2
          have k3 := cell_regrown o0
          have k4 := cell_regrown o1
          clear t0 t1 t2 t3 t4 t5 t6 p0 p1 p2 p3 p4 o0 o1 o2 o3 o4 o5 o6
          by_cases hcd : mk.C = m.C ∧ mk.D = m.D
          · obtain ⟨e1, e2⟩ := hcd
            refine wp_region_quiet_below (by kernel_rfl) (by kernel_rfl) ?_
            repeat (go_big_quiet_step (fail))
            refine wpQuiet_nil ?_
            intro _ hw'
            obtain ⟨⟨dq3, osq3⟩, hw3⟩ := hw'
            subst hw3
            have hq3 := below_regrown w2 dq3 osq3
            generalize Sort.grow (redrawn w2 dq3) osq3 = w3 at *
            have hB3 := below_then hB2 hq3
            have hP3 := hP2.below hq3
            have hO3 := hO2.below hq3
            have hR3 := hR.below hB3
            clear k0 k1 k2 k3 k4
            have ha := addV_same (q := ⟨base, t, ops, us, now⟩) (m := m) (show ¬ m.C ≤ t by omega) (by rw [HHAS.out]; exact decide_eq_true ⟨e1, e2⟩)
            have HA := Lib.hid ha
            clear ha e1 e2
            go_wp2_with (first | (refine El.load pwRow rfl _ rfl n0 0 rfl (⟨bA, bc, base, t, some ⟨b, off, none⟩, oc, ops, uA, uc, us, wA, wc, now⟩ : Pw) hP3.at #[.slice bA base.length bc, .int .i64 t, .slice (some ⟨b, off, none⟩) ops.length oc, .slice uA us.length uc, .slice wA now.length wc] rfl ?_) | (refine El.store pwRow rfl _ _ rfl n2 (⟨bA, bc, base, t, some ⟨b, off, none⟩, oc, ops, uA, uc, us, wA, wc, now⟩ : Pw) #[.slice bA base.length bc, .int .i64 t, .slice (some ⟨b, off, none⟩) ops.length oc, .slice uA us.length uc, .slice wA now.length wc] rfl rfl rfl Pw.zero hR3 ?_))
            refine El.ret2 pwRow (v := .bool false) (hR3.set (⟨bA, bc, base, t, some ⟨b, off, none⟩, oc, ops, uA, uc, us, wA, wc, now⟩ : Pw) #[.slice bA base.length bc, .int .i64 t, .slice (some ⟨b, off, none⟩) ops.length oc, .slice uA us.length uc, .slice wA now.length wc] rfl) rfl rfl rfl rfl #[.slice bA base.length bc, .int .i64 t, .slice (some ⟨b, off, none⟩) ops.length oc, .slice uA us.length uc, .slice wA now.length wc] rfl ?_
            have hBw : Below w.heap.size w w3 := by rw [HNW.out]; exact hB.trans (hB3.mono hn0W)
            have hBz : Below w.heap.size w (w3.setRow n2 #[.slice bA base.length bc, .int .i64 t, .slice (some ⟨b, off, none⟩) ops.length oc, .slice uA us.length uc, .slice wA now.length wc]) := below_setRow hBw (by have := HNN.out; have := HNW.out; omega) _
            exact ⟨(⟨bA, bc, base, t, some ⟨b, off, none⟩, oc, ops, uA, uc, us, wA, wc, now⟩ : Pw), by rw [HA.out], HL.out.below hBz, by rw [HA.out]; rfl, hBz, ⟨rfl, rfl⟩, Or.inl ⟨rfl, rfl⟩, Or.inl ⟨rfl, rfl⟩, Or.inl ⟨rfl, rfl⟩⟩
          · have hhf : has Mv.C Mv.D ops m = false := by rw [HHAS.out]; exact decide_eq_false hcd
            have HHF := Lib.hid hhf
            have hun : (mk.C == m.C) = false ∨ (mk.C = m.C ∧ (mk.D == m.D) = false) := by
              by_cases e : mk.C = m.C
              · right; exact ⟨e, beq_eq_false_iff_ne.2 fun e2 => hcd ⟨e, e2⟩⟩
              · left; exact beq_eq_false_iff_ne.2 e
            clear hhf hcd
            rcases hun with hun | ⟨hun0, hun⟩
            · refine wp_region_quiet_below (by kernel_rfl) (by kernel_rfl) ?_
              repeat (go_big_quiet_step (fail))
              refine wpQuiet_nil ?_
              intro _ hw'
              obtain ⟨⟨dq3, osq3⟩, hw3⟩ := hw'
              subst hw3
              have hq3 := below_regrown w2 dq3 osq3
              generalize Sort.grow (redrawn w2 dq3) osq3 = w3 at *
              have hB3 := below_then hB2 hq3
              have hP3 := hP2.below hq3
              have hO3 := hO2.below hq3
              have hR3 := hR.below hB3
              clear k0 k1 k2 k3 k4
              go_wp2_with fail
              have hA3e : ∃ A3 : Option Addr, (if oc = k then (some ⟨b, off, none⟩ : Option Addr) else Option.map (fun x => x.add (k * 7)) (some ⟨b, off, none⟩ : Option Addr)) = A3 := ⟨_, rfl⟩
              obtain ⟨A3, hA3⟩ := hA3e
              have hO3s := (hxo.1.below hB3)
              have ht1 := hO3s.take k
              have ht3 := hO3s.drop (tz := k) hxo.2.2 hA3
              have hz1 := hxo.2.1
              have hz3 : A3 = none → oc - k = 0 := El.drop_none hxo.2.1 hA3
              have e1 : (ops.take k).length = k := by rw [List.length_take]; omega
              have e3 : (ops.drop k).length = ops.length - k := List.length_drop
              have hkc : k ≤ oc := Nat.le_trans hk hxo.2.2
              have i0 : (0 : Int) ≤ (k : Int) := by omega
              have i1 : (k : Int) ≤ (oc : Int) := by omega
              have i2 : (k : Int) ≤ (ops.length : Int) := by omega
              have hnv := addV_new (q := ⟨base, t, ops, us, now⟩) (m := m) (show ¬ m.C ≤ t by omega) HHF.out
              rw [insL_eq HPOS.out] at hnv
              have HNV := Lib.hid hnv
              have HE1 := Lib.hid e1
              have HE3 := Lib.hid e3
              generalize hL1 : ops.take k = L1 at *
              generalize hL3 : ops.drop k = L3 at *
              obtain ⟨B, hBe⟩ : ∃ B, w3.heap.size = B := ⟨_, rfl⟩
              have hKV : InsK W n0 n1 n2 B (⟨bA, bc, base, t, some ⟨b, off, none⟩, oc, ops, uA, uc, us, wA, wc, now⟩ : Pw) m (some ⟨b, off, none⟩) A3 L1 L3 w3.drew := ⟨hP3, hO3, hR3, El.SlB.of ht1 (Nat.le_of_eq hBe), El.SlB.of ht3 (Nat.le_of_eq hBe), hB3.drew, Nat.le_of_eq hBe.symm, by have := hP3.lt; have := hO3.lt; have := hR3.lt; have := hB3.size; omega⟩
              have hBd : w3.drew.heap.size = B := hBe
              have HL890 : L1.length + L3.length + 1 ≤ 891 := by have := HE1.out; have := HE3.out; omega
              clear e1 e3 hnv hL1 hL3 ht1 ht3 hO3s hP3 hO3 hR3 hBe
              refine region_anyG (S := InsS n0 n1 (some ⟨b, off, none⟩) ops.length oc m) 15 (by kernel_rfl) ?_
              generalize w3.drew = V at *
              have hA3s := hA3
              simp only [Option.map_some, Addr.add_lit] at hA3s
              have hS := hKV.s
              simp only at hS
              refine anyG_take (i := 1) (v := .pointer (some ⟨n0, 2, none⟩)) rfl (by kernel_rfl) (by kernel_rfl) (by kernel_rfl) (by kernel_rfl) (by kernel_rfl) (fun _ _ _ h => h) (Or.inl ⟨by rfl, fun w' hSw => by (obtain ⟨s0, s1, s2, s3, s4, s5, s6, s7⟩ := hSw; go_simp)⟩) hS ?_
              try simp only [Act.put, List.setIfInBounds_toArray, List.set_cons_zero, List.set_cons_succ]
              refine anyG_take (i := 2) (v := .slice (some ⟨b, off, none⟩) ops.length oc) rfl (by kernel_rfl) (by kernel_rfl) (by kernel_rfl) (by kernel_rfl) (by kernel_rfl) (fun _ _ _ h => h) (Or.inl ⟨by rfl, fun w' hSw => by (obtain ⟨s0, s1, s2, s3, s4, s5, s6, s7⟩ := hSw; go_simp)⟩) hS ?_
              try simp only [Act.put, List.setIfInBounds_toArray, List.set_cons_zero, List.set_cons_succ]
              refine anyG_take (i := 3) (v := .int .i64 k) rfl (by kernel_rfl) (by kernel_rfl) (by kernel_rfl) (by kernel_rfl) (by kernel_rfl) (fun _ _ _ h => h) (Or.inl ⟨by rfl, fun w' hSw => by (obtain ⟨s0, s1, s2, s3, s4, s5, s6, s7⟩ := hSw; go_simp)⟩) hS ?_
              try simp only [Act.put, List.setIfInBounds_toArray, List.set_cons_zero, List.set_cons_succ]
              refine anyG_take (i := 4) (v := .slice (some ⟨b, off, none⟩) k oc) rfl (by kernel_rfl) (by kernel_rfl) (by kernel_rfl) (by kernel_rfl) (by kernel_rfl) (fun _ _ _ h => h) (Or.inl ⟨by rfl, fun w' hSw => by (obtain ⟨s0, s1, s2, s3, s4, s5, s6, s7⟩ := hSw; go_simp)⟩) hS ?_
              try simp only [Act.put, List.setIfInBounds_toArray, List.set_cons_zero, List.set_cons_succ]
              refine anyG_take (i := 6) (v := .agg #[.int .i64 m.C, .int .i64 m.D, .int .i64 m.I, .int .i64 m.M, .int .i64 m.K, .int .i64 m.U, .string m.s]) rfl (by kernel_rfl) (by kernel_rfl) (by kernel_rfl) (by kernel_rfl) (by kernel_rfl) (fun _ _ _ h => h) (Or.inl ⟨by rfl, fun w' hSw => by (obtain ⟨s0, s1, s2, s3, s4, s5, s6, s7⟩ := hSw; go_simp)⟩) hS ?_
              try simp only [Act.put, List.setIfInBounds_toArray, List.set_cons_zero, List.set_cons_succ]
              refine anyG_take (i := 9) (v := .pointer (some ⟨n0, 2, none⟩)) rfl (by kernel_rfl) (by kernel_rfl) (by kernel_rfl) (by kernel_rfl) (by kernel_rfl) (fun _ _ _ h => h) (Or.inl ⟨by rfl, fun w' hSw => by (obtain ⟨s0, s1, s2, s3, s4, s5, s6, s7⟩ := hSw; go_simp)⟩) hS ?_
              try simp only [Act.put, List.setIfInBounds_toArray, List.set_cons_zero, List.set_cons_succ]
              refine anyG_take (i := 10) (v := .slice (some ⟨b, off, none⟩) ops.length oc) rfl (by kernel_rfl) (by kernel_rfl) (by kernel_rfl) (by kernel_rfl) (by kernel_rfl) (fun _ _ _ h => h) (Or.inl ⟨by rfl, fun w' hSw => by (obtain ⟨s0, s1, s2, s3, s4, s5, s6, s7⟩ := hSw; go_simp)⟩) hS ?_
              try simp only [Act.put, List.setIfInBounds_toArray, List.set_cons_zero, List.set_cons_succ]
              refine anyG_take (i := 11) (v := .int .i64 k) rfl (by kernel_rfl) (by kernel_rfl) (by kernel_rfl) (by kernel_rfl) (by kernel_rfl) (fun _ _ _ h => h) (Or.inl ⟨by rfl, fun w' hSw => by (obtain ⟨s0, s1, s2, s3, s4, s5, s6, s7⟩ := hSw; go_simp)⟩) hS ?_
              try simp only [Act.put, List.setIfInBounds_toArray, List.set_cons_zero, List.set_cons_succ]
              refine anyG_take (i := 12) (v := .slice A3 (ops.length - k) (oc - k)) rfl (by kernel_rfl) (by kernel_rfl) (by kernel_rfl) (by kernel_rfl) (by kernel_rfl) (fun _ _ _ h => h) (Or.inl ⟨by rfl, fun w' hSw => by (obtain ⟨s0, s1, s2, s3, s4, s5, s6, s7⟩ := hSw; go_simp)⟩) hS ?_
              try simp only [Act.put, List.setIfInBounds_toArray, List.set_cons_zero, List.set_cons_succ]
              refine anyG_step (rs := [0, 7]) (by kernel_rfl) (by simp) ?_
              refine AllG.cons rfl (fun K hK => ?_) (AllG.cons rfl (fun K hK => ?_) AllG.nil)
              · have hK1 := hKV.alloc (.cells #[] 55)
                go_simp
                refine hK.out _ _ hK1.s ?_
                try simp only [Act.put, List.setIfInBounds_toArray, List.set_cons_zero, List.set_cons_succ]
                have own1 : opE.Own (V.alloc (.cells #[] 55)) B (.slice (some ⟨B, 0, none⟩) 0 0) [] := by
                  have h := El.Own.empty (E := opE) V B (by omega)
                  rw [hBd] at h; exact h
                have hsz1 : (V.alloc (.cells #[] 55)).heap.size = B + 1 := by rw [alloc_size, hBd]
                refine anyG_step (rs := [5, 7]) (by kernel_rfl) (by simp) ?_
                refine AllG.cons rfl (fun K hK => ?_) (AllG.cons rfl (fun K hK => ?_) AllG.nil)
                · refine El.step_app opInn rfl (.tmp 49) (.tmp 53) rfl B _ [] L1 rfl own1 (some ⟨b, off, none⟩) k oc rfl HE1.out (hK1.o1.sl hK1.sz) hz1 (by simp; omega) hK1.sz ?_
                  intro v1 W1 own2 hg1 hat1
                  have own2 : opE.Own W1 B v1 L1 := own2
                  have hK2 := hK1.grown hg1 (own1).rows
                  clear hat1
                  refine hK.out _ _ hK2.s ?_
                  try simp only [Act.put, List.setIfInBounds_toArray, List.set_cons_zero, List.set_cons_succ]
                  refine anyG_step (rs := [7]) (by kernel_rfl) (by simp) ?_
                  refine AllG.cons rfl (fun K hK => ?_) AllG.nil
                  have hK3 := hK2.alloc (.cells #[.int .i64 m.C, .int .i64 m.D, .int .i64 m.I, .int .i64 m.M, .int .i64 m.K, .int .i64 m.U, .string m.s] 55)
                  go_simp
                  refine hK.out _ _ hK3.s ?_
                  try simp only [Act.put, List.setIfInBounds_toArray, List.set_cons_zero, List.set_cons_succ]
                  have own3 := own2.below (below_alloc (Below.refl _ W1) (.cells #[.int .i64 m.C, .int .i64 m.D, .int .i64 m.I, .int .i64 m.M, .int .i64 m.K, .int .i64 m.U, .string m.s] 55))
                  have one3 : opE.Sl (W1.alloc (.cells #[.int .i64 m.C, .int .i64 m.D, .int .i64 m.I, .int .i64 m.M, .int .i64 m.K, .int .i64 m.U, .string m.s] 55)) (some ⟨W1.heap.size, 0, none⟩) [m] := (El.In.new (E := opE) W1 m #[.int .i64 m.C, .int .i64 m.D, .int .i64 m.I, .int .i64 m.M, .int .i64 m.K, .int .i64 m.U, .string m.s] rfl).sl
                  refine anyG_step (rs := [8]) (by kernel_rfl) (by simp) ?_
                  refine AllG.cons rfl (fun K hK => ?_) AllG.nil
                  refine El.step_app opInn rfl (.tmp 54) (.tmp 56) rfl B _ L1 [m] rfl own3 (some ⟨W1.heap.size, 0, none⟩) 1 1 rfl rfl one3 (fun e => by cases e) (by simp; omega) hK3.sz ?_
                  intro v2 W2 own4 hg2 hat2
                  have hK4 := hK3.grown hg2 (own3).rows
                  clear hat2
                  refine hK.out _ _ hK4.s ?_
                  try simp only [Act.put, List.setIfInBounds_toArray, List.set_cons_zero, List.set_cons_succ]
                  refine anyG_step (rs := [13]) (by kernel_rfl) (by simp) ?_
                  refine AllG.cons rfl (fun K hK => ?_) AllG.nil
                  refine El.step_app opInn rfl (.tmp 57) (.tmp 61) rfl B _ (L1 ++ [m]) L3 rfl own4 A3 (ops.length - k) (oc - k) rfl HE3.out (hK4.o3.sl hK4.sz) hz3 (by rw [List.length_append, List.length_singleton]; omega) hK4.sz ?_
                  intro v3 W3 ownF hg3 hat3
                  have hKF := hK4.grown hg3 (own4).rows
                  clear hat3
                  refine hK.out _ _ hKF.s ?_
                  try simp only [Act.put, List.setIfInBounds_toArray, List.set_cons_zero, List.set_cons_succ]
                  obtain ⟨A', c', rfl, hSn⟩ := SlV.own ownF
                  have hfr := ownF.frs
                  have hLL : ((L1 ++ [m]) ++ L3).length ≤ ops.length + 1 := by rw [List.length_append, List.length_append, List.length_singleton, HE1.out, HE3.out]; omega
                  generalize (L1 ++ [m]) ++ L3 = L at *
                  have hS := hKF.s
                  simp only at hS
                  refine anyG_take (i := 14) (v := .pointer (some ⟨n0, 2, none⟩)) rfl (by kernel_rfl) (by kernel_rfl) (by kernel_rfl) (by kernel_rfl) (by kernel_rfl) (fun _ _ _ h => h) (Or.inl ⟨by rfl, fun w' hSw => by (obtain ⟨s0, s1, s2, s3, s4, s5, s6, s7⟩ := hSw; go_simp)⟩) hS ?_
                  try simp only [Act.put, List.setIfInBounds_toArray, List.set_cons_zero, List.set_cons_succ]
                  refine anyG_step (rs := [15]) (by kernel_rfl) (by simp) ?_
                  refine AllG.last (n := 15) rfl (fun K hK => ?_)
                  obtain ⟨p0, p1, p2, p3, p4⟩ := pwIn5 hKF.P
                  have pf := hKF.P.frozen
                  go_simp
                  refine hK.out _ _ ?_
                  try simp only [Act.put, List.setIfInBounds_toArray, List.set_cons_zero, List.set_cons_succ]
                  refine anyG_done (by kernel_rfl) ?_ _
                  have hlt4 := hKF.lt
                  have hn20 : n2 ≠ n0 := by have := HNN.out; omega
                  have hP7 := hKF.P.put ⟨bA, bc, base, t, A', c', L, uA, uc, us, wA, wc, now⟩ 2 (.slice A' L.length c') rfl
                  have hR7 := hKF.R.other n0 2 (.slice A' L.length c') hn20
                  have hg7 := by_cell W3 n0 2 (.slice A' L.length c')
                  have hS7 := hSn.keep hfr hg7 hlt4.1
                  have hB6 : Below w.heap.size w W3 := by rw [HNW.out]; exact hB.trans (hKF.bel.mono hn0W)
                  have hB7 := hB6.grown hg7 hB6.size (fun j e => by have := Option.some.inj e; have := HNW.out; omega)
                  have hb7 := (HL.out.below hB7).b
                  simp only at hb7
                  have CF := mvRefFold_any bA bc base A' c' L _ (by have := HL9.out; omega) hb7 hS7.1
                  generalize W3.setCell ⟨n0, 2, none⟩ (.slice A' L.length c') = W7 at *
                  clear p0 p1 p2 p3 p4 pf hK hKF hS hSn ownF
                  obtain ⟨r0, r1, r2, r3, r4⟩ := pwIn5 hP7
                  go_wp2_with fail
                  refine CF.mono ?_
                  rintro e W8 ⟨A5, c5, U5, uc5, rfl, hF1, hF2, hfr1, hfr2, hb8⟩
                  clear CF r0 r1 r2 r3 r4
                  have hP8 := hP7.below hb8
                  have hR8 := hR7.below hb8
                  have hS8 := hS7.below hb8
                  have hl0 := hP7.lt
                  have hl2 := hR7.lt
                  generalize (foldL base (mvs L)).1 = now1 at *
                  generalize (foldL base (mvs L)).2 = us1 at *
                  obtain ⟨r0, r1, r2, r3, r4⟩ := pwIn5 hP8
                  have pf8 := hP8.frozen
                  have hP10 := (hP8.put ⟨bA, bc, base, t, A', c', L, uA, uc, us, A5, c5, now1⟩ 4 (.slice A5 now1.length c5) rfl).put ⟨bA, bc, base, t, A', c', L, U5, uc5, us1, A5, c5, now1⟩ 3 (.slice U5 us1.length uc5) rfl
                  have hR10 := (hR8.other n0 4 (.slice A5 now1.length c5) hn20).other n0 3 (.slice U5 us1.length uc5) hn20
                  have hg10 := by_cell2 (by_cell W8 n0 4 (.slice A5 now1.length c5)) 3 (.slice U5 us1.length uc5)
                  go_wp2_with (first | (refine El.load pwRow rfl _ rfl n0 0 rfl ⟨bA, bc, base, t, A', c', L, U5, uc5, us1, A5, c5, now1⟩ hP10.at #[.slice bA base.length bc, .int .i64 t, .slice A' L.length c', .slice U5 us1.length uc5, .slice A5 now1.length c5] rfl ?_) | (refine El.store pwRow rfl _ _ rfl n2 ⟨bA, bc, base, t, A', c', L, U5, uc5, us1, A5, c5, now1⟩ #[.slice bA base.length bc, .int .i64 t, .slice A' L.length c', .slice U5 us1.length uc5, .slice A5 now1.length c5] rfl rfl rfl Pw.zero hR10 ?_))
                  refine El.ret2 pwRow (v := .bool true) (hR10.set ⟨bA, bc, base, t, A', c', L, U5, uc5, us1, A5, c5, now1⟩ #[.slice bA base.length bc, .int .i64 t, .slice A' L.length c', .slice U5 us1.length uc5, .slice A5 now1.length c5] rfl) rfl rfl rfl rfl #[.slice bA base.length bc, .int .i64 t, .slice A' L.length c', .slice U5 us1.length uc5, .slice A5 now1.length c5] rfl ?_
                  have hw0 : w.heap.size ≤ n0 ∧ w.heap.size ≤ n2 := by have := HNN.out; have := HNW.out; omega
                  have hB8 := below_then hB7 hb8
                  have hB10 := hB8.grown hg10 hB8.size (fun j e => by have := Option.some.inj e; omega)
                  have hBz := below_setRow hB10 hw0.2 #[.slice bA base.length bc, .int .i64 t, .slice A' L.length c', .slice U5 us1.length uc5, .slice A5 now1.length c5]
                  have hgz := fun W => by_row W n2 #[.slice bA base.length bc, .int .i64 t, .slice A' L.length c', .slice U5 us1.length uc5, .slice A5 now1.length c5]
                  exact ⟨⟨bA, bc, base, t, A', c', L, U5, uc5, us1, A5, c5, now1⟩, by rw [HNV.out], ⟨(HL.out.below hBz).b, (hS8.keep hfr hg10 hlt4.1).keep hfr (hgz _) hlt4.2.2.1, (hF2.keep hfr2 hg10 hl0).keep hfr2 (hgz _) hl2, (hF1.keep hfr1 hg10 hl0).keep hfr1 (hgz _) hl2⟩, by rw [HNV.out]; rfl, hBz, ⟨rfl, rfl⟩, Or.inr (hfr.mono (by have := HNW.out; have := hlt4.1; omega)), Or.inr (hfr2.mono (by have := HNW.out; have := hB7.size; omega)), Or.inr (hfr1.mono (by have := HNW.out; have := hB7.size; omega))⟩
                · have hK2 := hK1.alloc (.cells #[.int .i64 m.C, .int .i64 m.D, .int .i64 m.I, .int .i64 m.M, .int .i64 m.K, .int .i64 m.U, .string m.s] 55)
                  go_simp
                  refine hK.out _ _ hK2.s ?_
                  try simp only [Act.put, List.setIfInBounds_toArray, List.set_cons_zero, List.set_cons_succ]
                  have own2 := own1.below (below_alloc (Below.refl _ (V.alloc (.cells #[] 55))) (.cells #[.int .i64 m.C, .int .i64 m.D, .int .i64 m.I, .int .i64 m.M, .int .i64 m.K, .int .i64 m.U, .string m.s] 55))
                  have one2 : opE.Sl ((V.alloc (.cells #[] 55)).alloc (.cells #[.int .i64 m.C, .int .i64 m.D, .int .i64 m.I, .int .i64 m.M, .int .i64 m.K, .int .i64 m.U, .string m.s] 55)) (some ⟨B + 1, 0, none⟩) [m] := by
                    have h := (El.In.new (E := opE) (V.alloc (.cells #[] 55)) m #[.int .i64 m.C, .int .i64 m.D, .int .i64 m.I, .int .i64 m.M, .int .i64 m.K, .int .i64 m.U, .string m.s] rfl).sl
                    rw [hsz1] at h; exact h
                  refine anyG_step (rs := [5]) (by kernel_rfl) (by simp) ?_
                  refine AllG.cons rfl (fun K hK => ?_) AllG.nil
                  refine El.step_app opInn rfl (.tmp 49) (.tmp 53) rfl B _ [] L1 rfl own2 (some ⟨b, off, none⟩) k oc rfl HE1.out (hK2.o1.sl hK2.sz) hz1 (by simp; omega) hK2.sz ?_
                  intro v1 W1 own3 hg1 hat1
                  have own3 : opE.Own W1 B v1 L1 := own3
                  have hK3 := hK2.grown hg1 (own2).rows
                  have one3 := one2.keep1 hg1 (fun e => by have e : some (B + 1) = some B := e; have := Option.some.inj e; omega)
                  clear hat1
                  refine hK.out _ _ hK3.s ?_
                  try simp only [Act.put, List.setIfInBounds_toArray, List.set_cons_zero, List.set_cons_succ]
                  refine anyG_step (rs := [8]) (by kernel_rfl) (by simp) ?_
                  refine AllG.cons rfl (fun K hK => ?_) AllG.nil
                  refine El.step_app opInn rfl (.tmp 54) (.tmp 56) rfl B _ L1 [m] rfl own3 (some ⟨B + 1, 0, none⟩) 1 1 rfl rfl one3 (fun e => by cases e) (by simp; omega) hK3.sz ?_
                  intro v2 W2 own4 hg2 hat2
                  have hK4 := hK3.grown hg2 (own3).rows
                  clear hat2
                  refine hK.out _ _ hK4.s ?_
                  try simp only [Act.put, List.setIfInBounds_toArray, List.set_cons_zero, List.set_cons_succ]
                  refine anyG_step (rs := [13]) (by kernel_rfl) (by simp) ?_
                  refine AllG.cons rfl (fun K hK => ?_) AllG.nil
                  refine El.step_app opInn rfl (.tmp 57) (.tmp 61) rfl B _ (L1 ++ [m]) L3 rfl own4 A3 (ops.length - k) (oc - k) rfl HE3.out (hK4.o3.sl hK4.sz) hz3 (by rw [List.length_append, List.length_singleton]; omega) hK4.sz ?_
                  intro v3 W3 ownF hg3 hat3
                  have hKF := hK4.grown hg3 (own4).rows
                  clear hat3
                  refine hK.out _ _ hKF.s ?_
                  try simp only [Act.put, List.setIfInBounds_toArray, List.set_cons_zero, List.set_cons_succ]
                  obtain ⟨A', c', rfl, hSn⟩ := SlV.own ownF
                  have hfr := ownF.frs
                  have hLL : ((L1 ++ [m]) ++ L3).length ≤ ops.length + 1 := by rw [List.length_append, List.length_append, List.length_singleton, HE1.out, HE3.out]; omega
                  generalize (L1 ++ [m]) ++ L3 = L at *
                  have hS := hKF.s
                  simp only at hS
                  refine anyG_take (i := 14) (v := .pointer (some ⟨n0, 2, none⟩)) rfl (by kernel_rfl) (by kernel_rfl) (by kernel_rfl) (by kernel_rfl) (by kernel_rfl) (fun _ _ _ h => h) (Or.inl ⟨by rfl, fun w' hSw => by (obtain ⟨s0, s1, s2, s3, s4, s5, s6, s7⟩ := hSw; go_simp)⟩) hS ?_
                  try simp only [Act.put, List.setIfInBounds_toArray, List.set_cons_zero, List.set_cons_succ]
                  refine anyG_step (rs := [15]) (by kernel_rfl) (by simp) ?_
                  refine AllG.last (n := 15) rfl (fun K hK => ?_)
                  obtain ⟨p0, p1, p2, p3, p4⟩ := pwIn5 hKF.P
                  have pf := hKF.P.frozen
                  go_simp
                  refine hK.out _ _ ?_
                  try simp only [Act.put, List.setIfInBounds_toArray, List.set_cons_zero, List.set_cons_succ]
                  refine anyG_done (by kernel_rfl) ?_ _
                  have hlt4 := hKF.lt
                  have hn20 : n2 ≠ n0 := by have := HNN.out; omega
                  have hP7 := hKF.P.put ⟨bA, bc, base, t, A', c', L, uA, uc, us, wA, wc, now⟩ 2 (.slice A' L.length c') rfl
                  have hR7 := hKF.R.other n0 2 (.slice A' L.length c') hn20
                  have hg7 := by_cell W3 n0 2 (.slice A' L.length c')
                  have hS7 := hSn.keep hfr hg7 hlt4.1
                  have hB6 : Below w.heap.size w W3 := by rw [HNW.out]; exact hB.trans (hKF.bel.mono hn0W)
                  have hB7 := hB6.grown hg7 hB6.size (fun j e => by have := Option.some.inj e; have := HNW.out; omega)
                  have hb7 := (HL.out.below hB7).b
                  simp only at hb7
                  have CF := mvRefFold_any bA bc base A' c' L _ (by have := HL9.out; omega) hb7 hS7.1
                  generalize W3.setCell ⟨n0, 2, none⟩ (.slice A' L.length c') = W7 at *
                  clear p0 p1 p2 p3 p4 pf hK hKF hS hSn ownF
                  obtain ⟨r0, r1, r2, r3, r4⟩ := pwIn5 hP7
                  go_wp2_with fail
                  refine CF.mono ?_
                  rintro e W8 ⟨A5, c5, U5, uc5, rfl, hF1, hF2, hfr1, hfr2, hb8⟩
                  clear CF r0 r1 r2 r3 r4
                  have hP8 := hP7.below hb8
                  have hR8 := hR7.below hb8
                  have hS8 := hS7.below hb8
                  have hl0 := hP7.lt
                  have hl2 := hR7.lt
                  generalize (foldL base (mvs L)).1 = now1 at *
                  generalize (foldL base (mvs L)).2 = us1 at *
                  obtain ⟨r0, r1, r2, r3, r4⟩ := pwIn5 hP8
                  have pf8 := hP8.frozen
                  have hP10 := (hP8.put ⟨bA, bc, base, t, A', c', L, uA, uc, us, A5, c5, now1⟩ 4 (.slice A5 now1.length c5) rfl).put ⟨bA, bc, base, t, A', c', L, U5, uc5, us1, A5, c5, now1⟩ 3 (.slice U5 us1.length uc5) rfl
                  have hR10 := (hR8.other n0 4 (.slice A5 now1.length c5) hn20).other n0 3 (.slice U5 us1.length uc5) hn20
                  have hg10 := by_cell2 (by_cell W8 n0 4 (.slice A5 now1.length c5)) 3 (.slice U5 us1.length uc5)
                  go_wp2_with (first | (refine El.load pwRow rfl _ rfl n0 0 rfl ⟨bA, bc, base, t, A', c', L, U5, uc5, us1, A5, c5, now1⟩ hP10.at #[.slice bA base.length bc, .int .i64 t, .slice A' L.length c', .slice U5 us1.length uc5, .slice A5 now1.length c5] rfl ?_) | (refine El.store pwRow rfl _ _ rfl n2 ⟨bA, bc, base, t, A', c', L, U5, uc5, us1, A5, c5, now1⟩ #[.slice bA base.length bc, .int .i64 t, .slice A' L.length c', .slice U5 us1.length uc5, .slice A5 now1.length c5] rfl rfl rfl Pw.zero hR10 ?_))
                  refine El.ret2 pwRow (v := .bool true) (hR10.set ⟨bA, bc, base, t, A', c', L, U5, uc5, us1, A5, c5, now1⟩ #[.slice bA base.length bc, .int .i64 t, .slice A' L.length c', .slice U5 us1.length uc5, .slice A5 now1.length c5] rfl) rfl rfl rfl rfl #[.slice bA base.length bc, .int .i64 t, .slice A' L.length c', .slice U5 us1.length uc5, .slice A5 now1.length c5] rfl ?_
                  have hw0 : w.heap.size ≤ n0 ∧ w.heap.size ≤ n2 := by have := HNN.out; have := HNW.out; omega
                  have hB8 := below_then hB7 hb8
                  have hB10 := hB8.grown hg10 hB8.size (fun j e => by have := Option.some.inj e; omega)
                  have hBz := below_setRow hB10 hw0.2 #[.slice bA base.length bc, .int .i64 t, .slice A' L.length c', .slice U5 us1.length uc5, .slice A5 now1.length c5]
                  have hgz := fun W => by_row W n2 #[.slice bA base.length bc, .int .i64 t, .slice A' L.length c', .slice U5 us1.length uc5, .slice A5 now1.length c5]
                  exact ⟨⟨bA, bc, base, t, A', c', L, U5, uc5, us1, A5, c5, now1⟩, by rw [HNV.out], ⟨(HL.out.below hBz).b, (hS8.keep hfr hg10 hlt4.1).keep hfr (hgz _) hlt4.2.2.1, (hF2.keep hfr2 hg10 hl0).keep hfr2 (hgz _) hl2, (hF1.keep hfr1 hg10 hl0).keep hfr1 (hgz _) hl2⟩, by rw [HNV.out]; rfl, hBz, ⟨rfl, rfl⟩, Or.inr (hfr.mono (by have := HNW.out; have := hlt4.1; omega)), Or.inr (hfr2.mono (by have := HNW.out; have := hB7.size; omega)), Or.inr (hfr1.mono (by have := HNW.out; have := hB7.size; omega))⟩
              · have hK1 := hKV.alloc (.cells #[.int .i64 m.C, .int .i64 m.D, .int .i64 m.I, .int .i64 m.M, .int .i64 m.K, .int .i64 m.U, .string m.s] 55)
                go_simp
                refine hK.out _ _ hK1.s ?_
                try simp only [Act.put, List.setIfInBounds_toArray, List.set_cons_zero, List.set_cons_succ]
                have one1 : opE.Sl (V.alloc (.cells #[.int .i64 m.C, .int .i64 m.D, .int .i64 m.I, .int .i64 m.M, .int .i64 m.K, .int .i64 m.U, .string m.s] 55)) (some ⟨B, 0, none⟩) [m] := by
                  have h := (El.In.new (E := opE) V m #[.int .i64 m.C, .int .i64 m.D, .int .i64 m.I, .int .i64 m.M, .int .i64 m.K, .int .i64 m.U, .string m.s] rfl).sl
                  rw [hBd] at h; exact h
                have hsz1 : (V.alloc (.cells #[.int .i64 m.C, .int .i64 m.D, .int .i64 m.I, .int .i64 m.M, .int .i64 m.K, .int .i64 m.U, .string m.s] 55)).heap.size = B + 1 := by rw [alloc_size, hBd]
                refine anyG_step (rs := [0]) (by kernel_rfl) (by simp) ?_
                refine AllG.cons rfl (fun K hK => ?_) AllG.nil
                have hK2 := hK1.alloc (.cells #[] 55)
                go_simp
                refine hK.out _ _ hK2.s ?_
                try simp only [Act.put, List.setIfInBounds_toArray, List.set_cons_zero, List.set_cons_succ]
                have own2 : opE.Own ((V.alloc (.cells #[.int .i64 m.C, .int .i64 m.D, .int .i64 m.I, .int .i64 m.M, .int .i64 m.K, .int .i64 m.U, .string m.s] 55)).alloc (.cells #[] 55)) B (.slice (some ⟨B + 1, 0, none⟩) 0 0) [] := by
                  have h := El.Own.empty (E := opE) (V.alloc (.cells #[.int .i64 m.C, .int .i64 m.D, .int .i64 m.I, .int .i64 m.M, .int .i64 m.K, .int .i64 m.U, .string m.s] 55)) B (by omega)
                  rw [hsz1] at h; exact h
                have one2 := one1.below (below_alloc (Below.refl _ (V.alloc (.cells #[.int .i64 m.C, .int .i64 m.D, .int .i64 m.I, .int .i64 m.M, .int .i64 m.K, .int .i64 m.U, .string m.s] 55))) (.cells #[] 55))
                refine anyG_step (rs := [5]) (by kernel_rfl) (by simp) ?_
                refine AllG.cons rfl (fun K hK => ?_) AllG.nil
                refine El.step_app opInn rfl (.tmp 49) (.tmp 53) rfl B _ [] L1 rfl own2 (some ⟨b, off, none⟩) k oc rfl HE1.out (hK2.o1.sl hK2.sz) hz1 (by simp; omega) hK2.sz ?_
                intro v1 W1 own3 hg1 hat1
                have own3 : opE.Own W1 B v1 L1 := own3
                have hK3 := hK2.grown hg1 (own2).rows
                have one3 := one2.keep1 hg1 (fun e => by have e : some B = some (B + 1) := e; have := Option.some.inj e; omega)
                clear hat1
                refine hK.out _ _ hK3.s ?_
                try simp only [Act.put, List.setIfInBounds_toArray, List.set_cons_zero, List.set_cons_succ]
                refine anyG_step (rs := [8]) (by kernel_rfl) (by simp) ?_
                refine AllG.cons rfl (fun K hK => ?_) AllG.nil
                refine El.step_app opInn rfl (.tmp 54) (.tmp 56) rfl B _ L1 [m] rfl own3 (some ⟨B, 0, none⟩) 1 1 rfl rfl one3 (fun e => by cases e) (by simp; omega) hK3.sz ?_
                intro v2 W2 own4 hg2 hat2
                have hK4 := hK3.grown hg2 (own3).rows
                clear hat2
                refine hK.out _ _ hK4.s ?_
                try simp only [Act.put, List.setIfInBounds_toArray, List.set_cons_zero, List.set_cons_succ]
                refine anyG_step (rs := [13]) (by kernel_rfl) (by simp) ?_
                refine AllG.cons rfl (fun K hK => ?_) AllG.nil
                refine El.step_app opInn rfl (.tmp 57) (.tmp 61) rfl B _ (L1 ++ [m]) L3 rfl own4 A3 (ops.length - k) (oc - k) rfl HE3.out (hK4.o3.sl hK4.sz) hz3 (by rw [List.length_append, List.length_singleton]; omega) hK4.sz ?_
                intro v3 W3 ownF hg3 hat3
                have hKF := hK4.grown hg3 (own4).rows
                clear hat3
                refine hK.out _ _ hKF.s ?_
                try simp only [Act.put, List.setIfInBounds_toArray, List.set_cons_zero, List.set_cons_succ]
                obtain ⟨A', c', rfl, hSn⟩ := SlV.own ownF
                have hfr := ownF.frs
                have hLL : ((L1 ++ [m]) ++ L3).length ≤ ops.length + 1 := by rw [List.length_append, List.length_append, List.length_singleton, HE1.out, HE3.out]; omega
                generalize (L1 ++ [m]) ++ L3 = L at *
                have hS := hKF.s
                simp only at hS
                refine anyG_take (i := 14) (v := .pointer (some ⟨n0, 2, none⟩)) rfl (by kernel_rfl) (by kernel_rfl) (by kernel_rfl) (by kernel_rfl) (by kernel_rfl) (fun _ _ _ h => h) (Or.inl ⟨by rfl, fun w' hSw => by (obtain ⟨s0, s1, s2, s3, s4, s5, s6, s7⟩ := hSw; go_simp)⟩) hS ?_
                try simp only [Act.put, List.setIfInBounds_toArray, List.set_cons_zero, List.set_cons_succ]
                refine anyG_step (rs := [15]) (by kernel_rfl) (by simp) ?_
                refine AllG.last (n := 15) rfl (fun K hK => ?_)
                obtain ⟨p0, p1, p2, p3, p4⟩ := pwIn5 hKF.P
                have pf := hKF.P.frozen
                go_simp
                refine hK.out _ _ ?_
                try simp only [Act.put, List.setIfInBounds_toArray, List.set_cons_zero, List.set_cons_succ]
                refine anyG_done (by kernel_rfl) ?_ _
                have hlt4 := hKF.lt
                have hn20 : n2 ≠ n0 := by have := HNN.out; omega
                have hP7 := hKF.P.put ⟨bA, bc, base, t, A', c', L, uA, uc, us, wA, wc, now⟩ 2 (.slice A' L.length c') rfl
                have hR7 := hKF.R.other n0 2 (.slice A' L.length c') hn20
                have hg7 := by_cell W3 n0 2 (.slice A' L.length c')
                have hS7 := hSn.keep hfr hg7 hlt4.1
                have hB6 : Below w.heap.size w W3 := by rw [HNW.out]; exact hB.trans (hKF.bel.mono hn0W)
                have hB7 := hB6.grown hg7 hB6.size (fun j e => by have := Option.some.inj e; have := HNW.out; omega)
                have hb7 := (HL.out.below hB7).b
                simp only at hb7
                have CF := mvRefFold_any bA bc base A' c' L _ (by have := HL9.out; omega) hb7 hS7.1
                generalize W3.setCell ⟨n0, 2, none⟩ (.slice A' L.length c') = W7 at *
                clear p0 p1 p2 p3 p4 pf hK hKF hS hSn ownF
                obtain ⟨r0, r1, r2, r3, r4⟩ := pwIn5 hP7
                go_wp2_with fail
                refine CF.mono ?_
                rintro e W8 ⟨A5, c5, U5, uc5, rfl, hF1, hF2, hfr1, hfr2, hb8⟩
                clear CF r0 r1 r2 r3 r4
                have hP8 := hP7.below hb8
                have hR8 := hR7.below hb8
                have hS8 := hS7.below hb8
                have hl0 := hP7.lt
                have hl2 := hR7.lt
                generalize (foldL base (mvs L)).1 = now1 at *
                generalize (foldL base (mvs L)).2 = us1 at *
                obtain ⟨r0, r1, r2, r3, r4⟩ := pwIn5 hP8
                have pf8 := hP8.frozen
                have hP10 := (hP8.put ⟨bA, bc, base, t, A', c', L, uA, uc, us, A5, c5, now1⟩ 4 (.slice A5 now1.length c5) rfl).put ⟨bA, bc, base, t, A', c', L, U5, uc5, us1, A5, c5, now1⟩ 3 (.slice U5 us1.length uc5) rfl
                have hR10 := (hR8.other n0 4 (.slice A5 now1.length c5) hn20).other n0 3 (.slice U5 us1.length uc5) hn20
                have hg10 := by_cell2 (by_cell W8 n0 4 (.slice A5 now1.length c5)) 3 (.slice U5 us1.length uc5)
                go_wp2_with (first | (refine El.load pwRow rfl _ rfl n0 0 rfl ⟨bA, bc, base, t, A', c', L, U5, uc5, us1, A5, c5, now1⟩ hP10.at #[.slice bA base.length bc, .int .i64 t, .slice A' L.length c', .slice U5 us1.length uc5, .slice A5 now1.length c5] rfl ?_) | (refine El.store pwRow rfl _ _ rfl n2 ⟨bA, bc, base, t, A', c', L, U5, uc5, us1, A5, c5, now1⟩ #[.slice bA base.length bc, .int .i64 t, .slice A' L.length c', .slice U5 us1.length uc5, .slice A5 now1.length c5] rfl rfl rfl Pw.zero hR10 ?_))
                refine El.ret2 pwRow (v := .bool true) (hR10.set ⟨bA, bc, base, t, A', c', L, U5, uc5, us1, A5, c5, now1⟩ #[.slice bA base.length bc, .int .i64 t, .slice A' L.length c', .slice U5 us1.length uc5, .slice A5 now1.length c5] rfl) rfl rfl rfl rfl #[.slice bA base.length bc, .int .i64 t, .slice A' L.length c', .slice U5 us1.length uc5, .slice A5 now1.length c5] rfl ?_
                have hw0 : w.heap.size ≤ n0 ∧ w.heap.size ≤ n2 := by have := HNN.out; have := HNW.out; omega
                have hB8 := below_then hB7 hb8
                have hB10 := hB8.grown hg10 hB8.size (fun j e => by have := Option.some.inj e; omega)
                have hBz := below_setRow hB10 hw0.2 #[.slice bA base.length bc, .int .i64 t, .slice A' L.length c', .slice U5 us1.length uc5, .slice A5 now1.length c5]
                have hgz := fun W => by_row W n2 #[.slice bA base.length bc, .int .i64 t, .slice A' L.length c', .slice U5 us1.length uc5, .slice A5 now1.length c5]
                exact ⟨⟨bA, bc, base, t, A', c', L, U5, uc5, us1, A5, c5, now1⟩, by rw [HNV.out], ⟨(HL.out.below hBz).b, (hS8.keep hfr hg10 hlt4.1).keep hfr (hgz _) hlt4.2.2.1, (hF2.keep hfr2 hg10 hl0).keep hfr2 (hgz _) hl2, (hF1.keep hfr1 hg10 hl0).keep hfr1 (hgz _) hl2⟩, by rw [HNV.out]; rfl, hBz, ⟨rfl, rfl⟩, Or.inr (hfr.mono (by have := HNW.out; have := hlt4.1; omega)), Or.inr (hfr2.mono (by have := HNW.out; have := hB7.size; omega)), Or.inr (hfr1.mono (by have := HNW.out; have := hB7.size; omega))⟩
            · refine wp_region_quiet_below (by kernel_rfl) (by kernel_rfl) ?_
              repeat (go_big_quiet_step (fail))
              refine wpQuiet_nil ?_
              intro _ hw'
              obtain ⟨⟨dq3, osq3⟩, hw3⟩ := hw'
              subst hw3
              have hq3 := below_regrown w2 dq3 osq3
              generalize Sort.grow (redrawn w2 dq3) osq3 = w3 at *
              have hB3 := below_then hB2 hq3
              have hP3 := hP2.below hq3
              have hO3 := hO2.below hq3
              have hR3 := hR.below hB3
              clear k0 k1 k2 k3 k4
              go_wp2_with fail
              have hA3e : ∃ A3 : Option Addr, (if oc = k then (some ⟨b, off, none⟩ : Option Addr) else Option.map (fun x => x.add (k * 7)) (some ⟨b, off, none⟩ : Option Addr)) = A3 := ⟨_, rfl⟩
              obtain ⟨A3, hA3⟩ := hA3e
              have hO3s := (hxo.1.below hB3)
              have ht1 := hO3s.take k
              have ht3 := hO3s.drop (tz := k) hxo.2.2 hA3
              have hz1 := hxo.2.1
              have hz3 : A3 = none → oc - k = 0 := El.drop_none hxo.2.1 hA3
              have e1 : (ops.take k).length = k := by rw [List.length_take]; omega
              have e3 : (ops.drop k).length = ops.length - k := List.length_drop
              have hkc : k ≤ oc := Nat.le_trans hk hxo.2.2
              have i0 : (0 : Int) ≤ (k : Int) := by omega
              have i1 : (k : Int) ≤ (oc : Int) := by omega
              have i2 : (k : Int) ≤ (ops.length : Int) := by omega
              have hnv := addV_new (q := ⟨base, t, ops, us, now⟩) (m := m) (show ¬ m.C ≤ t by omega) HHF.out
              rw [insL_eq HPOS.out] at hnv
              have HNV := Lib.hid hnv
              have HE1 := Lib.hid e1
              have HE3 := Lib.hid e3
              generalize hL1 : ops.take k = L1 at *
              generalize hL3 : ops.drop k = L3 at *
              obtain ⟨B, hBe⟩ : ∃ B, w3.heap.size = B := ⟨_, rfl⟩
              have hKV : InsK W n0 n1 n2 B (⟨bA, bc, base, t, some ⟨b, off, none⟩, oc, ops, uA, uc, us, wA, wc, now⟩ : Pw) m (some ⟨b, off, none⟩) A3 L1 L3 w3.drew := ⟨hP3, hO3, hR3, El.SlB.of ht1 (Nat.le_of_eq hBe), El.SlB.of ht3 (Nat.le_of_eq hBe), hB3.drew, Nat.le_of_eq hBe.symm, by have := hP3.lt; have := hO3.lt; have := hR3.lt; have := hB3.size; omega⟩
              have hBd : w3.drew.heap.size = B := hBe
              have HL890 : L1.length + L3.length + 1 ≤ 891 := by have := HE1.out; have := HE3.out; omega
              clear e1 e3 hnv hL1 hL3 ht1 ht3 hO3s hP3 hO3 hR3 hBe
              refine region_anyG (S := InsS n0 n1 (some ⟨b, off, none⟩) ops.length oc m) 15 (by kernel_rfl) ?_
              generalize w3.drew = V at *
              have hA3s := hA3
              simp only [Option.map_some, Addr.add_lit] at hA3s
              have hS := hKV.s
              simp only at hS
              refine anyG_take (i := 1) (v := .pointer (some ⟨n0, 2, none⟩)) rfl (by kernel_rfl) (by kernel_rfl) (by kernel_rfl) (by kernel_rfl) (by kernel_rfl) (fun _ _ _ h => h) (Or.inl ⟨by rfl, fun w' hSw => by (obtain ⟨s0, s1, s2, s3, s4, s5, s6, s7⟩ := hSw; go_simp)⟩) hS ?_
              try simp only [Act.put, List.setIfInBounds_toArray, List.set_cons_zero, List.set_cons_succ]
              refine anyG_take (i := 2) (v := .slice (some ⟨b, off, none⟩) ops.length oc) rfl (by kernel_rfl) (by kernel_rfl) (by kernel_rfl) (by kernel_rfl) (by kernel_rfl) (fun _ _ _ h => h) (Or.inl ⟨by rfl, fun w' hSw => by (obtain ⟨s0, s1, s2, s3, s4, s5, s6, s7⟩ := hSw; go_simp)⟩) hS ?_
              try simp only [Act.put, List.setIfInBounds_toArray, List.set_cons_zero, List.set_cons_succ]
              refine anyG_take (i := 3) (v := .int .i64 k) rfl (by kernel_rfl) (by kernel_rfl) (by kernel_rfl) (by kernel_rfl) (by kernel_rfl) (fun _ _ _ h => h) (Or.inl ⟨by rfl, fun w' hSw => by (obtain ⟨s0, s1, s2, s3, s4, s5, s6, s7⟩ := hSw; go_simp)⟩) hS ?_
              try simp only [Act.put, List.setIfInBounds_toArray, List.set_cons_zero, List.set_cons_succ]
              refine anyG_take (i := 4) (v := .slice (some ⟨b, off, none⟩) k oc) rfl (by kernel_rfl) (by kernel_rfl) (by kernel_rfl) (by kernel_rfl) (by kernel_rfl) (fun _ _ _ h => h) (Or.inl ⟨by rfl, fun w' hSw => by (obtain ⟨s0, s1, s2, s3, s4, s5, s6, s7⟩ := hSw; go_simp)⟩) hS ?_
              try simp only [Act.put, List.setIfInBounds_toArray, List.set_cons_zero, List.set_cons_succ]
              refine anyG_take (i := 6) (v := .agg #[.int .i64 m.C, .int .i64 m.D, .int .i64 m.I, .int .i64 m.M, .int .i64 m.K, .int .i64 m.U, .string m.s]) rfl (by kernel_rfl) (by kernel_rfl) (by kernel_rfl) (by kernel_rfl) (by kernel_rfl) (fun _ _ _ h => h) (Or.inl ⟨by rfl, fun w' hSw => by (obtain ⟨s0, s1, s2, s3, s4, s5, s6, s7⟩ := hSw; go_simp)⟩) hS ?_
              try simp only [Act.put, List.setIfInBounds_toArray, List.set_cons_zero, List.set_cons_succ]
              refine anyG_take (i := 9) (v := .pointer (some ⟨n0, 2, none⟩)) rfl (by kernel_rfl) (by kernel_rfl) (by kernel_rfl) (by kernel_rfl) (by kernel_rfl) (fun _ _ _ h => h) (Or.inl ⟨by rfl, fun w' hSw => by (obtain ⟨s0, s1, s2, s3, s4, s5, s6, s7⟩ := hSw; go_simp)⟩) hS ?_
              try simp only [Act.put, List.setIfInBounds_toArray, List.set_cons_zero, List.set_cons_succ]
              refine anyG_take (i := 10) (v := .slice (some ⟨b, off, none⟩) ops.length oc) rfl (by kernel_rfl) (by kernel_rfl) (by kernel_rfl) (by kernel_rfl) (by kernel_rfl) (fun _ _ _ h => h) (Or.inl ⟨by rfl, fun w' hSw => by (obtain ⟨s0, s1, s2, s3, s4, s5, s6, s7⟩ := hSw; go_simp)⟩) hS ?_
              try simp only [Act.put, List.setIfInBounds_toArray, List.set_cons_zero, List.set_cons_succ]
              refine anyG_take (i := 11) (v := .int .i64 k) rfl (by kernel_rfl) (by kernel_rfl) (by kernel_rfl) (by kernel_rfl) (by kernel_rfl) (fun _ _ _ h => h) (Or.inl ⟨by rfl, fun w' hSw => by (obtain ⟨s0, s1, s2, s3, s4, s5, s6, s7⟩ := hSw; go_simp)⟩) hS ?_
              try simp only [Act.put, List.setIfInBounds_toArray, List.set_cons_zero, List.set_cons_succ]
              refine anyG_take (i := 12) (v := .slice A3 (ops.length - k) (oc - k)) rfl (by kernel_rfl) (by kernel_rfl) (by kernel_rfl) (by kernel_rfl) (by kernel_rfl) (fun _ _ _ h => h) (Or.inl ⟨by rfl, fun w' hSw => by (obtain ⟨s0, s1, s2, s3, s4, s5, s6, s7⟩ := hSw; go_simp)⟩) hS ?_
              try simp only [Act.put, List.setIfInBounds_toArray, List.set_cons_zero, List.set_cons_succ]
              refine anyG_step (rs := [0, 7]) (by kernel_rfl) (by simp) ?_
              refine AllG.cons rfl (fun K hK => ?_) (AllG.cons rfl (fun K hK => ?_) AllG.nil)
              · have hK1 := hKV.alloc (.cells #[] 55)
                go_simp
                refine hK.out _ _ hK1.s ?_
                try simp only [Act.put, List.setIfInBounds_toArray, List.set_cons_zero, List.set_cons_succ]
                have own1 : opE.Own (V.alloc (.cells #[] 55)) B (.slice (some ⟨B, 0, none⟩) 0 0) [] := by
                  have h := El.Own.empty (E := opE) V B (by omega)
                  rw [hBd] at h; exact h
                have hsz1 : (V.alloc (.cells #[] 55)).heap.size = B + 1 := by rw [alloc_size, hBd]
                refine anyG_step (rs := [5, 7]) (by kernel_rfl) (by simp) ?_
                refine AllG.cons rfl (fun K hK => ?_) (AllG.cons rfl (fun K hK => ?_) AllG.nil)
                · refine El.step_app opInn rfl (.tmp 49) (.tmp 53) rfl B _ [] L1 rfl own1 (some ⟨b, off, none⟩) k oc rfl HE1.out (hK1.o1.sl hK1.sz) hz1 (by simp; omega) hK1.sz ?_
                  intro v1 W1 own2 hg1 hat1
                  have own2 : opE.Own W1 B v1 L1 := own2
                  have hK2 := hK1.grown hg1 (own1).rows
                  clear hat1
                  refine hK.out _ _ hK2.s ?_
                  try simp only [Act.put, List.setIfInBounds_toArray, List.set_cons_zero, List.set_cons_succ]
                  refine anyG_step (rs := [7]) (by kernel_rfl) (by simp) ?_
                  refine AllG.cons rfl (fun K hK => ?_) AllG.nil
                  have hK3 := hK2.alloc (.cells #[.int .i64 m.C, .int .i64 m.D, .int .i64 m.I, .int .i64 m.M, .int .i64 m.K, .int .i64 m.U, .string m.s] 55)
                  go_simp
                  refine hK.out _ _ hK3.s ?_
                  try simp only [Act.put, List.setIfInBounds_toArray, List.set_cons_zero, List.set_cons_succ]
                  have own3 := own2.below (below_alloc (Below.refl _ W1) (.cells #[.int .i64 m.C, .int .i64 m.D, .int .i64 m.I, .int .i64 m.M, .int .i64 m.K, .int .i64 m.U, .string m.s] 55))
                  have one3 : opE.Sl (W1.alloc (.cells #[.int .i64 m.C, .int .i64 m.D, .int .i64 m.I, .int .i64 m.M, .int .i64 m.K, .int .i64 m.U, .string m.s] 55)) (some ⟨W1.heap.size, 0, none⟩) [m] := (El.In.new (E := opE) W1 m #[.int .i64 m.C, .int .i64 m.D, .int .i64 m.I, .int .i64 m.M, .int .i64 m.K, .int .i64 m.U, .string m.s] rfl).sl
                  refine anyG_step (rs := [8]) (by kernel_rfl) (by simp) ?_
                  refine AllG.cons rfl (fun K hK => ?_) AllG.nil
                  refine El.step_app opInn rfl (.tmp 54) (.tmp 56) rfl B _ L1 [m] rfl own3 (some ⟨W1.heap.size, 0, none⟩) 1 1 rfl rfl one3 (fun e => by cases e) (by simp; omega) hK3.sz ?_
                  intro v2 W2 own4 hg2 hat2
                  have hK4 := hK3.grown hg2 (own3).rows
                  clear hat2
                  refine hK.out _ _ hK4.s ?_
                  try simp only [Act.put, List.setIfInBounds_toArray, List.set_cons_zero, List.set_cons_succ]
                  refine anyG_step (rs := [13]) (by kernel_rfl) (by simp) ?_
                  refine AllG.cons rfl (fun K hK => ?_) AllG.nil
                  refine El.step_app opInn rfl (.tmp 57) (.tmp 61) rfl B _ (L1 ++ [m]) L3 rfl own4 A3 (ops.length - k) (oc - k) rfl HE3.out (hK4.o3.sl hK4.sz) hz3 (by rw [List.length_append, List.length_singleton]; omega) hK4.sz ?_
                  intro v3 W3 ownF hg3 hat3
                  have hKF := hK4.grown hg3 (own4).rows
                  clear hat3
                  refine hK.out _ _ hKF.s ?_
                  try simp only [Act.put, List.setIfInBounds_toArray, List.set_cons_zero, List.set_cons_succ]
                  obtain ⟨A', c', rfl, hSn⟩ := SlV.own ownF
                  have hfr := ownF.frs
                  have hLL : ((L1 ++ [m]) ++ L3).length ≤ ops.length + 1 := by rw [List.length_append, List.length_append, List.length_singleton, HE1.out, HE3.out]; omega
                  generalize (L1 ++ [m]) ++ L3 = L at *
                  have hS := hKF.s
                  simp only at hS
                  refine anyG_take (i := 14) (v := .pointer (some ⟨n0, 2, none⟩)) rfl (by kernel_rfl) (by kernel_rfl) (by kernel_rfl) (by kernel_rfl) (by kernel_rfl) (fun _ _ _ h => h) (Or.inl ⟨by rfl, fun w' hSw => by (obtain ⟨s0, s1, s2, s3, s4, s5, s6, s7⟩ := hSw; go_simp)⟩) hS ?_
                  try simp only [Act.put, List.setIfInBounds_toArray, List.set_cons_zero, List.set_cons_succ]
                  refine anyG_step (rs := [15]) (by kernel_rfl) (by simp) ?_
                  refine AllG.last (n := 15) rfl (fun K hK => ?_)
                  obtain ⟨p0, p1, p2, p3, p4⟩ := pwIn5 hKF.P
                  have pf := hKF.P.frozen
                  go_simp
                  refine hK.out _ _ ?_
                  try simp only [Act.put, List.setIfInBounds_toArray, List.set_cons_zero, List.set_cons_succ]
                  refine anyG_done (by kernel_rfl) ?_ _
                  have hlt4 := hKF.lt
                  have hn20 : n2 ≠ n0 := by have := HNN.out; omega
                  have hP7 := hKF.P.put ⟨bA, bc, base, t, A', c', L, uA, uc, us, wA, wc, now⟩ 2 (.slice A' L.length c') rfl
                  have hR7 := hKF.R.other n0 2 (.slice A' L.length c') hn20
                  have hg7 := by_cell W3 n0 2 (.slice A' L.length c')
                  have hS7 := hSn.keep hfr hg7 hlt4.1
                  have hB6 : Below w.heap.size w W3 := by rw [HNW.out]; exact hB.trans (hKF.bel.mono hn0W)
                  have hB7 := hB6.grown hg7 hB6.size (fun j e => by have := Option.some.inj e; have := HNW.out; omega)
                  have hb7 := (HL.out.below hB7).b
                  simp only at hb7
                  have CF := mvRefFold_any bA bc base A' c' L _ (by have := HL9.out; omega) hb7 hS7.1
                  generalize W3.setCell ⟨n0, 2, none⟩ (.slice A' L.length c') = W7 at *
                  clear p0 p1 p2 p3 p4 pf hK hKF hS hSn ownF
                  obtain ⟨r0, r1, r2, r3, r4⟩ := pwIn5 hP7
                  go_wp2_with fail
                  refine CF.mono ?_
                  rintro e W8 ⟨A5, c5, U5, uc5, rfl, hF1, hF2, hfr1, hfr2, hb8⟩
                  clear CF r0 r1 r2 r3 r4
                  have hP8 := hP7.below hb8
                  have hR8 := hR7.below hb8
                  have hS8 := hS7.below hb8
                  have hl0 := hP7.lt
                  have hl2 := hR7.lt
                  generalize (foldL base (mvs L)).1 = now1 at *
                  generalize (foldL base (mvs L)).2 = us1 at *
                  obtain ⟨r0, r1, r2, r3, r4⟩ := pwIn5 hP8
                  have pf8 := hP8.frozen
                  have hP10 := (hP8.put ⟨bA, bc, base, t, A', c', L, uA, uc, us, A5, c5, now1⟩ 4 (.slice A5 now1.length c5) rfl).put ⟨bA, bc, base, t, A', c', L, U5, uc5, us1, A5, c5, now1⟩ 3 (.slice U5 us1.length uc5) rfl
                  have hR10 := (hR8.other n0 4 (.slice A5 now1.length c5) hn20).other n0 3 (.slice U5 us1.length uc5) hn20
                  have hg10 := by_cell2 (by_cell W8 n0 4 (.slice A5 now1.length c5)) 3 (.slice U5 us1.length uc5)
                  go_wp2_with (first | (refine El.load pwRow rfl _ rfl n0 0 rfl ⟨bA, bc, base, t, A', c', L, U5, uc5, us1, A5, c5, now1⟩ hP10.at #[.slice bA base.length bc, .int .i64 t, .slice A' L.length c', .slice U5 us1.length uc5, .slice A5 now1.length c5] rfl ?_) | (refine El.store pwRow rfl _ _ rfl n2 ⟨bA, bc, base, t, A', c', L, U5, uc5, us1, A5, c5, now1⟩ #[.slice bA base.length bc, .int .i64 t, .slice A' L.length c', .slice U5 us1.length uc5, .slice A5 now1.length c5] rfl rfl rfl Pw.zero hR10 ?_))
                  refine El.ret2 pwRow (v := .bool true) (hR10.set ⟨bA, bc, base, t, A', c', L, U5, uc5, us1, A5, c5, now1⟩ #[.slice bA base.length bc, .int .i64 t, .slice A' L.length c', .slice U5 us1.length uc5, .slice A5 now1.length c5] rfl) rfl rfl rfl rfl #[.slice bA base.length bc, .int .i64 t, .slice A' L.length c', .slice U5 us1.length uc5, .slice A5 now1.length c5] rfl ?_
                  have hw0 : w.heap.size ≤ n0 ∧ w.heap.size ≤ n2 := by have := HNN.out; have := HNW.out; omega
                  have hB8 := below_then hB7 hb8
                  have hB10 := hB8.grown hg10 hB8.size (fun j e => by have := Option.some.inj e; omega)
                  have hBz := below_setRow hB10 hw0.2 #[.slice bA base.length bc, .int .i64 t, .slice A' L.length c', .slice U5 us1.length uc5, .slice A5 now1.length c5]
                  have hgz := fun W => by_row W n2 #[.slice bA base.length bc, .int .i64 t, .slice A' L.length c', .slice U5 us1.length uc5, .slice A5 now1.length c5]
                  exact ⟨⟨bA, bc, base, t, A', c', L, U5, uc5, us1, A5, c5, now1⟩, by rw [HNV.out], ⟨(HL.out.below hBz).b, (hS8.keep hfr hg10 hlt4.1).keep hfr (hgz _) hlt4.2.2.1, (hF2.keep hfr2 hg10 hl0).keep hfr2 (hgz _) hl2, (hF1.keep hfr1 hg10 hl0).keep hfr1 (hgz _) hl2⟩, by rw [HNV.out]; rfl, hBz, ⟨rfl, rfl⟩, Or.inr (hfr.mono (by have := HNW.out; have := hlt4.1; omega)), Or.inr (hfr2.mono (by have := HNW.out; have := hB7.size; omega)), Or.inr (hfr1.mono (by have := HNW.out; have := hB7.size; omega))⟩
                · have hK2 := hK1.alloc (.cells #[.int .i64 m.C, .int .i64 m.D, .int .i64 m.I, .int .i64 m.M, .int .i64 m.K, .int .i64 m.U, .string m.s] 55)
                  go_simp
                  refine hK.out _ _ hK2.s ?_
                  try simp only [Act.put, List.setIfInBounds_toArray, List.set_cons_zero, List.set_cons_succ]
                  have own2 := own1.below (below_alloc (Below.refl _ (V.alloc (.cells #[] 55))) (.cells #[.int .i64 m.C, .int .i64 m.D, .int .i64 m.I, .int .i64 m.M, .int .i64 m.K, .int .i64 m.U, .string m.s] 55))
                  have one2 : opE.Sl ((V.alloc (.cells #[] 55)).alloc (.cells #[.int .i64 m.C, .int .i64 m.D, .int .i64 m.I, .int .i64 m.M, .int .i64 m.K, .int .i64 m.U, .string m.s] 55)) (some ⟨B + 1, 0, none⟩) [m] := by
                    have h := (El.In.new (E := opE) (V.alloc (.cells #[] 55)) m #[.int .i64 m.C, .int .i64 m.D, .int .i64 m.I, .int .i64 m.M, .int .i64 m.K, .int .i64 m.U, .string m.s] rfl).sl
                    rw [hsz1] at h; exact h
                  refine anyG_step (rs := [5]) (by kernel_rfl) (by simp) ?_
                  refine AllG.cons rfl (fun K hK => ?_) AllG.nil
                  refine El.step_app opInn rfl (.tmp 49) (.tmp 53) rfl B _ [] L1 rfl own2 (some ⟨b, off, none⟩) k oc rfl HE1.out (hK2.o1.sl hK2.sz) hz1 (by simp; omega) hK2.sz ?_
                  intro v1 W1 own3 hg1 hat1
                  have own3 : opE.Own W1 B v1 L1 := own3
                  have hK3 := hK2.grown hg1 (own2).rows
                  have one3 := one2.keep1 hg1 (fun e => by have e : some (B + 1) = some B := e; have := Option.some.inj e; omega)
                  clear hat1
                  refine hK.out _ _ hK3.s ?_
                  try simp only [Act.put, List.setIfInBounds_toArray, List.set_cons_zero, List.set_cons_succ]
                  refine anyG_step (rs := [8]) (by kernel_rfl) (by simp) ?_
                  refine AllG.cons rfl (fun K hK => ?_) AllG.nil
                  refine El.step_app opInn rfl (.tmp 54) (.tmp 56) rfl B _ L1 [m] rfl own3 (some ⟨B + 1, 0, none⟩) 1 1 rfl rfl one3 (fun e => by cases e) (by simp; omega) hK3.sz ?_
                  intro v2 W2 own4 hg2 hat2
                  have hK4 := hK3.grown hg2 (own3).rows
                  clear hat2
                  refine hK.out _ _ hK4.s ?_
                  try simp only [Act.put, List.setIfInBounds_toArray, List.set_cons_zero, List.set_cons_succ]
                  refine anyG_step (rs := [13]) (by kernel_rfl) (by simp) ?_
                  refine AllG.cons rfl (fun K hK => ?_) AllG.nil
                  refine El.step_app opInn rfl (.tmp 57) (.tmp 61) rfl B _ (L1 ++ [m]) L3 rfl own4 A3 (ops.length - k) (oc - k) rfl HE3.out (hK4.o3.sl hK4.sz) hz3 (by rw [List.length_append, List.length_singleton]; omega) hK4.sz ?_
                  intro v3 W3 ownF hg3 hat3
                  have hKF := hK4.grown hg3 (own4).rows
                  clear hat3
                  refine hK.out _ _ hKF.s ?_
                  try simp only [Act.put, List.setIfInBounds_toArray, List.set_cons_zero, List.set_cons_succ]
                  obtain ⟨A', c', rfl, hSn⟩ := SlV.own ownF
                  have hfr := ownF.frs
                  have hLL : ((L1 ++ [m]) ++ L3).length ≤ ops.length + 1 := by rw [List.length_append, List.length_append, List.length_singleton, HE1.out, HE3.out]; omega
                  generalize (L1 ++ [m]) ++ L3 = L at *
                  have hS := hKF.s
                  simp only at hS
                  refine anyG_take (i := 14) (v := .pointer (some ⟨n0, 2, none⟩)) rfl (by kernel_rfl) (by kernel_rfl) (by kernel_rfl) (by kernel_rfl) (by kernel_rfl) (fun _ _ _ h => h) (Or.inl ⟨by rfl, fun w' hSw => by (obtain ⟨s0, s1, s2, s3, s4, s5, s6, s7⟩ := hSw; go_simp)⟩) hS ?_
                  try simp only [Act.put, List.setIfInBounds_toArray, List.set_cons_zero, List.set_cons_succ]
                  refine anyG_step (rs := [15]) (by kernel_rfl) (by simp) ?_
                  refine AllG.last (n := 15) rfl (fun K hK => ?_)
                  obtain ⟨p0, p1, p2, p3, p4⟩ := pwIn5 hKF.P
                  have pf := hKF.P.frozen
                  go_simp
                  refine hK.out _ _ ?_
                  try simp only [Act.put, List.setIfInBounds_toArray, List.set_cons_zero, List.set_cons_succ]
                  refine anyG_done (by kernel_rfl) ?_ _
                  have hlt4 := hKF.lt
                  have hn20 : n2 ≠ n0 := by have := HNN.out; omega
                  have hP7 := hKF.P.put ⟨bA, bc, base, t, A', c', L, uA, uc, us, wA, wc, now⟩ 2 (.slice A' L.length c') rfl
                  have hR7 := hKF.R.other n0 2 (.slice A' L.length c') hn20
                  have hg7 := by_cell W3 n0 2 (.slice A' L.length c')
                  have hS7 := hSn.keep hfr hg7 hlt4.1
                  have hB6 : Below w.heap.size w W3 := by rw [HNW.out]; exact hB.trans (hKF.bel.mono hn0W)
                  have hB7 := hB6.grown hg7 hB6.size (fun j e => by have := Option.some.inj e; have := HNW.out; omega)
                  have hb7 := (HL.out.below hB7).b
                  simp only at hb7
                  have CF := mvRefFold_any bA bc base A' c' L _ (by have := HL9.out; omega) hb7 hS7.1
                  generalize W3.setCell ⟨n0, 2, none⟩ (.slice A' L.length c') = W7 at *
                  clear p0 p1 p2 p3 p4 pf hK hKF hS hSn ownF
                  obtain ⟨r0, r1, r2, r3, r4⟩ := pwIn5 hP7
                  go_wp2_with fail
                  refine CF.mono ?_
                  rintro e W8 ⟨A5, c5, U5, uc5, rfl, hF1, hF2, hfr1, hfr2, hb8⟩
                  clear CF r0 r1 r2 r3 r4
                  have hP8 := hP7.below hb8
                  have hR8 := hR7.below hb8
                  have hS8 := hS7.below hb8
                  have hl0 := hP7.lt
                  have hl2 := hR7.lt
                  generalize (foldL base (mvs L)).1 = now1 at *
                  generalize (foldL base (mvs L)).2 = us1 at *
                  obtain ⟨r0, r1, r2, r3, r4⟩ := pwIn5 hP8
                  have pf8 := hP8.frozen
                  have hP10 := (hP8.put ⟨bA, bc, base, t, A', c', L, uA, uc, us, A5, c5, now1⟩ 4 (.slice A5 now1.length c5) rfl).put ⟨bA, bc, base, t, A', c', L, U5, uc5, us1, A5, c5, now1⟩ 3 (.slice U5 us1.length uc5) rfl
                  have hR10 := (hR8.other n0 4 (.slice A5 now1.length c5) hn20).other n0 3 (.slice U5 us1.length uc5) hn20
                  have hg10 := by_cell2 (by_cell W8 n0 4 (.slice A5 now1.length c5)) 3 (.slice U5 us1.length uc5)
                  go_wp2_with (first | (refine El.load pwRow rfl _ rfl n0 0 rfl ⟨bA, bc, base, t, A', c', L, U5, uc5, us1, A5, c5, now1⟩ hP10.at #[.slice bA base.length bc, .int .i64 t, .slice A' L.length c', .slice U5 us1.length uc5, .slice A5 now1.length c5] rfl ?_) | (refine El.store pwRow rfl _ _ rfl n2 ⟨bA, bc, base, t, A', c', L, U5, uc5, us1, A5, c5, now1⟩ #[.slice bA base.length bc, .int .i64 t, .slice A' L.length c', .slice U5 us1.length uc5, .slice A5 now1.length c5] rfl rfl rfl Pw.zero hR10 ?_))
                  refine El.ret2 pwRow (v := .bool true) (hR10.set ⟨bA, bc, base, t, A', c', L, U5, uc5, us1, A5, c5, now1⟩ #[.slice bA base.length bc, .int .i64 t, .slice A' L.length c', .slice U5 us1.length uc5, .slice A5 now1.length c5] rfl) rfl rfl rfl rfl #[.slice bA base.length bc, .int .i64 t, .slice A' L.length c', .slice U5 us1.length uc5, .slice A5 now1.length c5] rfl ?_
                  have hw0 : w.heap.size ≤ n0 ∧ w.heap.size ≤ n2 := by have := HNN.out; have := HNW.out; omega
                  have hB8 := below_then hB7 hb8
                  have hB10 := hB8.grown hg10 hB8.size (fun j e => by have := Option.some.inj e; omega)
                  have hBz := below_setRow hB10 hw0.2 #[.slice bA base.length bc, .int .i64 t, .slice A' L.length c', .slice U5 us1.length uc5, .slice A5 now1.length c5]
                  have hgz := fun W => by_row W n2 #[.slice bA base.length bc, .int .i64 t, .slice A' L.length c', .slice U5 us1.length uc5, .slice A5 now1.length c5]
                  exact ⟨⟨bA, bc, base, t, A', c', L, U5, uc5, us1, A5, c5, now1⟩, by rw [HNV.out], ⟨(HL.out.below hBz).b, (hS8.keep hfr hg10 hlt4.1).keep hfr (hgz _) hlt4.2.2.1, (hF2.keep hfr2 hg10 hl0).keep hfr2 (hgz _) hl2, (hF1.keep hfr1 hg10 hl0).keep hfr1 (hgz _) hl2⟩, by rw [HNV.out]; rfl, hBz, ⟨rfl, rfl⟩, Or.inr (hfr.mono (by have := HNW.out; have := hlt4.1; omega)), Or.inr (hfr2.mono (by have := HNW.out; have := hB7.size; omega)), Or.inr (hfr1.mono (by have := HNW.out; have := hB7.size; omega))⟩
              · have hK1 := hKV.alloc (.cells #[.int .i64 m.C, .int .i64 m.D, .int .i64 m.I, .int .i64 m.M, .int .i64 m.K, .int .i64 m.U, .string m.s] 55)
                go_simp
                refine hK.out _ _ hK1.s ?_
                try simp only [Act.put, List.setIfInBounds_toArray, List.set_cons_zero, List.set_cons_succ]
                have one1 : opE.Sl (V.alloc (.cells #[.int .i64 m.C, .int .i64 m.D, .int .i64 m.I, .int .i64 m.M, .int .i64 m.K, .int .i64 m.U, .string m.s] 55)) (some ⟨B, 0, none⟩) [m] := by
                  have h := (El.In.new (E := opE) V m #[.int .i64 m.C, .int .i64 m.D, .int .i64 m.I, .int .i64 m.M, .int .i64 m.K, .int .i64 m.U, .string m.s] rfl).sl
                  rw [hBd] at h; exact h
                have hsz1 : (V.alloc (.cells #[.int .i64 m.C, .int .i64 m.D, .int .i64 m.I, .int .i64 m.M, .int .i64 m.K, .int .i64 m.U, .string m.s] 55)).heap.size = B + 1 := by rw [alloc_size, hBd]
                refine anyG_step (rs := [0]) (by kernel_rfl) (by simp) ?_
                refine AllG.cons rfl (fun K hK => ?_) AllG.nil
                have hK2 := hK1.alloc (.cells #[] 55)
                go_simp
                refine hK.out _ _ hK2.s ?_
                try simp only [Act.put, List.setIfInBounds_toArray, List.set_cons_zero, List.set_cons_succ]
                have own2 : opE.Own ((V.alloc (.cells #[.int .i64 m.C, .int .i64 m.D, .int .i64 m.I, .int .i64 m.M, .int .i64 m.K, .int .i64 m.U, .string m.s] 55)).alloc (.cells #[] 55)) B (.slice (some ⟨B + 1, 0, none⟩) 0 0) [] := by
                  have h := El.Own.empty (E := opE) (V.alloc (.cells #[.int .i64 m.C, .int .i64 m.D, .int .i64 m.I, .int .i64 m.M, .int .i64 m.K, .int .i64 m.U, .string m.s] 55)) B (by omega)
                  rw [hsz1] at h; exact h
                have one2 := one1.below (below_alloc (Below.refl _ (V.alloc (.cells #[.int .i64 m.C, .int .i64 m.D, .int .i64 m.I, .int .i64 m.M, .int .i64 m.K, .int .i64 m.U, .string m.s] 55))) (.cells #[] 55))
                refine anyG_step (rs := [5]) (by kernel_rfl) (by simp) ?_
                refine AllG.cons rfl (fun K hK => ?_) AllG.nil
                refine El.step_app opInn rfl (.tmp 49) (.tmp 53) rfl B _ [] L1 rfl own2 (some ⟨b, off, none⟩) k oc rfl HE1.out (hK2.o1.sl hK2.sz) hz1 (by simp; omega) hK2.sz ?_
                intro v1 W1 own3 hg1 hat1
                have own3 : opE.Own W1 B v1 L1 := own3
                have hK3 := hK2.grown hg1 (own2).rows
                have one3 := one2.keep1 hg1 (fun e => by have e : some B = some (B + 1) := e; have := Option.some.inj e; omega)
                clear hat1
                refine hK.out _ _ hK3.s ?_
                try simp only [Act.put, List.setIfInBounds_toArray, List.set_cons_zero, List.set_cons_succ]
                refine anyG_step (rs := [8]) (by kernel_rfl) (by simp) ?_
                refine AllG.cons rfl (fun K hK => ?_) AllG.nil
                refine El.step_app opInn rfl (.tmp 54) (.tmp 56) rfl B _ L1 [m] rfl own3 (some ⟨B, 0, none⟩) 1 1 rfl rfl one3 (fun e => by cases e) (by simp; omega) hK3.sz ?_
                intro v2 W2 own4 hg2 hat2
                have hK4 := hK3.grown hg2 (own3).rows
                clear hat2
                refine hK.out _ _ hK4.s ?_
                try simp only [Act.put, List.setIfInBounds_toArray, List.set_cons_zero, List.set_cons_succ]
                refine anyG_step (rs := [13]) (by kernel_rfl) (by simp) ?_
                refine AllG.cons rfl (fun K hK => ?_) AllG.nil
                refine El.step_app opInn rfl (.tmp 57) (.tmp 61) rfl B _ (L1 ++ [m]) L3 rfl own4 A3 (ops.length - k) (oc - k) rfl HE3.out (hK4.o3.sl hK4.sz) hz3 (by rw [List.length_append, List.length_singleton]; omega) hK4.sz ?_
                intro v3 W3 ownF hg3 hat3
                have hKF := hK4.grown hg3 (own4).rows
                clear hat3
                refine hK.out _ _ hKF.s ?_
                try simp only [Act.put, List.setIfInBounds_toArray, List.set_cons_zero, List.set_cons_succ]
                obtain ⟨A', c', rfl, hSn⟩ := SlV.own ownF
                have hfr := ownF.frs
                have hLL : ((L1 ++ [m]) ++ L3).length ≤ ops.length + 1 := by rw [List.length_append, List.length_append, List.length_singleton, HE1.out, HE3.out]; omega
                generalize (L1 ++ [m]) ++ L3 = L at *
                have hS := hKF.s
                simp only at hS
                refine anyG_take (i := 14) (v := .pointer (some ⟨n0, 2, none⟩)) rfl (by kernel_rfl) (by kernel_rfl) (by kernel_rfl) (by kernel_rfl) (by kernel_rfl) (fun _ _ _ h => h) (Or.inl ⟨by rfl, fun w' hSw => by (obtain ⟨s0, s1, s2, s3, s4, s5, s6, s7⟩ := hSw; go_simp)⟩) hS ?_
                try simp only [Act.put, List.setIfInBounds_toArray, List.set_cons_zero, List.set_cons_succ]
                refine anyG_step (rs := [15]) (by kernel_rfl) (by simp) ?_
                refine AllG.last (n := 15) rfl (fun K hK => ?_)
                obtain ⟨p0, p1, p2, p3, p4⟩ := pwIn5 hKF.P
                have pf := hKF.P.frozen
                go_simp
                refine hK.out _ _ ?_
                try simp only [Act.put, List.setIfInBounds_toArray, List.set_cons_zero, List.set_cons_succ]
                refine anyG_done (by kernel_rfl) ?_ _
                have hlt4 := hKF.lt
                have hn20 : n2 ≠ n0 := by have := HNN.out; omega
                have hP7 := hKF.P.put ⟨bA, bc, base, t, A', c', L, uA, uc, us, wA, wc, now⟩ 2 (.slice A' L.length c') rfl
                have hR7 := hKF.R.other n0 2 (.slice A' L.length c') hn20
                have hg7 := by_cell W3 n0 2 (.slice A' L.length c')
                have hS7 := hSn.keep hfr hg7 hlt4.1
                have hB6 : Below w.heap.size w W3 := by rw [HNW.out]; exact hB.trans (hKF.bel.mono hn0W)
                have hB7 := hB6.grown hg7 hB6.size (fun j e => by have := Option.some.inj e; have := HNW.out; omega)
                have hb7 := (HL.out.below hB7).b
                simp only at hb7
                have CF := mvRefFold_any bA bc base A' c' L _ (by have := HL9.out; omega) hb7 hS7.1
                generalize W3.setCell ⟨n0, 2, none⟩ (.slice A' L.length c') = W7 at *
                clear p0 p1 p2 p3 p4 pf hK hKF hS hSn ownF
                obtain ⟨r0, r1, r2, r3, r4⟩ := pwIn5 hP7
                go_wp2_with fail
                refine CF.mono ?_
                rintro e W8 ⟨A5, c5, U5, uc5, rfl, hF1, hF2, hfr1, hfr2, hb8⟩
                clear CF r0 r1 r2 r3 r4
                have hP8 := hP7.below hb8
                have hR8 := hR7.below hb8
                have hS8 := hS7.below hb8
                have hl0 := hP7.lt
                have hl2 := hR7.lt
                generalize (foldL base (mvs L)).1 = now1 at *
                generalize (foldL base (mvs L)).2 = us1 at *
                obtain ⟨r0, r1, r2, r3, r4⟩ := pwIn5 hP8
                have pf8 := hP8.frozen
                have hP10 := (hP8.put ⟨bA, bc, base, t, A', c', L, uA, uc, us, A5, c5, now1⟩ 4 (.slice A5 now1.length c5) rfl).put ⟨bA, bc, base, t, A', c', L, U5, uc5, us1, A5, c5, now1⟩ 3 (.slice U5 us1.length uc5) rfl
                have hR10 := (hR8.other n0 4 (.slice A5 now1.length c5) hn20).other n0 3 (.slice U5 us1.length uc5) hn20
                have hg10 := by_cell2 (by_cell W8 n0 4 (.slice A5 now1.length c5)) 3 (.slice U5 us1.length uc5)
                go_wp2_with (first | (refine El.load pwRow rfl _ rfl n0 0 rfl ⟨bA, bc, base, t, A', c', L, U5, uc5, us1, A5, c5, now1⟩ hP10.at #[.slice bA base.length bc, .int .i64 t, .slice A' L.length c', .slice U5 us1.length uc5, .slice A5 now1.length c5] rfl ?_) | (refine El.store pwRow rfl _ _ rfl n2 ⟨bA, bc, base, t, A', c', L, U5, uc5, us1, A5, c5, now1⟩ #[.slice bA base.length bc, .int .i64 t, .slice A' L.length c', .slice U5 us1.length uc5, .slice A5 now1.length c5] rfl rfl rfl Pw.zero hR10 ?_))
                refine El.ret2 pwRow (v := .bool true) (hR10.set ⟨bA, bc, base, t, A', c', L, U5, uc5, us1, A5, c5, now1⟩ #[.slice bA base.length bc, .int .i64 t, .slice A' L.length c', .slice U5 us1.length uc5, .slice A5 now1.length c5] rfl) rfl rfl rfl rfl #[.slice bA base.length bc, .int .i64 t, .slice A' L.length c', .slice U5 us1.length uc5, .slice A5 now1.length c5] rfl ?_
                have hw0 : w.heap.size ≤ n0 ∧ w.heap.size ≤ n2 := by have := HNN.out; have := HNW.out; omega
                have hB8 := below_then hB7 hb8
                have hB10 := hB8.grown hg10 hB8.size (fun j e => by have := Option.some.inj e; omega)
                have hBz := below_setRow hB10 hw0.2 #[.slice bA base.length bc, .int .i64 t, .slice A' L.length c', .slice U5 us1.length uc5, .slice A5 now1.length c5]
                have hgz := fun W => by_row W n2 #[.slice bA base.length bc, .int .i64 t, .slice A' L.length c', .slice U5 us1.length uc5, .slice A5 now1.length c5]
                exact ⟨⟨bA, bc, base, t, A', c', L, U5, uc5, us1, A5, c5, now1⟩, by rw [HNV.out], ⟨(HL.out.below hBz).b, (hS8.keep hfr hg10 hlt4.1).keep hfr (hgz _) hlt4.2.2.1, (hF2.keep hfr2 hg10 hl0).keep hfr2 (hgz _) hl2, (hF1.keep hfr1 hg10 hl0).keep hfr1 (hgz _) hl2⟩, by rw [HNV.out]; rfl, hBz, ⟨rfl, rfl⟩, Or.inr (hfr.mono (by have := HNW.out; have := hlt4.1; omega)), Or.inr (hfr2.mono (by have := HNW.out; have := hB7.size; omega)), Or.inr (hfr1.mono (by have := HNW.out; have := hB7.size; omega))⟩
      · have HKE := Lib.hid (show k = ops.length by omega)
        have HPOS := Lib.hid (pos_eq (c := Mv.C) (d := Mv.D) (o := m) hk hlo (fun h => absurd h hkl))
        obtain ⟨p0, p1, p2, p3, p4⟩ := pwIn5 hPr
        have k2 := cell_regrown p2
        clear p0 p1 p2 p3 p4
        go_wp2_with fail
        refine wp_region_quiet_below (by kernel_rfl) (by kernel_rfl) ?_
        repeat (go_big_quiet_step (fail))
        refine wpQuiet_nil ?_
        intro _ hw'
        obtain ⟨⟨dq, osq⟩, hw''⟩ := hw'
        subst hw''
        have hq := below_regrown wr dq osq
        generalize Sort.grow (redrawn wr dq) osq = w2 at *
        have hB2 := below_then hnx hq
        clear k2
        have hP2 := hPr.below hq
        have hO2 := hOr.below hq
        obtain ⟨p0, p1, p2, p3, p4⟩ := pwIn5 hP2
        have k2 := cell_regrown p2
        clear p0 p1 p2 p3 p4
        go_wp2_with fail
        refine wp_region_quiet_below (by kernel_rfl) (by kernel_rfl) ?_
        repeat (go_big_quiet_step (fail))
        refine wpQuiet_nil ?_
        intro _ hw'
        obtain ⟨⟨dq, osq⟩, hw''⟩ := hw'
        subst hw''
        have hq3 := below_regrown w2 dq osq
        generalize Sort.grow (redrawn w2 dq) osq = w3 at *
        have hB3 := below_then hB2 hq3
        have hP3 := hP2.below hq3
        have hO3 := hO2.below hq3
        have hR3 := hR.below hB3
        have HHF := Lib.hid (has_end (HPOS.out.symm.trans HKE.out))
        clear k2
        go_wp2_with fail
        have hA3e : ∃ A3 : Option Addr, (if oc = k then oA else Option.map (fun x => x.add (k * 7)) oA) = A3 := ⟨_, rfl⟩
        obtain ⟨A3, hA3⟩ := hA3e
        have hO3s := (hxo.1.below hB3)
        have ht1 := hO3s.take k
        have ht3 := hO3s.drop (tz := k) hxo.2.2 hA3
        have hz1 := hxo.2.1
        have hz3 : A3 = none → oc - k = 0 := El.drop_none hxo.2.1 hA3
        have e1 : (ops.take k).length = k := by rw [List.length_take]; omega
        have e3 : (ops.drop k).length = ops.length - k := List.length_drop
        have hkc : k ≤ oc := Nat.le_trans hk hxo.2.2
        have i0 : (0 : Int) ≤ (k : Int) := by omega
        have i1 : (k : Int) ≤ (oc : Int) := by omega
        have i2 : (k : Int) ≤ (ops.length : Int) := by omega
        have hnv := addV_new (q := ⟨base, t, ops, us, now⟩) (m := m) (show ¬ m.C ≤ t by omega) HHF.out
        rw [insL_eq HPOS.out] at hnv
        have HNV := Lib.hid hnv
        have HE1 := Lib.hid e1
        have HE3 := Lib.hid e3
        generalize hL1 : ops.take k = L1 at *
        generalize hL3 : ops.drop k = L3 at *
        obtain ⟨B, hBe⟩ : ∃ B, w3.heap.size = B := ⟨_, rfl⟩
        have hKV : InsK W n0 n1 n2 B (⟨bA, bc, base, t, oA, oc, ops, uA, uc, us, wA, wc, now⟩ : Pw) m oA A3 L1 L3 w3.drew := ⟨hP3, hO3, hR3, El.SlB.of ht1 (Nat.le_of_eq hBe), El.SlB.of ht3 (Nat.le_of_eq hBe), hB3.drew, Nat.le_of_eq hBe.symm, by have := hP3.lt; have := hO3.lt; have := hR3.lt; have := hB3.size; omega⟩
        have hBd : w3.drew.heap.size = B := hBe
        have HL890 : L1.length + L3.length + 1 ≤ 891 := by have := HE1.out; have := HE3.out; omega
        clear e1 e3 hnv hL1 hL3 ht1 ht3 hO3s hP3 hO3 hR3 hBe
        refine region_anyG (S := InsS n0 n1 oA ops.length oc m) 15 (by kernel_rfl) ?_
        generalize w3.drew = V at *
        have hS := hKV.s
        simp only at hS
        refine anyG_take (i := 1) (v := .pointer (some ⟨n0, 2, none⟩)) rfl (by kernel_rfl) (by kernel_rfl) (by kernel_rfl) (by kernel_rfl) (by kernel_rfl) (fun _ _ _ h => h) (Or.inl ⟨by rfl, fun w' hSw => by (obtain ⟨s0, s1, s2, s3, s4, s5, s6, s7⟩ := hSw; go_simp)⟩) hS ?_
        try simp only [Act.put, List.setIfInBounds_toArray, List.set_cons_zero, List.set_cons_succ]
        refine anyG_take (i := 2) (v := .slice oA ops.length oc) rfl (by kernel_rfl) (by kernel_rfl) (by kernel_rfl) (by kernel_rfl) (by kernel_rfl) (fun _ _ _ h => h) (Or.inl ⟨by rfl, fun w' hSw => by (obtain ⟨s0, s1, s2, s3, s4, s5, s6, s7⟩ := hSw; go_simp)⟩) hS ?_
        try simp only [Act.put, List.setIfInBounds_toArray, List.set_cons_zero, List.set_cons_succ]
        refine anyG_take (i := 3) (v := .int .i64 k) rfl (by kernel_rfl) (by kernel_rfl) (by kernel_rfl) (by kernel_rfl) (by kernel_rfl) (fun _ _ _ h => h) (Or.inl ⟨by rfl, fun w' hSw => by (obtain ⟨s0, s1, s2, s3, s4, s5, s6, s7⟩ := hSw; go_simp)⟩) hS ?_
        try simp only [Act.put, List.setIfInBounds_toArray, List.set_cons_zero, List.set_cons_succ]
        refine anyG_take (i := 4) (v := .slice oA k oc) rfl (by kernel_rfl) (by kernel_rfl) (by kernel_rfl) (by kernel_rfl) (by kernel_rfl) (fun _ _ _ h => h) (Or.inl ⟨by rfl, fun w' hSw => by (obtain ⟨s0, s1, s2, s3, s4, s5, s6, s7⟩ := hSw; go_simp)⟩) hS ?_
        try simp only [Act.put, List.setIfInBounds_toArray, List.set_cons_zero, List.set_cons_succ]
        refine anyG_take (i := 6) (v := .agg #[.int .i64 m.C, .int .i64 m.D, .int .i64 m.I, .int .i64 m.M, .int .i64 m.K, .int .i64 m.U, .string m.s]) rfl (by kernel_rfl) (by kernel_rfl) (by kernel_rfl) (by kernel_rfl) (by kernel_rfl) (fun _ _ _ h => h) (Or.inl ⟨by rfl, fun w' hSw => by (obtain ⟨s0, s1, s2, s3, s4, s5, s6, s7⟩ := hSw; go_simp)⟩) hS ?_
        try simp only [Act.put, List.setIfInBounds_toArray, List.set_cons_zero, List.set_cons_succ]
        refine anyG_take (i := 9) (v := .pointer (some ⟨n0, 2, none⟩)) rfl (by kernel_rfl) (by kernel_rfl) (by kernel_rfl) (by kernel_rfl) (by kernel_rfl) (fun _ _ _ h => h) (Or.inl ⟨by rfl, fun w' hSw => by (obtain ⟨s0, s1, s2, s3, s4, s5, s6, s7⟩ := hSw; go_simp)⟩) hS ?_
        try simp only [Act.put, List.setIfInBounds_toArray, List.set_cons_zero, List.set_cons_succ]
        refine anyG_take (i := 10) (v := .slice oA ops.length oc) rfl (by kernel_rfl) (by kernel_rfl) (by kernel_rfl) (by kernel_rfl) (by kernel_rfl) (fun _ _ _ h => h) (Or.inl ⟨by rfl, fun w' hSw => by (obtain ⟨s0, s1, s2, s3, s4, s5, s6, s7⟩ := hSw; go_simp)⟩) hS ?_
        try simp only [Act.put, List.setIfInBounds_toArray, List.set_cons_zero, List.set_cons_succ]
        refine anyG_take (i := 11) (v := .int .i64 k) rfl (by kernel_rfl) (by kernel_rfl) (by kernel_rfl) (by kernel_rfl) (by kernel_rfl) (fun _ _ _ h => h) (Or.inl ⟨by rfl, fun w' hSw => by (obtain ⟨s0, s1, s2, s3, s4, s5, s6, s7⟩ := hSw; go_simp)⟩) hS ?_
        try simp only [Act.put, List.setIfInBounds_toArray, List.set_cons_zero, List.set_cons_succ]
        refine anyG_take (i := 12) (v := .slice A3 (ops.length - k) (oc - k)) rfl (by kernel_rfl) (by kernel_rfl) (by kernel_rfl) (by kernel_rfl) (by kernel_rfl) (fun _ _ _ h => h) (Or.inl ⟨by rfl, fun w' hSw => by (obtain ⟨s0, s1, s2, s3, s4, s5, s6, s7⟩ := hSw; go_simp)⟩) hS ?_
        try simp only [Act.put, List.setIfInBounds_toArray, List.set_cons_zero, List.set_cons_succ]
        refine anyG_step (rs := [0, 7]) (by kernel_rfl) (by simp) ?_
        refine AllG.cons rfl (fun K hK => ?_) (AllG.cons rfl (fun K hK => ?_) AllG.nil)
        · have hK1 := hKV.alloc (.cells #[] 55)
          go_simp
          refine hK.out _ _ hK1.s ?_
          try simp only [Act.put, List.setIfInBounds_toArray, List.set_cons_zero, List.set_cons_succ]
          have own1 : opE.Own (V.alloc (.cells #[] 55)) B (.slice (some ⟨B, 0, none⟩) 0 0) [] := by
            have h := El.Own.empty (E := opE) V B (by omega)
            rw [hBd] at h; exact h
          have hsz1 : (V.alloc (.cells #[] 55)).heap.size = B + 1 := by rw [alloc_size, hBd]
          refine anyG_step (rs := [5, 7]) (by kernel_rfl) (by simp) ?_
          refine AllG.cons rfl (fun K hK => ?_) (AllG.cons rfl (fun K hK => ?_) AllG.nil)
          · refine El.step_app opInn rfl (.tmp 49) (.tmp 53) rfl B _ [] L1 rfl own1 oA k oc rfl HE1.out (hK1.o1.sl hK1.sz) hz1 (by simp; omega) hK1.sz ?_
            intro v1 W1 own2 hg1 hat1
            have own2 : opE.Own W1 B v1 L1 := own2
            have hK2 := hK1.grown hg1 (own1).rows
            clear hat1
            refine hK.out _ _ hK2.s ?_
            try simp only [Act.put, List.setIfInBounds_toArray, List.set_cons_zero, List.set_cons_succ]
            refine anyG_step (rs := [7]) (by kernel_rfl) (by simp) ?_
            refine AllG.cons rfl (fun K hK => ?_) AllG.nil
            have hK3 := hK2.alloc (.cells #[.int .i64 m.C, .int .i64 m.D, .int .i64 m.I, .int .i64 m.M, .int .i64 m.K, .int .i64 m.U, .string m.s] 55)
            go_simp
            refine hK.out _ _ hK3.s ?_
            try simp only [Act.put, List.setIfInBounds_toArray, List.set_cons_zero, List.set_cons_succ]
            have own3 := own2.below (below_alloc (Below.refl _ W1) (.cells #[.int .i64 m.C, .int .i64 m.D, .int .i64 m.I, .int .i64 m.M, .int .i64 m.K, .int .i64 m.U, .string m.s] 55))
            have one3 : opE.Sl (W1.alloc (.cells #[.int .i64 m.C, .int .i64 m.D, .int .i64 m.I, .int .i64 m.M, .int .i64 m.K, .int .i64 m.U, .string m.s] 55)) (some ⟨W1.heap.size, 0, none⟩) [m] := (El.In.new (E := opE) W1 m #[.int .i64 m.C, .int .i64 m.D, .int .i64 m.I, .int .i64 m.M, .int .i64 m.K, .int .i64 m.U, .string m.s] rfl).sl
            refine anyG_step (rs := [8]) (by kernel_rfl) (by simp) ?_
            refine AllG.cons rfl (fun K hK => ?_) AllG.nil
            refine El.step_app opInn rfl (.tmp 54) (.tmp 56) rfl B _ L1 [m] rfl own3 (some ⟨W1.heap.size, 0, none⟩) 1 1 rfl rfl one3 (fun e => by cases e) (by simp; omega) hK3.sz ?_
            intro v2 W2 own4 hg2 hat2
            have hK4 := hK3.grown hg2 (own3).rows
            clear hat2
            refine hK.out _ _ hK4.s ?_
            try simp only [Act.put, List.setIfInBounds_toArray, List.set_cons_zero, List.set_cons_succ]
            refine anyG_step (rs := [13]) (by kernel_rfl) (by simp) ?_
            refine AllG.cons rfl (fun K hK => ?_) AllG.nil
            refine El.step_app opInn rfl (.tmp 57) (.tmp 61) rfl B _ (L1 ++ [m]) L3 rfl own4 A3 (ops.length - k) (oc - k) rfl HE3.out (hK4.o3.sl hK4.sz) hz3 (by rw [List.length_append, List.length_singleton]; omega) hK4.sz ?_
            intro v3 W3 ownF hg3 hat3
            have hKF := hK4.grown hg3 (own4).rows
            clear hat3
            refine hK.out _ _ hKF.s ?_
            try simp only [Act.put, List.setIfInBounds_toArray, List.set_cons_zero, List.set_cons_succ]
            obtain ⟨A', c', rfl, hSn⟩ := SlV.own ownF
            have hfr := ownF.frs
            have hLL : ((L1 ++ [m]) ++ L3).length ≤ ops.length + 1 := by rw [List.length_append, List.length_append, List.length_singleton, HE1.out, HE3.out]; omega
            generalize (L1 ++ [m]) ++ L3 = L at *
            have hS := hKF.s
            simp only at hS
            refine anyG_take (i := 14) (v := .pointer (some ⟨n0, 2, none⟩)) rfl (by kernel_rfl) (by kernel_rfl) (by kernel_rfl) (by kernel_rfl) (by kernel_rfl) (fun _ _ _ h => h) (Or.inl ⟨by rfl, fun w' hSw => by (obtain ⟨s0, s1, s2, s3, s4, s5, s6, s7⟩ := hSw; go_simp)⟩) hS ?_
            try simp only [Act.put, List.setIfInBounds_toArray, List.set_cons_zero, List.set_cons_succ]
            refine anyG_step (rs := [15]) (by kernel_rfl) (by simp) ?_
            refine AllG.last (n := 15) rfl (fun K hK => ?_)
            obtain ⟨p0, p1, p2, p3, p4⟩ := pwIn5 hKF.P
            have pf := hKF.P.frozen
            go_simp
            refine hK.out _ _ ?_
            try simp only [Act.put, List.setIfInBounds_toArray, List.set_cons_zero, List.set_cons_succ]
            refine anyG_done (by kernel_rfl) ?_ _
            have hlt4 := hKF.lt
            have hn20 : n2 ≠ n0 := by have := HNN.out; omega
            have hP7 := hKF.P.put ⟨bA, bc, base, t, A', c', L, uA, uc, us, wA, wc, now⟩ 2 (.slice A' L.length c') rfl
            have hR7 := hKF.R.other n0 2 (.slice A' L.length c') hn20
            have hg7 := by_cell W3 n0 2 (.slice A' L.length c')
            have hS7 := hSn.keep hfr hg7 hlt4.1
            have hB6 : Below w.heap.size w W3 := by rw [HNW.out]; exact hB.trans (hKF.bel.mono hn0W)
            have hB7 := hB6.grown hg7 hB6.size (fun j e => by have := Option.some.inj e; have := HNW.out; omega)
            have hb7 := (HL.out.below hB7).b
            simp only at hb7
            have CF := mvRefFold_any bA bc base A' c' L _ (by have := HL9.out; omega) hb7 hS7.1
            generalize W3.setCell ⟨n0, 2, none⟩ (.slice A' L.length c') = W7 at *
            clear p0 p1 p2 p3 p4 pf hK hKF hS hSn ownF
            obtain ⟨r0, r1, r2, r3, r4⟩ := pwIn5 hP7
            go_wp2_with fail
            refine CF.mono ?_
            rintro e W8 ⟨A5, c5, U5, uc5, rfl, hF1, hF2, hfr1, hfr2, hb8⟩
            clear CF r0 r1 r2 r3 r4
            have hP8 := hP7.below hb8
            have hR8 := hR7.below hb8
            have hS8 := hS7.below hb8
            have hl0 := hP7.lt
            have hl2 := hR7.lt
            generalize (foldL base (mvs L)).1 = now1 at *
            generalize (foldL base (mvs L)).2 = us1 at *
            obtain ⟨r0, r1, r2, r3, r4⟩ := pwIn5 hP8
            have pf8 := hP8.frozen
            have hP10 := (hP8.put ⟨bA, bc, base, t, A', c', L, uA, uc, us, A5, c5, now1⟩ 4 (.slice A5 now1.length c5) rfl).put ⟨bA, bc, base, t, A', c', L, U5, uc5, us1, A5, c5, now1⟩ 3 (.slice U5 us1.length uc5) rfl
            have hR10 := (hR8.other n0 4 (.slice A5 now1.length c5) hn20).other n0 3 (.slice U5 us1.length uc5) hn20
            have hg10 := by_cell2 (by_cell W8 n0 4 (.slice A5 now1.length c5)) 3 (.slice U5 us1.length uc5)
            go_wp2_with (first | (refine El.load pwRow rfl _ rfl n0 0 rfl ⟨bA, bc, base, t, A', c', L, U5, uc5, us1, A5, c5, now1⟩ hP10.at #[.slice bA base.length bc, .int .i64 t, .slice A' L.length c', .slice U5 us1.length uc5, .slice A5 now1.length c5] rfl ?_) | (refine El.store pwRow rfl _ _ rfl n2 ⟨bA, bc, base, t, A', c', L, U5, uc5, us1, A5, c5, now1⟩ #[.slice bA base.length bc, .int .i64 t, .slice A' L.length c', .slice U5 us1.length uc5, .slice A5 now1.length c5] rfl rfl rfl Pw.zero hR10 ?_))
            refine El.ret2 pwRow (v := .bool true) (hR10.set ⟨bA, bc, base, t, A', c', L, U5, uc5, us1, A5, c5, now1⟩ #[.slice bA base.length bc, .int .i64 t, .slice A' L.length c', .slice U5 us1.length uc5, .slice A5 now1.length c5] rfl) rfl rfl rfl rfl #[.slice bA base.length bc, .int .i64 t, .slice A' L.length c', .slice U5 us1.length uc5, .slice A5 now1.length c5] rfl ?_
            have hw0 : w.heap.size ≤ n0 ∧ w.heap.size ≤ n2 := by have := HNN.out; have := HNW.out; omega
            have hB8 := below_then hB7 hb8
            have hB10 := hB8.grown hg10 hB8.size (fun j e => by have := Option.some.inj e; omega)
            have hBz := below_setRow hB10 hw0.2 #[.slice bA base.length bc, .int .i64 t, .slice A' L.length c', .slice U5 us1.length uc5, .slice A5 now1.length c5]
            have hgz := fun W => by_row W n2 #[.slice bA base.length bc, .int .i64 t, .slice A' L.length c', .slice U5 us1.length uc5, .slice A5 now1.length c5]
            exact ⟨⟨bA, bc, base, t, A', c', L, U5, uc5, us1, A5, c5, now1⟩, by rw [HNV.out], ⟨(HL.out.below hBz).b, (hS8.keep hfr hg10 hlt4.1).keep hfr (hgz _) hlt4.2.2.1, (hF2.keep hfr2 hg10 hl0).keep hfr2 (hgz _) hl2, (hF1.keep hfr1 hg10 hl0).keep hfr1 (hgz _) hl2⟩, by rw [HNV.out]; rfl, hBz, ⟨rfl, rfl⟩, Or.inr (hfr.mono (by have := HNW.out; have := hlt4.1; omega)), Or.inr (hfr2.mono (by have := HNW.out; have := hB7.size; omega)), Or.inr (hfr1.mono (by have := HNW.out; have := hB7.size; omega))⟩
          · have hK2 := hK1.alloc (.cells #[.int .i64 m.C, .int .i64 m.D, .int .i64 m.I, .int .i64 m.M, .int .i64 m.K, .int .i64 m.U, .string m.s] 55)
            go_simp
            refine hK.out _ _ hK2.s ?_
            try simp only [Act.put, List.setIfInBounds_toArray, List.set_cons_zero, List.set_cons_succ]
            have own2 := own1.below (below_alloc (Below.refl _ (V.alloc (.cells #[] 55))) (.cells #[.int .i64 m.C, .int .i64 m.D, .int .i64 m.I, .int .i64 m.M, .int .i64 m.K, .int .i64 m.U, .string m.s] 55))
            have one2 : opE.Sl ((V.alloc (.cells #[] 55)).alloc (.cells #[.int .i64 m.C, .int .i64 m.D, .int .i64 m.I, .int .i64 m.M, .int .i64 m.K, .int .i64 m.U, .string m.s] 55)) (some ⟨B + 1, 0, none⟩) [m] := by
              have h := (El.In.new (E := opE) (V.alloc (.cells #[] 55)) m #[.int .i64 m.C, .int .i64 m.D, .int .i64 m.I, .int .i64 m.M, .int .i64 m.K, .int .i64 m.U, .string m.s] rfl).sl
              rw [hsz1] at h; exact h
            refine anyG_step (rs := [5]) (by kernel_rfl) (by simp) ?_
            refine AllG.cons rfl (fun K hK => ?_) AllG.nil
            refine El.step_app opInn rfl (.tmp 49) (.tmp 53) rfl B _ [] L1 rfl own2 oA k oc rfl HE1.out (hK2.o1.sl hK2.sz) hz1 (by simp; omega) hK2.sz ?_
            intro v1 W1 own3 hg1 hat1
            have own3 : opE.Own W1 B v1 L1 := own3
            have hK3 := hK2.grown hg1 (own2).rows
            have one3 := one2.keep1 hg1 (fun e => by have e : some (B + 1) = some B := e; have := Option.some.inj e; omega)
            clear hat1
            refine hK.out _ _ hK3.s ?_
            try simp only [Act.put, List.setIfInBounds_toArray, List.set_cons_zero, List.set_cons_succ]
            refine anyG_step (rs := [8]) (by kernel_rfl) (by simp) ?_
            refine AllG.cons rfl (fun K hK => ?_) AllG.nil
            refine El.step_app opInn rfl (.tmp 54) (.tmp 56) rfl B _ L1 [m] rfl own3 (some ⟨B + 1, 0, none⟩) 1 1 rfl rfl one3 (fun e => by cases e) (by simp; omega) hK3.sz ?_
            intro v2 W2 own4 hg2 hat2
            have hK4 := hK3.grown hg2 (own3).rows
            clear hat2
            refine hK.out _ _ hK4.s ?_
            try simp only [Act.put, List.setIfInBounds_toArray, List.set_cons_zero, List.set_cons_succ]
            refine anyG_step (rs := [13]) (by kernel_rfl) (by simp) ?_
            refine AllG.cons rfl (fun K hK => ?_) AllG.nil
            refine El.step_app opInn rfl (.tmp 57) (.tmp 61) rfl B _ (L1 ++ [m]) L3 rfl own4 A3 (ops.length - k) (oc - k) rfl HE3.out (hK4.o3.sl hK4.sz) hz3 (by rw [List.length_append, List.length_singleton]; omega) hK4.sz ?_
            intro v3 W3 ownF hg3 hat3
            have hKF := hK4.grown hg3 (own4).rows
            clear hat3
            refine hK.out _ _ hKF.s ?_
            try simp only [Act.put, List.setIfInBounds_toArray, List.set_cons_zero, List.set_cons_succ]
            obtain ⟨A', c', rfl, hSn⟩ := SlV.own ownF
            have hfr := ownF.frs
            have hLL : ((L1 ++ [m]) ++ L3).length ≤ ops.length + 1 := by rw [List.length_append, List.length_append, List.length_singleton, HE1.out, HE3.out]; omega
            generalize (L1 ++ [m]) ++ L3 = L at *
            have hS := hKF.s
            simp only at hS
            refine anyG_take (i := 14) (v := .pointer (some ⟨n0, 2, none⟩)) rfl (by kernel_rfl) (by kernel_rfl) (by kernel_rfl) (by kernel_rfl) (by kernel_rfl) (fun _ _ _ h => h) (Or.inl ⟨by rfl, fun w' hSw => by (obtain ⟨s0, s1, s2, s3, s4, s5, s6, s7⟩ := hSw; go_simp)⟩) hS ?_
            try simp only [Act.put, List.setIfInBounds_toArray, List.set_cons_zero, List.set_cons_succ]
            refine anyG_step (rs := [15]) (by kernel_rfl) (by simp) ?_
            refine AllG.last (n := 15) rfl (fun K hK => ?_)
            obtain ⟨p0, p1, p2, p3, p4⟩ := pwIn5 hKF.P
            have pf := hKF.P.frozen
            go_simp
            refine hK.out _ _ ?_
            try simp only [Act.put, List.setIfInBounds_toArray, List.set_cons_zero, List.set_cons_succ]
            refine anyG_done (by kernel_rfl) ?_ _
            have hlt4 := hKF.lt
            have hn20 : n2 ≠ n0 := by have := HNN.out; omega
            have hP7 := hKF.P.put ⟨bA, bc, base, t, A', c', L, uA, uc, us, wA, wc, now⟩ 2 (.slice A' L.length c') rfl
            have hR7 := hKF.R.other n0 2 (.slice A' L.length c') hn20
            have hg7 := by_cell W3 n0 2 (.slice A' L.length c')
            have hS7 := hSn.keep hfr hg7 hlt4.1
            have hB6 : Below w.heap.size w W3 := by rw [HNW.out]; exact hB.trans (hKF.bel.mono hn0W)
            have hB7 := hB6.grown hg7 hB6.size (fun j e => by have := Option.some.inj e; have := HNW.out; omega)
            have hb7 := (HL.out.below hB7).b
            simp only at hb7
            have CF := mvRefFold_any bA bc base A' c' L _ (by have := HL9.out; omega) hb7 hS7.1
            generalize W3.setCell ⟨n0, 2, none⟩ (.slice A' L.length c') = W7 at *
            clear p0 p1 p2 p3 p4 pf hK hKF hS hSn ownF
            obtain ⟨r0, r1, r2, r3, r4⟩ := pwIn5 hP7
            go_wp2_with fail
            refine CF.mono ?_
            rintro e W8 ⟨A5, c5, U5, uc5, rfl, hF1, hF2, hfr1, hfr2, hb8⟩
            clear CF r0 r1 r2 r3 r4
            have hP8 := hP7.below hb8
            have hR8 := hR7.below hb8
            have hS8 := hS7.below hb8
            have hl0 := hP7.lt
            have hl2 := hR7.lt
            generalize (foldL base (mvs L)).1 = now1 at *
            generalize (foldL base (mvs L)).2 = us1 at *
            obtain ⟨r0, r1, r2, r3, r4⟩ := pwIn5 hP8
            have pf8 := hP8.frozen
            have hP10 := (hP8.put ⟨bA, bc, base, t, A', c', L, uA, uc, us, A5, c5, now1⟩ 4 (.slice A5 now1.length c5) rfl).put ⟨bA, bc, base, t, A', c', L, U5, uc5, us1, A5, c5, now1⟩ 3 (.slice U5 us1.length uc5) rfl
            have hR10 := (hR8.other n0 4 (.slice A5 now1.length c5) hn20).other n0 3 (.slice U5 us1.length uc5) hn20
            have hg10 := by_cell2 (by_cell W8 n0 4 (.slice A5 now1.length c5)) 3 (.slice U5 us1.length uc5)
            go_wp2_with (first | (refine El.load pwRow rfl _ rfl n0 0 rfl ⟨bA, bc, base, t, A', c', L, U5, uc5, us1, A5, c5, now1⟩ hP10.at #[.slice bA base.length bc, .int .i64 t, .slice A' L.length c', .slice U5 us1.length uc5, .slice A5 now1.length c5] rfl ?_) | (refine El.store pwRow rfl _ _ rfl n2 ⟨bA, bc, base, t, A', c', L, U5, uc5, us1, A5, c5, now1⟩ #[.slice bA base.length bc, .int .i64 t, .slice A' L.length c', .slice U5 us1.length uc5, .slice A5 now1.length c5] rfl rfl rfl Pw.zero hR10 ?_))
            refine El.ret2 pwRow (v := .bool true) (hR10.set ⟨bA, bc, base, t, A', c', L, U5, uc5, us1, A5, c5, now1⟩ #[.slice bA base.length bc, .int .i64 t, .slice A' L.length c', .slice U5 us1.length uc5, .slice A5 now1.length c5] rfl) rfl rfl rfl rfl #[.slice bA base.length bc, .int .i64 t, .slice A' L.length c', .slice U5 us1.length uc5, .slice A5 now1.length c5] rfl ?_
            have hw0 : w.heap.size ≤ n0 ∧ w.heap.size ≤ n2 := by have := HNN.out; have := HNW.out; omega
            have hB8 := below_then hB7 hb8
            have hB10 := hB8.grown hg10 hB8.size (fun j e => by have := Option.some.inj e; omega)
            have hBz := below_setRow hB10 hw0.2 #[.slice bA base.length bc, .int .i64 t, .slice A' L.length c', .slice U5 us1.length uc5, .slice A5 now1.length c5]
            have hgz := fun W => by_row W n2 #[.slice bA base.length bc, .int .i64 t, .slice A' L.length c', .slice U5 us1.length uc5, .slice A5 now1.length c5]
            exact ⟨⟨bA, bc, base, t, A', c', L, U5, uc5, us1, A5, c5, now1⟩, by rw [HNV.out], ⟨(HL.out.below hBz).b, (hS8.keep hfr hg10 hlt4.1).keep hfr (hgz _) hlt4.2.2.1, (hF2.keep hfr2 hg10 hl0).keep hfr2 (hgz _) hl2, (hF1.keep hfr1 hg10 hl0).keep hfr1 (hgz _) hl2⟩, by rw [HNV.out]; rfl, hBz, ⟨rfl, rfl⟩, Or.inr (hfr.mono (by have := HNW.out; have := hlt4.1; omega)), Or.inr (hfr2.mono (by have := HNW.out; have := hB7.size; omega)), Or.inr (hfr1.mono (by have := HNW.out; have := hB7.size; omega))⟩
        · have hK1 := hKV.alloc (.cells #[.int .i64 m.C, .int .i64 m.D, .int .i64 m.I, .int .i64 m.M, .int .i64 m.K, .int .i64 m.U, .string m.s] 55)
          go_simp
          refine hK.out _ _ hK1.s ?_
          try simp only [Act.put, List.setIfInBounds_toArray, List.set_cons_zero, List.set_cons_succ]
          have one1 : opE.Sl (V.alloc (.cells #[.int .i64 m.C, .int .i64 m.D, .int .i64 m.I, .int .i64 m.M, .int .i64 m.K, .int .i64 m.U, .string m.s] 55)) (some ⟨B, 0, none⟩) [m] := by
            have h := (El.In.new (E := opE) V m #[.int .i64 m.C, .int .i64 m.D, .int .i64 m.I, .int .i64 m.M, .int .i64 m.K, .int .i64 m.U, .string m.s] rfl).sl
            rw [hBd] at h; exact h
          have hsz1 : (V.alloc (.cells #[.int .i64 m.C, .int .i64 m.D, .int .i64 m.I, .int .i64 m.M, .int .i64 m.K, .int .i64 m.U, .string m.s] 55)).heap.size = B + 1 := by rw [alloc_size, hBd]
          refine anyG_step (rs := [0]) (by kernel_rfl) (by simp) ?_
          refine AllG.cons rfl (fun K hK => ?_) AllG.nil
          have hK2 := hK1.alloc (.cells #[] 55)
          go_simp
          refine hK.out _ _ hK2.s ?_
          try simp only [Act.put, List.setIfInBounds_toArray, List.set_cons_zero, List.set_cons_succ]
          have own2 : opE.Own ((V.alloc (.cells #[.int .i64 m.C, .int .i64 m.D, .int .i64 m.I, .int .i64 m.M, .int .i64 m.K, .int .i64 m.U, .string m.s] 55)).alloc (.cells #[] 55)) B (.slice (some ⟨B + 1, 0, none⟩) 0 0) [] := by
            have h := El.Own.empty (E := opE) (V.alloc (.cells #[.int .i64 m.C, .int .i64 m.D, .int .i64 m.I, .int .i64 m.M, .int .i64 m.K, .int .i64 m.U, .string m.s] 55)) B (by omega)
            rw [hsz1] at h; exact h
          have one2 := one1.below (below_alloc (Below.refl _ (V.alloc (.cells #[.int .i64 m.C, .int .i64 m.D, .int .i64 m.I, .int .i64 m.M, .int .i64 m.K, .int .i64 m.U, .string m.s] 55))) (.cells #[] 55))
          refine anyG_step (rs := [5]) (by kernel_rfl) (by simp) ?_
          refine AllG.cons rfl (fun K hK => ?_) AllG.nil
          refine El.step_app opInn rfl (.tmp 49) (.tmp 53) rfl B _ [] L1 rfl own2 oA k oc rfl HE1.out (hK2.o1.sl hK2.sz) hz1 (by simp; omega) hK2.sz ?_
          intro v1 W1 own3 hg1 hat1
          have own3 : opE.Own W1 B v1 L1 := own3
          have hK3 := hK2.grown hg1 (own2).rows
          have one3 := one2.keep1 hg1 (fun e => by have e : some B = some (B + 1) := e; have := Option.some.inj e; omega)
          clear hat1
          refine hK.out _ _ hK3.s ?_
          try simp only [Act.put, List.setIfInBounds_toArray, List.set_cons_zero, List.set_cons_succ]
          refine anyG_step (rs := [8]) (by kernel_rfl) (by simp) ?_
          refine AllG.cons rfl (fun K hK => ?_) AllG.nil
          refine El.step_app opInn rfl (.tmp 54) (.tmp 56) rfl B _ L1 [m] rfl own3 (some ⟨B, 0, none⟩) 1 1 rfl rfl one3 (fun e => by cases e) (by simp; omega) hK3.sz ?_
          intro v2 W2 own4 hg2 hat2
          have hK4 := hK3.grown hg2 (own3).rows
          clear hat2
          refine hK.out _ _ hK4.s ?_
          try simp only [Act.put, List.setIfInBounds_toArray, List.set_cons_zero, List.set_cons_succ]
          refine anyG_step (rs := [13]) (by kernel_rfl) (by simp) ?_
          refine AllG.cons rfl (fun K hK => ?_) AllG.nil
          refine El.step_app opInn rfl (.tmp 57) (.tmp 61) rfl B _ (L1 ++ [m]) L3 rfl own4 A3 (ops.length - k) (oc - k) rfl HE3.out (hK4.o3.sl hK4.sz) hz3 (by rw [List.length_append, List.length_singleton]; omega) hK4.sz ?_
          intro v3 W3 ownF hg3 hat3
          have hKF := hK4.grown hg3 (own4).rows
          clear hat3
          refine hK.out _ _ hKF.s ?_
          try simp only [Act.put, List.setIfInBounds_toArray, List.set_cons_zero, List.set_cons_succ]
          obtain ⟨A', c', rfl, hSn⟩ := SlV.own ownF
          have hfr := ownF.frs
          have hLL : ((L1 ++ [m]) ++ L3).length ≤ ops.length + 1 := by rw [List.length_append, List.length_append, List.length_singleton, HE1.out, HE3.out]; omega
          generalize (L1 ++ [m]) ++ L3 = L at *
          have hS := hKF.s
          simp only at hS
          refine anyG_take (i := 14) (v := .pointer (some ⟨n0, 2, none⟩)) rfl (by kernel_rfl) (by kernel_rfl) (by kernel_rfl) (by kernel_rfl) (by kernel_rfl) (fun _ _ _ h => h) (Or.inl ⟨by rfl, fun w' hSw => by (obtain ⟨s0, s1, s2, s3, s4, s5, s6, s7⟩ := hSw; go_simp)⟩) hS ?_
          try simp only [Act.put, List.setIfInBounds_toArray, List.set_cons_zero, List.set_cons_succ]
          refine anyG_step (rs := [15]) (by kernel_rfl) (by simp) ?_
          refine AllG.last (n := 15) rfl (fun K hK => ?_)
          obtain ⟨p0, p1, p2, p3, p4⟩ := pwIn5 hKF.P
          have pf := hKF.P.frozen
          go_simp
          refine hK.out _ _ ?_
          try simp only [Act.put, List.setIfInBounds_toArray, List.set_cons_zero, List.set_cons_succ]
          refine anyG_done (by kernel_rfl) ?_ _
          have hlt4 := hKF.lt
          have hn20 : n2 ≠ n0 := by have := HNN.out; omega
          have hP7 := hKF.P.put ⟨bA, bc, base, t, A', c', L, uA, uc, us, wA, wc, now⟩ 2 (.slice A' L.length c') rfl
          have hR7 := hKF.R.other n0 2 (.slice A' L.length c') hn20
          have hg7 := by_cell W3 n0 2 (.slice A' L.length c')
          have hS7 := hSn.keep hfr hg7 hlt4.1
          have hB6 : Below w.heap.size w W3 := by rw [HNW.out]; exact hB.trans (hKF.bel.mono hn0W)
          have hB7 := hB6.grown hg7 hB6.size (fun j e => by have := Option.some.inj e; have := HNW.out; omega)
          have hb7 := (HL.out.below hB7).b
          simp only at hb7
          have CF := mvRefFold_any bA bc base A' c' L _ (by have := HL9.out; omega) hb7 hS7.1
          generalize W3.setCell ⟨n0, 2, none⟩ (.slice A' L.length c') = W7 at *
          clear p0 p1 p2 p3 p4 pf hK hKF hS hSn ownF
          obtain ⟨r0, r1, r2, r3, r4⟩ := pwIn5 hP7
          go_wp2_with fail
          refine CF.mono ?_
          rintro e W8 ⟨A5, c5, U5, uc5, rfl, hF1, hF2, hfr1, hfr2, hb8⟩
          clear CF r0 r1 r2 r3 r4
          have hP8 := hP7.below hb8
          have hR8 := hR7.below hb8
          have hS8 := hS7.below hb8
          have hl0 := hP7.lt
          have hl2 := hR7.lt
          generalize (foldL base (mvs L)).1 = now1 at *
          generalize (foldL base (mvs L)).2 = us1 at *
          obtain ⟨r0, r1, r2, r3, r4⟩ := pwIn5 hP8
          have pf8 := hP8.frozen
          have hP10 := (hP8.put ⟨bA, bc, base, t, A', c', L, uA, uc, us, A5, c5, now1⟩ 4 (.slice A5 now1.length c5) rfl).put ⟨bA, bc, base, t, A', c', L, U5, uc5, us1, A5, c5, now1⟩ 3 (.slice U5 us1.length uc5) rfl
          have hR10 := (hR8.other n0 4 (.slice A5 now1.length c5) hn20).other n0 3 (.slice U5 us1.length uc5) hn20
          have hg10 := by_cell2 (by_cell W8 n0 4 (.slice A5 now1.length c5)) 3 (.slice U5 us1.length uc5)
          go_wp2_with (first | (refine El.load pwRow rfl _ rfl n0 0 rfl ⟨bA, bc, base, t, A', c', L, U5, uc5, us1, A5, c5, now1⟩ hP10.at #[.slice bA base.length bc, .int .i64 t, .slice A' L.length c', .slice U5 us1.length uc5, .slice A5 now1.length c5] rfl ?_) | (refine El.store pwRow rfl _ _ rfl n2 ⟨bA, bc, base, t, A', c', L, U5, uc5, us1, A5, c5, now1⟩ #[.slice bA base.length bc, .int .i64 t, .slice A' L.length c', .slice U5 us1.length uc5, .slice A5 now1.length c5] rfl rfl rfl Pw.zero hR10 ?_))
          refine El.ret2 pwRow (v := .bool true) (hR10.set ⟨bA, bc, base, t, A', c', L, U5, uc5, us1, A5, c5, now1⟩ #[.slice bA base.length bc, .int .i64 t, .slice A' L.length c', .slice U5 us1.length uc5, .slice A5 now1.length c5] rfl) rfl rfl rfl rfl #[.slice bA base.length bc, .int .i64 t, .slice A' L.length c', .slice U5 us1.length uc5, .slice A5 now1.length c5] rfl ?_
          have hw0 : w.heap.size ≤ n0 ∧ w.heap.size ≤ n2 := by have := HNN.out; have := HNW.out; omega
          have hB8 := below_then hB7 hb8
          have hB10 := hB8.grown hg10 hB8.size (fun j e => by have := Option.some.inj e; omega)
          have hBz := below_setRow hB10 hw0.2 #[.slice bA base.length bc, .int .i64 t, .slice A' L.length c', .slice U5 us1.length uc5, .slice A5 now1.length c5]
          have hgz := fun W => by_row W n2 #[.slice bA base.length bc, .int .i64 t, .slice A' L.length c', .slice U5 us1.length uc5, .slice A5 now1.length c5]
          exact ⟨⟨bA, bc, base, t, A', c', L, U5, uc5, us1, A5, c5, now1⟩, by rw [HNV.out], ⟨(HL.out.below hBz).b, (hS8.keep hfr hg10 hlt4.1).keep hfr (hgz _) hlt4.2.2.1, (hF2.keep hfr2 hg10 hl0).keep hfr2 (hgz _) hl2, (hF1.keep hfr1 hg10 hl0).keep hfr1 (hgz _) hl2⟩, by rw [HNV.out]; rfl, hBz, ⟨rfl, rfl⟩, Or.inr (hfr.mono (by have := HNW.out; have := hlt4.1; omega)), Or.inr (hfr2.mono (by have := HNW.out; have := hB7.size; omega)), Or.inr (hfr1.mono (by have := HNW.out; have := hB7.size; omega))⟩
end Go.Proofs.YtdcjffajmckleaaGreatDoor

/- Of PastPlays: the document's Add and Settle at known lists; a past's bytes are few; what number n waits for along a path. -/
namespace Go.Proofs.YtdcjffajmckleaaGreatDoor
open Go.RowKit Tre Cod Pst Nam
theorem tree_bytes {l : List Pl} (h : treeB l = true) : (treeBytes l).size ≤ 100000 := by
  have h1 := tree_len h
  have h2 := catL_le l (tree_fit h)
  unfold treeBytes
  rw [ByteArray.size_append]
  have h3 := bytesOf_le l.length (by omega) (by omega)
  omega

section
variable {P : Program} {ops : Array Oper} {Q : Exit → Act → World → Prop} {md : Region.Mode} {S : World → Prop} {n : Nat}
end
end Go.Proofs.YtdcjffajmckleaaGreatDoor

/- Gifts merged and wanted, counts read, snapshots, chunks: as values. No call in it. -/
namespace Go.Proofs.YtdcjffajmckleaaGreatDoor
open Go.RowKit Nam Cod Tre Pst
/-- A count's bytes; what is read. -/
def in64G (n : Int) : Bool := decide (-9223372036854775808 ≤ n ∧ n ≤ 9223372036854775807)
theorem in64G_iff {n : Int} : in64G n = true ↔ i64 n := by unfold in64G i64; exact decide_eq_true_iff
def cnBytes (c : Cn) : ByteArray := bytesOf c.d ++ bytesOf c.i ++ bytesOf c.n
def cnRaw (c : Cn) : Bool := in64G c.d && (in64G c.i && in64G c.n)
theorem cnRaw_iff {c : Cn} : cnRaw c = true ↔ i64 c.d ∧ i64 c.i ∧ i64 c.n := by
  unfold cnRaw
  simp only [Bool.and_eq_true, in64G_iff]
def isCn (s : ByteArray) (p : Nat) (bad : Bool) : Option (Cn × Nat) :=
  (isNum s p bad).bind fun a => (isNum s a.2 false).bind fun b => (isNum s b.2 false).bind fun c => some (⟨a.1, b.1, c.1⟩, c.2)
theorem cn_there (A Z : ByteArray) (c : Cn) (h : cnRaw c = true) : isCn (A ++ (cnBytes c ++ Z)) A.size false = some (c, A.size + (cnBytes c).size) := by
  obtain ⟨g1, g2, g3⟩ := cnRaw_iff.1 h
  obtain ⟨d, i, n⟩ := c
  dsimp only at g1 g2 g3
  obtain ⟨X, hX⟩ : ∃ X, A ++ (cnBytes ⟨d, i, n⟩ ++ Z) = X := ⟨_, rfl⟩
  have h1 := num_atR X A (bytesOf i ++ (bytesOf n ++ Z)) d A.size (by rw [← hX]; unfold cnBytes; simp only [ByteArray.append_assoc]) rfl g1
  have h2 := num_atR X (A ++ bytesOf d) (bytesOf n ++ Z) i (A.size + (bytesOf d).size) (by rw [← hX]; unfold cnBytes; simp only [ByteArray.append_assoc]) (by rw [ByteArray.size_append]) g2
  have h3 := num_atR X (A ++ bytesOf d ++ bytesOf i) Z n (A.size + (bytesOf d).size + (bytesOf i).size) (by rw [← hX]; unfold cnBytes; simp only [ByteArray.append_assoc]) (by simp only [ByteArray.size_append]) g3
  rw [hX]
  unfold isCn
  rw [h1, Option.bind_some]
  dsimp only
  rw [h2, Option.bind_some]
  dsimp only
  rw [h3, Option.bind_some]
  dsimp only
  unfold cnBytes
  simp only [ByteArray.size_append, Nat.add_assoc]
theorem isCn_some {s : ByteArray} {p : Nat} {bad : Bool} {c : Cn} {q : Nat} (h : isCn s p bad = some (c, q)) : ∃ q1 q2, isNum s p bad = some (c.d, q1) ∧ isNum s q1 false = some (c.i, q2) ∧ isNum s q2 false = some (c.n, q) := by
  unfold isCn at h
  simp only [Option.bind_eq_some_iff] at h
  obtain ⟨a, ha, b, hb, c, hc, h⟩ := h
  injection h with h
  injection h with h1 h2
  subst h1 h2
  exact ⟨_, _, ha, hb, hc⟩
theorem cn_bytes {s : ByteArray} {p : Nat} {bad : Bool} {c : Cn} {q : Nat} (h : isCn s p bad = some (c, q)) : cnRaw c = true ∧ (L s).drop p = L (cnBytes c) ++ (L s).drop q := by
  obtain ⟨q1, q2, h1, h2, h3⟩ := isCn_some h
  refine ⟨cnRaw_iff.2 ⟨(isNum_some h1).2.2.2.2, (isNum_some h2).2.2.2.2, (isNum_some h3).2.2.2.2⟩, ?_⟩
  rw [num_bytesR h1, num_bytesR h2, num_bytesR h3]
  unfold cnBytes
  simp only [L_app, List.append_assoc]
def cnK : Kd Cn where
  ok := cnRaw
  b := cnBytes
  is := isCn
  there := cn_there
  back h := cn_bytes h
/-- A snapshot: a place, a clock, a past, counts. -/
structure Sn where
  pos : Int
  clock : Int
  p : Pv
  l : List Cn
def snBytes (x : Sn) : ByteArray := bytesOf x.pos ++ bytesOf x.clock ++ pastBytes x.p ++ cnK.part x.l
end Go.Proofs.YtdcjffajmckleaaGreatDoor

/- Gifts and states in memory; what the program's functions shall answer (GiftCalls); the document's Newer, Wanted. -/
namespace Go.Proofs.YtdcjffajmckleaaGreatDoor
open Go.RowKit Nam Cod Tre Pst

/-- A state as Thaw makes it: all but its stream's place, its clock, its past and its counts is zero. -/
structure Sw where
  pos : Int
  clock : Int
  y : Pw
  cA : Option Addr
  cc : Nat
  l : List Cn
def Sw.v (x : Sw) : Sn := ⟨x.pos, x.clock, x.y.v, x.l⟩
def Sw.zero : Sw := ⟨0, 0, Pw.zero, none, 0, []⟩
structure Sw.ok (x : Sw) (w : World) : Prop where
  p : PastOk w x.y
  c : SlV cnE w x.cA x.cc x.l
theorem Sw.ok.below {x : Sw} {W w : World} (h : x.ok W) (hb : Below W.heap.size W w) : x.ok w := ⟨h.p.below hb, SlV.below h.c hb⟩
theorem Sw.ok.zero (w : World) : Sw.zero.ok w := ⟨PastOk.zero w, SlV.nil _ _⟩
def CnW (c : Cn) : Prop := i64 c.d ∧ i64 c.i ∧ i64 c.n
end Go.Proofs.YtdcjffajmckleaaGreatDoor

/- The document's Freeze. -/
namespace Go.Proofs.YtdcjffajmckleaaGreatDoor
open Go.RowKit Nam Cod Tre Pst

theorem cnBytes_le {c : Cn} (h : CnW c) : (cnBytes c).size ≤ 30 := by
  have b1 := bytesOf_le10 h.1
  have b2 := bytesOf_le10 h.2.1
  have b3 := bytesOf_le10 h.2.2
  unfold cnBytes
  simp only [ByteArray.size_append]
  omega
theorem cnCat_le {l : List Cn} (h : ∀ c ∈ l, CnW c) (k : Nat) : (cnK.cat (l.take k)).size ≤ 30 * l.length := by
  have h1 := cnK.cat_take_le l k
  have h2 := cnK.cat_le 30 l (fun x hx => cnBytes_le (h x hx))
  omega
theorem past_le {q : Pv} (h : PInv q) (hl : q.ops.length ≤ 60) : (pastBytes q).size ≤ 200000 := by
  have h1 := tree_bytes h.tree
  have b1 := bytesOf_le10 (n := q.t) (by have := h.t0; have := h.t1; unfold i64; omega)
  have b2 := bytesOf_le10 (n := (q.ops.length : Int)) (by unfold i64; omega)
  have h3 := catM_le q.ops q.ops.length h.ok
  rw [List.take_length] at h3
  unfold pastBytes headV
  simp only [ByteArray.size_append]
  omega
theorem cnIdxF {A : Option Addr} {b off len cap k : Nat} (hA : A = some ⟨b, off, none⟩) (h : k < len) : ∀ w, (Instr.indexAt 41 (.slice A len cap) (.int .i64 k)).run Tryz.prog w = .ok (.pointer (some ⟨b, off + k * 3, none⟩)) w := fun w => by
  subst hA
  have h2 : (k : Int) < (len : Int) := by omega
  go_simp
set_option maxRecDepth 100000 in
set_option maxHeartbeats 8000000 in
theorem refFreeze_any (pos clock : Int) (y : Pw) (A : Option Addr) (c : Nat) (l : List Cn) (w : World) (h1 : i64 pos) (h2 : i64 clock) (hI : PInv y.v) (hl60 : y.ops.length ≤ 60) (hok : PastOk w y) (hl : l.length ≤ 1000) (hw : ∀ c ∈ l, CnW c) (hT : cnE.Sl w A l) : Calls Tryz.prog 29 #[.int .i64 pos, .int .i64 clock, .agg #[.slice y.bA y.base.length y.bc, .int .i64 y.t, .slice y.oA y.ops.length y.oc, .slice y.uA y.us.length y.uc, .slice y.wA y.now.length y.wc], .slice A l.length c] w fun e w' => e = .returned (.string (snBytes ⟨pos, clock, y.v, l⟩)) ∧ Below w.heap.size w w' := by
  have HT := Lib.hid hT
  have HW := Lib.hid hw
  have hP : pwE.In (w.alloc (.cells #[.slice y.bA y.base.length y.bc, .int .i64 y.t, .slice y.oA y.ops.length y.oc, .slice y.uA y.us.length y.uc, .slice y.wA y.now.length y.wc] 40)) w.heap.size y := El.In.new (E := pwE) w y _ rfl
  have hB := below_alloc (Below.refl w.heap.size w) (.cells #[.slice y.bA y.base.length y.bc, .int .i64 y.t, .slice y.oA y.ops.length y.oc, .slice y.uA y.us.length y.uc, .slice y.wA y.now.length y.wc] 40)
  have C1 := Lib.hid (fun wx => refNum_any pos wx h1.1 h1.2)
  have C2 := Lib.hid (fun wx => refNum_any clock wx h2.1 h2.2)
  have C4 := Lib.hid (fun wx => refNum_any (l.length : Int) wx (by omega) (by omega))
  have C3 := Lib.hid (fun wx (hb : Below w.heap.size w wx) => pastRefPrint_any y wx (hok.below hb) (by have := tree_len hI.tree; exact Nat.le_trans this (by decide)) (by omega) (tree_fit hI.tree) (by have := hI.t0; have := hI.t1; show i64 y.v.t; unfold i64; omega) hI.ok (tree_bytes hI.tree))
  have z1 := bytesOf_le10 h1
  have z2 := bytesOf_le10 h2
  have z4 := bytesOf_le10 (n := (l.length : Int)) (by unfold i64; omega)
  have z3 := past_le hI hl60
  have HV := Lib.hid (show snBytes ⟨pos, clock, y.v, l⟩ = bytesOf pos ++ bytesOf clock ++ pastBytes y.v ++ bytesOf l.length ++ cnK.cat l by unfold snBytes Kd.part; simp only [ByteArray.append_assoc])
  have HC := Lib.hid (cnCat_le hw)
  generalize pastBytes y.v = x3 at *
  generalize bytesOf pos = x1 at *
  generalize bytesOf clock = x2 at *
  generalize bytesOf (l.length : Int) = x4 at *
  have y1 : ¬ 9223372036854775807 < x1.size + x2.size := by omega
  have y2 : ¬ 9223372036854775807 < x1.size + x2.size + x3.size := by omega
  have y3 : ¬ 9223372036854775807 < x1.size + x2.size + x3.size + x4.size := by omega
  clear hI hok hw hT
  go_enter Tryz.func29, Tryz.ntmps29
  go_upto_region 1 with fail
  generalize w.alloc (.cells #[.slice y.bA y.base.length y.bc, .int .i64 y.t, .slice y.oA y.ops.length y.oc, .slice y.uA y.us.length y.uc, .slice y.wA y.now.length y.wc] 40) = W at *
  obtain ⟨n1, hn1⟩ : ∃ n, w.heap.size = n := ⟨_, rfl⟩
  rw [hn1] at hP ⊢
  clear hn1
  replace hP : pwE.In W.drew n1 y := hP
  replace hB := hB.drew
  go_region_held3 (fun w' => w'.cell? ⟨n1, 0, none⟩ = some (.slice y.bA y.base.length y.bc) ∧ w'.cell? ⟨n1, 1, none⟩ = some (.int .i64 y.t) ∧ w'.cell? ⟨n1, 2, none⟩ = some (.slice y.oA y.ops.length y.oc) ∧ w'.cell? ⟨n1, 3, none⟩ = some (.slice y.uA y.us.length y.uc) ∧ w'.cell? ⟨n1, 4, none⟩ = some (.slice y.wA y.now.length y.wc)) (with_reducible exact pwIn5 hP) (first | (go_at_call 56; (with_reducible first | refine (C1.out _).mono ?_ | refine (C2.out _).mono ?_ | refine (C4.out _).mono ?_); rintro e w3 ⟨rfl, hb3⟩; have hP := hP.below hb3; have hB := below_then hB hb3) | (go_at_call 57; (with_reducible refine (C3.out _ hB).mono ?_); rintro e w3 ⟨rfl, hb3⟩; have hP := hP.below hb3; have hB := below_then hB hb3))
  all_goals
    clear hP C1 C2 C3 C4 y1 y2 y3
    have hZ0 : (x1 ++ x2 ++ x3 ++ x4).size ≤ 300000 := by simp only [ByteArray.size_append]; omega
    generalize x1 ++ x2 ++ x3 ++ x4 = N at *
    clear z1 z2 z3 z4
    have HST := Lib.hid (show N = N ++ cnK.cat (l.take 0) by rw [List.take_zero]; exact L_inj (by rw [L_app]; show L N = L N ++ L ⟨#[]⟩; simp [L]))
    go_wp2_with fail
    go_loopw [9, 10] (fun v i wr => ∃ k : Nat, k ≤ l.length ∧ i = .int .i64 k ∧ v = .string (N ++ cnK.cat (l.take k)) ∧ Below w.heap.size w wr) (fun _ i _ => l.length - (intOf i).toNat)
    case atStart => exact ⟨0, Nat.zero_le _, rfl, by rw [← HST.out], hB⟩
    case round =>
      clear hB
      obtain ⟨k, hk, rfl, rfl, hB⟩ := hrel
      by_cases hkl : k < l.length
      · obtain ⟨b, off, eA, hbw, hc⟩ := HT.out (by omega)
        have hx := cnIdxF (cap := c) eA hkl
        have hat : cnE.At wr b (off + k * 3) l[k] := (hc k hkl).below hB hbw
        have hbr := Nat.lt_of_lt_of_le hbw hB.size
        have hzk := HC.out k
        have HNX := Lib.hid (show N ++ cnK.cat (l.take (k + 1)) = N ++ cnK.cat (l.take k) ++ cnBytes l[k] by rw [cnK.cat_next l k hkl, ByteArray.append_assoc]; rfl)
        obtain ⟨i1, i2, i3⟩ := HW.out l[k] (List.getElem_mem _)
        generalize l[k] = x at *
        have hss : (N ++ cnK.cat (l.take k)).size = N.size + (cnK.cat (l.take k)).size := ByteArray.size_append
        generalize N ++ cnK.cat (l.take k) = Z at *
        have D1 := Lib.hid (fun wx => refNum_any x.d wx i1.1 i1.2)
        have D2 := Lib.hid (fun wx => refNum_any x.i wx i2.1 i2.2)
        have D3 := Lib.hid (fun wx => refNum_any x.n wx i3.1 i3.2)
        have z1 := bytesOf_le10 i1
        have z2 := bytesOf_le10 i2
        have z3 := bytesOf_le10 i3
        have HX := Lib.hid (show cnBytes x = bytesOf x.d ++ bytesOf x.i ++ bytesOf x.n from rfl)
        generalize cnBytes x = Bx at *
        generalize bytesOf x.d = x1 at *
        generalize bytesOf x.i = x2 at *
        generalize bytesOf x.n = x3 at *
        have HNV := Lib.hid (show N ++ cnK.cat (l.take (k + 1)) = Z ++ x1 ++ x2 ++ x3 by rw [HNX.out, HX.out]; simp only [ByteArray.append_assoc])
        have y1 : ¬ 9223372036854775807 < Z.size + x1.size := by omega
        have y2 : ¬ 9223372036854775807 < Z.size + x1.size + x2.size := by omega
        have y3 : ¬ 9223372036854775807 < Z.size + x1.size + x2.size + x3.size := by omega
        clear hc eA i1 i2 i3 hss hzk HNX HX z1 z2 z3
        go_upto_region 5 with fail
        replace hat : cnE.At wr.drew b (off + k * 3) x := hat
        replace hB := hB.drew
        replace hbr : b < wr.drew.heap.size := hbr
        go_region_held3 (fun w' => w'.cell? ⟨b, off + k * 3, none⟩ = some (.int .i64 x.d) ∧ w'.cell? ⟨b, off + k * 3 + 1, none⟩ = some (.int .i64 x.i) ∧ w'.cell? ⟨b, off + k * 3 + 2, none⟩ = some (.int .i64 x.n)) (with_reducible exact cnAt3 hat) (first | (go_at_call 56; (with_reducible first | refine (D1.out _).mono ?_ | refine (D2.out _).mono ?_ | refine (D3.out _).mono ?_); rintro e w3 ⟨rfl, hb3⟩; have hat := hat.below hb3 hbr; have hbr := Nat.lt_of_lt_of_le hbr hb3.size; have hB := below_then hB hb3))
        all_goals
          clear hat hbr y1 y2 y3 D1 D2 D3 hx
          go_wp2_with fail
          exact ⟨⟨k + 1, by omega, by go_num, by rw [HNV.out], hB⟩, by simp [intOf]; omega⟩
      · obtain rfl : k = l.length := by omega
        rw [List.take_length, ← HV.out]
        go_wp2_with fail
        go_ret
        exact ⟨rfl, hB⟩
end Go.Proofs.YtdcjffajmckleaaGreatDoor

/- A region's order, held operation by operation: for regions whose order the kernel can't reckon in one piece. No program in it. -/
namespace Go.Proofs.YtdcjffajmckleaaGreatDoor
open Go.RowKit

/-- The first k of n are listed. -/
def litB (k n : Nat) : Array Bool := ((List.range n).map fun i => decide (i < k)).toArray
theorem litB_next {k n : Nat} (h : k < n) : (litB k n).setIfInBounds k true = litB (k + 1) n := by
  unfold litB
  rw [List.setIfInBounds_toArray]
  congr 1
  apply List.ext_getElem
  · simp
  · intro i h1 h2
    rw [List.getElem_set]
    simp only [List.getElem_map, List.getElem_range]
    by_cases e : k = i
    · subst e; simp
    · rw [if_neg e]
      rw [Bool.eq_iff_iff, decide_eq_true_iff, decide_eq_true_iff]
      omega
theorem litB_zero (n : Nat) : Array.replicate n false = litB 0 n := by
  unfold litB
  apply Array.ext
  · simp
  · intro i h1 h2
    simp
def lexP (md : Region.Mode) (ops : Array Oper) (n k : Nat) : Bool := (Region.ready md ops (litB k n)).contains k && Region.free md ops (litB k n) k
theorem lexFrom_of {md : Region.Mode} {ops : Array Oper} {n : Nat} (h0 : Region.lexFrom md ops 0 n (litB n n) = true) (h : ∀ k, k < n → lexP md ops n k = true) : ∀ f k, k + f = n → Region.lexFrom md ops f k (litB k n) = true
  | 0, k, e => by
    obtain rfl : k = n := by omega
    exact h0
  | f + 1, k, e => by
    have h1 := h k (by omega)
    unfold lexP at h1
    rw [Region.lexFrom, h1, litB_next (by omega), Bool.true_and]
    exact lexFrom_of h0 h f (k + 1) (by omega)
theorem lexB_of {md : Region.Mode} {ops : Array Oper} (n m : Nat) (hn : ops.size = n) (hs : Region.noSelect ops = true) (h0 : Region.lexFrom md ops 0 n (litB n n) = true) (hm : n ≤ m * 8)
    (h : ∀ c, c < m → (List.range 8).all (fun j => decide (n ≤ c * 8 + j) || lexP md ops n (c * 8 + j)) = true) : Region.lexB md ops = true := by
  unfold Region.lexB
  rw [hs, Bool.true_and, hn, litB_zero]
  refine lexFrom_of h0 (fun k hk => ?_) n 0 (by omega)
  have h1 := List.all_eq_true.1 (h (k / 8) (by omega)) (k % 8) (List.mem_range.2 (by omega))
  rw [show k / 8 * 8 + k % 8 = k by omega, decide_eq_false (by omega), Bool.false_or] at h1
  exact h1
end Go.Proofs.YtdcjffajmckleaaGreatDoor

/- Devices, as values: edits up to a quota. -/
namespace Go.Proofs.YtdcjffajmckleaaGreatDoor
open Go.RowKit Nam Cod Tre Pst Pln

/-- Behind n edits that were taken. -/
structure EdN (x : Dv) (k n : Nat) : Prop where
  i : EdI x k
  nk : n ≤ k
  sent : x.sent = n
  clock : x.clock = n
  len : x.q.os.length = n
  ops : x.y.ops = x.q.os
  all : ∀ o ∈ x.q.os, o.C ≤ n ∧ o.D = 1 ∧ o.I = 1
theorem EdN.new : EdN (newD 1) 0 0 where
  i := EdI.new
  nk := Nat.le_refl _
  sent := rfl
  clock := rfl
  len := rfl
  ops := rfl
  all := fun o h => by cases h
/-- What the law calls bad. -/
def badE (n u : Int) (s : ByteArray) : Bool := decide (n < 2) || (decide (16 ≤ n) || (decide (u < 0) || (decide (16 ≤ u) || (decide (u = n) || !opB 1 0 1 1 2 0 s))))
theorem bad_arg (n u : Int) (s : ByteArray) : badE n u s = !argD 16 n u s := by
  have h1 : opB 1 0 1 1 2 0 s = isName (L s) := by
    unfold opB
    rw [show atB 1 0 = true from by decide, show cntB 1 = true from by decide, show mvB 2 0 = true from by decide]
    rfl
  have h2 : placeB n u s = (mvB n u && isName (L s)) := by
    unfold placeB opB
    rw [show atB 1 0 = true from by decide, show cntB 1 = true from by decide]
    rfl
  unfold badE argD
  rw [h1, h2]
  unfold mvB
  cases isName (L s)
  · simp
  · rw [Bool.eq_iff_iff]
    simp only [Bool.or_eq_true, Bool.not_eq_true', Bool.and_eq_false_iff, decide_eq_true_iff, decide_eq_false_iff_not, Bool.not_true, Bool.false_eq_true, or_false, Bool.and_true]
    omega
def wantE (q : Int) (n : Nat) (bad : Bool) : Int := if bad = true then 1 else if q ≤ n then 3 else 0
theorem EdN.step {x : Dv} {k n : Nat} (h : EdN x k n) (hk : k < 50) {q : Int} (hq0 : 1 ≤ q) (hq : q ≤ 50) (a u : Int) (s : ByteArray) :
    (editD q 16 x a u s).2 = wantE q n (badE a u s) ∧
    ((editD q 16 x a u s).2 ≠ 0 → (editD q 16 x a u s).1 = x) ∧
    ((editD q 16 x a u s).2 ≠ 0 → EdN (editD q 16 x a u s).1 (k + 1) n) ∧
    ((editD q 16 x a u s).2 = 0 → EdN (editD q 16 x a u s).1 (k + 1) (n + 1) ∧ (editD q 16 x a u s).1.q.os = x.q.os ++ [⟨(n : Int) + 1, 1, 1, (n : Int) + 1, a, u, s⟩]) := by
  have hi := h.i.next hk hq a u s
  have hown : ownV x.y x.node x.inc = n := by
    rw [ownV_all (fun o ho => by rw [h.ops] at ho; rw [h.i.node, h.i.inc]; exact (h.all o ho).2), h.ops, h.len]
  have hO : editO x a u s = ⟨(n : Int) + 1, 1, 1, (n : Int) + 1, a, u, s⟩ := by
    unfold editO
    rw [h.clock, h.i.node, h.i.inc, h.sent]
  have hadd := addV_last (q := x.y) (m := editO x a u s) (by rw [h.i.yt, hO]; show (0 : Int) < (n : Int) + 1; omega) (fun o ho => by rw [h.ops] at ho; have := (h.all o ho).1; rw [hO]; show o.C < (n : Int) + 1; omega)
  rw [bad_arg]
  unfold wantE
  by_cases h1 : argD 16 a u s = false
  · have e : editD q 16 x a u s = (x, 1) := by unfold editD; rw [if_pos h1]
    rw [e] at hi ⊢
    refine ⟨by rw [h1]; rfl, fun _ => rfl, fun _ => ?_, fun h0 => absurd h0 (by show (1 : Int) ≠ 0; omega)⟩
    exact { i := hi, nk := by have := h.nk; omega, sent := h.sent, clock := h.clock, len := h.len, ops := h.ops, all := h.all }
  · have h1t : argD 16 a u s = true := by simpa using h1
    by_cases h3 : q ≤ (n : Int)
    · have e : editD q 16 x a u s = (x, 3) := by
        unfold editD
        rw [if_neg h1, if_neg (by rw [h.i.mode]; omega), if_pos (Or.inl (by rw [hown]; exact h3))]
      rw [e] at hi ⊢
      refine ⟨by rw [h1t]; show (3 : Int) = if q ≤ (n : Int) then 3 else 0; rw [if_pos h3], fun _ => rfl, fun _ => ?_, fun h0 => absurd h0 (by show (3 : Int) ≠ 0; omega)⟩
      exact { i := hi, nk := by have := h.nk; omega, sent := h.sent, clock := h.clock, len := h.len, ops := h.ops, all := h.all }
    · have e : editD q 16 x a u s = ({ x with y := (addV x.y (editO x a u s)).1, q := pushQ x.q (editO x a u s), clock := x.clock + 1, sent := x.sent + 1 }, 0) := by
        unfold editD
        rw [if_neg h1, if_neg (by rw [h.i.mode]; omega), if_neg (by rw [hown, h.len]; omega), if_neg (by rw [hadd.1]; decide)]
      rw [e] at hi ⊢
      refine ⟨by rw [h1t]; show (0 : Int) = if q ≤ (n : Int) then 3 else 0; rw [if_neg h3], fun h0 => absurd rfl h0, fun h0 => absurd rfl h0, fun _ => ⟨?_, by show x.q.os ++ [editO x a u s] = _; rw [hO]⟩⟩
      exact
        { i := hi
          nk := by have := h.nk; omega
          sent := by show x.sent + 1 = ((n + 1 : Nat) : Int); rw [h.sent]; omega
          clock := by show x.clock + 1 = ((n + 1 : Nat) : Int); rw [h.clock]; omega
          len := by show (x.q.os ++ [editO x a u s]).length = n + 1; rw [List.length_append, h.len]; rfl
          ops := by show (addV x.y (editO x a u s)).1.ops = x.q.os ++ [editO x a u s]; rw [hadd.2.1, h.ops]
          all := by
            intro o ho
            have ho : o ∈ x.q.os ++ [editO x a u s] := ho
            rcases List.mem_append.1 ho with ho | ho
            · have := h.all o ho
              exact ⟨by omega, this.2⟩
            · rw [List.mem_singleton] at ho
              subst ho
              rw [hO]
              exact ⟨by show (n : Int) + 1 ≤ ((n + 1 : Nat) : Int); omega, rfl, rfl⟩ }
end Go.Proofs.YtdcjffajmckleaaGreatDoor
