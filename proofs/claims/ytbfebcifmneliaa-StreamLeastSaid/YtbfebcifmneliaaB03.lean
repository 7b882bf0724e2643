/- Texts laid one behind the other: Eb, Tn, To, Uo, Ek, Ha, Gr, Hb, Hc, Hd. -/
import Derived.Test.YtbfebcifmneliaaB02
import Derived.Lib.QuietBelow
import Derived.BigQuiet
import Derived.Deep.QuietTactic
import Derived.Lib.SmallJoins
import Derived.Deep.SlicePairs
import Derived.ChangeSlices
import Derived.ChangeShapes
import Derived.Deep.RegionHeld3
/- Entries and counts in memory; what the program's functions shall answer (EntryCalls: proved for the real program in a text of its own); the document's Right and Print. -/
namespace Go.Proofs.Ytbfebcifmneliaa
open Go.RowKit Nam Cod

def enE : El En where
  e := 37
  k := 10
  c x := [.int .i64 x.k, .int .i64 x.d, .int .i64 x.i, .int .i64 x.o.C, .int .i64 x.o.D, .int .i64 x.o.I, .int .i64 x.o.M, .int .i64 x.o.K, .int .i64 x.o.U, .string x.o.s]
  len _ := rfl
  one p u h := by
    simp only [List.mem_cons, List.not_mem_nil, or_false] at h
    rcases h with rfl | rfl | rfl | rfl | rfl | rfl | rfl | rfl | rfl | rfl <;> rfl
  pos := by decide
theorem enRow : enE.Row Try.prog := ⟨by kernel_rfl, _, Try.underlying37, rfl⟩
theorem enInn : enE.Inn Try.prog 25 := El.inn_of (z := .agg #[.int .i64 0, .int .i64 0, .int .i64 0, .int .i64 0, .int .i64 0, .int .i64 0, .int .i64 0, .int .i64 0, .int .i64 0, .string ⟨#[]⟩]) (bytes := 88) Try.underlying25 (by kernel_rfl) rfl (by decide)
theorem enIn10 {w : World} {b : Nat} {x : En} (h : enE.In w b x) : w.cell? ⟨b, 0, none⟩ = some (.int .i64 x.k) ∧ w.cell? ⟨b, 1, none⟩ = some (.int .i64 x.d) ∧ w.cell? ⟨b, 2, none⟩ = some (.int .i64 x.i) ∧ w.cell? ⟨b, 3, none⟩ = some (.int .i64 x.o.C) ∧ w.cell? ⟨b, 4, none⟩ = some (.int .i64 x.o.D) ∧ w.cell? ⟨b, 5, none⟩ = some (.int .i64 x.o.I) ∧ w.cell? ⟨b, 6, none⟩ = some (.int .i64 x.o.M) ∧ w.cell? ⟨b, 7, none⟩ = some (.int .i64 x.o.K) ∧ w.cell? ⟨b, 8, none⟩ = some (.int .i64 x.o.U) ∧ w.cell? ⟨b, 9, none⟩ = some (.string x.o.s) :=
  ⟨h.cell 0, h.cell 1, h.cell 2, h.cell 3, h.cell 4, h.cell 5, h.cell 6, h.cell 7, h.cell 8, h.cell 9⟩
/-- An entry's numbers fit. -/
structure EnW (e : En) : Prop where
  k : i64 e.k
  d : i64 e.d
  i : i64 e.i
  o : Wide e.o.C e.o.D e.o.I e.o.M e.o.K e.o.U
def entStep (s : ByteArray) (p : Nat) (bad : Bool) (x : En) (q : Nat) (bad' : Bool) : Prop := (isEnt s p bad = some (x, q) ∧ bad' = false) ∨ (isEnt s p bad = none ∧ x = zeroEn ∧ bad' = true)
theorem opRef_mv (m : Mv) (w : World) (hs : m.s.size ≤ 9223372036854775807) :
    Calls Try.prog 42 #[.agg #[.int .i64 m.C, .int .i64 m.D, .int .i64 m.I, .int .i64 m.M, .int .i64 m.K, .int .i64 m.U, .string m.s]] w fun e w' => e = .returned (.bool (okB m)) ∧ Below w.heap.size w w' := opRefRight_any m.C m.D m.I m.M m.K m.U m.s w hs
theorem opRefP_mv (m : Mv) (w : World) (hw : Wide m.C m.D m.I m.M m.K m.U) (hs : m.s.size ≤ 1000000) :
    Calls Try.prog 47 #[.agg #[.int .i64 m.C, .int .i64 m.D, .int .i64 m.I, .int .i64 m.M, .int .i64 m.K, .int .i64 m.U, .string m.s]] w fun e w' => e = .returned (.string m.bytes) ∧ Below w.heap.size w w' := opRefPrint_any m.C m.D m.I m.M m.K m.U m.s w hw hs


theorem toList_iff {a b : ByteArray} : a.toList = b.toList ↔ a = b := ⟨fun h => by
  by_cases e : a = b
  · exact e
  · exact absurd h (ne_list e), fun h => by rw [h]⟩
/-- Are these two operations, entries, counts the same? -/
def mvEq (C D I M K U : Int) (s : ByteArray) (C' D' I' M' K' U' : Int) (s' : ByteArray) : Bool := decide (C = C' ∧ D = D' ∧ I = I' ∧ M = M' ∧ K = K' ∧ U = U' ∧ s = s')
def enEq (k d i C D I M K U : Int) (s : ByteArray) (k' d' i' C' D' I' M' K' U' : Int) (s' : ByteArray) : Bool := decide (k = k' ∧ d = d' ∧ i = i' ∧ C = C' ∧ D = D' ∧ I = I' ∧ M = M' ∧ K = K' ∧ U = U' ∧ s = s')
def cnEq (d i n d' i' n' : Int) : Bool := decide (d = d' ∧ i = i' ∧ n = n')
theorem mvEq_iff {x y : Mv} : mvEq x.C x.D x.I x.M x.K x.U x.s y.C y.D y.I y.M y.K y.U y.s = true ↔ x = y := by
  unfold mvEq
  rw [decide_eq_true_iff]
  obtain ⟨C, D, I, M, K, U, s⟩ := x
  obtain ⟨C', D', I', M', K', U', s'⟩ := y
  simp
theorem enEq_iff {x y : En} : enEq x.k x.d x.i x.o.C x.o.D x.o.I x.o.M x.o.K x.o.U x.o.s y.k y.d y.i y.o.C y.o.D y.o.I y.o.M y.o.K y.o.U y.o.s = true ↔ x = y := by
  unfold enEq
  rw [decide_eq_true_iff]
  obtain ⟨k, d, i, C, D, I, M, K, U, s⟩ := x
  obtain ⟨k', d', i', C', D', I', M', K', U', s'⟩ := y
  simp
theorem cnEq_iff {x y : Cn} : cnEq x.d x.i x.n y.d y.i y.n = true ↔ x = y := by
  unfold cnEq
  rw [decide_eq_true_iff]
  obtain ⟨d, i, n⟩ := x
  obtain ⟨d', i', n'⟩ := y
  simp
set_option maxRecDepth 100000 in
set_option maxHeartbeats 4000000 in
theorem run_eqMv (w : World) (C D I M K U C' D' I' M' K' U' : Int) (s s' : ByteArray) : (Op.equalIn 10000 35 (.agg #[.int .i64 C, .int .i64 D, .int .i64 I, .int .i64 M, .int .i64 K, .int .i64 U, .string s]) (.agg #[.int .i64 C', .int .i64 D', .int .i64 I', .int .i64 M', .int .i64 K', .int .i64 U', .string s'])).run Try.prog w = .ok (mvEq C D I M K U s C' D' I' M' K' U' s') w := by
  by_cases h : C = C' ∧ D = D' ∧ I = I' ∧ M = M' ∧ K = K' ∧ U = U' ∧ s = s'
  · have hm : mvEq C D I M K U s C' D' I' M' K' U' s' = true := decide_eq_true h
    rw [hm]
    obtain ⟨rfl, rfl, rfl, rfl, rfl, rfl, rfl⟩ := h
    clear hm
    go_simp
  · have hm : mvEq C D I M K U s C' D' I' M' K' U' s' = false := decide_eq_false h
    rw [hm]
    clear hm
    go_simp
    exact fun h1 h2 h3 h4 h5 h6 h7 => h ⟨h1, h2, h3, h4, h5, h6, toList_iff.1 h7⟩
set_option maxRecDepth 100000 in
set_option maxHeartbeats 4000000 in
theorem run_eqEn (w : World) (k d i C D I M K U k' d' i' C' D' I' M' K' U' : Int) (s s' : ByteArray) : (Op.equalIn 10000 37 (.agg #[.int .i64 k, .int .i64 d, .int .i64 i, .int .i64 C, .int .i64 D, .int .i64 I, .int .i64 M, .int .i64 K, .int .i64 U, .string s]) (.agg #[.int .i64 k', .int .i64 d', .int .i64 i', .int .i64 C', .int .i64 D', .int .i64 I', .int .i64 M', .int .i64 K', .int .i64 U', .string s'])).run Try.prog w = .ok (enEq k d i C D I M K U s k' d' i' C' D' I' M' K' U' s') w := by
  by_cases h : k = k' ∧ d = d' ∧ i = i' ∧ C = C' ∧ D = D' ∧ I = I' ∧ M = M' ∧ K = K' ∧ U = U' ∧ s = s'
  · have hm : enEq k d i C D I M K U s k' d' i' C' D' I' M' K' U' s' = true := decide_eq_true h
    rw [hm]
    obtain ⟨rfl, rfl, rfl, rfl, rfl, rfl, rfl, rfl, rfl, rfl⟩ := h
    clear hm
    go_simp
  · have hm : enEq k d i C D I M K U s k' d' i' C' D' I' M' K' U' s' = false := decide_eq_false h
    rw [hm]
    clear hm
    go_simp
    exact fun g1 g2 g3 h1 h2 h3 h4 h5 h6 h7 => h ⟨g1, g2, g3, h1, h2, h3, h4, h5, h6, toList_iff.1 h7⟩
set_option maxRecDepth 100000 in
set_option maxHeartbeats 2000000 in
theorem refEntRight_any (e : En) (w : World) (hs : e.o.s.size ≤ 9223372036854775807) : Calls Try.prog 27 #[.agg #[.int .i64 e.k, .int .i64 e.d, .int .i64 e.i, .int .i64 e.o.C, .int .i64 e.o.D, .int .i64 e.o.I, .int .i64 e.o.M, .int .i64 e.o.K, .int .i64 e.o.U, .string e.o.s]] w fun r w' => r = .returned (.bool (entB e)) ∧ Below w.heap.size w w' := by
  obtain ⟨k, d, i, o⟩ := e
  dsimp only at hs ⊢
  have C1 := Lib.hid (fun wx => opRef_mv o wx hs)
  by_cases h1 : k = 1
  · subst h1
    have hB := below_alloc (Below.refl w.heap.size w) (.cells #[.int .i64 (⟨1, d, i, o⟩ : En).k, .int .i64 (⟨1, d, i, o⟩ : En).d, .int .i64 (⟨1, d, i, o⟩ : En).i, .int .i64 (⟨1, d, i, o⟩ : En).o.C, .int .i64 (⟨1, d, i, o⟩ : En).o.D, .int .i64 (⟨1, d, i, o⟩ : En).o.I, .int .i64 (⟨1, d, i, o⟩ : En).o.M, .int .i64 (⟨1, d, i, o⟩ : En).o.K, .int .i64 (⟨1, d, i, o⟩ : En).o.U, .string (⟨1, d, i, o⟩ : En).o.s] 37)
    dsimp only at hB
    by_cases h2 : d = 0 ∧ i = 0
    · obtain ⟨rfl, rfl⟩ := h2
      have hv : entB ⟨1, 0, 0, o⟩ = okB o := by
        unfold entB
        rw [if_pos rfl, decide_eq_true ⟨rfl, rfl⟩, Bool.true_and]
      rw [hv]
      generalize okB o = bo at *
      clear hv
      go_enter Try.func27, Try.ntmps27
      go_wp2_with fail
      refine (C1.out _).mono ?_
      rintro r w1 ⟨rfl, hb1⟩
      replace hB := hB.trans (hb1.mono hB.size)
      go_wp2_with fail
      go_ret
      exact ⟨rfl, hB⟩
    · have hv : entB ⟨1, d, i, o⟩ = false := by
        unfold entB
        rw [if_pos rfl, decide_eq_false h2, Bool.false_and]
      rw [hv]
      clear hv
      by_cases h3 : d = 0
      · subst h3
        have e2 : (i == 0) = false := beq_eq_false_iff_ne.2 (fun h => h2 ⟨rfl, h⟩)
        clear h2
        go_enter Try.func27, Try.ntmps27
        go_wp2_with fail
        go_ret
        exact ⟨rfl, hB⟩
      · have e1 : (d == 0) = false := beq_eq_false_iff_ne.2 h3
        clear h2 h3
        go_enter Try.func27, Try.ntmps27
        go_wp2_with fail
        go_ret
        exact ⟨rfl, hB⟩
  · have hB := below_alloc (Below.refl w.heap.size w) (.cells #[.int .i64 (⟨k, d, i, o⟩ : En).k, .int .i64 (⟨k, d, i, o⟩ : En).d, .int .i64 (⟨k, d, i, o⟩ : En).i, .int .i64 (⟨k, d, i, o⟩ : En).o.C, .int .i64 (⟨k, d, i, o⟩ : En).o.D, .int .i64 (⟨k, d, i, o⟩ : En).o.I, .int .i64 (⟨k, d, i, o⟩ : En).o.M, .int .i64 (⟨k, d, i, o⟩ : En).o.K, .int .i64 (⟨k, d, i, o⟩ : En).o.U, .string (⟨k, d, i, o⟩ : En).o.s] 37)
    dsimp only at hB
    have e1 : (k == 1) = false := beq_eq_false_iff_ne.2 h1
    by_cases h2 : k = 2 ∨ k = 3
    · have hv : entB ⟨k, d, i, o⟩ = (lifeB d i && zeroB o) := by
        unfold entB
        rw [if_neg h1, if_pos h2]
      rw [hv]
      have q := run_eqMv
      have HZ := Lib.hid (show mvEq o.C o.D o.I o.M o.K o.U o.s 0 0 0 0 0 0 ⟨#[]⟩ = zeroB o from rfl)
      clear hv h1 C1
      by_cases h3 : 0 ≤ d ∧ d < 12 ∧ 1 ≤ i ∧ i ≤ 1099511627776
      · have hl : lifeB d i = true := decide_eq_true h3
        rw [hl, Bool.true_and]
        obtain ⟨h4, h5, h6, h7⟩ := h3
        clear hl
        rcases h2 with rfl | rfl
        · go_enter Try.func27, Try.ntmps27
          go_wp2_with fail
          go_ret
          exact ⟨by rw [HZ.out]; rfl, hB⟩
        · go_enter Try.func27, Try.ntmps27
          go_wp2_with fail
          go_ret
          exact ⟨by rw [HZ.out]; rfl, hB⟩
      · have hl : lifeB d i = false := decide_eq_false h3
        rw [hl, Bool.false_and]
        clear hl
        rcases (show d < 0 ∨ (0 ≤ d ∧ 12 ≤ d) ∨ (0 ≤ d ∧ d < 12 ∧ i < 1) ∨ (0 ≤ d ∧ d < 12 ∧ 1 ≤ i ∧ 1099511627776 < i) by omega) with h4 | ⟨h4, h5⟩ | ⟨h4, h5, h6⟩ | ⟨h4, h5, h6, h7⟩
        all_goals
          clear h3
          rcases h2 with rfl | rfl
          all_goals
            go_enter Try.func27, Try.ntmps27
            go_wp2_with fail
            go_ret
            exact ⟨rfl, hB⟩
    · have hv : entB ⟨k, d, i, o⟩ = false := by
        unfold entB
        rw [if_neg h1, if_neg h2]
      rw [hv]
      have e2 : (k == 2) = false := beq_eq_false_iff_ne.2 (fun h => h2 (Or.inl h))
      have e3 : (k == 3) = false := beq_eq_false_iff_ne.2 (fun h => h2 (Or.inr h))
      clear h1 h2 hv
      go_enter Try.func27, Try.ntmps27
      go_wp2_with fail
      go_ret
      exact ⟨rfl, hB⟩

theorem bytesOf_le10 {n : Int} (h : i64 n) : (bytesOf n).size ≤ 10 := by rw [bytesOf_size]; exact enc_ten _ (fold_lt n h.1 h.2)
theorem mvBytes_le {o : Mv} (h : Wide o.C o.D o.I o.M o.K o.U) (hs : o.s.size ≤ 1000000) : o.bytes.size ≤ 1000070 := by
  obtain ⟨h1, h2, h3, h4, h5, h6⟩ := h
  have g1 := bytesOf_le10 (n := o.C) ⟨h1.1, h1.2⟩
  have g2 := bytesOf_le10 (n := o.D) ⟨h2.1, h2.2⟩
  have g3 := bytesOf_le10 (n := o.I) ⟨h3.1, h3.2⟩
  have g4 := bytesOf_le10 (n := o.M) ⟨h4.1, h4.2⟩
  have g5 := bytesOf_le10 (n := o.K) ⟨h5.1, h5.2⟩
  have g6 := bytesOf_le10 (n := o.U) ⟨h6.1, h6.2⟩
  have g7 := text_le o.s hs
  unfold Mv.bytes printOf
  simp only [ByteArray.size_append]
  omega
set_option maxRecDepth 100000 in
set_option maxHeartbeats 2000000 in
theorem refEntPrint_any (e : En) (w : World) (hw : EnW e) (hs : e.o.s.size ≤ 1000000) : Calls Try.prog 38 #[.agg #[.int .i64 e.k, .int .i64 e.d, .int .i64 e.i, .int .i64 e.o.C, .int .i64 e.o.D, .int .i64 e.o.I, .int .i64 e.o.M, .int .i64 e.o.K, .int .i64 e.o.U, .string e.o.s]] w fun r w' => r = .returned (.string (entBytes e)) ∧ Below w.heap.size w w' := by
  obtain ⟨k, d, i, o⟩ := e
  obtain ⟨hk, hd, hi, ho⟩ := hw
  dsimp only at hs hk hd hi ho ⊢
  have hE : enE.In (w.alloc (.cells #[.int .i64 (⟨k, d, i, o⟩ : En).k, .int .i64 (⟨k, d, i, o⟩ : En).d, .int .i64 (⟨k, d, i, o⟩ : En).i, .int .i64 (⟨k, d, i, o⟩ : En).o.C, .int .i64 (⟨k, d, i, o⟩ : En).o.D, .int .i64 (⟨k, d, i, o⟩ : En).o.I, .int .i64 (⟨k, d, i, o⟩ : En).o.M, .int .i64 (⟨k, d, i, o⟩ : En).o.K, .int .i64 (⟨k, d, i, o⟩ : En).o.U, .string (⟨k, d, i, o⟩ : En).o.s] 37)) w.heap.size ⟨k, d, i, o⟩ := El.In.new (E := enE) w ⟨k, d, i, o⟩ _ rfl
  have hB := below_alloc (Below.refl w.heap.size w) (.cells #[.int .i64 (⟨k, d, i, o⟩ : En).k, .int .i64 (⟨k, d, i, o⟩ : En).d, .int .i64 (⟨k, d, i, o⟩ : En).i, .int .i64 (⟨k, d, i, o⟩ : En).o.C, .int .i64 (⟨k, d, i, o⟩ : En).o.D, .int .i64 (⟨k, d, i, o⟩ : En).o.I, .int .i64 (⟨k, d, i, o⟩ : En).o.M, .int .i64 (⟨k, d, i, o⟩ : En).o.K, .int .i64 (⟨k, d, i, o⟩ : En).o.U, .string (⟨k, d, i, o⟩ : En).o.s] 37)
  obtain ⟨p0, p1, p2, p3, p4, p5, p6, p7, p8, p9⟩ := enIn10 hE
  dsimp only at hE hB p0 p1 p2 p3 p4 p5 p6 p7 p8 p9
  have CK := Lib.hid (fun wx => refNum_any k wx hk.1 hk.2)
  have zk := bytesOf_le10 hk
  by_cases h1 : k = 1
  · subst h1
    have hv : entBytes ⟨1, d, i, o⟩ = bytesOf 1 ++ o.bytes := rfl
    rw [hv]
    have CO := Lib.hid (fun wx => opRefP_mv o wx ho hs)
    have zo := mvBytes_le ho hs
    generalize bytesOf 1 = B1 at *
    generalize o.bytes = B2 at *
    clear hv hk hd hi ho hE
    go_enter Try.func38, Try.ntmps38
    go_wp2_with fail
    generalize w.alloc (.cells #[.int .i64 1, .int .i64 d, .int .i64 i, .int .i64 o.C, .int .i64 o.D, .int .i64 o.I, .int .i64 o.M, .int .i64 o.K, .int .i64 o.U, .string o.s] 37) = W at *
    obtain ⟨n1, hn1⟩ : ∃ n, w.heap.size = n := ⟨_, rfl⟩
    rw [hn1] at p0 p1 p2 p3 p4 p5 p6 p7 p8 p9 ⊢
    clear hn1
    have k0 := cell_regrown p0
    have k1 := cell_regrown p1
    have k2 := cell_regrown p2
    have k3 := cell_regrown p3
    have k4 := cell_regrown p4
    have k5 := cell_regrown p5
    have k6 := cell_regrown p6
    have k7 := cell_regrown p7
    have k8 := cell_regrown p8
    have k9 := cell_regrown p9
    clear p0 p1 p2 p3 p4 p5 p6 p7 p8 p9
    have d1 : ∀ d os, Calls Try.prog 37 #[.int .i64 1] (Sort.grow (redrawn W d) os) fun e w'' => e = .returned (.string B1) ∧ ∃ p : Regrown, w'' = Sort.grow (redrawn W p.d) p.os := fun d os => Calls.regrown_of (CK.out _)
    have d2 : ∀ d os, Calls Try.prog 47 #[.agg #[.int .i64 o.C, .int .i64 o.D, .int .i64 o.I, .int .i64 o.M, .int .i64 o.K, .int .i64 o.U, .string o.s]] (Sort.grow (redrawn W d) os) fun e w'' => e = .returned (.string B2) ∧ ∃ p : Regrown, w'' = Sort.grow (redrawn W p.d) p.os := fun d os => Calls.regrown_of (CO.out _)
    refine wp_region_quiet_below (by kernel_rfl) (by kernel_rfl) ?_
    repeat (go_big_quiet_step ((with_reducible (first | exact d1 _ _ | exact d2 _ _))))
    refine wpQuiet_nil ?_
    intro _ hw'
    obtain ⟨⟨dq, osq⟩, hw''⟩ := hw'
    subst hw''
    go_wp2
    go_ret
    exact ⟨rfl, below_then hB (below_regrown W dq osq)⟩
  · have hv : entBytes ⟨k, d, i, o⟩ = bytesOf k ++ bytesOf d ++ bytesOf i := by unfold entBytes; rw [if_neg h1]
    rw [hv]
    have e1 : (k == 1) = false := beq_eq_false_iff_ne.2 h1
    have CD := Lib.hid (fun wx => refNum_any d wx hd.1 hd.2)
    have CI := Lib.hid (fun wx => refNum_any i wx hi.1 hi.2)
    have zd := bytesOf_le10 hd
    have zi := bytesOf_le10 hi
    generalize bytesOf k = B1 at *
    generalize bytesOf d = B2 at *
    generalize bytesOf i = B3 at *
    clear hv hk hd hi ho hE h1
    go_enter Try.func38, Try.ntmps38
    go_wp2_with fail
    generalize w.alloc (.cells #[.int .i64 k, .int .i64 d, .int .i64 i, .int .i64 o.C, .int .i64 o.D, .int .i64 o.I, .int .i64 o.M, .int .i64 o.K, .int .i64 o.U, .string o.s] 37) = W at *
    obtain ⟨n1, hn1⟩ : ∃ n, w.heap.size = n := ⟨_, rfl⟩
    rw [hn1] at p0 p1 p2 p3 p4 p5 p6 p7 p8 p9 ⊢
    clear hn1
    have k0 := cell_regrown p0
    have k1 := cell_regrown p1
    have k2 := cell_regrown p2
    have k3 := cell_regrown p3
    have k4 := cell_regrown p4
    have k5 := cell_regrown p5
    have k6 := cell_regrown p6
    have k7 := cell_regrown p7
    have k8 := cell_regrown p8
    have k9 := cell_regrown p9
    clear p0 p1 p2 p3 p4 p5 p6 p7 p8 p9
    have d1 : ∀ c os, Calls Try.prog 37 #[.int .i64 k] (Sort.grow (redrawn W c) os) fun e w'' => e = .returned (.string B1) ∧ ∃ p : Regrown, w'' = Sort.grow (redrawn W p.d) p.os := fun c os => Calls.regrown_of (CK.out _)
    have d2 : ∀ c os, Calls Try.prog 37 #[.int .i64 d] (Sort.grow (redrawn W c) os) fun e w'' => e = .returned (.string B2) ∧ ∃ p : Regrown, w'' = Sort.grow (redrawn W p.d) p.os := fun c os => Calls.regrown_of (CD.out _)
    have d3 : ∀ c os, Calls Try.prog 37 #[.int .i64 i] (Sort.grow (redrawn W c) os) fun e w'' => e = .returned (.string B3) ∧ ∃ p : Regrown, w'' = Sort.grow (redrawn W p.d) p.os := fun c os => Calls.regrown_of (CI.out _)
    refine wp_region_quiet_below (by kernel_rfl) (by kernel_rfl) ?_
    repeat (go_big_quiet_step ((with_reducible (first | exact d1 _ _ | exact d2 _ _ | exact d3 _ _))))
    refine wpQuiet_nil ?_
    intro _ hw'
    obtain ⟨⟨dq, osq⟩, hw''⟩ := hw'
    subst hw''
    go_wp2
    go_ret
    exact ⟨rfl, below_then hB (below_regrown W dq osq)⟩
end Go.Proofs.Ytbfebcifmneliaa

/- Places and trees as bytes; what may be a tree. -/
namespace Go.Proofs.Ytbfebcifmneliaa
open Go.RowKit Nam Cod Tre

def isPlace (s : ByteArray) (p : Nat) (bad : Bool) : Option (Pl × Nat) :=
  (isNum s p bad).bind fun a => (isNum s a.2 false).bind fun b => (isText s b.2 false 16).bind fun c => some (⟨a.1, b.1, c.1⟩, c.2)
/-- So many places, from p on. -/
def isPlaces (s : ByteArray) : Nat → Nat → Option (List Pl × Nat)
  | 0, p => some ([], p)
  | n + 1, p => (isPlaces s n p).bind fun a => (isPlace s a.2 false).bind fun b => some (a.1 ++ [b.1], b.2)
def okPl (p : Pl) : Bool := decide (2 ≤ p.n ∧ p.n < 64 ∧ 0 ≤ p.u ∧ p.u < 64) && isName (L p.s)
def rising : List Pl → Bool
  | [] => true
  | [_] => true
  | p :: q :: l => decide (p.n < q.n) && rising (q :: l)
def treeB (l : List Pl) : Bool := l.all okPl && (rising l && l.all fun p => !above l p.n p.u)
def isTree (s : ByteArray) (p : Nat) (bad : Bool) : Option (List Pl × Nat) :=
  (isCount s p bad 64).bind fun a => (isPlaces s a.1.toNat a.2).bind fun b => if treeB b.1 = true then some b else none

def plBytes (p : Pl) : ByteArray := bytesOf p.n ++ bytesOf p.u ++ textOf p.s
def catL : List Pl → ByteArray
  | [] => ⟨#[]⟩
  | p :: l => plBytes p ++ catL l
def treeBytes (l : List Pl) : ByteArray := bytesOf l.length ++ catL l
/-- Numbers that a word holds; a text that isn't too long. -/
structure Fit (p : Pl) : Prop where
  n1 : -9223372036854775808 ≤ p.n
  n2 : p.n ≤ 9223372036854775807
  u1 : -9223372036854775808 ≤ p.u
  u2 : p.u ≤ 9223372036854775807
  s : p.s.size ≤ 16

theorem bempty (x : ByteArray) : x ++ (⟨#[]⟩ : ByteArray) = x := by apply L_inj; rw [L_app]; simp [L]
theorem empty_b (x : ByteArray) : (⟨#[]⟩ : ByteArray) ++ x = x := by apply L_inj; rw [L_app]; simp [L]
theorem catL_snoc (l : List Pl) (p : Pl) : catL (l ++ [p]) = catL l ++ plBytes p := by
  induction l with
  | nil => show plBytes p ++ ⟨#[]⟩ = ⟨#[]⟩ ++ plBytes p; rw [bempty, empty_b]
  | cons q l ih => show plBytes q ++ catL (l ++ [p]) = (plBytes q ++ catL l) ++ plBytes p; rw [ih, ByteArray.append_assoc]
theorem catL_app (l m : List Pl) : catL (l ++ m) = catL l ++ catL m := by
  induction l with
  | nil => exact (empty_b _).symm
  | cons q l ih => show plBytes q ++ catL (l ++ m) = (plBytes q ++ catL l) ++ catL m; rw [ih, ByteArray.append_assoc]
theorem okPl_fit {p : Pl} (h : okPl p = true) : Fit p ∧ 2 ≤ p.n ∧ p.n < 64 ∧ 0 ≤ p.u ∧ p.u < 64 ∧ isName (L p.s) = true := by
  unfold okPl at h
  rw [Bool.and_eq_true, decide_eq_true_iff] at h
  have hl := isName_len h.2
  rw [L_len] at hl
  exact ⟨⟨by omega, by omega, by omega, by omega, hl.2⟩, h.1.1, h.1.2.1, h.1.2.2.1, h.1.2.2.2, h.2⟩
theorem plBytes_le {p : Pl} (h : Fit p) : (plBytes p).size ≤ 46 := by
  unfold plBytes textOf
  simp only [ByteArray.size_append]
  have z1 := bytesOf_le p.n h.n1 h.n2
  have z2 := bytesOf_le p.u h.u1 h.u2
  have hs := h.s
  have z3 := bytesOf_le p.s.size (by omega) (by omega)
  omega
theorem catL_le : ∀ (l : List Pl), (∀ p ∈ l, Fit p) → (catL l).size ≤ 46 * l.length
  | [], _ => by show (ByteArray.mk #[]).size ≤ _; exact Nat.zero_le _
  | p :: l, h => by
    have h1 := plBytes_le (h p (by simp))
    have h2 := catL_le l (fun q hq => h q (by simp [hq]))
    show (plBytes p ++ catL l).size ≤ _
    rw [ByteArray.size_append, List.length_cons]; omega

theorem place_there (A Z : ByteArray) (p : Pl) (h : Fit p) : isPlace (A ++ (plBytes p ++ Z)) A.size false = some (p, A.size + (plBytes p).size) := by
  have h1 := num_there A (bytesOf p.u ++ textOf p.s ++ Z) p.n h.n1 h.n2
  have h2 := num_there (A ++ bytesOf p.n) (textOf p.s ++ Z) p.u h.u1 h.u2
  have h3 := text_there (A ++ bytesOf p.n ++ bytesOf p.u) p.s Z 16 (by have := h.s; omega) (by have := h.s; omega)
  have e : A ++ (plBytes p ++ Z) = A ++ (bytesOf p.n ++ (bytesOf p.u ++ textOf p.s ++ Z)) := by unfold plBytes; simp only [ByteArray.append_assoc]
  have e2 : A ++ (plBytes p ++ Z) = A ++ bytesOf p.n ++ (bytesOf p.u ++ (textOf p.s ++ Z)) := by unfold plBytes; simp only [ByteArray.append_assoc]
  have e3 : A ++ (plBytes p ++ Z) = A ++ bytesOf p.n ++ bytesOf p.u ++ (textOf p.s ++ Z) := by unfold plBytes; simp only [ByteArray.append_assoc]
  rw [← e] at h1
  rw [← e2, ByteArray.size_append] at h2
  rw [← e3, ByteArray.size_append, ByteArray.size_append] at h3
  unfold isPlace
  simp only [h1, h2, h3, Option.bind_some]
  unfold plBytes
  simp only [ByteArray.size_append, Nat.add_assoc]
theorem places_there (A Z : ByteArray) (l : List Pl) (h : ∀ p ∈ l, Fit p) : ∀ k, k ≤ l.length → isPlaces (A ++ (catL l ++ Z)) k A.size = some (l.take k, A.size + (catL (l.take k)).size)
  | 0, _ => by unfold isPlaces; simp [catL]; rfl
  | k + 1, hk => by
    have hlt : k < l.length := hk
    have e : catL l ++ Z = catL (l.take k) ++ (plBytes l[k] ++ (catL (l.drop (k + 1)) ++ Z)) := by
      have : l = l.take k ++ (l[k] :: l.drop (k + 1)) := by rw [← List.drop_eq_getElem_cons hlt, List.take_append_drop]
      conv => lhs; rw [this, catL_app]
      show catL (l.take k) ++ (plBytes l[k] ++ catL (l.drop (k + 1))) ++ Z = _
      simp only [ByteArray.append_assoc]
    have hp := place_there (A ++ catL (l.take k)) (catL (l.drop (k + 1)) ++ Z) l[k] (h _ (List.getElem_mem hlt))
    rw [ByteArray.append_assoc, ← e, ByteArray.size_append] at hp
    unfold isPlaces
    rw [places_there A Z l h k (by omega), Option.bind_some]
    simp only [hp, Option.bind_some]
    rw [List.take_succ_eq_append_getElem hlt, catL_snoc, ByteArray.size_append, Nat.add_assoc]
theorem tree_there (A Z : ByteArray) (l : List Pl) (h : treeB l = true) (hl : l.length ≤ 64) : isTree (A ++ (treeBytes l ++ Z)) A.size false = some (l, A.size + (treeBytes l).size) := by
  have hf : ∀ p ∈ l, Fit p := fun p hp => by
    unfold treeB at h
    rw [Bool.and_eq_true, List.all_eq_true] at h
    exact (okPl_fit (h.1 p hp)).1
  have h1 := count_there A (catL l ++ Z) l.length 64 (by omega) (by omega) (by omega)
  have e : A ++ (treeBytes l ++ Z) = A ++ (bytesOf l.length ++ (catL l ++ Z)) := by unfold treeBytes; rw [ByteArray.append_assoc]
  have h2 := places_there (A ++ bytesOf l.length) Z l hf l.length (Nat.le_refl _)
  rw [ByteArray.append_assoc, ← e, ByteArray.size_append, List.take_length] at h2
  rw [← e] at h1
  unfold isTree
  simp only [h1, Option.bind_some, Int.toNat_natCast, h2, h, if_true]
  unfold treeBytes
  rw [ByteArray.size_append, Nat.add_assoc]
theorem rising_cons {p : Pl} : ∀ {l : List Pl}, rising (p :: l) = true → rising l = true ∧ ∀ q ∈ l, p.n < q.n
  | [], _ => ⟨rfl, fun q hq => by cases hq⟩
  | q :: l, h => by
    unfold rising at h
    rw [Bool.and_eq_true, decide_eq_true_iff] at h
    refine ⟨h.2, fun x hx => ?_⟩
    rcases List.mem_cons.1 hx with rfl | hx
    · exact h.1
    · have := (rising_cons h.2).2 x hx; omega
theorem rising_sorted : ∀ {l : List Pl}, rising l = true → Sorted l
  | [], _ => fun i j hi => by simp at hi
  | p :: l, h => fun i j hi hj hij => by
    obtain ⟨h1, h2⟩ := rising_cons h
    cases j with
    | zero => omega
    | succ j =>
      have hj' : j < l.length := by simpa using hj
      cases i with
      | zero => exact h2 _ (List.getElem_mem hj')
      | succ i => exact rising_sorted h1 i j (by simpa using hi) hj' (by omega)
theorem treeB_facts {l : List Pl} (h : treeB l = true) : (∀ p ∈ l, okPl p = true) ∧ Sorted l ∧ NoRing l := by
  unfold treeB at h
  simp only [Bool.and_eq_true, List.all_eq_true, Bool.not_eq_true'] at h
  exact ⟨h.1, rising_sorted h.2.1, h.2.2⟩
/-- Nodes below 64, rising: no more than 62. -/
theorem sorted_len {l : List Pl} (hs : Sorted l) (h : ∀ p ∈ l, 2 ≤ p.n ∧ p.n < 64) : l.length ≤ 62 := by
  have key : ∀ i (hi : i < l.length), (i : Int) + 2 ≤ l[i].n := by
    intro i
    induction i with
    | zero => intro hi; have := (h _ (List.getElem_mem hi)).1; omega
    | succ i ih => intro hi; have h1 := ih (by omega); have h2 := hs i (i + 1) (by omega) hi (by omega); omega
  rcases Nat.lt_or_ge 62 l.length with hlt | hge
  · have h1 := key 62 hlt
    have h2 := (h _ (List.getElem_mem hlt)).2
    omega
  · exact hge
end Go.Proofs.Ytbfebcifmneliaa

/- How the arguments of the laws are opened. -/
namespace Go.Proofs.Ytbfebcifmneliaa
open Go.ChangeShapes Go.WideShapes Go.ChangeAt Go.RowKit Go.Deep Nam Cod Tre

/-- Its numbers are words, its text isn't too long for a machine. -/
def WidePl (p : Pl) : Prop := i64 p.n ∧ i64 p.u ∧ p.s.size ≤ maxLen
theorem add_plain (b o n : Nat) : (⟨b, o, none⟩ : Addr).add n = ⟨b, o + n, none⟩ := Addr.add_lit b o n
theorem long_le {l : List Pl} (h : ∀ p ∈ l, WidePl p) : ∀ p ∈ l, p.s.size ≤ 9223372036854775807 := fun p hp => Nat.le_trans (h p hp).2.2 (by unfold maxLen; omega)
end Go.Proofs.Ytbfebcifmneliaa

/- Slices among the arguments, opened, whatever their elements; bytes as elements. -/
namespace Go.Proofs.Ytbfebcifmneliaa
open Go.ChangeShapes Go.WideShapes Go.ChangeAt Go.RowKit Go.Deep Nam Cod Tre

def byE : El Int where
  e := 5
  k := 1
  c x := [.int .u8 x]
  len _ := rfl
  one p u h := by
    simp only [List.mem_cons, List.not_mem_nil, or_false] at h
    subst h; rfl
  pos := by decide
set_option maxRecDepth 100000 in
theorem open_list {α : Type} (E : El α) (Q : α → Prop) {st : TypeId} (hu : Try.prog.underlying st = some (.slice E.e)) (hk : Try.prog.cellsOf E.e = E.k) [Inhabited α] {H : Type} {enc : TypeId × Value → H} {W : World} {base : Nat} {v : Value} {d : DataW H} {ps : List MemPlace}
    (hrd : ∀ {fuel : Nat} {cs : List Value} {x : DataW H × List MemPlace}, DataW.trod enc Try.prog W 0 (fun _ => true) true fuel E.e cs = some x → ∃ a, cs = E.c a ∧ Q a)
    (hv : Value.okWide Try.prog W .any base st v) (h : DataW.Trod enc Try.prog W 0 (fun _ => true) true st v d ps) :
    ∃ (A : Option Addr) (cap : Nat) (l : List α), v = .slice A l.length cap ∧ E.Sl W A l ∧ l.length ≤ cap ∧ (A = none → cap = 0) ∧ ∀ p ∈ l, Q p := by
  obtain ⟨a0, len, cap, rfl, _⟩ := okWide_slice hu hv
  obtain ⟨fuel, hf⟩ := h
  rcases open_slice hu hf with ⟨hcs, hx⟩ | ⟨a, len', cap', m, n, D, Pls, hcs, _, hle, hm, hmm, hx, hi⟩
  · simp [Value.cells] at hcs
    obtain ⟨rfl, rfl, rfl⟩ := hcs
    exact ⟨none, 0, [], rfl, El.Sl.nil W none, Nat.le_refl _, fun _ => rfl, fun p hp => by cases hp⟩
  · simp [Value.cells] at hcs
    obtain ⟨rfl, rfl, rfl⟩ := hcs
    simp only [if_true] at hmm
    have hv : ∀ i, i < m → ∃ p : α, Q p ∧ W.cells? 0 (a.add (i * E.k)) E.k = some (E.c p) := by
      intro i him
      obtain ⟨cs', h1, h2⟩ := hi i him
      rw [hk] at h1
      obtain ⟨p, rfl, hw⟩ := hrd h2
      exact ⟨p, hw, h1⟩
    obtain ⟨f, hf2⟩ := choose_lt hv
    have hlen : ((List.range len).map f).length = len := by simp
    refine ⟨some a, cap, (List.range len).map f, by rw [hlen], fun h => ?_, by rw [hlen]; exact hle, (fun e => by cases e), fun p hp => ?_⟩
    · rw [hlen] at h
      obtain ⟨bb, off, spot⟩ := a
      have cell : ∀ i, i < len → ∀ j v, (E.c (f i))[j]? = some v → W.cell? (((⟨bb, off, spot⟩ : Addr).add (i * E.k)).add j) = some v := by
        intro i hil j v hv
        obtain ⟨_, _, hcell⟩ := World.cells?_some (hf2 i (by omega)).2
        have hj : j < E.k := by have := (List.getElem?_eq_some_iff.1 hv).1; rw [E.len] at this; exact this
        have := hcell j hj
        rw [this]; exact hv
      have h00 : ∃ v, (E.c (f 0))[0]? = some v := ⟨(E.c (f 0))[0]'(by rw [E.len]; exact E.pos), List.getElem?_eq_getElem _⟩
      obtain ⟨v0, hv0⟩ := h00
      have hspot : spot = none := by
        have := cell 0 h 0 _ hv0
        simpa [Addr.add] using World.cell?_spot this
      subst hspot
      refine ⟨bb, off, rfl, (by have h9 := block_lt_of_cell (cell 0 h 0 _ hv0); rw [add_plain, add_plain] at h9; exact h9), fun i hil => ?_⟩
      have hil' : i < len := by rw [hlen] at hil; exact hil
      have he : ((List.range len).map f)[i] = f i := by simp
      rw [he]
      intro j u hu
      have := cell i hil' j u hu
      rwa [add_plain, add_plain] at this
    · obtain ⟨i, hi2, rfl⟩ := List.mem_map.1 hp
      exact (hf2 i (by have := List.mem_range.1 hi2; omega)).1

set_option maxRecDepth 100000 in
theorem open_bytes {H : Type} {enc : TypeId × Value → H} {W : World} {base : Nat} {v : Value} {d : DataW H} {ps : List MemPlace}
    (hv : Value.okWide Try.prog W .any base 62 v) (h : DataW.Trod enc Try.prog W 0 (fun _ => true) true 62 v d ps) :
    ∃ (A : Option Addr) (cap : Nat) (l : List Int), v = .slice A l.length cap ∧ byE.Sl W A l ∧ l.length ≤ cap ∧ (A = none → cap = 0) ∧ ∀ t ∈ l, 0 ≤ t ∧ t ≤ 255 :=
  open_list byE (fun t => 0 ≤ t ∧ t ≤ 255) Try.underlying62 cells5 (fun h => by
    obtain ⟨x, e, _, wf⟩ := DataW.trod_int Try.underlying5 h
    have hb := bounds_u8 wf
    exact ⟨x, e, by omega, by omega⟩) hv h
set_option maxRecDepth 100000 in
theorem open_u8 {H : Type} {enc : TypeId × Value → H} {W : World} {base : Nat} {sp : Nat → Bool} {v : Value} {d : DataW H} {ps : List MemPlace}
    (hv : Value.okWide Try.prog W .any base 5 v) (h : DataW.Trod enc Try.prog W 0 sp true 5 v d ps) : ∃ t : Int, v = .int .u8 t ∧ 0 ≤ t ∧ t ≤ 255 := by
  obtain ⟨a, rfl, _, _, wf⟩ := open_int Try.underlying5 hv h
  have hb := bounds_u8 wf
  exact ⟨a, rfl, by omega, by omega⟩
/-- A block that is a row of these. -/
theorem El.Sl.row {α : Type} {E : El α} (w : World) (l : List α) (cs : Array Value) (hc : cs = (E.cells l).toArray) : E.Sl (w.alloc (.cells cs E.e)) (some ⟨w.heap.size, 0, none⟩) l := fun _ => by
  subst hc
  refine ⟨w.heap.size, 0, rfl, by rw [alloc_size]; omega, fun i hi j u hu => ?_⟩
  have h := cell_of_row (w.alloc (.cells (E.cells l).toArray E.e)) w.heap.size (i * E.k + j) _ E.e (0, 0) (heap_alloc_new w _)
  rw [show 0 + i * E.k + j = i * E.k + j by omega, h]
  simpa using El.cells_at l i hi j u hu
set_option maxRecDepth 100000 in
/-- A slice among the cells of an argument. -/
theorem open_cells {α : Type} (E : El α) (Q : α → Prop) {st : TypeId} (hu : Try.prog.underlying st = some (.slice E.e)) (hk : Try.prog.cellsOf E.e = E.k) [Inhabited α] {H : Type} {enc : TypeId × Value → H} {W : World} {fuel : Nat} {cs : List Value} {x : DataW H × List MemPlace}
    (hrd : ∀ {fuel : Nat} {cs : List Value} {x : DataW H × List MemPlace}, DataW.trod enc Try.prog W 0 (fun _ => true) true fuel E.e cs = some x → ∃ a, cs = E.c a ∧ Q a)
    (hf : DataW.trod enc Try.prog W 0 (fun _ => true) true fuel st cs = some x) :
    ∃ (A : Option Addr) (cap : Nat) (l : List α), cs = [.slice A l.length cap] ∧ (E.Sl W A l ∧ (A = none → cap = 0) ∧ l.length ≤ cap) ∧ ∀ p ∈ l, Q p := by
  rcases open_slice hu hf with ⟨hcs, hx⟩ | ⟨a, len, cap, m, n, D, Pls, hcs, _, hle, hm, hmm, hx, hi⟩
  · exact ⟨none, 0, [], hcs, ⟨El.Sl.nil W none, fun _ => rfl, Nat.le_refl _⟩, fun p hp => by cases hp⟩
  · simp only [if_true] at hmm
    have hv : ∀ i, i < m → ∃ p : α, Q p ∧ W.cells? 0 (a.add (i * E.k)) E.k = some (E.c p) := by
      intro i him
      obtain ⟨cs', h1, h2⟩ := hi i him
      rw [hk] at h1
      obtain ⟨p, rfl, hw⟩ := hrd h2
      exact ⟨p, hw, h1⟩
    obtain ⟨f, hf2⟩ := choose_lt hv
    have hlen : ((List.range len).map f).length = len := by simp
    refine ⟨some a, cap, (List.range len).map f, by rw [hlen]; exact hcs, ⟨fun h => ?_, (fun e => by cases e), by rw [hlen]; exact hle⟩, fun p hp => ?_⟩
    · rw [hlen] at h
      obtain ⟨bb, off, spot⟩ := a
      have cell : ∀ i, i < len → ∀ j v, (E.c (f i))[j]? = some v → W.cell? (((⟨bb, off, spot⟩ : Addr).add (i * E.k)).add j) = some v := by
        intro i hil j v hv
        obtain ⟨_, _, hcell⟩ := World.cells?_some (hf2 i (by omega)).2
        have hj : j < E.k := by have := (List.getElem?_eq_some_iff.1 hv).1; rw [E.len] at this; exact this
        have := hcell j hj
        rw [this]; exact hv
      have h00 : ∃ v, (E.c (f 0))[0]? = some v := ⟨(E.c (f 0))[0]'(by rw [E.len]; exact E.pos), List.getElem?_eq_getElem _⟩
      obtain ⟨v0, hv0⟩ := h00
      have hspot : spot = none := by
        have := cell 0 h 0 _ hv0
        simpa [Addr.add] using World.cell?_spot this
      subst hspot
      refine ⟨bb, off, rfl, (by have h9 := block_lt_of_cell (cell 0 h 0 _ hv0); rw [add_plain, add_plain] at h9; exact h9), fun i hil => ?_⟩
      have hil' : i < len := by rw [hlen] at hil; exact hil
      have he : ((List.range len).map f)[i] = f i := by simp
      rw [he]
      intro j u hu
      have := cell i hil' j u hu
      rwa [add_plain, add_plain] at this
    · obtain ⟨i, hi2, rfl⟩ := List.mem_map.1 hp
      exact (hf2 i (by have := List.mem_range.1 hi2; omega)).1
end Go.Proofs.Ytbfebcifmneliaa

/- Entries and counts among the arguments, opened. -/
namespace Go.Proofs.Ytbfebcifmneliaa
open Go.ChangeShapes Go.WideShapes Go.ChangeAt Go.RowKit Go.Deep Nam Cod

theorem cellsEn : Try.prog.cellsOf 37 = 10 := by kernel_rfl
set_option maxRecDepth 100000 in
theorem read_en {H : Type} {enc : TypeId × Value → H} {W : World} {base : Nat} {sp : Nat → Bool} {held : Bool} {fuel : Nat} {cs : List Value} {x : DataW H × List MemPlace}
    (h : DataW.trod enc Try.prog W base sp held fuel 37 cs = some x) : ∃ e : En, cs = enE.c e ∧ EnW e ∧ e.o.s.size ≤ maxLen := by
  obtain ⟨xs, n, _, _, hl, hlen, hf⟩ := DataW.trod_struct Try.underlying37 h
  have hl10 : cs.length = 10 := hl.trans cellsEn
  have hl4 : xs.length = 4 := hlen
  match cs, hl10, xs, hl4 with
  | [c0, c1, c2, c3, c4, c5, c6, c7, c8, c9], _, [y0, y1, y2, y3], _ =>
    have h0 := hf 0 _ rfl
    have h1 := hf 1 _ rfl
    have h2 := hf 2 _ rfl
    have h3 := hf 3 _ rfl
    simp [cells25, cells3] at h0 h1 h2 h3
    obtain ⟨k, e0, _, w0⟩ := DataW.trod_int Try.underlying3 h0
    obtain ⟨d, e1, _, w1⟩ := DataW.trod_int Try.underlying3 h1
    obtain ⟨i, e2, _, w2⟩ := DataW.trod_int Try.underlying3 h2
    obtain ⟨C, D, I, M, K, U, s, e3, w3, ws⟩ := read_op h3
    simp at e0 e1 e2 e3
    obtain ⟨e3, e4, e5, e6, e7, e8, e9⟩ := e3
    subst e0 e1 e2 e3 e4 e5 e6 e7 e8 e9
    have b0 := bounds_i64 w0
    have b1 := bounds_i64 w1
    have b2 := bounds_i64 w2
    have g0 : i64 k := by unfold i64; omega
    have g1 : i64 d := by unfold i64; omega
    have g2 : i64 i := by unfold i64; omega
    exact ⟨⟨k, d, i, ⟨C, D, I, M, K, U, s⟩⟩, rfl, ⟨g0, g1, g2, w3⟩, ws⟩
set_option maxRecDepth 100000 in
theorem open_en {H : Type} {enc : TypeId × Value → H} {W : World} {base : Nat} {sp : Nat → Bool} {v : Value} {d : DataW H} {ps : List MemPlace}
    (hv : Value.okWide Try.prog W .any base 37 v) (h : DataW.Trod enc Try.prog W 0 sp true 37 v d ps) : ∃ e : En, v = .agg #[.int .i64 e.k, .int .i64 e.d, .int .i64 e.i, .int .i64 e.o.C, .int .i64 e.o.D, .int .i64 e.o.I, .int .i64 e.o.M, .int .i64 e.o.K, .int .i64 e.o.U, .string e.o.s] ∧ EnW e ∧ e.o.s.size ≤ maxLen := by
  obtain ⟨cs, rfl, _⟩ := okWide_struct Try.underlying37 hv
  obtain ⟨fuel, hf⟩ := h
  obtain ⟨e, he, hw, hs⟩ := read_en hf
  refine ⟨e, ?_, hw, hs⟩
  obtain ⟨l⟩ := cs
  simp [Value.cells] at he
  rw [he]
  rfl
instance : Inhabited En := ⟨zeroEn⟩
instance : Inhabited Cn := ⟨zeroCn⟩
set_option maxRecDepth 100000 in
theorem open_ens {H : Type} {enc : TypeId × Value → H} {W : World} {base : Nat} {v : Value} {d : DataW H} {ps : List MemPlace}
    (hv : Value.okWide Try.prog W .any base 25 v) (h : DataW.Trod enc Try.prog W 0 (fun _ => true) true 25 v d ps) :
    ∃ (A : Option Addr) (cap : Nat) (l : List En), v = .slice A l.length cap ∧ enE.Sl W A l ∧ l.length ≤ cap ∧ (A = none → cap = 0) ∧ ∀ e ∈ l, EnW e ∧ e.o.s.size ≤ maxLen :=
  open_list enE (fun e => EnW e ∧ e.o.s.size ≤ maxLen) Try.underlying25 cellsEn (fun h => read_en h) hv h
end Go.Proofs.Ytbfebcifmneliaa

/- Streams of entries as values: what is pushed, taken, settled, told, read. No call in it. -/
namespace Go.Proofs.Ytbfebcifmneliaa
open Go.RowKit Nam Cod

structure Sm where
  s : Int
  t : Int
  p : Int
  es : List En
def zeroSm : Sm := ⟨0, 0, 0, []⟩
def pushS (x : Sm) (e : En) : Sm := ⟨x.s, x.t, x.p + 1, x.es ++ [e]⟩
def takeS : Sm → Int → List En → Sm
  | x, _, [] => x
  | x, st, e :: l => takeS (if st = x.p + 1 then pushS x e else x) (st + 1) l
def settleS (x : Sm) (place t : Int) : Sm :=
  if place ≤ x.s then ⟨x.s, max x.t t, x.p, x.es⟩ else if x.p ≤ place then ⟨place, max x.t t, place, []⟩ else ⟨place, max x.t t, x.p, x.es.drop (place - x.s).toNat⟩
def fromS (x : Sm) (place most : Int) : List En := (x.es.drop (max place x.s - x.s).toNat).take most.toNat
def fromP (x : Sm) (place : Int) : Int := max place x.s + 1
def lowF (n : Int) (e : En) : Int := if e.k = 1 then min n e.o.C else n
def lowS (x : Sm) : Int := x.es.foldl lowF 1099511627777
def stmBytes (x : Sm) : ByteArray := bytesOf x.s ++ bytesOf x.t ++ bytesOf x.p ++ ecat x.es
structure SmR (x : Sm) : Prop where
  s0 : 0 ≤ x.s
  t0 : 0 ≤ x.t
  tm : x.t ≤ 1099511627776
  sp : x.s ≤ x.p
  pm : x.p ≤ 1099511627776
  len : (x.es.length : Int) = x.p - x.s
  ok : ∀ e ∈ x.es, entB e = true

theorem zeroSm_R : SmR zeroSm := ⟨by decide, by decide, by decide, by decide, by decide, by decide, fun e h => by cases h⟩
theorem pushS_R {x : Sm} (h : SmR x) {e : En} (he : entB e = true) (hp : x.p < 1099511627776) : SmR (pushS x e) where
  s0 := h.s0
  t0 := h.t0
  tm := h.tm
  sp := by have := h.sp; show x.s ≤ x.p + 1; omega
  pm := by show x.p + 1 ≤ _; omega
  len := by
    show ((x.es ++ [e]).length : Int) = x.p + 1 - x.s
    rw [List.length_append, List.length_singleton]
    have := h.len; omega
  ok := fun y hy => by
    rcases List.mem_append.1 hy with hy | hy
    · exact h.ok y hy
    · rw [List.mem_singleton] at hy; rw [hy]; exact he
theorem takeS_R : ∀ (l : List En) {x : Sm} (st : Int), SmR x → (∀ e ∈ l, entB e = true) → x.p + l.length ≤ 1099511627776 → SmR (takeS x st l)
  | [], x, st, h, _, _ => h
  | e :: l, x, st, h, ho, hp => by
    rw [takeS]
    rw [List.length_cons] at hp
    by_cases c : st = x.p + 1
    · rw [if_pos c]
      exact takeS_R l (st + 1) (pushS_R h (ho e (by simp)) (by omega)) (fun y hy => ho y (by simp [hy])) (by show x.p + 1 + _ ≤ _; omega)
    · rw [if_neg c]
      exact takeS_R l (st + 1) h (fun y hy => ho y (by simp [hy])) (by omega)
/-- What the places ahead of the one behind Pos have is passed over, the rest goes behind. -/
theorem takeS_eq : ∀ (l : List En) (x : Sm) (st : Int), takeS x st l = if st ≤ x.p + 1 then ⟨x.s, x.t, max x.p (st + l.length - 1), x.es ++ l.drop (x.p + 1 - st).toNat⟩ else x
  | [], x, st => by
    rw [takeS]
    by_cases c : st ≤ x.p + 1
    · rw [if_pos c]
      obtain ⟨s, t, p, es⟩ := x
      simp only [List.drop_nil, List.append_nil, List.length_nil]
      congr 1
      dsimp only at c
      omega
    · rw [if_neg c]
  | e :: l, x, st => by
    rw [takeS, takeS_eq l]
    by_cases c : st = x.p + 1
    · rw [if_pos c, if_pos (by show st + 1 ≤ x.p + 1 + 1; omega), if_pos (by omega)]
      unfold pushS
      dsimp only
      have h1 : (x.p + 1 + 1 - (st + 1)).toNat = 0 := by omega
      have h2 : (x.p + 1 - st).toNat = 0 := by omega
      rw [h1, h2, List.drop_zero, List.drop_zero, List.append_assoc, List.length_cons]
      congr 1
      omega
    · rw [if_neg c]
      by_cases c2 : st ≤ x.p + 1
      · rw [if_pos (by omega), if_pos c2]
        have h1 : (x.p + 1 - st).toNat = (x.p + 1 - (st + 1)).toNat + 1 := by omega
        rw [h1, List.drop_succ_cons, List.length_cons]
        congr 1
        omega
      · rw [if_neg (by omega), if_neg c2]
theorem takeS_p (l : List En) (x : Sm) (st : Int) : (takeS x st l).p ≤ x.p + l.length ∧ x.p ≤ (takeS x st l).p ∧ (takeS x st l).es.length ≤ x.es.length + l.length ∧ (takeS x st l).s = x.s ∧ (takeS x st l).t = x.t := by
  rw [takeS_eq]
  by_cases c : st ≤ x.p + 1
  · rw [if_pos c]
    dsimp only
    rw [List.length_append, List.length_drop]
    refine ⟨by omega, by omega, by omega, rfl, rfl⟩
  · rw [if_neg c]
    refine ⟨by omega, by omega, by omega, rfl, rfl⟩
theorem settleS_R {x : Sm} (h : SmR x) {place t : Int} (hp : place ≤ 1099511627776) (ht : t ≤ 1099511627776) : SmR (settleS x place t) := by
  have h0 := h.s0
  have h1 := h.t0
  have h2 := h.tm
  have h3 := h.sp
  have h4 := h.pm
  have h5 := h.len
  unfold settleS
  by_cases c : place ≤ x.s
  · rw [if_pos c]
    exact ⟨h0, by show 0 ≤ max x.t t; omega, by show max x.t t ≤ _; omega, h3, h4, h5, h.ok⟩
  · rw [if_neg c]
    by_cases c2 : x.p ≤ place
    · rw [if_pos c2]
      exact ⟨by show 0 ≤ place; omega, by show 0 ≤ max x.t t; omega, by show max x.t t ≤ _; omega, Int.le_refl _, hp, by show ((0 : Nat) : Int) = place - place; omega, fun e he => by cases he⟩
    · rw [if_neg c2]
      refine ⟨by show 0 ≤ place; omega, by show 0 ≤ max x.t t; omega, by show max x.t t ≤ _; omega, by show place ≤ x.p; omega, h4, ?_, fun e he => h.ok e (List.mem_of_mem_drop he)⟩
      show ((x.es.drop (place - x.s).toNat).length : Int) = x.p - place
      rw [List.length_drop]; omega
theorem settleS_es (x : Sm) (place t : Int) : ∃ n, (settleS x place t).es = x.es.drop n := by
  unfold settleS
  by_cases c : place ≤ x.s
  · rw [if_pos c]; exact ⟨0, rfl⟩
  · rw [if_neg c]
    by_cases c2 : x.p ≤ place
    · rw [if_pos c2]; exact ⟨x.es.length, by rw [List.drop_length]⟩
    · rw [if_neg c2]; exact ⟨_, rfl⟩

/-- The least counter. -/
theorem low_fold : ∀ (l : List En) (n : Int), l.foldl lowF n ≤ n ∧ (∀ e ∈ l, e.k = 1 → l.foldl lowF n ≤ e.o.C) ∧ (l.foldl lowF n = n ∨ ∃ e ∈ l, e.k = 1 ∧ l.foldl lowF n = e.o.C)
  | [], n => ⟨Int.le_refl _, (fun e h => by cases h), Or.inl rfl⟩
  | x :: l, n => by
    obtain ⟨h1, h2, h3⟩ := low_fold l (lowF n x)
    rw [List.foldl_cons]
    have h4 : lowF n x ≤ n ∧ (x.k = 1 → lowF n x ≤ x.o.C) ∧ (lowF n x = n ∨ x.k = 1 ∧ lowF n x = x.o.C) := by
      unfold lowF
      by_cases c : x.k = 1
      · rw [if_pos c]
        refine ⟨by omega, fun _ => by omega, ?_⟩
        rcases Int.le_total n x.o.C with h | h
        · left; omega
        · right; exact ⟨c, by omega⟩
      · rw [if_neg c]
        exact ⟨Int.le_refl _, fun h => absurd h c, Or.inl rfl⟩
    refine ⟨by omega, fun e he hk => ?_, ?_⟩
    · rcases List.mem_cons.1 he with rfl | he
      · have := h4.2.1 hk; omega
      · exact h2 e he hk
    · rcases h3 with h3 | ⟨e, he, hk, h3⟩
      · rcases h4.2.2 with h5 | ⟨hk, h5⟩
        · left; omega
        · right; exact ⟨x, by simp, hk, by omega⟩
      · right; exact ⟨e, by simp [he], hk, h3⟩
theorem low_drop (l : List En) (n : Nat) (m : Int) : l.foldl lowF m ≤ (l.drop n).foldl lowF m := by
  rcases (low_fold (l.drop n) m).2.2 with h | ⟨e, he, hk, h⟩
  · rw [h]; exact (low_fold l m).1
  · rw [h]; exact (low_fold l m).2.1 e (List.mem_of_mem_drop he) hk
theorem lowS_settle (x : Sm) (place t : Int) : lowS x ≤ lowS (settleS x place t) := by
  obtain ⟨n, h⟩ := settleS_es x place t
  unfold lowS
  rw [h]; exact low_drop _ _ _

/-- Read from bytes. -/
def isEnts (s : ByteArray) : Nat → Nat → Option (List En × Nat)
  | 0, p => some ([], p)
  | n + 1, p => (isEnt s p false).bind fun a => (isEnts s n a.2).bind fun b => some (a.1 :: b.1, b.2)
def lifeS (a b c : Int) : Bool := decide (0 ≤ a ∧ a ≤ c ∧ c ≤ 1099511627776 ∧ c - a ≤ 4096 ∧ 0 ≤ b ∧ b ≤ 1099511627776)
def isStm (s : ByteArray) (p : Nat) (bad : Bool) : Option (Sm × Nat) :=
  (isNum s p bad).bind fun a => (isNum s a.2 false).bind fun b => (isNum s b.2 false).bind fun c =>
    if lifeS a.1 b.1 c.1 = true then (isEnts s (c.1 - a.1).toNat c.2).bind fun d => some (⟨a.1, b.1, c.1, d.1⟩, d.2) else none
theorem ents_there : ∀ (l : List En) (A Z : ByteArray), (∀ e ∈ l, entB e = true) → isEnts (A ++ (ecat l ++ Z)) l.length A.size = some (l, A.size + (ecat l).size)
  | [], A, Z, _ => by
    show some (([] : List En), A.size) = some ([], A.size + (⟨#[]⟩ : ByteArray).size)
    rfl
  | e :: l, A, Z, h => by
    rw [List.length_cons, isEnts, ecat]
    have h1 := ent_there A (ecat l ++ Z) e (h e (by simp))
    rw [show A ++ (entBytes e ++ ecat l ++ Z) = A ++ (entBytes e ++ (ecat l ++ Z)) by simp only [ByteArray.append_assoc], h1, Option.bind_some]
    have h2 := ents_there l (A ++ entBytes e) Z (fun y hy => h y (by simp [hy]))
    rw [ByteArray.append_assoc, ByteArray.size_append] at h2
    dsimp only
    rw [h2, Option.bind_some, ByteArray.size_append, Nat.add_assoc]
theorem ents_bytes : ∀ (n : Nat) (s : ByteArray) (p : Nat) (l : List En) (q : Nat), isEnts s n p = some (l, q) → l.length = n ∧ (∀ e ∈ l, entB e = true) ∧ (L s).drop p = L (ecat l) ++ (L s).drop q
  | 0, s, p, l, q, h => by
    injection h with h
    injection h with h1 h2
    subst h1 h2
    exact ⟨rfl, (fun e he => by cases he), rfl⟩
  | n + 1, s, p, l, q, h => by
    rw [isEnts] at h
    cases ha : isEnt s p false with
    | none => rw [ha] at h; cases h
    | some a =>
      obtain ⟨e, qe⟩ := a
      rw [ha, Option.bind_some] at h
      dsimp only at h
      cases hb : isEnts s n qe with
      | none => rw [hb] at h; cases h
      | some b =>
        obtain ⟨r, qr⟩ := b
        rw [hb, Option.bind_some] at h
        injection h with h
        injection h with h1 h2
        subst h1 h2
        obtain ⟨g1, g2⟩ := ent_bytes ha
        obtain ⟨g3, g4, g5⟩ := ents_bytes n s qe r _ hb
        refine ⟨by rw [List.length_cons, g3], fun y hy => ?_, ?_⟩
        · rcases List.mem_cons.1 hy with rfl | hy
          · exact g1
          · exact g4 y hy
        · rw [g2, g5, ecat, L_app, List.append_assoc]
theorem lifeS_iff {a b c : Int} : lifeS a b c = true ↔ 0 ≤ a ∧ a ≤ c ∧ c ≤ 1099511627776 ∧ c - a ≤ 4096 ∧ 0 ≤ b ∧ b ≤ 1099511627776 := decide_eq_true_iff
theorem stm_bytes {s : ByteArray} {p : Nat} {bad : Bool} {x : Sm} {q : Nat} (h : isStm s p bad = some (x, q)) : SmR x ∧ x.es.length ≤ 4096 ∧ (L s).drop p = L (stmBytes x) ++ (L s).drop q := by
  unfold isStm at h
  cases ha : isNum s p bad with
  | none => rw [ha] at h; cases h
  | some a =>
    obtain ⟨a, qa⟩ := a
    rw [ha, Option.bind_some] at h
    dsimp only at h
    cases hb : isNum s qa false with
    | none => rw [hb] at h; cases h
    | some b =>
      obtain ⟨b, qb⟩ := b
      rw [hb, Option.bind_some] at h
      dsimp only at h
      cases hc : isNum s qb false with
      | none => rw [hc] at h; cases h
      | some c =>
        obtain ⟨c, qc⟩ := c
        rw [hc, Option.bind_some] at h
        dsimp only at h
        by_cases hl : lifeS a b c = true
        · rw [if_pos hl] at h
          cases hd : isEnts s (c - a).toNat qc with
          | none => rw [hd] at h; cases h
          | some d =>
            obtain ⟨l, qd⟩ := d
            rw [hd, Option.bind_some] at h
            injection h with h
            injection h with h1 h2
            subst h1 h2
            obtain ⟨g1, g2, g3⟩ := ents_bytes _ _ _ _ _ hd
            rw [lifeS_iff] at hl
            refine ⟨⟨hl.1, hl.2.2.2.2.1, hl.2.2.2.2.2, hl.2.1, hl.2.2.1, by dsimp only; omega, g2⟩, by dsimp only; omega, ?_⟩
            unfold stmBytes
            dsimp only
            rw [num_bytes ha, num_bytes hb, num_bytes hc, g3]
            simp only [L_app, List.append_assoc]
        · rw [if_neg hl] at h; cases h
theorem stm_self {x : Sm} (h : SmR x) (hl : x.es.length ≤ 4096) : isStm (stmBytes x) 0 false = some (x, (stmBytes x).size) := by
  obtain ⟨a, b, c, l⟩ := x
  obtain ⟨h0, h1, h2, h3, h4, h5, h6⟩ := h
  dsimp only at h0 h1 h2 h3 h4 h5 h6 hl
  have hE : stmBytes ⟨a, b, c, l⟩ = bytesOf a ++ bytesOf b ++ bytesOf c ++ ecat l := rfl
  have e0 : ∀ B : ByteArray, (⟨#[]⟩ : ByteArray) ++ B = B := fun B => L_inj (by rw [L_app]; simp [L])
  have e1 : ∀ B : ByteArray, B ++ (⟨#[]⟩ : ByteArray) = B := fun B => L_inj (by rw [L_app]; simp [L])
  have hA := num_at (stmBytes ⟨a, b, c, l⟩) ⟨#[]⟩ (bytesOf b ++ bytesOf c ++ ecat l) a 0 (by rw [hE, e0]; simp only [ByteArray.append_assoc]) rfl (i64_of (by omega))
  have hB := num_at (stmBytes ⟨a, b, c, l⟩) (bytesOf a) (bytesOf c ++ ecat l) b (0 + (bytesOf a).size) (by rw [hE]; simp only [ByteArray.append_assoc]) (by omega) (i64_of (by omega))
  have hC := num_at (stmBytes ⟨a, b, c, l⟩) (bytesOf a ++ bytesOf b) (ecat l) c (0 + (bytesOf a).size + (bytesOf b).size) (by rw [hE]; simp only [ByteArray.append_assoc]) (by rw [ByteArray.size_append]; omega) (i64_of (by omega))
  have hD := ents_there l (bytesOf a ++ bytesOf b ++ bytesOf c) ⟨#[]⟩ h6
  rw [e1, ← hE, ByteArray.size_append, ByteArray.size_append] at hD
  have hn : (c - a).toNat = l.length := by omega
  have hL : lifeS a b c = true := lifeS_iff.2 ⟨h0, h3, h4, by omega, h1, h2⟩
  unfold isStm
  rw [hA, Option.bind_some]
  dsimp only
  rw [hB, Option.bind_some]
  dsimp only
  rw [hC, Option.bind_some]
  dsimp only
  rw [if_pos hL, hn, Nat.zero_add, hD, Option.bind_some, hE]
  simp only [ByteArray.size_append]

/-- Steps. -/
def someE (n : Int) : En := ⟨2, n % 8, 1 + n % 100, zeroMv⟩
theorem someE_ok {n : Int} : entB (someE n) = true := by
  unfold entB someE
  rw [if_neg (show ¬ (2 : Int) = 1 by decide), if_pos (Or.inl rfl), Bool.and_eq_true]
  refine ⟨decide_eq_true ?_, show zeroB zeroMv = true by decide⟩
  dsimp only
  omega
structure Ac where
  k : Int
  a : Int
  b : Int
  es : List En
def stepS (x : Sm) (c : Ac) : Sm := if c.k = 0 then pushS x (someE x.p) else if c.k = 1 then takeS x c.a c.es else if c.k = 2 then settleS x c.a c.b else x
def fineC (c : Ac) : Prop := c.es.length ≤ 20 ∧ -1000 ≤ c.a ∧ c.a ≤ 1000000 ∧ 0 ≤ c.b ∧ c.b ≤ 1000000 ∧ ∀ e ∈ c.es, entB e = true
def fineL (l : List Ac) : Prop := l.length ≤ 60 ∧ ∀ c ∈ l, fineC c
def playS (l : List Ac) : Sm := l.foldl stepS zeroSm
/-- How far a stream can have come behind k steps. -/
structure SmK (k : Nat) (x : Sm) : Prop extends SmR x where
  pk : x.p ≤ 1000000 + 20 * k
  tk : x.t ≤ 1000000
  lk : x.es.length ≤ 20 * k
theorem zeroSm_K : SmK 0 zeroSm := { toSmR := zeroSm_R, pk := by decide, tk := by decide, lk := by decide }
theorem stepS_K {k : Nat} {x : Sm} {c : Ac} (hk : k < 1000) (h : SmK k x) (hc : fineC c) : SmK (k + 1) (stepS x c) := by
  obtain ⟨c1, c2, c3, c4, c5, c6⟩ := hc
  have h1 := h.pk
  have h2 := h.tk
  have h3 := h.lk
  unfold stepS
  by_cases e0 : c.k = 0
  · rw [if_pos e0]
    refine { toSmR := pushS_R h.toSmR someE_ok (by omega), pk := ?_, tk := h2, lk := ?_ }
    · show x.p + 1 ≤ _; omega
    · show (x.es ++ [_]).length ≤ _
      rw [List.length_append, List.length_singleton]; omega
  · rw [if_neg e0]
    by_cases e1 : c.k = 1
    · rw [if_pos e1]
      obtain ⟨g1, g2, g3, g4, g5⟩ := takeS_p c.es x c.a
      exact { toSmR := takeS_R c.es c.a h.toSmR c6 (by omega), pk := by omega, tk := by omega, lk := by omega }
    · rw [if_neg e1]
      by_cases e2 : c.k = 2
      · rw [if_pos e2]
        refine { toSmR := settleS_R h.toSmR (by omega) (by omega), pk := ?_, tk := ?_, lk := ?_ }
        · unfold settleS
          split
          · show x.p ≤ _; omega
          · split
            · show c.a ≤ _; omega
            · show x.p ≤ _; omega
        · unfold settleS
          split
          · show max x.t c.b ≤ _; omega
          · split
            · show max x.t c.b ≤ _; omega
            · show max x.t c.b ≤ _; omega
        · obtain ⟨n, hn⟩ := settleS_es x c.a c.b
          rw [hn, List.length_drop]; omega
      · rw [if_neg e2]
        exact { toSmR := h.toSmR, pk := by omega, tk := h2, lk := by omega }
theorem playS_next (l : List Ac) (k : Nat) (h : k < l.length) : playS (l.take (k + 1)) = stepS (playS (l.take k)) l[k] := by
  unfold playS
  rw [List.take_succ_eq_append_getElem h, List.foldl_append]; rfl
theorem playS_K {l : List Ac} (hf : fineL l) : ∀ k, k ≤ l.length → SmK k (playS (l.take k))
  | 0, _ => by rw [List.take_zero]; exact zeroSm_K
  | k + 1, h => by
    rw [playS_next l k (by omega)]
    exact stepS_K (by have := hf.1; omega) (playS_K hf k (by omega)) (hf.2 _ (List.getElem_mem _))

/-- A stream's beginning: its first m entries. -/
def partS (x : Sm) (m : Nat) : Sm := ⟨x.s, x.t, x.s + m, x.es.take m⟩
theorem partS_start {x : Sm} (h : SmR x) : settleS zeroSm x.s x.t = partS x 0 := by
  have h0 := h.s0
  have h1 := h.t0
  unfold settleS partS
  rw [List.take_zero]
  by_cases c : x.s ≤ zeroSm.s
  · rw [if_pos c]
    have c : x.s ≤ 0 := c
    have e : x.s = 0 := by omega
    show (⟨0, max 0 x.t, 0, []⟩ : Sm) = ⟨x.s, x.t, x.s + ((0 : Nat) : Int), []⟩
    rw [e]; congr 1; omega
  · rw [if_neg c]
    have c : ¬ x.s ≤ 0 := c
    rw [if_pos (by show (0 : Int) ≤ x.s; omega)]
    show (⟨x.s, max 0 x.t, x.s, []⟩ : Sm) = ⟨x.s, x.t, x.s + ((0 : Nat) : Int), []⟩
    congr 1 <;> omega
theorem partS_take {x : Sm} {m w : Nat} (hm : m ≤ x.es.length) : takeS (partS x m) (x.s + m + 1) ((x.es.drop m).take w) = partS x (min (m + w) x.es.length) := by
  rw [takeS_eq, if_pos (by show x.s + m + 1 ≤ x.s + m + 1; omega)]
  unfold partS
  dsimp only
  have h1 : (x.s + (m : Int) + 1 - (x.s + m + 1)).toNat = 0 := by omega
  have h2 : ((x.es.drop m).take w).length = min w (x.es.length - m) := by rw [List.length_take, List.length_drop]
  have h3 : x.es.take m ++ (x.es.drop m).take w = x.es.take (min (m + w) x.es.length) := by
    rw [← List.take_add]
    rcases Nat.le_total (m + w) x.es.length with h | h
    · rw [Nat.min_eq_left h]
    · rw [Nat.min_eq_right h, List.take_of_length_le h, List.take_length]
  rw [h1, List.drop_zero, h2, h3]
  congr 1
  omega
theorem partS_all {x : Sm} (h : SmR x) : partS x x.es.length = x := by
  obtain ⟨s, t, p, es⟩ := x
  have := h.len
  unfold partS
  dsimp only at this ⊢
  rw [List.take_length]
  congr 1
  omega
theorem partS_from {x : Sm} (m : Nat) (w : Int) : fromS x (x.s + m) w = (x.es.drop m).take w.toNat ∧ fromP x (x.s + m) = x.s + m + 1 := by
  unfold fromS fromP
  have h1 : (max (x.s + (m : Int)) x.s - x.s).toNat = m := by omega
  rw [h1]
  exact ⟨rfl, by omega⟩
theorem from_all {x : Sm} (h : SmR x) {n : Int} (hn : (x.es.length : Int) ≤ n) : fromS x x.s n = x.es := by
  unfold fromS
  have h1 : (max x.s x.s - x.s).toNat = 0 := by omega
  rw [h1, List.drop_zero, List.take_of_length_le (by omega)]
end Go.Proofs.Ytbfebcifmneliaa

/- A region that draws its order, whose last operation writes what others of it read: S need not hold behind that one. No function of the program in it. -/
namespace Go.Proofs.Ytbfebcifmneliaa
open Go.RowKit

section
variable {P : Program} {ops : Array Oper} {Q : Exit → Act → World → Prop} {md : Region.Mode} {S : World → Prop} {n : Nat}

/-- Whatever order is picked from here on; S holds behind every operation till number n comes. -/
def anyG (P : Program) (md : Region.Mode) (ops : Array Oper) (Q : Exit → Act → World → Prop) (S : World → Prop) (n : Nat) : Nat → Array Bool → Act → World → Prop
  | 0, listed, a, w => Region.ready md ops listed = [] ∧ Q .normal a w
  | fuel + 1, listed, a, w =>
    (Region.ready md ops listed = [] → Q .normal a w) ∧
    ∀ i ∈ Region.ready md ops listed, wpOp P ops Q i (fun b v => ((listed.setIfInBounds i true).getD n true = false → S v) ∧ anyG P md ops Q S n fuel (listed.setIfInBounds i true) b v) a w
theorem anyG_any : ∀ (fuel : Nat) (listed : Array Bool) (a : Act) (w : World), anyG P md ops Q S n fuel listed a w → wpAny P md ops Q fuel listed a w
  | 0, _, _, _, h => h
  | fuel + 1, _, _, _, h => ⟨h.1, fun i hi => wpOp_mono (fun b v hb => anyG_any fuel _ b v hb.2) (h.2 i hi)⟩
theorem region_anyG {id : Nat} {a : Act} {w : World} (n : Nat) (hm : P.follows .mixedOrders = true) (h : anyG P .any ops Q S n ops.size (Array.replicate ops.size false) a w.drew) : (Code.region id ops true).wp P Q a w :=
  wp_region_any hm (anyG_any _ _ _ _ h)

/-- Number n waits for number i. -/
def waitsB (md : Region.Mode) (ops : Array Oper) (n i : Nat) : Bool := match ops[n]? with
  | none => false
  | some o => o.after.any fun e => Region.binds md e && e.on == i
theorem waits_spec {listed : Array Bool} {i : Nat} (hl : waitsB md ops n i = true) (hr : n ∈ Region.ready md ops listed) : listed.getD i false = true := by
  obtain ⟨_, o, ho, hall⟩ := mem_ready.1 hr
  unfold waitsB at hl
  rw [ho] at hl
  obtain ⟨e, he, hb⟩ := Array.any_eq_true'.1 hl
  rw [Bool.and_eq_true, beq_iff_eq] at hb
  have := hall e he hb.1
  rw [hb.2] at this; exact this
theorem getD_false {listed : Array Bool} {i : Nat} (h : listed.getD i true = false) : listed.getD i false = false := by
  rcases Nat.lt_or_ge i listed.size with h1 | h1
  · simp [h1] at h ⊢; exact h
  · simp [Array.getElem?_eq_none h1] at h
theorem getD_here (listed : Array Bool) (n : Nat) : (listed.setIfInBounds n true).getD n true = true := by
  rcases Nat.lt_or_ge n listed.size with h1 | h1
  · simp [h1]
  · have h2 : (listed.setIfInBounds n true).size ≤ n := by simpa using h1
    simp [Array.getElem?_eq_none h2]

theorem anyG_first {i : Nat} {oi : Oper} {v : Value} (hi : ops[i]? = some oi) (hin : i ≠ n) (hsel : ∀ (j : Nat) (o : Oper) cs b, ops[j]? = some o → o.op ≠ .select cs b)
    (hQ : ∀ c a w, Q (.panic c) (a.put oi.dst v) w → Q (.panic c) a w) (T : World → Prop) (hT : waitsB md ops n i = true ∨ ∀ w, T w) :
    ∀ (fuel : Nat) (listed : Array Bool) (a : Act) (w : World),
      (∀ j oj, ops[j]? = some oj → j ≠ i → listed.getD j true = false → (∀ e ∈ oj.after, Region.binds md e = true → e.on ≠ i) → oi.apart ops oj = true) →
      i ∈ Region.ready md ops listed → YieldsIf P ops T oi v a → T w → (listed.getD n true = false → S w) → ((∀ w, T w) ∨ (listed.getD n true = false ∧ ∀ w, S w → T w)) →
      anyG P md ops Q S n fuel (listed.setIfInBounds i true) (a.put oi.dst v) w → anyG P md ops Q S n (fuel + 1) listed a w := by
  intro fuel
  induction fuel with
  | zero =>
    intro listed a w _ hr hy hTw hS _ H
    refine ⟨fun h => (by rw [h] at hr; cases hr), fun j hj => ?_⟩
    by_cases hji : j = i
    · subst hji; exact hy.wpOp hi hTw ⟨fun h => hS (by rw [getD_set_ne true hin] at h; exact h), H⟩
    · have h0 := ready_mono hj hji
      rw [H.1] at h0
      cases h0
  | succ fuel ih =>
    intro listed a w hfree hr hy hTw hS hTT H
    refine ⟨fun h => (by rw [h] at hr; cases hr), fun j hj => ?_⟩
    by_cases hji : j = i
    · subst hji; exact hy.wpOp hi hTw ⟨fun h => hS (by rw [getD_set_ne true hin] at h; exact h), H⟩
    · have hunf := getD_false (mem_ready.1 hr).1
      have h1 := H.2 j (ready_mono hj hji)
      obtain ⟨hjun, oj, hoj, hall⟩ := mem_ready.1 hj
      have hnot : ∀ e ∈ oj.after, Region.binds md e = true → e.on ≠ i := fun e he hb heq => by
        have h2 := hall e he hb
        rw [heq, hunf] at h2; cases h2
      have h2 := wpOp_putIf hoj (hfree j oj hoj hji hjun hnot) (fun cs b => hsel i oi cs b hi) (fun cs b => hsel j oj cs b hoj) hQ hy h1
      refine wpOp_mono (fun b u h3 => ?_) h2
      have hSu : (listed.setIfInBounds j true).getD n true = false → S u := fun h => h3.2.1 (by
        rw [Array.setIfInBounds_comm _ _ (Ne.symm hji), getD_set_ne true hin]; exact h)
      have hTu : T u ∧ ((∀ w, T w) ∨ ((listed.setIfInBounds j true).getD n true = false ∧ ∀ w, S w → T w)) := by
        rcases hTT with hTT | ⟨hun, hST⟩
        · exact ⟨hTT u, Or.inl hTT⟩
        · by_cases hjn : j = n
          · rcases hT with hT | hT
            · subst hjn
              have h4 := waits_spec hT hj
              rw [hunf] at h4; cases h4
            · exact ⟨hT u, Or.inl hT⟩
          · have hn2 : (listed.setIfInBounds j true).getD n true = false := by rw [getD_set_ne true hjn]; exact hun
            exact ⟨hST u (hSu hn2), Or.inr ⟨hn2, hST⟩⟩
      refine ⟨hSu, ih (listed.setIfInBounds j true) b u (fun k ok hk hki hku hno => hfree k ok hk hki ?_ hno) (ready_mono hr (Ne.symm hji)) h3.1 hTu.1 hSu hTu.2 ?_⟩
      · by_cases hjk : j = k
        · subst hjk; exact hjun
        · rw [getD_set_ne true hjk] at hku; exact hku
      · rw [Array.setIfInBounds_comm _ _ hji]
        exact h3.2.2
/-- What yields in whatever world meets S, and for what number n waits. -/
theorem anyG_take {i : Nat} {oi : Oper} {v : Value} {fuel : Nat} {listed : Array Bool} {a : Act} {w : World} (hi : ops.toList[i]? = some oi)
    (hl : waitsB md ops n i = true) (hin : (i == n || listed.getD n true) = false) (hs : Region.noSelect ops = true) (hf : Region.free md ops listed i = true) (hr : (Region.ready md ops listed).contains i = true)
    (hQ : ∀ c a w, Q (.panic c) (a.put oi.dst v) w → Q (.panic c) a w) (hy : YieldsIf P ops S oi v a) (hS : S w)
    (h : anyG P md ops Q S n fuel (listed.setIfInBounds i true) (a.put oi.dst v) w) : anyG P md ops Q S n (fuel + 1) listed a w := by
  have hi : ops[i]? = some oi := by rw [← Array.getElem?_toList]; exact hi
  rw [Bool.or_eq_false_iff] at hin
  exact anyG_first hi (by simpa using hin.1) (Region.noSelect_spec hs) hQ S (Or.inl hl) fuel listed a w (Region.free_spec hi hf) (by simpa using hr) hy hS (fun _ => hS) (Or.inr ⟨hin.2, fun _ h => h⟩) h
/-- What yields in every world: behind number n, too. -/
theorem anyG_plain {i : Nat} {oi : Oper} {v : Value} {fuel : Nat} {listed : Array Bool} {a : Act} {w : World} (hi : ops.toList[i]? = some oi)
    (hin : (i == n) = false) (hs : Region.noSelect ops = true) (hf : Region.free md ops listed i = true) (hr : (Region.ready md ops listed).contains i = true)
    (hQ : ∀ c a w, Q (.panic c) (a.put oi.dst v) w → Q (.panic c) a w) (hy : Yields P ops oi v a) (hS : listed.getD n true = false → S w)
    (h : anyG P md ops Q S n fuel (listed.setIfInBounds i true) (a.put oi.dst v) w) : anyG P md ops Q S n (fuel + 1) listed a w := by
  have hi : ops[i]? = some oi := by rw [← Array.getElem?_toList]; exact hi
  exact anyG_first hi (by simpa using hin) (Region.noSelect_spec hs) hQ (fun _ => True) (Or.inr fun _ => trivial) fuel listed a w (Region.free_spec hi hf) (by simpa using hr) hy.yieldsIf trivial hS (Or.inl fun _ => trivial) h
theorem anyG_done {listed : Array Bool} {a : Act} {w : World} (hr : Region.ready md ops listed = []) (h : Q .normal a w) : ∀ fuel, anyG P md ops Q S n fuel listed a w
  | 0 => ⟨hr, h⟩
  | _ + 1 => ⟨fun _ => h, by rw [hr]; simp⟩
/-- One of these comes next. -/
def AllG (P : Program) (md : Region.Mode) (ops : Array Oper) (Q : Exit → Act → World → Prop) (S : World → Prop) (n fuel : Nat) (listed : Array Bool) (a : Act) (w : World) (rs : List Nat) : Prop :=
  ∀ i ∈ rs, wpOp P ops Q i (fun b v => ((listed.setIfInBounds i true).getD n true = false → S v) ∧ anyG P md ops Q S n fuel (listed.setIfInBounds i true) b v) a w
theorem anyG_step {rs : List Nat} {fuel : Nat} {listed : Array Bool} {a : Act} {w : World} (hr : Region.ready md ops listed = rs) (hne : rs ≠ []) (h : AllG P md ops Q S n fuel listed a w rs) : anyG P md ops Q S n (fuel + 1) listed a w :=
  ⟨fun h0 => absurd (hr ▸ h0) hne, hr ▸ h⟩
theorem AllG.nil {fuel : Nat} {listed : Array Bool} {a : Act} {w : World} : AllG P md ops Q S n fuel listed a w [] := fun _ h => by cases h
/-- An operation of the middle: S anew. -/
theorem AllG.cons {fuel : Nat} {listed : Array Bool} {a : Act} {w : World} {i : Nat} {o : Oper} {rs : List Nat} (ho : ops.toList[i]? = some o)
    (h : ∀ K : Act → World → Prop, RowKit.Hid (∀ b v, S v → anyG P md ops Q S n fuel (listed.setIfInBounds i true) b v → K b v) → if Region.wanted o (yielded ops a.tmps) = true then Oper.wp P o a w K Q else K (a.put o.dst undef) w)
    (hs : AllG P md ops Q S n fuel listed a w rs) : AllG P md ops Q S n fuel listed a w (i :: rs) := fun j hj => by
  rcases List.mem_cons.1 hj with rfl | hj
  · exact wpOp_step (by rw [← Array.getElem?_toList]; exact ho) (fun K hK => h K (Lib.hid fun b v hS hW => hK b v ⟨fun _ => hS, hW⟩))
  · exact hs j hj
/-- The last one: nothing is asked behind it. -/
theorem AllG.last {fuel : Nat} {listed : Array Bool} {a : Act} {w : World} {o : Oper} (ho : ops.toList[n]? = some o)
    (h : ∀ K : Act → World → Prop, RowKit.Hid (∀ b v, anyG P md ops Q S n fuel (listed.setIfInBounds n true) b v → K b v) → if Region.wanted o (yielded ops a.tmps) = true then Oper.wp P o a w K Q else K (a.put o.dst undef) w) :
    AllG P md ops Q S n fuel listed a w [n] := fun j hj => by
  rw [List.mem_singleton] at hj
  subst hj
  exact wpOp_step (by rw [← Array.getElem?_toList]; exact ho) (fun K hK => h K (Lib.hid fun b v hW => hK b v ⟨fun e => (by rw [getD_here] at e; cases e), hW⟩))
end
end Go.Proofs.Ytbfebcifmneliaa

/- Streams in memory; what the program's functions shall answer (StreamCalls); the document's Same, Lowest, Settle. -/
namespace Go.Proofs.Ytbfebcifmneliaa
open Go.RowKit Nam Cod

structure Sw where
  A : Option Addr
  c : Nat
  x : Sm
def smE : El Sw where
  e := 27
  k := 4
  c y := [.int .i64 y.x.s, .int .i64 y.x.t, .int .i64 y.x.p, .slice y.A y.x.es.length y.c]
  len _ := rfl
  one p u h := by
    simp only [List.mem_cons, List.not_mem_nil, or_false] at h
    rcases h with rfl | rfl | rfl | rfl <;> rfl
  pos := by decide
theorem smRow : smE.Row Try.prog := ⟨by kernel_rfl, _, Try.underlying27, rfl⟩
theorem smIn4 {w : World} {b : Nat} {y : Sw} (h : smE.In w b y) : w.cell? ⟨b, 0, none⟩ = some (.int .i64 y.x.s) ∧ w.cell? ⟨b, 1, none⟩ = some (.int .i64 y.x.t) ∧ w.cell? ⟨b, 2, none⟩ = some (.int .i64 y.x.p) ∧ w.cell? ⟨b, 3, none⟩ = some (.slice y.A y.x.es.length y.c) :=
  ⟨h.cell 0, h.cell 1, h.cell 2, h.cell 3⟩
def Sw.ok (y : Sw) (w : World) : Prop := SlV enE w y.A y.c y.x.es
theorem Sw.ok.below {y : Sw} {W w : World} (h : y.ok W) (hb : Below W.heap.size W w) : y.ok w := SlV.below h hb
def zeroSw : Sw := ⟨none, 0, zeroSm⟩
/-- A stream whose numbers stay far from where they wrap. -/
structure SmN (x : Sm) : Prop where
  s : -1000000000000000 ≤ x.s ∧ x.s ≤ 1000000000000000
  t : -1000000000000000 ≤ x.t ∧ x.t ≤ 1000000000000000
  p : -1000000000000000 ≤ x.p ∧ x.p ≤ 1000000000000000
  l : x.es.length ≤ 50000
theorem SmK.n {k : Nat} {x : Sm} (h : SmK k x) (hk : k ≤ 1000) : SmN x := by
  have h1 := h.s0
  have h2 := h.t0
  have h3 := h.sp
  have h4 := h.pk
  have h5 := h.tk
  have h6 := h.lk
  exact ⟨by omega, by omega, by omega, by omega⟩
structure StreamCalls : Prop where
  right : ∀ (y : Sw) (w : World), SmN y.x → SmR y.x → y.ok w → (∀ e ∈ y.x.es, EnW e ∧ e.o.s.size ≤ 1000000) → Calls Try.prog 20 #[.agg #[.int .i64 y.x.s, .int .i64 y.x.t, .int .i64 y.x.p, .slice y.A y.x.es.length y.c]] w fun r w' => r = .returned (.bool true) ∧ Below w.heap.size w w'
  push : ∀ (y : Sw) (e : En) (w : World), SmN y.x → y.ok w → Calls Try.prog 28 #[.agg #[.int .i64 y.x.s, .int .i64 y.x.t, .int .i64 y.x.p, .slice y.A y.x.es.length y.c], .agg #[.int .i64 e.k, .int .i64 e.d, .int .i64 e.i, .int .i64 e.o.C, .int .i64 e.o.D, .int .i64 e.o.I, .int .i64 e.o.M, .int .i64 e.o.K, .int .i64 e.o.U, .string e.o.s]] w fun r w' => ∃ z : Sw, r = .returned (.agg #[.int .i64 z.x.s, .int .i64 z.x.t, .int .i64 z.x.p, .slice z.A z.x.es.length z.c]) ∧ z.x = pushS y.x e ∧ z.ok w' ∧ Below w.heap.size w w'
  take : ∀ (y : Sw) (st : Int) (A : Option Addr) (c : Nat) (l : List En) (w : World), SmN y.x → (-1000000000000000 ≤ st ∧ st ≤ 1000000000000000) → l.length ≤ 5000 → y.ok w → SlV enE w A c l → Calls Try.prog 26 #[.agg #[.int .i64 y.x.s, .int .i64 y.x.t, .int .i64 y.x.p, .slice y.A y.x.es.length y.c], .int .i64 st, .slice A l.length c] w fun r w' => ∃ z : Sw, r = .returned (.agg #[.int .i64 z.x.s, .int .i64 z.x.t, .int .i64 z.x.p, .slice z.A z.x.es.length z.c]) ∧ z.x = takeS y.x st l ∧ z.ok w' ∧ Below w.heap.size w w'
  settle : ∀ (y : Sw) (place t : Int) (w : World), SmN y.x → SmR y.x → (-1000000000000000 ≤ place ∧ place ≤ 1000000000000000) → y.ok w → Calls Try.prog 25 #[.agg #[.int .i64 y.x.s, .int .i64 y.x.t, .int .i64 y.x.p, .slice y.A y.x.es.length y.c], .int .i64 place, .int .i64 t] w fun r w' => ∃ z : Sw, r = .returned (.agg #[.int .i64 z.x.s, .int .i64 z.x.t, .int .i64 z.x.p, .slice z.A z.x.es.length z.c]) ∧ z.x = settleS y.x place t ∧ z.ok w' ∧ Below w.heap.size w w'
  from_ : ∀ (y : Sw) (place most : Int) (w : World), SmN y.x → SmR y.x → (-1000000000000000 ≤ place ∧ place ≤ 1000000000000000) → y.ok w → Calls Try.prog 14 #[.agg #[.int .i64 y.x.s, .int .i64 y.x.t, .int .i64 y.x.p, .slice y.A y.x.es.length y.c], .int .i64 place, .int .i64 most] w fun r w' => ∃ (A : Option Addr) (c : Nat), r = .returned (.tuple #[.int .i64 (fromP y.x place), .slice A (fromS y.x place most).length c]) ∧ SlV enE w' A c (fromS y.x place most) ∧ Below w.heap.size w w'
  lowest : ∀ (y : Sw) (w : World), SmN y.x → y.ok w → Calls Try.prog 18 #[.agg #[.int .i64 y.x.s, .int .i64 y.x.t, .int .i64 y.x.p, .slice y.A y.x.es.length y.c]] w fun r w' => r = .returned (.int .i64 (lowS y.x)) ∧ Below w.heap.size w w'
  print : ∀ (y : Sw) (w : World), SmN y.x → y.ok w → (∀ e ∈ y.x.es, EnW e ∧ e.o.s.size ≤ 1000) → Calls Try.prog 21 #[.agg #[.int .i64 y.x.s, .int .i64 y.x.t, .int .i64 y.x.p, .slice y.A y.x.es.length y.c]] w fun r w' => r = .returned (.string (stmBytes y.x)) ∧ Below w.heap.size w w'

theorem enIdxH {A : Option Addr} {b off len cap k : Nat} (hA : A = some ⟨b, off, none⟩) (h : k < len) : ∀ w, (Instr.indexAt 25 (.slice A len cap) (.int .i64 k)).run Try.prog w = .ok (.pointer (some ⟨b, off + k * 10, none⟩)) w := fun w => by
  subst hA
  have h2 : (k : Int) < (len : Int) := by omega
  go_simp
theorem enAtH {w : World} {b o : Nat} {x : En} (h : enE.At w b o x) : w.cell? ⟨b, o, none⟩ = some (.int .i64 x.k) ∧ w.cell? ⟨b, o + 1, none⟩ = some (.int .i64 x.d) ∧ w.cell? ⟨b, o + 2, none⟩ = some (.int .i64 x.i) ∧ w.cell? ⟨b, o + 3, none⟩ = some (.int .i64 x.o.C) ∧ w.cell? ⟨b, o + 4, none⟩ = some (.int .i64 x.o.D) ∧ w.cell? ⟨b, o + 5, none⟩ = some (.int .i64 x.o.I) ∧ w.cell? ⟨b, o + 6, none⟩ = some (.int .i64 x.o.M) ∧ w.cell? ⟨b, o + 7, none⟩ = some (.int .i64 x.o.K) ∧ w.cell? ⟨b, o + 8, none⟩ = some (.int .i64 x.o.U) ∧ w.cell? ⟨b, o + 9, none⟩ = some (.string x.o.s) :=
  ⟨h 0 _ rfl, h 1 _ rfl, h 2 _ rfl, h 3 _ rfl, h 4 _ rfl, h 5 _ rfl, h 6 _ rfl, h 7 _ rfl, h 8 _ rfl, h 9 _ rfl⟩

set_option maxRecDepth 100000 in
set_option maxHeartbeats 2000000 in
/-- Same, of equal lists of entries. -/
theorem refSameEn_any (A B : Option Addr) (cA cB : Nat) (l : List En) (w : World) (hA : enE.Sl w A l) (hB : enE.Sl w B l) (hl : l.length ≤ 100000) : Calls Try.prog 17 #[.slice A l.length cA, .slice B l.length cB] w fun e w' => e = .returned (.bool true) ∧ Below w.heap.size w w' := by
  go_enter Try.func17, Try.ntmps17
  go_wp2_with fail
  go_loopw [5] (fun y wr => ∃ k : Nat, k ≤ l.length ∧ y = .int .i64 k ∧ Below w.heap.size w wr) (fun y _ => l.length - (intOf y).toNat)
  case atStart => exact ⟨0, Nat.zero_le _, rfl, Below.refl _ _⟩
  case round =>
    obtain ⟨k, hk, rfl, hN⟩ := hrel
    by_cases hkl : k < l.length
    · obtain ⟨b, off, eA, hbw, hc⟩ := hA (by omega)
      obtain ⟨b', off', eB, hbw', hc'⟩ := hB (by omega)
      have hx := enIdxH (cap := cA) eA hkl
      have hy := enIdxH (cap := cB) eB hkl
      have hat : enE.At wr b (off + k * 10) l[k] := (hc k hkl).below hN hbw
      have hat' : enE.At wr b' (off' + k * 10) l[k] := (hc' k hkl).below hN hbw'
      obtain ⟨s0, s1, s2, s3, s4, s5, s6, s7, s8, s9⟩ := enAtH hat
      obtain ⟨t0, t1, t2, t3, t4, t5, t6, t7, t8, t9⟩ := enAtH hat'
      generalize l[k] = x at *
      clear hc hc' hat hat' eA eB
      go_wp2_with fail
      go_quiet (fail)
      go_wp2_with fail
      exact ⟨⟨k + 1, by omega, by go_num, below_drew hN nq⟩, by simp [intOf]; omega⟩
    · obtain rfl : k = l.length := by omega
      go_wp2_with fail
      go_ret
      exact ⟨rfl, hN⟩

set_option maxRecDepth 100000 in
set_option maxHeartbeats 2000000 in
/-- Same, of equal streams. -/
theorem refSameSm_any (y z : Sw) (w : World) (hx : z.x = y.x) (hy : y.ok w) (hz : z.ok w) (hl : y.x.es.length ≤ 100000) : Calls Try.prog 16 #[.agg #[.int .i64 y.x.s, .int .i64 y.x.t, .int .i64 y.x.p, .slice y.A y.x.es.length y.c], .agg #[.int .i64 z.x.s, .int .i64 z.x.t, .int .i64 z.x.p, .slice z.A z.x.es.length z.c]] w fun e w' => e = .returned (.bool true) ∧ Below w.heap.size w w' := by
  obtain ⟨A, c, x⟩ := y
  obtain ⟨A2, c2, x2⟩ := z
  dsimp only at hx hl ⊢
  subst hx
  have hP : smE.In ((w.alloc (.cells #[.int .i64 (⟨A, c, x2⟩ : Sw).x.s, .int .i64 (⟨A, c, x2⟩ : Sw).x.t, .int .i64 (⟨A, c, x2⟩ : Sw).x.p, .slice (⟨A, c, x2⟩ : Sw).A (⟨A, c, x2⟩ : Sw).x.es.length (⟨A, c, x2⟩ : Sw).c] 27)).alloc (.cells #[.int .i64 (⟨A2, c2, x2⟩ : Sw).x.s, .int .i64 (⟨A2, c2, x2⟩ : Sw).x.t, .int .i64 (⟨A2, c2, x2⟩ : Sw).x.p, .slice (⟨A2, c2, x2⟩ : Sw).A (⟨A2, c2, x2⟩ : Sw).x.es.length (⟨A2, c2, x2⟩ : Sw).c] 27)) w.heap.size ⟨A, c, x2⟩ := (El.In.new (E := smE) w ⟨A, c, x2⟩ _ rfl).alloc _
  have hQ : smE.In ((w.alloc (.cells #[.int .i64 (⟨A, c, x2⟩ : Sw).x.s, .int .i64 (⟨A, c, x2⟩ : Sw).x.t, .int .i64 (⟨A, c, x2⟩ : Sw).x.p, .slice (⟨A, c, x2⟩ : Sw).A (⟨A, c, x2⟩ : Sw).x.es.length (⟨A, c, x2⟩ : Sw).c] 27)).alloc (.cells #[.int .i64 (⟨A2, c2, x2⟩ : Sw).x.s, .int .i64 (⟨A2, c2, x2⟩ : Sw).x.t, .int .i64 (⟨A2, c2, x2⟩ : Sw).x.p, .slice (⟨A2, c2, x2⟩ : Sw).A (⟨A2, c2, x2⟩ : Sw).x.es.length (⟨A2, c2, x2⟩ : Sw).c] 27)) (w.alloc (.cells #[.int .i64 (⟨A, c, x2⟩ : Sw).x.s, .int .i64 (⟨A, c, x2⟩ : Sw).x.t, .int .i64 (⟨A, c, x2⟩ : Sw).x.p, .slice (⟨A, c, x2⟩ : Sw).A (⟨A, c, x2⟩ : Sw).x.es.length (⟨A, c, x2⟩ : Sw).c] 27)).heap.size ⟨A2, c2, x2⟩ := El.In.new (E := smE) (w.alloc (.cells #[.int .i64 (⟨A, c, x2⟩ : Sw).x.s, .int .i64 (⟨A, c, x2⟩ : Sw).x.t, .int .i64 (⟨A, c, x2⟩ : Sw).x.p, .slice (⟨A, c, x2⟩ : Sw).A (⟨A, c, x2⟩ : Sw).x.es.length (⟨A, c, x2⟩ : Sw).c] 27)) ⟨A2, c2, x2⟩ _ rfl
  rw [alloc_size] at hQ
  have hB := below_alloc (below_alloc (Below.refl w.heap.size w) (.cells #[.int .i64 (⟨A, c, x2⟩ : Sw).x.s, .int .i64 (⟨A, c, x2⟩ : Sw).x.t, .int .i64 (⟨A, c, x2⟩ : Sw).x.p, .slice (⟨A, c, x2⟩ : Sw).A (⟨A, c, x2⟩ : Sw).x.es.length (⟨A, c, x2⟩ : Sw).c] 27)) (.cells #[.int .i64 (⟨A2, c2, x2⟩ : Sw).x.s, .int .i64 (⟨A2, c2, x2⟩ : Sw).x.t, .int .i64 (⟨A2, c2, x2⟩ : Sw).x.p, .slice (⟨A2, c2, x2⟩ : Sw).A (⟨A2, c2, x2⟩ : Sw).x.es.length (⟨A2, c2, x2⟩ : Sw).c] 27)
  have HS := Lib.hid (fun (wx : World) (hb : Below w.heap.size w wx) => refSameEn_any A A2 c c2 x2.es wx (hy.1.below hb) (hz.1.below hb) hl)
  obtain ⟨p0, p1, p2, p3⟩ := smIn4 hP
  obtain ⟨q0, q1, q2, q3⟩ := smIn4 hQ
  dsimp only at p0 p1 p2 p3 q0 q1 q2 q3 hB
  clear hy hz hP hQ
  go_enter Try.func16, Try.ntmps16
  go_wp2_with fail
  refine (HS.out _ hB).mono ?_
  rintro r w1 ⟨rfl, hb1⟩
  go_wp2_with fail
  go_ret
  exact ⟨rfl, hB.trans (hb1.mono hB.size)⟩

set_option maxRecDepth 100000 in
set_option maxHeartbeats 2000000 in
theorem refSmLowest_any (y : Sw) (w : World) (hy : y.ok w) (hl : y.x.es.length ≤ 100000) : Calls Try.prog 19 #[.agg #[.int .i64 y.x.s, .int .i64 y.x.t, .int .i64 y.x.p, .slice y.A y.x.es.length y.c]] w fun r w' => r = .returned (.int .i64 (lowS y.x)) ∧ Below w.heap.size w w' := by
  have hP : smE.In (w.alloc (.cells #[.int .i64 y.x.s, .int .i64 y.x.t, .int .i64 y.x.p, .slice y.A y.x.es.length y.c] 27)) w.heap.size y := El.In.new (E := smE) w y _ rfl
  have hB := below_alloc (Below.refl w.heap.size w) (.cells #[.int .i64 y.x.s, .int .i64 y.x.t, .int .i64 y.x.p, .slice y.A y.x.es.length y.c] 27)
  have HY := Lib.hid hy
  obtain ⟨p0, p1, p2, p3⟩ := smIn4 hP
  go_enter Try.func19, Try.ntmps19
  go_wp2_with fail
  clear p0 p1 p2 p3 hy
  generalize w.alloc (.cells #[.int .i64 y.x.s, .int .i64 y.x.t, .int .i64 y.x.p, .slice y.A y.x.es.length y.c] 27) = W0 at *
  obtain ⟨n1, hn1⟩ : ∃ n, w.heap.size = n := ⟨_, rfl⟩
  rw [hn1] at hP ⊢
  clear hn1
  go_loopw [3, 4] (fun v i wr => ∃ k : Nat, k ≤ y.x.es.length ∧ i = .int .i64 k ∧ v = .int .i64 ((y.x.es.take k).foldl lowF 1099511627777) ∧ smE.In wr n1 y ∧ Below w.heap.size w wr) (fun _ i _ => y.x.es.length - (intOf i).toNat)
  case atStart => exact ⟨0, Nat.zero_le _, rfl, rfl, hP, hB⟩
  case round =>
    clear hP hB
    obtain ⟨k, hk, rfl, rfl, hP, hB⟩ := hrel
    obtain ⟨p0, p1, p2, p3⟩ := smIn4 hP
    by_cases hkl : k < y.x.es.length
    · obtain ⟨b, off, eA, hbw, hc⟩ := HY.out.1 (by omega)
      have hx := enIdxH (cap := y.c) eA hkl
      have hat : enE.At wr b (off + k * 10) y.x.es[k] := (hc k hkl).below hB hbw
      obtain ⟨s0, s1, s2, s3, s4, s5, s6, s7, s8, s9⟩ := enAtH hat
      have hn : (y.x.es.take (k + 1)).foldl lowF 1099511627777 = lowF ((y.x.es.take k).foldl lowF 1099511627777) y.x.es[k] := by
        rw [List.take_succ_eq_append_getElem hkl, List.foldl_append]; rfl
      generalize y.x.es[k] = x at *
      generalize (y.x.es.take k).foldl lowF 1099511627777 = m at *
      have HN := Lib.hid hn
      clear hc hat eA hn
      by_cases h1 : x.k = 1
      · have e1 : (x.k == 1) = true := beq_iff_eq.2 h1
        have hv : lowF m x = min m x.o.C := by unfold lowF; rw [if_pos h1]
        have HV := Lib.hid hv
        clear hv h1
        rcases Int.lt_or_le x.o.C m with hmd | hmd
        · go_wp2_with fail
          exact ⟨⟨k + 1, by omega, by go_num, by rw [HN.out, HV.out, show min m x.o.C = x.o.C by omega], hP, hB⟩, by simp [intOf]; omega⟩
        · go_wp2_with fail
          exact ⟨⟨k + 1, by omega, by go_num, by rw [HN.out, HV.out, show min m x.o.C = m by omega], hP, hB⟩, by simp [intOf]; omega⟩
      · have e1 : (x.k == 1) = false := beq_eq_false_iff_ne.2 h1
        have hv : lowF m x = m := by unfold lowF; rw [if_neg h1]
        have HV := Lib.hid hv
        clear hv h1
        go_wp2_with fail
        exact ⟨⟨k + 1, by omega, by go_num, by rw [HN.out, HV.out], hP, hB⟩, by simp [intOf]; omega⟩
    · obtain rfl : k = y.x.es.length := by omega
      have hv : (y.x.es.take y.x.es.length).foldl lowF 1099511627777 = lowS y.x := by rw [List.take_length]; rfl
      rw [hv]
      clear hv
      go_wp2_with fail
      go_ret
      exact ⟨rfl, hB⟩
end Go.Proofs.Ytbfebcifmneliaa

/- The document's Push, Take, Settle. -/
namespace Go.Proofs.Ytbfebcifmneliaa
open Go.RowKit Nam Cod

def PsS (n1 n2 : Nat) (y : Sw) (e : En) (w : World) : Prop := (w.cell? ⟨n1, 3, none⟩ = some (.slice y.A y.x.es.length y.c) ∧ w.frozen? ⟨n1, 3, none⟩ = false) ∧ (w.cell? ⟨n2, 0, none⟩ = some (.int .i64 e.k) ∧ w.cell? ⟨n2, 1, none⟩ = some (.int .i64 e.d) ∧ w.cell? ⟨n2, 2, none⟩ = some (.int .i64 e.i) ∧ w.cell? ⟨n2, 3, none⟩ = some (.int .i64 e.o.C) ∧ w.cell? ⟨n2, 4, none⟩ = some (.int .i64 e.o.D) ∧ w.cell? ⟨n2, 5, none⟩ = some (.int .i64 e.o.I) ∧ w.cell? ⟨n2, 6, none⟩ = some (.int .i64 e.o.M) ∧ w.cell? ⟨n2, 7, none⟩ = some (.int .i64 e.o.K) ∧ w.cell? ⟨n2, 8, none⟩ = some (.int .i64 e.o.U) ∧ w.cell? ⟨n2, 9, none⟩ = some (.string e.o.s))
theorem psS {n1 n2 : Nat} {y : Sw} {e : En} {w : World} (hP : smE.In w n1 y) (hE : enE.In w n2 e) : PsS n1 n2 y e w := ⟨⟨(smIn4 hP).2.2.2, hP.frozen 3⟩, enIn10 hE⟩
set_option maxRecDepth 100000 in
set_option maxHeartbeats 4000000 in
theorem refSmPush_any (y : Sw) (e : En) (w : World) (hp : -4611686018427387904 ≤ y.x.p ∧ y.x.p ≤ 4611686018427387904) (hl : y.x.es.length ≤ 90000) (hok : y.ok w) : Calls Try.prog 10 #[.agg #[.int .i64 y.x.s, .int .i64 y.x.t, .int .i64 y.x.p, .slice y.A y.x.es.length y.c], .agg #[.int .i64 e.k, .int .i64 e.d, .int .i64 e.i, .int .i64 e.o.C, .int .i64 e.o.D, .int .i64 e.o.I, .int .i64 e.o.M, .int .i64 e.o.K, .int .i64 e.o.U, .string e.o.s]] w fun r w' => ∃ z : Sw, r = .returned (.agg #[.int .i64 z.x.s, .int .i64 z.x.t, .int .i64 z.x.p, .slice z.A z.x.es.length z.c]) ∧ z.x = pushS y.x e ∧ z.ok w' ∧ Below w.heap.size w w' := by
  have hP : smE.In (((w.alloc (.cells #[.int .i64 y.x.s, .int .i64 y.x.t, .int .i64 y.x.p, .slice y.A y.x.es.length y.c] 27)).alloc (.cells #[.int .i64 e.k, .int .i64 e.d, .int .i64 e.i, .int .i64 e.o.C, .int .i64 e.o.D, .int .i64 e.o.I, .int .i64 e.o.M, .int .i64 e.o.K, .int .i64 e.o.U, .string e.o.s] 37)).alloc (.cells #[.int .i64 0, .int .i64 0, .int .i64 0, .slice none 0 0] 27)) w.heap.size y := ((El.In.new (E := smE) w y _ rfl).alloc _).alloc _
  have hE : enE.In (((w.alloc (.cells #[.int .i64 y.x.s, .int .i64 y.x.t, .int .i64 y.x.p, .slice y.A y.x.es.length y.c] 27)).alloc (.cells #[.int .i64 e.k, .int .i64 e.d, .int .i64 e.i, .int .i64 e.o.C, .int .i64 e.o.D, .int .i64 e.o.I, .int .i64 e.o.M, .int .i64 e.o.K, .int .i64 e.o.U, .string e.o.s] 37)).alloc (.cells #[.int .i64 0, .int .i64 0, .int .i64 0, .slice none 0 0] 27)) (w.alloc (.cells #[.int .i64 y.x.s, .int .i64 y.x.t, .int .i64 y.x.p, .slice y.A y.x.es.length y.c] 27)).heap.size e := (El.In.new (E := enE) (w.alloc (.cells #[.int .i64 y.x.s, .int .i64 y.x.t, .int .i64 y.x.p, .slice y.A y.x.es.length y.c] 27)) e _ rfl).alloc _
  have hZ : smE.In (((w.alloc (.cells #[.int .i64 y.x.s, .int .i64 y.x.t, .int .i64 y.x.p, .slice y.A y.x.es.length y.c] 27)).alloc (.cells #[.int .i64 e.k, .int .i64 e.d, .int .i64 e.i, .int .i64 e.o.C, .int .i64 e.o.D, .int .i64 e.o.I, .int .i64 e.o.M, .int .i64 e.o.K, .int .i64 e.o.U, .string e.o.s] 37)).alloc (.cells #[.int .i64 0, .int .i64 0, .int .i64 0, .slice none 0 0] 27)) ((w.alloc (.cells #[.int .i64 y.x.s, .int .i64 y.x.t, .int .i64 y.x.p, .slice y.A y.x.es.length y.c] 27)).alloc (.cells #[.int .i64 e.k, .int .i64 e.d, .int .i64 e.i, .int .i64 e.o.C, .int .i64 e.o.D, .int .i64 e.o.I, .int .i64 e.o.M, .int .i64 e.o.K, .int .i64 e.o.U, .string e.o.s] 37)).heap.size zeroSw := El.In.new (E := smE) ((w.alloc (.cells #[.int .i64 y.x.s, .int .i64 y.x.t, .int .i64 y.x.p, .slice y.A y.x.es.length y.c] 27)).alloc (.cells #[.int .i64 e.k, .int .i64 e.d, .int .i64 e.i, .int .i64 e.o.C, .int .i64 e.o.D, .int .i64 e.o.I, .int .i64 e.o.M, .int .i64 e.o.K, .int .i64 e.o.U, .string e.o.s] 37)) zeroSw _ rfl
  rw [alloc_size] at hE
  rw [alloc_size, alloc_size] at hZ
  have hB := below_alloc (below_alloc (below_alloc (Below.refl w.heap.size w) (.cells #[.int .i64 y.x.s, .int .i64 y.x.t, .int .i64 y.x.p, .slice y.A y.x.es.length y.c] 27)) (.cells #[.int .i64 e.k, .int .i64 e.d, .int .i64 e.i, .int .i64 e.o.C, .int .i64 e.o.D, .int .i64 e.o.I, .int .i64 e.o.M, .int .i64 e.o.K, .int .i64 e.o.U, .string e.o.s] 37)) (.cells #[.int .i64 0, .int .i64 0, .int .i64 0, .slice none 0 0] 27)
  have hT := hok.1.below hB
  go_enter Try.func10, Try.ntmps10
  go_wp2_with fail
  generalize ((w.alloc (.cells #[.int .i64 y.x.s, .int .i64 y.x.t, .int .i64 y.x.p, .slice y.A y.x.es.length y.c] 27)).alloc (.cells #[.int .i64 e.k, .int .i64 e.d, .int .i64 e.i, .int .i64 e.o.C, .int .i64 e.o.D, .int .i64 e.o.I, .int .i64 e.o.M, .int .i64 e.o.K, .int .i64 e.o.U, .string e.o.s] 37)).alloc (.cells #[.int .i64 0, .int .i64 0, .int .i64 0, .slice none 0 0] 27) = V at *
  obtain ⟨n3, h3⟩ : ∃ n, w.heap.size + 1 + 1 = n := ⟨_, rfl⟩
  obtain ⟨n2, h2⟩ : ∃ n, w.heap.size + 1 = n := ⟨_, rfl⟩
  obtain ⟨n1, h1⟩ : ∃ n, w.heap.size = n := ⟨_, rfl⟩
  rw [h3] at hZ ⊢
  rw [h2] at hE ⊢
  rw [h1] at hP ⊢
  have hwn1 : w.heap.size ≤ n1 := by omega
  have hwn3 : w.heap.size ≤ n3 := by omega
  have hn12 : n1 < n2 := by omega
  have hn23 : n2 < n3 := by omega
  clear h1 h2 h3
  obtain ⟨B, hBe⟩ : ∃ B, V.heap.size = B := ⟨_, rfl⟩
  have hBV : B ≤ V.drew.heap.size := Nat.le_of_eq hBe.symm
  have tV : enE.SlB B V.drew y.A y.x.es := El.SlB.of hT (Nat.le_of_eq hBe)
  have hwB : w.heap.size ≤ B := by have := hB.size; omega
  have hnB : n3 < B := by have := hZ.lt; omega
  replace hP : smE.In V.drew n1 y := hP
  replace hE : enE.In V.drew n2 e := hE
  replace hZ : smE.In V.drew n3 zeroSw := hZ
  replace hB := hB.drew
  clear hT hBe
  refine region_anyG (S := PsS n1 n2 y e) 8 (by kernel_rfl) ?_
  generalize V.drew = U at *
  have hS : PsS n1 n2 y e U := psS hP hE
  refine anyG_take (i := 1) (v := .pointer (some ⟨n1, 3, none⟩)) rfl (by kernel_rfl) (by kernel_rfl) (by kernel_rfl) (by kernel_rfl) (by kernel_rfl) (fun _ _ _ h => h) (Or.inl ⟨by rfl, fun w' hSw => by (obtain ⟨⟨s, sf⟩, s0, s1, s2, s3, s4, s5, s6, s7, s8, s9⟩ := hSw; go_simp)⟩) hS ?_
  try simp only [Act.put, List.setIfInBounds_toArray, List.set_cons_zero, List.set_cons_succ]
  refine anyG_take (i := 2) (v := .slice y.A y.x.es.length y.c) rfl (by kernel_rfl) (by kernel_rfl) (by kernel_rfl) (by kernel_rfl) (by kernel_rfl) (fun _ _ _ h => h) (Or.inl ⟨by rfl, fun w' hSw => by (obtain ⟨⟨s, sf⟩, s0, s1, s2, s3, s4, s5, s6, s7, s8, s9⟩ := hSw; go_simp)⟩) hS ?_
  try simp only [Act.put, List.setIfInBounds_toArray, List.set_cons_zero, List.set_cons_succ]
  refine anyG_take (i := 4) (v := .agg #[.int .i64 e.k, .int .i64 e.d, .int .i64 e.i, .int .i64 e.o.C, .int .i64 e.o.D, .int .i64 e.o.I, .int .i64 e.o.M, .int .i64 e.o.K, .int .i64 e.o.U, .string e.o.s]) rfl (by kernel_rfl) (by kernel_rfl) (by kernel_rfl) (by kernel_rfl) (by kernel_rfl) (fun _ _ _ h => h) (Or.inl ⟨by rfl, fun w' hSw => by (obtain ⟨⟨s, sf⟩, s0, s1, s2, s3, s4, s5, s6, s7, s8, s9⟩ := hSw; go_simp)⟩) hS ?_
  try simp only [Act.put, List.setIfInBounds_toArray, List.set_cons_zero, List.set_cons_succ]
  refine anyG_step (rs := [0, 5]) (by kernel_rfl) (by simp) ?_
  refine AllG.cons rfl (fun K hK => ?_) (AllG.cons rfl (fun K hK => ?_) AllG.nil)
  · skip
    have hal := below_alloc (Below.refl (U).heap.size U) (.cells #[] 37)
    have hg := World.grownBy_alloc U (.cells #[] 37) none
    have hO0 : enE.Own ((U).alloc (.cells #[] 37)) B (.slice (some ⟨(U).heap.size, 0, none⟩) 0 0) [] := El.Own.empty (E := enE) U B hBV
    replace tV := tV.keep hg (fun k e => by cases e)
    replace hP := hP.below hal
    replace hE := hE.below hal
    replace hZ := hZ.below hal
    replace hB := hB.trans (hal.mono hB.size)
    replace hBV := Nat.le_trans hBV hal.size
    try replace he := he.below hal
    try have hn60 := Nat.ne_of_lt hn6
    clear hg
    try clear hS
    go_simp
    refine hK.out _ _ (psS hP hE : PsS n1 n2 y e _) ?_
    try simp only [Act.put, List.setIfInBounds_toArray, List.set_cons_zero, List.set_cons_succ]
    clear hK
    clear hal
    generalize (U).alloc (.cells #[] 37) = U1 at *
    generalize (U).heap.size = n0 at *
    refine anyG_step (rs := [3, 5]) (by kernel_rfl) (by simp) ?_
    refine AllG.cons rfl (fun K hK => ?_) (AllG.cons rfl (fun K hK => ?_) AllG.nil)
    · skip
      refine El.step_app enInn rfl (.tmp 5) (.tmp 7) rfl B _ [] y.x.es rfl hO0 y.A y.x.es.length y.c rfl rfl (tV.sl hBV) hok.2.1 (by simp; omega) hBV ?_
      intro v1 W4 hO1 hg4 _
      have hr := hO0.rows
      replace hO1 : enE.Own W4 B v1 y.x.es := hO1
      replace hP := hP.keep hg4 (fun e => by have := hr n1 e.symm; omega)
      replace hE := hE.keep hg4 (fun e => by have := hr n2 e.symm; omega)
      replace hZ := hZ.keep hg4 (fun e => by have := hr n3 e.symm; omega)
      replace hB := hB.grown hg4 hB.size (fun k e => by have := hr k e; omega)
      replace hBV := Nat.le_trans hBV hg4.size
      try replace he := he.keep1 hg4 (fun e => hn60 (Option.some.inj e))
      clear hr hO0 tV hg4
      refine hK.out _ _ (psS hP hE : PsS n1 n2 y e _) ?_
      try simp only [Act.put, List.setIfInBounds_toArray, List.set_cons_zero, List.set_cons_succ]
      clear hK
      refine anyG_step (rs := [5]) (by kernel_rfl) (by simp) ?_
      refine AllG.cons rfl (fun K hK => ?_) AllG.nil
      have hal := below_alloc (Below.refl (W4).heap.size W4) (.cells #[.int .i64 e.k, .int .i64 e.d, .int .i64 e.i, .int .i64 e.o.C, .int .i64 e.o.D, .int .i64 e.o.I, .int .i64 e.o.M, .int .i64 e.o.K, .int .i64 e.o.U, .string e.o.s] 37)
      have hg := World.grownBy_alloc W4 (.cells #[.int .i64 e.k, .int .i64 e.d, .int .i64 e.i, .int .i64 e.o.C, .int .i64 e.o.D, .int .i64 e.o.I, .int .i64 e.o.M, .int .i64 e.o.K, .int .i64 e.o.U, .string e.o.s] 37) none
      have he : enE.Sl ((W4).alloc (.cells #[.int .i64 e.k, .int .i64 e.d, .int .i64 e.i, .int .i64 e.o.C, .int .i64 e.o.D, .int .i64 e.o.I, .int .i64 e.o.M, .int .i64 e.o.K, .int .i64 e.o.U, .string e.o.s] 37)) (some ⟨(W4).heap.size, 0, none⟩) [e] := (El.In.new (E := enE) W4 e _ rfl).sl
      have hn6 : (W4).heap.size < ((W4).alloc (.cells #[.int .i64 e.k, .int .i64 e.d, .int .i64 e.i, .int .i64 e.o.C, .int .i64 e.o.D, .int .i64 e.o.I, .int .i64 e.o.M, .int .i64 e.o.K, .int .i64 e.o.U, .string e.o.s] 37)).heap.size := by rw [alloc_size]; omega
      try have hn60 : (W4).heap.size ≠ n0 := by have := (hO0.lt n0 rfl).2; omega
      try replace tV := tV.keep hg (fun k e => by cases e)
      replace hP := hP.below hal
      replace hE := hE.below hal
      replace hZ := hZ.below hal
      replace hB := hB.trans (hal.mono hB.size)
      replace hBV := Nat.le_trans hBV hal.size
      try replace hO0 := hO0.below hal
      try replace hO1 := hO1.below hal
      clear hg
      try clear hS
      go_simp
      refine hK.out _ _ (psS hP hE : PsS n1 n2 y e _) ?_
      try simp only [Act.put, List.setIfInBounds_toArray, List.set_cons_zero, List.set_cons_succ]
      clear hK
      clear hal
      generalize (W4).alloc (.cells #[.int .i64 e.k, .int .i64 e.d, .int .i64 e.i, .int .i64 e.o.C, .int .i64 e.o.D, .int .i64 e.o.I, .int .i64 e.o.M, .int .i64 e.o.K, .int .i64 e.o.U, .string e.o.s] 37) = U2 at *
      generalize (W4).heap.size = n6 at *
      refine anyG_step (rs := [6]) (by kernel_rfl) (by simp) ?_
      refine AllG.cons rfl (fun K hK => ?_) AllG.nil
      refine El.step_app enInn rfl (.tmp 8) (.tmp 10) rfl B v1 y.x.es [e] rfl hO1 (some ⟨n6, 0, none⟩) 1 1 rfl rfl he (fun e => by cases e) (by rw [List.length_singleton]; omega) hBV ?_
      intro v2 W7 hO2 hg7 _
      have hr7 := hO1.rows
      replace hP := hP.keep hg7 (fun e => by have := hr7 n1 e.symm; omega)
      replace hE := hE.keep hg7 (fun e => by have := hr7 n2 e.symm; omega)
      replace hZ := hZ.keep hg7 (fun e => by have := hr7 n3 e.symm; omega)
      replace hB := hB.grown hg7 hB.size (fun k e => by have := hr7 k e; omega)
      replace hBV := Nat.le_trans hBV hg7.size
      clear hr7 hO1 hg7 he
      refine hK.out _ _ (psS hP hE : PsS n1 n2 y e _) ?_
      try simp only [Act.put, List.setIfInBounds_toArray, List.set_cons_zero, List.set_cons_succ]
      clear hK
      have hS : PsS n1 n2 y e W7 := psS hP hE
      refine anyG_take (i := 7) (v := .pointer (some ⟨n1, 3, none⟩)) rfl (by kernel_rfl) (by kernel_rfl) (by kernel_rfl) (by kernel_rfl) (by kernel_rfl) (fun _ _ _ h => h) (Or.inl ⟨by rfl, fun w' hSw => by (obtain ⟨⟨s, sf⟩, s0, s1, s2, s3, s4, s5, s6, s7, s8, s9⟩ := hSw; go_simp)⟩) hS ?_
      try simp only [Act.put, List.setIfInBounds_toArray, List.set_cons_zero, List.set_cons_succ]
      clear hS
      have hl8 := hO2.rows
      obtain ⟨L2, hL2⟩ : ∃ L2, y.x.es ++ [e] = L2 := ⟨_, rfl⟩
      rw [hL2] at hO2
      have HL2 := Lib.hid hL2
      clear hL2
      obtain ⟨A', c', rfl, hS'⟩ := SlV.own hO2
      have hne8 : ∀ a, A' = some a → some a.block ≠ some n1 := fun a e e2 => by
        have h1 := hl8 a.block (by rw [e]; rfl)
        have h2 := Option.some.inj e2
        omega
      have hfrs : ∀ a, A' = some a → B ≤ a.block := fun a e => hl8 a.block (by rw [e]; rfl)
      have kf := hP.frozen 3
      obtain ⟨k0, k1, k2, k3⟩ := smIn4 hP
      have hP2 := hP.put ⟨A', c', ⟨y.x.s, y.x.t, y.x.p, L2⟩⟩ 3 (.slice A' L2.length c') rfl
      have hg8 := by_cell W7 n1 3 (.slice A' L2.length c')
      have hS2 : SlV enE (W7.setCell ⟨n1, 3, none⟩ (.slice A' L2.length c')) A' c' L2 := ⟨hS'.1.keep hg8 hne8, hS'.2⟩
      have hZ2 := hZ.other n1 3 (.slice A' L2.length c') (by omega)
      have hB2 := hB.grown hg8 hB.size (fun k e => by have := Option.some.inj e; omega)
      clear hO2 hl8 hS' hP hZ hB hg8 hE
      refine anyG_step (rs := [8]) (by kernel_rfl) (by simp) ?_
      refine AllG.last (n := 8) rfl (fun K hK => ?_)
      go_simp
      refine hK.out _ _ ?_
      try simp only [Act.put, List.setIfInBounds_toArray, List.set_cons_zero, List.set_cons_succ]
      clear hK k0 k1 k2 k3 kf
      refine anyG_done (by kernel_rfl) ?_ _
      generalize W7.setCell ⟨n1, 3, none⟩ (.slice A' L2.length c') = W8 at *
      have kf := hP2.frozen 2
      obtain ⟨k0, k1, k2, k3⟩ := smIn4 hP2
      have hP3 := hP2.put ⟨A', c', ⟨y.x.s, y.x.t, y.x.p + 1, L2⟩⟩ 2 (.int .i64 (y.x.p + 1)) rfl
      have hg9 := by_cell W8 n1 2 (.int .i64 (y.x.p + 1))
      have hS3 : SlV enE (W8.setCell ⟨n1, 2, none⟩ (.int .i64 (y.x.p + 1))) A' c' L2 := ⟨hS2.1.keep hg9 hne8, hS2.2⟩
      have hZ3 := hZ2.other n1 2 (.int .i64 (y.x.p + 1)) (by omega)
      have hB3 := hB2.grown hg9 hB2.size (fun k e => by have := Option.some.inj e; omega)
      have hw3 : IntKind.i64.wrap (y.x.p + 1) = y.x.p + 1 := by rw [IntKind.wrap_i64]; omega
      have hn3A : ∀ a, A' = some a → some a.block ≠ some n3 := fun a e e2 => by
        have h1 := hfrs a e
        have h2 := Option.some.inj e2
        omega
      clear hP2 hg9 hS2 hZ2 hB2
      go_wp2_with (first | (refine El.load smRow rfl _ rfl n1 0 rfl ⟨A', c', ⟨y.x.s, y.x.t, y.x.p + 1, L2⟩⟩ hP3.at #[.int .i64 y.x.s, .int .i64 y.x.t, .int .i64 (y.x.p + 1), .slice A' L2.length c'] rfl ?_) | (refine El.store smRow rfl _ _ rfl n3 ⟨A', c', ⟨y.x.s, y.x.t, y.x.p + 1, L2⟩⟩ #[.int .i64 y.x.s, .int .i64 y.x.t, .int .i64 (y.x.p + 1), .slice A' L2.length c'] rfl rfl rfl zeroSw hZ3 ?_) | fail)
      refine El.ret1 smRow (hZ3.set ⟨A', c', ⟨y.x.s, y.x.t, y.x.p + 1, L2⟩⟩ _ rfl) rfl rfl rfl #[.int .i64 y.x.s, .int .i64 y.x.t, .int .i64 (y.x.p + 1), .slice A' L2.length c'] rfl ?_
      exact ⟨⟨A', c', ⟨y.x.s, y.x.t, y.x.p + 1, L2⟩⟩, rfl, by unfold pushS; rw [HL2.out], ⟨hS3.1.keep (by_row _ n3 _) hn3A, hS3.2⟩, below_setRow hB3 hwn3 _⟩
    · skip
      have hal := below_alloc (Below.refl (U1).heap.size U1) (.cells #[.int .i64 e.k, .int .i64 e.d, .int .i64 e.i, .int .i64 e.o.C, .int .i64 e.o.D, .int .i64 e.o.I, .int .i64 e.o.M, .int .i64 e.o.K, .int .i64 e.o.U, .string e.o.s] 37)
      have hg := World.grownBy_alloc U1 (.cells #[.int .i64 e.k, .int .i64 e.d, .int .i64 e.i, .int .i64 e.o.C, .int .i64 e.o.D, .int .i64 e.o.I, .int .i64 e.o.M, .int .i64 e.o.K, .int .i64 e.o.U, .string e.o.s] 37) none
      have he : enE.Sl ((U1).alloc (.cells #[.int .i64 e.k, .int .i64 e.d, .int .i64 e.i, .int .i64 e.o.C, .int .i64 e.o.D, .int .i64 e.o.I, .int .i64 e.o.M, .int .i64 e.o.K, .int .i64 e.o.U, .string e.o.s] 37)) (some ⟨(U1).heap.size, 0, none⟩) [e] := (El.In.new (E := enE) U1 e _ rfl).sl
      have hn6 : (U1).heap.size < ((U1).alloc (.cells #[.int .i64 e.k, .int .i64 e.d, .int .i64 e.i, .int .i64 e.o.C, .int .i64 e.o.D, .int .i64 e.o.I, .int .i64 e.o.M, .int .i64 e.o.K, .int .i64 e.o.U, .string e.o.s] 37)).heap.size := by rw [alloc_size]; omega
      try have hn60 : (U1).heap.size ≠ n0 := by have := (hO0.lt n0 rfl).2; omega
      try replace tV := tV.keep hg (fun k e => by cases e)
      replace hP := hP.below hal
      replace hE := hE.below hal
      replace hZ := hZ.below hal
      replace hB := hB.trans (hal.mono hB.size)
      replace hBV := Nat.le_trans hBV hal.size
      try replace hO0 := hO0.below hal
      try replace hO1 := hO1.below hal
      clear hg
      try clear hS
      go_simp
      refine hK.out _ _ (psS hP hE : PsS n1 n2 y e _) ?_
      try simp only [Act.put, List.setIfInBounds_toArray, List.set_cons_zero, List.set_cons_succ]
      clear hK
      clear hal
      generalize (U1).alloc (.cells #[.int .i64 e.k, .int .i64 e.d, .int .i64 e.i, .int .i64 e.o.C, .int .i64 e.o.D, .int .i64 e.o.I, .int .i64 e.o.M, .int .i64 e.o.K, .int .i64 e.o.U, .string e.o.s] 37) = U2 at *
      generalize (U1).heap.size = n6 at *
      refine anyG_step (rs := [3]) (by kernel_rfl) (by simp) ?_
      refine AllG.cons rfl (fun K hK => ?_) AllG.nil
      refine El.step_app enInn rfl (.tmp 5) (.tmp 7) rfl B _ [] y.x.es rfl hO0 y.A y.x.es.length y.c rfl rfl (tV.sl hBV) hok.2.1 (by simp; omega) hBV ?_
      intro v1 W4 hO1 hg4 _
      have hr := hO0.rows
      replace hO1 : enE.Own W4 B v1 y.x.es := hO1
      replace hP := hP.keep hg4 (fun e => by have := hr n1 e.symm; omega)
      replace hE := hE.keep hg4 (fun e => by have := hr n2 e.symm; omega)
      replace hZ := hZ.keep hg4 (fun e => by have := hr n3 e.symm; omega)
      replace hB := hB.grown hg4 hB.size (fun k e => by have := hr k e; omega)
      replace hBV := Nat.le_trans hBV hg4.size
      try replace he := he.keep1 hg4 (fun e => hn60 (Option.some.inj e))
      clear hr hO0 tV hg4
      refine hK.out _ _ (psS hP hE : PsS n1 n2 y e _) ?_
      try simp only [Act.put, List.setIfInBounds_toArray, List.set_cons_zero, List.set_cons_succ]
      clear hK
      refine anyG_step (rs := [6]) (by kernel_rfl) (by simp) ?_
      refine AllG.cons rfl (fun K hK => ?_) AllG.nil
      refine El.step_app enInn rfl (.tmp 8) (.tmp 10) rfl B v1 y.x.es [e] rfl hO1 (some ⟨n6, 0, none⟩) 1 1 rfl rfl he (fun e => by cases e) (by rw [List.length_singleton]; omega) hBV ?_
      intro v2 W7 hO2 hg7 _
      have hr7 := hO1.rows
      replace hP := hP.keep hg7 (fun e => by have := hr7 n1 e.symm; omega)
      replace hE := hE.keep hg7 (fun e => by have := hr7 n2 e.symm; omega)
      replace hZ := hZ.keep hg7 (fun e => by have := hr7 n3 e.symm; omega)
      replace hB := hB.grown hg7 hB.size (fun k e => by have := hr7 k e; omega)
      replace hBV := Nat.le_trans hBV hg7.size
      clear hr7 hO1 hg7 he
      refine hK.out _ _ (psS hP hE : PsS n1 n2 y e _) ?_
      try simp only [Act.put, List.setIfInBounds_toArray, List.set_cons_zero, List.set_cons_succ]
      clear hK
      have hS : PsS n1 n2 y e W7 := psS hP hE
      refine anyG_take (i := 7) (v := .pointer (some ⟨n1, 3, none⟩)) rfl (by kernel_rfl) (by kernel_rfl) (by kernel_rfl) (by kernel_rfl) (by kernel_rfl) (fun _ _ _ h => h) (Or.inl ⟨by rfl, fun w' hSw => by (obtain ⟨⟨s, sf⟩, s0, s1, s2, s3, s4, s5, s6, s7, s8, s9⟩ := hSw; go_simp)⟩) hS ?_
      try simp only [Act.put, List.setIfInBounds_toArray, List.set_cons_zero, List.set_cons_succ]
      clear hS
      have hl8 := hO2.rows
      obtain ⟨L2, hL2⟩ : ∃ L2, y.x.es ++ [e] = L2 := ⟨_, rfl⟩
      rw [hL2] at hO2
      have HL2 := Lib.hid hL2
      clear hL2
      obtain ⟨A', c', rfl, hS'⟩ := SlV.own hO2
      have hne8 : ∀ a, A' = some a → some a.block ≠ some n1 := fun a e e2 => by
        have h1 := hl8 a.block (by rw [e]; rfl)
        have h2 := Option.some.inj e2
        omega
      have hfrs : ∀ a, A' = some a → B ≤ a.block := fun a e => hl8 a.block (by rw [e]; rfl)
      have kf := hP.frozen 3
      obtain ⟨k0, k1, k2, k3⟩ := smIn4 hP
      have hP2 := hP.put ⟨A', c', ⟨y.x.s, y.x.t, y.x.p, L2⟩⟩ 3 (.slice A' L2.length c') rfl
      have hg8 := by_cell W7 n1 3 (.slice A' L2.length c')
      have hS2 : SlV enE (W7.setCell ⟨n1, 3, none⟩ (.slice A' L2.length c')) A' c' L2 := ⟨hS'.1.keep hg8 hne8, hS'.2⟩
      have hZ2 := hZ.other n1 3 (.slice A' L2.length c') (by omega)
      have hB2 := hB.grown hg8 hB.size (fun k e => by have := Option.some.inj e; omega)
      clear hO2 hl8 hS' hP hZ hB hg8 hE
      refine anyG_step (rs := [8]) (by kernel_rfl) (by simp) ?_
      refine AllG.last (n := 8) rfl (fun K hK => ?_)
      go_simp
      refine hK.out _ _ ?_
      try simp only [Act.put, List.setIfInBounds_toArray, List.set_cons_zero, List.set_cons_succ]
      clear hK k0 k1 k2 k3 kf
      refine anyG_done (by kernel_rfl) ?_ _
      generalize W7.setCell ⟨n1, 3, none⟩ (.slice A' L2.length c') = W8 at *
      have kf := hP2.frozen 2
      obtain ⟨k0, k1, k2, k3⟩ := smIn4 hP2
      have hP3 := hP2.put ⟨A', c', ⟨y.x.s, y.x.t, y.x.p + 1, L2⟩⟩ 2 (.int .i64 (y.x.p + 1)) rfl
      have hg9 := by_cell W8 n1 2 (.int .i64 (y.x.p + 1))
      have hS3 : SlV enE (W8.setCell ⟨n1, 2, none⟩ (.int .i64 (y.x.p + 1))) A' c' L2 := ⟨hS2.1.keep hg9 hne8, hS2.2⟩
      have hZ3 := hZ2.other n1 2 (.int .i64 (y.x.p + 1)) (by omega)
      have hB3 := hB2.grown hg9 hB2.size (fun k e => by have := Option.some.inj e; omega)
      have hw3 : IntKind.i64.wrap (y.x.p + 1) = y.x.p + 1 := by rw [IntKind.wrap_i64]; omega
      have hn3A : ∀ a, A' = some a → some a.block ≠ some n3 := fun a e e2 => by
        have h1 := hfrs a e
        have h2 := Option.some.inj e2
        omega
      clear hP2 hg9 hS2 hZ2 hB2
      go_wp2_with (first | (refine El.load smRow rfl _ rfl n1 0 rfl ⟨A', c', ⟨y.x.s, y.x.t, y.x.p + 1, L2⟩⟩ hP3.at #[.int .i64 y.x.s, .int .i64 y.x.t, .int .i64 (y.x.p + 1), .slice A' L2.length c'] rfl ?_) | (refine El.store smRow rfl _ _ rfl n3 ⟨A', c', ⟨y.x.s, y.x.t, y.x.p + 1, L2⟩⟩ #[.int .i64 y.x.s, .int .i64 y.x.t, .int .i64 (y.x.p + 1), .slice A' L2.length c'] rfl rfl rfl zeroSw hZ3 ?_) | fail)
      refine El.ret1 smRow (hZ3.set ⟨A', c', ⟨y.x.s, y.x.t, y.x.p + 1, L2⟩⟩ _ rfl) rfl rfl rfl #[.int .i64 y.x.s, .int .i64 y.x.t, .int .i64 (y.x.p + 1), .slice A' L2.length c'] rfl ?_
      exact ⟨⟨A', c', ⟨y.x.s, y.x.t, y.x.p + 1, L2⟩⟩, rfl, by unfold pushS; rw [HL2.out], ⟨hS3.1.keep (by_row _ n3 _) hn3A, hS3.2⟩, below_setRow hB3 hwn3 _⟩
  · skip
    have hal := below_alloc (Below.refl (U).heap.size U) (.cells #[.int .i64 e.k, .int .i64 e.d, .int .i64 e.i, .int .i64 e.o.C, .int .i64 e.o.D, .int .i64 e.o.I, .int .i64 e.o.M, .int .i64 e.o.K, .int .i64 e.o.U, .string e.o.s] 37)
    have hg := World.grownBy_alloc U (.cells #[.int .i64 e.k, .int .i64 e.d, .int .i64 e.i, .int .i64 e.o.C, .int .i64 e.o.D, .int .i64 e.o.I, .int .i64 e.o.M, .int .i64 e.o.K, .int .i64 e.o.U, .string e.o.s] 37) none
    have he : enE.Sl ((U).alloc (.cells #[.int .i64 e.k, .int .i64 e.d, .int .i64 e.i, .int .i64 e.o.C, .int .i64 e.o.D, .int .i64 e.o.I, .int .i64 e.o.M, .int .i64 e.o.K, .int .i64 e.o.U, .string e.o.s] 37)) (some ⟨(U).heap.size, 0, none⟩) [e] := (El.In.new (E := enE) U e _ rfl).sl
    have hn6 : (U).heap.size < ((U).alloc (.cells #[.int .i64 e.k, .int .i64 e.d, .int .i64 e.i, .int .i64 e.o.C, .int .i64 e.o.D, .int .i64 e.o.I, .int .i64 e.o.M, .int .i64 e.o.K, .int .i64 e.o.U, .string e.o.s] 37)).heap.size := by rw [alloc_size]; omega
    try have hn60 : (U).heap.size ≠ n0 := by have := (hO0.lt n0 rfl).2; omega
    try replace tV := tV.keep hg (fun k e => by cases e)
    replace hP := hP.below hal
    replace hE := hE.below hal
    replace hZ := hZ.below hal
    replace hB := hB.trans (hal.mono hB.size)
    replace hBV := Nat.le_trans hBV hal.size
    try replace hO0 := hO0.below hal
    try replace hO1 := hO1.below hal
    clear hg
    try clear hS
    go_simp
    refine hK.out _ _ (psS hP hE : PsS n1 n2 y e _) ?_
    try simp only [Act.put, List.setIfInBounds_toArray, List.set_cons_zero, List.set_cons_succ]
    clear hK
    clear hal
    generalize (U).alloc (.cells #[.int .i64 e.k, .int .i64 e.d, .int .i64 e.i, .int .i64 e.o.C, .int .i64 e.o.D, .int .i64 e.o.I, .int .i64 e.o.M, .int .i64 e.o.K, .int .i64 e.o.U, .string e.o.s] 37) = U2 at *
    generalize (U).heap.size = n6 at *
    refine anyG_step (rs := [0]) (by kernel_rfl) (by simp) ?_
    refine AllG.cons rfl (fun K hK => ?_) AllG.nil
    have hal := below_alloc (Below.refl (U2).heap.size U2) (.cells #[] 37)
    have hg := World.grownBy_alloc U2 (.cells #[] 37) none
    have hO0 : enE.Own ((U2).alloc (.cells #[] 37)) B (.slice (some ⟨(U2).heap.size, 0, none⟩) 0 0) [] := El.Own.empty (E := enE) U2 B hBV
    replace tV := tV.keep hg (fun k e => by cases e)
    replace hP := hP.below hal
    replace hE := hE.below hal
    replace hZ := hZ.below hal
    replace hB := hB.trans (hal.mono hB.size)
    replace hBV := Nat.le_trans hBV hal.size
    try replace he := he.below hal
    try have hn60 := Nat.ne_of_lt hn6
    clear hg
    try clear hS
    go_simp
    refine hK.out _ _ (psS hP hE : PsS n1 n2 y e _) ?_
    try simp only [Act.put, List.setIfInBounds_toArray, List.set_cons_zero, List.set_cons_succ]
    clear hK
    clear hal
    generalize (U2).alloc (.cells #[] 37) = U1 at *
    generalize (U2).heap.size = n0 at *
    refine anyG_step (rs := [3]) (by kernel_rfl) (by simp) ?_
    refine AllG.cons rfl (fun K hK => ?_) AllG.nil
    refine El.step_app enInn rfl (.tmp 5) (.tmp 7) rfl B _ [] y.x.es rfl hO0 y.A y.x.es.length y.c rfl rfl (tV.sl hBV) hok.2.1 (by simp; omega) hBV ?_
    intro v1 W4 hO1 hg4 _
    have hr := hO0.rows
    replace hO1 : enE.Own W4 B v1 y.x.es := hO1
    replace hP := hP.keep hg4 (fun e => by have := hr n1 e.symm; omega)
    replace hE := hE.keep hg4 (fun e => by have := hr n2 e.symm; omega)
    replace hZ := hZ.keep hg4 (fun e => by have := hr n3 e.symm; omega)
    replace hB := hB.grown hg4 hB.size (fun k e => by have := hr k e; omega)
    replace hBV := Nat.le_trans hBV hg4.size
    try replace he := he.keep1 hg4 (fun e => hn60 (Option.some.inj e))
    clear hr hO0 tV hg4
    refine hK.out _ _ (psS hP hE : PsS n1 n2 y e _) ?_
    try simp only [Act.put, List.setIfInBounds_toArray, List.set_cons_zero, List.set_cons_succ]
    clear hK
    refine anyG_step (rs := [6]) (by kernel_rfl) (by simp) ?_
    refine AllG.cons rfl (fun K hK => ?_) AllG.nil
    refine El.step_app enInn rfl (.tmp 8) (.tmp 10) rfl B v1 y.x.es [e] rfl hO1 (some ⟨n6, 0, none⟩) 1 1 rfl rfl he (fun e => by cases e) (by rw [List.length_singleton]; omega) hBV ?_
    intro v2 W7 hO2 hg7 _
    have hr7 := hO1.rows
    replace hP := hP.keep hg7 (fun e => by have := hr7 n1 e.symm; omega)
    replace hE := hE.keep hg7 (fun e => by have := hr7 n2 e.symm; omega)
    replace hZ := hZ.keep hg7 (fun e => by have := hr7 n3 e.symm; omega)
    replace hB := hB.grown hg7 hB.size (fun k e => by have := hr7 k e; omega)
    replace hBV := Nat.le_trans hBV hg7.size
    clear hr7 hO1 hg7 he
    refine hK.out _ _ (psS hP hE : PsS n1 n2 y e _) ?_
    try simp only [Act.put, List.setIfInBounds_toArray, List.set_cons_zero, List.set_cons_succ]
    clear hK
    have hS : PsS n1 n2 y e W7 := psS hP hE
    refine anyG_take (i := 7) (v := .pointer (some ⟨n1, 3, none⟩)) rfl (by kernel_rfl) (by kernel_rfl) (by kernel_rfl) (by kernel_rfl) (by kernel_rfl) (fun _ _ _ h => h) (Or.inl ⟨by rfl, fun w' hSw => by (obtain ⟨⟨s, sf⟩, s0, s1, s2, s3, s4, s5, s6, s7, s8, s9⟩ := hSw; go_simp)⟩) hS ?_
    try simp only [Act.put, List.setIfInBounds_toArray, List.set_cons_zero, List.set_cons_succ]
    clear hS
    have hl8 := hO2.rows
    obtain ⟨L2, hL2⟩ : ∃ L2, y.x.es ++ [e] = L2 := ⟨_, rfl⟩
    rw [hL2] at hO2
    have HL2 := Lib.hid hL2
    clear hL2
    obtain ⟨A', c', rfl, hS'⟩ := SlV.own hO2
    have hne8 : ∀ a, A' = some a → some a.block ≠ some n1 := fun a e e2 => by
      have h1 := hl8 a.block (by rw [e]; rfl)
      have h2 := Option.some.inj e2
      omega
    have hfrs : ∀ a, A' = some a → B ≤ a.block := fun a e => hl8 a.block (by rw [e]; rfl)
    have kf := hP.frozen 3
    obtain ⟨k0, k1, k2, k3⟩ := smIn4 hP
    have hP2 := hP.put ⟨A', c', ⟨y.x.s, y.x.t, y.x.p, L2⟩⟩ 3 (.slice A' L2.length c') rfl
    have hg8 := by_cell W7 n1 3 (.slice A' L2.length c')
    have hS2 : SlV enE (W7.setCell ⟨n1, 3, none⟩ (.slice A' L2.length c')) A' c' L2 := ⟨hS'.1.keep hg8 hne8, hS'.2⟩
    have hZ2 := hZ.other n1 3 (.slice A' L2.length c') (by omega)
    have hB2 := hB.grown hg8 hB.size (fun k e => by have := Option.some.inj e; omega)
    clear hO2 hl8 hS' hP hZ hB hg8 hE
    refine anyG_step (rs := [8]) (by kernel_rfl) (by simp) ?_
    refine AllG.last (n := 8) rfl (fun K hK => ?_)
    go_simp
    refine hK.out _ _ ?_
    try simp only [Act.put, List.setIfInBounds_toArray, List.set_cons_zero, List.set_cons_succ]
    clear hK k0 k1 k2 k3 kf
    refine anyG_done (by kernel_rfl) ?_ _
    generalize W7.setCell ⟨n1, 3, none⟩ (.slice A' L2.length c') = W8 at *
    have kf := hP2.frozen 2
    obtain ⟨k0, k1, k2, k3⟩ := smIn4 hP2
    have hP3 := hP2.put ⟨A', c', ⟨y.x.s, y.x.t, y.x.p + 1, L2⟩⟩ 2 (.int .i64 (y.x.p + 1)) rfl
    have hg9 := by_cell W8 n1 2 (.int .i64 (y.x.p + 1))
    have hS3 : SlV enE (W8.setCell ⟨n1, 2, none⟩ (.int .i64 (y.x.p + 1))) A' c' L2 := ⟨hS2.1.keep hg9 hne8, hS2.2⟩
    have hZ3 := hZ2.other n1 2 (.int .i64 (y.x.p + 1)) (by omega)
    have hB3 := hB2.grown hg9 hB2.size (fun k e => by have := Option.some.inj e; omega)
    have hw3 : IntKind.i64.wrap (y.x.p + 1) = y.x.p + 1 := by rw [IntKind.wrap_i64]; omega
    have hn3A : ∀ a, A' = some a → some a.block ≠ some n3 := fun a e e2 => by
      have h1 := hfrs a e
      have h2 := Option.some.inj e2
      omega
    clear hP2 hg9 hS2 hZ2 hB2
    go_wp2_with (first | (refine El.load smRow rfl _ rfl n1 0 rfl ⟨A', c', ⟨y.x.s, y.x.t, y.x.p + 1, L2⟩⟩ hP3.at #[.int .i64 y.x.s, .int .i64 y.x.t, .int .i64 (y.x.p + 1), .slice A' L2.length c'] rfl ?_) | (refine El.store smRow rfl _ _ rfl n3 ⟨A', c', ⟨y.x.s, y.x.t, y.x.p + 1, L2⟩⟩ #[.int .i64 y.x.s, .int .i64 y.x.t, .int .i64 (y.x.p + 1), .slice A' L2.length c'] rfl rfl rfl zeroSw hZ3 ?_) | fail)
    refine El.ret1 smRow (hZ3.set ⟨A', c', ⟨y.x.s, y.x.t, y.x.p + 1, L2⟩⟩ _ rfl) rfl rfl rfl #[.int .i64 y.x.s, .int .i64 y.x.t, .int .i64 (y.x.p + 1), .slice A' L2.length c'] rfl ?_
    exact ⟨⟨A', c', ⟨y.x.s, y.x.t, y.x.p + 1, L2⟩⟩, rfl, by unfold pushS; rw [HL2.out], ⟨hS3.1.keep (by_row _ n3 _) hn3A, hS3.2⟩, below_setRow hB3 hwn3 _⟩

theorem takeS_next (l : List En) (x : Sm) (st : Int) (k : Nat) (h : k < l.length) : takeS x st (l.take (k + 1)) = if st + k = (takeS x st (l.take k)).p + 1 then pushS (takeS x st (l.take k)) l[k] else takeS x st (l.take k) := by
  have hap : ∀ (a : List En) (x : Sm) (st : Int) (e : En), takeS x st (a ++ [e]) = if st + a.length = (takeS x st a).p + 1 then pushS (takeS x st a) e else takeS x st a := by
    intro a
    induction a with
    | nil => intro x st e; simp [takeS]
    | cons b a ih =>
      intro x st e
      rw [List.cons_append, takeS, ih, takeS, List.length_cons]
      have h1 : st + 1 + (a.length : Int) = st + ((a.length + 1 : Nat) : Int) := by omega
      rw [h1]
  rw [List.take_succ_eq_append_getElem h, hap, List.length_take, Nat.min_eq_left (by omega)]

theorem sm_off {w : World} {A : Option Addr} {l : List En} {n : Nat} {z : Sw} (h : enE.Sl w A l) (hP : smE.In w n z) : 0 < l.length → ∀ a, A = some a → some a.block ≠ some n := fun h0 a e e2 => by
  obtain ⟨b, off, eb, _, hc⟩ := h h0
  rw [e] at eb
  cases eb
  have e2 := Option.some.inj e2
  dsimp only at e2
  subst e2
  have h1 := hc 0 h0 9 _ rfl
  rw [hP.cell, List.getElem?_eq_none (by rw [smE.len]; show 4 ≤ off + 0 * 10 + 9; omega)] at h1
  cases h1
theorem SlV.keepN {w w' : World} {A : Option Addr} {c : Nat} {l : List En} {row : Option Nat} (h : SlV enE w A c l) (hg : w.grownBy w' row) (hne : 0 < l.length → ∀ a, A = some a → some a.block ≠ row) : SlV enE w' A c l :=
  ⟨fun h0 => (h.1.keep hg (hne h0)) h0, h.2⟩
def TkS (n1 b o : Nat) (z : Sw) (x : En) (w : World) : Prop := (w.cell? ⟨n1, 0, none⟩ = some (.int .i64 z.x.s) ∧ w.cell? ⟨n1, 1, none⟩ = some (.int .i64 z.x.t) ∧ w.cell? ⟨n1, 2, none⟩ = some (.int .i64 z.x.p) ∧ w.cell? ⟨n1, 3, none⟩ = some (.slice z.A z.x.es.length z.c)) ∧ (w.cell? ⟨b, o, none⟩ = some (.int .i64 x.k) ∧ w.cell? ⟨b, o + 1, none⟩ = some (.int .i64 x.d) ∧ w.cell? ⟨b, o + 2, none⟩ = some (.int .i64 x.i) ∧ w.cell? ⟨b, o + 3, none⟩ = some (.int .i64 x.o.C) ∧ w.cell? ⟨b, o + 4, none⟩ = some (.int .i64 x.o.D) ∧ w.cell? ⟨b, o + 5, none⟩ = some (.int .i64 x.o.I) ∧ w.cell? ⟨b, o + 6, none⟩ = some (.int .i64 x.o.M) ∧ w.cell? ⟨b, o + 7, none⟩ = some (.int .i64 x.o.K) ∧ w.cell? ⟨b, o + 8, none⟩ = some (.int .i64 x.o.U) ∧ w.cell? ⟨b, o + 9, none⟩ = some (.string x.o.s))
theorem tkS {n1 b o : Nat} {z : Sw} {x : En} {w : World} (hP : smE.In w n1 z) (hX : enE.At w b o x) : TkS n1 b o z x w := ⟨smIn4 hP, enAtH hX⟩
set_option maxRecDepth 100000 in
set_option maxHeartbeats 4000000 in
theorem refSmTake_any (y : Sw) (st : Int) (A : Option Addr) (c : Nat) (l : List En) (w : World) (hn : SmN y.x) (hst : -1000000000000000 ≤ st ∧ st ≤ 1000000000000000) (hl : l.length ≤ 5000) (hok : y.ok w) (hT : SlV enE w A c l) :
    Calls Try.prog 12 #[.agg #[.int .i64 y.x.s, .int .i64 y.x.t, .int .i64 y.x.p, .slice y.A y.x.es.length y.c], .int .i64 st, .slice A l.length c] w fun r w' => ∃ z : Sw, r = .returned (.agg #[.int .i64 z.x.s, .int .i64 z.x.t, .int .i64 z.x.p, .slice z.A z.x.es.length z.c]) ∧ z.x = takeS y.x st l ∧ z.ok w' ∧ Below w.heap.size w w' := by
  have hP : smE.In ((w.alloc (.cells #[.int .i64 y.x.s, .int .i64 y.x.t, .int .i64 y.x.p, .slice y.A y.x.es.length y.c] 27)).alloc (.cells #[.int .i64 0, .int .i64 0, .int .i64 0, .slice none 0 0] 27)) w.heap.size y := (El.In.new (E := smE) w y _ rfl).alloc _
  have hZ : smE.In ((w.alloc (.cells #[.int .i64 y.x.s, .int .i64 y.x.t, .int .i64 y.x.p, .slice y.A y.x.es.length y.c] 27)).alloc (.cells #[.int .i64 0, .int .i64 0, .int .i64 0, .slice none 0 0] 27)) (w.alloc (.cells #[.int .i64 y.x.s, .int .i64 y.x.t, .int .i64 y.x.p, .slice y.A y.x.es.length y.c] 27)).heap.size zeroSw := El.In.new (E := smE) (w.alloc (.cells #[.int .i64 y.x.s, .int .i64 y.x.t, .int .i64 y.x.p, .slice y.A y.x.es.length y.c] 27)) zeroSw _ rfl
  rw [alloc_size] at hZ
  have hB := below_alloc (below_alloc (Below.refl w.heap.size w) (.cells #[.int .i64 y.x.s, .int .i64 y.x.t, .int .i64 y.x.p, .slice y.A y.x.es.length y.c] 27)) (.cells #[.int .i64 0, .int .i64 0, .int .i64 0, .slice none 0 0] 27)
  have hok0 := hok.below hB
  have HT := Lib.hid hT.1
  have hp := hn.p
  have hl0 := hn.l
  have HX0 := Lib.hid (show y.x = takeS y.x st (l.take 0) by rw [List.take_zero]; rfl)
  clear hn hT hok
  go_enter Try.func12, Try.ntmps12
  go_wp2_with fail
  generalize (w.alloc (.cells #[.int .i64 y.x.s, .int .i64 y.x.t, .int .i64 y.x.p, .slice y.A y.x.es.length y.c] 27)).alloc (.cells #[.int .i64 0, .int .i64 0, .int .i64 0, .slice none 0 0] 27) = V at *
  obtain ⟨n3, h3⟩ : ∃ n, w.heap.size + 1 = n := ⟨_, rfl⟩
  obtain ⟨n1, h1⟩ : ∃ n, w.heap.size = n := ⟨_, rfl⟩
  rw [h3] at hZ ⊢
  rw [h1] at hP ⊢
  have hwn1 : w.heap.size ≤ n1 := by omega
  have hwn3 : w.heap.size ≤ n3 := by omega
  have hn13 : n1 < n3 := by omega
  clear h1 h3
  go_loopw [7] (fun i wr => ∃ (k : Nat) (z : Sw), k ≤ l.length ∧ i = .int .i64 k ∧ Hid (z.x = takeS y.x st (l.take k)) ∧ smE.In wr n1 z ∧ smE.In wr n3 zeroSw ∧ z.ok wr ∧ Below w.heap.size w wr) (fun i _ => l.length - (intOf i).toNat)
  case atStart => exact ⟨0, y, Nat.zero_le _, rfl, HX0, hP, hZ, hok0, hB⟩
  case round =>
    clear hP hZ hB hok0 HX0
    obtain ⟨k, z, hk, rfl, hx, hP, hZ, hok, hB⟩ := hrel
    by_cases hkl : k < l.length
    · obtain ⟨b, off, eA, hbw, hc⟩ := HT.out (by omega)
      have hxi := enIdxH (cap := c) eA hkl
      have hat : enE.At wr b (off + k * 10) l[k] := (hc k hkl).below hB hbw
      have hnx := takeS_next l y.x st k hkl
      obtain ⟨g1, g2, g3, _, _⟩ := takeS_p (l.take k) y.x st
      rw [List.length_take, ← hx.out] at g1 g3
      rw [← hx.out] at g2 hnx
      generalize l[k] = x at *
      have HNX := Lib.hid hnx
      obtain ⟨p0, p1, p2, p3⟩ := smIn4 hP
      have w1 : IntKind.i64.wrap (st + (k : Int)) = st + k := by rw [IntKind.wrap_i64]; omega
      have w2 : IntKind.i64.wrap (z.x.p + 1) = z.x.p + 1 := by rw [IntKind.wrap_i64]; omega
      clear hc eA hnx
      by_cases hs : st + (k : Int) = z.x.p + 1
      · have e1 : (st + (k : Int) == z.x.p + 1) = true := beq_iff_eq.2 hs
        have HZX := Lib.hid (show takeS y.x st (l.take (k + 1)) = pushS z.x x by rw [HNX.out, if_pos hs])
        clear hs HNX
        have CP := Lib.hid (fun (wx : World) (h : z.ok wx) => refSmPush_any z x wx (by omega) (by omega) h)
        clear g1 g2 g3
        go_wp2_with fail
        clear p0 p1 p2 p3 w1 w2 e1
        have hki : (k : Int) < (l.length : Int) := by omega
        refine region_anyG (S := TkS n1 b (off + k * 10) z x) 6 (by kernel_rfl) ?_
        have hbr := Nat.lt_of_lt_of_le hbw hB.size
        replace hP : smE.In wr.drew n1 z := hP
        replace hZ : smE.In wr.drew n3 zeroSw := hZ
        replace hat : enE.At wr.drew b (off + k * 10) x := hat
        replace hok : z.ok wr.drew := hok
        replace hbr : b < wr.drew.heap.size := hbr
        replace hB := hB.drew
        generalize wr.drew = U at *
        have hS : TkS n1 b (off + k * 10) z x U := tkS hP hat
        refine anyG_take (i := 0) (v := .agg #[.int .i64 z.x.s, .int .i64 z.x.t, .int .i64 z.x.p, .slice z.A z.x.es.length z.c]) rfl (by kernel_rfl) (by kernel_rfl) (by kernel_rfl) (by kernel_rfl) (by kernel_rfl) (fun _ _ _ h => h) (Or.inl ⟨by rfl, fun w' hSw => by (obtain ⟨⟨m0, m1, m2, m3⟩, s0, s1, s2, s3, s4, s5, s6, s7, s8, s9⟩ := hSw; go_simp)⟩) hS ?_
        try simp only [Act.put, List.setIfInBounds_toArray, List.set_cons_zero, List.set_cons_succ]
        refine anyG_take (i := 1) (v := .slice A l.length c) rfl (by kernel_rfl) (by kernel_rfl) (by kernel_rfl) (by kernel_rfl) (by kernel_rfl) (fun _ _ _ h => h) (Or.inl ⟨by rfl, fun w' hSw => by (obtain ⟨⟨m0, m1, m2, m3⟩, s0, s1, s2, s3, s4, s5, s6, s7, s8, s9⟩ := hSw; go_simp)⟩) hS ?_
        try simp only [Act.put, List.setIfInBounds_toArray, List.set_cons_zero, List.set_cons_succ]
        refine anyG_take (i := 2) (v := .int .i64 k) rfl (by kernel_rfl) (by kernel_rfl) (by kernel_rfl) (by kernel_rfl) (by kernel_rfl) (fun _ _ _ h => h) (Or.inl ⟨by rfl, fun w' hSw => by (obtain ⟨⟨m0, m1, m2, m3⟩, s0, s1, s2, s3, s4, s5, s6, s7, s8, s9⟩ := hSw; go_simp)⟩) hS ?_
        try simp only [Act.put, List.setIfInBounds_toArray, List.set_cons_zero, List.set_cons_succ]
        refine anyG_take (i := 3) (v := .pointer (some ⟨b, off + k * 10, none⟩)) rfl (by kernel_rfl) (by kernel_rfl) (by kernel_rfl) (by kernel_rfl) (by kernel_rfl) (fun _ _ _ h => h) (Or.inl ⟨by rfl, fun w' hSw => by (obtain ⟨⟨m0, m1, m2, m3⟩, s0, s1, s2, s3, s4, s5, s6, s7, s8, s9⟩ := hSw; go_simp)⟩) hS ?_
        try simp only [Act.put, List.setIfInBounds_toArray, List.set_cons_zero, List.set_cons_succ]
        refine anyG_take (i := 4) (v := .agg #[.int .i64 x.k, .int .i64 x.d, .int .i64 x.i, .int .i64 x.o.C, .int .i64 x.o.D, .int .i64 x.o.I, .int .i64 x.o.M, .int .i64 x.o.K, .int .i64 x.o.U, .string x.o.s]) rfl (by kernel_rfl) (by kernel_rfl) (by kernel_rfl) (by kernel_rfl) (by kernel_rfl) (fun _ _ _ h => h) (Or.inl ⟨by rfl, fun w' hSw => by (obtain ⟨⟨m0, m1, m2, m3⟩, s0, s1, s2, s3, s4, s5, s6, s7, s8, s9⟩ := hSw; go_simp)⟩) hS ?_
        try simp only [Act.put, List.setIfInBounds_toArray, List.set_cons_zero, List.set_cons_succ]
        refine anyG_step (rs := [5]) (by kernel_rfl) (by simp) ?_
        refine AllG.cons rfl (fun K hK => ?_) AllG.nil
        go_simp
        refine (CP.out U hok).mono ?_
        rintro r U2 ⟨z2, rfl, hz2, hok2, hb2⟩
        have HZ2 := Lib.hid hz2
        clear hz2
        replace hP := hP.below hb2
        replace hZ := hZ.below hb2
        replace hat := hat.below hb2 hbr
        replace hB := hB.trans (hb2.mono hB.size)
        clear hS
        try go_wp2_with fail
        refine hK.out _ _ (tkS hP hat : TkS n1 b (off + k * 10) z x U2) ?_
        try simp only [Act.put, List.setIfInBounds_toArray, List.set_cons_zero, List.set_cons_succ]
        clear hK
        refine anyG_step (rs := [6]) (by kernel_rfl) (by simp) ?_
        refine AllG.last (n := 6) rfl (fun K hK => ?_)
        refine El.step_store smRow rfl _ _ rfl n1 z2 #[.int .i64 z2.x.s, .int .i64 z2.x.t, .int .i64 z2.x.p, .slice z2.A z2.x.es.length z2.c] rfl rfl rfl z hP ?_
        refine hK.out _ _ ?_
        try simp only [Act.put, List.setIfInBounds_toArray, List.set_cons_zero, List.set_cons_succ]
        clear hK
        refine anyG_done (by kernel_rfl) ?_ _
        go_wp2_with fail
        exact ⟨⟨k + 1, z2, by omega, by go_num, Lib.hid (by rw [HZX.out, HZ2.out]), hP.set z2 _ rfl, hZ.rowN n1 _ (by omega), SlV.keepN hok2 (by_row _ n1 _) (sm_off hok2.1 hP), below_setRow hB hwn1 _⟩, by simp [intOf]; omega⟩
      · have e1 : (st + (k : Int) == z.x.p + 1) = false := beq_eq_false_iff_ne.2 hs
        have HZX := Lib.hid (show takeS y.x st (l.take (k + 1)) = z.x by rw [HNX.out, if_neg hs])
        clear hs HNX
        go_wp2_with fail
        exact ⟨⟨k + 1, z, by omega, by go_num, Lib.hid (by rw [HZX.out]), hP, hZ, hok, hB⟩, by simp [intOf]; omega⟩
    · obtain rfl : k = l.length := by omega
      rw [List.take_length] at hx
      go_wp2_with (first | (refine El.load smRow rfl _ rfl n1 0 rfl z hP.at #[.int .i64 z.x.s, .int .i64 z.x.t, .int .i64 z.x.p, .slice z.A z.x.es.length z.c] rfl ?_) | (refine El.store smRow rfl _ _ rfl n3 z #[.int .i64 z.x.s, .int .i64 z.x.t, .int .i64 z.x.p, .slice z.A z.x.es.length z.c] rfl rfl rfl zeroSw hZ ?_) | fail)
      refine El.ret1 smRow (hZ.set z _ rfl) rfl rfl rfl #[.int .i64 z.x.s, .int .i64 z.x.t, .int .i64 z.x.p, .slice z.A z.x.es.length z.c] rfl ?_
      exact ⟨z, rfl, hx.out, SlV.keepN hok (by_row _ n3 _) (sm_off hok.1 hZ), below_setRow hB hwn3 _⟩
end Go.Proofs.Ytbfebcifmneliaa

/- The document's Settle. -/
namespace Go.Proofs.Ytbfebcifmneliaa
open Go.RowKit Nam Cod

theorem two_boxes (w : World) (a b : Array Value) (z : Sw) (hb : b = (smE.c z).toArray) : smE.In ((w.alloc (.cells a 27)).alloc (.cells b 27)) (w.heap.size + 1) z := by
  have := El.In.new (E := smE) (w.alloc (.cells a 27)) z b hb
  rw [alloc_size] at this; exact this
set_option maxRecDepth 100000 in
set_option maxHeartbeats 4000000 in
theorem refSmSettle_any (y : Sw) (place t : Int) (w : World) (hn : SmN y.x) (hR : SmR y.x) (hpl : -1000000000000000 ≤ place ∧ place ≤ 1000000000000000) (hok : y.ok w) :
    Calls Try.prog 13 #[.agg #[.int .i64 y.x.s, .int .i64 y.x.t, .int .i64 y.x.p, .slice y.A y.x.es.length y.c], .int .i64 place, .int .i64 t] w fun r w' => ∃ z : Sw, r = .returned (.agg #[.int .i64 z.x.s, .int .i64 z.x.t, .int .i64 z.x.p, .slice z.A z.x.es.length z.c]) ∧ z.x = settleS y.x place t ∧ z.ok w' ∧ Below w.heap.size w w' := by
  have hs := hn.s
  have hp := hn.p
  have hl := hn.l
  have hsp := hR.sp
  have hlen := hR.len
  clear hn hR
  rcases Int.lt_or_le y.x.t t with hmt | hmt
  · skip
    by_cases c1 : place ≤ y.x.s
    · have HV := Lib.hid (show (⟨y.x.s, t, y.x.p, y.x.es⟩ : Sm) = settleS y.x place t by unfold settleS; rw [if_pos c1, show max y.x.t t = t by omega])
      have hQ := two_boxes w #[.int .i64 y.x.s, .int .i64 t, .int .i64 y.x.p, .slice y.A y.x.es.length y.c] #[.int .i64 y.x.s, .int .i64 t, .int .i64 y.x.p, .slice y.A y.x.es.length y.c] ⟨y.A, y.c, ⟨y.x.s, t, y.x.p, y.x.es⟩⟩ rfl
      have hB := below_alloc (below_alloc (Below.refl w.heap.size w) (.cells #[.int .i64 y.x.s, .int .i64 t, .int .i64 y.x.p, .slice y.A y.x.es.length y.c] 27)) (.cells #[.int .i64 y.x.s, .int .i64 t, .int .i64 y.x.p, .slice y.A y.x.es.length y.c] 27)
      go_enter Try.func13, Try.ntmps13
      go_wp2_with fail
      refine El.ret1 smRow hQ rfl rfl rfl #[.int .i64 y.x.s, .int .i64 t, .int .i64 y.x.p, .slice y.A y.x.es.length y.c] rfl ?_
      exact ⟨⟨y.A, y.c, ⟨y.x.s, t, y.x.p, y.x.es⟩⟩, rfl, HV.out, SlV.below hok hB, hB⟩
    · by_cases c2 : y.x.p ≤ place
      · have HV := Lib.hid (show (⟨place, t, place, []⟩ : Sm) = settleS y.x place t by unfold settleS; rw [if_neg c1, if_pos c2, show max y.x.t t = t by omega])
        have hQ := two_boxes w #[.int .i64 place, .int .i64 t, .int .i64 place, .slice none 0 0] #[.int .i64 place, .int .i64 t, .int .i64 place, .slice none 0 0] ⟨none, 0, ⟨place, t, place, []⟩⟩ rfl
        have hB := below_alloc (below_alloc (Below.refl w.heap.size w) (.cells #[.int .i64 place, .int .i64 t, .int .i64 place, .slice none 0 0] 27)) (.cells #[.int .i64 place, .int .i64 t, .int .i64 place, .slice none 0 0] 27)
        go_enter Try.func13, Try.ntmps13
        go_wp2_with fail
        refine El.ret1 smRow hQ rfl rfl rfl #[.int .i64 place, .int .i64 t, .int .i64 place, .slice none 0 0] rfl ?_
        exact ⟨⟨none, 0, ⟨place, t, place, []⟩⟩, rfl, HV.out, SlV.nil enE _, hB⟩
      · obtain ⟨d, hd⟩ : ∃ d : Nat, place - y.x.s = d := ⟨(place - y.x.s).toNat, by omega⟩
        have hdl : d < y.x.es.length := by omega
        have hcap := hok.2.2
        have HV := Lib.hid (show (⟨place, t, y.x.p, y.x.es.drop d⟩ : Sm) = settleS y.x place t by unfold settleS; rw [if_neg c1, if_neg c2, show max y.x.t t = t by omega, show (place - y.x.s).toNat = d by omega])
        obtain ⟨A3, hA3⟩ : ∃ A3, Option.map (fun x => x.add (d * 10)) y.A = A3 := ⟨_, rfl⟩
        have hA3' : (if y.c = d then y.A else Option.map (fun x => x.add (d * 10)) y.A) = A3 := by rw [if_neg (by omega), hA3]
        have f3 : IntKind.i64.wrap (place - y.x.s) = (d : Int) := by rw [IntKind.wrap_i64]; omega
        have hT3 := hok.1.drop hcap hA3'
        have hz3 := El.drop_none hok.2.1 hA3'
        have HL3 := Lib.hid (show (y.x.es.drop d).length = y.x.es.length - d from List.length_drop)
        have hP : smE.In (((w.alloc (.cells #[.int .i64 y.x.s, .int .i64 t, .int .i64 y.x.p, .slice y.A y.x.es.length y.c] 27)).alloc (.cells #[.int .i64 0, .int .i64 0, .int .i64 0, .slice none 0 0] 27)).alloc (.cells #[] 37)) w.heap.size ⟨y.A, y.c, ⟨y.x.s, t, y.x.p, y.x.es⟩⟩ := ((El.In.new (E := smE) w ⟨y.A, y.c, ⟨y.x.s, t, y.x.p, y.x.es⟩⟩ _ rfl).alloc _).alloc _
        have hZ := (two_boxes w #[.int .i64 y.x.s, .int .i64 t, .int .i64 y.x.p, .slice y.A y.x.es.length y.c] #[.int .i64 0, .int .i64 0, .int .i64 0, .slice none 0 0] zeroSw rfl).alloc (.cells #[] 37)
        have hB2 := below_alloc (below_alloc (Below.refl w.heap.size w) (.cells #[.int .i64 y.x.s, .int .i64 t, .int .i64 y.x.p, .slice y.A y.x.es.length y.c] 27)) (.cells #[.int .i64 0, .int .i64 0, .int .i64 0, .slice none 0 0] 27)
        have hO := El.Own.empty (E := enE) ((w.alloc (.cells #[.int .i64 y.x.s, .int .i64 t, .int .i64 y.x.p, .slice y.A y.x.es.length y.c] 27)).alloc (.cells #[.int .i64 0, .int .i64 0, .int .i64 0, .slice none 0 0] 27)) (w.heap.size + 1 + 1) (by rw [alloc_size, alloc_size]; exact Nat.le_refl _)
        rw [alloc_size, alloc_size] at hO
        have hB := below_alloc hB2 (.cells #[] 37)
        have hT4 := hT3.below hB
        have hBs : w.heap.size + 1 + 1 ≤ (((w.alloc (.cells #[.int .i64 y.x.s, .int .i64 t, .int .i64 y.x.p, .slice y.A y.x.es.length y.c] 27)).alloc (.cells #[.int .i64 0, .int .i64 0, .int .i64 0, .slice none 0 0] 27)).alloc (.cells #[] 37)).heap.size := by rw [alloc_size, alloc_size, alloc_size]; omega
        have hdi : (d : Int) ≤ (y.c : Int) := by omega
        have hd0 : (0 : Int) ≤ (d : Int) := by omega
        clear hB2 hT3 hA3' hd hok
        generalize y.x.es.drop d = L3 at *
        go_enter Try.func13, Try.ntmps13
        have hne1 : ∀ k, Value.ownBlock (.slice (some ⟨w.heap.size + 1 + 1, 0, none⟩) 0 0) = some k → k = w.heap.size + 1 + 1 := fun k e => by cases e; rfl
        go_wp2_with (first | (at_builtin; refine El.wpList_app enInn rfl _ _ rfl (w.heap.size + 1 + 1) _ [] L3 rfl hO A3 (y.x.es.length - d) (y.c - d) rfl HL3.out hT4 hz3 (by have := HL3.out; simp; omega) hBs ?_; intro v2 w2 hOw hg2 _; have hfr := (hOw : enE.Own w2 (w.heap.size + 1 + 1) v2 L3).rows; obtain ⟨A', c', rfl, hS⟩ := SlV.own (hOw : enE.Own w2 (w.heap.size + 1 + 1) v2 L3); have hP2 := hP.keep hg2 (fun e => by have := hne1 _ e.symm; omega); have hZ2 := hZ.keep hg2 (fun e => by have := hne1 _ e.symm; omega); have hB2 := hB.grown hg2 hB.size (fun k e => by have := hne1 k e; omega); obtain ⟨k0, k1, k2, k3⟩ := smIn4 hP2; have kf := hP2.frozen; have hP3 := (hP2.put ⟨A', c', ⟨y.x.s, t, y.x.p, L3⟩⟩ 3 (.slice A' L3.length c') rfl).put ⟨A', c', ⟨place, t, y.x.p, L3⟩⟩ 0 (.int .i64 place) rfl; have hZ3 := (hZ2.other w.heap.size 3 (.slice A' L3.length c') (by omega)).other w.heap.size 0 (.int .i64 place) (by omega)) | (refine El.load smRow rfl _ rfl w.heap.size 0 rfl ⟨A', c', ⟨place, t, y.x.p, L3⟩⟩ hP3.at #[.int .i64 place, .int .i64 t, .int .i64 y.x.p, .slice A' L3.length c'] rfl ?_) | (refine El.store smRow rfl _ _ rfl (w.heap.size + 1) ⟨A', c', ⟨place, t, y.x.p, L3⟩⟩ #[.int .i64 place, .int .i64 t, .int .i64 y.x.p, .slice A' L3.length c'] rfl rfl rfl zeroSw hZ3 ?_) | fail)
        have hfr1 : ∀ a, A' = some a → w.heap.size + 1 + 1 ≤ a.block := fun a e => hfr a.block (by rw [e]; rfl)
        have g1 := by_cell w2 w.heap.size 3 (.slice A' L3.length c')
        have hS1 := SlV.keepN hS g1 (fun _ a e e2 => by have h1 := hfr1 a e; have h2 := Option.some.inj e2; omega)
        have hB3 := hB2.grown g1 hB2.size (fun k e => by have := Option.some.inj e; omega)
        have g2 := by_cell (w2.setCell ⟨w.heap.size, 3, none⟩ (.slice A' L3.length c')) w.heap.size 0 (.int .i64 place)
        have hS2 := SlV.keepN hS1 g2 (fun _ a e e2 => by have h1 := hfr1 a e; have h2 := Option.some.inj e2; omega)
        have hB4 := hB3.grown g2 hB3.size (fun k e => by have := Option.some.inj e; omega)
        refine El.ret1 smRow (hZ3.set ⟨A', c', ⟨place, t, y.x.p, L3⟩⟩ _ rfl) rfl rfl rfl #[.int .i64 place, .int .i64 t, .int .i64 y.x.p, .slice A' L3.length c'] rfl ?_
        exact ⟨⟨A', c', ⟨place, t, y.x.p, L3⟩⟩, rfl, HV.out, SlV.keepN hS2 (by_row _ (w.heap.size + 1) _) (fun _ a e e2 => by have h1 := hfr1 a e; have h2 := Option.some.inj e2; omega), below_setRow hB4 (by omega) _⟩
  · skip
    by_cases c1 : place ≤ y.x.s
    · have HV := Lib.hid (show (⟨y.x.s, y.x.t, y.x.p, y.x.es⟩ : Sm) = settleS y.x place t by unfold settleS; rw [if_pos c1, show max y.x.t t = y.x.t by omega])
      have hQ := two_boxes w #[.int .i64 y.x.s, .int .i64 y.x.t, .int .i64 y.x.p, .slice y.A y.x.es.length y.c] #[.int .i64 y.x.s, .int .i64 y.x.t, .int .i64 y.x.p, .slice y.A y.x.es.length y.c] ⟨y.A, y.c, ⟨y.x.s, y.x.t, y.x.p, y.x.es⟩⟩ rfl
      have hB := below_alloc (below_alloc (Below.refl w.heap.size w) (.cells #[.int .i64 y.x.s, .int .i64 y.x.t, .int .i64 y.x.p, .slice y.A y.x.es.length y.c] 27)) (.cells #[.int .i64 y.x.s, .int .i64 y.x.t, .int .i64 y.x.p, .slice y.A y.x.es.length y.c] 27)
      go_enter Try.func13, Try.ntmps13
      go_wp2_with fail
      refine El.ret1 smRow hQ rfl rfl rfl #[.int .i64 y.x.s, .int .i64 y.x.t, .int .i64 y.x.p, .slice y.A y.x.es.length y.c] rfl ?_
      exact ⟨⟨y.A, y.c, ⟨y.x.s, y.x.t, y.x.p, y.x.es⟩⟩, rfl, HV.out, SlV.below hok hB, hB⟩
    · by_cases c2 : y.x.p ≤ place
      · have HV := Lib.hid (show (⟨place, y.x.t, place, []⟩ : Sm) = settleS y.x place t by unfold settleS; rw [if_neg c1, if_pos c2, show max y.x.t t = y.x.t by omega])
        have hQ := two_boxes w #[.int .i64 place, .int .i64 y.x.t, .int .i64 place, .slice none 0 0] #[.int .i64 place, .int .i64 y.x.t, .int .i64 place, .slice none 0 0] ⟨none, 0, ⟨place, y.x.t, place, []⟩⟩ rfl
        have hB := below_alloc (below_alloc (Below.refl w.heap.size w) (.cells #[.int .i64 place, .int .i64 y.x.t, .int .i64 place, .slice none 0 0] 27)) (.cells #[.int .i64 place, .int .i64 y.x.t, .int .i64 place, .slice none 0 0] 27)
        go_enter Try.func13, Try.ntmps13
        go_wp2_with fail
        refine El.ret1 smRow hQ rfl rfl rfl #[.int .i64 place, .int .i64 y.x.t, .int .i64 place, .slice none 0 0] rfl ?_
        exact ⟨⟨none, 0, ⟨place, y.x.t, place, []⟩⟩, rfl, HV.out, SlV.nil enE _, hB⟩
      · obtain ⟨d, hd⟩ : ∃ d : Nat, place - y.x.s = d := ⟨(place - y.x.s).toNat, by omega⟩
        have hdl : d < y.x.es.length := by omega
        have hcap := hok.2.2
        have HV := Lib.hid (show (⟨place, y.x.t, y.x.p, y.x.es.drop d⟩ : Sm) = settleS y.x place t by unfold settleS; rw [if_neg c1, if_neg c2, show max y.x.t t = y.x.t by omega, show (place - y.x.s).toNat = d by omega])
        obtain ⟨A3, hA3⟩ : ∃ A3, Option.map (fun x => x.add (d * 10)) y.A = A3 := ⟨_, rfl⟩
        have hA3' : (if y.c = d then y.A else Option.map (fun x => x.add (d * 10)) y.A) = A3 := by rw [if_neg (by omega), hA3]
        have f3 : IntKind.i64.wrap (place - y.x.s) = (d : Int) := by rw [IntKind.wrap_i64]; omega
        have hT3 := hok.1.drop hcap hA3'
        have hz3 := El.drop_none hok.2.1 hA3'
        have HL3 := Lib.hid (show (y.x.es.drop d).length = y.x.es.length - d from List.length_drop)
        have hP : smE.In (((w.alloc (.cells #[.int .i64 y.x.s, .int .i64 y.x.t, .int .i64 y.x.p, .slice y.A y.x.es.length y.c] 27)).alloc (.cells #[.int .i64 0, .int .i64 0, .int .i64 0, .slice none 0 0] 27)).alloc (.cells #[] 37)) w.heap.size ⟨y.A, y.c, ⟨y.x.s, y.x.t, y.x.p, y.x.es⟩⟩ := ((El.In.new (E := smE) w ⟨y.A, y.c, ⟨y.x.s, y.x.t, y.x.p, y.x.es⟩⟩ _ rfl).alloc _).alloc _
        have hZ := (two_boxes w #[.int .i64 y.x.s, .int .i64 y.x.t, .int .i64 y.x.p, .slice y.A y.x.es.length y.c] #[.int .i64 0, .int .i64 0, .int .i64 0, .slice none 0 0] zeroSw rfl).alloc (.cells #[] 37)
        have hB2 := below_alloc (below_alloc (Below.refl w.heap.size w) (.cells #[.int .i64 y.x.s, .int .i64 y.x.t, .int .i64 y.x.p, .slice y.A y.x.es.length y.c] 27)) (.cells #[.int .i64 0, .int .i64 0, .int .i64 0, .slice none 0 0] 27)
        have hO := El.Own.empty (E := enE) ((w.alloc (.cells #[.int .i64 y.x.s, .int .i64 y.x.t, .int .i64 y.x.p, .slice y.A y.x.es.length y.c] 27)).alloc (.cells #[.int .i64 0, .int .i64 0, .int .i64 0, .slice none 0 0] 27)) (w.heap.size + 1 + 1) (by rw [alloc_size, alloc_size]; exact Nat.le_refl _)
        rw [alloc_size, alloc_size] at hO
        have hB := below_alloc hB2 (.cells #[] 37)
        have hT4 := hT3.below hB
        have hBs : w.heap.size + 1 + 1 ≤ (((w.alloc (.cells #[.int .i64 y.x.s, .int .i64 y.x.t, .int .i64 y.x.p, .slice y.A y.x.es.length y.c] 27)).alloc (.cells #[.int .i64 0, .int .i64 0, .int .i64 0, .slice none 0 0] 27)).alloc (.cells #[] 37)).heap.size := by rw [alloc_size, alloc_size, alloc_size]; omega
        have hdi : (d : Int) ≤ (y.c : Int) := by omega
        have hd0 : (0 : Int) ≤ (d : Int) := by omega
        clear hB2 hT3 hA3' hd hok
        generalize y.x.es.drop d = L3 at *
        go_enter Try.func13, Try.ntmps13
        have hne1 : ∀ k, Value.ownBlock (.slice (some ⟨w.heap.size + 1 + 1, 0, none⟩) 0 0) = some k → k = w.heap.size + 1 + 1 := fun k e => by cases e; rfl
        go_wp2_with (first | (at_builtin; refine El.wpList_app enInn rfl _ _ rfl (w.heap.size + 1 + 1) _ [] L3 rfl hO A3 (y.x.es.length - d) (y.c - d) rfl HL3.out hT4 hz3 (by have := HL3.out; simp; omega) hBs ?_; intro v2 w2 hOw hg2 _; have hfr := (hOw : enE.Own w2 (w.heap.size + 1 + 1) v2 L3).rows; obtain ⟨A', c', rfl, hS⟩ := SlV.own (hOw : enE.Own w2 (w.heap.size + 1 + 1) v2 L3); have hP2 := hP.keep hg2 (fun e => by have := hne1 _ e.symm; omega); have hZ2 := hZ.keep hg2 (fun e => by have := hne1 _ e.symm; omega); have hB2 := hB.grown hg2 hB.size (fun k e => by have := hne1 k e; omega); obtain ⟨k0, k1, k2, k3⟩ := smIn4 hP2; have kf := hP2.frozen; have hP3 := (hP2.put ⟨A', c', ⟨y.x.s, y.x.t, y.x.p, L3⟩⟩ 3 (.slice A' L3.length c') rfl).put ⟨A', c', ⟨place, y.x.t, y.x.p, L3⟩⟩ 0 (.int .i64 place) rfl; have hZ3 := (hZ2.other w.heap.size 3 (.slice A' L3.length c') (by omega)).other w.heap.size 0 (.int .i64 place) (by omega)) | (refine El.load smRow rfl _ rfl w.heap.size 0 rfl ⟨A', c', ⟨place, y.x.t, y.x.p, L3⟩⟩ hP3.at #[.int .i64 place, .int .i64 y.x.t, .int .i64 y.x.p, .slice A' L3.length c'] rfl ?_) | (refine El.store smRow rfl _ _ rfl (w.heap.size + 1) ⟨A', c', ⟨place, y.x.t, y.x.p, L3⟩⟩ #[.int .i64 place, .int .i64 y.x.t, .int .i64 y.x.p, .slice A' L3.length c'] rfl rfl rfl zeroSw hZ3 ?_) | fail)
        have hfr1 : ∀ a, A' = some a → w.heap.size + 1 + 1 ≤ a.block := fun a e => hfr a.block (by rw [e]; rfl)
        have g1 := by_cell w2 w.heap.size 3 (.slice A' L3.length c')
        have hS1 := SlV.keepN hS g1 (fun _ a e e2 => by have h1 := hfr1 a e; have h2 := Option.some.inj e2; omega)
        have hB3 := hB2.grown g1 hB2.size (fun k e => by have := Option.some.inj e; omega)
        have g2 := by_cell (w2.setCell ⟨w.heap.size, 3, none⟩ (.slice A' L3.length c')) w.heap.size 0 (.int .i64 place)
        have hS2 := SlV.keepN hS1 g2 (fun _ a e e2 => by have h1 := hfr1 a e; have h2 := Option.some.inj e2; omega)
        have hB4 := hB3.grown g2 hB3.size (fun k e => by have := Option.some.inj e; omega)
        refine El.ret1 smRow (hZ3.set ⟨A', c', ⟨place, y.x.t, y.x.p, L3⟩⟩ _ rfl) rfl rfl rfl #[.int .i64 place, .int .i64 y.x.t, .int .i64 y.x.p, .slice A' L3.length c'] rfl ?_
        exact ⟨⟨A', c', ⟨place, y.x.t, y.x.p, L3⟩⟩, rfl, HV.out, SlV.keepN hS2 (by_row _ (w.heap.size + 1) _) (fun _ a e e2 => by have h1 := hfr1 a e; have h2 := Option.some.inj e2; omega), below_setRow hB4 (by omega) _⟩
end Go.Proofs.Ytbfebcifmneliaa
