/- What Make gives, of the program and of the document: layer op. -/
import Derived.Test.YtkocehjomjaidaaOa
import Derived.Test.YtkocehjomjaidaaOd
import Derived.Lib.SmallJoins
namespace Go.Proofs.Ytkocehjomjaidaa
open Go.RowKit Nam Cod

def mkB (c e I M K U : Int) (s : ByteArray) : Bool := nextB c e && opB (nextC c e) (nextD c e) I M K U s
def mkI (b : Bool) (n : Int) : Int := if b then n else 0
def mkS (b : Bool) (s : ByteArray) : ByteArray := if b then s else ⟨#[]⟩

set_option maxHeartbeats 4000000 in
theorem opMake_any (c e I M K U : Int) (s : ByteArray) (w : World) (hs : s.size ≤ 9223372036854775807) :
    Calls Try.prog 9 #[.int .i64 c, .int .i64 e, .int .i64 I, .int .i64 M, .agg #[.int .i64 K, .int .i64 U, .string s]] w fun x w' => x = .returned (.tuple #[.agg #[.int .i64 (mkI (mkB c e I M K U s) (nextC c e)), .int .i64 (mkI (mkB c e I M K U s) (nextD c e)), .int .i64 (mkI (mkB c e I M K U s) I), .int .i64 (mkI (mkB c e I M K U s) M), .int .i64 (mkI (mkB c e I M K U s) K), .int .i64 (mkI (mkB c e I M K U s) U), .string (mkS (mkB c e I M K U s) s)], .bool (mkB c e I M K U s)]) ∧ Below w.heap.size w w' := by
  have c1 := fun w => next_any c e w
  have c2 := fun w => opRight_any (nextC c e) (nextD c e) I M K U s w hs
  obtain ⟨b1, h1⟩ : ∃ b, nextB c e = b := ⟨_, rfl⟩
  obtain ⟨b2, h2⟩ : ∃ b, opB (nextC c e) (nextD c e) I M K U s = b := ⟨_, rfl⟩
  unfold mkB
  rw [h1] at c1 ⊢
  rw [h2] at c2 ⊢
  generalize nextC c e = X at *
  generalize nextD c e = Y at *
  clear h1 h2
  cases b1
  · have C1 := Lib.hid c1
    clear c1 c2
    go_enter Try.func9, Try.ntmps9
    go_wp2_with fail
    have hB0 : Below w.heap.size w ((w.alloc (.cells #[.int .i64 K, .int .i64 U, .string s] 30)).alloc (.cells #[.int .i64 0, .int .i64 0, .int .i64 0, .int .i64 0, .int .i64 0, .int .i64 0, .string ⟨#[]⟩] 25)) := below_alloc (below_alloc (Below.refl _ _) _) _
    have hO : OpIn ((w.alloc (.cells #[.int .i64 K, .int .i64 U, .string s] 30)).alloc (.cells #[.int .i64 0, .int .i64 0, .int .i64 0, .int .i64 0, .int .i64 0, .int .i64 0, .string ⟨#[]⟩] 25)) (w.heap.size + 1) 0 0 0 0 0 0 ⟨#[]⟩ := by
      have h := OpIn.new (w.alloc (.cells #[.int .i64 K, .int .i64 U, .string s] 30)) 0 0 0 0 0 0 ⟨#[]⟩
      rwa [show (w.alloc (.cells #[.int .i64 K, .int .i64 U, .string s] 30)).heap.size = w.heap.size + 1 from alloc_size _ _] at h
    have g0 : ((w.alloc (.cells #[.int .i64 K, .int .i64 U, .string s] 30)).alloc (.cells #[.int .i64 0, .int .i64 0, .int .i64 0, .int .i64 0, .int .i64 0, .int .i64 0, .string ⟨#[]⟩] 25)).heap[w.heap.size]? = some (.cells #[.int .i64 K, .int .i64 U, .string s] 30 (0, 0)) := by
      rw [(below_alloc (Below.refl _ _) _).block _ (by rw [alloc_size]; exact Nat.lt_succ_self _)]; exact heap_alloc_new w _
    generalize ((w.alloc (.cells #[.int .i64 K, .int .i64 U, .string s] 30)).alloc (.cells #[.int .i64 0, .int .i64 0, .int .i64 0, .int .i64 0, .int .i64 0, .int .i64 0, .string ⟨#[]⟩] 25)) = W0 at *
    refine (C1.out _).mono ?_
    rintro x w1 ⟨rfl, hb1⟩
    have hO1 := hO.below hb1
    have g1 := (hb1.block _ (Nat.lt_of_le_of_lt (Nat.le_succ _) hO.lt)).trans g0
    have hz := hO1.lt
    have hn2 : w.heap.size ≤ w.heap.size + 1 := Nat.le_succ _
    have hlt : w.heap.size < w1.heap.size := by omega
    have hne : w.heap.size ≠ w1.heap.size := by omega
    have k0 : w1.cell? ⟨w.heap.size, 0, none⟩ = some (.int .i64 K) := cell_of_row w1 w.heap.size 0 _ 30 (0, 0) g1
    have k1 : w1.cell? ⟨w.heap.size, 1, none⟩ = some (.int .i64 U) := cell_of_row w1 w.heap.size 1 _ 30 (0, 0) g1
    have k2 : w1.cell? ⟨w.heap.size, 2, none⟩ = some (.string s) := cell_of_row w1 w.heap.size 2 _ 30 (0, 0) g1
    have hb := below_then hB0 hb1
    clear hb1 hO g0 g1 hB0
    generalize w.heap.size + 1 = n2 at *
    go_wp2_with (refine store_op rfl _ _ rfl _ _ _ _ _ _ _ _ rfl rfl _ _ _ _ _ _ _ ((hO1.alloc _).alloc _) ?_)
    refine ret_op2 (((hO1.alloc _).alloc _).set _ _ _ _ _ _ _) rfl rfl rfl rfl ?_
    exact ⟨rfl, below_setRow (below_alloc (below_alloc hb _) _) hn2 _⟩
  · have C1 := Lib.hid c1
    have C2 := Lib.hid c2
    clear c1 c2
    go_enter Try.func9, Try.ntmps9
    go_wp2_with fail
    have hB0 : Below w.heap.size w ((w.alloc (.cells #[.int .i64 K, .int .i64 U, .string s] 30)).alloc (.cells #[.int .i64 0, .int .i64 0, .int .i64 0, .int .i64 0, .int .i64 0, .int .i64 0, .string ⟨#[]⟩] 25)) := below_alloc (below_alloc (Below.refl _ _) _) _
    have hO : OpIn ((w.alloc (.cells #[.int .i64 K, .int .i64 U, .string s] 30)).alloc (.cells #[.int .i64 0, .int .i64 0, .int .i64 0, .int .i64 0, .int .i64 0, .int .i64 0, .string ⟨#[]⟩] 25)) (w.heap.size + 1) 0 0 0 0 0 0 ⟨#[]⟩ := by
      have h := OpIn.new (w.alloc (.cells #[.int .i64 K, .int .i64 U, .string s] 30)) 0 0 0 0 0 0 ⟨#[]⟩
      rwa [show (w.alloc (.cells #[.int .i64 K, .int .i64 U, .string s] 30)).heap.size = w.heap.size + 1 from alloc_size _ _] at h
    have g0 : ((w.alloc (.cells #[.int .i64 K, .int .i64 U, .string s] 30)).alloc (.cells #[.int .i64 0, .int .i64 0, .int .i64 0, .int .i64 0, .int .i64 0, .int .i64 0, .string ⟨#[]⟩] 25)).heap[w.heap.size]? = some (.cells #[.int .i64 K, .int .i64 U, .string s] 30 (0, 0)) := by
      rw [(below_alloc (Below.refl _ _) _).block _ (by rw [alloc_size]; exact Nat.lt_succ_self _)]; exact heap_alloc_new w _
    generalize ((w.alloc (.cells #[.int .i64 K, .int .i64 U, .string s] 30)).alloc (.cells #[.int .i64 0, .int .i64 0, .int .i64 0, .int .i64 0, .int .i64 0, .int .i64 0, .string ⟨#[]⟩] 25)) = W0 at *
    refine (C1.out _).mono ?_
    rintro x w1 ⟨rfl, hb1⟩
    have hO1 := hO.below hb1
    have g1 := (hb1.block _ (Nat.lt_of_le_of_lt (Nat.le_succ _) hO.lt)).trans g0
    have hz := hO1.lt
    have hn2 : w.heap.size ≤ w.heap.size + 1 := Nat.le_succ _
    have hlt : w.heap.size < w1.heap.size := by omega
    have hne : w.heap.size ≠ w1.heap.size := by omega
    have k0 : w1.cell? ⟨w.heap.size, 0, none⟩ = some (.int .i64 K) := cell_of_row w1 w.heap.size 0 _ 30 (0, 0) g1
    have k1 : w1.cell? ⟨w.heap.size, 1, none⟩ = some (.int .i64 U) := cell_of_row w1 w.heap.size 1 _ 30 (0, 0) g1
    have k2 : w1.cell? ⟨w.heap.size, 2, none⟩ = some (.string s) := cell_of_row w1 w.heap.size 2 _ 30 (0, 0) g1
    have hb := below_then hB0 hb1
    clear hb1 hO g0 g1 hB0
    generalize w.heap.size + 1 = n2 at *
    go_wp2_with fail
    have hO2 := (hO1.alloc (.cells #[.int .i64 X, .int .i64 Y] 23)).alloc (.cells #[.int .i64 X, .int .i64 Y, .int .i64 I, .int .i64 M, .int .i64 K, .int .i64 U, .string s] 25)
    have hP2 := OpIn.new (w1.alloc (.cells #[.int .i64 X, .int .i64 Y] 23)) X Y I M K U s
    rw [show (w1.alloc (.cells #[.int .i64 X, .int .i64 Y] 23)).heap.size = w1.heap.size + 1 from alloc_size _ _] at hP2
    have hb2 := below_alloc (below_alloc hb (.cells #[.int .i64 X, .int .i64 Y] 23)) (.cells #[.int .i64 X, .int .i64 Y, .int .i64 I, .int .i64 M, .int .i64 K, .int .i64 U, .string s] 25)
    clear k0 k1 k2 hlt hne hz hO1 hb
    generalize (w1.alloc (.cells #[.int .i64 X, .int .i64 Y] 23)).alloc (.cells #[.int .i64 X, .int .i64 Y, .int .i64 I, .int .i64 M, .int .i64 K, .int .i64 U, .string s] 25) = W2 at *
    generalize w1.heap.size + 1 = n3 at *
    refine (C2.out _).mono ?_
    rintro x w3 ⟨rfl, hb3⟩
    have hO3 := hO2.below hb3
    have hP3 := hP2.below hb3
    have hb := below_then hb2 hb3
    clear hO2 hP2 hb2 hb3
    cases b2
    · go_wp2_with (refine store_op rfl _ _ rfl _ _ _ _ _ _ _ _ rfl rfl _ _ _ _ _ _ _ hO3 ?_)
      refine ret_op2 (hO3.set _ _ _ _ _ _ _) rfl rfl rfl rfl ?_
      exact ⟨rfl, below_setRow hb hn2 _⟩
    · go_wp2_with (first | (refine store_op rfl _ _ rfl _ _ _ _ _ _ _ _ rfl rfl _ _ _ _ _ _ _ hO3 ?_) | (refine load_op rfl _ rfl _ rfl _ _ _ _ _ _ _ hP3 ?_))
      refine ret_op2 (hO3.set _ _ _ _ _ _ _) rfl rfl rfl rfl ?_
      exact ⟨rfl, below_setRow hb hn2 _⟩

set_option maxHeartbeats 4000000 in
theorem opRefMake_any (c e I M K U : Int) (s : ByteArray) (w : World) (hs : s.size ≤ 9223372036854775807) :
    Calls Try.prog 10 #[.int .i64 c, .int .i64 e, .int .i64 I, .int .i64 M, .agg #[.int .i64 K, .int .i64 U, .string s]] w fun x w' => x = .returned (.tuple #[.agg #[.int .i64 (mkI (mkB c e I M K U s) (nextC c e)), .int .i64 (mkI (mkB c e I M K U s) (nextD c e)), .int .i64 (mkI (mkB c e I M K U s) I), .int .i64 (mkI (mkB c e I M K U s) M), .int .i64 (mkI (mkB c e I M K U s) K), .int .i64 (mkI (mkB c e I M K U s) U), .string (mkS (mkB c e I M K U s) s)], .bool (mkB c e I M K U s)]) ∧ Below w.heap.size w w' := by
  have c1 := fun w => refNext_any c e w
  have c2 := fun w => opRefRight_any (nextC c e) (nextD c e) I M K U s w hs
  obtain ⟨b1, h1⟩ : ∃ b, nextB c e = b := ⟨_, rfl⟩
  obtain ⟨b2, h2⟩ : ∃ b, opB (nextC c e) (nextD c e) I M K U s = b := ⟨_, rfl⟩
  unfold mkB
  rw [h1] at c1 ⊢
  rw [h2] at c2 ⊢
  generalize nextC c e = X at *
  generalize nextD c e = Y at *
  clear h1 h2
  cases b1
  · have C1 := Lib.hid c1
    clear c1 c2
    go_enter Try.func10, Try.ntmps10
    go_wp2_with fail
    have hB0 : Below w.heap.size w ((w.alloc (.cells #[.int .i64 K, .int .i64 U, .string s] 30)).alloc (.cells #[.int .i64 0, .int .i64 0, .int .i64 0, .int .i64 0, .int .i64 0, .int .i64 0, .string ⟨#[]⟩] 25)) := below_alloc (below_alloc (Below.refl _ _) _) _
    have hO : OpIn ((w.alloc (.cells #[.int .i64 K, .int .i64 U, .string s] 30)).alloc (.cells #[.int .i64 0, .int .i64 0, .int .i64 0, .int .i64 0, .int .i64 0, .int .i64 0, .string ⟨#[]⟩] 25)) (w.heap.size + 1) 0 0 0 0 0 0 ⟨#[]⟩ := by
      have h := OpIn.new (w.alloc (.cells #[.int .i64 K, .int .i64 U, .string s] 30)) 0 0 0 0 0 0 ⟨#[]⟩
      rwa [show (w.alloc (.cells #[.int .i64 K, .int .i64 U, .string s] 30)).heap.size = w.heap.size + 1 from alloc_size _ _] at h
    have g0 : ((w.alloc (.cells #[.int .i64 K, .int .i64 U, .string s] 30)).alloc (.cells #[.int .i64 0, .int .i64 0, .int .i64 0, .int .i64 0, .int .i64 0, .int .i64 0, .string ⟨#[]⟩] 25)).heap[w.heap.size]? = some (.cells #[.int .i64 K, .int .i64 U, .string s] 30 (0, 0)) := by
      rw [(below_alloc (Below.refl _ _) _).block _ (by rw [alloc_size]; exact Nat.lt_succ_self _)]; exact heap_alloc_new w _
    generalize ((w.alloc (.cells #[.int .i64 K, .int .i64 U, .string s] 30)).alloc (.cells #[.int .i64 0, .int .i64 0, .int .i64 0, .int .i64 0, .int .i64 0, .int .i64 0, .string ⟨#[]⟩] 25)) = W0 at *
    refine (C1.out _).mono ?_
    rintro x w1 ⟨rfl, hb1⟩
    have hO1 := hO.below hb1
    have g1 := (hb1.block _ (Nat.lt_of_le_of_lt (Nat.le_succ _) hO.lt)).trans g0
    have hz := hO1.lt
    have hn2 : w.heap.size ≤ w.heap.size + 1 := Nat.le_succ _
    have hlt : w.heap.size < w1.heap.size := by omega
    have hne : w.heap.size ≠ w1.heap.size := by omega
    have k0 : w1.cell? ⟨w.heap.size, 0, none⟩ = some (.int .i64 K) := cell_of_row w1 w.heap.size 0 _ 30 (0, 0) g1
    have k1 : w1.cell? ⟨w.heap.size, 1, none⟩ = some (.int .i64 U) := cell_of_row w1 w.heap.size 1 _ 30 (0, 0) g1
    have k2 : w1.cell? ⟨w.heap.size, 2, none⟩ = some (.string s) := cell_of_row w1 w.heap.size 2 _ 30 (0, 0) g1
    have hb := below_then hB0 hb1
    clear hb1 hO g0 g1 hB0
    generalize w.heap.size + 1 = n2 at *
    go_wp2_with (refine store_op rfl _ _ rfl _ _ _ _ _ _ _ _ rfl rfl _ _ _ _ _ _ _ ((hO1.alloc _).alloc _) ?_)
    refine ret_op2 (((hO1.alloc _).alloc _).set _ _ _ _ _ _ _) rfl rfl rfl rfl ?_
    exact ⟨rfl, below_setRow (below_alloc (below_alloc hb _) _) hn2 _⟩
  · have C1 := Lib.hid c1
    have C2 := Lib.hid c2
    clear c1 c2
    go_enter Try.func10, Try.ntmps10
    go_wp2_with fail
    have hB0 : Below w.heap.size w ((w.alloc (.cells #[.int .i64 K, .int .i64 U, .string s] 30)).alloc (.cells #[.int .i64 0, .int .i64 0, .int .i64 0, .int .i64 0, .int .i64 0, .int .i64 0, .string ⟨#[]⟩] 25)) := below_alloc (below_alloc (Below.refl _ _) _) _
    have hO : OpIn ((w.alloc (.cells #[.int .i64 K, .int .i64 U, .string s] 30)).alloc (.cells #[.int .i64 0, .int .i64 0, .int .i64 0, .int .i64 0, .int .i64 0, .int .i64 0, .string ⟨#[]⟩] 25)) (w.heap.size + 1) 0 0 0 0 0 0 ⟨#[]⟩ := by
      have h := OpIn.new (w.alloc (.cells #[.int .i64 K, .int .i64 U, .string s] 30)) 0 0 0 0 0 0 ⟨#[]⟩
      rwa [show (w.alloc (.cells #[.int .i64 K, .int .i64 U, .string s] 30)).heap.size = w.heap.size + 1 from alloc_size _ _] at h
    have g0 : ((w.alloc (.cells #[.int .i64 K, .int .i64 U, .string s] 30)).alloc (.cells #[.int .i64 0, .int .i64 0, .int .i64 0, .int .i64 0, .int .i64 0, .int .i64 0, .string ⟨#[]⟩] 25)).heap[w.heap.size]? = some (.cells #[.int .i64 K, .int .i64 U, .string s] 30 (0, 0)) := by
      rw [(below_alloc (Below.refl _ _) _).block _ (by rw [alloc_size]; exact Nat.lt_succ_self _)]; exact heap_alloc_new w _
    generalize ((w.alloc (.cells #[.int .i64 K, .int .i64 U, .string s] 30)).alloc (.cells #[.int .i64 0, .int .i64 0, .int .i64 0, .int .i64 0, .int .i64 0, .int .i64 0, .string ⟨#[]⟩] 25)) = W0 at *
    refine (C1.out _).mono ?_
    rintro x w1 ⟨rfl, hb1⟩
    have hO1 := hO.below hb1
    have g1 := (hb1.block _ (Nat.lt_of_le_of_lt (Nat.le_succ _) hO.lt)).trans g0
    have hz := hO1.lt
    have hn2 : w.heap.size ≤ w.heap.size + 1 := Nat.le_succ _
    have hlt : w.heap.size < w1.heap.size := by omega
    have hne : w.heap.size ≠ w1.heap.size := by omega
    have k0 : w1.cell? ⟨w.heap.size, 0, none⟩ = some (.int .i64 K) := cell_of_row w1 w.heap.size 0 _ 30 (0, 0) g1
    have k1 : w1.cell? ⟨w.heap.size, 1, none⟩ = some (.int .i64 U) := cell_of_row w1 w.heap.size 1 _ 30 (0, 0) g1
    have k2 : w1.cell? ⟨w.heap.size, 2, none⟩ = some (.string s) := cell_of_row w1 w.heap.size 2 _ 30 (0, 0) g1
    have hb := below_then hB0 hb1
    clear hb1 hO g0 g1 hB0
    generalize w.heap.size + 1 = n2 at *
    go_wp2_with fail
    have hO2 := (hO1.alloc (.cells #[.int .i64 X, .int .i64 Y] 23)).alloc (.cells #[.int .i64 X, .int .i64 Y, .int .i64 I, .int .i64 M, .int .i64 K, .int .i64 U, .string s] 25)
    have hP2 := OpIn.new (w1.alloc (.cells #[.int .i64 X, .int .i64 Y] 23)) X Y I M K U s
    rw [show (w1.alloc (.cells #[.int .i64 X, .int .i64 Y] 23)).heap.size = w1.heap.size + 1 from alloc_size _ _] at hP2
    have hb2 := below_alloc (below_alloc hb (.cells #[.int .i64 X, .int .i64 Y] 23)) (.cells #[.int .i64 X, .int .i64 Y, .int .i64 I, .int .i64 M, .int .i64 K, .int .i64 U, .string s] 25)
    clear k0 k1 k2 hlt hne hz hO1 hb
    generalize (w1.alloc (.cells #[.int .i64 X, .int .i64 Y] 23)).alloc (.cells #[.int .i64 X, .int .i64 Y, .int .i64 I, .int .i64 M, .int .i64 K, .int .i64 U, .string s] 25) = W2 at *
    generalize w1.heap.size + 1 = n3 at *
    refine (C2.out _).mono ?_
    rintro x w3 ⟨rfl, hb3⟩
    have hO3 := hO2.below hb3
    have hP3 := hP2.below hb3
    have hb := below_then hb2 hb3
    clear hO2 hP2 hb2 hb3
    cases b2
    · go_wp2_with (refine store_op rfl _ _ rfl _ _ _ _ _ _ _ _ rfl rfl _ _ _ _ _ _ _ hO3 ?_)
      refine ret_op2 (hO3.set _ _ _ _ _ _ _) rfl rfl rfl rfl ?_
      exact ⟨rfl, below_setRow hb hn2 _⟩
    · go_wp2_with (first | (refine store_op rfl _ _ rfl _ _ _ _ _ _ _ _ rfl rfl _ _ _ _ _ _ _ hO3 ?_) | (refine load_op rfl _ rfl _ rfl _ _ _ _ _ _ _ hP3 ?_))
      refine ret_op2 (hO3.set _ _ _ _ _ _ _) rfl rfl rfl rfl ?_
      exact ⟨rfl, below_setRow hb hn2 _⟩
end Go.Proofs.Ytkocehjomjaidaa
