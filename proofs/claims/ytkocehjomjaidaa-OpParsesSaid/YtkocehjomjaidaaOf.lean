/- What Parse gives, of the program and of the document: layer op. -/
import Derived.Test.YtkocehjomjaidaaOe
namespace Go.Proofs.Ytkocehjomjaidaa
open Go.RowKit Nam Cod

def parseOf (s : ByteArray) : Option Mv := (isOp s 0 false).bind fun x => if x.2 = s.size then some x.1 else none
def Mv.val (o : Mv) : Value := .agg #[.int .i64 o.C, .int .i64 o.D, .int .i64 o.I, .int .i64 o.M, .int .i64 o.K, .int .i64 o.U, .string o.s]

set_option maxRecDepth 100000 in
set_option maxHeartbeats 4000000 in
theorem opParse_any (s : ByteArray) (w : World) (hs : s.size ≤ 1000000) :
    Calls Try.prog 15 #[.string s] w fun e w' => e = .returned (.tuple #[((parseOf s).getD zeroMv).val, .bool (parseOf s).isSome]) ∧ Below w.heap.size w w' := by
  go_enter Try.func15, Try.ntmps15
  go_wp2_with fail
  have hR := Rd.new (w.alloc (.cells #[.int .i64 0, .int .i64 0, .int .i64 0, .int .i64 0, .int .i64 0, .int .i64 0, .string ⟨#[]⟩] 25)) 39 s 0 rfl
  rw [show (w.alloc (.cells #[.int .i64 0, .int .i64 0, .int .i64 0, .int .i64 0, .int .i64 0, .int .i64 0, .string ⟨#[]⟩] 25)).heap.size = w.heap.size + 1 from alloc_size _ _] at hR
  have hZ := (OpIn.new w 0 0 0 0 0 0 ⟨#[]⟩).alloc (.cells #[.string s, .int .i64 0, .bool false] 39)
  have hB := below_alloc (below_alloc (Below.refl w.heap.size w) (.cells #[.int .i64 0, .int .i64 0, .int .i64 0, .int .i64 0, .int .i64 0, .int .i64 0, .string ⟨#[]⟩] 25)) (.cells #[.string s, .int .i64 0, .bool false] 39)
  generalize (w.alloc (.cells #[.int .i64 0, .int .i64 0, .int .i64 0, .int .i64 0, .int .i64 0, .int .i64 0, .string ⟨#[]⟩] 25)).alloc (.cells #[.string s, .int .i64 0, .bool false] 39) = W0 at *
  obtain ⟨n2, h2⟩ : ∃ n, w.heap.size = n := ⟨_, rfl⟩
  obtain ⟨b, h3⟩ : ∃ n, w.heap.size + 1 = n := ⟨_, rfl⟩
  have hn2 : w.heap.size ≤ n2 := by omega
  have hnb : w.heap.size ≤ b := by omega
  have e2 : b ≠ n2 := by omega
  have i2 : some n2 ≠ some b := fun e => e2 (Option.some.inj e).symm
  rw [h3] at hR ⊢
  rw [h2] at hZ ⊢
  clear h2 h3
  refine (opRead_uni hs (Nat.zero_le _) hR).mono ?_
  rintro e w1 ⟨o, q, bad, rfl, hR1, hq, hg, st⟩
  have hB1 := below_by hB hg hnb
  have hZ1 := hZ.keep hg i2
  have hST := Lib.hid st
  clear hB hZ hR hg st
  have hO2 := OpIn.new w1 o.C o.D o.I o.M o.K o.U o.s
  have hR2 : Rd 39 (w1.alloc (.cells #[.int .i64 o.C, .int .i64 o.D, .int .i64 o.I, .int .i64 o.M, .int .i64 o.K, .int .i64 o.U, .string o.s] 25)) b s q bad := hR1.below (below_alloc (Below.refl _ _) _)
  have hZ2 := hZ1.alloc (.cells #[.int .i64 o.C, .int .i64 o.D, .int .i64 o.I, .int .i64 o.M, .int .i64 o.K, .int .i64 o.U, .string o.s] 25)
  have hB2 := below_alloc hB1 (.cells #[.int .i64 o.C, .int .i64 o.D, .int .i64 o.I, .int .i64 o.M, .int .i64 o.K, .int .i64 o.U, .string o.s] 25)
  clear hR1 hZ1 hB1
  go_wp2_with fail
  generalize w1.alloc (.cells #[.int .i64 o.C, .int .i64 o.D, .int .i64 o.I, .int .i64 o.M, .int .i64 o.K, .int .i64 o.U, .string o.s] 25) = W2 at *
  have cD := done_any hq hR2
  obtain ⟨d, hd⟩ : ∃ d, isDone s q bad = d := ⟨_, rfl⟩
  rw [hd] at cD
  refine cD.mono ?_
  rintro e w3 ⟨rfl, n, rfl⟩
  have hO3 : OpIn (W2.drewN n) w1.heap.size o.C o.D o.I o.M o.K o.U o.s := hO2
  have hZ3 : OpIn (W2.drewN n) n2 0 0 0 0 0 0 ⟨#[]⟩ := hZ2
  have hB3 := below_drew hB2 n
  have HD := Lib.hid hd
  clear cD hd hO2 hZ2 hB2 hR2
  generalize W2.drewN n = W3 at *
  cases d
  · have hp : parseOf s = none := by
      unfold parseOf
      rcases hST.out with ⟨h, rfl⟩ | ⟨h, _, _⟩
      · rw [h, Option.bind_some, if_neg]
        intro e
        have h := HD.out
        unfold isDone at h
        simp at h; exact h e
      · rw [h]; rfl
    have HP := Lib.hid hp
    clear HD hST hp
    go_wp2_with (refine store_op rfl _ _ rfl _ _ _ _ _ _ _ _ rfl rfl _ _ _ _ _ _ _ hZ3 ?_)
    refine ret_op2 (hZ3.set _ _ _ _ _ _ _) rfl rfl rfl rfl ?_
    exact ⟨by rw [HP.out]; rfl, below_setRow hB3 hn2 _⟩
  · have hp : parseOf s = some o := by
      unfold parseOf
      have hd := HD.out
      unfold isDone at hd
      rcases hST.out with ⟨h, rfl⟩ | ⟨h, _, rfl⟩
      · rw [h, Option.bind_some, if_pos (by simpa using hd)]
      · simp at hd
    have HP := Lib.hid hp
    clear HD hST hp
    go_wp2_with (first | (refine store_op rfl _ _ rfl _ _ _ _ _ _ _ _ rfl rfl _ _ _ _ _ _ _ hZ3 ?_) | (refine load_op rfl _ rfl _ rfl _ _ _ _ _ _ _ hO3 ?_))
    refine ret_op2 (hZ3.set _ _ _ _ _ _ _) rfl rfl rfl rfl ?_
    exact ⟨by rw [HP.out]; rfl, below_setRow hB3 hn2 _⟩

set_option maxRecDepth 100000 in
set_option maxHeartbeats 4000000 in
theorem opRefParse_any (s : ByteArray) (w : World) (hs : s.size ≤ 1000000) :
    Calls Try.prog 16 #[.string s] w fun e w' => e = .returned (.tuple #[((parseOf s).getD zeroMv).val, .bool (parseOf s).isSome]) ∧ Below w.heap.size w w' := by
  go_enter Try.func16, Try.ntmps16
  go_wp2_with fail
  have hR := Rd.new (w.alloc (.cells #[.int .i64 0, .int .i64 0, .int .i64 0, .int .i64 0, .int .i64 0, .int .i64 0, .string ⟨#[]⟩] 25)) 52 s 0 rfl
  rw [show (w.alloc (.cells #[.int .i64 0, .int .i64 0, .int .i64 0, .int .i64 0, .int .i64 0, .int .i64 0, .string ⟨#[]⟩] 25)).heap.size = w.heap.size + 1 from alloc_size _ _] at hR
  have hZ := (OpIn.new w 0 0 0 0 0 0 ⟨#[]⟩).alloc (.cells #[.string s, .int .i64 0, .bool false] 52)
  have hB := below_alloc (below_alloc (Below.refl w.heap.size w) (.cells #[.int .i64 0, .int .i64 0, .int .i64 0, .int .i64 0, .int .i64 0, .int .i64 0, .string ⟨#[]⟩] 25)) (.cells #[.string s, .int .i64 0, .bool false] 52)
  generalize (w.alloc (.cells #[.int .i64 0, .int .i64 0, .int .i64 0, .int .i64 0, .int .i64 0, .int .i64 0, .string ⟨#[]⟩] 25)).alloc (.cells #[.string s, .int .i64 0, .bool false] 52) = W0 at *
  obtain ⟨n2, h2⟩ : ∃ n, w.heap.size = n := ⟨_, rfl⟩
  obtain ⟨b, h3⟩ : ∃ n, w.heap.size + 1 = n := ⟨_, rfl⟩
  have hn2 : w.heap.size ≤ n2 := by omega
  have hnb : w.heap.size ≤ b := by omega
  have e2 : b ≠ n2 := by omega
  have i2 : some n2 ≠ some b := fun e => e2 (Option.some.inj e).symm
  rw [h3] at hR ⊢
  rw [h2] at hZ ⊢
  clear h2 h3
  refine (opRefRead_uni hs (Nat.zero_le _) hR).mono ?_
  rintro e w1 ⟨o, q, bad, rfl, hR1, hq, hg, st⟩
  have hB1 := below_by hB hg hnb
  have hZ1 := hZ.keep hg i2
  have hST := Lib.hid st
  clear hB hZ hR hg st
  have hO2 := OpIn.new w1 o.C o.D o.I o.M o.K o.U o.s
  have hR2 : Rd 52 (w1.alloc (.cells #[.int .i64 o.C, .int .i64 o.D, .int .i64 o.I, .int .i64 o.M, .int .i64 o.K, .int .i64 o.U, .string o.s] 25)) b s q bad := hR1.below (below_alloc (Below.refl _ _) _)
  have hZ2 := hZ1.alloc (.cells #[.int .i64 o.C, .int .i64 o.D, .int .i64 o.I, .int .i64 o.M, .int .i64 o.K, .int .i64 o.U, .string o.s] 25)
  have hB2 := below_alloc hB1 (.cells #[.int .i64 o.C, .int .i64 o.D, .int .i64 o.I, .int .i64 o.M, .int .i64 o.K, .int .i64 o.U, .string o.s] 25)
  clear hR1 hZ1 hB1
  go_wp2_with fail
  generalize w1.alloc (.cells #[.int .i64 o.C, .int .i64 o.D, .int .i64 o.I, .int .i64 o.M, .int .i64 o.K, .int .i64 o.U, .string o.s] 25) = W2 at *
  have cD := refDone_any hR2
  obtain ⟨d, hd⟩ : ∃ d, isDone s q bad = d := ⟨_, rfl⟩
  rw [hd] at cD
  refine cD.mono ?_
  rintro e w3 ⟨rfl, n, rfl⟩
  have hO3 : OpIn (W2.drewN n) w1.heap.size o.C o.D o.I o.M o.K o.U o.s := hO2
  have hZ3 : OpIn (W2.drewN n) n2 0 0 0 0 0 0 ⟨#[]⟩ := hZ2
  have hB3 := below_drew hB2 n
  have HD := Lib.hid hd
  clear cD hd hO2 hZ2 hB2 hR2
  generalize W2.drewN n = W3 at *
  cases d
  · have hp : parseOf s = none := by
      unfold parseOf
      rcases hST.out with ⟨h, rfl⟩ | ⟨h, _, _⟩
      · rw [h, Option.bind_some, if_neg]
        intro e
        have h := HD.out
        unfold isDone at h
        simp at h; exact h e
      · rw [h]; rfl
    have HP := Lib.hid hp
    clear HD hST hp
    go_wp2_with (refine store_op rfl _ _ rfl _ _ _ _ _ _ _ _ rfl rfl _ _ _ _ _ _ _ hZ3 ?_)
    refine ret_op2 (hZ3.set _ _ _ _ _ _ _) rfl rfl rfl rfl ?_
    exact ⟨by rw [HP.out]; rfl, below_setRow hB3 hn2 _⟩
  · have hp : parseOf s = some o := by
      unfold parseOf
      have hd := HD.out
      unfold isDone at hd
      rcases hST.out with ⟨h, rfl⟩ | ⟨h, _, rfl⟩
      · rw [h, Option.bind_some, if_pos (by simpa using hd)]
      · simp at hd
    have HP := Lib.hid hp
    clear HD hST hp
    go_wp2_with (first | (refine store_op rfl _ _ rfl _ _ _ _ _ _ _ _ rfl rfl _ _ _ _ _ _ _ hZ3 ?_) | (refine load_op rfl _ rfl _ rfl _ _ _ _ _ _ _ hO3 ?_))
    refine ret_op2 (hZ3.set _ _ _ _ _ _ _) rfl rfl rfl rfl ?_
    exact ⟨by rw [HP.out]; rfl, below_setRow hB3 hn2 _⟩
end Go.Proofs.Ytkocehjomjaidaa
