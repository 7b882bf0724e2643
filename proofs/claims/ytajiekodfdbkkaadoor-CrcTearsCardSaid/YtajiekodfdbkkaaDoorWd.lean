/- Seal and Open, of both. -/
import Derived.Test.YtajiekodfdbkkaaDoorWc
import Derived.Lib.SmallJoins
namespace Go.Proofs.YtajiekodfdbkkaaDoor
open Go.RowKit Crc

/-- What was there reads as it did. -/
theorem bcell {W w1 : World} (hb : Below W.heap.size W w1) : (∀ b o, b < W.heap.size → w1.cell? ⟨b, o, none⟩ = W.cell? ⟨b, o, none⟩) ∧ (∀ b o, b < W.heap.size → w1.frozen? ⟨b, o, none⟩ = W.frozen? ⟨b, o, none⟩) :=
  ⟨fun b o h => hb.cell (p := ⟨b, o, none⟩) h, fun b o h => hb.frozen (p := ⟨b, o, none⟩) h⟩
theorem below_then {w w1 w2 : World} (h : Below w.heap.size w w1) (k : Below w1.heap.size w1 w2) : Below w.heap.size w w2 := h.trans (k.mono h.size)
theorem below_alloc {w w1 : World} (h : Below w.heap.size w w1) (o : Obj) : Below w.heap.size w (w1.alloc o) := h.alloc h.size o
theorem laid_below {w w1 : World} (h : Laid w) (k : Below w.heap.size w w1) : Laid w1 :=
  ⟨Nat.lt_of_lt_of_le h.1 k.size, fun i hi => by rw [(bcell k).1 _ _ h.1]; exact h.2 i hi⟩
theorem laid_drewN {w : World} (h : Laid w) (n : Nat) : Laid (w.drewN n) := h

def sumB (s : ByteArray) : Nat := (sumOf s.data.toList).toNat
theorem sumB_lt (s : ByteArray) : sumB s < 4294967296 := (sumOf s.data.toList).isLt
theorem sumB_any (s : ByteArray) (w : World) (hs : s.size ≤ 1000000) (hL : Laid w) :
    Calls Tryd.prog 10 #[.string s] w fun e w' => e = .returned (.int .u32 (sumB s)) ∧ w = w' := sum_any s w (by unfold maxLen; omega) hL
theorem refSumB_any (s : ByteArray) (w : World) (hs : s.size ≤ 1000000) :
    Calls Tryd.prog 11 #[.string s] w fun e w' => e = .returned (.int .u32 (sumB s)) ∧ w = w' := refSum_any s w (by unfold maxLen; omega)
def sealOf (s : ByteArray) : ByteArray := four s.size ++ four (sumB s) ++ s

set_option maxHeartbeats 4000000 in
theorem seal_any (s : ByteArray) (w : World) (hs : s.size ≤ 1000000) (hL : Laid w) :
    Calls Tryd.prog 12 #[.string s] w fun e w' => e = .returned (.string (sealOf s)) ∧ Below w.heap.size w w' := by
  have HL := Lib.hid hL
  clear hL
  have hsu := sumB_lt s
  unfold sealOf
  have f4 : (four s.size).size ≤ 4 := by rw [four_size]; omega
  have f5 : (four (sumB s)).size ≤ 4 := by rw [four_size]; omega
  go_enter Tryd.func12, Tryd.ntmps12
  go_wp2_with (first | (go_at_call 10; (with_reducible refine (sumB_any s w1 hs (laid_below HL.out hb1)).mono ?_); rintro e w2 ⟨rfl, rfl⟩) | (go_at_call 14; (with_reducible refine (four_any (sumB s) w1 (by omega)).mono ?_); rintro e w3 ⟨rfl, hb3⟩) | (go_at_call 14; (with_reducible refine (four_any s.size w (by omega)).mono ?_); rintro e w1 ⟨rfl, hb1⟩))
  go_ret
  exact ⟨rfl, below_then hb1 hb3⟩

set_option maxHeartbeats 4000000 in
theorem refSeal_any (s : ByteArray) (w : World) (hs : s.size ≤ 1000000) :
    Calls Tryd.prog 13 #[.string s] w fun e w' => e = .returned (.string (sealOf s)) ∧ Below w.heap.size w w' := by
  have hsu := sumB_lt s
  unfold sealOf
  have f4 : (four s.size).size ≤ 4 := by rw [four_size]; omega
  have f5 : (four (sumB s)).size ≤ 4 := by rw [four_size]; omega
  go_enter Tryd.func13, Tryd.ntmps13
  go_wp2_with (first | (go_at_call 11; (with_reducible refine (refSumB_any s w1 hs).mono ?_); rintro e w2 ⟨rfl, rfl⟩) | (go_at_call 15; (with_reducible refine (refFour_any (sumB s) w1 (by omega)).mono ?_); rintro e w3 ⟨rfl, hb3⟩) | (go_at_call 15; (with_reducible refine (refFour_any s.size w (by omega)).mono ?_); rintro e w1 ⟨rfl, hb1⟩))
  go_ret
  exact ⟨rfl, below_then hb1 hb3⟩


theorem quiet_same {f : FuncId} {args : Array Value} {w : World} {n : Nat} {v : Value}
    (h : Calls Tryd.prog f args (w.drewN n) fun e w' => e = .returned v ∧ w.drewN n = w') : Calls Tryd.prog f args (w.drewN n) fun e w'' => e = .returned v ∧ ∃ m, w'' = w.drewN m :=
  h.mono fun _ _ ⟨he, hm⟩ => ⟨he, n, hm.symm⟩

theorem open_short (s : ByteArray) (w : World) (h : s.size < 8) :
    Calls Tryd.prog 8 #[.string s] w fun e w' => e = .returned (.tuple #[.string ⟨#[]⟩, .int .i64 (-1)]) ∧ Below w.heap.size w w' := by
  go_enter Tryd.func8, Tryd.ntmps8
  go_wp2
  go_ret2
  exact ⟨rfl, Below.refl _ _⟩

set_option maxHeartbeats 4000000 in
theorem open_over (s r : ByteArray) (w : World) (hs : s.size ≤ 1000000) (h8 : 8 ≤ s.size) (hr : s.extract 8 s.size = r) (hrs : r.size + 8 = s.size) (hn : r.size < num s) :
    Calls Tryd.prog 8 #[.string s] w fun e w' => e = .returned (.tuple #[.string ⟨#[]⟩, .int .i64 (-1)]) ∧ Below w.heap.size w w' := by
  obtain ⟨N, hN⟩ : ∃ N, num s = N := ⟨_, rfl⟩
  have cN : ∀ n, Calls Tryd.prog 16 #[.string s] (w.drewN n) fun e w'' => e = .returned (.int .u32 N) ∧ ∃ m, w'' = w.drewN m := fun n => by rw [← hN]; exact Calls.quiet_of (number_any s _ (by omega))
  have hlt := num_lt s
  rw [hN] at hn hlt
  have hw : IntKind.i64.wrap (N : Int) = (N : Int) := IntWalk.i64_in _ (by omega)
  have hd : decide ((r.size : Int) < (N : Int)) = true := decide_eq_true (by omega)
  have hrs1 : r.size + 8 ≤ s.size := by omega
  have hrs2 : s.size ≤ r.size + 8 := by omega
  have h80 : (8 : Int) ≤ (s.size : Int) := by omega
  clear hN hrs
  go_enter Tryd.func8, Tryd.ntmps8
  go_wp2
  go_quiet ((go_at_call 16; exact cN _))
  go_wp2_with fail
  go_quiet (fail)
  go_wp2
  go_ret2
  exact ⟨rfl, rfl, rfl, rfl, Nat.le_refl _, fun _ _ => rfl⟩

set_option maxHeartbeats 4000000 in
theorem open_whole (s r q d : ByteArray) (w : World) (hL : Laid w) (hs : s.size ≤ 1000000) (h8 : 8 ≤ s.size) (hr : s.extract 8 s.size = r) (hrs : r.size + 8 = s.size) (hn : num s ≤ r.size) (hq : s.extract 4 s.size = q) (hqs : q.size + 4 = s.size)
    (hd : r.extract 0 (num s) = d) (hds : d.size ≤ 1000000) (hxy : sumB d = num q) :
    Calls Tryd.prog 8 #[.string s] w fun e w' => e = .returned (.tuple #[.string d, .int .i64 (8 + (num s : Int))]) ∧ Below w.heap.size w w' := by
  obtain ⟨N, hN⟩ : ∃ N, num s = N := ⟨_, rfl⟩
  obtain ⟨Y, hY⟩ : ∃ Y, num q = Y := ⟨_, rfl⟩
  have c1 : ∀ n, Calls Tryd.prog 16 #[.string s] (w.drewN n) fun e w'' => e = .returned (.int .u32 N) ∧ ∃ m, w'' = w.drewN m := fun n => by rw [← hN]; exact Calls.quiet_of (number_any s _ (by omega))
  have c2 : ∀ (v : World) (n : Nat), Calls Tryd.prog 16 #[.string q] (v.drewN n) fun e w'' => e = .returned (.int .u32 Y) ∧ ∃ m, w'' = v.drewN m := fun v n => by rw [← hY]; exact Calls.quiet_of (number_any q _ (by omega))
  have c3 : ∀ (v : World) (_ : Laid v) (n : Nat), Calls Tryd.prog 10 #[.string d] (v.drewN n) fun e w'' => e = .returned (.int .u32 Y) ∧ ∃ m, w'' = v.drewN m := fun v hv n => by rw [← hY, ← hxy]; exact quiet_same (sumB_any d _ hds (laid_drewN hv n))
  have hlt := num_lt s
  rw [hN] at hn hlt hd
  rw [hN]
  have hw : IntKind.i64.wrap (N : Int) = (N : Int) := IntWalk.i64_in _ (by omega)
  have hg : decide (r.size < N) = false := decide_eq_false (by omega)
  have hrs1 : r.size + 8 ≤ s.size := by omega
  have hrs2 : s.size ≤ r.size + 8 := by omega
  have h80 : (8 : Int) ≤ (s.size : Int) := by omega
  have h40 : (4 : Int) ≤ (s.size : Int) := by omega
  have hn0 : (N : Int) ≤ (r.size : Int) := by omega
  clear hN hY hrs hqs hxy
  have HL := Lib.hid hL
  clear hL
  go_enter Tryd.func8, Tryd.ntmps8
  go_wp2
  go_quiet ((go_at_call 16; exact c1 _))
  obtain ⟨v, hv⟩ : ∃ v, w.drewN nq = v := ⟨_, rfl⟩
  have HV := Lib.hid (show Laid v by rw [← hv]; exact laid_drewN HL.out nq)
  have HB := Lib.hid (show Below w.heap.size w v by rw [← hv]; exact Joins.below_draws _ _ _)
  rw [hv]
  clear hv
  go_wp2_with fail
  go_quiet ((first | (go_at_call 16; exact c2 _ _) | (go_at_call 10; exact c3 _ HV.out _)))
  go_wp2
  go_ret2
  exact ⟨rfl, below_then HB.out (Joins.below_draws _ _ _)⟩

set_option maxHeartbeats 4000000 in
theorem open_other (s r q d : ByteArray) (w : World) (hL : Laid w) (hs : s.size ≤ 1000000) (h8 : 8 ≤ s.size) (hr : s.extract 8 s.size = r) (hrs : r.size + 8 = s.size) (hn : num s ≤ r.size) (hq : s.extract 4 s.size = q) (hqs : q.size + 4 = s.size)
    (hd : r.extract 0 (num s) = d) (hds : d.size ≤ 1000000) (hxy : sumB d ≠ num q) :
    Calls Tryd.prog 8 #[.string s] w fun e w' => e = .returned (.tuple #[.string ⟨#[]⟩, .int .i64 (-1)]) ∧ Below w.heap.size w w' := by
  obtain ⟨N, hN⟩ : ∃ N, num s = N := ⟨_, rfl⟩
  obtain ⟨Y, hY⟩ : ∃ Y, num q = Y := ⟨_, rfl⟩
  obtain ⟨X, hX⟩ : ∃ X, sumB d = X := ⟨_, rfl⟩
  have c1 : ∀ n, Calls Tryd.prog 16 #[.string s] (w.drewN n) fun e w'' => e = .returned (.int .u32 N) ∧ ∃ m, w'' = w.drewN m := fun n => by rw [← hN]; exact Calls.quiet_of (number_any s _ (by omega))
  have c2 : ∀ (v : World) (n : Nat), Calls Tryd.prog 16 #[.string q] (v.drewN n) fun e w'' => e = .returned (.int .u32 Y) ∧ ∃ m, w'' = v.drewN m := fun v n => by rw [← hY]; exact Calls.quiet_of (number_any q _ (by omega))
  have c3 : ∀ (v : World) (_ : Laid v) (n : Nat), Calls Tryd.prog 10 #[.string d] (v.drewN n) fun e w'' => e = .returned (.int .u32 X) ∧ ∃ m, w'' = v.drewN m := fun v hv n => by rw [← hX]; exact quiet_same (sumB_any d _ hds (laid_drewN hv n))
  have hlt := num_lt s
  rw [hN] at hn hlt hd
  rw [hX, hY] at hxy
  have hxi : ¬ (X : Int) = (Y : Int) := by omega
  have hxb : ((X : Int) == (Y : Int)) = false := by simpa using hxi
  have hxn : ((X : Int) != (Y : Int)) = true := by simpa using hxi
  have hw : IntKind.i64.wrap (N : Int) = (N : Int) := IntWalk.i64_in _ (by omega)
  have hg : decide (r.size < N) = false := decide_eq_false (by omega)
  have hrs1 : r.size + 8 ≤ s.size := by omega
  have hrs2 : s.size ≤ r.size + 8 := by omega
  have h80 : (8 : Int) ≤ (s.size : Int) := by omega
  have h40 : (4 : Int) ≤ (s.size : Int) := by omega
  have hn0 : (N : Int) ≤ (r.size : Int) := by omega
  clear hN hY hX hrs hqs
  have HL := Lib.hid hL
  clear hL
  go_enter Tryd.func8, Tryd.ntmps8
  go_wp2
  go_quiet ((go_at_call 16; exact c1 _))
  obtain ⟨v, hv⟩ : ∃ v, w.drewN nq = v := ⟨_, rfl⟩
  have HV := Lib.hid (show Laid v by rw [← hv]; exact laid_drewN HL.out nq)
  have HB := Lib.hid (show Below w.heap.size w v by rw [← hv]; exact Joins.below_draws _ _ _)
  rw [hv]
  clear hv
  go_wp2_with fail
  go_quiet ((first | (go_at_call 16; exact c2 _ _) | (go_at_call 10; exact c3 _ HV.out _)))
  go_wp2
  go_ret2
  exact ⟨rfl, below_then HB.out (Joins.below_draws _ _ _)⟩

end Go.Proofs.YtajiekodfdbkkaaDoor
