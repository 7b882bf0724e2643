/- Texts laid one behind the other: Kd, Ke, Kf, Kg, Fa, Fb, Tm, Ta, Tb, Tn, To, Ge, Uo, Gr, Gf, Th, Ti, Tj, Tt. -/
import Derived.Test.YtndahomgglpdhaaDoorB02
import Derived.BigQuiet
import Derived.Deep.QuietTactic
import Derived.Laws.IdiomStrings
import Derived.Lib.SmallJoins
import Derived.WalkKit
import Derived.Lib.QuietBelow
import Derived.Laws.ResultCell
import Derived.Laws.CopyOwn
import Derived.Deep.SlicePairs
import Derived.ChangeSlices
import Derived.ChangeShapes
import Derived.Maps.AppendAt
import Derived.Laws.OwnMore
import Derived.Lib.AppendZeros
import Derived.Deep.RegionHeld3
import Derived.Laws.CopyRow
import Derived.StillTailTactics
import Derived.Lib.Builder
/- number and Four, of both. -/
namespace Go.Proofs.YtndahomgglpdhaaDoor.Crk
open Go.RowKit Crc

/-- The number of four bytes, the lowest first. -/
def num (s : ByteArray) : Nat := (s.data.toList.getD 0 0).toNat + 256 * (s.data.toList.getD 1 0).toNat + 65536 * (s.data.toList.getD 2 0).toNat + 16777216 * (s.data.toList.getD 3 0).toNat
theorem num_lt (s : ByteArray) : num s < 4294967296 := by
  unfold num
  have h0 := (s.data.toList.getD 0 0).toNat_lt
  have h1 := (s.data.toList.getD 1 0).toNat_lt
  have h2 := (s.data.toList.getD 2 0).toNat_lt
  have h3 := (s.data.toList.getD 3 0).toNat_lt
  omega
theorem getD_at (s : ByteArray) (i : Nat) (h : i < s.size) : s.data.toList.getD i 0 = s[i] := by
  have h2 : i < s.data.toList.length := by simpa using h
  rw [List.getD_eq_getElem?_getD, List.getElem?_eq_getElem h2]; rfl

theorem or_join (i : Nat) (x y : Nat) (hx : x < 2 ^ i) (hx2 : x < 4294967296) (hy : 2 ^ i * y < 4294967296) : bits .or .u32 (x : Int) ((2 ^ i * y : Nat) : Int) = ((x + 2 ^ i * y : Nat) : Int) := by
  rw [u32_or_nat _ _ hx2 hy, Nat.or_comm, ← Nat.two_pow_add_eq_or_of_lt hx y, Nat.add_comm]

theorem num_eqs (s : ByteArray) (hs : 4 ≤ s.size) : ∃ b0 b1 b2 b3 c1 c2 c3 o1 o2 : Nat,
    IntKind.u32.wrap (s[0].toNat : Int) = (b0 : Int) ∧ IntKind.u32.wrap (s[1].toNat : Int) = (b1 : Int) ∧ IntKind.u32.wrap (s[2].toNat : Int) = (b2 : Int) ∧ IntKind.u32.wrap (s[3].toNat : Int) = (b3 : Int) ∧
    IntKind.u32.wrap ((b1 : Int) * 256) = (c1 : Int) ∧ IntKind.u32.wrap ((b2 : Int) * 65536) = (c2 : Int) ∧ IntKind.u32.wrap ((b3 : Int) * 16777216) = (c3 : Int) ∧
    bits .or .u32 (b0 : Int) (c1 : Int) = (o1 : Int) ∧ bits .or .u32 (o1 : Int) (c2 : Int) = (o2 : Int) ∧ bits .or .u32 (o2 : Int) (c3 : Int) = (num s : Int) := by
  have h0 := s[0].toNat_lt
  have h1 := s[1].toNat_lt
  have h2 := s[2].toNat_lt
  have h3 := s[3].toNat_lt
  refine ⟨s[0].toNat, s[1].toNat, s[2].toNat, s[3].toNat, 2 ^ 8 * s[1].toNat, 2 ^ 16 * s[2].toNat, 2 ^ 24 * s[3].toNat, s[0].toNat + 2 ^ 8 * s[1].toNat, s[0].toNat + 2 ^ 8 * s[1].toNat + 2 ^ 16 * s[2].toNat, ?_, ?_, ?_, ?_, ?_, ?_, ?_, ?_, ?_, ?_⟩
  · exact IntWalk.u32_in _ (by omega)
  · exact IntWalk.u32_in _ (by omega)
  · exact IntWalk.u32_in _ (by omega)
  · exact IntWalk.u32_in _ (by omega)
  · rw [IntWalk.u32_in _ (by omega)]; simp; omega
  · rw [IntWalk.u32_in _ (by omega)]; simp; omega
  · rw [IntWalk.u32_in _ (by omega)]; simp; omega
  · exact or_join 8 _ _ (by omega) (by omega) (by omega)
  · exact or_join 16 _ _ (by omega) (by omega) (by omega)
  · rw [or_join 24 _ _ (by omega) (by omega) (by omega)]
    unfold num
    rw [getD_at s 0 (by omega), getD_at s 1 (by omega), getD_at s 2 (by omega), getD_at s 3 (by omega)]

set_option maxHeartbeats 4000000 in
theorem number_any (s : ByteArray) (w : World) (hs : 4 ≤ s.size) :
    Calls Tryd.prog 85 #[.string s] w fun e w' => e = .returned (.int .u32 (num s)) ∧ ∃ n, w' = w.drewN n := by
  have h0 : 0 < s.size := by omega
  have h1 : 1 < s.size := by omega
  have h2 : 2 < s.size := by omega
  have h3 : 3 < s.size := by omega
  have g0 : (0 : Int) < (s.size : Int) := by omega
  have g1 : (1 : Int) < (s.size : Int) := by omega
  have g2 : (2 : Int) < (s.size : Int) := by omega
  have g3 : (3 : Int) < (s.size : Int) := by omega
  obtain ⟨b0, b1, b2, b3, c1, c2, c3, o1, o2, e0, e1, e2, e3, f1, f2, f3, q1, q2, q3⟩ := num_eqs s hs
  generalize num s = N at q3 ⊢
  go_enter Tryd.func85, Tryd.ntmps85
  go_wp2
  go_quiet (fail)
  go_wp2
  go_ret
  exact ⟨rfl, _, rfl⟩

set_option maxHeartbeats 4000000 in
theorem refNumber_any (s : ByteArray) (w : World) (hs : 4 ≤ s.size) :
    Calls Tryd.prog 93 #[.string s] w fun e w' => e = .returned (.int .u32 (num s)) ∧ ∃ n, w' = w.drewN n := by
  have h0 : 0 < s.size := by omega
  have h1 : 1 < s.size := by omega
  have h2 : 2 < s.size := by omega
  have h3 : 3 < s.size := by omega
  have g0 : (0 : Int) < (s.size : Int) := by omega
  have g1 : (1 : Int) < (s.size : Int) := by omega
  have g2 : (2 : Int) < (s.size : Int) := by omega
  have g3 : (3 : Int) < (s.size : Int) := by omega
  obtain ⟨b0, b1, b2, b3, c1, c2, c3, o1, o2, e0, e1, e2, e3, f1, f2, f3, q1, q2, q3⟩ := num_eqs s hs
  generalize num s = N at q3 ⊢
  go_enter Tryd.func93, Tryd.ntmps93
  go_wp2
  go_quiet (fail)
  go_wp2
  go_ret
  exact ⟨rfl, _, rfl⟩

/-- A number in four bytes. -/
def fourL (n : Nat) : List UInt8 := [UInt8.ofNat (n % 256), UInt8.ofNat (n / 256 % 256), UInt8.ofNat (n / 65536 % 256), UInt8.ofNat (n / 16777216)]
def four (n : Nat) : ByteArray := ⟨(fourL n).toArray⟩
theorem four_size (n : Nat) : (four n).size = 4 := rfl

theorem four_conv (b0 b1 b2 b3 : UInt8) (w : World) :
    (convert 40 9 (.slice (some ⟨w.heap.size, 0, none⟩) 4 4)).run Tryd.prog (w.alloc (.cells #[.int .u8 b0.toNat, .int .u8 b1.toNat, .int .u8 b2.toNat, .int .u8 b3.toNat] 5)) =
      .ok (.string ⟨#[b0, b1, b2, b3]⟩) (w.alloc (.cells #[.int .u8 b0.toNat, .int .u8 b1.toNat, .int .u8 b2.toNat, .int .u8 b3.toNat] 5)) := by
  refine run_convert_bytes_back (P := Tryd.prog) _ 40 9 5 ⟨w.heap.size, 0, none⟩ 4 [b0, b1, b2, b3] Tryd.underlying40 Tryd.underlying5 Tryd.underlying9 ?_
  intro j hj
  match j, hj with
  | 0, _ => simp [Addr.add]
  | 1, _ => simp [Addr.add]
  | 2, _ => simp [Addr.add]
  | 3, _ => simp [Addr.add]

theorem ofNat_val (n : Nat) (h : n < 256) : ((UInt8.ofNat n).toNat : Int) = n := by
  rw [UInt8.toNat_ofNat']; omega

theorem four_eqs (n : Nat) (hn : n < 4294967296) : ∃ b0 b1 b2 b3 : UInt8, (n : Int) % 256 = (b0.toNat : Int) ∧ (n : Int) / 256 % 256 = (b1.toNat : Int) ∧ (n : Int) / 65536 % 256 = (b2.toNat : Int) ∧ (n : Int) / 16777216 = (b3.toNat : Int) ∧ four n = ⟨#[b0, b1, b2, b3]⟩ := by
  refine ⟨UInt8.ofNat (n % 256), UInt8.ofNat (n / 256 % 256), UInt8.ofNat (n / 65536 % 256), UInt8.ofNat (n / 16777216), ?_, ?_, ?_, ?_, rfl⟩
  · rw [ofNat_val _ (by omega)]; omega
  · rw [ofNat_val _ (by omega)]; omega
  · rw [ofNat_val _ (by omega)]; omega
  · rw [ofNat_val _ (by omega)]; omega

set_option maxHeartbeats 4000000 in
theorem four_any (n : Nat) (w : World) (hn : n < 4294967296) :
    Calls Tryd.prog 81 #[.int .u32 n] w fun e w' => e = .returned (.string (four n)) ∧ Below w.heap.size w w' := by
  obtain ⟨b0, b1, b2, b3, e0, e1, e2, e3, hf⟩ := four_eqs n hn
  rw [hf]
  clear hf
  have hc := four_conv b0 b1 b2 b3 w
  go_enter Tryd.func81, Tryd.ntmps81
  go_wp2
  go_ret
  exact ⟨rfl, (Below.refl _ _).alloc (Nat.le_refl _) _⟩

set_option maxHeartbeats 4000000 in
theorem refFour_any (n : Nat) (w : World) (hn : n < 4294967296) :
    Calls Tryd.prog 83 #[.int .u32 n] w fun e w' => e = .returned (.string (four n)) ∧ Below w.heap.size w w' := by
  obtain ⟨b0, b1, b2, b3, e0, e1, e2, e3, hf⟩ := four_eqs n hn
  rw [hf]
  clear hf
  have hc := four_conv b0 b1 b2 b3 w
  go_enter Tryd.func83, Tryd.ntmps83
  go_wp2
  go_ret
  exact ⟨rfl, (Below.refl _ _).alloc (Nat.le_refl _) _⟩

end Go.Proofs.YtndahomgglpdhaaDoor.Crk

/- Seal and Open, of both. -/
namespace Go.Proofs.YtndahomgglpdhaaDoor.Crk
open Go.RowKit Crc

/-- What was there reads as it did. -/
theorem bcell {W w1 : World} (hb : Below W.heap.size W w1) : (∀ b o, b < W.heap.size → w1.cell? ⟨b, o, none⟩ = W.cell? ⟨b, o, none⟩) ∧ (∀ b o, b < W.heap.size → w1.frozen? ⟨b, o, none⟩ = W.frozen? ⟨b, o, none⟩) :=
  ⟨fun b o h => hb.cell (p := ⟨b, o, none⟩) h, fun b o h => hb.frozen (p := ⟨b, o, none⟩) h⟩
theorem below_then {w w1 w2 : World} (h : Below w.heap.size w w1) (k : Below w1.heap.size w1 w2) : Below w.heap.size w w2 := h.trans (k.mono h.size)
theorem below_alloc {w w1 : World} (h : Below w.heap.size w w1) (o : Obj) : Below w.heap.size w (w1.alloc o) := h.alloc h.size o
theorem laid_below {w w1 : World} (h : Laid w) (k : Below w.heap.size w w1) : Laid w1 :=
  ⟨Nat.lt_of_lt_of_le h.1 k.size, fun i hi => by rw [(bcell k).1 _ _ h.1]; exact h.2 i hi⟩
theorem laid_drewN {w : World} (h : Laid w) (n : Nat) : Laid (w.drewN n) := h

def sumB (s : ByteArray) : Nat := (sumOf s.data.toList).toNat
theorem sumB_lt (s : ByteArray) : sumB s < 4294967296 := (sumOf s.data.toList).isLt
theorem sumB_any (s : ByteArray) (w : World) (hs : s.size ≤ 1000000) (hL : Laid w) :
    Calls Tryd.prog 82 #[.string s] w fun e w' => e = .returned (.int .u32 (sumB s)) ∧ w = w' := sum_any s w (by unfold maxLen; omega) hL
theorem refSumB_any (s : ByteArray) (w : World) (hs : s.size ≤ 1000000) :
    Calls Tryd.prog 84 #[.string s] w fun e w' => e = .returned (.int .u32 (sumB s)) ∧ w = w' := refSum_any s w (by unfold maxLen; omega)
def sealOf (s : ByteArray) : ByteArray := four s.size ++ four (sumB s) ++ s

set_option maxHeartbeats 4000000 in
theorem seal_any (s : ByteArray) (w : World) (hs : s.size ≤ 1000000) (hL : Laid w) :
    Calls Tryd.prog 46 #[.string s] w fun e w' => e = .returned (.string (sealOf s)) ∧ Below w.heap.size w w' := by
  have HL := Lib.hid hL
  clear hL
  have hsu := sumB_lt s
  unfold sealOf
  have f4 : (four s.size).size ≤ 4 := by rw [four_size]; omega
  have f5 : (four (sumB s)).size ≤ 4 := by rw [four_size]; omega
  go_enter Tryd.func46, Tryd.ntmps46
  go_wp2_with (first | (go_at_call 82; (with_reducible refine (sumB_any s w1 hs (laid_below HL.out hb1)).mono ?_); rintro e w2 ⟨rfl, rfl⟩) | (go_at_call 81; (with_reducible refine (four_any (sumB s) w1 (by omega)).mono ?_); rintro e w3 ⟨rfl, hb3⟩) | (go_at_call 81; (with_reducible refine (four_any s.size w (by omega)).mono ?_); rintro e w1 ⟨rfl, hb1⟩))
  go_ret
  exact ⟨rfl, below_then hb1 hb3⟩

set_option maxHeartbeats 4000000 in
theorem refSeal_any (s : ByteArray) (w : World) (hs : s.size ≤ 1000000) :
    Calls Tryd.prog 51 #[.string s] w fun e w' => e = .returned (.string (sealOf s)) ∧ Below w.heap.size w w' := by
  have hsu := sumB_lt s
  unfold sealOf
  have f4 : (four s.size).size ≤ 4 := by rw [four_size]; omega
  have f5 : (four (sumB s)).size ≤ 4 := by rw [four_size]; omega
  go_enter Tryd.func51, Tryd.ntmps51
  go_wp2_with (first | (go_at_call 84; (with_reducible refine (refSumB_any s w1 hs).mono ?_); rintro e w2 ⟨rfl, rfl⟩) | (go_at_call 83; (with_reducible refine (refFour_any (sumB s) w1 (by omega)).mono ?_); rintro e w3 ⟨rfl, hb3⟩) | (go_at_call 83; (with_reducible refine (refFour_any s.size w (by omega)).mono ?_); rintro e w1 ⟨rfl, hb1⟩))
  go_ret
  exact ⟨rfl, below_then hb1 hb3⟩


theorem quiet_same {f : FuncId} {args : Array Value} {w : World} {n : Nat} {v : Value}
    (h : Calls Tryd.prog f args (w.drewN n) fun e w' => e = .returned v ∧ w.drewN n = w') : Calls Tryd.prog f args (w.drewN n) fun e w'' => e = .returned v ∧ ∃ m, w'' = w.drewN m :=
  h.mono fun _ _ ⟨he, hm⟩ => ⟨he, n, hm.symm⟩

theorem open_short (s : ByteArray) (w : World) (h : s.size < 8) :
    Calls Tryd.prog 52 #[.string s] w fun e w' => e = .returned (.tuple #[.string ⟨#[]⟩, .int .i64 (-1)]) ∧ Below w.heap.size w w' := by
  go_enter Tryd.func52, Tryd.ntmps52
  go_wp2
  go_ret2
  exact ⟨rfl, Below.refl _ _⟩

set_option maxHeartbeats 4000000 in
theorem open_over (s r : ByteArray) (w : World) (hs : s.size ≤ 1000000) (h8 : 8 ≤ s.size) (hr : s.extract 8 s.size = r) (hrs : r.size + 8 = s.size) (hn : r.size < num s) :
    Calls Tryd.prog 52 #[.string s] w fun e w' => e = .returned (.tuple #[.string ⟨#[]⟩, .int .i64 (-1)]) ∧ Below w.heap.size w w' := by
  obtain ⟨N, hN⟩ : ∃ N, num s = N := ⟨_, rfl⟩
  have cN : ∀ n, Calls Tryd.prog 85 #[.string s] (w.drewN n) fun e w'' => e = .returned (.int .u32 N) ∧ ∃ m, w'' = w.drewN m := fun n => by rw [← hN]; exact Calls.quiet_of (number_any s _ (by omega))
  have hlt := num_lt s
  rw [hN] at hn hlt
  have hw : IntKind.i64.wrap (N : Int) = (N : Int) := IntWalk.i64_in _ (by omega)
  have hd : decide ((r.size : Int) < (N : Int)) = true := decide_eq_true (by omega)
  have hrs1 : r.size + 8 ≤ s.size := by omega
  have hrs2 : s.size ≤ r.size + 8 := by omega
  have h80 : (8 : Int) ≤ (s.size : Int) := by omega
  clear hN hrs
  go_enter Tryd.func52, Tryd.ntmps52
  go_wp2
  go_quiet ((go_at_call 85; exact cN _))
  go_wp2_with fail
  go_quiet (fail)
  go_wp2
  go_ret2
  exact ⟨rfl, rfl, rfl, rfl, Nat.le_refl _, fun _ _ => rfl⟩

set_option maxHeartbeats 4000000 in
theorem open_whole (s r q d : ByteArray) (w : World) (hL : Laid w) (hs : s.size ≤ 1000000) (h8 : 8 ≤ s.size) (hr : s.extract 8 s.size = r) (hrs : r.size + 8 = s.size) (hn : num s ≤ r.size) (hq : s.extract 4 s.size = q) (hqs : q.size + 4 = s.size)
    (hd : r.extract 0 (num s) = d) (hds : d.size ≤ 1000000) (hxy : sumB d = num q) :
    Calls Tryd.prog 52 #[.string s] w fun e w' => e = .returned (.tuple #[.string d, .int .i64 (8 + (num s : Int))]) ∧ Below w.heap.size w w' := by
  obtain ⟨N, hN⟩ : ∃ N, num s = N := ⟨_, rfl⟩
  obtain ⟨Y, hY⟩ : ∃ Y, num q = Y := ⟨_, rfl⟩
  have c1 : ∀ n, Calls Tryd.prog 85 #[.string s] (w.drewN n) fun e w'' => e = .returned (.int .u32 N) ∧ ∃ m, w'' = w.drewN m := fun n => by rw [← hN]; exact Calls.quiet_of (number_any s _ (by omega))
  have c2 : ∀ (v : World) (n : Nat), Calls Tryd.prog 85 #[.string q] (v.drewN n) fun e w'' => e = .returned (.int .u32 Y) ∧ ∃ m, w'' = v.drewN m := fun v n => by rw [← hY]; exact Calls.quiet_of (number_any q _ (by omega))
  have c3 : ∀ (v : World) (_ : Laid v) (n : Nat), Calls Tryd.prog 82 #[.string d] (v.drewN n) fun e w'' => e = .returned (.int .u32 Y) ∧ ∃ m, w'' = v.drewN m := fun v hv n => by rw [← hY, ← hxy]; exact quiet_same (sumB_any d _ hds (laid_drewN hv n))
  have hlt := num_lt s
  rw [hN] at hn hlt hd
  rw [hN]
  have hw : IntKind.i64.wrap (N : Int) = (N : Int) := IntWalk.i64_in _ (by omega)
  have hg : decide (r.size < N) = false := decide_eq_false (by omega)
  have hrs1 : r.size + 8 ≤ s.size := by omega
  have hrs2 : s.size ≤ r.size + 8 := by omega
  have h80 : (8 : Int) ≤ (s.size : Int) := by omega
  have h40 : (4 : Int) ≤ (s.size : Int) := by omega
  have hn0 : (N : Int) ≤ (r.size : Int) := by omega
  clear hN hY hrs hqs hxy
  have HL := Lib.hid hL
  clear hL
  go_enter Tryd.func52, Tryd.ntmps52
  go_wp2
  go_quiet ((go_at_call 85; exact c1 _))
  obtain ⟨v, hv⟩ : ∃ v, w.drewN nq = v := ⟨_, rfl⟩
  have HV := Lib.hid (show Laid v by rw [← hv]; exact laid_drewN HL.out nq)
  have HB := Lib.hid (show Below w.heap.size w v by rw [← hv]; exact Joins.below_draws _ _ _)
  rw [hv]
  clear hv
  go_wp2_with fail
  go_quiet ((first | (go_at_call 85; exact c2 _ _) | (go_at_call 82; exact c3 _ HV.out _)))
  go_wp2
  go_ret2
  exact ⟨rfl, below_then HB.out (Joins.below_draws _ _ _)⟩

set_option maxHeartbeats 4000000 in
theorem open_other (s r q d : ByteArray) (w : World) (hL : Laid w) (hs : s.size ≤ 1000000) (h8 : 8 ≤ s.size) (hr : s.extract 8 s.size = r) (hrs : r.size + 8 = s.size) (hn : num s ≤ r.size) (hq : s.extract 4 s.size = q) (hqs : q.size + 4 = s.size)
    (hd : r.extract 0 (num s) = d) (hds : d.size ≤ 1000000) (hxy : sumB d ≠ num q) :
    Calls Tryd.prog 52 #[.string s] w fun e w' => e = .returned (.tuple #[.string ⟨#[]⟩, .int .i64 (-1)]) ∧ Below w.heap.size w w' := by
  obtain ⟨N, hN⟩ : ∃ N, num s = N := ⟨_, rfl⟩
  obtain ⟨Y, hY⟩ : ∃ Y, num q = Y := ⟨_, rfl⟩
  obtain ⟨X, hX⟩ : ∃ X, sumB d = X := ⟨_, rfl⟩
  have c1 : ∀ n, Calls Tryd.prog 85 #[.string s] (w.drewN n) fun e w'' => e = .returned (.int .u32 N) ∧ ∃ m, w'' = w.drewN m := fun n => by rw [← hN]; exact Calls.quiet_of (number_any s _ (by omega))
  have c2 : ∀ (v : World) (n : Nat), Calls Tryd.prog 85 #[.string q] (v.drewN n) fun e w'' => e = .returned (.int .u32 Y) ∧ ∃ m, w'' = v.drewN m := fun v n => by rw [← hY]; exact Calls.quiet_of (number_any q _ (by omega))
  have c3 : ∀ (v : World) (_ : Laid v) (n : Nat), Calls Tryd.prog 82 #[.string d] (v.drewN n) fun e w'' => e = .returned (.int .u32 X) ∧ ∃ m, w'' = v.drewN m := fun v hv n => by rw [← hX]; exact quiet_same (sumB_any d _ hds (laid_drewN hv n))
  have hlt := num_lt s
  rw [hN] at hn hlt hd
  rw [hX, hY] at hxy
  have hxi : ¬ (X : Int) = (Y : Int) := by omega
  have hxb : ((X : Int) == (Y : Int)) = false := by simpa using hxi
  have hxn : ((X : Int) != (Y : Int)) = true := by simpa using hxi
  have hw : IntKind.i64.wrap (N : Int) = (N : Int) := IntWalk.i64_in _ (by omega)
  have hg : decide (r.size < N) = false := decide_eq_false (by omega)
  have hrs1 : r.size + 8 ≤ s.size := by omega
  have hrs2 : s.size ≤ r.size + 8 := by omega
  have h80 : (8 : Int) ≤ (s.size : Int) := by omega
  have h40 : (4 : Int) ≤ (s.size : Int) := by omega
  have hn0 : (N : Int) ≤ (r.size : Int) := by omega
  clear hN hY hX hrs hqs
  have HL := Lib.hid hL
  clear hL
  go_enter Tryd.func52, Tryd.ntmps52
  go_wp2
  go_quiet ((go_at_call 85; exact c1 _))
  obtain ⟨v, hv⟩ : ∃ v, w.drewN nq = v := ⟨_, rfl⟩
  have HV := Lib.hid (show Laid v by rw [← hv]; exact laid_drewN HL.out nq)
  have HB := Lib.hid (show Below w.heap.size w v by rw [← hv]; exact Joins.below_draws _ _ _)
  rw [hv]
  clear hv
  go_wp2_with fail
  go_quiet ((first | (go_at_call 85; exact c2 _ _) | (go_at_call 82; exact c3 _ HV.out _)))
  go_wp2
  go_ret2
  exact ⟨rfl, below_then HB.out (Joins.below_draws _ _ _)⟩

end Go.Proofs.YtndahomgglpdhaaDoor.Crk

/- Open of the document's answer; Open of both in one word each. -/
namespace Go.Proofs.YtndahomgglpdhaaDoor.Crk
open Go.RowKit Crc

theorem refOpen_short (s : ByteArray) (w : World) (h : s.size < 8) :
    Calls Tryd.prog 56 #[.string s] w fun e w' => e = .returned (.tuple #[.string ⟨#[]⟩, .int .i64 (-1)]) ∧ Below w.heap.size w w' := by
  go_enter Tryd.func56, Tryd.ntmps56
  go_wp2
  go_ret2
  exact ⟨rfl, Below.refl _ _⟩

theorem refNumber_then (s : ByteArray) (w : World) (N : Nat) (h : 4 ≤ s.size) (hN : num s = N) : Calls Tryd.prog 93 #[.string s] w fun e w'' => e = .returned (.int .u32 N) ∧ Below w.heap.size w w'' :=
  (refNumber_any s w h).mono fun e w' ⟨he, n, hn⟩ => ⟨by rw [he, hN], by rw [hn]; exact Joins.below_draws _ _ _⟩

set_option maxHeartbeats 4000000 in
theorem refOpen_over (s : ByteArray) (w : World) (hs : s.size ≤ 1000000) (h8 : 8 ≤ s.size) (hn : s.size < num s + 8) :
    Calls Tryd.prog 56 #[.string s] w fun e w' => e = .returned (.tuple #[.string ⟨#[]⟩, .int .i64 (-1)]) ∧ Below w.heap.size w w' := by
  obtain ⟨N, hN⟩ : ∃ N, num s = N := ⟨_, rfl⟩
  have HN := Lib.hid hN
  have hlt := num_lt s
  rw [hN] at hn hlt
  clear hN
  have hd : decide ((s.size : Int) - 8 < (N : Int)) = true := decide_eq_true (by omega)
  have hz : IntKind.i64.wrap ((s.size : Int) - 8) = (s.size : Int) - 8 := IntWalk.i64_in _ (by omega)
  go_enter Tryd.func56, Tryd.ntmps56
  go_wp2_with (go_at_call 93; (with_reducible refine (refNumber_then s _ N (by omega) HN.out).mono ?_); rintro e w1 ⟨rfl, hb1⟩)
  go_quiet (fail)
  go_wp2
  go_ret2
  exact ⟨rfl, below_then hb1 (Joins.below_draws _ _ _)⟩

set_option maxHeartbeats 4000000 in
theorem refOpen_whole (s q d : ByteArray) (w : World) (hs : s.size ≤ 1000000) (h8 : 8 ≤ s.size) (hn : num s + 8 ≤ s.size) (hq : s.extract 4 s.size = q) (hqs : q.size + 4 = s.size)
    (hd : s.extract 8 (8 + num s) = d) (hds : d.size ≤ 1000000) (hxy : sumB d = num q) :
    Calls Tryd.prog 56 #[.string s] w fun e w' => e = .returned (.tuple #[.string d, .int .i64 (8 + (num s : Int))]) ∧ Below w.heap.size w w' := by
  obtain ⟨N, hN⟩ : ∃ N, num s = N := ⟨_, rfl⟩
  obtain ⟨Y, hY⟩ : ∃ Y, num q = Y := ⟨_, rfl⟩
  have HN := Lib.hid hN
  have c2 : ∀ (v : World) (n : Nat), Calls Tryd.prog 93 #[.string q] (v.drewN n) fun e w'' => e = .returned (.int .u32 Y) ∧ ∃ m, w'' = v.drewN m := fun v n => by rw [← hY]; exact Calls.quiet_of (refNumber_any q _ (by omega))
  have c3 : ∀ (v : World) (n : Nat), Calls Tryd.prog 84 #[.string d] (v.drewN n) fun e w'' => e = .returned (.int .u32 Y) ∧ ∃ m, w'' = v.drewN m := fun v n => by rw [← hY, ← hxy]; exact quiet_same (refSumB_any d _ hds)
  have hlt := num_lt s
  rw [hN] at hn hlt hd
  rw [hN]
  have hg : decide ((s.size : Int) - 8 < (N : Int)) = false := decide_eq_false (by omega)
  have hz : IntKind.i64.wrap ((s.size : Int) - 8) = (s.size : Int) - 8 := IntWalk.i64_in _ (by omega)
  have hy : IntKind.i64.wrap (8 + (N : Int)) = 8 + (N : Int) := IntWalk.i64_in _ (by omega)
  have hy2 : (8 + (N : Int)).toNat = 8 + N := by omega
  have hy3 : 8 + (N : Int) ≤ (s.size : Int) := by omega
  have hy4 : 0 ≤ 8 + (N : Int) := by omega
  have hy5 : (8 : Int) ≤ 8 + (N : Int) := by omega
  have h40 : (4 : Int) ≤ (s.size : Int) := by omega
  clear hN hY hqs hxy
  go_enter Tryd.func56, Tryd.ntmps56
  go_wp2_with (go_at_call 93; (with_reducible refine (refNumber_then s _ N (by omega) HN.out).mono ?_); rintro e w1 ⟨rfl, hb1⟩)
  go_quiet ((first | (go_at_call 93; exact c2 _ _) | (go_at_call 84; exact c3 _ _)))
  clear hz hy hy2 hg
  go_wp2
  go_ret2
  exact ⟨by subst hd; rfl, below_then hb1 (Joins.below_draws _ _ _)⟩

set_option maxHeartbeats 4000000 in
theorem refOpen_other (s q d : ByteArray) (w : World) (hs : s.size ≤ 1000000) (h8 : 8 ≤ s.size) (hn : num s + 8 ≤ s.size) (hq : s.extract 4 s.size = q) (hqs : q.size + 4 = s.size)
    (hd : s.extract 8 (8 + num s) = d) (hds : d.size ≤ 1000000) (hxy : sumB d ≠ num q) :
    Calls Tryd.prog 56 #[.string s] w fun e w' => e = .returned (.tuple #[.string ⟨#[]⟩, .int .i64 (-1)]) ∧ Below w.heap.size w w' := by
  obtain ⟨N, hN⟩ : ∃ N, num s = N := ⟨_, rfl⟩
  obtain ⟨Y, hY⟩ : ∃ Y, num q = Y := ⟨_, rfl⟩
  have HN := Lib.hid hN
  obtain ⟨X, hX⟩ : ∃ X, sumB d = X := ⟨_, rfl⟩
  have c2 : ∀ (v : World) (n : Nat), Calls Tryd.prog 93 #[.string q] (v.drewN n) fun e w'' => e = .returned (.int .u32 Y) ∧ ∃ m, w'' = v.drewN m := fun v n => by rw [← hY]; exact Calls.quiet_of (refNumber_any q _ (by omega))
  have c3 : ∀ (v : World) (n : Nat), Calls Tryd.prog 84 #[.string d] (v.drewN n) fun e w'' => e = .returned (.int .u32 X) ∧ ∃ m, w'' = v.drewN m := fun v n => by rw [← hX]; exact quiet_same (refSumB_any d _ hds)
  have hlt := num_lt s
  rw [hN] at hn hlt hd
  rw [hX, hY] at hxy
  have hxi : ¬ (X : Int) = (Y : Int) := by omega
  have hxb : ((X : Int) == (Y : Int)) = false := by simpa using hxi
  have hxn : ((X : Int) != (Y : Int)) = true := by simpa using hxi
  have hg : decide ((s.size : Int) - 8 < (N : Int)) = false := decide_eq_false (by omega)
  have hz : IntKind.i64.wrap ((s.size : Int) - 8) = (s.size : Int) - 8 := IntWalk.i64_in _ (by omega)
  have hy : IntKind.i64.wrap (8 + (N : Int)) = 8 + (N : Int) := IntWalk.i64_in _ (by omega)
  have hy2 : (8 + (N : Int)).toNat = 8 + N := by omega
  have hy3 : 8 + (N : Int) ≤ (s.size : Int) := by omega
  have hy4 : 0 ≤ 8 + (N : Int) := by omega
  have hy5 : (8 : Int) ≤ 8 + (N : Int) := by omega
  have h40 : (4 : Int) ≤ (s.size : Int) := by omega
  clear hN hY hX hqs
  go_enter Tryd.func56, Tryd.ntmps56
  go_wp2_with (go_at_call 93; (with_reducible refine (refNumber_then s _ N (by omega) HN.out).mono ?_); rintro e w1 ⟨rfl, hb1⟩)
  go_quiet ((first | (go_at_call 93; exact c2 _ _) | (go_at_call 84; exact c3 _ _)))
  clear hz hy hy2 hg
  go_wp2
  go_ret2
  exact ⟨rfl, below_then hb1 (Joins.below_draws _ _ _)⟩

/-- What may be behind the head. -/
def bodyOf (s : ByteArray) : ByteArray := s.extract 8 (8 + num s)
/-- Does it begin with a Seal? -/
def isSeal (s : ByteArray) : Bool := decide (8 ≤ s.size ∧ num s + 8 ≤ s.size ∧ sumB (bodyOf s) = num (s.extract 4 s.size))
def opT (s : ByteArray) : ByteArray := if isSeal s then bodyOf s else ⟨#[]⟩
def opC (s : ByteArray) : Int := if isSeal s then 8 + (num s : Int) else -1

theorem size_ext (s : ByteArray) (i j : Nat) (h : i ≤ j) (h2 : j ≤ s.size) : (s.extract i j).size + i = j := by
  rw [ByteArray.size_extract]; omega

theorem open_any (s : ByteArray) (w : World) (hs : s.size ≤ 1000000) (hL : Laid w) :
    Calls Tryd.prog 52 #[.string s] w fun e w' => e = .returned (.tuple #[.string (opT s), .int .i64 (opC s)]) ∧ Below w.heap.size w w' := by
  by_cases h8 : 8 ≤ s.size
  · have hrs := size_ext s 8 s.size h8 (Nat.le_refl _)
    have hqs := size_ext s 4 s.size (by omega) (Nat.le_refl _)
    by_cases hn : num s + 8 ≤ s.size
    · have hd : (s.extract 8 s.size).extract 0 (num s) = bodyOf s := by
        rw [ByteArray.extract_extract, Nat.add_zero, Nat.min_eq_left (by omega)]; rfl
      have hds : (bodyOf s).size ≤ 1000000 := by unfold bodyOf; rw [ByteArray.size_extract]; omega
      by_cases hxy : sumB (bodyOf s) = num (s.extract 4 s.size)
      · have hg : isSeal s = true := decide_eq_true ⟨h8, hn, hxy⟩
        rw [opT, opC, if_pos hg, if_pos hg]
        exact open_whole s _ _ _ w hL hs h8 rfl hrs (by omega) rfl hqs hd hds hxy
      · have hg : ¬ isSeal s = true := fun h => hxy (of_decide_eq_true h).2.2
        rw [opT, opC, if_neg hg, if_neg hg]
        exact open_other s _ _ _ w hL hs h8 rfl hrs (by omega) rfl hqs hd hds hxy
    · have hg : ¬ isSeal s = true := fun h => hn (of_decide_eq_true h).2.1
      rw [opT, opC, if_neg hg, if_neg hg]
      exact open_over s _ w hs h8 rfl hrs (by omega)
  · have hg : ¬ isSeal s = true := fun h => h8 (of_decide_eq_true h).1
    rw [opT, opC, if_neg hg, if_neg hg]
    exact open_short s w (by omega)

theorem refOpen_all (s : ByteArray) (w : World) (hs : s.size ≤ 1000000) :
    Calls Tryd.prog 56 #[.string s] w fun e w' => e = .returned (.tuple #[.string (opT s), .int .i64 (opC s)]) ∧ Below w.heap.size w w' := by
  by_cases h8 : 8 ≤ s.size
  · have hqs := size_ext s 4 s.size (by omega) (Nat.le_refl _)
    by_cases hn : num s + 8 ≤ s.size
    · have hds : (bodyOf s).size ≤ 1000000 := by unfold bodyOf; rw [ByteArray.size_extract]; omega
      by_cases hxy : sumB (bodyOf s) = num (s.extract 4 s.size)
      · have hg : isSeal s = true := decide_eq_true ⟨h8, hn, hxy⟩
        rw [opT, opC, if_pos hg, if_pos hg]
        exact refOpen_whole s _ _ w hs h8 hn rfl hqs rfl hds hxy
      · have hg : ¬ isSeal s = true := fun h => hxy (of_decide_eq_true h).2.2
        rw [opT, opC, if_neg hg, if_neg hg]
        exact refOpen_other s _ _ w hs h8 hn rfl hqs rfl hds hxy
    · have hg : ¬ isSeal s = true := fun h => hn (of_decide_eq_true h).2.1
      rw [opT, opC, if_neg hg, if_neg hg]
      exact refOpen_over s w hs h8 (by omega)
  · have hg : ¬ isSeal s = true := fun h => h8 (of_decide_eq_true h).1
    rw [opT, opC, if_neg hg, if_neg hg]
    exact refOpen_short s w (by omega)

end Go.Proofs.YtndahomgglpdhaaDoor.Crk

/- What a Seal is, as lists of bytes: it is opened, whatever stands behind; what is opened was sealed just so; what is cut isn't open. -/
namespace Go.Proofs.YtndahomgglpdhaaDoor.Crk
open Go.RowKit Crc

abbrev L (s : ByteArray) : List UInt8 := s.data.toList
theorem L_inj {a b : ByteArray} (h : L a = L b) : a = b := by
  apply ByteArray.ext
  exact Array.toList_inj.1 h
theorem L_len (s : ByteArray) : (L s).length = s.size := Array.length_toList
theorem L_app (a b : ByteArray) : L (a ++ b) = L a ++ L b := by simp [L, ByteArray.data_append]
theorem L_ext (s : ByteArray) (i j : Nat) : L (s.extract i j) = ((L s).take j).drop i := by
  simp only [L, ByteArray.data_extract, Array.toList_extract]
  rw [List.extract_eq_take_drop, List.drop_take]

theorem L_four (n : Nat) : L (four n) = fourL n := rfl
theorem fourL_len (n : Nat) : (fourL n).length = 4 := rfl

/-- The number of the first four. -/
def numL (l : List UInt8) : Nat := (l.getD 0 0).toNat + 256 * (l.getD 1 0).toNat + 65536 * (l.getD 2 0).toNat + 16777216 * (l.getD 3 0).toNat
theorem num_L (s : ByteArray) : num s = numL (L s) := rfl

theorem u8_val (n : Nat) (h : n < 256) : (UInt8.ofNat n).toNat = n := by rw [UInt8.toNat_ofNat']; omega

theorem numL_four (n : Nat) (r : List UInt8) (h : n < 4294967296) : numL (fourL n ++ r) = n := by
  have h0 := u8_val (n % 256) (by omega)
  have h1 := u8_val (n / 256 % 256) (by omega)
  have h2 := u8_val (n / 65536 % 256) (by omega)
  have h3 := u8_val (n / 16777216) (by omega)
  have e : numL (fourL n ++ r) = (UInt8.ofNat (n % 256)).toNat + 256 * (UInt8.ofNat (n / 256 % 256)).toNat + 65536 * (UInt8.ofNat (n / 65536 % 256)).toNat + 16777216 * (UInt8.ofNat (n / 16777216)).toNat := rfl
  rw [e, h0, h1, h2, h3]
  omega

theorem fourL_num (l : List UInt8) (h : 4 ≤ l.length) : fourL (numL l) = l.take 4 := by
  match l, h with
  | a :: b :: c :: d :: r, _ =>
    have ha := a.toNat_lt
    have hb := b.toNat_lt
    have hc := c.toNat_lt
    have hd := d.toNat_lt
    have e : numL (a :: b :: c :: d :: r) = a.toNat + 256 * b.toNat + 65536 * c.toNat + 16777216 * d.toNat := rfl
    rw [e]
    have e0 : (a.toNat + 256 * b.toNat + 65536 * c.toNat + 16777216 * d.toNat) % 256 = a.toNat := by omega
    have e1 : (a.toNat + 256 * b.toNat + 65536 * c.toNat + 16777216 * d.toNat) / 256 % 256 = b.toNat := by omega
    have e2 : (a.toNat + 256 * b.toNat + 65536 * c.toNat + 16777216 * d.toNat) / 65536 % 256 = c.toNat := by omega
    have e3 : (a.toNat + 256 * b.toNat + 65536 * c.toNat + 16777216 * d.toNat) / 16777216 = d.toNat := by omega
    unfold fourL
    rw [e0, e1, e2, e3]
    simp

/-- A Seal's bytes. -/
theorem L_seal (s : ByteArray) : L (sealOf s) = fourL s.size ++ (fourL (sumB s) ++ L s) := by
  unfold sealOf
  rw [L_app, L_app, L_four, L_four, List.append_assoc]
theorem seal_size (s : ByteArray) : (sealOf s).size = 8 + s.size := by
  rw [← L_len, L_seal, List.length_append, List.length_append, fourL_len, fourL_len, L_len]; omega

/-- Whatever begins with those eight bytes. -/
theorem head_facts (t : ByteArray) (n m : Nat) (r : List UInt8) (hn : n < 4294967296) (hm : m < 4294967296) (h : L t = fourL n ++ (fourL m ++ r)) :
    t.size = 8 + r.length ∧ num t = n ∧ num (t.extract 4 t.size) = m ∧ L (bodyOf t) = r.take n := by
  have hs : t.size = 8 + r.length := by rw [← L_len, h, List.length_append, List.length_append, fourL_len, fourL_len]; omega
  have h1 : num t = n := by rw [num_L, h, numL_four n _ hn]
  refine ⟨hs, h1, ?_, ?_⟩
  · rw [num_L, L_ext, ← L_len, List.take_length, h, List.drop_left' (fourL_len n), numL_four m _ hm]
  · unfold bodyOf
    rw [h1, L_ext, h, ← List.append_assoc, show 8 + n = (fourL n ++ fourL m).length + n from rfl, List.take_length_add_append]
    exact List.drop_left' rfl

theorem sumB_L {a b : ByteArray} (h : L a = L b) : sumB a = sumB b := by rw [L_inj h]

/-- WHAT WAS SEALED IS OPENED, whatever stands behind. -/
theorem seal_opens (s b : ByteArray) (hs : s.size < 4294967296) : opT (sealOf s ++ b) = s ∧ opC (sealOf s ++ b) = 8 + (s.size : Int) := by
  have hL : L (sealOf s ++ b) = fourL s.size ++ (fourL (sumB s) ++ (L s ++ L b)) := by
    rw [L_app, L_seal, List.append_assoc, List.append_assoc]
  obtain ⟨h1, h2, h3, h4⟩ := head_facts _ _ _ _ hs (sumB_lt s) hL
  have h5 : bodyOf (sealOf s ++ b) = s := L_inj (by rw [h4, ← L_len]; exact List.take_left' rfl)
  have hg : isSeal (sealOf s ++ b) = true := by
    refine decide_eq_true ⟨by omega, ?_, ?_⟩
    · rw [h2, h1, List.length_append, L_len, L_len]; omega
    · rw [h5, h3]
  rw [opT, opC, if_pos hg, if_pos hg, h5, h2]
  exact ⟨rfl, rfl⟩

theorem seal_opens' (s : ByteArray) (hs : s.size < 4294967296) : opT (sealOf s) = s ∧ opC (sealOf s) = 8 + (s.size : Int) := by
  have h := seal_opens s ⟨#[]⟩ hs
  rwa [show sealOf s ++ ⟨#[]⟩ = sealOf s from L_inj (by rw [L_app]; exact List.append_nil _)] at h

/-- WHAT IS OPENED WAS SEALED JUST SO. -/
theorem opened_was (t : ByteArray) (h : isSeal t = true) : sealOf (opT t) = t.extract 0 (8 + num t) ∧ num t + 8 ≤ t.size := by
  obtain ⟨h8, hn, hx⟩ := of_decide_eq_true h
  refine ⟨L_inj ?_, hn⟩
  rw [opT, if_pos h, L_seal, hx]
  have hb : (bodyOf t).size = num t := by unfold bodyOf; rw [ByteArray.size_extract]; omega
  have hl : 8 ≤ (L t).length := by rw [L_len]; exact h8
  rw [hb, num_L t, fourL_num _ (by omega), num_L (t.extract 4 t.size), L_ext, ← L_len, List.take_length, fourL_num _ (by rw [List.length_drop]; omega)]
  unfold bodyOf
  rw [L_ext, L_ext, List.drop_zero, ← num_L]
  rw [← List.append_assoc]
  have e : (L t).take 4 ++ ((L t).drop 4).take 4 = (L t).take 8 := by rw [← List.take_add]
  rw [e, List.drop_take]
  rw [← List.take_add, Nat.add_sub_cancel_left]

/-- WHAT IS CUT ISN'T OPEN. -/
theorem cut_shut (s : ByteArray) (k : Nat) (hs : s.size < 4294967296) (hk : k < 8 + s.size) : opC ((sealOf s).extract 0 k) = -1 := by
  have hsz : ((sealOf s).extract 0 k).size = k := by rw [ByteArray.size_extract, seal_size]; omega
  have hg : ¬ isSeal ((sealOf s).extract 0 k) = true := by
    intro h
    obtain ⟨h8, hn, _⟩ := of_decide_eq_true h
    rw [hsz] at h8 hn
    have e : num ((sealOf s).extract 0 k) = s.size := by
      rw [num_L, L_ext, List.drop_zero, L_seal]
      have e2 : (fourL s.size ++ (fourL (sumB s) ++ L s)).take k = fourL s.size ++ (fourL (sumB s) ++ L s).take (k - 4) := by
        rw [List.take_append, List.take_of_length_le (by rw [fourL_len]; omega), fourL_len]
      rw [e2, numL_four _ _ hs]
    omega
  rw [opC, if_neg hg]

end Go.Proofs.YtndahomgglpdhaaDoor.Crk

/- Lists of things that have bytes, whatever the things: their bytes, what is read of bytes. Gifts and frames as values. No call in it. -/
namespace Go.Proofs.YtndahomgglpdhaaDoor
open Go.RowKit Nam Cod

structure Gf where
  d : Int
  i : Int
  c : Int
  t : Int
  s : ByteArray
def zeroGf : Gf := ⟨0, 0, 0, 0, ⟨#[]⟩⟩
def gfB (g : Gf) : Bool := decide (0 ≤ g.d ∧ g.d < 12 ∧ 1 ≤ g.i ∧ g.i ≤ 1099511627776 ∧ 0 ≤ g.c ∧ g.c ≤ 1099511627776 ∧ 0 ≤ g.t ∧ g.t ≤ 1099511627776 ∧ g.s.size ≤ 256)
def gfL (g : Gf) : List Int := [g.d, g.i, g.c, g.t]
def gfBytes (g : Gf) : ByteArray := bytesOf g.d ++ bytesOf g.i ++ bytesOf g.c ++ bytesOf g.t ++ textOf g.s
def isGf (s : ByteArray) (p : Nat) (bad : Bool) : Option (Gf × Nat) :=
  (isNum s p bad).bind fun a => (isNum s a.2 false).bind fun b => (isNum s b.2 false).bind fun c => (isNum s c.2 false).bind fun d => (isText s d.2 false 256).bind fun e =>
    if gfB ⟨a.1, b.1, c.1, d.1, e.1⟩ = true then some (⟨a.1, b.1, c.1, d.1, e.1⟩, e.2) else none
theorem gf_there (A Z : ByteArray) (g : Gf) (h : gfB g = true) : isGf (A ++ (gfBytes g ++ Z)) A.size false = some (g, A.size + (gfBytes g).size) := by
  have h' := h
  unfold gfB at h'
  rw [decide_eq_true_iff] at h'
  obtain ⟨d, i, c, t, s⟩ := g
  dsimp only at h'
  obtain ⟨X, hX⟩ : ∃ X, A ++ (gfBytes ⟨d, i, c, t, s⟩ ++ Z) = X := ⟨_, rfl⟩
  have h1 := num_atR X A (bytesOf i ++ (bytesOf c ++ (bytesOf t ++ (textOf s ++ Z)))) d A.size (by rw [← hX]; unfold gfBytes; simp only [ByteArray.append_assoc]) rfl (by unfold i64; omega)
  have h2 := num_atR X (A ++ bytesOf d) (bytesOf c ++ (bytesOf t ++ (textOf s ++ Z))) i (A.size + (bytesOf d).size) (by rw [← hX]; unfold gfBytes; simp only [ByteArray.append_assoc]) (by rw [ByteArray.size_append]) (by unfold i64; omega)
  have h3 := num_atR X (A ++ bytesOf d ++ bytesOf i) (bytesOf t ++ (textOf s ++ Z)) c (A.size + (bytesOf d).size + (bytesOf i).size) (by rw [← hX]; unfold gfBytes; simp only [ByteArray.append_assoc]) (by rw [ByteArray.size_append, ByteArray.size_append]) (by unfold i64; omega)
  have h4 := num_atR X (A ++ bytesOf d ++ bytesOf i ++ bytesOf c) (textOf s ++ Z) t (A.size + (bytesOf d).size + (bytesOf i).size + (bytesOf c).size) (by rw [← hX]; unfold gfBytes; simp only [ByteArray.append_assoc]) (by rw [ByteArray.size_append, ByteArray.size_append, ByteArray.size_append]) (by unfold i64; omega)
  have h5 := text_there (A ++ bytesOf d ++ bytesOf i ++ bytesOf c ++ bytesOf t) s Z 256 (by omega) (by omega)
  rw [show A ++ bytesOf d ++ bytesOf i ++ bytesOf c ++ bytesOf t ++ (textOf s ++ Z) = X by rw [← hX]; unfold gfBytes; simp only [ByteArray.append_assoc], ByteArray.size_append, ByteArray.size_append, ByteArray.size_append, ByteArray.size_append] at h5
  rw [hX]
  unfold isGf
  rw [h1, Option.bind_some]
  dsimp only
  rw [h2, Option.bind_some]
  dsimp only
  rw [h3, Option.bind_some]
  dsimp only
  rw [h4, Option.bind_some]
  dsimp only
  rw [h5, Option.bind_some]
  dsimp only
  rw [if_pos h]
  unfold gfBytes
  simp only [ByteArray.size_append, Nat.add_assoc]
theorem isGf_some {s : ByteArray} {p : Nat} {bad : Bool} {g : Gf} {q : Nat} (h : isGf s p bad = some (g, q)) : ∃ q1 q2 q3 q4, isNum s p bad = some (g.d, q1) ∧ isNum s q1 false = some (g.i, q2) ∧ isNum s q2 false = some (g.c, q3) ∧ isNum s q3 false = some (g.t, q4) ∧ isText s q4 false 256 = some (g.s, q) ∧ gfB g = true := by
  unfold isGf at h
  cases ha : isNum s p bad with
  | none => rw [ha] at h; cases h
  | some a =>
    obtain ⟨a, qa⟩ := a
    rw [ha, Option.bind_some] at h
    dsimp only at h
    cases hb : isNum s qa false with
    | none => rw [hb] at h; cases h
    | some b =>
      obtain ⟨b, qb⟩ := b
      rw [hb, Option.bind_some] at h
      dsimp only at h
      cases hc : isNum s qb false with
      | none => rw [hc] at h; cases h
      | some c =>
        obtain ⟨c, qc⟩ := c
        rw [hc, Option.bind_some] at h
        dsimp only at h
        cases hd : isNum s qc false with
        | none => rw [hd] at h; cases h
        | some d =>
          obtain ⟨d, qd⟩ := d
          rw [hd, Option.bind_some] at h
          dsimp only at h
          cases he : isText s qd false 256 with
          | none => rw [he] at h; cases h
          | some e =>
            obtain ⟨e, qe⟩ := e
            rw [he, Option.bind_some] at h
            dsimp only at h
            by_cases hg : gfB ⟨a, b, c, d, e⟩ = true
            · rw [if_pos hg] at h
              injection h with h
              injection h with h1 h2
              subst h1 h2
              exact ⟨qa, qb, qc, qd, rfl, hb, hc, hd, he, hg⟩
            · rw [if_neg hg] at h; cases h
theorem gf_bytes {s : ByteArray} {p : Nat} {bad : Bool} {g : Gf} {q : Nat} (h : isGf s p bad = some (g, q)) : gfB g = true ∧ (L s).drop p = L (gfBytes g) ++ (L s).drop q := by
  obtain ⟨q1, q2, q3, q4, h1, h2, h3, h4, h5, h6⟩ := isGf_some h
  refine ⟨h6, ?_⟩
  rw [num_bytesR h1, num_bytesR h2, num_bytesR h3, num_bytesR h4, text_bytes h5]
  unfold gfBytes
  simp only [L_app, List.append_assoc]
def opK : Kd Mv where
  ok := okB
  b o := o.bytes
  is := isOp
  there A Z x h := op_there' A Z h
  back h := op_bytes h
def enK : Kd En where
  ok := entB
  b := entBytes
  is := isEnt
  there A Z x h := ent_there A Z x h
  back h := ent_bytes h
def rpK : Kd Rp where
  ok := rpB
  b := rpBytes
  is := isRp
  there A Z x h := rp_there A Z (rpB_iff.1 h)
  back h := ⟨rpB_iff.2 (rp_bytes h).1, (rp_bytes h).2⟩
def gfK : Kd Gf where
  ok := gfB
  b := gfBytes
  is := isGf
  there := gf_there
  back h := gf_bytes h

structure Fr where
  a : Int
  b : Int
  boot : Int
  first : Int
  pos : Int
  start : Int
  ack : Int
  grant : Int
  s : Int
  t : Int
  os : List Mv
  rs : List Rp
  es : List En
  gs : List Gf
def zeroFr : Fr := ⟨0, 0, 0, 0, 0, 0, 0, 0, 0, 0, [], [], [], []⟩
def frL (f : Fr) : List Int := [f.a, f.b, f.boot, f.first, f.pos, f.start, f.ack, f.grant, f.s, f.t]
def fr6 (f : Fr) : List Int := [f.boot, f.pos, f.ack, f.grant, f.s, f.t]
def ofFr (l : List Int) (os : List Mv) (rs : List Rp) (es : List En) (gs : List Gf) : Fr := ⟨l.getD 0 0, l.getD 1 0, l.getD 2 0, l.getD 3 0, l.getD 4 0, l.getD 5 0, l.getD 6 0, l.getD 7 0, l.getD 8 0, l.getD 9 0, os, rs, es, gs⟩
theorem ofFr_self (f : Fr) : ofFr (frL f) f.os f.rs f.es f.gs = f := rfl
theorem frL_of {l : List Int} (h : l.length = 10) (os : List Mv) (rs : List Rp) (es : List En) (gs : List Gf) : frL (ofFr l os rs es gs) = l := by
  match l, h with
  | [_, _, _, _, _, _, _, _, _, _], _ => rfl
/-- What Right asks at its end. -/
def frEnd (f : Fr) : Bool := decide (0 ≤ f.a ∧ f.a < 12 ∧ 0 ≤ f.b ∧ f.b < 12 ∧ 1 ≤ f.first ∧ f.first ≤ 1099511627776 ∧ 1 ≤ f.start ∧ f.start ≤ 1099511627776 ∧ f.os.length ≤ 64 ∧ f.es.length ≤ 64 ∧ f.rs.length ≤ 8 ∧ f.gs.length ≤ 8)
def frB (f : Fr) : Bool := (fr6 f).all cnt0 && (f.os.all okB && (f.es.all entB && (f.rs.all rpB && (f.gs.all gfB && frEnd f))))
structure FrR (f : Fr) : Prop where
  six : ∀ n ∈ fr6 f, 0 ≤ n ∧ n ≤ 1099511627776
  os : ∀ x ∈ f.os, okB x = true
  es : ∀ x ∈ f.es, entB x = true
  rs : ∀ x ∈ f.rs, rpB x = true
  gs : ∀ x ∈ f.gs, gfB x = true
  e : 0 ≤ f.a ∧ f.a < 12 ∧ 0 ≤ f.b ∧ f.b < 12 ∧ 1 ≤ f.first ∧ f.first ≤ 1099511627776 ∧ 1 ≤ f.start ∧ f.start ≤ 1099511627776 ∧ f.os.length ≤ 64 ∧ f.es.length ≤ 64 ∧ f.rs.length ≤ 8 ∧ f.gs.length ≤ 8
theorem frB_iff {f : Fr} : frB f = true ↔ FrR f := by
  unfold frB frEnd
  simp only [Bool.and_eq_true, List.all_eq_true, decide_eq_true_iff]
  constructor
  · rintro ⟨h1, h2, h3, h4, h5, h6⟩
    exact ⟨fun n hn => by have := h1 n hn; unfold cnt0 at this; exact of_decide_eq_true this, h2, h3, h4, h5, h6⟩
  · rintro ⟨h1, h2, h3, h4, h5, h6⟩
    exact ⟨fun n hn => by unfold cnt0; exact decide_eq_true (h1 n hn), h2, h3, h4, h5, h6⟩
def bodyF (f : Fr) : ByteArray := catN (frL f) ++ (opK.part f.os ++ (rpK.part f.rs ++ (enK.part f.es ++ gfK.part f.gs)))
def frBytes (f : Fr) : ByteArray := Crk.sealOf (bodyF f)
def isBody (t : ByteArray) : Option Fr :=
  (isNums t 10 0).bind fun a => (opK.isPart 64 t a.2 false).bind fun b => (rpK.isPart 8 t b.2 false).bind fun c => (enK.isPart 64 t c.2 false).bind fun d => (gfK.isPart 8 t d.2 false).bind fun e =>
    if e.2 = t.size ∧ frB (ofFr a.1 b.1 c.1 d.1 e.1) = true then some (ofFr a.1 b.1 c.1 d.1 e.1) else none
def parseF (s : ByteArray) : Option Fr := if Crk.opC s = s.size ∧ s.size ≤ 65536 then isBody (Crk.opT s) else none
end Go.Proofs.YtndahomgglpdhaaDoor

/- Frames' bytes: there and back; what is cut or of which a byte is another one is none's. No call in it. -/
namespace Go.Proofs.YtndahomgglpdhaaDoor.Crk
open Go.RowKit Crc

theorem isSeal_of {t : ByteArray} (h : opC t = t.size) : isSeal t = true ∧ 8 + num t = t.size := by
  unfold opC at h
  by_cases g : isSeal t = true
  · rw [if_pos g] at h; exact ⟨g, by omega⟩
  · rw [if_neg g] at h; omega
theorem seal_of {t : ByteArray} (h : opC t = t.size) : sealOf (opT t) = t := by
  obtain ⟨g, h1⟩ := isSeal_of h
  rw [(opened_was t g).1, h1, ByteArray.extract_zero_size]
theorem fourL_inj {a b : Nat} (ha : a < 4294967296) (hb : b < 4294967296) (h : fourL a = fourL b) : a = b := by
  have h1 := numL_four a [] ha
  have h2 := numL_four b [] hb
  rw [h] at h1
  omega
/-- One byte is another one: it isn't open any more. -/
theorem turned_none (s t : ByteArray) (k : Nat) (m : UInt8) (hs : s.size < 4294967296) (hk : k < 8 + s.size) (hm : m ≠ 0) (h : L t = (L (sealOf s)).set k ((L (sealOf s)).getD k 0 ^^^ m)) : opC t ≠ t.size := by
  intro ho
  have hw := seal_of ho
  obtain ⟨u, hu⟩ : ∃ u, opT t = u := ⟨_, rfl⟩
  rw [hu] at hw
  have hsz : t.size = 8 + s.size := by
    have h2 := congrArg List.length h
    rw [List.length_set, L_len, L_len, seal_size] at h2
    exact h2
  have hus : u.size = s.size := by
    have h2 := seal_size u
    rw [hw] at h2
    omega
  rw [← hw, L_seal, L_seal, hus] at h
  have hx : ∀ (l : List UInt8) (j : Nat), (l.set j (l.getD j 0 ^^^ m)) = l → j < l.length → False := fun l j e hj => by
    have h1 : (l.set j (l.getD j 0 ^^^ m))[j]? = l[j]? := by rw [e]
    rw [List.getElem?_set_self hj, List.getD_eq_getElem?_getD, List.getElem?_eq_getElem hj] at h1
    simp only [Option.getD_some, Option.some.injEq] at h1
    apply hm
    have h2 : l[j] ^^^ (l[j] ^^^ m) = l[j] ^^^ l[j] := by rw [h1]
    rw [← UInt8.xor_assoc, UInt8.xor_self, UInt8.zero_xor] at h2
    exact h2
  have hgd : ∀ (A B : List UInt8) (j : Nat), A.length ≤ j → (A ++ B).set j ((A ++ B).getD j 0 ^^^ m) = A ++ B.set (j - A.length) (B.getD (j - A.length) 0 ^^^ m) := fun A B j hj => by
    rw [List.set_append_right j _ hj, List.getD_eq_getElem?_getD, List.getElem?_append_right hj, ← List.getD_eq_getElem?_getD]
  have hgl : ∀ (A B : List UInt8) (j : Nat), j < A.length → (A ++ B).set j ((A ++ B).getD j 0 ^^^ m) = A.set j (A.getD j 0 ^^^ m) ++ B := fun A B j hj => by
    rw [List.set_append_left j _ hj, List.getD_eq_getElem?_getD, List.getElem?_append_left hj, ← List.getD_eq_getElem?_getD]
  by_cases c1 : k < 4
  · rw [hgl _ _ k (by rw [fourL_len]; exact c1)] at h
    have h2 := (List.append_inj h (by rw [List.length_set])).1
    exact hx _ k h2.symm (by rw [fourL_len]; exact c1)
  · rw [hgd _ _ k (by rw [fourL_len]; omega)] at h
    have h2 := List.append_cancel_left h
    rw [fourL_len] at h2
    by_cases c2 : k < 8
    · rw [hgl _ _ (k - 4) (by rw [fourL_len]; omega)] at h2
      obtain ⟨h3, h4⟩ := List.append_inj h2 (by rw [List.length_set]; rfl)
      have h5 : sumB u = sumB s := sumB_L h4
      rw [h5] at h3
      exact hx _ (k - 4) h3.symm (by rw [fourL_len]; omega)
    · rw [hgd _ _ (k - 4) (by rw [fourL_len]; omega), fourL_len] at h2
      obtain ⟨h3, h4⟩ := List.append_inj h2 (by rw [fourL_len, fourL_len])
      have h5 : sumB u = sumB s := fourL_inj (sumB_lt u) (sumB_lt s) h3
      have hj : k - 4 - 4 < (L s).length := by rw [L_len]; omega
      obtain ⟨j, hjk⟩ : ∃ j, k - 4 - 4 = j := ⟨_, rfl⟩
      rw [hjk] at h4 hj
      have h6 : L s = (L s).take j ++ ([(L s)[j]] ++ (L s).drop (j + 1)) := by
        rw [List.singleton_append, List.getElem_cons_drop, List.take_append_drop]
      have h7 : L u = (L s).take j ++ (List.zipWith (· ^^^ ·) [(L s)[j]] [m] ++ (L s).drop (j + 1)) := by
        rw [h4, List.getD_eq_getElem?_getD, List.getElem?_eq_getElem hj, List.set_eq_take_append_cons_drop, if_pos hj]
        rfl
      have h8 : sumOf (L u) = sumOf (L s) := by
        have h9 : (sumOf (L u)).toNat = (sumOf (L s)).toNat := h5
        exact BitVec.eq_of_toNat_eq h9
      rw [h7] at h8
      have h10 : sumOf (L s) = sumOf ((L s).take j ++ ([(L s)[j]] ++ (L s).drop (j + 1))) := by rw [← h6]
      rw [h10] at h8
      exact hm (sum_turned _ [(L s)[j]] [m] _ rfl (by simp) h8 m (by simp))
end Go.Proofs.YtndahomgglpdhaaDoor.Crk
namespace Go.Proofs.YtndahomgglpdhaaDoor
open Go.RowKit Nam Cod

theorem frL_i64 {f : Fr} (h : FrR f) : ∀ n ∈ frL f, i64 n := fun n hn => by
  have h1 := fun n hn => h.six n hn
  have h2 := h.e
  unfold fr6 at h1
  unfold frL at hn
  simp only [List.mem_cons, List.not_mem_nil, or_false, forall_eq_or_imp, forall_eq] at hn h1
  unfold Go.Proofs.YtndahomgglpdhaaDoor.i64
  rcases hn with rfl | rfl | rfl | rfl | rfl | rfl | rfl | rfl | rfl | rfl <;> omega
theorem body_self {f : Fr} (h : FrR f) : isBody (bodyF f) = some f := by
  obtain ⟨Z, hZ⟩ : ∃ Z : ByteArray, Z = ⟨#[]⟩ := ⟨_, rfl⟩
  have hZ0 : ∀ x : ByteArray, x ++ Z = x := fun x => by rw [hZ]; exact L_inj (by rw [L_app]; simp [L])
  have he := h.e
  obtain ⟨X, hX⟩ : ∃ X, bodyF f = X := ⟨_, rfl⟩
  have hXs : catN (frL f) ++ (opK.part f.os ++ (rpK.part f.rs ++ (enK.part f.es ++ gfK.part f.gs))) = X := hX
  have h1 := nums_there (frL f) Z (opK.part f.os ++ (rpK.part f.rs ++ (enK.part f.es ++ gfK.part f.gs))) (frL_i64 h)
  have hZl : ∀ x : ByteArray, Z ++ x = x := fun x => by rw [hZ]; exact L_inj (by rw [L_app]; simp [L])
  have hZs : Z.size = 0 := by rw [hZ]; rfl
  rw [hZl, hXs, hZs, Nat.zero_add] at h1
  have h2 := opK.part_there 64 (by decide) f.os (catN (frL f)) (rpK.part f.rs ++ (enK.part f.es ++ gfK.part f.gs)) (by omega) h.os
  rw [hXs] at h2
  have h3 := rpK.part_there 8 (by decide) f.rs (catN (frL f) ++ opK.part f.os) (enK.part f.es ++ gfK.part f.gs) (by omega) h.rs
  rw [ByteArray.append_assoc, hXs, ByteArray.size_append] at h3
  have h4 := enK.part_there 64 (by decide) f.es (catN (frL f) ++ opK.part f.os ++ rpK.part f.rs) (gfK.part f.gs) (by omega) h.es
  rw [ByteArray.append_assoc, ByteArray.append_assoc, hXs, ByteArray.size_append, ByteArray.size_append] at h4
  have h5 := gfK.part_there 8 (by decide) f.gs (catN (frL f) ++ opK.part f.os ++ rpK.part f.rs ++ enK.part f.es) Z (by omega) h.gs
  rw [hZ0, ByteArray.append_assoc, ByteArray.append_assoc, ByteArray.append_assoc, hXs, ByteArray.size_append, ByteArray.size_append, ByteArray.size_append] at h5
  have hsz : X.size = (catN (frL f)).size + (opK.part f.os).size + (rpK.part f.rs).size + (enK.part f.es).size + (gfK.part f.gs).size := by
    rw [← hXs]; simp only [ByteArray.size_append]; omega
  rw [hX]
  unfold isBody
  rw [show (10 : Nat) = (frL f).length from rfl, h1, Option.bind_some]
  dsimp only
  rw [h2, Option.bind_some]
  dsimp only
  rw [h3, Option.bind_some]
  dsimp only
  rw [h4, Option.bind_some]
  dsimp only
  rw [h5, Option.bind_some]
  dsimp only
  rw [ofFr_self, if_pos ⟨hsz.symm, frB_iff.2 h⟩]
theorem isBody_some {t : ByteArray} {f : Fr} (h : isBody t = some f) : ∃ l q0 q1 q2 q3, isNums t 10 0 = some (l, q0) ∧ opK.isPart 64 t q0 false = some (f.os, q1) ∧ rpK.isPart 8 t q1 false = some (f.rs, q2) ∧ enK.isPart 64 t q2 false = some (f.es, q3) ∧ gfK.isPart 8 t q3 false = some (f.gs, t.size) ∧ f = ofFr l f.os f.rs f.es f.gs ∧ frB f = true := by
  unfold isBody at h
  cases ha : isNums t 10 0 with
  | none => rw [ha] at h; cases h
  | some a =>
    obtain ⟨a, qa⟩ := a
    rw [ha, Option.bind_some] at h
    dsimp only at h
    cases hb : opK.isPart 64 t qa false with
    | none => rw [hb] at h; cases h
    | some b =>
      obtain ⟨b, qb⟩ := b
      rw [hb, Option.bind_some] at h
      dsimp only at h
      cases hc : rpK.isPart 8 t qb false with
      | none => rw [hc] at h; cases h
      | some c =>
        obtain ⟨c, qc⟩ := c
        rw [hc, Option.bind_some] at h
        dsimp only at h
        cases hd : enK.isPart 64 t qc false with
        | none => rw [hd] at h; cases h
        | some d =>
          obtain ⟨d, qd⟩ := d
          rw [hd, Option.bind_some] at h
          dsimp only at h
          cases he : gfK.isPart 8 t qd false with
          | none => rw [he] at h; cases h
          | some e =>
            obtain ⟨e, qe⟩ := e
            rw [he, Option.bind_some] at h
            dsimp only at h
            by_cases hg : qe = t.size ∧ frB (ofFr a b c d e) = true
            · rw [if_pos hg] at h
              have h := Option.some.inj h
              subst h
              obtain ⟨rfl, hg⟩ := hg
              exact ⟨a, qa, qb, qc, qd, rfl, hb, hc, hd, he, rfl, hg⟩
            · rw [if_neg hg] at h; cases h
theorem body_bytes {t : ByteArray} {f : Fr} (h : isBody t = some f) : FrR f ∧ bodyF f = t := by
  obtain ⟨l, q0, q1, q2, q3, h0, h1, h2, h3, h4, h5, h6⟩ := isBody_some h
  refine ⟨frB_iff.1 h6, ?_⟩
  obtain ⟨g1, g2⟩ := nums_bytes _ _ _ _ _ h0
  obtain ⟨_, _, g3⟩ := opK.part_bytes h1
  obtain ⟨_, _, g4⟩ := rpK.part_bytes h2
  obtain ⟨_, _, g5⟩ := enK.part_bytes h3
  obtain ⟨_, _, g6⟩ := gfK.part_bytes h4
  have hl : frL f = l := by rw [h5]; exact frL_of g1 _ _ _ _
  apply L_inj
  rw [g3, g4, g5, g6, List.drop_zero] at g2
  have hn : (L t).drop t.size = [] := List.drop_eq_nil_of_le (by simp [L])
  rw [hn, List.append_nil] at g2
  unfold bodyF
  rw [hl, L_app, L_app, L_app, L_app, g2]
theorem bodyF_le {f : Fr} (h : FrR f) : (bodyF f).size ≤ 20000 := by
  have he := h.e
  have c10 : ∀ n : Nat, n ≤ 1000 → (bytesOf (n : Int)).size ≤ 10 := fun n hn => by rw [bytesOf_size]; exact enc_ten _ (fold_lt (n : Int) (by omega) (by omega))
  have h0 := catN_le (frL f) (frL_i64 h)
  rw [show (frL f).length = 10 from rfl] at h0
  have h1 := opK.cat_le 86 f.os (fun x hx => bytes_le (m := x) (h.os x hx))
  have h2 := rpK.cat_le 90 f.rs (fun x hx => by
    have := catN_le (rpL x) (rpB_iff.1 (h.rs x hx)).i64
    rw [show (rpL x).length = 9 from rfl] at this
    exact this)
  have h3 := enK.cat_le 96 f.es (fun x hx => ent_le (h.es x hx))
  have h4 := gfK.cat_le 310 f.gs (fun x hx => by
    have hg := h.gs x hx
    unfold gfB at hg
    rw [decide_eq_true_iff] at hg
    show (gfBytes x).size ≤ 310
    unfold gfBytes textOf
    have k1 : (bytesOf x.d).size ≤ 10 := by rw [bytesOf_size]; exact enc_ten _ (fold_lt _ (by omega) (by omega))
    have k2 : (bytesOf x.i).size ≤ 10 := by rw [bytesOf_size]; exact enc_ten _ (fold_lt _ (by omega) (by omega))
    have k3 : (bytesOf x.c).size ≤ 10 := by rw [bytesOf_size]; exact enc_ten _ (fold_lt _ (by omega) (by omega))
    have k4 : (bytesOf x.t).size ≤ 10 := by rw [bytesOf_size]; exact enc_ten _ (fold_lt _ (by omega) (by omega))
    have k5 := c10 x.s.size (by omega)
    simp only [ByteArray.size_append]
    omega)
  have b1 := c10 f.os.length (by omega)
  have b2 := c10 f.rs.length (by omega)
  have b3 := c10 f.es.length (by omega)
  have b4 := c10 f.gs.length (by omega)
  unfold bodyF Kd.part
  simp only [ByteArray.size_append]
  omega
theorem fparse_self {f : Fr} (h : FrR f) : parseF (frBytes f) = some f := by
  have hb := bodyF_le h
  obtain ⟨h1, h2⟩ := Crk.seal_opens' (bodyF f) (by omega)
  have h3 := Crk.seal_size (bodyF f)
  unfold parseF frBytes
  rw [h1, h2, h3, if_pos ⟨by omega, by omega⟩]
  exact body_self h
theorem fparse_bytes {s : ByteArray} {f : Fr} (h : parseF s = some f) : FrR f ∧ frBytes f = s := by
  unfold parseF at h
  by_cases c : Crk.opC s = s.size ∧ s.size ≤ 65536
  · rw [if_pos c] at h
    obtain ⟨h1, h2⟩ := body_bytes h
    exact ⟨h1, by unfold frBytes; rw [h2]; exact Crk.seal_of c.1⟩
  · rw [if_neg c] at h; cases h
theorem fprint_inj {a b : Fr} (ha : FrR a) (hb : FrR b) (h : frBytes a = frBytes b) : a = b := by
  have h1 := fparse_self ha
  rw [h, fparse_self hb] at h1
  exact (Option.some.inj h1).symm
/-- Bytes that are cut. -/
theorem fparse_cut (t : ByteArray) (k : Nat) (hs : t.size < 4294967296) (hk : k < 8 + t.size) : parseF ((Crk.sealOf t).extract 0 k) = none := by
  unfold parseF
  rw [Crk.cut_shut t k hs hk, if_neg (by omega)]
/-- A byte is another one. -/
theorem fparse_turned (s t : ByteArray) (k : Nat) (m : UInt8) (hs : s.size < 4294967296) (hk : k < 8 + s.size) (hm : m ≠ 0) (h : t.data.toList = (Crk.sealOf s).data.toList.set k ((Crk.sealOf s).data.toList.getD k 0 ^^^ m)) : parseF t = none := by
  unfold parseF
  rw [if_neg fun c => Crk.turned_none s t k m hs hk hm h c.1]
end Go.Proofs.YtndahomgglpdhaaDoor

/- Trees as lists of places: where a node stands, who is above whom. No program in it. -/
namespace Tre

structure Pl where
  n : Int
  u : Int
  s : ByteArray
def zero : Pl := ⟨0, 0, ⟨#[]⟩⟩
instance : Inhabited Pl := ⟨zero⟩

/-- How many stand ahead of node b. -/
def idx (l : List Pl) (b : Int) : Nat := (l.takeWhile fun p => decide (p.n < b)).length
def Sorted (l : List Pl) : Prop := ∀ i j (hi : i < l.length) (hj : j < l.length), i < j → l[i].n < l[j].n

theorem idx_nil (b : Int) : idx [] b = 0 := rfl
theorem idx_cons_lt {p : Pl} {l : List Pl} {b : Int} (h : p.n < b) : idx (p :: l) b = idx l b + 1 := by
  unfold idx; rw [List.takeWhile_cons_of_pos (by simpa using h)]; rfl
theorem idx_cons_ge {p : Pl} {l : List Pl} {b : Int} (h : ¬ p.n < b) : idx (p :: l) b = 0 := by
  unfold idx; rw [List.takeWhile_cons_of_neg (by simpa using h)]; rfl
theorem idx_le (l : List Pl) (b : Int) : idx l b ≤ l.length := by
  induction l with
  | nil => exact Nat.le_refl _
  | cons p l ih =>
    by_cases h : p.n < b
    · rw [idx_cons_lt h]; simpa using ih
    · rw [idx_cons_ge h]; exact Nat.zero_le _
theorem idx_before : ∀ (l : List Pl) (b : Int) (i : Nat) (h : i < l.length), i < idx l b → l[i].n < b
  | p :: l, b, i, h, hi => by
    by_cases hp : p.n < b
    · rw [idx_cons_lt hp] at hi
      cases i with
      | zero => exact hp
      | succ i => exact idx_before l b i (by simpa using h) (by omega)
    · rw [idx_cons_ge hp] at hi; omega
theorem idx_at : ∀ (l : List Pl) (b : Int) (h : idx l b < l.length), b ≤ l[idx l b].n
  | p :: l, b, h => by
    by_cases hp : p.n < b
    · have e := idx_cons_lt (l := l) hp
      simp only [e, List.getElem_cons_succ]
      exact idx_at l b (by rw [e] at h; simpa using h)
    · have e := idx_cons_ge (l := l) hp
      simp only [e, List.getElem_cons_zero]; omega
/-- Where all ahead are below b, and all from there on aren't. -/
theorem idx_eq {l : List Pl} {b : Int} {k : Nat} (hk : k ≤ l.length) (h1 : ∀ i (h : i < l.length), i < k → l[i].n < b) (h2 : ∀ (h : k < l.length), b ≤ l[k].n) : k = idx l b := by
  rcases Nat.lt_trichotomy k (idx l b) with h | h | h
  · have hl : k < l.length := Nat.lt_of_lt_of_le h (idx_le l b)
    have := idx_before l b k hl h
    have := h2 hl
    omega
  · exact h
  · have hl : idx l b < l.length := Nat.lt_of_lt_of_le h hk
    have := h1 _ hl h
    have := idx_at l b hl
    omega
theorem idx_self {l : List Pl} (hs : Sorted l) (i : Nat) (h : i < l.length) : idx l l[i].n = i :=
  (idx_eq (Nat.le_of_lt h) (fun j hj hji => hs j i hj h hji) (fun _ => by omega)).symm

/-- A node's place. -/
def get (l : List Pl) (b : Int) : Option Pl := (l[idx l b]?).bind fun p => if p.n = b then some p else none
theorem get_some {l : List Pl} {b : Int} {p : Pl} (h : get l b = some p) : p ∈ l ∧ p.n = b ∧ ∃ h : idx l b < l.length, l[idx l b] = p := by
  unfold get at h
  rw [Option.bind_eq_some_iff] at h
  obtain ⟨q, h1, h2⟩ := h
  by_cases e : q.n = b
  · rw [if_pos e] at h2; cases h2
    obtain ⟨hl, he⟩ := List.getElem?_eq_some_iff.1 h1
    exact ⟨List.mem_of_getElem? h1, e, hl, he⟩
  · rw [if_neg e] at h2; cases h2
theorem get_of {l : List Pl} {b : Int} (h : idx l b < l.length) (e : l[idx l b].n = b) : get l b = some l[idx l b] := by
  unfold get; rw [List.getElem?_eq_getElem h, Option.bind_some, if_pos e]
theorem get_none_end {l : List Pl} {b : Int} (h : ¬ idx l b < l.length) : get l b = none := by
  unfold get; rw [List.getElem?_eq_none (by omega)]; rfl
theorem get_none_other {l : List Pl} {b : Int} (h : idx l b < l.length) (e : ¬ l[idx l b].n = b) : get l b = none := by
  unfold get; rw [List.getElem?_eq_getElem h, Option.bind_some, if_neg e]
theorem get_self {l : List Pl} (hs : Sorted l) (i : Nat) (h : i < l.length) : get l l[i].n = some l[i] := by
  have e := idx_self hs i h
  unfold get; rw [e, List.getElem?_eq_getElem h, Option.bind_some, if_pos rfl]

/-- k steps up. -/
def up (l : List Pl) : Nat → Int → Option Int
  | 0, b => some b
  | k + 1, b => (get l b).bind fun p => up l k p.u
theorem up_add (l : List Pl) : ∀ (m k : Nat) (b : Int), up l (m + k) b = (up l m b).bind (up l k)
  | 0, k, b => by rw [Nat.zero_add]; rfl
  | m + 1, k, b => by
    rw [Nat.succ_add]
    show (get l b).bind (fun p => up l (m + k) p.u) = ((get l b).bind fun p => up l m p.u).bind (up l k)
    rw [Option.bind_assoc]
    congr 1; funext p; exact up_add l m k p.u
/-- At or above, by so many looks. -/
def abv (l : List Pl) : Nat → Int → Int → Bool
  | 0, _, _ => false
  | f + 1, a, b => if a = b then true else match get l b with
    | none => false
    | some p => abv l f a p.u
theorem abv_iff (l : List Pl) (a : Int) : ∀ (f : Nat) (b : Int), abv l f a b = true ↔ ∃ k, k < f ∧ up l k b = some a
  | 0, b => by
    constructor
    · intro h; cases h
    · rintro ⟨k, h, _⟩; omega
  | f + 1, b => by
    unfold abv
    by_cases e : a = b
    · rw [if_pos e]
      exact ⟨fun _ => ⟨0, by omega, by rw [e]; rfl⟩, fun _ => rfl⟩
    · rw [if_neg e]
      rcases hg : get l b with _ | p
      · constructor
        · intro h; cases h
        · rintro ⟨k, hk, hu⟩
          cases k with
          | zero => exact absurd (Option.some.inj hu).symm e
          | succ k => rw [up, hg] at hu; cases hu
      · constructor
        · intro h
          obtain ⟨k, hk, hu⟩ := (abv_iff l a f p.u).1 h
          exact ⟨k + 1, by omega, by rw [up, hg]; exact hu⟩
        · rintro ⟨k, hk, hu⟩
          cases k with
          | zero => exact absurd (Option.some.inj hu).symm e
          | succ k =>
            rw [up, hg] at hu
            exact (abv_iff l a f p.u).2 ⟨k, by omega, hu⟩
def above (l : List Pl) (a b : Int) : Bool := abv l (l.length + 1) a b
/-- No place is at or above its own Up. -/
def NoRing (l : List Pl) : Prop := ∀ p ∈ l, above l p.n p.u = false

theorem pigeon {α : Type} [DecidableEq α] : ∀ (l m : List α), l.Nodup → (∀ x ∈ l, x ∈ m) → l.length ≤ m.length
  | [], _, _, _ => Nat.zero_le _
  | x :: l, m, hn, hs => by
    have hx : x ∈ m := hs x (by simp)
    have hn' := List.nodup_cons.1 hn
    have h := pigeon l (m.erase x) hn'.2 (fun y hy => by
      have hne : y ≠ x := fun e => hn'.1 (e ▸ hy)
      exact (List.mem_erase_of_ne hne).2 (hs y (by simp [hy])))
    rw [List.length_erase_of_mem hx] at h
    have : 0 < m.length := List.length_pos_of_mem hx
    simp only [List.length_cons]; omega

/-- A way up has no more steps than there are places. -/
theorem up_bound {l : List Pl} (hr : NoRing l) {k : Nat} {a b : Int} (h : up l k b = some a) : k ≤ l.length := by
  rcases Nat.lt_or_ge l.length k with hlt | hge
  · exfalso
    -- every step up to k stands
    have stand : ∀ i, i ≤ k → ∃ x, up l i b = some x := fun i hi => by
      have e : k = i + (k - i) := by omega
      rw [e, up_add] at h
      rcases hx : up l i b with _ | x
      · rw [hx] at h; cases h
      · exact ⟨x, rfl⟩
    have place : ∀ i x, i < k → up l i b = some x → ∃ p, get l x = some p ∧ up l (i + 1) b = some p.u := fun i x hi hx => by
      obtain ⟨y, hy⟩ := stand (i + 1) hi
      have hy' := hy
      rw [up_add, hx, Option.bind_some] at hy'
      rcases hg : get l x with _ | p
      · rw [up, hg] at hy'; cases hy'
      · rw [up, hg] at hy'
        exact ⟨p, rfl, by rw [hy]; exact hy'.symm⟩
    let s : Nat → Int := fun i => (up l i b).getD 0
    have hs : ∀ i, i ≤ k → up l i b = some (s i) := fun i hi => by
      obtain ⟨x, hx⟩ := stand i hi
      show up l i b = some ((up l i b).getD 0)
      rw [hx]; rfl
    have unlike : ∀ i j, i < j → j ≤ l.length → s i ≠ s j := fun i j hij hj e => by
      have hi := hs i (by omega)
      have hj' := hs j (by omega)
      obtain ⟨p, hp, hu⟩ := place i _ (by omega) hi
      have hj2 := hj'
      rw [show j = (i + 1) + (j - i - 1) by omega, up_add, hu, Option.bind_some] at hj2
      obtain ⟨hm, hn, _⟩ := get_some hp
      have hf := hr p hm
      have ht : above l p.n p.u = true := (abv_iff l p.n _ p.u).2 ⟨j - i - 1, by omega, by
        rw [hj2, hn, e]
        have : (i + 1) + (j - i - 1) = j := by omega
        rw [this]⟩
      rw [hf] at ht; cases ht
    have nd : ((List.range (l.length + 1)).map s).Nodup := by
      rw [List.nodup_iff_pairwise_ne, List.pairwise_map]
      exact List.Pairwise.imp_of_mem (fun {i j} hi hj hij => unlike i j hij (by have := List.mem_range.1 hj; omega)) List.pairwise_lt_range
    have sub : ∀ x ∈ (List.range (l.length + 1)).map s, x ∈ l.map (·.n) := fun x hx => by
      obtain ⟨i, hi, rfl⟩ := List.mem_map.1 hx
      have hi := List.mem_range.1 hi
      obtain ⟨p, hp, _⟩ := place i _ (by omega) (hs i (by omega))
      obtain ⟨hm, hn, _⟩ := get_some hp
      exact List.mem_map.2 ⟨p, hm, hn⟩
    have := pigeon _ _ nd sub
    simp at this
    omega
  · exact hge
theorem above_iff {l : List Pl} (hr : NoRing l) {a b : Int} : above l a b = true ↔ ∃ k, up l k b = some a := by
  unfold above
  rw [abv_iff]
  exact ⟨fun ⟨k, _, h⟩ => ⟨k, h⟩, fun ⟨k, h⟩ => ⟨k, by have := up_bound hr h; omega, h⟩⟩
theorem above_trans {l : List Pl} (hr : NoRing l) {a b c : Int} (h1 : above l a b = true) (h2 : above l b c = true) : above l a c = true := by
  obtain ⟨k, hk⟩ := (above_iff hr).1 h1
  obtain ⟨m, hm⟩ := (above_iff hr).1 h2
  exact (above_iff hr).2 ⟨m + k, by rw [up_add, hm, Option.bind_some, hk]⟩
theorem up_loop {l : List Pl} {k : Nat} {b : Int} (h : up l k b = some b) : ∀ m, up l (k * m) b = some b
  | 0 => rfl
  | m + 1 => by rw [Nat.mul_succ, up_add, up_loop h m, Option.bind_some, h]
theorem above_anti {l : List Pl} (hr : NoRing l) {a b : Int} (h1 : above l a b = true) (h2 : above l b a = true) : a = b := by
  obtain ⟨k, hk⟩ := (above_iff hr).1 h1
  obtain ⟨m, hm⟩ := (above_iff hr).1 h2
  have h : up l (k + m) b = some b := by rw [up_add, hk, Option.bind_some, hm]
  rcases Nat.eq_zero_or_pos (k + m) with h0 | h0
  · obtain rfl : k = 0 := by omega
    exact (Option.some.inj hk).symm
  · have := up_bound hr (up_loop h (l.length + 1))
    have : l.length + 1 ≤ (k + m) * (l.length + 1) := Nat.le_mul_of_pos_left _ h0
    omega
theorem above_self (l : List Pl) (a : Int) : above l a a = true := by unfold above abv; rw [if_pos rfl]

/-- Where what stands behind node b's place begins. -/
def behind (l : List Pl) (b : Int) : Nat := if (get l b).isSome then idx l b + 1 else idx l b
def placedL (l : List Pl) (b : Int) (m : List Pl) : List Pl := (l.take (idx l b) ++ m) ++ l.drop (behind l b)
def putL (l : List Pl) (p : Pl) : List Pl := placedL l p.n [p]
def dropL (l : List Pl) (b : Int) : List Pl := placedL l b []
end Tre

/- A place in a block, a list of places in a slice; Find of the program. -/
namespace Go.Proofs.YtndahomgglpdhaaDoor
open Go.RowKit Tre

/-- From the cell o of block b on a place lies. -/
def AtPl (w : World) (b o : Nat) (p : Pl) : Prop :=
  w.cell? ⟨b, o, none⟩ = some (.int .i64 p.n) ∧ w.cell? ⟨b, o + 1, none⟩ = some (.int .i64 p.u) ∧ w.cell? ⟨b, o + 2, none⟩ = some (.string p.s)
theorem AtPl.below {W w : World} {b o : Nat} {p : Pl} (h : AtPl W b o p) (hb : Below W.heap.size W w) (hl : b < W.heap.size) : AtPl w b o p := by
  unfold AtPl at h ⊢
  rw [(bcell hb).1 _ _ hl, (bcell hb).1 _ _ hl, (bcell hb).1 _ _ hl]; exact h
/-- The slice at A holds these places. -/
def Tr (w : World) (A : Option Addr) (l : List Pl) : Prop :=
  0 < l.length → ∃ b off, A = some ⟨b, off, none⟩ ∧ b < w.heap.size ∧ ∀ i (h : i < l.length), AtPl w b (off + i * 3) l[i]
theorem Tr.below {W w : World} {A : Option Addr} {l : List Pl} (h : Tr W A l) (hb : Below W.heap.size W w) : Tr w A l := fun h0 => by
  obtain ⟨b, off, e, hl, hc⟩ := h h0
  exact ⟨b, off, e, Nat.lt_of_lt_of_le hl hb.size, fun i hi => (hc i hi).below hb hl⟩
theorem Tr.nil (w : World) (A : Option Addr) : Tr w A [] := fun h => by simp at h

def cmp3 (a b : Int) : Int := if a < b then -1 else if b < a then 1 else 0
end Go.Proofs.YtndahomgglpdhaaDoor

/- Find of the document; Get and Above of both. -/
namespace Go.Proofs.YtndahomgglpdhaaDoor
open Go.RowKit Tre

section
variable {w w' : World} {b : Nat} {p : Pl}
theorem below_setRow {W w : World} (h : Below W.heap.size W w) {n : Nat} (hn : W.heap.size ≤ n) (cs : Array Value) : Below W.heap.size W (w.setRow n cs) :=
  ⟨h.os, h.tape, h.output, by simpa [World.setRow] using h.size, fun k hk => (setRow_other w n k cs (by omega)).trans (h.block k hk)⟩
end
theorem find_end {l : List Pl} {b : Int} {i : Nat} {x : Bool} (h : i = idx l b) (k : (Tre.get l b).isSome = x) : Ending.returned (.tuple #[.int .i64 i, .bool x]) = Ending.returned (.tuple #[.int .i64 (idx l b), .bool (Tre.get l b).isSome]) := by rw [k, ← h]

theorem isSome_get {l : List Pl} {b : Int} {p : Pl} (hp : (Tre.get l b).getD zero = p) (hi : (Tre.get l b).isSome = true) : Tre.get l b = some p ∧ ∃ h : idx l b < l.length, l[idx l b] = p := by
  rcases h : Tre.get l b with _ | q
  · rw [h] at hi; cases hi
  · rw [h] at hp
    obtain rfl : q = p := hp
    exact ⟨rfl, (get_some h).2.2⟩
theorem none_get {l : List Pl} {b : Int} {p : Pl} (hp : (Tre.get l b).getD zero = p) (hi : (Tre.get l b).isSome = false) : p = zero := by
  rw [← hp]
  rcases h : Tre.get l b with _ | q
  · rfl
  · rw [h] at hi; cases hi

end Go.Proofs.YtndahomgglpdhaaDoor

/- Places and trees as bytes; what may be a tree. -/
namespace Go.Proofs.YtndahomgglpdhaaDoor
open Go.RowKit Nam Cod Tre

def isPlace (s : ByteArray) (p : Nat) (bad : Bool) : Option (Pl × Nat) :=
  (isNum s p bad).bind fun a => (isNum s a.2 false).bind fun b => (isText s b.2 false 16).bind fun c => some (⟨a.1, b.1, c.1⟩, c.2)
/-- So many places, from p on. -/
def isPlaces (s : ByteArray) : Nat → Nat → Option (List Pl × Nat)
  | 0, p => some ([], p)
  | n + 1, p => (isPlaces s n p).bind fun a => (isPlace s a.2 false).bind fun b => some (a.1 ++ [b.1], b.2)
def okPl (p : Pl) : Bool := decide (2 ≤ p.n ∧ p.n < 64 ∧ 0 ≤ p.u ∧ p.u < 64) && isName (L p.s)
def rising : List Pl → Bool
  | [] => true
  | [_] => true
  | p :: q :: l => decide (p.n < q.n) && rising (q :: l)
def treeB (l : List Pl) : Bool := l.all okPl && (rising l && l.all fun p => !above l p.n p.u)
def isTree (s : ByteArray) (p : Nat) (bad : Bool) : Option (List Pl × Nat) :=
  (isCount s p bad 64).bind fun a => (isPlaces s a.1.toNat a.2).bind fun b => if treeB b.1 = true then some b else none

def plBytes (p : Pl) : ByteArray := bytesOf p.n ++ bytesOf p.u ++ textOf p.s
def catL : List Pl → ByteArray
  | [] => ⟨#[]⟩
  | p :: l => plBytes p ++ catL l
def treeBytes (l : List Pl) : ByteArray := bytesOf l.length ++ catL l
/-- Numbers that a word holds; a text that isn't too long. -/
structure Fit (p : Pl) : Prop where
  n1 : -9223372036854775808 ≤ p.n
  n2 : p.n ≤ 9223372036854775807
  u1 : -9223372036854775808 ≤ p.u
  u2 : p.u ≤ 9223372036854775807
  s : p.s.size ≤ 16

theorem bempty (x : ByteArray) : x ++ (⟨#[]⟩ : ByteArray) = x := by apply L_inj; rw [L_app]; simp [L]
theorem empty_b (x : ByteArray) : (⟨#[]⟩ : ByteArray) ++ x = x := by apply L_inj; rw [L_app]; simp [L]
theorem catL_snoc (l : List Pl) (p : Pl) : catL (l ++ [p]) = catL l ++ plBytes p := by
  induction l with
  | nil => show plBytes p ++ ⟨#[]⟩ = ⟨#[]⟩ ++ plBytes p; rw [bempty, empty_b]
  | cons q l ih => show plBytes q ++ catL (l ++ [p]) = (plBytes q ++ catL l) ++ plBytes p; rw [ih, ByteArray.append_assoc]
theorem catL_app (l m : List Pl) : catL (l ++ m) = catL l ++ catL m := by
  induction l with
  | nil => exact (empty_b _).symm
  | cons q l ih => show plBytes q ++ catL (l ++ m) = (plBytes q ++ catL l) ++ catL m; rw [ih, ByteArray.append_assoc]
theorem okPl_fit {p : Pl} (h : okPl p = true) : Fit p ∧ 2 ≤ p.n ∧ p.n < 64 ∧ 0 ≤ p.u ∧ p.u < 64 ∧ isName (L p.s) = true := by
  unfold okPl at h
  rw [Bool.and_eq_true, decide_eq_true_iff] at h
  have hl := isName_len h.2
  rw [L_len] at hl
  exact ⟨⟨by omega, by omega, by omega, by omega, hl.2⟩, h.1.1, h.1.2.1, h.1.2.2.1, h.1.2.2.2, h.2⟩
theorem plBytes_le {p : Pl} (h : Fit p) : (plBytes p).size ≤ 46 := by
  unfold plBytes textOf
  simp only [ByteArray.size_append]
  have z1 := bytesOf_le p.n h.n1 h.n2
  have z2 := bytesOf_le p.u h.u1 h.u2
  have hs := h.s
  have z3 := bytesOf_le p.s.size (by omega) (by omega)
  omega
theorem catL_le : ∀ (l : List Pl), (∀ p ∈ l, Fit p) → (catL l).size ≤ 46 * l.length
  | [], _ => by show (ByteArray.mk #[]).size ≤ _; exact Nat.zero_le _
  | p :: l, h => by
    have h1 := plBytes_le (h p (by simp))
    have h2 := catL_le l (fun q hq => h q (by simp [hq]))
    show (plBytes p ++ catL l).size ≤ _
    rw [ByteArray.size_append, List.length_cons]; omega

theorem place_there (A Z : ByteArray) (p : Pl) (h : Fit p) : isPlace (A ++ (plBytes p ++ Z)) A.size false = some (p, A.size + (plBytes p).size) := by
  have h1 := num_there A (bytesOf p.u ++ textOf p.s ++ Z) p.n h.n1 h.n2
  have h2 := num_there (A ++ bytesOf p.n) (textOf p.s ++ Z) p.u h.u1 h.u2
  have h3 := text_there (A ++ bytesOf p.n ++ bytesOf p.u) p.s Z 16 (by have := h.s; omega) (by have := h.s; omega)
  have e : A ++ (plBytes p ++ Z) = A ++ (bytesOf p.n ++ (bytesOf p.u ++ textOf p.s ++ Z)) := by unfold plBytes; simp only [ByteArray.append_assoc]
  have e2 : A ++ (plBytes p ++ Z) = A ++ bytesOf p.n ++ (bytesOf p.u ++ (textOf p.s ++ Z)) := by unfold plBytes; simp only [ByteArray.append_assoc]
  have e3 : A ++ (plBytes p ++ Z) = A ++ bytesOf p.n ++ bytesOf p.u ++ (textOf p.s ++ Z) := by unfold plBytes; simp only [ByteArray.append_assoc]
  rw [← e] at h1
  rw [← e2, ByteArray.size_append] at h2
  rw [← e3, ByteArray.size_append, ByteArray.size_append] at h3
  unfold isPlace
  simp only [h1, h2, h3, Option.bind_some]
  unfold plBytes
  simp only [ByteArray.size_append, Nat.add_assoc]
theorem places_there (A Z : ByteArray) (l : List Pl) (h : ∀ p ∈ l, Fit p) : ∀ k, k ≤ l.length → isPlaces (A ++ (catL l ++ Z)) k A.size = some (l.take k, A.size + (catL (l.take k)).size)
  | 0, _ => by unfold isPlaces; simp [catL]; rfl
  | k + 1, hk => by
    have hlt : k < l.length := hk
    have e : catL l ++ Z = catL (l.take k) ++ (plBytes l[k] ++ (catL (l.drop (k + 1)) ++ Z)) := by
      have : l = l.take k ++ (l[k] :: l.drop (k + 1)) := by rw [← List.drop_eq_getElem_cons hlt, List.take_append_drop]
      conv => lhs; rw [this, catL_app]
      show catL (l.take k) ++ (plBytes l[k] ++ catL (l.drop (k + 1))) ++ Z = _
      simp only [ByteArray.append_assoc]
    have hp := place_there (A ++ catL (l.take k)) (catL (l.drop (k + 1)) ++ Z) l[k] (h _ (List.getElem_mem hlt))
    rw [ByteArray.append_assoc, ← e, ByteArray.size_append] at hp
    unfold isPlaces
    rw [places_there A Z l h k (by omega), Option.bind_some]
    simp only [hp, Option.bind_some]
    rw [List.take_succ_eq_append_getElem hlt, catL_snoc, ByteArray.size_append, Nat.add_assoc]
theorem tree_there (A Z : ByteArray) (l : List Pl) (h : treeB l = true) (hl : l.length ≤ 64) : isTree (A ++ (treeBytes l ++ Z)) A.size false = some (l, A.size + (treeBytes l).size) := by
  have hf : ∀ p ∈ l, Fit p := fun p hp => by
    unfold treeB at h
    rw [Bool.and_eq_true, List.all_eq_true] at h
    exact (okPl_fit (h.1 p hp)).1
  have h1 := count_there A (catL l ++ Z) l.length 64 (by omega) (by omega) (by omega)
  have e : A ++ (treeBytes l ++ Z) = A ++ (bytesOf l.length ++ (catL l ++ Z)) := by unfold treeBytes; rw [ByteArray.append_assoc]
  have h2 := places_there (A ++ bytesOf l.length) Z l hf l.length (Nat.le_refl _)
  rw [ByteArray.append_assoc, ← e, ByteArray.size_append, List.take_length] at h2
  rw [← e] at h1
  unfold isTree
  simp only [h1, Option.bind_some, Int.toNat_natCast, h2, h, if_true]
  unfold treeBytes
  rw [ByteArray.size_append, Nat.add_assoc]
theorem rising_cons {p : Pl} : ∀ {l : List Pl}, rising (p :: l) = true → rising l = true ∧ ∀ q ∈ l, p.n < q.n
  | [], _ => ⟨rfl, fun q hq => by cases hq⟩
  | q :: l, h => by
    unfold rising at h
    rw [Bool.and_eq_true, decide_eq_true_iff] at h
    refine ⟨h.2, fun x hx => ?_⟩
    rcases List.mem_cons.1 hx with rfl | hx
    · exact h.1
    · have := (rising_cons h.2).2 x hx; omega
theorem rising_sorted : ∀ {l : List Pl}, rising l = true → Sorted l
  | [], _ => fun i j hi => by simp at hi
  | p :: l, h => fun i j hi hj hij => by
    obtain ⟨h1, h2⟩ := rising_cons h
    cases j with
    | zero => omega
    | succ j =>
      have hj' : j < l.length := by simpa using hj
      cases i with
      | zero => exact h2 _ (List.getElem_mem hj')
      | succ i => exact rising_sorted h1 i j (by simpa using hi) hj' (by omega)
theorem treeB_facts {l : List Pl} (h : treeB l = true) : (∀ p ∈ l, okPl p = true) ∧ Sorted l ∧ NoRing l := by
  unfold treeB at h
  simp only [Bool.and_eq_true, List.all_eq_true, Bool.not_eq_true'] at h
  exact ⟨h.1, rising_sorted h.2.1, h.2.2⟩
/-- Nodes below 64, rising: no more than 62. -/
theorem sorted_len {l : List Pl} (hs : Sorted l) (h : ∀ p ∈ l, 2 ≤ p.n ∧ p.n < 64) : l.length ≤ 62 := by
  have key : ∀ i (hi : i < l.length), (i : Int) + 2 ≤ l[i].n := by
    intro i
    induction i with
    | zero => intro hi; have := (h _ (List.getElem_mem hi)).1; omega
    | succ i ih => intro hi; have h1 := ih (by omega); have h2 := hs i (i + 1) (by omega) hi (by omega); omega
  rcases Nat.lt_or_ge 62 l.length with hlt | hge
  · have h1 := key 62 hlt
    have h2 := (h _ (List.getElem_mem hlt)).2
    omega
  · exact hge
end Go.Proofs.YtndahomgglpdhaaDoor

/- How the arguments of the laws are opened. -/
namespace Go.Proofs.YtndahomgglpdhaaDoor
open Go.ChangeShapes Go.WideShapes Go.ChangeAt Go.RowKit Go.Deep Nam Cod Tre

/-- Its numbers are words, its text isn't too long for a machine. -/
def WidePl (p : Pl) : Prop := i64 p.n ∧ i64 p.u ∧ p.s.size ≤ maxLen
theorem add_plain (b o n : Nat) : (⟨b, o, none⟩ : Addr).add n = ⟨b, o + n, none⟩ := Addr.add_lit b o n
theorem long_le {l : List Pl} (h : ∀ p ∈ l, WidePl p) : ∀ p ∈ l, p.s.size ≤ 9223372036854775807 := fun p hp => Nat.le_trans (h p hp).2.2 (by unfold maxLen; omega)
end Go.Proofs.YtndahomgglpdhaaDoor

/- Rows and slices of structs, whatever the struct: what lies where, what is cut out, what append makes. No function of the program in it. -/
namespace Go.Proofs.YtndahomgglpdhaaDoor
open Go.RowKit

/-- A kind of element: its type, how many cells it has, and which. -/
structure El (α : Type) where
  e : TypeId
  k : Nat
  c : α → List Value
  len : ∀ x, (c x).length = k
  one : ∀ x, ∀ u ∈ c x, u.oneCell' = true
  pos : 0 < k
section
variable {α : Type} (E : El α)
/-- From the cell o of block b on x lies. -/
def El.At (w : World) (b o : Nat) (x : α) : Prop := ∀ j u, (E.c x)[j]? = some u → w.cell? ⟨b, o + j, none⟩ = some u
/-- The slice at A holds these. -/
def El.Sl (w : World) (A : Option Addr) (l : List α) : Prop :=
  0 < l.length → ∃ b off, A = some ⟨b, off, none⟩ ∧ b < w.heap.size ∧ ∀ i (h : i < l.length), E.At w b (off + i * E.k) l[i]
/-- So, in a block ahead of B. -/
def El.SlB (B : Nat) (w : World) (A : Option Addr) (l : List α) : Prop :=
  0 < l.length → ∃ b off, A = some ⟨b, off, none⟩ ∧ b < B ∧ ∀ i (h : i < l.length), E.At w b (off + i * E.k) l[i]
/-- Block b is x's own. -/
def El.In (w : World) (b : Nat) (x : α) : Prop := w.heap[b]? = some (.cells (E.c x).toArray E.e (0, 0))
variable {E}
section
variable {W w w' : World} {b o B : Nat} {x : α} {A : Option Addr} {l : List α} {row : Option Nat}
theorem El.At.below (h : E.At W b o x) (hb : Below W.heap.size W w) (hl : b < W.heap.size) : E.At w b o x := fun j u hu => by rw [(bcell hb).1 _ _ hl]; exact h j u hu
theorem El.At.grown (h : E.At w b o x) (hg : w.grownBy w' row) (hne : some b ≠ row) : E.At w' b o x := fun j u hu => hg.cell (h j u hu) hne
theorem El.Sl.below (h : E.Sl W A l) (hb : Below W.heap.size W w) : E.Sl w A l := fun h0 => by
  obtain ⟨b, off, e, hl, hc⟩ := h h0
  exact ⟨b, off, e, Nat.lt_of_lt_of_le hl hb.size, fun i hi => (hc i hi).below hb hl⟩
theorem El.Sl.nil (w : World) (A : Option Addr) : E.Sl w A [] := fun h => by simp at h
theorem El.Sl.none_nil (h : E.Sl w none l) : l = [] := by
  rcases Nat.eq_zero_or_pos l.length with h0 | h0
  · exact List.eq_nil_of_length_eq_zero h0
  · obtain ⟨_, _, e, _⟩ := h h0; cases e
theorem El.Sl.take (h : E.Sl w A l) (n : Nat) : E.Sl w A (l.take n) := fun h0 => by
  have hk : (l.take n).length ≤ l.length := by rw [List.length_take]; omega
  obtain ⟨b, off, e, hb, hc⟩ := h (by omega)
  exact ⟨b, off, e, hb, fun i hi => by rw [List.getElem_take]; exact hc i (by omega)⟩
theorem El.Sl.drop {A3 : Option Addr} {cap tz : Nat} (h : E.Sl w A l) (hcap : l.length ≤ cap) (he : (if cap = tz then A else Option.map (fun x => x.add (tz * E.k)) A) = A3) : E.Sl w A3 (l.drop tz) := fun h0 => by
  rw [List.length_drop] at h0
  obtain ⟨b, off, e, hb, hc⟩ := h (by omega)
  rw [if_neg (by omega), e] at he
  refine ⟨b, off + tz * E.k, by rw [← he]; simp [Addr.add_lit], hb, fun i hi => ?_⟩
  rw [List.length_drop] at hi
  rw [List.getElem_drop, Nat.add_assoc, ← Nat.add_mul]
  exact hc _ (by omega)
theorem El.drop_none {A3 : Option Addr} {cap tz n : Nat} (hn : A = none → cap = 0) (he : (if cap = tz then A else Option.map (fun x => x.add n) A) = A3) (h : A3 = none) : cap - tz = 0 := by
  by_cases e : cap = tz
  · omega
  · rw [if_neg e, h, Option.map_eq_none_iff] at he
    have := hn he; omega
theorem El.SlB.of (h : E.Sl w A l) (hB : w.heap.size ≤ B) : E.SlB B w A l := fun h0 => by
  obtain ⟨b, off, e, hl, hc⟩ := h h0
  exact ⟨b, off, e, by omega, hc⟩
theorem El.SlB.sl (h : E.SlB B w A l) (hB : B ≤ w.heap.size) : E.Sl w A l := fun h0 => by
  obtain ⟨b, off, e, hl, hc⟩ := h h0
  exact ⟨b, off, e, by omega, hc⟩
theorem El.SlB.keep (h : E.SlB B w A l) (hg : w.grownBy w' row) (hrow : ∀ n, row = some n → B ≤ n) : E.SlB B w' A l := fun h0 => by
  obtain ⟨b, off, e, hl, hc⟩ := h h0
  exact ⟨b, off, e, hl, fun i hi => (hc i hi).grown hg (fun e => by have := hrow b e.symm; omega)⟩
theorem El.Sl.keep1 {a : Addr} (h : E.Sl w (some a) l) (hg : w.grownBy w' row) (hne : some a.block ≠ row) : E.Sl w' (some a) l := fun h0 => by
  obtain ⟨b, off, e, hl, hc⟩ := h h0
  cases e
  exact ⟨b, off, rfl, Nat.lt_of_lt_of_le hl hg.size, fun i hi => (hc i hi).grown hg hne⟩
theorem El.Sl.keep (h : E.Sl w A l) (hg : w.grownBy w' row) (hne : ∀ a, A = some a → some a.block ≠ row) : E.Sl w' A l := fun h0 => by
  obtain ⟨b, off, e, hl, hc⟩ := h h0
  exact ⟨b, off, e, Nat.lt_of_lt_of_le hl hg.size, fun i hi => (hc i hi).grown hg (hne _ e)⟩

theorem El.In.lt (h : E.In w b x) : b < w.heap.size := by
  rcases Nat.lt_or_ge b w.heap.size with hlt | hge
  · exact hlt
  · unfold El.In at h; rw [Array.getElem?_eq_none hge] at h; cases h
theorem El.In.cell (h : E.In w b x) (j : Nat) : w.cell? ⟨b, j, none⟩ = (E.c x)[j]? := by
  have := cell_of_row w b j _ E.e (0, 0) h
  rw [this]; simp
theorem El.In.at (h : E.In w b x) : E.At w b 0 x := fun j u hu => by rw [Nat.zero_add, h.cell]; exact hu
theorem El.In.frozen (h : E.In w b x) (i : Nat) : w.frozen? ⟨b, i, none⟩ = false := by
  unfold El.In at h
  simp [World.frozen?, h]
theorem El.In.new (w : World) (x : α) (cs : Array Value) (hc : cs = (E.c x).toArray) : E.In (w.alloc (.cells cs E.e)) w.heap.size x := by subst hc; exact heap_alloc_new w _
theorem El.In.below (h : E.In w b x) (hg : Below w.heap.size w w') : E.In w' b x := (hg.block b h.lt).trans h
theorem El.In.keep (h : E.In w b x) (hg : w.grownBy w' row) (hne : some b ≠ row) : E.In w' b x := (hg.block b h.lt hne).trans h
theorem El.In.alloc (h : E.In w b x) (o : Obj) : E.In (w.alloc o) b x := h.below (below_alloc (Below.refl _ _) o)
theorem El.In.set (h : E.In w b x) (y : α) (cs : Array Value) (hc : cs = (E.c y).toArray) : E.In (w.setRow b cs) b y := by subst hc; exact setRow_heap _ _ _ _ _ _ h
theorem El.In.put (h : E.In w b x) (y : α) (j : Nat) (u : Value) (hy : E.c y = (E.c x).set j u) : E.In (w.setCell ⟨b, j, none⟩ u) b y := by
  unfold El.In at h ⊢
  rw [hy]
  simp [World.setCell, Array.getElem?_modify, h]
theorem El.In.other (h : E.In w b x) (n i : Nat) (v : Value) (hne : b ≠ n) : E.In (w.setCell ⟨n, i, none⟩ v) b x :=
  (Below.heap_setCell w ⟨n, i, none⟩ v b hne).trans h
theorem El.In.rowN (h : E.In w b x) (n : Nat) (cs : Array Value) (hne : b ≠ n) : E.In (w.setRow n cs) b x := (setRow_other w n b cs hne).trans h
theorem El.In.sl (h : E.In w b x) : E.Sl w (some ⟨b, 0, none⟩) [x] := fun _ =>
  ⟨b, 0, rfl, h.lt, fun i hi => by
    obtain rfl : i = 0 := by simpa using hi
    rw [Nat.zero_mul]; exact h.at⟩
end

variable (E)
/-- The cells of a list. -/
def El.cells : List α → List Value
  | [] => []
  | x :: l => E.c x ++ El.cells l
variable {E}
theorem El.cells_len : ∀ l : List α, (E.cells l).length = l.length * E.k
  | [] => by simp [El.cells]
  | x :: l => by rw [El.cells, List.length_append, E.len, El.cells_len l, List.length_cons, Nat.succ_mul, Nat.add_comm]
theorem El.cells_app : ∀ l r : List α, E.cells (l ++ r) = E.cells l ++ E.cells r
  | [], r => rfl
  | x :: l, r => by rw [List.cons_append, El.cells, El.cells, El.cells_app l r, List.append_assoc]
theorem El.cells_one : ∀ l : List α, ∀ u ∈ E.cells l, u.oneCell' = true
  | [], u, h => by cases h
  | x :: l, u, h => by
    rcases List.mem_append.1 h with h | h
    · exact E.one x u h
    · exact El.cells_one l u h
theorem El.cells_at : ∀ (l : List α) (i : Nat) (h : i < l.length) (j : Nat) (u : Value), (E.c l[i])[j]? = some u → (E.cells l)[i * E.k + j]? = some u
  | x :: l, 0, _, j, u, hu => by
    rw [Nat.zero_mul, Nat.zero_add, El.cells, List.getElem?_append_left]
    · exact hu
    · have := (List.getElem?_eq_some_iff.1 hu).1; exact this
  | x :: l, i + 1, h, j, u, hu => by
    have := El.cells_at l i (by simpa using h) j u hu
    rw [El.cells, List.getElem?_append_right (by rw [E.len, Nat.succ_mul]; omega), E.len, Nat.succ_mul]
    rw [show i * E.k + E.k + j - E.k = i * E.k + j by omega]; exact this
theorem El.cells_get : ∀ (l : List α) (n : Nat) (u : Value), (E.cells l)[n]? = some u → ∃ i, ∃ h : i < l.length, ∃ j, n = i * E.k + j ∧ (E.c l[i])[j]? = some u
  | [], n, u, h => by simp [El.cells] at h
  | x :: l, n, u, h => by
    rw [El.cells] at h
    by_cases hn : n < E.k
    · rw [List.getElem?_append_left (by rw [E.len]; exact hn)] at h
      exact ⟨0, by simp, n, by rw [Nat.zero_mul, Nat.zero_add], h⟩
    · rw [List.getElem?_append_right (by rw [E.len]; omega), E.len] at h
      obtain ⟨i, hi, j, e, hu⟩ := El.cells_get l (n - E.k) u h
      exact ⟨i + 1, by simpa using hi, j, by rw [Nat.succ_mul]; omega, hu⟩
theorem El.Sl.cells {w : World} {a : Addr} {l : List α} (h : E.Sl w (some a) l) : ∀ j u, (E.cells l)[j]? = some u → w.cell? (a.add j) = some u := by
  intro n u hu
  obtain ⟨i, hi, j, rfl, hc⟩ := El.cells_get l n u hu
  obtain ⟨b, off, e, _, hat⟩ := h (by omega)
  obtain rfl := Option.some.inj e
  rw [Addr.add_lit, ← Nat.add_assoc]
  exact hat i hi j u hc

variable (E)
/-- The slice v holds these, in a row that the call has made. -/
def El.Own (w : World) (B : Nat) (v : Value) (l : List α) : Prop := w.ownsRow B E.e E.k v l.length (E.cells l)
variable {E}
section
variable {w w' : World} {B : Nat} {v : Value} {l : List α} {row : Option Nat}
theorem El.Own.nil (w : World) (B : Nat) : E.Own w B (.slice none 0 0) [] := World.ownsRow_nil w B E.e E.k
theorem El.Own.kept (h : E.Own w B v l) (hg : w.grownBy w' row) (hne : v.ownBlock = none ∨ v.ownBlock ≠ row) : E.Own w' B v l := World.ownsRow.kept h hg hne
theorem El.Own.below (h : E.Own w B v l) (hb : Below w.heap.size w w') : E.Own w' B v l :=
  World.ownsRow.kept h (row := none) ⟨hb.os, hb.tape, hb.output, hb.size, fun k hk _ => hb.block k hk⟩ (by cases hv : v.ownBlock <;> simp)
theorem El.Own.lt (h : E.Own w B v l) : ∀ n, v.ownBlock = some n → B ≤ n ∧ n < w.heap.size := World.ownsRow.lt h
theorem El.Own.rows (h : E.Own w B v l) : ∀ n, v.ownBlock = some n → B ≤ n := fun n e => (World.ownsRow.lt h n e).1
theorem El.Own.sl (h : E.Own w B v l) : ∃ A cap, v = .slice A l.length cap ∧ E.Sl w A l ∧ (A = none → cap = 0) ∧ l.length ≤ cap := by
  have hc := fun g (hg : v.ownBlock = some g) => World.ownsRow.cells h hg
  have hlt := World.ownsRow.lt h
  unfold El.Own at h
  rcases h.2 with ⟨rfl, h0⟩ | ⟨g, cap, cur, rfl, _, _, hnc, _⟩
  · have : l = [] := List.eq_nil_of_length_eq_zero h0
    subst this
    exact ⟨none, 0, rfl, El.Sl.nil w none, fun _ => rfl, Nat.le_refl _⟩
  · refine ⟨some ⟨g, 0, none⟩, cap, rfl, fun _ => ⟨g, 0, rfl, (hlt g rfl).2, fun i hi j u hu => ?_⟩, (fun e => by cases e), hnc⟩
    have := hc g rfl _ _ (El.cells_at l i hi j u hu)
    rw [Addr.add_lit, ← Nat.add_assoc] at this; exact this
theorem El.Own.empty (w : World) (B : Nat) (hB : B ≤ w.heap.size) : E.Own (w.alloc (.cells #[] E.e)) B (.slice (some ⟨w.heap.size, 0, none⟩) 0 0) [] :=
  World.ownsRow_made w #[] 0 hB (by unfold maxLen; omega) (Nat.zero_mul _).symm
end

/-- What a program says of the kind: its slices' type, and the type's zero. -/
structure El.Inn (E : El α) (P : Program) (st : TypeId) : Prop where
  und : P.underlying st = some (.slice E.e)
  info : ∃ i z, P.info? E.e = some i ∧ i.zero = some z ∧ i.size = E.k ∧ i.bytes ≤ 1000 ∧ z.cells.size = E.k
theorem El.inn_of {P : Program} {st : TypeId} {z : Value} {bytes : Nat} (hu : P.underlying st = some (.slice E.e)) (h : (P.info? E.e).map (fun i => (i.zero, i.size, i.bytes)) = some (some z, E.k, bytes)) (hz : z.cells.size = E.k) (hb : bytes ≤ 1000) : E.Inn P st := by
  obtain ⟨i, hi, hz0, hz1, hz2⟩ := info_parts h
  exact ⟨hu, i, z, hi, hz0, hz1, by rw [hz2]; exact hb, hz⟩
variable {P : Program} {st : TypeId}
theorem El.run_app (I : E.Inn P st) (w : World) (ty : TypeId) (B : Nat) (v : Value) (l r : List α) (hown : E.Own w B v l) (A : Option Addr) (m c : Nat) (hm : r.length = m) (hT : E.Sl w A r) (hc : A = none → c = 0) (hl : l.length + r.length ≤ 100000) (hB : B ≤ w.heap.size) :
    ∃ v' w', (Builtin.append_ #[st, st] ty #[v, .slice A m c]).run P w = .ok v' w' ∧ E.Own w' B v' (l ++ r) ∧ w.grownBy w' v.ownBlock ∧ (v'.ownBlock = v.ownBlock ∨ v'.ownBlock = some w.heap.size) := by
  subst hm
  obtain ⟨hu, i, z, hi, hz, hsz, hby, hzs⟩ := I
  cases A with
  | none =>
    obtain rfl := hT.none_nil
    obtain rfl := hc rfl
    refine ⟨v, w, run_append_owned_none (P := P) (w := w) B st ty E.e i E.k hu hi v l.length (E.cells l) hown, ?_, ⟨rfl, rfl, rfl, Nat.le_refl _, fun _ _ _ => rfl⟩, Or.inl rfl⟩
    rw [List.append_nil]; exact hown
  | some a =>
    have hb : (l.length + r.length) * i.bytes ≤ 100000 * 1000 := Nat.mul_le_mul hl hby
    obtain ⟨v', w', h1, h2, h3, _, h5⟩ := run_append_own_at (P := P) w B st ty E.e i z E.k i.bytes hu hi hz hsz rfl hzs E.pos v l.length (E.cells l) hown a r.length c (E.cells r) (El.cells_len r) hT.cells (El.cells_one r) (by unfold maxLen; omega) (by omega) hB
    refine ⟨v', w', h1, ?_, h3, h5⟩
    unfold El.Own
    rw [List.length_append, El.cells_app]; exact h2
theorem El.wp_app (I : E.Inn P st) {o : Oper} {a : Act} {w : World} {K : Act → World → Prop} {Q : Exit → Act → World → Prop} (s x : Operand)
    (ho : o.op = .call { callee := .builtin .append, args := #[s, x], argTypes := #[st, st] }) (B : Nat) (v : Value) (l r : List α) (hs : a.eval s = v) (hown : E.Own w B v l) (A : Option Addr) (m c : Nat) (hx : a.eval x = .slice A m c)
    (hm : r.length = m) (hT : E.Sl w A r) (hc : A = none → c = 0) (hl : l.length + r.length ≤ 100000) (hB : B ≤ w.heap.size)
    (h : ∀ v' w', E.Own w' B v' (l ++ r) → w.grownBy w' v.ownBlock → (v'.ownBlock = v.ownBlock ∨ v'.ownBlock = some w.heap.size) → K (a.put o.dst v') w') : o.wp P a w K Q := by
  obtain ⟨v', w', hr, h2, h3, h4⟩ := El.run_app I w o.type B v l r hown A m c hm hT hc hl hB
  unfold Oper.wp execOp
  simp only [ho, resolve, invoke, builtin, Sem.run_bind, Sem.run_pure, Result.andThen_ok, List.map_toArray, List.map_cons, List.map_nil, hs, hx, hr]
  exact h v' w' h2 h3 h4
theorem El.wpList_app (I : E.Inn P st) {ops : Array Oper} {rest : List Oper} {o : Oper} {a : Act} {w : World} {Q : Exit → Act → World → Prop} (hgd : o.guard = none) (s x : Operand)
    (ho : o.op = .call { callee := .builtin .append, args := #[s, x], argTypes := #[st, st] }) (B : Nat) (v : Value) (l r : List α) (hs : a.eval s = v) (hown : E.Own w B v l) (A : Option Addr) (m c : Nat) (hx : a.eval x = .slice A m c)
    (hm : r.length = m) (hT : E.Sl w A r) (hc : A = none → c = 0) (hl : l.length + r.length ≤ 100000) (hB : B ≤ w.heap.size)
    (h : ∀ v' w', E.Own w' B v' (l ++ r) → w.grownBy w' v.ownBlock → (v'.ownBlock = v.ownBlock ∨ v'.ownBlock = some w.heap.size) → wpList P ops Q rest (a.put o.dst v') w') : wpList P ops Q (o :: rest) a w :=
  wpList_plain hgd fun _ hK => El.wp_app I s x ho B v l r hs hown A m c hx hm hT hc hl hB fun v' w' h2 h3 h4 => hK _ _ (h v' w' h2 h3 h4)
theorem El.step_app (I : E.Inn P st) {ops : Array Oper} {o : Oper} {a : Act} {w : World} {K : Act → World → Prop} {Q : Exit → Act → World → Prop} {F : Prop} (hgd : o.guard = none) (s x : Operand)
    (ho : o.op = .call { callee := .builtin .append, args := #[s, x], argTypes := #[st, st] }) (B : Nat) (v : Value) (l r : List α) (hs : a.eval s = v) (hown : E.Own w B v l) (A : Option Addr) (m c : Nat) (hx : a.eval x = .slice A m c)
    (hm : r.length = m) (hT : E.Sl w A r) (hc : A = none → c = 0) (hl : l.length + r.length ≤ 100000) (hB : B ≤ w.heap.size)
    (h : ∀ v' w', E.Own w' B v' (l ++ r) → w.grownBy w' v.ownBlock → (v'.ownBlock = v.ownBlock ∨ v'.ownBlock = some w.heap.size) → K (a.put o.dst v') w') :
    if Region.wanted o (yielded ops a.tmps) = true then Oper.wp P o a w K Q else F := by
  rw [if_pos (by simp [Region.wanted, hgd])]
  exact El.wp_app I s x ho B v l r hs hown A m c hx hm hT hc hl hB h

/-- What a program says of the kind as a struct. -/
def isRow : TypeDesc → Bool
  | .struct _ => true
  | .array _ _ => true
  | _ => false
structure El.Row (E : El α) (P : Program) : Prop where
  size : (P.info? E.e).map (·.size) = some E.k
  desc : ∃ d, P.underlying E.e = some d ∧ isRow d = true
theorem El.run_load (R : El.Row E P) {w : World} {b off : Nat} {x : α} (h : E.At w b off x) : (loadVar E.e ⟨b, off, none⟩).run P w = .ok (.agg (E.c x).toArray) w := by
  obtain ⟨d, hu, hd⟩ := R.desc
  have hs0 := R.size
  have hl : (loadCells ⟨b, off, none⟩ (E.c x).length).run P w = .ok (E.c x).toArray w :=
    run_loadCells_list (P := P) w ⟨b, off, none⟩ (E.c x) (fun j v hv => by rw [Addr.add_lit]; exact h j v hv)
  cases hq : P.info? E.e with
  | none => simp [hq] at hs0
  | some i =>
    have hs : i.size = (E.c x).length := by rw [E.len]; simpa [hq] using hs0
    have hagg : (isAgg E.e).run P w = .ok true w := by
      unfold isAgg
      rw [Sem.run_bind, run_underlying hu w]
      cases d <;> simp_all [isRow]
    simp [loadVar, Sem.run_bind, hagg, sizeOf, typeInfo, hq, hs, hl]
theorem El.wp_load (R : El.Row E P) {o : Oper} {a : Act} {w : World} {K : Act → World → Prop} {Q : Exit → Act → World → Prop} (x : Operand) (ho : o.op = .load E.e x)
    (b off : Nat) (hx : a.eval x = .pointer (some ⟨b, off, none⟩)) (p : α) (hg : E.At w b off p) (cs : Array Value) (hc : cs = (E.c p).toArray)
    (h : K (a.put o.dst (.agg cs)) w) : o.wp P a w K Q := by
  subst hc
  unfold Oper.wp execOp
  simp only [ho, hx, Instr.loadAt, Instr.sureAddr, Sem.run_bind, Sem.run_pure, Result.andThen_ok, El.run_load R hg]
  exact h
theorem El.load (R : El.Row E P) {ops : Array Oper} {rest : List Oper} {o : Oper} {a : Act} {w : World} {Q : Exit → Act → World → Prop} (hgd : o.guard = none) (x : Operand) (ho : o.op = .load E.e x)
    (b off : Nat) (hx : a.eval x = .pointer (some ⟨b, off, none⟩)) (p : α) (hg : E.At w b off p) (cs : Array Value) (hc : cs = (E.c p).toArray)
    (h : wpList P ops Q rest (a.put o.dst (.agg cs)) w) : wpList P ops Q (o :: rest) a w :=
  wpList_plain hgd fun _ hK => El.wp_load R x ho b off hx p hg cs hc (hK _ _ h)
theorem El.store (R : El.Row E P) {ops : Array Oper} {rest : List Oper} {o : Oper} {a : Act} {w : World} {Q : Exit → Act → World → Prop} (hgd : o.guard = none) (x y : Operand) (ho : o.op = .store E.e x y)
    (b : Nat) (q : α) (cs : Array Value) (hc : cs = (E.c q).toArray) (hx : a.eval x = .pointer (some ⟨b, 0, none⟩)) (hy : a.eval y = .agg cs)
    (p : α) (hg : E.In w b p)
    (h : wpList P ops Q rest (a.put o.dst undef) (w.setRow b cs)) : wpList P ops Q (o :: rest) a w := by
  subst hc
  exact wpList_store_row hgd E.e x y ho b _ hx hy E.e _ hg (by simpa [E.len] using R.size) (by simp [E.len]) (by simpa using E.one q) h
theorem El.step_store (R : El.Row E P) {ops : Array Oper} {o : Oper} {a : Act} {w : World} {K : Act → World → Prop} {Q : Exit → Act → World → Prop} {F : Prop} (hgd : o.guard = none) (x y : Operand) (ho : o.op = .store E.e x y)
    (b : Nat) (q : α) (cs : Array Value) (hc : cs = (E.c q).toArray) (hx : a.eval x = .pointer (some ⟨b, 0, none⟩)) (hy : a.eval y = .agg cs)
    (p : α) (hg : E.In w b p)
    (h : K (a.put o.dst undef) (w.setRow b cs)) : if Region.wanted o (yielded ops a.tmps) = true then Oper.wp P o a w K Q else F := by
  rw [if_pos (by simp [Region.wanted, hgd])]
  subst hc
  exact wp_store_row E.e x y ho b _ hx hy E.e _ hg (by simpa [E.len] using R.size) (by simp [E.len]) (by simpa using E.one q) h
theorem El.step_load (R : El.Row E P) {ops : Array Oper} {o : Oper} {a : Act} {w : World} {K : Act → World → Prop} {Q : Exit → Act → World → Prop} {F : Prop} (hgd : o.guard = none) (x : Operand) (ho : o.op = .load E.e x)
    (b off : Nat) (hx : a.eval x = .pointer (some ⟨b, off, none⟩)) (p : α) (hg : E.At w b off p) (cs : Array Value) (hc : cs = (E.c p).toArray)
    (h : K (a.put o.dst (.agg cs)) w) : if Region.wanted o (yielded ops a.tmps) = true then Oper.wp P o a w K Q else F := by
  rw [if_pos (by simp [Region.wanted, hgd])]
  exact El.wp_load R x ho b off hx p hg cs hc h
/-- One result, a struct of a block. -/
theorem El.ret1 (R : El.Row E P) {fn : Func} {K : Ending → World → Prop} {a : Act} {w : World} {b : Nat} {t : Tmp} {p : α} (h : E.In w b p) (hr : fn.results = #[.cell t E.e]) (hp : a.tmps.getD t undef = .pointer (some ⟨b, 0, none⟩)) (hd : a.defers = [])
    (cs : Array Value) (hc : cs = (E.c p).toArray) (hR : K (.returned (.agg cs)) w) : bodyPost P fn K .ret a w := by
  subst hc
  have hp' : a.tmps[t]?.getD undef = .pointer (some ⟨b, 0, none⟩) := by simpa using hp
  refine bodyPost_ret (v := .agg (E.c p).toArray) ?_ hd hR
  simp [results, hr, hp', asAddr, El.run_load R h.at]
/-- Two results, a struct of a block and a word. -/
theorem El.ret2 (R : El.Row E P) {fn : Func} {K : Ending → World → Prop} {a : Act} {w : World} {b : Nat} {t u : Tmp} {v : Value} {p : α} (h : E.In w b p) (hr : fn.results = #[.cell t E.e, .tmp u]) (hp : a.tmps.getD t undef = .pointer (some ⟨b, 0, none⟩)) (hv : a.tmps.getD u undef = v) (hd : a.defers = [])
    (cs : Array Value) (hc : cs = (E.c p).toArray) (hR : K (.returned (.tuple #[.agg cs, v])) w) : bodyPost P fn K .ret a w := by
  subst hc
  refine bodyPost_ret (v := .tuple #[.agg (E.c p).toArray, v]) ?_ hd hR
  rw [results_cell_tmp hr, hp, hv]
  simp only [asAddr, Sem.run_pure, Result.andThen, El.run_load R h.at]
/-- Two results, a word and a struct of a block. -/
theorem El.ret3 (R : El.Row E P) {fn : Func} {K : Ending → World → Prop} {a : Act} {w : World} {b : Nat} {t u : Tmp} {v : Value} {p : α} (h : E.In w b p) (hr : fn.results = #[.tmp u, .cell t E.e]) (hp : a.tmps.getD t undef = .pointer (some ⟨b, 0, none⟩)) (hv : a.tmps.getD u undef = v) (hd : a.defers = [])
    (cs : Array Value) (hc : cs = (E.c p).toArray) (hR : K (.returned (.tuple #[v, .agg cs])) w) : bodyPost P fn K .ret a w := by
  subst hc
  refine bodyPost_ret (v := .tuple #[v, .agg (E.c p).toArray]) ?_ hd hR
  have hp' : a.tmps[t]?.getD undef = .pointer (some ⟨b, 0, none⟩) := by simpa using hp
  have hv' : a.tmps[u]?.getD undef = v := by simpa using hv
  simp [results, hr, hp', hv', asAddr, El.run_load R h.at]
end
end Go.Proofs.YtndahomgglpdhaaDoor

/- Slices among the arguments, opened, whatever their elements; bytes as elements. -/
namespace Go.Proofs.YtndahomgglpdhaaDoor
open Go.ChangeShapes Go.WideShapes Go.ChangeAt Go.RowKit Go.Deep Nam Cod Tre

def byE : El Int where
  e := 5
  k := 1
  c x := [.int .u8 x]
  len _ := rfl
  one p u h := by
    simp only [List.mem_cons, List.not_mem_nil, or_false] at h
    subst h; rfl
  pos := by decide
set_option maxRecDepth 100000 in
theorem open_list {α : Type} (E : El α) (Q : α → Prop) {st : TypeId} (hu : Tryd.prog.underlying st = some (.slice E.e)) (hk : Tryd.prog.cellsOf E.e = E.k) [Inhabited α] {H : Type} {enc : TypeId × Value → H} {W : World} {base : Nat} {v : Value} {d : DataW H} {ps : List MemPlace}
    (hrd : ∀ {fuel : Nat} {cs : List Value} {x : DataW H × List MemPlace}, DataW.trod enc Tryd.prog W 0 (fun _ => true) true fuel E.e cs = some x → ∃ a, cs = E.c a ∧ Q a)
    (hv : Value.okWide Tryd.prog W .any base st v) (h : DataW.Trod enc Tryd.prog W 0 (fun _ => true) true st v d ps) :
    ∃ (A : Option Addr) (cap : Nat) (l : List α), v = .slice A l.length cap ∧ E.Sl W A l ∧ l.length ≤ cap ∧ (A = none → cap = 0) ∧ ∀ p ∈ l, Q p := by
  obtain ⟨a0, len, cap, rfl, _⟩ := okWide_slice hu hv
  obtain ⟨fuel, hf⟩ := h
  rcases open_slice hu hf with ⟨hcs, hx⟩ | ⟨a, len', cap', m, n, D, Pls, hcs, _, hle, hm, hmm, hx, hi⟩
  · simp [Value.cells] at hcs
    obtain ⟨rfl, rfl, rfl⟩ := hcs
    exact ⟨none, 0, [], rfl, El.Sl.nil W none, Nat.le_refl _, fun _ => rfl, fun p hp => by cases hp⟩
  · simp [Value.cells] at hcs
    obtain ⟨rfl, rfl, rfl⟩ := hcs
    simp only [if_true] at hmm
    have hv : ∀ i, i < m → ∃ p : α, Q p ∧ W.cells? 0 (a.add (i * E.k)) E.k = some (E.c p) := by
      intro i him
      obtain ⟨cs', h1, h2⟩ := hi i him
      rw [hk] at h1
      obtain ⟨p, rfl, hw⟩ := hrd h2
      exact ⟨p, hw, h1⟩
    obtain ⟨f, hf2⟩ := choose_lt hv
    have hlen : ((List.range len).map f).length = len := by simp
    refine ⟨some a, cap, (List.range len).map f, by rw [hlen], fun h => ?_, by rw [hlen]; exact hle, (fun e => by cases e), fun p hp => ?_⟩
    · rw [hlen] at h
      obtain ⟨bb, off, spot⟩ := a
      have cell : ∀ i, i < len → ∀ j v, (E.c (f i))[j]? = some v → W.cell? (((⟨bb, off, spot⟩ : Addr).add (i * E.k)).add j) = some v := by
        intro i hil j v hv
        obtain ⟨_, _, hcell⟩ := World.cells?_some (hf2 i (by omega)).2
        have hj : j < E.k := by have := (List.getElem?_eq_some_iff.1 hv).1; rw [E.len] at this; exact this
        have := hcell j hj
        rw [this]; exact hv
      have h00 : ∃ v, (E.c (f 0))[0]? = some v := ⟨(E.c (f 0))[0]'(by rw [E.len]; exact E.pos), List.getElem?_eq_getElem _⟩
      obtain ⟨v0, hv0⟩ := h00
      have hspot : spot = none := by
        have := cell 0 h 0 _ hv0
        simpa [Addr.add] using World.cell?_spot this
      subst hspot
      refine ⟨bb, off, rfl, (by have h9 := block_lt_of_cell (cell 0 h 0 _ hv0); rw [add_plain, add_plain] at h9; exact h9), fun i hil => ?_⟩
      have hil' : i < len := by rw [hlen] at hil; exact hil
      have he : ((List.range len).map f)[i] = f i := by simp
      rw [he]
      intro j u hu
      have := cell i hil' j u hu
      rwa [add_plain, add_plain] at this
    · obtain ⟨i, hi2, rfl⟩ := List.mem_map.1 hp
      exact (hf2 i (by have := List.mem_range.1 hi2; omega)).1

set_option maxRecDepth 100000 in
theorem open_bytes {H : Type} {enc : TypeId × Value → H} {W : World} {base : Nat} {v : Value} {d : DataW H} {ps : List MemPlace}
    (hv : Value.okWide Tryd.prog W .any base 40 v) (h : DataW.Trod enc Tryd.prog W 0 (fun _ => true) true 40 v d ps) :
    ∃ (A : Option Addr) (cap : Nat) (l : List Int), v = .slice A l.length cap ∧ byE.Sl W A l ∧ l.length ≤ cap ∧ (A = none → cap = 0) ∧ ∀ t ∈ l, 0 ≤ t ∧ t ≤ 255 :=
  open_list byE (fun t => 0 ≤ t ∧ t ≤ 255) Tryd.underlying40 cells5 (fun h => by
    obtain ⟨x, e, _, wf⟩ := DataW.trod_int Tryd.underlying5 h
    have hb := bounds_u8 wf
    exact ⟨x, e, by omega, by omega⟩) hv h
set_option maxRecDepth 100000 in
theorem open_u8 {H : Type} {enc : TypeId × Value → H} {W : World} {base : Nat} {sp : Nat → Bool} {v : Value} {d : DataW H} {ps : List MemPlace}
    (hv : Value.okWide Tryd.prog W .any base 5 v) (h : DataW.Trod enc Tryd.prog W 0 sp true 5 v d ps) : ∃ t : Int, v = .int .u8 t ∧ 0 ≤ t ∧ t ≤ 255 := by
  obtain ⟨a, rfl, _, _, wf⟩ := open_int Tryd.underlying5 hv h
  have hb := bounds_u8 wf
  exact ⟨a, rfl, by omega, by omega⟩
/-- A block that is a row of these. -/
theorem El.Sl.row {α : Type} {E : El α} (w : World) (l : List α) (cs : Array Value) (hc : cs = (E.cells l).toArray) : E.Sl (w.alloc (.cells cs E.e)) (some ⟨w.heap.size, 0, none⟩) l := fun _ => by
  subst hc
  refine ⟨w.heap.size, 0, rfl, by rw [alloc_size]; omega, fun i hi j u hu => ?_⟩
  have h := cell_of_row (w.alloc (.cells (E.cells l).toArray E.e)) w.heap.size (i * E.k + j) _ E.e (0, 0) (heap_alloc_new w _)
  rw [show 0 + i * E.k + j = i * E.k + j by omega, h]
  simpa using El.cells_at l i hi j u hu
set_option maxRecDepth 100000 in
/-- A slice among the cells of an argument. -/
theorem open_cells {α : Type} (E : El α) (Q : α → Prop) {st : TypeId} (hu : Tryd.prog.underlying st = some (.slice E.e)) (hk : Tryd.prog.cellsOf E.e = E.k) [Inhabited α] {H : Type} {enc : TypeId × Value → H} {W : World} {fuel : Nat} {cs : List Value} {x : DataW H × List MemPlace}
    (hrd : ∀ {fuel : Nat} {cs : List Value} {x : DataW H × List MemPlace}, DataW.trod enc Tryd.prog W 0 (fun _ => true) true fuel E.e cs = some x → ∃ a, cs = E.c a ∧ Q a)
    (hf : DataW.trod enc Tryd.prog W 0 (fun _ => true) true fuel st cs = some x) :
    ∃ (A : Option Addr) (cap : Nat) (l : List α), cs = [.slice A l.length cap] ∧ (E.Sl W A l ∧ (A = none → cap = 0) ∧ l.length ≤ cap) ∧ ∀ p ∈ l, Q p := by
  rcases open_slice hu hf with ⟨hcs, hx⟩ | ⟨a, len, cap, m, n, D, Pls, hcs, _, hle, hm, hmm, hx, hi⟩
  · exact ⟨none, 0, [], hcs, ⟨El.Sl.nil W none, fun _ => rfl, Nat.le_refl _⟩, fun p hp => by cases hp⟩
  · simp only [if_true] at hmm
    have hv : ∀ i, i < m → ∃ p : α, Q p ∧ W.cells? 0 (a.add (i * E.k)) E.k = some (E.c p) := by
      intro i him
      obtain ⟨cs', h1, h2⟩ := hi i him
      rw [hk] at h1
      obtain ⟨p, rfl, hw⟩ := hrd h2
      exact ⟨p, hw, h1⟩
    obtain ⟨f, hf2⟩ := choose_lt hv
    have hlen : ((List.range len).map f).length = len := by simp
    refine ⟨some a, cap, (List.range len).map f, by rw [hlen]; exact hcs, ⟨fun h => ?_, (fun e => by cases e), by rw [hlen]; exact hle⟩, fun p hp => ?_⟩
    · rw [hlen] at h
      obtain ⟨bb, off, spot⟩ := a
      have cell : ∀ i, i < len → ∀ j v, (E.c (f i))[j]? = some v → W.cell? (((⟨bb, off, spot⟩ : Addr).add (i * E.k)).add j) = some v := by
        intro i hil j v hv
        obtain ⟨_, _, hcell⟩ := World.cells?_some (hf2 i (by omega)).2
        have hj : j < E.k := by have := (List.getElem?_eq_some_iff.1 hv).1; rw [E.len] at this; exact this
        have := hcell j hj
        rw [this]; exact hv
      have h00 : ∃ v, (E.c (f 0))[0]? = some v := ⟨(E.c (f 0))[0]'(by rw [E.len]; exact E.pos), List.getElem?_eq_getElem _⟩
      obtain ⟨v0, hv0⟩ := h00
      have hspot : spot = none := by
        have := cell 0 h 0 _ hv0
        simpa [Addr.add] using World.cell?_spot this
      subst hspot
      refine ⟨bb, off, rfl, (by have h9 := block_lt_of_cell (cell 0 h 0 _ hv0); rw [add_plain, add_plain] at h9; exact h9), fun i hil => ?_⟩
      have hil' : i < len := by rw [hlen] at hil; exact hil
      have he : ((List.range len).map f)[i] = f i := by simp
      rw [he]
      intro j u hu
      have := cell i hil' j u hu
      rwa [add_plain, add_plain] at this
    · obtain ⟨i, hi2, rfl⟩ := List.mem_map.1 hp
      exact (hf2 i (by have := List.mem_range.1 hi2; omega)).1
end Go.Proofs.YtndahomgglpdhaaDoor

/- A region that draws its order, whose last operation writes what others of it read: S need not hold behind that one. No function of the program in it. -/
namespace Go.Proofs.YtndahomgglpdhaaDoor
open Go.RowKit

section
variable {P : Program} {ops : Array Oper} {Q : Exit → Act → World → Prop} {md : Region.Mode} {S : World → Prop} {n : Nat}

/-- Whatever order is picked from here on; S holds behind every operation till number n comes. -/
def anyG (P : Program) (md : Region.Mode) (ops : Array Oper) (Q : Exit → Act → World → Prop) (S : World → Prop) (n : Nat) : Nat → Array Bool → Act → World → Prop
  | 0, listed, a, w => Region.ready md ops listed = [] ∧ Q .normal a w
  | fuel + 1, listed, a, w =>
    (Region.ready md ops listed = [] → Q .normal a w) ∧
    ∀ i ∈ Region.ready md ops listed, wpOp P ops Q i (fun b v => ((listed.setIfInBounds i true).getD n true = false → S v) ∧ anyG P md ops Q S n fuel (listed.setIfInBounds i true) b v) a w
theorem anyG_any : ∀ (fuel : Nat) (listed : Array Bool) (a : Act) (w : World), anyG P md ops Q S n fuel listed a w → wpAny P md ops Q fuel listed a w
  | 0, _, _, _, h => h
  | fuel + 1, _, _, _, h => ⟨h.1, fun i hi => wpOp_mono (fun b v hb => anyG_any fuel _ b v hb.2) (h.2 i hi)⟩
theorem region_anyG {id : Nat} {a : Act} {w : World} (n : Nat) (hm : P.follows .mixedOrders = true) (h : anyG P .any ops Q S n ops.size (Array.replicate ops.size false) a w.drew) : (Code.region id ops true).wp P Q a w :=
  wp_region_any hm (anyG_any _ _ _ _ h)

/-- Number n waits for number i. -/
def waitsB (md : Region.Mode) (ops : Array Oper) (n i : Nat) : Bool := match ops[n]? with
  | none => false
  | some o => o.after.any fun e => Region.binds md e && e.on == i
theorem waits_spec {listed : Array Bool} {i : Nat} (hl : waitsB md ops n i = true) (hr : n ∈ Region.ready md ops listed) : listed.getD i false = true := by
  obtain ⟨_, o, ho, hall⟩ := mem_ready.1 hr
  unfold waitsB at hl
  rw [ho] at hl
  obtain ⟨e, he, hb⟩ := Array.any_eq_true'.1 hl
  rw [Bool.and_eq_true, beq_iff_eq] at hb
  have := hall e he hb.1
  rw [hb.2] at this; exact this
theorem getD_false {listed : Array Bool} {i : Nat} (h : listed.getD i true = false) : listed.getD i false = false := by
  rcases Nat.lt_or_ge i listed.size with h1 | h1
  · simp [h1] at h ⊢; exact h
  · simp [Array.getElem?_eq_none h1] at h
theorem getD_here (listed : Array Bool) (n : Nat) : (listed.setIfInBounds n true).getD n true = true := by
  rcases Nat.lt_or_ge n listed.size with h1 | h1
  · simp [h1]
  · have h2 : (listed.setIfInBounds n true).size ≤ n := by simpa using h1
    simp [Array.getElem?_eq_none h2]

theorem anyG_first {i : Nat} {oi : Oper} {v : Value} (hi : ops[i]? = some oi) (hin : i ≠ n) (hsel : ∀ (j : Nat) (o : Oper) cs b, ops[j]? = some o → o.op ≠ .select cs b)
    (hQ : ∀ c a w, Q (.panic c) (a.put oi.dst v) w → Q (.panic c) a w) (T : World → Prop) (hT : waitsB md ops n i = true ∨ ∀ w, T w) :
    ∀ (fuel : Nat) (listed : Array Bool) (a : Act) (w : World),
      (∀ j oj, ops[j]? = some oj → j ≠ i → listed.getD j true = false → (∀ e ∈ oj.after, Region.binds md e = true → e.on ≠ i) → oi.apart ops oj = true) →
      i ∈ Region.ready md ops listed → YieldsIf P ops T oi v a → T w → (listed.getD n true = false → S w) → ((∀ w, T w) ∨ (listed.getD n true = false ∧ ∀ w, S w → T w)) →
      anyG P md ops Q S n fuel (listed.setIfInBounds i true) (a.put oi.dst v) w → anyG P md ops Q S n (fuel + 1) listed a w := by
  intro fuel
  induction fuel with
  | zero =>
    intro listed a w _ hr hy hTw hS _ H
    refine ⟨fun h => (by rw [h] at hr; cases hr), fun j hj => ?_⟩
    by_cases hji : j = i
    · subst hji; exact hy.wpOp hi hTw ⟨fun h => hS (by rw [getD_set_ne true hin] at h; exact h), H⟩
    · have h0 := ready_mono hj hji
      rw [H.1] at h0
      cases h0
  | succ fuel ih =>
    intro listed a w hfree hr hy hTw hS hTT H
    refine ⟨fun h => (by rw [h] at hr; cases hr), fun j hj => ?_⟩
    by_cases hji : j = i
    · subst hji; exact hy.wpOp hi hTw ⟨fun h => hS (by rw [getD_set_ne true hin] at h; exact h), H⟩
    · have hunf := getD_false (mem_ready.1 hr).1
      have h1 := H.2 j (ready_mono hj hji)
      obtain ⟨hjun, oj, hoj, hall⟩ := mem_ready.1 hj
      have hnot : ∀ e ∈ oj.after, Region.binds md e = true → e.on ≠ i := fun e he hb heq => by
        have h2 := hall e he hb
        rw [heq, hunf] at h2; cases h2
      have h2 := wpOp_putIf hoj (hfree j oj hoj hji hjun hnot) (fun cs b => hsel i oi cs b hi) (fun cs b => hsel j oj cs b hoj) hQ hy h1
      refine wpOp_mono (fun b u h3 => ?_) h2
      have hSu : (listed.setIfInBounds j true).getD n true = false → S u := fun h => h3.2.1 (by
        rw [Array.setIfInBounds_comm _ _ (Ne.symm hji), getD_set_ne true hin]; exact h)
      have hTu : T u ∧ ((∀ w, T w) ∨ ((listed.setIfInBounds j true).getD n true = false ∧ ∀ w, S w → T w)) := by
        rcases hTT with hTT | ⟨hun, hST⟩
        · exact ⟨hTT u, Or.inl hTT⟩
        · by_cases hjn : j = n
          · rcases hT with hT | hT
            · subst hjn
              have h4 := waits_spec hT hj
              rw [hunf] at h4; cases h4
            · exact ⟨hT u, Or.inl hT⟩
          · have hn2 : (listed.setIfInBounds j true).getD n true = false := by rw [getD_set_ne true hjn]; exact hun
            exact ⟨hST u (hSu hn2), Or.inr ⟨hn2, hST⟩⟩
      refine ⟨hSu, ih (listed.setIfInBounds j true) b u (fun k ok hk hki hku hno => hfree k ok hk hki ?_ hno) (ready_mono hr (Ne.symm hji)) h3.1 hTu.1 hSu hTu.2 ?_⟩
      · by_cases hjk : j = k
        · subst hjk; exact hjun
        · rw [getD_set_ne true hjk] at hku; exact hku
      · rw [Array.setIfInBounds_comm _ _ hji]
        exact h3.2.2
/-- What yields in whatever world meets S, and for what number n waits. -/
theorem anyG_take {i : Nat} {oi : Oper} {v : Value} {fuel : Nat} {listed : Array Bool} {a : Act} {w : World} (hi : ops.toList[i]? = some oi)
    (hl : waitsB md ops n i = true) (hin : (i == n || listed.getD n true) = false) (hs : Region.noSelect ops = true) (hf : Region.free md ops listed i = true) (hr : (Region.ready md ops listed).contains i = true)
    (hQ : ∀ c a w, Q (.panic c) (a.put oi.dst v) w → Q (.panic c) a w) (hy : YieldsIf P ops S oi v a) (hS : S w)
    (h : anyG P md ops Q S n fuel (listed.setIfInBounds i true) (a.put oi.dst v) w) : anyG P md ops Q S n (fuel + 1) listed a w := by
  have hi : ops[i]? = some oi := by rw [← Array.getElem?_toList]; exact hi
  rw [Bool.or_eq_false_iff] at hin
  exact anyG_first hi (by simpa using hin.1) (Region.noSelect_spec hs) hQ S (Or.inl hl) fuel listed a w (Region.free_spec hi hf) (by simpa using hr) hy hS (fun _ => hS) (Or.inr ⟨hin.2, fun _ h => h⟩) h
/-- What yields in every world: behind number n, too. -/
theorem anyG_plain {i : Nat} {oi : Oper} {v : Value} {fuel : Nat} {listed : Array Bool} {a : Act} {w : World} (hi : ops.toList[i]? = some oi)
    (hin : (i == n) = false) (hs : Region.noSelect ops = true) (hf : Region.free md ops listed i = true) (hr : (Region.ready md ops listed).contains i = true)
    (hQ : ∀ c a w, Q (.panic c) (a.put oi.dst v) w → Q (.panic c) a w) (hy : Yields P ops oi v a) (hS : listed.getD n true = false → S w)
    (h : anyG P md ops Q S n fuel (listed.setIfInBounds i true) (a.put oi.dst v) w) : anyG P md ops Q S n (fuel + 1) listed a w := by
  have hi : ops[i]? = some oi := by rw [← Array.getElem?_toList]; exact hi
  exact anyG_first hi (by simpa using hin) (Region.noSelect_spec hs) hQ (fun _ => True) (Or.inr fun _ => trivial) fuel listed a w (Region.free_spec hi hf) (by simpa using hr) hy.yieldsIf trivial hS (Or.inl fun _ => trivial) h
theorem anyG_done {listed : Array Bool} {a : Act} {w : World} (hr : Region.ready md ops listed = []) (h : Q .normal a w) : ∀ fuel, anyG P md ops Q S n fuel listed a w
  | 0 => ⟨hr, h⟩
  | _ + 1 => ⟨fun _ => h, by rw [hr]; simp⟩
/-- One of these comes next. -/
def AllG (P : Program) (md : Region.Mode) (ops : Array Oper) (Q : Exit → Act → World → Prop) (S : World → Prop) (n fuel : Nat) (listed : Array Bool) (a : Act) (w : World) (rs : List Nat) : Prop :=
  ∀ i ∈ rs, wpOp P ops Q i (fun b v => ((listed.setIfInBounds i true).getD n true = false → S v) ∧ anyG P md ops Q S n fuel (listed.setIfInBounds i true) b v) a w
theorem anyG_step {rs : List Nat} {fuel : Nat} {listed : Array Bool} {a : Act} {w : World} (hr : Region.ready md ops listed = rs) (hne : rs ≠ []) (h : AllG P md ops Q S n fuel listed a w rs) : anyG P md ops Q S n (fuel + 1) listed a w :=
  ⟨fun h0 => absurd (hr ▸ h0) hne, hr ▸ h⟩
theorem AllG.nil {fuel : Nat} {listed : Array Bool} {a : Act} {w : World} : AllG P md ops Q S n fuel listed a w [] := fun _ h => by cases h
/-- An operation of the middle: S anew. -/
theorem AllG.cons {fuel : Nat} {listed : Array Bool} {a : Act} {w : World} {i : Nat} {o : Oper} {rs : List Nat} (ho : ops.toList[i]? = some o)
    (h : ∀ K : Act → World → Prop, RowKit.Hid (∀ b v, S v → anyG P md ops Q S n fuel (listed.setIfInBounds i true) b v → K b v) → if Region.wanted o (yielded ops a.tmps) = true then Oper.wp P o a w K Q else K (a.put o.dst undef) w)
    (hs : AllG P md ops Q S n fuel listed a w rs) : AllG P md ops Q S n fuel listed a w (i :: rs) := fun j hj => by
  rcases List.mem_cons.1 hj with rfl | hj
  · exact wpOp_step (by rw [← Array.getElem?_toList]; exact ho) (fun K hK => h K (Lib.hid fun b v hS hW => hK b v ⟨fun _ => hS, hW⟩))
  · exact hs j hj
/-- The last one: nothing is asked behind it. -/
theorem AllG.last {fuel : Nat} {listed : Array Bool} {a : Act} {w : World} {o : Oper} (ho : ops.toList[n]? = some o)
    (h : ∀ K : Act → World → Prop, RowKit.Hid (∀ b v, anyG P md ops Q S n fuel (listed.setIfInBounds n true) b v → K b v) → if Region.wanted o (yielded ops a.tmps) = true then Oper.wp P o a w K Q else K (a.put o.dst undef) w) :
    AllG P md ops Q S n fuel listed a w [n] := fun j hj => by
  rw [List.mem_singleton] at hj
  subst hj
  exact wpOp_step (by rw [← Array.getElem?_toList]; exact ho) (fun K hK => h K (Lib.hid fun b v hW => hK b v ⟨fun e => (by rw [getD_here] at e; cases e), hW⟩))
end
end Go.Proofs.YtndahomgglpdhaaDoor

/- Rows of structs, whatever the struct: made, written at a place, built of one. No function of the program in it. -/
namespace Go.Proofs.YtndahomgglpdhaaDoor
open Go.RowKit

section
variable {α : Type} {E : El α}
theorem El.cells_take (l : List α) (i : Nat) (h : i ≤ l.length) : E.cells (l.take i) = (E.cells l).take (i * E.k) := by
  have e : E.cells l = E.cells (l.take i) ++ E.cells (l.drop i) := by rw [← El.cells_app, List.take_append_drop]
  have hl : (E.cells (l.take i)).length = i * E.k := by rw [El.cells_len, List.length_take, Nat.min_eq_left h]
  rw [e]; exact (List.take_left' hl).symm
theorem El.cells_drop (l : List α) (i : Nat) (h : i ≤ l.length) : E.cells (l.drop i) = (E.cells l).drop (i * E.k) := by
  have e : E.cells l = E.cells (l.take i) ++ E.cells (l.drop i) := by rw [← El.cells_app, List.take_append_drop]
  have hl : (E.cells (l.take i)).length = i * E.k := by rw [El.cells_len, List.length_take, Nat.min_eq_left h]
  rw [e]; exact (List.drop_left' hl).symm
theorem El.cells_set (l : List α) (i : Nat) (h : i < l.length) (x : α) : E.cells (l.set i x) = (E.cells l).take (i * E.k) ++ E.c x ++ (E.cells l).drop (i * E.k + E.k) := by
  rw [List.set_eq_take_append_cons_drop, if_pos h, El.cells_app, El.cells, El.cells_take l i (by omega), El.cells_drop l (i + 1) h, Nat.succ_mul, List.append_assoc]
theorem El.cells_rep (x : α) : ∀ n, (E.cells (List.replicate n x)).length = n * E.k := fun n => by rw [El.cells_len, List.length_replicate]
theorem El.made (x : α) (z : Array Value) (hz : z.toList = E.c x) (n : Nat) : (madeCells z (n * E.k)).toList = E.cells (List.replicate n x) := by
  have hzs : z.size = E.k := by rw [← Array.length_toList, hz, E.len]
  have hpos := E.pos
  apply List.ext_getElem?
  intro m
  by_cases hm : m < n * E.k
  · have h1 : m / E.k < n := Nat.div_lt_of_lt_mul (by rw [Nat.mul_comm]; exact hm)
    have h2 : m % E.k < E.k := Nat.mod_lt _ hpos
    have hu : (E.c x)[m % E.k]? = some ((E.c x)[m % E.k]'(by rw [E.len]; exact h2)) := List.getElem?_eq_getElem _
    have h3 := El.cells_at (E := E) (List.replicate n x) (m / E.k) (by simpa using h1) (m % E.k) _ (by rw [List.getElem_replicate]; exact hu)
    rw [Nat.mul_comm, Nat.div_add_mod] at h3
    rw [h3]
    simp only [madeCells, Array.getElem?_toList, Array.getElem?_map, Array.getElem?_range, hm, if_true, Option.map_some, hzs]
    congr 1
    simp only [← hz, Array.getElem_toList]
    exact getElem!_pos z _ (by omega)
  · rw [List.getElem?_eq_none (by rw [Array.length_toList, size_madeCells]; omega), List.getElem?_eq_none (by rw [El.cells_rep]; omega)]

variable {P : Program} {st : TypeId}
/-- make([]T, n). -/
theorem El.wp_make (I : E.Inn P st) (x : α) (hx : ∃ i z, P.info? E.e = some i ∧ i.zero = some z ∧ z.cells.toList = E.c x) {o : Oper} {a : Act} {w : World} {K : Act → World → Prop} {Q : Exit → Act → World → Prop} (lx cx : Operand)
    (ho : o.op = .makeSlice st lx cx) (B n c : Nat) (hl : a.eval lx = .int .i64 n) (hc : a.eval cx = .int .i64 c) (hn : c ≤ 100000) (hnc : n ≤ c) (hB : B ≤ w.heap.size)
    (h : ∀ w', E.Own w' B (.slice (some ⟨w.heap.size, 0, none⟩) n c) (List.replicate n x) → w.grownBy w' none → w.heap.size < w'.heap.size → K (a.put o.dst (.slice (some ⟨w.heap.size, 0, none⟩) n c)) w') : o.wp P a w K Q := by
  obtain ⟨hu, i, z, hi, hz, hsz, hby, hzs⟩ := I
  obtain ⟨i', z', hi', hz', hzc⟩ := hx
  rw [hi] at hi'; cases hi'
  rw [hz] at hz'; cases hz'
  have hb : i.bytes * c ≤ 1000 * 100000 := Nat.mul_le_mul hby hn
  have hb' : (i.bytes : Int) * (c : Int) ≤ 281474976710656 := by
    have h : ((i.bytes * c : Nat) : Int) ≤ 281474976710656 := by omega
    rwa [Int.natCast_mul] at h
  have hr := run_make (P := P) w st E.e i z hu hi hz .i64 .i64 n c (by omega) (by omega) hb' (by omega)
  simp only [Int.toNat_natCast] at hr
  unfold Oper.wp execOp
  simp only [ho, hl, hc, Sem.run_bind, Sem.run_pure, Result.andThen_ok, hr]
  refine h _ ⟨by rw [List.length_replicate, El.cells_rep], .inr ⟨w.heap.size, c, _, ?_, hB, heap_alloc_new w _, ?_, by unfold maxLen; omega, ?_, ?_⟩⟩ (World.grownBy_alloc w _ none) (by simp)
  · rw [List.length_replicate]
  · rw [List.length_replicate]; exact hnc
  · rw [size_madeCells, hsz]
  · rw [hsz, El.made x z.cells hzc c, List.length_replicate, ← El.cells_rep (E := E) x n]
    obtain ⟨d, rfl⟩ : ∃ d, c = n + d := ⟨c - n, by omega⟩
    rw [← List.replicate_append_replicate, El.cells_app]
    exact List.take_left
theorem El.wpList_make (I : E.Inn P st) (x : α) (hx : ∃ i z, P.info? E.e = some i ∧ i.zero = some z ∧ z.cells.toList = E.c x) {ops : Array Oper} {rest : List Oper} {o : Oper} {a : Act} {w : World} {Q : Exit → Act → World → Prop} (hgd : o.guard = none) (lx cx : Operand)
    (ho : o.op = .makeSlice st lx cx) (B n c : Nat) (hl : a.eval lx = .int .i64 n) (hc : a.eval cx = .int .i64 c) (hn : c ≤ 100000) (hnc : n ≤ c) (hB : B ≤ w.heap.size)
    (h : ∀ w', E.Own w' B (.slice (some ⟨w.heap.size, 0, none⟩) n c) (List.replicate n x) → w.grownBy w' none → w.heap.size < w'.heap.size → wpList P ops Q rest (a.put o.dst (.slice (some ⟨w.heap.size, 0, none⟩) n c)) w') : wpList P ops Q (o :: rest) a w :=
  wpList_plain hgd fun _ hK => El.wp_make I x hx lx cx ho B n c hl hc hn hnc hB fun w' h1 h2 h3 => hK _ _ (h w' h1 h2 h3)

/-- s[i] = x, in a row of the call's own. -/
theorem El.wp_setAt (R : El.Row E P) {o : Oper} {a : Act} {w : World} {K : Act → World → Prop} {Q : Exit → Act → World → Prop} (x y : Operand) (ho : o.op = .store E.e x y)
    (B g cap i : Nat) (l : List α) (q : α) (hown : E.Own w B (.slice (some ⟨g, 0, none⟩) l.length cap) l) (hi : i < l.length) (cs : Array Value) (hcs : cs = (E.c q).toArray) (hx : a.eval x = .pointer (some ⟨g, i * E.k, none⟩)) (hy : a.eval y = .agg cs)
    (h : ∀ w', E.Own w' B (.slice (some ⟨g, 0, none⟩) l.length cap) (l.set i q) → w.grownBy w' (some g) → w'.heap.size = w.heap.size → K (a.put o.dst undef) w') : o.wp P a w K Q := by
  subst hcs
  unfold El.Own at hown
  rcases hown.2 with ⟨h', _⟩ | ⟨g', cap', cur, h', hb, hg, hnc, hcm, hcsz, htake⟩
  · simp at h'
  · simp only [Value.slice.injEq, Option.some.injEq, Addr.mk.injEq, and_true, true_and] at h'
    obtain ⟨rfl, rfl⟩ := h'
    have hlen := hown.1
    have hik : i * E.k + E.k ≤ l.length * E.k := by rw [← Nat.succ_mul]; exact Nat.mul_le_mul_right _ hi
    have hck : l.length * E.k ≤ cap * E.k := Nat.mul_le_mul_right _ hnc
    have hs := run_storeCells_at (P := P) g (i * E.k) E.e (E.c q) 0 cur w hg (by rw [E.len]; omega) (E.one q)
    have hsz : ((E.c q).toArray).size = E.k := by simp [E.len]
    have hv : (storeVar E.e ⟨g, i * E.k, none⟩ (.agg (E.c q).toArray)).run P w = .ok () (w.setRow g (cur.toList.take (i * E.k) ++ E.c q ++ cur.toList.drop (i * E.k + E.k)).toArray) := by
      have hR := R.size
      cases hq : P.info? E.e with
      | none => simp [hq] at hR
      | some inf =>
        have hinf : inf.size = E.k := by simpa [hq] using hR
        simp only [Nat.add_zero, E.len] at hs
        simp [storeVar, sizeOf, typeInfo, hq, Value.cells, hinf, E.len, hs]
    unfold Oper.wp execOp
    simp only [ho, hx, hy, Instr.storeAt, Instr.sureAddr, Sem.run_bind, Sem.run_pure, Result.andThen_ok, hv]
    refine h _ ⟨by rw [List.length_set, El.cells_len, List.length_set], .inr ⟨g, cap, _, by rw [List.length_set], hb, setRow_heap w g cur _ E.e (0, 0) hg, by rw [List.length_set]; exact hnc, hcm, ?_, ?_⟩⟩ ⟨rfl, rfl, rfl, by simp, fun k _ hk => setRow_other w g k _ (fun e => hk (by simp [e]))⟩ (by simp)
    · simp only [List.size_toArray, List.length_append, List.length_take, List.length_drop, Array.length_toList, E.len]; omega
    · rw [List.length_set, El.cells_set l i hi q, ← htake]
      have hcl : cur.toList.length = cap * E.k := by rw [Array.length_toList, hcsz]
      generalize cur.toList = C at *
      simp only [List.toList_toArray]
      rw [List.take_take, Nat.min_eq_left (by omega), List.drop_take]
      have e1 : (C.take (i * E.k)).length = i * E.k := by rw [List.length_take]; omega
      have e2 : (C.take (i * E.k) ++ E.c q).length = i * E.k + E.k := by rw [List.length_append, e1, E.len]
      rw [List.take_append (l₁ := C.take (i * E.k) ++ E.c q), e2, List.take_of_length_le (by omega : (C.take (i * E.k) ++ E.c q).length ≤ l.length * E.k)]
theorem El.wpList_setAt (R : El.Row E P) {ops : Array Oper} {rest : List Oper} {o : Oper} {a : Act} {w : World} {Q : Exit → Act → World → Prop} (hgd : o.guard = none) (x y : Operand) (ho : o.op = .store E.e x y)
    (B g cap i : Nat) (l : List α) (q : α) (hown : E.Own w B (.slice (some ⟨g, 0, none⟩) l.length cap) l) (hi : i < l.length) (cs : Array Value) (hcs : cs = (E.c q).toArray) (hx : a.eval x = .pointer (some ⟨g, i * E.k, none⟩)) (hy : a.eval y = .agg cs)
    (h : ∀ w', E.Own w' B (.slice (some ⟨g, 0, none⟩) l.length cap) (l.set i q) → w.grownBy w' (some g) → w'.heap.size = w.heap.size → wpList P ops Q rest (a.put o.dst undef) w') : wpList P ops Q (o :: rest) a w :=
  wpList_plain hgd fun _ hK => El.wp_setAt R x y ho B g cap i l q hown hi cs hcs hx hy fun w' h1 h2 h3 => hK _ _ (h w' h1 h2 h3)
end
end Go.Proofs.YtndahomgglpdhaaDoor

/- A list of places of the call's own: what append makes of it. Grow and Concat of the library. -/
namespace Go.Proofs.YtndahomgglpdhaaDoor
open Go.RowKit Tre

def plCells : List Pl → List Value
  | [] => []
  | p :: l => .int .i64 p.n :: .int .i64 p.u :: .string p.s :: plCells l
theorem plCells_len : ∀ l, (plCells l).length = l.length * 3
  | [] => rfl
  | p :: l => by simp only [plCells, List.length_cons, plCells_len l]; omega
theorem plCells_app : ∀ l r, plCells (l ++ r) = plCells l ++ plCells r
  | [], r => rfl
  | p :: l, r => by simp only [plCells, List.cons_append, plCells_app l r]
theorem plCells_one : ∀ (l : List Pl), ∀ u ∈ plCells l, u.oneCell' = true
  | [], u, h => by cases h
  | p :: l, u, h => by
    simp only [plCells, List.mem_cons] at h
    rcases h with rfl | rfl | rfl | h
    · rfl
    · rfl
    · rfl
    · exact plCells_one l u h
theorem plCells_at : ∀ (l : List Pl) (i : Nat) (h : i < l.length), (plCells l)[i * 3]? = some (.int .i64 l[i].n) ∧ (plCells l)[i * 3 + 1]? = some (.int .i64 l[i].u) ∧ (plCells l)[i * 3 + 2]? = some (.string l[i].s)
  | p :: l, 0, _ => ⟨rfl, rfl, rfl⟩
  | p :: l, i + 1, h => by
    have := plCells_at l i (by simpa using h)
    rw [show (i + 1) * 3 = i * 3 + 3 by omega]
    exact this
theorem plCells_get : ∀ (l : List Pl) (j : Nat) (u : Value), (plCells l)[j]? = some u → ∃ i, ∃ h : i < l.length, (j = i * 3 ∧ u = .int .i64 l[i].n) ∨ (j = i * 3 + 1 ∧ u = .int .i64 l[i].u) ∨ (j = i * 3 + 2 ∧ u = .string l[i].s)
  | [], j, u, h => by simp [plCells] at h
  | p :: l, 0, u, h => ⟨0, by simp, Or.inl ⟨rfl, by simpa [plCells] using h.symm⟩⟩
  | p :: l, 1, u, h => ⟨0, by simp, Or.inr (Or.inl ⟨rfl, by simpa [plCells] using h.symm⟩)⟩
  | p :: l, 2, u, h => ⟨0, by simp, Or.inr (Or.inr ⟨rfl, by simpa [plCells] using h.symm⟩)⟩
  | p :: l, j + 3, u, h => by
    obtain ⟨i, hi, hc⟩ := plCells_get l j u h
    refine ⟨i + 1, by simpa using hi, ?_⟩
    rcases hc with ⟨e, hu⟩ | ⟨e, hu⟩ | ⟨e, hu⟩
    · exact Or.inl ⟨by omega, by simpa using hu⟩
    · exact Or.inr (Or.inl ⟨by omega, by simpa using hu⟩)
    · exact Or.inr (Or.inr ⟨by omega, by simpa using hu⟩)

theorem add_lit (b o j : Nat) : (⟨b, o, none⟩ : Addr).add j = ⟨b, o + j, none⟩ := Addr.add_lit b o j
/-- It lies from B on. -/
def Frs (B : Nat) (A : Option Addr) : Prop := ∀ a, A = some a → B ≤ a.block
theorem Frs.mono {B B' : Nat} {A : Option Addr} (h : Frs B A) (hB : B' ≤ B) : Frs B' A := fun a e => Nat.le_trans hB (h a e)
theorem Tr.cells {w : World} {a : Addr} {l : List Pl} (h : Tr w (some a) l) : ∀ j u, (plCells l)[j]? = some u → w.cell? (a.add j) = some u := by
  intro j u hu
  obtain ⟨i, hi, hc⟩ := plCells_get l j u hu
  obtain ⟨b, off, e, _, hat⟩ := h (by omega)
  obtain rfl := Option.some.inj e
  obtain ⟨a0, a1, a2⟩ := hat i hi
  rw [add_lit]
  rcases hc with ⟨rfl, rfl⟩ | ⟨rfl, rfl⟩ | ⟨rfl, rfl⟩
  · exact a0
  · exact a1
  · exact a2
theorem Tr.none_nil {w : World} {l : List Pl} (h : Tr w none l) : l = [] := by
  rcases Nat.eq_zero_or_pos l.length with h0 | h0
  · exact List.eq_nil_of_length_eq_zero h0
  · obtain ⟨_, _, e, _⟩ := h h0; cases e

end Go.Proofs.YtndahomgglpdhaaDoor

/- Concat of the library; Put and Drop of the program. -/
namespace Go.Proofs.YtndahomgglpdhaaDoor
open Go.RowKit Tre

def catP (F : Nat → List Pl) : Nat → List Pl
  | 0 => []
  | k + 1 => catP F k ++ F k
theorem catP_le (F : Nat → List Pl) (k : Nat) : ∀ n, k ≤ n → (catP F k).length ≤ (catP F n).length
  | 0, h => by obtain rfl : k = 0 := by omega
               exact Nat.le_refl _
  | n + 1, h => by
    by_cases e : k = n + 1
    · subst e; exact Nat.le_refl _
    · have := catP_le F k n (by omega)
      rw [catP, List.length_append]; omega

end Go.Proofs.YtndahomgglpdhaaDoor

/- Put and Drop of the program. -/
namespace Go.Proofs.YtndahomgglpdhaaDoor
open Go.RowKit Tre

theorem behind_le (l : List Pl) (b : Int) : idx l b ≤ behind l b ∧ behind l b ≤ l.length := by
  unfold behind
  have h := idx_le l b
  split
  · rename_i hi
    rcases hg : Tre.get l b with _ | p
    · rw [hg] at hi; cases hi
    · obtain ⟨_, _, h1, _⟩ := get_some hg; omega
  · omega

def partsF (l : List Pl) (ix tz : Nat) (m : List Pl) : Nat → List Pl
  | 0 => l.take ix
  | 1 => m
  | _ => l.drop tz
theorem parts_cat (l : List Pl) (ix tz : Nat) (m : List Pl) : catP (partsF l ix tz m) 3 = (l.take ix ++ m) ++ l.drop tz := by
  show ((([] ++ l.take ix) ++ m) ++ l.drop tz) = _
  rw [List.nil_append]

theorem Tr.take {w : World} {A : Option Addr} {l : List Pl} (h : Tr w A l) (k : Nat) : Tr w A (l.take k) := fun h0 => by
  have hk : (l.take k).length ≤ l.length := by rw [List.length_take]; omega
  obtain ⟨b, off, e, hb, hc⟩ := h (by omega)
  exact ⟨b, off, e, hb, fun i hi => by rw [List.getElem_take]; exact hc i (by omega)⟩
theorem Tr.drop {w : World} {A A3 : Option Addr} {l : List Pl} {cap tz : Nat} (h : Tr w A l) (hcap : l.length ≤ cap) (he : (if cap = tz then A else Option.map (fun x => x.add (tz * 3)) A) = A3) : Tr w A3 (l.drop tz) := fun h0 => by
  rw [List.length_drop] at h0
  obtain ⟨b, off, e, hb, hc⟩ := h (by omega)
  rw [if_neg (by omega), e] at he
  refine ⟨b, off + tz * 3, by rw [← he]; simp [add_lit], hb, fun i hi => ?_⟩
  rw [List.length_drop] at hi
  rw [List.getElem_drop, show off + tz * 3 + i * 3 = off + (tz + i) * 3 by omega]
  exact hc _ (by omega)
theorem drop_none {A A3 : Option Addr} {cap tz : Nat} (hn : A = none → cap = 0) (he : (if cap = tz then A else Option.map (fun x => x.add (tz * 3)) A) = A3) (h : A3 = none) : cap - tz = 0 := by
  by_cases e : cap = tz
  · omega
  · rw [if_neg e, h, Option.map_eq_none_iff] at he
    have := hn he; omega

end Go.Proofs.YtndahomgglpdhaaDoor

/- Put and Drop of the document. -/
namespace Go.Proofs.YtndahomgglpdhaaDoor
open Go.RowKit Tre

/-- The slice at A holds these places, in a block ahead of B. -/
def TrB (B : Nat) (w : World) (A : Option Addr) (l : List Pl) : Prop :=
  0 < l.length → ∃ b off, A = some ⟨b, off, none⟩ ∧ b < B ∧ ∀ i (h : i < l.length), AtPl w b (off + i * 3) l[i]
theorem TrB.of {B : Nat} {w : World} {A : Option Addr} {l : List Pl} (h : Tr w A l) (hB : w.heap.size ≤ B) : TrB B w A l := fun h0 => by
  obtain ⟨b, off, e, hl, hc⟩ := h h0
  exact ⟨b, off, e, by omega, hc⟩
theorem TrB.tr {B : Nat} {w : World} {A : Option Addr} {l : List Pl} (h : TrB B w A l) (hB : B ≤ w.heap.size) : Tr w A l := fun h0 => by
  obtain ⟨b, off, e, hl, hc⟩ := h h0
  exact ⟨b, off, e, by omega, hc⟩
theorem AtPl.grown {w w' : World} {b o : Nat} {p : Pl} {row : Option Nat} (h : AtPl w b o p) (hg : w.grownBy w' row) (hne : some b ≠ row) : AtPl w' b o p :=
  ⟨hg.cell h.1 hne, hg.cell h.2.1 hne, hg.cell h.2.2 hne⟩
theorem TrB.keep {B : Nat} {w w' : World} {A : Option Addr} {l : List Pl} {row : Option Nat} (h : TrB B w A l) (hg : w.grownBy w' row) (hrow : ∀ k, row = some k → B ≤ k) : TrB B w' A l := fun h0 => by
  obtain ⟨b, off, e, hl, hc⟩ := h h0
  exact ⟨b, off, e, hl, fun i hi => (hc i hi).grown hg (fun e => by have := hrow b e.symm; omega)⟩
theorem TrB.alloc {B : Nat} {w : World} {A : Option Addr} {l : List Pl} (h : TrB B w A l) (hB : B ≤ w.heap.size) (o : Obj) : TrB B (w.alloc o) A l :=
  h.keep (World.grownBy_alloc w o none) (fun k e => by cases e)
theorem Tr.keep1 {w w' : World} {a : Addr} {l : List Pl} {row : Option Nat} (h : Tr w (some a) l) (hg : w.grownBy w' row) (hne : some a.block ≠ row) : Tr w' (some a) l := fun h0 => by
  obtain ⟨b, off, e, hl, hc⟩ := h h0
  cases e
  exact ⟨b, off, rfl, Nat.lt_of_lt_of_le hl hg.size, fun i hi => (hc i hi).grown hg hne⟩

theorem dropL_none {l : List Pl} {b : Int} (h : (Tre.get l b).isSome = false) : dropL l b = l := by
  unfold dropL placedL behind
  rw [h, List.append_nil]
  exact List.take_append_drop _ _

end Go.Proofs.YtndahomgglpdhaaDoor
