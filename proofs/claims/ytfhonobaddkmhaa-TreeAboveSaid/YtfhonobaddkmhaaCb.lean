/- What Num of code gives. -/
import Derived.Test.YtfhonobaddkmhaaCa
namespace Go.Proofs.Ytfhonobaddkmhaa
open Go.RowKit Cod

theorem or_128 : ∀ x : Nat, x < 256 → bits .or .u8 (x : Int) 128 = ((x % 128 + 128 : Nat) : Int) := by decide +kernel
theorem info5 : (Try.prog.info? 5).map (fun i => (i.zero, i.size, i.bytes)) = some (some (.int .u8 0), 1, 1) := by kernel_rfl

/-- Bytes as cells. -/
def cellsB (l : List UInt8) : List Value := l.map fun b => .int .u8 (b.toNat : Int)
theorem cellsB_len (l : List UInt8) : (cellsB l).length = l.length := by unfold cellsB; simp
theorem cellsB_snoc (l : List UInt8) (n : Nat) (h : n < 256) : cellsB l ++ [.int .u8 (n : Int)] = cellsB (l ++ [UInt8.ofNat n]) := by
  have hv : (UInt8.ofNat n).toNat = n := by rw [UInt8.toNat_ofNat']; omega
  unfold cellsB; simp [hv]
theorem cellsB_at (l : List UInt8) (j : Nat) (h : j < l.length) : (cellsB l)[j]? = some (.int .u8 (l[j].toNat : Int)) := by
  unfold cellsB; simp [List.getElem?_eq_getElem h]

theorem own_cells {w : World} {B : Nat} {e : TypeId} {v : Value} {n : Nat} {xs : List Value} (h : w.ownsRowF B e 1 v n xs) (hn : 0 < n) :
    ∃ g cap, v = .slice (some ⟨g, 0, none⟩) n cap ∧ ∀ j u, xs[j]? = some u → w.cell? ⟨g, j, none⟩ = some u := by
  have hc := fun g => h.cells (g := g)
  rcases h.2 with ⟨rfl, hz⟩ | ⟨g, cap, cur, fz, rfl, _⟩
  · omega
  · refine ⟨g, cap, rfl, fun j u hu => ?_⟩
    have := hc g rfl j u hu
    rw [Addr.add_lit, Nat.zero_add] at this; exact this

theorem conv_own {w w0 : World} {B : Nat} {v : Value} {xs : List UInt8} (h : Lib.OwnBuf B 5 v xs.length (cellsB xs) w0 w) (hn : 0 < xs.length) :
    (convert 53 9 v).run Try.prog w = .ok (.string ⟨xs.toArray⟩) w := by
  obtain ⟨g, cap, rfl, hc⟩ := own_cells h.1 hn
  refine run_convert_bytes_back (P := Try.prog) w 53 9 5 ⟨g, 0, none⟩ cap xs Try.underlying53 Try.underlying5 Try.underlying9 ?_
  intro j hj
  rw [Addr.add_lit, Nat.zero_add]
  exact hc j _ (cellsB_at xs j hj)

set_option maxRecDepth 100000 in
set_option maxHeartbeats 2000000 in
theorem num_any (n : Int) (w : World) (h1 : -9223372036854775808 ≤ n) (h2 : n ≤ 9223372036854775807) :
    Calls Try.prog 35 #[.int .i64 n] w fun e w' => e = .returned (.string (bytesOf n)) ∧ Below w.heap.size w w' := by
  have hU := fold_lt n h1 h2
  have cF := fun w => fold_any n w h1 h2
  have hlen := enc_ten (fold n) hU
  have HB := Lib.hid (show bytesOf n = ⟨(enc (fold n)).toArray⟩ from rfl)
  generalize bytesOf n = S at HB ⊢
  generalize fold n = U at hU cF hlen HB
  have CF := Lib.hid cF
  clear cF
  obtain ⟨i0, hi, hz0, hz1, hz2⟩ := info_parts info5
  have HI := Lib.hid hi
  have HZ0 := Lib.hid hz0
  have HZ1 := Lib.hid hz1
  have HZ2 := Lib.hid hz2
  clear hi hz0 hz1 hz2
  go_enter Try.func35, Try.ntmps35
  go_wp2_with (go_at_call 48; (with_reducible refine (CF.out _).mono ?_); rintro e w1 ⟨rfl, rfl⟩)
  go_loopw [3, 4] (fun v r wr => ∃ (l : List UInt8) (u : Nat), r = .int .u64 u ∧ u < 18446744073709551616 ∧ Lib.OwnBuf w.heap.size 5 v l.length (cellsB l) w wr ∧ Hid (l ++ enc u = enc U)) (fun _ r _ => (intOf r).toNat)
  case atStart => exact ⟨[], U, rfl, hU, ⟨World.ownsRowF_nil _ _ _ _, Below.refl _ _, Nat.le_refl _⟩, rfl⟩
  case round =>
    obtain ⟨l, u, rfl, hu, hown, hl⟩ := hrel
    have hll : l.length + (enc u).length ≤ 10 := by
      have h := congrArg List.length hl
      rw [List.length_append] at h; omega
    have hep := enc_pos u
    by_cases hb : 128 ≤ u
    · obtain ⟨c, hc⟩ : ∃ c : Nat, (u : Int) % 256 = (c : Int) := ⟨u % 256, by omega⟩
      obtain ⟨d, hd⟩ : ∃ d : Nat, d = c % 128 + 128 := ⟨_, rfl⟩
      have hor := or_128 c (by omega)
      rw [← hd] at hor
      have hd2 : d < 256 := by omega
      have HN := Lib.hid (show (l ++ [UInt8.ofNat d]) ++ enc (u / 128) = enc U by
        rw [List.append_assoc, List.singleton_append, show d = u % 128 + 128 by omega, ← enc_big hb]; exact hl)
      have HL := Lib.hid (show (l ++ [UInt8.ofNat d]).length = l.length + 1 by simp)
      have HC := Lib.hid (cellsB_snoc l d hd2)
      clear hd hl
      go_wp2_with (at_builtin; refine Lib.wpList_append_byte rfl (.tmp 11) (.tmp 15) 53 rfl w.heap.size 5 i0 Try.underlying53 HI.out HZ0.out HZ1.out HZ2.out _ l.length (cellsB l) rfl w _ _ hown rfl (by omega) ?_; intro v' w1 hown1)
      rw [HC.out, ← HL.out] at hown1
      go_roundw
      case rel => exact ⟨l ++ [UInt8.ofNat d], u / 128, by go_num, by omega, hown1, HN.out⟩
      case measure => simp [intOf]; omega
    · have HE := Lib.hid (show l ++ [UInt8.ofNat u] = enc U by rw [← enc_small (by omega)]; exact hl)
      have HC := Lib.hid (cellsB_snoc l u (by omega))
      clear hl
      go_wp2_with (at_builtin; refine Lib.wpList_append_byte rfl (.tmp 17) (.tmp 20) 53 rfl w.heap.size 5 i0 Try.underlying53 HI.out HZ0.out HZ1.out HZ2.out _ l.length (cellsB l) rfl w _ _ hown rfl (by omega) ?_; intro v' w1 hown1)
      have hcv : (convert 53 9 v').run Try.prog w1 = .ok (.string S) w1 := by
        rw [HC.out, show l.length + 1 = (l ++ [UInt8.ofNat u]).length by simp] at hown1
        have h := conv_own hown1 (by simp)
        rw [HE.out, ← HB.out] at h
        exact h
      have HO := Lib.hid hown1.2.1
      clear hown1 hown
      rw [hcv]
      go_wp2
      go_ret
      exact ⟨rfl, HO.out⟩
end Go.Proofs.Ytfhonobaddkmhaa
