/- Texts laid one behind the other: Bs, Cm, Ca, Cb, Cc, Cj, Cd, Ce, Cf, Cg, Ch, Ck, Ui, Ia, Ib, Gk, Da, Tm, Ta, Tb, Nm. -/
import Derived.Test.YtjjjpifdmgpnjaaChecked
import Derived.WalkKit
import Derived.WalkLawsBesides
import Derived.Lib.Hide
import Derived.KernelRfl
import Derived.Handy
import Derived.Lib.Strings
import Derived.Lib.BufSteps
import Derived.Laws.IdiomStrings
import Derived.WalkMore
import Derived.Deep.Draws
import Derived.BigQuiet
import Derived.Deep.QuietTactic
import Derived.Lib.QuietBelow
import Derived.Laws.ResultCell
import Derived.Laws.CopyOwn
import Derived.Lib.ItoaNum
/- Small words that all texts share. -/
namespace Go.Proofs.Ytjjjpifdmgpnjaa
open Go.RowKit

theorem ret_int {k : IntKind} {a b : Int} (h : a = b) : Ending.returned (.int k a) = .returned (.int k b) := by rw [h]
theorem ret_bool {a b : Bool} (h : b = a) : Ending.returned (.bool a) = .returned (.bool b) := by rw [h]
theorem ret_of {a b : Value} (h : a = b) : Ending.returned a = Ending.returned b := by rw [h]

/-- What was there reads as it did. -/
theorem bcell {W w1 : World} (hb : Below W.heap.size W w1) : (∀ b o, b < W.heap.size → w1.cell? ⟨b, o, none⟩ = W.cell? ⟨b, o, none⟩) ∧ (∀ b o, b < W.heap.size → w1.frozen? ⟨b, o, none⟩ = W.frozen? ⟨b, o, none⟩) :=
  ⟨fun b o h => hb.cell (p := ⟨b, o, none⟩) h, fun b o h => hb.frozen (p := ⟨b, o, none⟩) h⟩
theorem below_then {w w1 w2 : World} (h : Below w.heap.size w w1) (k : Below w1.heap.size w1 w2) : Below w.heap.size w w2 := h.trans (k.mono h.size)
theorem below_alloc {w w1 : World} (h : Below w.heap.size w w1) (o : Obj) : Below w.heap.size w (w1.alloc o) := h.alloc h.size o
theorem below_drew {W w : World} (h : Below W.heap.size W w) (n : Nat) : Below W.heap.size W (w.drewN n) := ⟨h.os, h.tape, h.output, h.size, h.block⟩

theorem alloc_size (w : World) (o : Obj) : (w.alloc o).heap.size = w.heap.size + 1 := by simp
def i64 (n : Int) : Prop := -9223372036854775808 ≤ n ∧ n ≤ 9223372036854775807

/-- The bytes of a text. -/
def L (s : ByteArray) : List UInt8 := s.data.toList
theorem L_len (s : ByteArray) : (L s).length = s.size := by unfold L; simp
theorem L_at (s : ByteArray) (i : Nat) (h : i < s.size) : (L s)[i]'(by rw [L_len]; exact h) = s[i] := rfl
theorem L_inj {a b : ByteArray} (h : L a = L b) : a = b := by
  unfold L at h; cases a; cases b; simp at h; rw [h]
theorem L_app (a b : ByteArray) : L (a ++ b) = L a ++ L b := by unfold L; simp
theorem ne_list {a b : ByteArray} (h : ¬ a = b) : ¬ a.toList = b.toList := by
  intro e
  rw [Lib.toList_data, Lib.toList_data] at e
  exact h (L_inj e)
theorem ne_beq {a b : ByteArray} (h : ¬ a = b) : (a.toList == b.toList) = false := by simpa using ne_list h

end Go.Proofs.Ytjjjpifdmgpnjaa

/- Numbers as bytes: what is written is read, and what is read was written so. -/
namespace Go.Proofs.Ytjjjpifdmgpnjaa.Cod

/-- The bytes of u: seven bits each, the lowest first. -/
def enc (u : Nat) : List UInt8 := if u < 128 then [UInt8.ofNat u] else UInt8.ofNat (u % 128 + 128) :: enc (u / 128)
termination_by u
decreasing_by omega

theorem enc_small {u : Nat} (h : u < 128) : enc u = [UInt8.ofNat u] := by rw [enc, if_pos h]
theorem enc_big {u : Nat} (h : 128 ≤ u) : enc u = UInt8.ofNat (u % 128 + 128) :: enc (u / 128) := by rw [enc, if_neg (by omega)]

theorem enc_pos (u : Nat) : 1 ≤ (enc u).length := by
  by_cases h : u < 128
  · rw [enc_small h]; simp
  · rw [enc_big (by omega)]; simp

theorem enc_len (m : Nat) : ∀ u, u < 128 ^ (m + 1) → (enc u).length ≤ m + 1 := by
  induction m with
  | zero => intro u h; rw [enc_small (by simpa using h)]; simp
  | succ m ih =>
    intro u h
    by_cases hu : u < 128
    · rw [enc_small hu]; simp
    · rw [enc_big (by omega), List.length_cons]
      have := ih (u / 128) (by rw [Nat.pow_succ] at h; omega)
      omega

theorem enc_ten (u : Nat) (h : u < 18446744073709551616) : (enc u).length ≤ 10 := enc_len 9 u (by omega)

theorem enc_mono (a : Nat) : ∀ b, a ≤ b → (enc a).length ≤ (enc b).length := by
  induction a using Nat.strongRecOn with
  | _ a ih =>
    intro b h
    by_cases ha : a < 128
    · rw [enc_small ha]; exact enc_pos b
    · rw [enc_big (by omega), enc_big (u := b) (by omega), List.length_cons, List.length_cons]
      have := ih (a / 128) (by omega) (b / 128) (by omega)
      omega

/-- The number that a list begins with: k bytes of it came already, and are u. -/
def num : List UInt8 → Nat → Nat → Option (Nat × Nat)
  | [], _, _ => none
  | b :: t, k, u =>
    if k = 9 ∧ 1 < b.toNat then none
    else if 128 ≤ b.toNat then num t (k + 1) (u + 2 ^ (7 * k) * (b.toNat % 128))
    else if b.toNat = 0 ∧ 0 < k then none
    else some (u + 2 ^ (7 * k) * b.toNat, k + 1)

theorem two_split (k : Nat) (h : k ≤ 8) : 2 ^ (64 - 7 * k) = 128 * 2 ^ (64 - 7 * (k + 1)) := by
  rw [show 64 - 7 * k = (64 - 7 * (k + 1)) + 7 by omega, Nat.pow_add]
  omega

/-- What is read was written so. -/
theorem num_some : ∀ (l : List UInt8) (k u U K : Nat), k ≤ 9 → num l k u = some (U, K) →
    ∃ V m, U = u + 2 ^ (7 * k) * V ∧ K = k + m ∧ l.take m = enc V ∧ m = (enc V).length ∧ m ≤ l.length ∧ (0 < k → 0 < V) ∧ V < 2 ^ (64 - 7 * k)
  | [], k, u, U, K, _, h => by simp [num] at h
  | b :: t, k, u, U, K, hk, h => by
    have hb := b.toNat_lt
    rw [num] at h
    by_cases h9 : k = 9 ∧ 1 < b.toNat
    · rw [if_pos h9] at h; cases h
    · rw [if_neg h9] at h
      by_cases hm : 128 ≤ b.toNat
      · rw [if_pos hm] at h
        have hk8 : k ≤ 8 := by omega
        obtain ⟨V, m, e1, e2, e3, e4, e5, e6, e7⟩ := num_some t (k + 1) _ U K (by omega) h
        have hV := e6 (by omega)
        have hE : enc (b.toNat % 128 + 128 * V) = b :: enc V := by
          rw [enc_big (by omega), show (b.toNat % 128 + 128 * V) / 128 = V by omega, show (b.toNat % 128 + 128 * V) % 128 + 128 = b.toNat by omega, UInt8.ofNat_toNat]
        refine ⟨b.toNat % 128 + 128 * V, m + 1, ?_, by omega, ?_, ?_, ?_, fun _ => by omega, ?_⟩
        · rw [e1, show 7 * (k + 1) = 7 * k + 7 by omega, Nat.pow_add, Nat.mul_add, Nat.add_assoc, Nat.mul_assoc]
        · rw [List.take_succ_cons, e3, hE]
        · rw [hE, List.length_cons, ← e4]
        · rw [List.length_cons]; omega
        · have h2 := two_split k hk8
          omega
      · rw [if_neg hm] at h
        by_cases h0 : b.toNat = 0 ∧ 0 < k
        · rw [if_pos h0] at h; cases h
        · rw [if_neg h0] at h
          obtain ⟨rfl, rfl⟩ := Prod.mk.inj (Option.some.inj h)
          have hE : enc b.toNat = [b] := by rw [enc_small (by omega), UInt8.ofNat_toNat]
          refine ⟨b.toNat, 1, rfl, rfl, ?_, ?_, by simp, fun hk0 => by omega, ?_⟩
          · rw [hE]; rfl
          · rw [hE]; rfl
          · by_cases e9 : k = 9
            · subst e9; show b.toNat < 2 ^ 1; omega
            · have h2 := two_split k (by omega)
              have : 0 < 2 ^ (64 - 7 * (k + 1)) := Nat.two_pow_pos _
              omega

/-- What is written is read. -/
theorem num_enc (V : Nat) : ∀ (t : List UInt8) (k u : Nat), k ≤ 9 → (0 < k → 0 < V) → V < 2 ^ (64 - 7 * k) → num (enc V ++ t) k u = some (u + 2 ^ (7 * k) * V, k + (enc V).length) := by
  induction V using Nat.strongRecOn with
  | _ V ih =>
    intro t k u hk h0 hV
    by_cases h : V < 128
    · have hv : (UInt8.ofNat V).toNat = V := by rw [UInt8.toNat_ofNat']; omega
      rw [enc_small h, List.singleton_append, num, hv]
      rw [if_neg (by rintro ⟨rfl, h1⟩; have : V < 2 ^ 1 := hV; omega), if_neg (by omega), if_neg (by omega)]
      rfl
    · have hk8 : k ≤ 8 := by
        by_cases e : k = 9
        · subst e; have : V < 2 ^ 1 := hV; omega
        · omega
      have h2 := two_split k hk8
      have hv : (UInt8.ofNat (V % 128 + 128)).toNat = V % 128 + 128 := by rw [UInt8.toNat_ofNat']; omega
      rw [enc_big (by omega), List.cons_append, num, hv]
      rw [if_neg (by omega), if_pos (by omega), ih (V / 128) (by omega) t (k + 1) _ (by omega) (by omega) (by omega)]
      rw [show 7 * (k + 1) = 7 * k + 7 by omega, Nat.pow_add, Nat.mul_assoc, Nat.add_assoc, ← Nat.mul_add, List.length_cons]
      congr 2
      · rw [show (V % 128 + 128) % 128 + 2 ^ 7 * (V / 128) = V by omega]
      · omega

/-- A number's number, and back. -/
def fold (n : Int) : Nat := if n < 0 then (2 * (-1 - n) + 1).toNat else (2 * n).toNat
def unfold (u : Nat) : Int := if u % 2 = 1 then -1 - (u / 2 : Nat) else (u / 2 : Nat)
theorem unfold_fold (n : Int) : unfold (fold n) = n := by
  unfold fold unfold
  by_cases h : n < 0
  · rw [if_pos h, if_pos (by omega)]; omega
  · rw [if_neg h, if_neg (by omega)]; omega
theorem fold_unfold (u : Nat) : fold (unfold u) = u := by
  unfold fold unfold
  by_cases h : u % 2 = 1
  · rw [if_pos h, if_pos (by omega)]; omega
  · rw [if_neg h, if_neg (by omega)]; omega
theorem fold_lt (n : Int) (h1 : -9223372036854775808 ≤ n) (h2 : n ≤ 9223372036854775807) : fold n < 18446744073709551616 := by
  unfold fold; split <;> omega
theorem unfold_bd (u : Nat) (h : u < 18446744073709551616) : -9223372036854775808 ≤ unfold u ∧ unfold u ≤ 9223372036854775807 := by
  unfold unfold; split <;> omega
theorem fold_mono (a b : Int) (h : 0 ≤ a ∧ a ≤ b ∨ a < 0 ∧ b ≤ a) : fold a ≤ fold b := by
  unfold fold; split <;> split <;> omega

/-- The bytes of a number. -/
def bytesOf (n : Int) : ByteArray := ⟨(enc (fold n)).toArray⟩
theorem bytesOf_list (n : Int) : (bytesOf n).data.toList = enc (fold n) := rfl
theorem bytesOf_size (n : Int) : (bytesOf n).size = (enc (fold n)).length := rfl

/-- What is read of a list: the number, and how many bytes it has. -/
def rd (l : List UInt8) : Option (Int × Nat) := (num l 0 0).map fun p => (unfold p.1, p.2)
theorem rd_enc (n : Int) (h1 : -9223372036854775808 ≤ n) (h2 : n ≤ 9223372036854775807) (t : List UInt8) : rd (enc (fold n) ++ t) = some (n, (enc (fold n)).length) := by
  have hf := fold_lt n h1 h2
  unfold rd
  rw [num_enc (fold n) t 0 0 (by omega) (fun h => absurd h (by omega)) (by omega)]
  simp [unfold_fold]
theorem rd_some {l : List UInt8} {n : Int} {m : Nat} (h : rd l = some (n, m)) : l.take m = enc (fold n) ∧ m = (enc (fold n)).length ∧ 1 ≤ m ∧ m ≤ 10 ∧ m ≤ l.length ∧ -9223372036854775808 ≤ n ∧ n ≤ 9223372036854775807 := by
  unfold rd at h
  obtain ⟨⟨U, K⟩, h1, h2⟩ := Option.map_eq_some_iff.1 h
  obtain ⟨rfl, rfl⟩ := Prod.mk.inj h2
  obtain ⟨V, m, e1, e2, e3, e4, e5, _, e7⟩ := num_some l 0 0 U K (by omega) h1
  have hU : U = V := by omega
  have hK : K = m := by omega
  subst hU hK
  have hlt : U < 18446744073709551616 := by omega
  have := enc_ten U hlt
  have := enc_pos U
  have := unfold_bd U hlt
  rw [fold_unfold]
  exact ⟨e3, e4, by omega, by omega, e5, this⟩

end Go.Proofs.Ytjjjpifdmgpnjaa.Cod

/- What fold, unfold and Num of code give. -/
namespace Go.Proofs.Ytjjjpifdmgpnjaa
open Go.RowKit Cod


theorem fold_any (n : Int) (w : World) (h1 : -9223372036854775808 ≤ n) (h2 : n ≤ 9223372036854775807) :
    Calls Try.prog 51 #[.int .i64 n] w fun e w' => e = .returned (.int .u64 (fold n)) ∧ w = w' := by
  by_cases h : n < 0
  · have HF := Lib.hid (show (2 * (-1 - n) + 1 : Int) = (fold n : Nat) by unfold fold; rw [if_pos h]; omega)
    go_enter Try.func51, Try.ntmps51
    go_wp2
    go_ret
    exact ⟨ret_int HF.out, rfl⟩
  · have HF := Lib.hid (show (2 * n : Int) = (fold n : Nat) by unfold fold; rw [if_neg h]; omega)
    go_enter Try.func51, Try.ntmps51
    go_wp2
    go_ret
    exact ⟨ret_int HF.out, rfl⟩

theorem unfold_any (u : Nat) (w : World) (h : u < 18446744073709551616) :
    Calls Try.prog 59 #[.int .u64 u] w fun e w' => e = .returned (.int .i64 (unfold u)) ∧ w = w' := by
  have HF := Lib.hid (show unfold u = if u % 2 = 1 then -1 - ((u / 2 : Nat) : Int) else ((u / 2 : Nat) : Int) from rfl)
  by_cases h1 : u % 2 = 1
  · go_enter Try.func59, Try.ntmps59
    go_wp2
    go_ret
    exact ⟨ret_int (by rw [HF.out, if_pos h1]; omega), rfl⟩
  · go_enter Try.func59, Try.ntmps59
    go_wp2
    go_ret
    exact ⟨ret_int (by rw [HF.out, if_neg h1]; omega), rfl⟩
end Go.Proofs.Ytjjjpifdmgpnjaa

/- What Num of code gives. -/
namespace Go.Proofs.Ytjjjpifdmgpnjaa
open Go.RowKit Cod

theorem or_128 : ∀ x : Nat, x < 256 → bits .or .u8 (x : Int) 128 = ((x % 128 + 128 : Nat) : Int) := by decide +kernel
theorem info5 : (Try.prog.info? 5).map (fun i => (i.zero, i.size, i.bytes)) = some (some (.int .u8 0), 1, 1) := by kernel_rfl

/-- Bytes as cells. -/
def cellsB (l : List UInt8) : List Value := l.map fun b => .int .u8 (b.toNat : Int)
theorem cellsB_len (l : List UInt8) : (cellsB l).length = l.length := by unfold cellsB; simp
theorem cellsB_snoc (l : List UInt8) (n : Nat) (h : n < 256) : cellsB l ++ [.int .u8 (n : Int)] = cellsB (l ++ [UInt8.ofNat n]) := by
  have hv : (UInt8.ofNat n).toNat = n := by rw [UInt8.toNat_ofNat']; omega
  unfold cellsB; simp [hv]
theorem cellsB_at (l : List UInt8) (j : Nat) (h : j < l.length) : (cellsB l)[j]? = some (.int .u8 (l[j].toNat : Int)) := by
  unfold cellsB; simp [List.getElem?_eq_getElem h]

theorem own_cells {w : World} {B : Nat} {e : TypeId} {v : Value} {n : Nat} {xs : List Value} (h : w.ownsRowF B e 1 v n xs) (hn : 0 < n) :
    ∃ g cap, v = .slice (some ⟨g, 0, none⟩) n cap ∧ ∀ j u, xs[j]? = some u → w.cell? ⟨g, j, none⟩ = some u := by
  have hc := fun g => h.cells (g := g)
  rcases h.2 with ⟨rfl, hz⟩ | ⟨g, cap, cur, fz, rfl, _⟩
  · omega
  · refine ⟨g, cap, rfl, fun j u hu => ?_⟩
    have := hc g rfl j u hu
    rw [Addr.add_lit, Nat.zero_add] at this; exact this

theorem conv_own {w w0 : World} {B : Nat} {v : Value} {xs : List UInt8} (h : Lib.OwnBuf B 5 v xs.length (cellsB xs) w0 w) (hn : 0 < xs.length) :
    (convert 53 9 v).run Try.prog w = .ok (.string ⟨xs.toArray⟩) w := by
  obtain ⟨g, cap, rfl, hc⟩ := own_cells h.1 hn
  refine run_convert_bytes_back (P := Try.prog) w 53 9 5 ⟨g, 0, none⟩ cap xs Try.underlying53 Try.underlying5 Try.underlying9 ?_
  intro j hj
  rw [Addr.add_lit, Nat.zero_add]
  exact hc j _ (cellsB_at xs j hj)

set_option maxRecDepth 100000 in
set_option maxHeartbeats 2000000 in
theorem num_any (n : Int) (w : World) (h1 : -9223372036854775808 ≤ n) (h2 : n ≤ 9223372036854775807) :
    Calls Try.prog 36 #[.int .i64 n] w fun e w' => e = .returned (.string (bytesOf n)) ∧ Below w.heap.size w w' := by
  have hU := fold_lt n h1 h2
  have cF := fun w => fold_any n w h1 h2
  have hlen := enc_ten (fold n) hU
  have HB := Lib.hid (show bytesOf n = ⟨(enc (fold n)).toArray⟩ from rfl)
  generalize bytesOf n = S at HB ⊢
  generalize fold n = U at hU cF hlen HB
  have CF := Lib.hid cF
  clear cF
  obtain ⟨i0, hi, hz0, hz1, hz2⟩ := info_parts info5
  have HI := Lib.hid hi
  have HZ0 := Lib.hid hz0
  have HZ1 := Lib.hid hz1
  have HZ2 := Lib.hid hz2
  clear hi hz0 hz1 hz2
  go_enter Try.func36, Try.ntmps36
  go_wp2_with (go_at_call 51; (with_reducible refine (CF.out _).mono ?_); rintro e w1 ⟨rfl, rfl⟩)
  go_loopw [3, 4] (fun v r wr => ∃ (l : List UInt8) (u : Nat), r = .int .u64 u ∧ u < 18446744073709551616 ∧ Lib.OwnBuf w.heap.size 5 v l.length (cellsB l) w wr ∧ Hid (l ++ enc u = enc U)) (fun _ r _ => (intOf r).toNat)
  case atStart => exact ⟨[], U, rfl, hU, ⟨World.ownsRowF_nil _ _ _ _, Below.refl _ _, Nat.le_refl _⟩, rfl⟩
  case round =>
    obtain ⟨l, u, rfl, hu, hown, hl⟩ := hrel
    have hll : l.length + (enc u).length ≤ 10 := by
      have h := congrArg List.length hl
      rw [List.length_append] at h; omega
    have hep := enc_pos u
    by_cases hb : 128 ≤ u
    · obtain ⟨c, hc⟩ : ∃ c : Nat, (u : Int) % 256 = (c : Int) := ⟨u % 256, by omega⟩
      obtain ⟨d, hd⟩ : ∃ d : Nat, d = c % 128 + 128 := ⟨_, rfl⟩
      have hor := or_128 c (by omega)
      rw [← hd] at hor
      have hd2 : d < 256 := by omega
      have HN := Lib.hid (show (l ++ [UInt8.ofNat d]) ++ enc (u / 128) = enc U by
        rw [List.append_assoc, List.singleton_append, show d = u % 128 + 128 by omega, ← enc_big hb]; exact hl)
      have HL := Lib.hid (show (l ++ [UInt8.ofNat d]).length = l.length + 1 by simp)
      have HC := Lib.hid (cellsB_snoc l d hd2)
      clear hd hl
      go_wp2_with (at_builtin; refine Lib.wpList_append_byte rfl (.tmp 11) (.tmp 15) 53 rfl w.heap.size 5 i0 Try.underlying53 HI.out HZ0.out HZ1.out HZ2.out _ l.length (cellsB l) rfl w _ _ hown rfl (by omega) ?_; intro v' w1 hown1)
      rw [HC.out, ← HL.out] at hown1
      go_roundw
      case rel => exact ⟨l ++ [UInt8.ofNat d], u / 128, by go_num, by omega, hown1, HN.out⟩
      case measure => simp [intOf]; omega
    · have HE := Lib.hid (show l ++ [UInt8.ofNat u] = enc U by rw [← enc_small (by omega)]; exact hl)
      have HC := Lib.hid (cellsB_snoc l u (by omega))
      clear hl
      go_wp2_with (at_builtin; refine Lib.wpList_append_byte rfl (.tmp 17) (.tmp 20) 53 rfl w.heap.size 5 i0 Try.underlying53 HI.out HZ0.out HZ1.out HZ2.out _ l.length (cellsB l) rfl w _ _ hown rfl (by omega) ?_; intro v' w1 hown1)
      have hcv : (convert 53 9 v').run Try.prog w1 = .ok (.string S) w1 := by
        rw [HC.out, show l.length + 1 = (l ++ [UInt8.ofNat u]).length by simp] at hown1
        have h := conv_own hown1 (by simp)
        rw [HE.out, ← HB.out] at h
        exact h
      have HO := Lib.hid hown1.2.1
      clear hown1 hown
      rw [hcv]
      go_wp2
      go_ret
      exact ⟨rfl, HO.out⟩
end Go.Proofs.Ytjjjpifdmgpnjaa

/- The document's Num; Text, Bit, Least of both. -/
namespace Go.Proofs.Ytjjjpifdmgpnjaa
open Go.RowKit Cod

theorem dl_inj {a b : ByteArray} (h : a.data.toList = b.data.toList) : a = b := by
  cases a; cases b; simp at h; rw [h]
theorem dl_app (a b : ByteArray) : (a ++ b).data.toList = a.data.toList ++ b.data.toList := by simp
theorem dl_len (a : ByteArray) : a.data.toList.length = a.size := by simp

theorem conv1 (d : Nat) (hd : d < 256) (w : World) :
    (convert 53 9 (.slice (some ⟨w.heap.size, 0, none⟩) 1 1)).run Try.prog (w.alloc (.cells #[.int .u8 (d : Int)] 5)) = .ok (.string ⟨#[UInt8.ofNat d]⟩) (w.alloc (.cells #[.int .u8 (d : Int)] 5)) := by
  refine run_convert_bytes_back (P := Try.prog) _ 53 9 5 ⟨w.heap.size, 0, none⟩ 1 [UInt8.ofNat d] Try.underlying53 Try.underlying5 Try.underlying9 ?_
  intro j hj
  have hv : (UInt8.ofNat d).toNat = d := by rw [UInt8.toNat_ofNat']; omega
  match j, hj with
  | 0, _ => simp [Addr.add, hv]

theorem or_one (x : Nat) (hx : x < 9223372036854775808) : bits .or .u64 ((2 * x : Nat) : Int) 1 = ((2 * x + 1 : Nat) : Int) := by
  have h := u64_or_nat (2 * x) 1 (by omega) (by omega)
  rw [show 2 * x = 2 ^ 1 * x by omega, ← Nat.two_pow_add_eq_or_of_lt (by decide) x] at h
  rw [show 2 * x = 2 ^ 1 * x by omega]
  exact h


set_option maxRecDepth 100000 in
set_option maxHeartbeats 2000000 in
theorem refNum_any (n : Int) (w : World) (h1 : -9223372036854775808 ≤ n) (h2 : n ≤ 9223372036854775807) :
    Calls Try.prog 41 #[.int .i64 n] w fun e w' => e = .returned (.string (bytesOf n)) ∧ Below w.heap.size w w' := by
  have hU := fold_lt n h1 h2
  have hlen := enc_ten (fold n) hU
  have HB := Lib.hid (show (bytesOf n).data.toList = enc (fold n) from rfl)
  have HF := Lib.hid (show fold n = if n < 0 then (2 * (-1 - n) + 1).toNat else (2 * n).toNat from rfl)
  generalize bytesOf n = S at HB ⊢
  generalize fold n = U at hU hlen HB HF
  by_cases hn : n < 0
  · obtain ⟨x, hx⟩ : ∃ x : Nat, (-1 - n : Int) = (x : Int) := ⟨(-1 - n).toNat, by omega⟩
    have ho : bits .or .u64 ((x : Int) * 2) 1 = (U : Int) := by
      rw [show ((x : Int) * 2) = ((2 * x : Nat) : Int) by omega, or_one x (by omega), HF.out, if_pos hn]; omega
    go_enter Try.func41, Try.ntmps41
    go_wp2
    clear ho hx hn
    go_loopw [3, 4] (fun r v wr => ∃ (u : Nat) (T : ByteArray), r = .int .u64 u ∧ u < 18446744073709551616 ∧ v = .string T ∧ Hid (T.data.toList ++ enc u = enc U) ∧ Below w.heap.size w wr) (fun r _ _ => (intOf r).toNat)
    case atStart => exact ⟨U, ⟨#[]⟩, by go_num, hU, rfl, rfl, Below.refl _ _⟩
    case round =>
      obtain ⟨u, T, rfl, hu, rfl, hl, hnx⟩ := hrel
      have hll : T.size + (enc u).length ≤ 10 := by
        have h := congrArg List.length hl.out
        rw [List.length_append, dl_len] at h; omega
      have hep := enc_pos u
      by_cases hb : 128 ≤ u
      · obtain ⟨c, hc⟩ : ∃ c : Nat, (u : Int) % 256 = (c : Int) := ⟨u % 256, by omega⟩
        obtain ⟨d, hd⟩ : ∃ d : Nat, d = c % 128 + 128 := ⟨_, rfl⟩
        have hor := or_128 c (by omega)
        rw [← hd] at hor
        have hd2 : d < 256 := by omega
        have HN := Lib.hid (show (T ++ ⟨#[UInt8.ofNat d]⟩).data.toList ++ enc (u / 128) = enc U by
          rw [dl_app, List.append_assoc]
          show _ ++ ([UInt8.ofNat d] ++ _) = _
          rw [List.singleton_append, show d = u % 128 + 128 by omega, ← enc_big hb]; exact hl.out)
        have hcv := conv1 d hd2 wr
        have hsz : (ByteArray.mk #[UInt8.ofNat d]).size = 1 := rfl
        clear hd
        go_wp2
        go_roundw
        case rel => exact ⟨u / 128, T ++ ⟨#[UInt8.ofNat d]⟩, by go_num, by omega, rfl, HN, below_alloc hnx _⟩
        case measure => simp [intOf]; omega
      · have HE := Lib.hid (show T ++ ⟨#[UInt8.ofNat u]⟩ = S from dl_inj (by
          rw [dl_app, HB.out]
          show _ ++ [UInt8.ofNat u] = _
          rw [← enc_small (by omega)]; exact hl.out))
        have hcv := conv1 u (by omega) wr
        have hsz : (ByteArray.mk #[UInt8.ofNat u]).size = 1 := rfl
        go_wp2
        go_ret
        exact ⟨by rw [HE.out]; rfl, below_alloc hnx _⟩
  · have hUn : n * 2 = (U : Int) := by rw [HF.out, if_neg hn]; omega
    have HUN := Lib.hid hUn
    clear hUn
    go_enter Try.func41, Try.ntmps41
    go_wp2
    go_loopw [3, 4] (fun r v wr => ∃ (u : Nat) (T : ByteArray), r = .int .u64 u ∧ u < 18446744073709551616 ∧ v = .string T ∧ Hid (T.data.toList ++ enc u = enc U) ∧ Below w.heap.size w wr) (fun r _ _ => (intOf r).toNat)
    case atStart => exact ⟨U, ⟨#[]⟩, by rw [HUN.out], hU, rfl, rfl, Below.refl _ _⟩
    case round =>
      obtain ⟨u, T, rfl, hu, rfl, hl, hnx⟩ := hrel
      have hll : T.size + (enc u).length ≤ 10 := by
        have h := congrArg List.length hl.out
        rw [List.length_append, dl_len] at h; omega
      have hep := enc_pos u
      by_cases hb : 128 ≤ u
      · obtain ⟨c, hc⟩ : ∃ c : Nat, (u : Int) % 256 = (c : Int) := ⟨u % 256, by omega⟩
        obtain ⟨d, hd⟩ : ∃ d : Nat, d = c % 128 + 128 := ⟨_, rfl⟩
        have hor := or_128 c (by omega)
        rw [← hd] at hor
        have hd2 : d < 256 := by omega
        have HN := Lib.hid (show (T ++ ⟨#[UInt8.ofNat d]⟩).data.toList ++ enc (u / 128) = enc U by
          rw [dl_app, List.append_assoc]
          show _ ++ ([UInt8.ofNat d] ++ _) = _
          rw [List.singleton_append, show d = u % 128 + 128 by omega, ← enc_big hb]; exact hl.out)
        have hcv := conv1 d hd2 wr
        have hsz : (ByteArray.mk #[UInt8.ofNat d]).size = 1 := rfl
        clear hd
        go_wp2
        go_roundw
        case rel => exact ⟨u / 128, T ++ ⟨#[UInt8.ofNat d]⟩, by go_num, by omega, rfl, HN, below_alloc hnx _⟩
        case measure => simp [intOf]; omega
      · have HE := Lib.hid (show T ++ ⟨#[UInt8.ofNat u]⟩ = S from dl_inj (by
          rw [dl_app, HB.out]
          show _ ++ [UInt8.ofNat u] = _
          rw [← enc_small (by omega)]; exact hl.out))
        have hcv := conv1 u (by omega) wr
        have hsz : (ByteArray.mk #[UInt8.ofNat u]).size = 1 := rfl
        go_wp2
        go_ret
        exact ⟨by rw [HE.out]; rfl, below_alloc hnx _⟩
theorem bytesOf_pos (n : Int) : 1 ≤ (bytesOf n).size := by rw [bytesOf_size]; exact enc_pos _
theorem bytesOf_le (n : Int) (h1 : -9223372036854775808 ≤ n) (h2 : n ≤ 9223372036854775807) : (bytesOf n).size ≤ 10 := by
  rw [bytesOf_size]; exact enc_ten _ (fold_lt n h1 h2)

/-- A text's bytes. -/
def textOf (s : ByteArray) : ByteArray := bytesOf s.size ++ s

theorem text_any (s : ByteArray) (w : World) (hs : s.size ≤ 1000000) :
    Calls Try.prog 39 #[.string s] w fun e w' => e = .returned (.string (textOf s)) ∧ Below w.heap.size w w' := by
  have hb := bytesOf_le s.size (by omega) (by omega)
  have cN := fun w => num_any s.size w (by omega) (by omega)
  unfold textOf
  generalize bytesOf s.size = N at hb cN ⊢
  have CN := Lib.hid cN
  clear cN
  go_enter Try.func39, Try.ntmps39
  go_wp2_with (go_at_call 36; (with_reducible refine (CN.out _).mono ?_); rintro e w1 ⟨rfl, hb1⟩)
  go_ret
  exact ⟨rfl, hb1⟩

theorem refText_any (s : ByteArray) (w : World) (hs : s.size ≤ 1000000) :
    Calls Try.prog 44 #[.string s] w fun e w' => e = .returned (.string (textOf s)) ∧ Below w.heap.size w w' := by
  have hb := bytesOf_le s.size (by omega) (by omega)
  have cN := fun w => refNum_any s.size w (by omega) (by omega)
  unfold textOf
  generalize bytesOf s.size = N at hb cN ⊢
  have CN := Lib.hid cN
  clear cN
  go_enter Try.func44, Try.ntmps44
  go_wp2_with (go_at_call 41; (with_reducible refine (CN.out _).mono ?_); rintro e w1 ⟨rfl, hb1⟩)
  go_ret
  exact ⟨rfl, hb1⟩

/-- A bool's bytes. -/
def bitOf (b : Bool) : ByteArray := bytesOf (if b then 1 else 0)

theorem bit_any (b : Bool) (w : World) : Calls Try.prog 37 #[.bool b] w fun e w' => e = .returned (.string (bitOf b)) ∧ Below w.heap.size w w' := by
  have c1 := fun w => num_any 1 w (by omega) (by omega)
  have c0 := fun w => num_any 0 w (by omega) (by omega)
  cases b
  · have e : bitOf false = bytesOf 0 := rfl
    rw [e]
    generalize bytesOf 0 = N at c0 ⊢
    have CN := Lib.hid c0
    clear c0 c1 e
    go_enter Try.func37, Try.ntmps37
    go_wp2_with (go_at_call 36; (with_reducible refine (CN.out _).mono ?_); rintro e w1 ⟨rfl, hb1⟩)
    go_ret
    exact ⟨rfl, hb1⟩
  · have e : bitOf true = bytesOf 1 := rfl
    rw [e]
    generalize bytesOf 1 = N at c1 ⊢
    have CN := Lib.hid c1
    clear c0 c1 e
    go_enter Try.func37, Try.ntmps37
    go_wp2_with (go_at_call 36; (with_reducible refine (CN.out _).mono ?_); rintro e w1 ⟨rfl, hb1⟩)
    go_ret
    exact ⟨rfl, hb1⟩

theorem refBit_any (b : Bool) (w : World) : Calls Try.prog 42 #[.bool b] w fun e w' => e = .returned (.string (bitOf b)) ∧ Below w.heap.size w w' := by
  have c1 := fun w => refNum_any 1 w (by omega) (by omega)
  have c0 := fun w => refNum_any 0 w (by omega) (by omega)
  cases b
  · have e : bitOf false = bytesOf 0 := rfl
    rw [e]
    generalize bytesOf 0 = N at c0 ⊢
    have CN := Lib.hid c0
    clear c0 c1 e
    go_enter Try.func42, Try.ntmps42
    go_wp2_with (go_at_call 41; (with_reducible refine (CN.out _).mono ?_); rintro e w1 ⟨rfl, hb1⟩)
    go_ret
    exact ⟨rfl, hb1⟩
  · have e : bitOf true = bytesOf 1 := rfl
    rw [e]
    generalize bytesOf 1 = N at c1 ⊢
    have CN := Lib.hid c1
    clear c0 c1 e
    go_enter Try.func42, Try.ntmps42
    go_wp2_with (go_at_call 41; (with_reducible refine (CN.out _).mono ?_); rintro e w1 ⟨rfl, hb1⟩)
    go_ret
    exact ⟨rfl, hb1⟩

end Go.Proofs.Ytjjjpifdmgpnjaa

/- A scope with several labels; a reader in memory. -/
namespace Go.Proofs.Ytjjjpifdmgpnjaa
open Go.RowKit Cod

/-- By a goto to label l: J l; else as Q. -/
def jumps (J : Nat → Act → World → Prop) (Q : Exit → Act → World → Prop) : Exit → Act → World → Prop
  | .goto l, a, w => J l a w
  | e, a, w => Q e a w

section
variable {P : Program} {a : Act} {w : World} {Q : Exit → Act → World → Prop} {J : Nat → Act → World → Prop}
theorem jumps_goto (l : Nat) : jumps J Q (.goto l) a w = J l a w := rfl
theorem jumps_ret : jumps J Q .ret a w = Q .ret a w := rfl

/-- What holds at every jump, for each label; a measure that every pass lowers. -/
theorem wp_scope_labels {c : Code} (J : Nat → Act → World → Prop) (μ : Nat → Act → World → Nat) (first : c.wp P (jumps J Q) a w)
    (pass : ∀ l a w, J l a w → ∃ rest, findLabel c l = some rest ∧ rest.wp P (jumps (fun l' a' w' => J l' a' w' ∧ μ l' a' w' < μ l a w) Q) a w) : (Code.scope c).wp P Q a w := by
  intro b k cs
  have key : ∀ n l a w, μ l a w = n → J l a w → ∃ rest, gotoIn l (.inScope c :: k) = some (.code rest :: .inScope c :: k) ∧ ∃ e a' w', Q e a' w' ∧ Arrives P (lone (b.at a (.code rest :: .inScope c :: k)) cs w) b k cs e a' w' := by
    intro n
    induction n using Nat.strongRecOn with
    | _ n ih =>
      intro l a w hn hJ
      obtain ⟨rest, hf, hp⟩ := pass l a w hJ
      refine ⟨rest, by simp [gotoIn, hf], ?_⟩
      obtain ⟨e, a₁, w₁, hq, harr⟩ := hp b (.inScope c :: k) cs
      cases e with
      | normal => exact ⟨.normal, a₁, w₁, hq, Steps.trans harr (.one step_inScope)⟩
      | exit id => exact ⟨.exit id, a₁, w₁, hq, fun k' hk => harr k' (by simp [exitTo, hk])⟩
      | goto l' =>
        obtain ⟨hJ', hlt⟩ := hq
        obtain ⟨rest', hg, e₂, a₂, w₂, hq₂, harr₂⟩ := ih _ (by omega) l' a₁ w₁ rfl hJ'
        exact ⟨e₂, a₂, w₂, hq₂, .of_steps (harr _ hg) harr₂⟩
      | ret => exact ⟨_, a₁, w₁, hq, harr⟩
      | panic ch => exact ⟨_, a₁, w₁, hq, harr⟩
      | outgrown => exact ⟨_, a₁, w₁, hq, harr⟩
  obtain ⟨e, a₁, w₁, hq, harr⟩ := first b (.inScope c :: k) cs
  cases e with
  | normal => exact ⟨.normal, a₁, w₁, hq, .head step_scope (Steps.trans harr (.one step_inScope))⟩
  | exit id => exact ⟨.exit id, a₁, w₁, hq, fun k' hk => .head step_scope (harr k' (by simp [exitTo, hk]))⟩
  | goto l' =>
    obtain ⟨rest', hg, e₂, a₂, w₂, hq₂, harr₂⟩ := key _ l' a₁ w₁ rfl hq
    exact ⟨e₂, a₂, w₂, hq₂, .of_steps (.head step_scope (harr _ hg)) harr₂⟩
  | ret => exact ⟨_, a₁, w₁, hq, .of_steps (.one step_scope) harr⟩
  | panic ch => exact ⟨_, a₁, w₁, hq, .of_steps (.one step_scope) harr⟩
  | outgrown => exact ⟨_, a₁, w₁, hq, .of_steps (.one step_scope) harr⟩
end

/-- In block b lies a reader of type T: its text, where it stands, whether it went wrong. -/
def Rd (T : TypeId) (w : World) (b : Nat) (s : ByteArray) (at_ : Nat) (bad : Bool) : Prop :=
  w.heap[b]? = some (.cells #[.string s, .int .i64 (at_ : Int), .bool bad] T (0, 0))

section
variable {T : TypeId} {w w' : World} {b : Nat} {s : ByteArray} {p : Nat} {bad : Bool}
theorem Rd.lt (h : Rd T w b s p bad) : b < w.heap.size := by
  rcases Nat.lt_or_ge b w.heap.size with hlt | hge
  · exact hlt
  · unfold Rd at h; rw [Array.getElem?_eq_none hge] at h; cases h
theorem Rd.cells (h : Rd T w b s p bad) : w.cell? ⟨b, 0, none⟩ = some (.string s) ∧ w.cell? ⟨b, 1, none⟩ = some (.int .i64 (p : Int)) ∧ w.cell? ⟨b, 2, none⟩ = some (.bool bad) :=
  ⟨cell_of_row w b 0 _ T (0, 0) h, cell_of_row w b 1 _ T (0, 0) h, cell_of_row w b 2 _ T (0, 0) h⟩
theorem Rd.frozen (h : Rd T w b s p bad) (i : Nat) : w.frozen? ⟨b, i, none⟩ = false := by
  unfold Rd at h
  simp [World.frozen?, h]
theorem Rd.new (w : World) (T : TypeId) (s : ByteArray) (p : Int) (h : p = 0) : Rd T (w.alloc (.cells #[.string s, .int .i64 p, .bool false] T)) w.heap.size s 0 false := by
  subst h; exact heap_alloc_new w _
theorem Rd.drewN (h : Rd T w b s p bad) (n : Nat) : Rd T (w.drewN n) b s p bad := h
theorem Rd.keep {row : Option Nat} (h : Rd T w b s p bad) (hg : w.grownBy w' row) (hne : some b ≠ row) : Rd T w' b s p bad := (hg.block b h.lt hne).trans h
theorem Rd.below (h : Rd T w b s p bad) (hg : Below w.heap.size w w') : Rd T w' b s p bad := (hg.block b h.lt).trans h
theorem Rd.setAt (h : Rd T w b s p bad) (q : Nat) : Rd T (w.setCell ⟨b, 1, none⟩ (.int .i64 (q : Int))) b s q bad := by
  unfold Rd at h ⊢
  simp [World.setCell, Array.getElem?_modify, h]
theorem Rd.setBad (h : Rd T w b s p bad) : Rd T (w.setCell ⟨b, 2, none⟩ (.bool true)) b s p true := by
  unfold Rd at h ⊢
  simp [World.setCell, Array.getElem?_modify, h]
end

theorem by_refl (w : World) (r : Option Nat) : w.grownBy w r := ⟨rfl, rfl, rfl, Nat.le_refl _, fun _ _ _ => rfl⟩
theorem by_trans {a b c : World} {r : Option Nat} (h : a.grownBy b r) (k : b.grownBy c r) : a.grownBy c r :=
  ⟨k.os.trans h.os, k.tape.trans h.tape, k.output.trans h.output, Nat.le_trans h.size k.size, fun i hi hn => (k.block i (Nat.lt_of_lt_of_le hi h.size) hn).trans (h.block i hi hn)⟩
theorem by_drewN {a w : World} {r : Option Nat} (h : a.grownBy w r) (n : Nat) : a.grownBy (w.drewN n) r := ⟨h.os, h.tape, h.output, h.size, h.block⟩
theorem by_set {a w : World} {b : Nat} (h : a.grownBy w (some b)) (i : Nat) (u : Value) : a.grownBy (w.setCell ⟨b, i, none⟩ u) (some b) :=
  ⟨h.os, h.tape, h.output, by simpa [World.setCell] using h.size, fun k hk hne => (Below.heap_setCell w _ u k (fun e => hne (congrArg some e))).trans (h.block k hk hne)⟩
theorem by_below {w w' : World} (h : Below w.heap.size w w') (r : Option Nat) : w.grownBy w' r := ⟨h.os, h.tape, h.output, h.size, fun i hi _ => h.block i hi⟩
theorem below_by {W w w' : World} {b : Nat} (h : Below W.heap.size W w) (k : w.grownBy w' (some b)) (hb : W.heap.size ≤ b) : Below W.heap.size W w' :=
  h.grown k h.size (fun _ e => by cases e; exact hb)

end Go.Proofs.Ytjjjpifdmgpnjaa

/- What Num of code's Reader gives. -/
namespace Go.Proofs.Ytjjjpifdmgpnjaa
open Go.RowKit Cod

theorem andNot_128 : ∀ x : Nat, x < 256 → bits .andNot .u8 (x : Int) 128 = ((x % 128 : Nat) : Int) := by decide +kernel

/-- u has 7k bits: the next ones are laid above them. -/
theorem or_above (k u x : Nat) (hk : k ≤ 9) (hu : u < 2 ^ (7 * k)) (hx : x < 128) (h9 : k = 9 → x ≤ 1) :
    2 ^ (7 * k) * x < 18446744073709551616 ∧ u + 2 ^ (7 * k) * x < 18446744073709551616 ∧ u + 2 ^ (7 * k) * x < 2 ^ (7 * (k + 1)) ∧ bits .or .u64 (u : Int) ((2 ^ (7 * k) * x : Nat) : Int) = ((u + 2 ^ (7 * k) * x : Nat) : Int) := by
  have hp : 2 ^ (7 * (k + 1)) = 2 ^ (7 * k) * 128 := by rw [show 7 * (k + 1) = 7 * k + 7 by omega, Nat.pow_add]
  have h1 : 2 ^ (7 * k) * x + 2 ^ (7 * k) ≤ 2 ^ (7 * k) * 128 := by
    rw [← Nat.mul_succ]; exact Nat.mul_le_mul_left _ (by omega)
  have h2 : 2 ^ (7 * k) * x + 2 ^ (7 * k) ≤ 18446744073709551616 := by
    by_cases e : k = 9
    · subst e
      have := h9 rfl
      have h3 : 2 ^ (7 * 9) * x ≤ 2 ^ (7 * 9) * 1 := Nat.mul_le_mul_left _ this
      have h4 : (2 : Nat) ^ (7 * 9) = 9223372036854775808 := by decide
      omega
    · have h3 : 2 ^ (7 * k) ≤ 2 ^ 56 := Nat.pow_le_pow_right (by decide) (by omega)
      have h4 : 2 ^ (7 * k) * 128 ≤ 2 ^ 56 * 128 := Nat.mul_le_mul_right _ h3
      have h5 : (2 : Nat) ^ 56 * 128 = 9223372036854775808 := by decide
      omega
  refine ⟨by omega, by omega, by omega, ?_⟩
  rw [u64_or_nat _ _ (by omega) (by omega), Nat.or_comm, ← Nat.two_pow_add_eq_or_of_lt hu x, Nat.add_comm]

/-- At the label of the next byte; where it goes wrong. -/
def AtNext (b : Nat) (u mv p : Value) (a : Act) : Prop := ∃ x5 x7 x8 x9 x10 x11 x12 x13 x14 x15 x16 x17 x18 x19 x20 x21 x22 x23 x24 x25 x26 x27 x28 x29 x30 x31 x32 x33 x34 x35 x36 x37 x38 x39 x40 x41 x42 x43 x44 x45 x46 x47 x48 x49 x50 x51 x52 x53 x54 x55 x56 x57 x58 x59 x60 x61 x62 x63 x64 x65 : Value, a = { tmps := #[.pointer (some ⟨b, 0, none⟩), undef, .int .i64 0, u, mv, x5, p, x7, x8, x9, x10, x11, x12, x13, x14, x15, x16, x17, x18, x19, x20, x21, x22, x23, x24, x25, x26, x27, x28, x29, x30, x31, x32, x33, x34, x35, x36, x37, x38, x39, x40, x41, x42, x43, x44, x45, x46, x47, x48, x49, x50, x51, x52, x53, x54, x55, x56, x57, x58, x59, x60, x61, x62, x63, x64, x65], defers := [] }
def AtWrong (b : Nat) (a : Act) : Prop := ∃ u mv p : Value, AtNext b u mv p a

/-- What Num leaves. -/
def NumPost (T : TypeId) (b : Nat) (s : ByteArray) (p : Nat) (w : World) (e : Ending) (w' : World) : Prop :=
  (∃ n m, rd (s.data.toList.drop p) = some (n, m) ∧ e = .returned (.int .i64 n) ∧ Rd T w' b s (p + m) false ∧ w.grownBy w' (some b)) ∨
  (rd (s.data.toList.drop p) = none ∧ e = .returned (.int .i64 0) ∧ (∃ q, q ≤ s.size ∧ Rd T w' b s q true) ∧ w.grownBy w' (some b))

theorem rd_none {l : List UInt8} (h : num l 0 0 = none) : rd l = none := by unfold rd; rw [h]; rfl
theorem rd_of {l : List UInt8} {u m : Nat} (h : num l 0 0 = some (u, m)) : rd l = some (unfold u, m) := by unfold rd; rw [h]; rfl

theorem drop_at (s : ByteArray) (i : Nat) (h : i < s.size) : s.data.toList.drop i = s[i] :: s.data.toList.drop (i + 1) := by
  rw [List.drop_eq_getElem_cons (by simpa using h)]; rfl
theorem drop_end (s : ByteArray) (i : Nat) (h : ¬ i < s.size) : s.data.toList.drop i = [] := List.drop_eq_nil_of_le (by simp; omega)
theorem num_end (k u : Nat) : num [] k u = none := rfl
theorem num_go {c : UInt8} {t : List UInt8} {k u : Nat} (hk : k = 9 → c.toNat ≤ 1) (h : 128 ≤ c.toNat) : num (c :: t) k u = num t (k + 1) (u + 2 ^ (7 * k) * (c.toNat % 128)) := by
  rw [num, if_neg (by rintro ⟨h1, h2⟩; have := hk h1; omega), if_pos h]
theorem num_last {c : UInt8} {t : List UInt8} {k u : Nat} (hk : k = 9 → c.toNat ≤ 1) (h : c.toNat < 128) (h0 : 0 < k → 0 < c.toNat) : num (c :: t) k u = some (u + 2 ^ (7 * k) * (c.toNat % 128), k + 1) := by
  rw [num, if_neg (by rintro ⟨h1, h2⟩; have := hk h1; omega), if_neg (by omega), if_neg (by rintro ⟨h1, h2⟩; have := h0 h2; omega), Nat.mod_eq_of_lt h]
theorem num_over {c : UInt8} {t : List UInt8} {u : Nat} (h : 1 < c.toNat) : num (c :: t) 9 u = none := by
  rw [num, if_pos ⟨rfl, h⟩]
theorem num_more {c : UInt8} {t : List UInt8} {k u : Nat} (hk : 0 < k) (h : c.toNat = 0) : num (c :: t) k u = none := by
  rw [num, if_neg (by omega), if_neg (by omega), if_pos ⟨h, hk⟩]

def NextJ (b : Nat) (s : ByteArray) (p : Nat) (w : World) (l : Nat) (a : Act) (w' : World) : Prop :=
  w = w' ∧ ((l = 1 ∧ ∃ k u : Nat, AtNext b (.int .u64 u) (.int .u64 ((7 * k : Nat) : Int)) (.int .i64 ((p + k : Nat) : Int)) a ∧ k ≤ 9 ∧ 1 ≤ k ∧ p + k ≤ s.size ∧ u < 2 ^ (7 * k) ∧ num (s.data.toList.drop (p + k)) k u = num (s.data.toList.drop p) 0 0) ∨
    (l = 0 ∧ AtWrong b a ∧ num (s.data.toList.drop p) 0 0 = none))
def nextM (l : Nat) (a : Act) (_ : World) : Nat := if l = 1 then (100 - intOf (a.tmps.getD 4 undef)).toNat + 1 else 0

set_option maxRecDepth 100000 in
set_option maxHeartbeats 4000000 in
theorem rnum_any (b : Nat) (s : ByteArray) (p : Nat) (w : World) (hs : s.size ≤ 1000000) (hp : p ≤ s.size) (hr : Rd 43 w b s p false) :
    Calls Try.prog 53 #[.pointer (some ⟨b, 0, none⟩)] w (NumPost 43 b s p w) := by
  obtain ⟨hc0, hc1, hc2⟩ := hr.cells
  have hf1 := hr.frozen 1
  have hf2 := hr.frozen 2
  have HR := Lib.hid hr
  clear hr
  go_enter Try.func53, Try.ntmps53
  go_wp2
  refine wp_scope_labels (NextJ b s p w) nextM ?_ ?_
  · by_cases hlt : p < s.size
    · have hx := s[p].toNat_lt
      obtain ⟨x, hxe⟩ : ∃ x : Nat, x = s[p].toNat % 128 := ⟨_, rfl⟩
      have ha := andNot_128 s[p].toNat hx
      rw [← hxe] at ha
      have hx2 : x < 128 := by omega
      have ho : bits .or .u64 0 (x : Int) = (x : Int) := by
        have h := (or_above 0 0 x (by omega) (by decide) hx2 (by omega)).2.2.2
        simpa using h
      by_cases hm : 128 ≤ s[p].toNat
      · have HN := Lib.hid (show num (s.data.toList.drop (p + 1)) 1 x = num (s.data.toList.drop p) 0 0 by
          rw [drop_at s p hlt, num_go (fun h => absurd h (by decide)) hm, hxe]; simp)
        clear hxe
        go_wp2
        go_step3
        go_wp2
        go_step3
        show NextJ b s p w 1 _ _
        exact ⟨rfl, Or.inl ⟨rfl, 1, x, ⟨_, _, _, _, _, _, _, _, _, _, _, _, _, _, _, _, _, _, _, _, _, _, _, _, _, _, _, _, _, _, _, _, _, _, _, _, _, _, _, _, _, _, _, _, _, _, _, _, _, _, _, _, _, _, _, _, _, _, _, _, rfl⟩, by omega, by omega, by omega, by omega, HN.out⟩⟩
      · have HN := Lib.hid (show rd (s.data.toList.drop p) = some (unfold x, 1) from rd_of (by
          rw [drop_at s p hlt, num_last (fun h => absurd h (by decide)) (by omega) (fun h => absurd h (by decide)), hxe]; simp))
        clear hxe
        have HU := Lib.hid (fun w => unfold_any x w (by omega))
        go_wp2
        go_step3
        go_wp2_with (go_at_call 59; (with_reducible refine (HU.out _).mono ?_); rintro e w1 ⟨rfl, rfl⟩)
        all_goals
          rw [jumps_ret]
          go_ret
          exact Or.inl ⟨_, _, HN.out, rfl, HR.out.setAt _, by_set (by_refl _ _) _ _⟩
    · have HN := Lib.hid (show num (s.data.toList.drop p) 0 0 = none by rw [drop_end s p hlt]; rfl)
      go_wp2
      go_step3
      go_wp2
      go_step3
      show NextJ b s p w 0 _ _
      exact ⟨rfl, Or.inr ⟨rfl, ⟨_, _, _, ⟨_, _, _, _, _, _, _, _, _, _, _, _, _, _, _, _, _, _, _, _, _, _, _, _, _, _, _, _, _, _, _, _, _, _, _, _, _, _, _, _, _, _, _, _, _, _, _, _, _, _, _, _, _, _, _, _, _, _, _, _, rfl⟩⟩, HN.out⟩⟩
  · rintro l a w' ⟨rfl, ⟨rfl, k, u, hA, hk9, hk1, hpk, hu, hnum⟩ | ⟨rfl, hA, hnum⟩⟩
    · refine ⟨_, rfl, ?_⟩
      obtain ⟨q, hq⟩ : ∃ q, p + k = q := ⟨_, rfl⟩
      rw [hq] at hA hpk hnum
      have HQ := Lib.hid hq
      have HN := Lib.hid hnum
      clear hnum hq
      by_cases hlt : q < s.size
      · have hx := s[q].toNat_lt
        have HD := Lib.hid (drop_at s q hlt)
        obtain ⟨x, hxe⟩ : ∃ x : Nat, x = s[q].toNat % 128 := ⟨_, rfl⟩
        have ha := andNot_128 s[q].toNat hx
        rw [← hxe] at ha
        have hx2 : x < 128 := by omega
        have HX := Lib.hid hxe
        clear hxe
        by_cases h9 : k = 9
        · subst h9
          have e63 : ((7 * 9 : Nat) : Int) = 63 := rfl
          rw [e63] at hA
          obtain ⟨x5, x7, x8, x9, x10, x11, x12, x13, x14, x15, x16, x17, x18, x19, x20, x21, x22, x23, x24, x25, x26, x27, x28, x29, x30, x31, x32, x33, x34, x35, x36, x37, x38, x39, x40, x41, x42, x43, x44, x45, x46, x47, x48, x49, x50, x51, x52, x53, x54, x55, x56, x57, x58, x59, x60, x61, x62, x63, x64, x65, rfl⟩ := hA
          by_cases hb1 : 1 < s[q].toNat
          · have HW := Lib.hid (show num (s.data.toList.drop p) 0 0 = none by rw [← HN.out, HD.out, num_over hb1])
            go_wp2
            go_step3
            show NextJ b s p w 0 _ _ ∧ _
            exact ⟨⟨rfl, Or.inr ⟨rfl, ⟨_, _, _, ⟨_, _, _, _, _, _, _, _, _, _, _, _, _, _, _, _, _, _, _, _, _, _, _, _, _, _, _, _, _, _, _, _, _, _, _, _, _, _, _, _, _, _, _, _, _, _, _, _, _, _, _, _, _, _, _, _, _, _, _, _, rfl⟩⟩, HW.out⟩⟩, by simp [nextM]⟩
          · by_cases hb0 : s[q].toNat = 0
            · have HW := Lib.hid (show num (s.data.toList.drop p) 0 0 = none by rw [← HN.out, HD.out, num_more (by omega) hb0])
              go_wp2
              go_step3
              show NextJ b s p w 0 _ _ ∧ _
              exact ⟨⟨rfl, Or.inr ⟨rfl, ⟨_, _, _, ⟨_, _, _, _, _, _, _, _, _, _, _, _, _, _, _, _, _, _, _, _, _, _, _, _, _, _, _, _, _, _, _, _, _, _, _, _, _, _, _, _, _, _, _, _, _, _, _, _, _, _, _, _, _, _, _, _, _, _, _, _, rfl⟩⟩, HW.out⟩⟩, by simp [nextM]⟩
            · obtain ⟨y1, y2, y3, y4⟩ := or_above 9 u x (by omega) hu hx2 (fun _ => by have := HX.out; omega)
              obtain ⟨y, hy⟩ : ∃ y, 2 ^ (7 * 9) * x = y := ⟨_, rfl⟩
              obtain ⟨z, hz⟩ : ∃ z, u + y = z := ⟨_, rfl⟩
              rw [hy] at y1 y2 y3 y4
              rw [hz] at y2 y3 y4
              have hsh : IntKind.u64.wrap ((x : Int) * 9223372036854775808) = (y : Int) := by
                rw [show (x : Int) * 9223372036854775808 = (y : Int) by omega, IntWalk.u64_in _ (by omega)]
              have HW := Lib.hid (show rd (s.data.toList.drop p) = some (unfold z, 9 + 1) from rd_of (by
                rw [← HN.out, HD.out, num_last (fun _ => by omega) (by omega) (fun _ => by omega), ← HX.out, hy, hz]))
              have HU := Lib.hid (fun w => unfold_any z w y2)
              have HS := Lib.hid (show p + 10 = q + 1 by have := HQ.out; omega)
              clear hy hz y3 hu
              go_wp2_with (go_at_call 59; (with_reducible refine (HU.out _).mono ?_); rintro e w1 ⟨rfl, rfl⟩)
              rw [jumps_ret]
              go_ret
              exact Or.inl ⟨_, _, HW.out, rfl, by rw [show p + (9 + 1) = q + 1 from HS.out]; exact HR.out.setAt (q + 1), by_set (by_refl _ _) _ _⟩
        · obtain ⟨y1, y2, y3, y4⟩ := or_above k u x (by omega) hu hx2 (by omega)
          obtain ⟨y, hy⟩ : ∃ y, 2 ^ (7 * k) * x = y := ⟨_, rfl⟩
          obtain ⟨z, hz⟩ : ∃ z, u + y = z := ⟨_, rfl⟩
          rw [hy] at y1 y2 y3 y4
          rw [hz] at y2 y3 y4
          obtain ⟨m, hm⟩ : ∃ m, 7 * k = m := ⟨_, rfl⟩
          rw [hm] at hA
          have hm1 : 7 ≤ m := by omega
          have hm2 : m ≤ 56 := by omega
          have hsh : IntKind.u64.wrap ((x : Int) * 2 ^ m) = (y : Int) := by
            rw [← hm, show (x : Int) * 2 ^ (7 * k) = (y : Int) by rw [← hy, Int.natCast_mul, Int.natCast_pow, Int.mul_comm]; rfl, IntWalk.u64_in _ (by omega)]
          have hm63 : ¬ m = 63 := by omega
          have HM := Lib.hid hm
          have HY := Lib.hid hy
          have HZ := Lib.hid hz
          have HZ3 := Lib.hid y3
          clear hm hy hz y3 hu
          obtain ⟨x5, x7, x8, x9, x10, x11, x12, x13, x14, x15, x16, x17, x18, x19, x20, x21, x22, x23, x24, x25, x26, x27, x28, x29, x30, x31, x32, x33, x34, x35, x36, x37, x38, x39, x40, x41, x42, x43, x44, x45, x46, x47, x48, x49, x50, x51, x52, x53, x54, x55, x56, x57, x58, x59, x60, x61, x62, x63, x64, x65, rfl⟩ := hA
          by_cases hm : 128 ≤ s[q].toNat
          · have HW := Lib.hid (show num (s.data.toList.drop (q + 1)) (k + 1) z = num (s.data.toList.drop p) 0 0 by
              rw [← HN.out, HD.out, num_go (fun h => absurd h h9) hm, ← HX.out, HY.out, HZ.out])
            go_wp2
            go_step3
            show NextJ b s p w 1 _ _ ∧ _
            refine ⟨⟨rfl, Or.inl ⟨rfl, k + 1, z, ?_, by omega, by omega, by have := HQ.out; omega, HZ3.out, ?_⟩⟩, ?_⟩
            · have e1 : ((7 * (k + 1) : Nat) : Int) = (m : Int) + 7 := by have := HM.out; omega
              have e2 : ((p + (k + 1) : Nat) : Int) = (q : Int) + 1 := by have := HQ.out; omega
              rw [e1, e2]
              exact ⟨_, _, _, _, _, _, _, _, _, _, _, _, _, _, _, _, _, _, _, _, _, _, _, _, _, _, _, _, _, _, _, _, _, _, _, _, _, _, _, _, _, _, _, _, _, _, _, _, _, _, _, _, _, _, _, _, _, _, _, _, rfl⟩
            · rw [show p + (k + 1) = q + 1 by have := HQ.out; omega]; exact HW.out
            · simp [nextM, intOf]; omega
          · by_cases hb0 : s[q].toNat = 0
            · have HW := Lib.hid (show num (s.data.toList.drop p) 0 0 = none by rw [← HN.out, HD.out, num_more (by omega) hb0])
              go_wp2
              go_step3
              show NextJ b s p w 0 _ _ ∧ _
              exact ⟨⟨rfl, Or.inr ⟨rfl, ⟨_, _, _, ⟨_, _, _, _, _, _, _, _, _, _, _, _, _, _, _, _, _, _, _, _, _, _, _, _, _, _, _, _, _, _, _, _, _, _, _, _, _, _, _, _, _, _, _, _, _, _, _, _, _, _, _, _, _, _, _, _, _, _, _, _, rfl⟩⟩, HW.out⟩⟩, by simp [nextM]⟩
            · have HW := Lib.hid (show rd (s.data.toList.drop p) = some (unfold z, k + 1) from rd_of (by
                rw [← HN.out, HD.out, num_last (fun h => absurd h h9) (by omega) (fun _ => by omega), ← HX.out, HY.out, HZ.out]))
              have HU := Lib.hid (fun w => unfold_any z w y2)
              have HS := Lib.hid (show p + (k + 1) = q + 1 by have := HQ.out; omega)
              go_wp2_with (go_at_call 59; (with_reducible refine (HU.out _).mono ?_); rintro e w1 ⟨rfl, rfl⟩)
              rw [jumps_ret]
              go_ret
              exact Or.inl ⟨_, _, HW.out, rfl, by rw [HS.out]; exact HR.out.setAt (q + 1), by_set (by_refl _ _) _ _⟩
      · have HW := Lib.hid (show num (s.data.toList.drop p) 0 0 = none by rw [← HN.out, drop_end s q hlt]; rfl)
        obtain ⟨x5, x7, x8, x9, x10, x11, x12, x13, x14, x15, x16, x17, x18, x19, x20, x21, x22, x23, x24, x25, x26, x27, x28, x29, x30, x31, x32, x33, x34, x35, x36, x37, x38, x39, x40, x41, x42, x43, x44, x45, x46, x47, x48, x49, x50, x51, x52, x53, x54, x55, x56, x57, x58, x59, x60, x61, x62, x63, x64, x65, rfl⟩ := hA
        go_wp2
        go_step3
        show NextJ b s p w 0 _ _ ∧ _
        exact ⟨⟨rfl, Or.inr ⟨rfl, ⟨_, _, _, ⟨_, _, _, _, _, _, _, _, _, _, _, _, _, _, _, _, _, _, _, _, _, _, _, _, _, _, _, _, _, _, _, _, _, _, _, _, _, _, _, _, _, _, _, _, _, _, _, _, _, _, _, _, _, _, _, _, _, _, _, _, rfl⟩⟩, HW.out⟩⟩, by simp [nextM]⟩
    · refine ⟨_, rfl, ?_⟩
      obtain ⟨u, mv, q, x5, x7, x8, x9, x10, x11, x12, x13, x14, x15, x16, x17, x18, x19, x20, x21, x22, x23, x24, x25, x26, x27, x28, x29, x30, x31, x32, x33, x34, x35, x36, x37, x38, x39, x40, x41, x42, x43, x44, x45, x46, x47, x48, x49, x50, x51, x52, x53, x54, x55, x56, x57, x58, x59, x60, x61, x62, x63, x64, x65, rfl⟩ := hA
      have HN := Lib.hid (rd_none hnum)
      clear hnum
      go_wp2
      rw [jumps_ret]
      go_ret
      exact Or.inr ⟨HN.out, rfl, ⟨p, hp, HR.out.setBad⟩, by_set (by_refl _ _) _ _⟩
end Go.Proofs.Ytjjjpifdmgpnjaa

/- What Num of the document's Reader gives; of both, behind Bad. -/
namespace Go.Proofs.Ytjjjpifdmgpnjaa
open Go.RowKit Cod

theorem and_127 : ∀ x : Nat, x < 256 → bits .and .u8 (x : Int) 127 = ((x % 128 : Nat) : Int) := by decide +kernel
theorem and_one (z : Nat) (h : z < 18446744073709551616) : bits .and .u64 (z : Int) 1 = ((z % 2 : Nat) : Int) := by
  have k := u64_and_nat z 1 h (by decide)
  rw [Nat.and_one_is_mod] at k
  exact k

end Go.Proofs.Ytjjjpifdmgpnjaa

/- Num of both Readers, in two words: what comes, or that nothing comes. -/
namespace Go.Proofs.Ytjjjpifdmgpnjaa
open Go.RowKit Cod

def BadJ (b : Nat) (w : World) (l : Nat) (a : Act) (w' : World) : Prop := w = w' ∧ l = 0 ∧ AtWrong b a

/-- It went wrong already, or nothing comes: the zero value. -/
def No (T : TypeId) (b : Nat) (s : ByteArray) (w : World) (z : Value) (e : Ending) (w' : World) : Prop :=
  e = .returned z ∧ (∃ q, q ≤ s.size ∧ Rd T w' b s q true) ∧ w.grownBy w' (some b)
/-- What comes, and from where on to read. -/
def Yes (T : TypeId) (b : Nat) (s : ByteArray) (w : World) (v : Value) (q : Nat) (e : Ending) (w' : World) : Prop :=
  e = .returned v ∧ Rd T w' b s q false ∧ w.grownBy w' (some b)

set_option maxRecDepth 100000 in
set_option maxHeartbeats 4000000 in
theorem rnum_bad (b : Nat) (s : ByteArray) (p : Nat) (w : World) (hp : p ≤ s.size) (hr : Rd 43 w b s p true) :
    Calls Try.prog 53 #[.pointer (some ⟨b, 0, none⟩)] w (No 43 b s w (.int .i64 0)) := by
  obtain ⟨hc0, hc1, hc2⟩ := hr.cells
  have hf2 := hr.frozen 2
  have HR := Lib.hid hr
  clear hr
  go_enter Try.func53, Try.ntmps53
  go_wp2
  refine wp_scope_labels (BadJ b w) (fun _ _ _ => 0) ?_ ?_
  · go_wp2
    go_step3
    show BadJ b w 0 _ _
    exact ⟨rfl, rfl, ⟨_, _, _, ⟨_, _, _, _, _, _, _, _, _, _, _, _, _, _, _, _, _, _, _, _, _, _, _, _, _, _, _, _, _, _, _, _, _, _, _, _, _, _, _, _, _, _, _, _, _, _, _, _, _, _, _, _, _, _, _, _, _, _, _, _, rfl⟩⟩⟩
  · rintro l a w' ⟨rfl, rfl, hA⟩
    refine ⟨_, rfl, ?_⟩
    obtain ⟨u, mv, q, x5, x7, x8, x9, x10, x11, x12, x13, x14, x15, x16, x17, x18, x19, x20, x21, x22, x23, x24, x25, x26, x27, x28, x29, x30, x31, x32, x33, x34, x35, x36, x37, x38, x39, x40, x41, x42, x43, x44, x45, x46, x47, x48, x49, x50, x51, x52, x53, x54, x55, x56, x57, x58, x59, x60, x61, x62, x63, x64, x65, rfl⟩ := hA
    go_wp2
    rw [jumps_ret]
    go_ret
    exact ⟨rfl, ⟨p, hp, HR.out.setBad⟩, by_set (by_refl _ _) _ _⟩

theorem list_len (s : ByteArray) (p : Nat) : (s.data.toList.drop p).length = s.size - p := by simp

section
variable {T : TypeId} {b : Nat} {s : ByteArray} {p : Nat} {w : World} {bad : Bool}
theorem post_yes {e : Ending} {w' : World} {n : Int} {m : Nat} (h : rd (s.data.toList.drop p) = some (n, m)) (k : NumPost T b s p w e w') : Yes T b s w (.int .i64 n) (p + m) e w' := by
  rcases k with ⟨n', m', h1, he, hr, hb⟩ | ⟨h1, _⟩
  · rw [h] at h1
    obtain ⟨rfl, rfl⟩ := Prod.mk.inj (Option.some.inj h1)
    exact ⟨he, hr, hb⟩
  · rw [h] at h1; cases h1
theorem post_no {e : Ending} {w' : World} (h : rd (s.data.toList.drop p) = none) (k : NumPost T b s p w e w') : No T b s w (.int .i64 0) e w' := by
  rcases k with ⟨n', m', h1, _⟩ | ⟨_, he, hr, hb⟩
  · rw [h] at h1; cases h1
  · exact ⟨he, hr, hb⟩

/-- The number that stands at p, and what stands behind it. -/
def isNum (s : ByteArray) (p : Nat) (bad : Bool) : Option (Int × Nat) := if bad then none else (rd (s.data.toList.drop p)).map fun x => (x.1, p + x.2)
theorem isNum_some {n : Int} {q : Nat} (h : isNum s p bad = some (n, q)) : bad = false ∧ (∃ m, rd (s.data.toList.drop p) = some (n, m) ∧ q = p + m) ∧ q ≤ s.size ∧ p < q ∧ -9223372036854775808 ≤ n ∧ n ≤ 9223372036854775807 := by
  unfold isNum at h
  cases bad
  · obtain ⟨⟨n', m⟩, h1, h2⟩ := Option.map_eq_some_iff.1 h
    obtain ⟨rfl, rfl⟩ := Prod.mk.inj h2
    obtain ⟨_, _, k1, _, k2, k3, k4⟩ := rd_some h1
    rw [list_len] at k2
    exact ⟨rfl, ⟨m, h1, rfl⟩, by show p + m ≤ _; omega, by show p < p + m; omega, k3, k4⟩
  · cases h
theorem isNum_none (h : isNum s p bad = none) : bad = true ∨ bad = false ∧ rd (s.data.toList.drop p) = none := by
  unfold isNum at h
  cases bad
  · exact Or.inr ⟨rfl, by simpa using h⟩
  · exact Or.inl rfl

theorem rnum_yes {n : Int} {q : Nat} (hs : s.size ≤ 1000000) (hp : p ≤ s.size) (hr : Rd 43 w b s p bad) (h : isNum s p bad = some (n, q)) :
    Calls Try.prog 53 #[.pointer (some ⟨b, 0, none⟩)] w (Yes 43 b s w (.int .i64 n) q) := by
  obtain ⟨rfl, ⟨m, h1, rfl⟩, _⟩ := isNum_some h
  exact (rnum_any b s p w hs hp hr).mono fun _ _ k => post_yes h1 k
theorem rnum_no (hs : s.size ≤ 1000000) (hp : p ≤ s.size) (hr : Rd 43 w b s p bad) (h : isNum s p bad = none) :
    Calls Try.prog 53 #[.pointer (some ⟨b, 0, none⟩)] w (No 43 b s w (.int .i64 0)) := by
  rcases isNum_none h with rfl | ⟨rfl, h1⟩
  · exact rnum_bad b s p w hp hr
  · exact (rnum_any b s p w hs hp hr).mono fun _ _ k => post_no h1 k
end

end Go.Proofs.Ytjjjpifdmgpnjaa

/- Count and Bool of both Readers. -/
namespace Go.Proofs.Ytjjjpifdmgpnjaa
open Go.RowKit Cod

/-- The number from 0 to most that stands at p. -/
def isCount (s : ByteArray) (p : Nat) (bad : Bool) (most : Int) : Option (Int × Nat) :=
  match isNum s p bad with
  | some (n, q) => if 0 ≤ n ∧ n ≤ most then some (n, q) else none
  | none => none

section
variable {b : Nat} {s : ByteArray} {p : Nat} {w : World} {bad : Bool}
theorem isCount_some {most n : Int} {q : Nat} (h : isCount s p bad most = some (n, q)) : isNum s p bad = some (n, q) ∧ 0 ≤ n ∧ n ≤ most := by
  unfold isCount at h
  split at h
  · rename_i n' q' h1
    split at h
    · rename_i h2
      obtain ⟨rfl, rfl⟩ := Prod.mk.inj (Option.some.inj h)
      exact ⟨h1, h2⟩
    · cases h
  · cases h
theorem isCount_none {most : Int} (h : isCount s p bad most = none) : isNum s p bad = none ∨ ∃ n q, isNum s p bad = some (n, q) ∧ (n < 0 ∨ most < n) := by
  unfold isCount at h
  split at h
  · rename_i n' q' h1
    split at h
    · cases h
    · exact Or.inr ⟨n', q', h1, by omega⟩
  · exact Or.inl ‹_›

theorem count_yes {most n : Int} {q : Nat} (hs : s.size ≤ 1000000) (hp : p ≤ s.size) (hr : Rd 43 w b s p bad) (h : isCount s p bad most = some (n, q)) :
    Calls Try.prog 46 #[.pointer (some ⟨b, 0, none⟩), .int .i64 most] w (Yes 43 b s w (.int .i64 n) q) := by
  obtain ⟨h1, h2, h3⟩ := isCount_some h
  have CN := Lib.hid (rnum_yes hs hp hr h1)
  clear h h1 hr
  go_enter Try.func46, Try.ntmps46
  go_wp2_with (go_at_call 53; (with_reducible refine CN.out.mono ?_); rintro e w1 ⟨rfl, hr1, hb1⟩)
  go_ret
  exact ⟨rfl, hr1, hb1⟩

theorem count_no {most : Int} (hs : s.size ≤ 1000000) (hp : p ≤ s.size) (hr : Rd 43 w b s p bad) (h : isCount s p bad most = none) :
    Calls Try.prog 46 #[.pointer (some ⟨b, 0, none⟩), .int .i64 most] w (No 43 b s w (.int .i64 0)) := by
  rcases isCount_none h with h1 | ⟨n, q, h1, h2⟩
  · have CN := Lib.hid (rnum_no hs hp hr h1)
    clear h h1 hr
    by_cases hm : most < 0
    · go_enter Try.func46, Try.ntmps46
      go_wp2_with (go_at_call 53; (with_reducible refine CN.out.mono ?_); rintro e w1 ⟨rfl, ⟨q, hq, hr1⟩, hb1⟩; obtain ⟨hc0, hc1, hc2⟩ := hr1.cells; have hf2 := hr1.frozen 2; have HR := Lib.hid hr1; clear hr1)
      go_ret
      exact ⟨rfl, ⟨q, hq, HR.out.setBad⟩, by_set hb1 _ _⟩
    · go_enter Try.func46, Try.ntmps46
      go_wp2_with (go_at_call 53; (with_reducible refine CN.out.mono ?_); rintro e w1 ⟨rfl, ⟨q, hq, hr1⟩, hb1⟩)
      go_ret
      exact ⟨rfl, ⟨q, hq, hr1⟩, hb1⟩
  · have CN := Lib.hid (rnum_yes hs hp hr h1)
    have hq := (isNum_some h1).2.2.1
    clear h h1 hr
    rcases h2 with h2 | h2
    · go_enter Try.func46, Try.ntmps46
      go_wp2_with (go_at_call 53; (with_reducible refine CN.out.mono ?_); rintro e w1 ⟨rfl, hr1, hb1⟩; obtain ⟨hc0, hc1, hc2⟩ := hr1.cells; have hf2 := hr1.frozen 2; have HR := Lib.hid hr1; clear hr1)
      go_ret
      exact ⟨rfl, ⟨q, hq, HR.out.setBad⟩, by_set hb1 _ _⟩
    · by_cases h0 : n < 0
      · go_enter Try.func46, Try.ntmps46
        go_wp2_with (go_at_call 53; (with_reducible refine CN.out.mono ?_); rintro e w1 ⟨rfl, hr1, hb1⟩; obtain ⟨hc0, hc1, hc2⟩ := hr1.cells; have hf2 := hr1.frozen 2; have HR := Lib.hid hr1; clear hr1)
        go_ret
        exact ⟨rfl, ⟨q, hq, HR.out.setBad⟩, by_set hb1 _ _⟩
      · go_enter Try.func46, Try.ntmps46
        go_wp2_with (go_at_call 53; (with_reducible refine CN.out.mono ?_); rintro e w1 ⟨rfl, hr1, hb1⟩; obtain ⟨hc0, hc1, hc2⟩ := hr1.cells; have hf2 := hr1.frozen 2; have HR := Lib.hid hr1; clear hr1)
        go_ret
        exact ⟨rfl, ⟨q, hq, HR.out.setBad⟩, by_set hb1 _ _⟩

/-- The bool that stands at p. -/
def isBool (s : ByteArray) (p : Nat) (bad : Bool) : Option (Bool × Nat) := (isCount s p bad 1).map fun x => (decide (x.1 = 1), x.2)
theorem isBool_some {v : Bool} {q : Nat} (h : isBool s p bad = some (v, q)) : ∃ n, isCount s p bad 1 = some (n, q) ∧ (n = 1 ∧ v = true ∨ n = 0 ∧ v = false) := by
  unfold isBool at h
  obtain ⟨⟨n, q'⟩, h1, h2⟩ := Option.map_eq_some_iff.1 h
  obtain ⟨rfl, rfl⟩ := Prod.mk.inj h2
  obtain ⟨_, h3, h4⟩ := isCount_some h1
  refine ⟨n, h1, ?_⟩
  by_cases h5 : n = 1
  · exact Or.inl ⟨h5, by simp [h5]⟩
  · exact Or.inr ⟨by omega, by simp [h5]⟩
theorem isBool_none (h : isBool s p bad = none) : isCount s p bad 1 = none := by simpa [isBool] using h

theorem bool_yes {v : Bool} {q : Nat} (hs : s.size ≤ 1000000) (hp : p ≤ s.size) (hr : Rd 43 w b s p bad) (h : isBool s p bad = some (v, q)) :
    Calls Try.prog 54 #[.pointer (some ⟨b, 0, none⟩)] w (Yes 43 b s w (.bool v) q) := by
  obtain ⟨n, h1, ⟨rfl, rfl⟩ | ⟨rfl, rfl⟩⟩ := isBool_some h
  · have CN := Lib.hid (count_yes hs hp hr h1)
    clear h h1 hr
    go_enter Try.func54, Try.ntmps54
    go_wp2_with (go_at_call 46; (with_reducible refine CN.out.mono ?_); rintro e w1 ⟨rfl, hr1, hb1⟩)
    go_ret
    exact ⟨rfl, hr1, hb1⟩
  · have CN := Lib.hid (count_yes hs hp hr h1)
    clear h h1 hr
    go_enter Try.func54, Try.ntmps54
    go_wp2_with (go_at_call 46; (with_reducible refine CN.out.mono ?_); rintro e w1 ⟨rfl, hr1, hb1⟩)
    go_ret
    exact ⟨rfl, hr1, hb1⟩
theorem bool_no (hs : s.size ≤ 1000000) (hp : p ≤ s.size) (hr : Rd 43 w b s p bad) (h : isBool s p bad = none) :
    Calls Try.prog 54 #[.pointer (some ⟨b, 0, none⟩)] w (No 43 b s w (.bool false)) := by
  have CN := Lib.hid (count_no hs hp hr (isBool_none h))
  clear h hr
  go_enter Try.func54, Try.ntmps54
  go_wp2_with (go_at_call 46; (with_reducible refine CN.out.mono ?_); rintro e w1 ⟨rfl, hr1, hb1⟩)
  go_ret
  exact ⟨rfl, hr1, hb1⟩

end

end Go.Proofs.Ytjjjpifdmgpnjaa

/- Text and Done of both Readers. -/
namespace Go.Proofs.Ytjjjpifdmgpnjaa
open Go.RowKit Cod

/-- The text that stands at p. -/
def isText (s : ByteArray) (p : Nat) (bad : Bool) (most : Int) : Option (ByteArray × Nat) :=
  match isCount s p bad most with
  | some (n, q) => if n.toNat + q ≤ s.size then some (s.extract q (q + n.toNat), q + n.toNat) else none
  | none => none

section
variable {b : Nat} {s : ByteArray} {p : Nat} {w : World} {bad : Bool}
theorem isText_some {most : Int} {t : ByteArray} {e : Nat} (h : isText s p bad most = some (t, e)) : ∃ n q : Nat, isCount s p bad most = some ((n : Int), q) ∧ n + q ≤ s.size ∧ t = s.extract q (q + n) ∧ e = q + n := by
  unfold isText at h
  split at h
  · rename_i n' q' h1
    split at h
    · rename_i h2
      obtain ⟨rfl, rfl⟩ := Prod.mk.inj (Option.some.inj h)
      obtain ⟨_, h3, _⟩ := isCount_some h1
      exact ⟨n'.toNat, q', by rw [Int.toNat_of_nonneg h3]; exact h1, h2, rfl, rfl⟩
    · cases h
  · cases h
theorem isText_none {most : Int} (h : isText s p bad most = none) : isCount s p bad most = none ∨ ∃ n q : Nat, isCount s p bad most = some ((n : Int), q) ∧ s.size < n + q := by
  unfold isText at h
  split at h
  · rename_i n' q' h1
    split at h
    · cases h
    · obtain ⟨_, h3, _⟩ := isCount_some h1
      exact Or.inr ⟨n'.toNat, q', by rw [Int.toNat_of_nonneg h3]; exact h1, by omega⟩
  · exact Or.inl ‹_›

set_option maxHeartbeats 2000000 in
theorem rtext_yes {most : Int} {t : ByteArray} {e : Nat} (hs : s.size ≤ 1000000) (hp : p ≤ s.size) (hr : Rd 43 w b s p bad) (h : isText s p bad most = some (t, e)) :
    Calls Try.prog 56 #[.pointer (some ⟨b, 0, none⟩), .int .i64 most] w (Yes 43 b s w (.string t) e) := by
  obtain ⟨n, q, h1, h2, rfl, rfl⟩ := isText_some h
  have CN := Lib.hid (count_yes hs hp hr h1)
  clear h h1 hr
  have hd : decide ((s.size : Int) - (q : Int) < (n : Int)) = false := decide_eq_false (by omega)
  have hn : (n : Int) ≤ (s.size : Int) - (q : Int) := by omega
  have hn2 : (q : Int) + (n : Int) ≤ (s.size : Int) := by omega
  have hn3 : (q : Int) ≤ (q : Int) + (n : Int) := by omega
  go_enter Try.func56, Try.ntmps56
  go_wp2_with (go_at_call 46; (with_reducible refine CN.out.mono ?_); rintro e w1 ⟨rfl, hr1, hb1⟩; obtain ⟨hc0, hc1, hc2⟩ := hr1.cells; have hf1 := hr1.frozen 1; have HR := Lib.hid hr1; clear hr1)
  go_quiet (fail)
  go_wp2
  go_quiet (fail)
  go_wp2
  go_ret
  exact ⟨rfl, (HR.out.drewN _).setAt (q + n), by_drewN (by_set (by_drewN hb1 _) _ _) _⟩

set_option maxHeartbeats 2000000 in
theorem rtext_no {most : Int} (hs : s.size ≤ 1000000) (hp : p ≤ s.size) (hr : Rd 43 w b s p bad) (h : isText s p bad most = none) :
    Calls Try.prog 56 #[.pointer (some ⟨b, 0, none⟩), .int .i64 most] w (No 43 b s w (.string ⟨#[]⟩)) := by
  rcases isText_none h with h1 | ⟨n, q, h1, h2⟩
  · have CN := Lib.hid (count_no hs hp hr h1)
    clear h h1 hr
    go_enter Try.func56, Try.ntmps56
    go_wp2_with (go_at_call 46; (with_reducible refine CN.out.mono ?_); rintro e w1 ⟨rfl, ⟨q, hq, hr1⟩, hb1⟩; obtain ⟨hc0, hc1, hc2⟩ := hr1.cells; have hf2 := hr1.frozen 2; have HR := Lib.hid hr1; clear hr1)
    go_quiet (fail)
    go_wp2
    go_ret
    exact ⟨rfl, ⟨q, hq, (HR.out.drewN _).setBad⟩, by_set (by_drewN hb1 _) _ _⟩
  · have CN := Lib.hid (count_yes hs hp hr h1)
    have hq := (isNum_some (isCount_some h1).1).2.2.1
    clear h h1 hr
    have hd : decide ((s.size : Int) - (q : Int) < (n : Int)) = true := decide_eq_true (by omega)
    go_enter Try.func56, Try.ntmps56
    go_wp2_with (go_at_call 46; (with_reducible refine CN.out.mono ?_); rintro e w1 ⟨rfl, hr1, hb1⟩; obtain ⟨hc0, hc1, hc2⟩ := hr1.cells; have hf2 := hr1.frozen 2; have HR := Lib.hid hr1; clear hr1)
    go_quiet (fail)
    go_wp2
    go_ret
    exact ⟨rfl, ⟨q, hq, (HR.out.drewN _).setBad⟩, by_set (by_drewN hb1 _) _ _⟩

/-- Is nothing left, and did nothing go wrong? -/
def isDone (s : ByteArray) (p : Nat) (bad : Bool) : Bool := !bad && decide (p = s.size)

end

end Go.Proofs.Ytjjjpifdmgpnjaa

/- Numbers, a text and a bool, one behind the other: what stands where. -/
namespace Go.Proofs.Ytjjjpifdmgpnjaa
open Go.RowKit Cod

theorem drop_of (A R : ByteArray) : (A ++ R).data.toList.drop A.size = R.data.toList := by
  rw [dl_app, ← dl_len A]; exact List.drop_left' rfl

theorem num_there (A Z : ByteArray) (n : Int) (h1 : -9223372036854775808 ≤ n) (h2 : n ≤ 9223372036854775807) : isNum (A ++ (bytesOf n ++ Z)) A.size false = some (n, A.size + (bytesOf n).size) := by
  unfold isNum
  rw [drop_of, dl_app, bytesOf_list, rd_enc n h1 h2, bytesOf_size]
  rfl

theorem count_there (A Z : ByteArray) (n most : Int) (h0 : 0 ≤ n) (h1 : n ≤ most) (h2 : n ≤ 9223372036854775807) : isCount (A ++ (bytesOf n ++ Z)) A.size false most = some (n, A.size + (bytesOf n).size) := by
  unfold isCount
  rw [num_there A Z n (by omega) h2]
  exact if_pos ⟨h0, h1⟩

theorem ext_there (A s Z : ByteArray) : (A ++ (s ++ Z)).extract A.size (A.size + s.size) = s := by
  apply dl_inj
  rw [ByteArray.data_extract, Array.toList_extract, List.extract_eq_take_drop, drop_of, dl_app]
  rw [Nat.add_sub_cancel_left, ← dl_len s]
  exact List.take_left' rfl

theorem text_there (A s Z : ByteArray) (most : Int) (h : (s.size : Int) ≤ most) (hs : s.size ≤ 1000000) : isText (A ++ (textOf s ++ Z)) A.size false most = some (s, A.size + (textOf s).size) := by
  unfold textOf isText
  rw [ByteArray.append_assoc, count_there A _ s.size most (by omega) h (by omega)]
  have e : A ++ (bytesOf s.size ++ (s ++ Z)) = (A ++ bytesOf s.size) ++ (s ++ Z) := by rw [ByteArray.append_assoc]
  have e2 : A.size + (bytesOf s.size).size = (A ++ bytesOf s.size).size := by rw [ByteArray.size_append]
  simp only [Int.toNat_natCast]
  have e3 : (s ++ Z).size = s.size + Z.size := ByteArray.size_append
  rw [if_pos (by rw [e, ByteArray.size_append, e2, e3]; omega), e2, e, ext_there, ByteArray.size_append, ByteArray.size_append, Nat.add_assoc]

theorem bool_there (A Z : ByteArray) (b : Bool) : isBool (A ++ (bitOf b ++ Z)) A.size false = some (b, A.size + (bitOf b).size) := by
  unfold isBool bitOf
  cases b
  · rw [count_there A Z _ 1 (by decide) (by decide) (by decide)]; rfl
  · rw [count_there A Z _ 1 (by decide) (by decide) (by decide)]; rfl

/-- The first k numbers, one behind the other. -/
def catF (f : Nat → Int) : Nat → ByteArray
  | 0 => ⟨#[]⟩
  | k + 1 => catF f k ++ bytesOf (f k)
def posF (f : Nat → Int) (k : Nat) : Nat := (catF f k).size
theorem pos_succ (f : Nat → Int) (k : Nat) : posF f (k + 1) = posF f k + (bytesOf (f k)).size := by
  unfold posF; rw [catF, ByteArray.size_append]

def Fits (f : Nat → Int) (n : Nat) : Prop := ∀ j, j < n → -9223372036854775808 ≤ f j ∧ f j ≤ 9223372036854775807
theorem cat_le (f : Nat → Int) (n : Nat) (h : Fits f n) : ∀ k, k ≤ n → (catF f k).size ≤ 10 * k
  | 0, _ => Nat.le_refl 0
  | k + 1, hk => by
    have h1 := cat_le f n h k (by omega)
    have h2 := h k (by omega)
    have h3 := bytesOf_le (f k) h2.1 h2.2
    rw [catF, ByteArray.size_append]; omega
theorem cat_rest (f : Nat → Int) (k : Nat) : ∀ n, k ≤ n → ∃ R, catF f n = catF f k ++ R
  | 0, h => by
    obtain rfl : k = 0 := by omega
    exact ⟨⟨#[]⟩, dl_inj (by rw [dl_app]; exact (List.append_nil _).symm)⟩
  | n + 1, h => by
    by_cases e : k = n + 1
    · subst e
      exact ⟨⟨#[]⟩, dl_inj (by rw [dl_app]; exact (List.append_nil _).symm)⟩
    · obtain ⟨R, hR⟩ := cat_rest f k n (by omega)
      exact ⟨R ++ bytesOf (f n), by rw [catF, hR, ByteArray.append_assoc]⟩

theorem cat_num (f : Nat → Int) (k n : Nat) (h : k < n) (hf : Fits f n) (Z : ByteArray) : isNum (catF f n ++ Z) (posF f k) false = some (f k, posF f (k + 1)) := by
  obtain ⟨R, hR⟩ := cat_rest f (k + 1) n (by omega)
  have hb := hf k h
  rw [hR, catF, ByteArray.append_assoc, ByteArray.append_assoc, pos_succ]
  exact num_there (catF f k) (R ++ Z) (f k) hb.1 hb.2

/-- All that stands behind each other, and what comes of it. -/
theorem tail_text (A s : ByteArray) (b : Bool) (hs : s.size ≤ 2000) : isText (A ++ textOf s ++ bitOf b) A.size false 2000 = some (s, A.size + (textOf s).size) := by
  rw [ByteArray.append_assoc]; exact text_there A s (bitOf b) 2000 (by omega) (by omega)
theorem tail_bool (A s : ByteArray) (b : Bool) : isBool (A ++ textOf s ++ bitOf b) (A.size + (textOf s).size) false = some (b, (A ++ textOf s ++ bitOf b).size) := by
  have h := bool_there (A ++ textOf s) ⟨#[]⟩ b
  have e : bitOf b ++ ⟨#[]⟩ = bitOf b := dl_inj (by rw [dl_app]; exact List.append_nil _)
  rw [e, ByteArray.size_append] at h
  rw [h, ByteArray.size_append, ByteArray.size_append]

theorem bit_size' (c : Bool) : (bitOf c).size = 1 := by
  unfold bitOf
  rw [bytesOf_size]
  cases c
  · rw [show fold (if false then 1 else 0) = 0 from rfl, enc_small (by decide)]; rfl
  · rw [show fold (if true then 1 else 0) = 2 from rfl, enc_small (by decide)]; rfl

end Go.Proofs.Ytjjjpifdmgpnjaa

/- A number, a text read, whatever the reader's state; small steps on worlds. -/
namespace Go.Proofs.Ytjjjpifdmgpnjaa
open Go.RowKit Cod

def numStep (s : ByteArray) (p : Nat) (bad : Bool) (v : Int) (q : Nat) (bad' : Bool) : Prop := (isNum s p bad = some (v, q) ∧ bad' = false) ∨ (isNum s p bad = none ∧ v = 0 ∧ bad' = true)
def textStep (s : ByteArray) (p : Nat) (bad : Bool) (v : ByteArray) (q : Nat) (bad' : Bool) : Prop := (isText s p bad 16 = some (v, q) ∧ bad' = false) ∨ (isText s p bad 16 = none ∧ v = ⟨#[]⟩ ∧ bad' = true)
theorem isNum_bad (s : ByteArray) (p : Nat) : isNum s p true = none := rfl
theorem isText_bad (s : ByteArray) (p : Nat) (m : Int) : isText s p true m = none := by
  rcases h : isText s p true m with _ | ⟨t, e⟩
  · rfl
  · obtain ⟨n, q, h1, _⟩ := isText_some h
    have := (isCount_some h1).1
    rw [isNum_bad] at this; cases this
theorem numStep.good {s : ByteArray} {p : Nat} {bad : Bool} {v : Int} {q : Nat} (h : numStep s p bad v q false) : bad = false ∧ isNum s p false = some (v, q) := by
  rcases h with ⟨h, _⟩ | ⟨_, _, h⟩
  · cases bad
    · exact ⟨rfl, h⟩
    · rw [isNum_bad] at h; cases h
  · cases h
theorem numStep.ill {s : ByteArray} {p : Nat} {bad : Bool} {v : Int} {q : Nat} (h : numStep s p bad v q true) : isNum s p bad = none := by
  rcases h with ⟨_, h⟩ | ⟨h, _⟩
  · cases h
  · exact h
theorem numStep.back {s : ByteArray} {p : Nat} {bad : Bool} {v : Int} {q : Nat} (h : numStep s p bad v q false) : isNum s p bad = some (v, q) := by
  rcases h with ⟨h, _⟩ | ⟨_, _, h⟩
  · exact h
  · cases h
theorem textStep.good {s : ByteArray} {p : Nat} {bad : Bool} {v : ByteArray} {q : Nat} (h : textStep s p bad v q false) : bad = false ∧ isText s p false 16 = some (v, q) := by
  rcases h with ⟨h, _⟩ | ⟨_, _, h⟩
  · cases bad
    · exact ⟨rfl, h⟩
    · rw [isText_bad] at h; cases h
  · cases h
theorem textStep.ill {s : ByteArray} {p : Nat} {bad : Bool} {v : ByteArray} {q : Nat} (h : textStep s p bad v q true) : isText s p bad 16 = none := by
  rcases h with ⟨_, h⟩ | ⟨h, _⟩
  · cases h
  · exact h

theorem num_uni {w : World} {b p : Nat} {s : ByteArray} {bad : Bool} (hs : s.size ≤ 1000000) (hp : p ≤ s.size) (hr : Rd 43 w b s p bad) :
    Calls Try.prog 53 #[.pointer (some ⟨b, 0, none⟩)] w fun e w' => ∃ v q bad', e = .returned (.int .i64 v) ∧ Rd 43 w' b s q bad' ∧ q ≤ s.size ∧ w.grownBy w' (some b) ∧ numStep s p bad v q bad' := by
  rcases h : isNum s p bad with _ | ⟨v, q⟩
  · exact (rnum_no hs hp hr h).mono fun e w' ⟨he, ⟨q, hq, hr'⟩, hg⟩ => ⟨0, q, true, he, hr', hq, hg, Or.inr ⟨h, rfl, rfl⟩⟩
  · exact (rnum_yes hs hp hr h).mono fun e w' ⟨he, hr', hg⟩ => ⟨v, q, false, he, hr', (isNum_some h).2.2.1, hg, Or.inl ⟨h, rfl⟩⟩
theorem text_uni {w : World} {b p : Nat} {s : ByteArray} {bad : Bool} (hs : s.size ≤ 1000000) (hp : p ≤ s.size) (hr : Rd 43 w b s p bad) :
    Calls Try.prog 56 #[.pointer (some ⟨b, 0, none⟩), .int .i64 16] w fun e w' => ∃ v q bad', e = .returned (.string v) ∧ Rd 43 w' b s q bad' ∧ q ≤ s.size ∧ v.size ≤ 1000000 ∧ w.grownBy w' (some b) ∧ textStep s p bad v q bad' := by
  rcases h : isText s p bad 16 with _ | ⟨v, q⟩
  · exact (rtext_no hs hp hr h).mono fun e w' ⟨he, ⟨q, hq, hr'⟩, hg⟩ => ⟨⟨#[]⟩, q, true, he, hr', hq, by decide, hg, Or.inr ⟨h, rfl, rfl⟩⟩
  · obtain ⟨n, q0, h1, h2, rfl, rfl⟩ := isText_some h
    exact (rtext_yes hs hp hr h).mono fun e w' ⟨he, hr', hg⟩ => ⟨_, _, false, he, hr', by omega, by rw [ByteArray.size_extract]; omega, hg, Or.inl ⟨h, rfl⟩⟩

section
variable {w a : World} {b : Nat} {s : ByteArray}
theorem Rd.other {T : TypeId} {q : Nat} {bad : Bool} (h : Rd T w b s q bad) (n i : Nat) (v : Value) (hne : b ≠ n) : Rd T (w.setCell ⟨n, i, none⟩ v) b s q bad :=
  (Below.heap_setCell w ⟨n, i, none⟩ v b hne).trans h
theorem by_setNew (h : a.grownBy w (some b)) (n i : Nat) (v : Value) (hn : a.heap.size ≤ n) : a.grownBy (w.setCell ⟨n, i, none⟩ v) (some b) :=
  ⟨h.os, h.tape, h.output, by simpa [World.setCell] using h.size, fun k hk hne => (Below.heap_setCell w ⟨n, i, none⟩ v k (by intro e; have e : k = n := e; omega)).trans (h.block k hk hne)⟩
theorem by_setRow (h : a.grownBy w (some b)) (n : Nat) (cs : Array Value) (hn : a.heap.size ≤ n) : a.grownBy (w.setRow n cs) (some b) :=
  ⟨h.os, h.tape, h.output, by simpa [World.setRow] using h.size, fun k hk hne => (setRow_other w n k cs (by omega)).trans (h.block k hk hne)⟩
theorem Rd.row {T : TypeId} {q : Nat} {bad : Bool} (h : Rd T w b s q bad) (n : Nat) (cs : Array Value) (hne : b ≠ n) : Rd T (w.setRow n cs) b s q bad := (setRow_other w n b cs hne).trans h
end
end Go.Proofs.Ytjjjpifdmgpnjaa

/- Reports as values: which may be, which is newer, what merging comes to, their bytes. No call in it. -/
namespace Go.Proofs.Ytjjjpifdmgpnjaa
open Go.RowKit Cod

structure Rp where
  d : Int
  i : Int
  b : Int
  t : Int
  m : Int
  p : Int
  c : Int
  s : Int
  k : Int
def zeroRp : Rp := ⟨0, 0, 0, 0, 0, 0, 0, 0, 0⟩
def cnt0 (n : Int) : Bool := decide (0 ≤ n ∧ n ≤ 1099511627776)
def rpB (r : Rp) : Bool := decide (0 ≤ r.d ∧ r.d < 12 ∧ 1 ≤ r.i ∧ (r.m = 1 ∨ r.m = 2)) && (cnt0 r.i && (cnt0 r.b && (cnt0 r.t && (cnt0 r.p && (cnt0 r.c && (cnt0 r.s && cnt0 r.k))))))
structure RpR (r : Rp) : Prop where
  d : 0 ≤ r.d ∧ r.d < 12
  m : r.m = 1 ∨ r.m = 2
  i : 1 ≤ r.i ∧ r.i ≤ 1099511627776
  b : 0 ≤ r.b ∧ r.b ≤ 1099511627776
  t : 0 ≤ r.t ∧ r.t ≤ 1099511627776
  p : 0 ≤ r.p ∧ r.p ≤ 1099511627776
  c : 0 ≤ r.c ∧ r.c ≤ 1099511627776
  s : 0 ≤ r.s ∧ r.s ≤ 1099511627776
  k : 0 ≤ r.k ∧ r.k ≤ 1099511627776
theorem rpB_iff {r : Rp} : rpB r = true ↔ RpR r := by
  unfold rpB cnt0
  simp only [Bool.and_eq_true, decide_eq_true_iff]
  constructor
  · rintro ⟨⟨h1, h2, h3, h4⟩, h5, h6, h7, h8, h9, h10, h11⟩
    exact ⟨⟨h1, h2⟩, h4, ⟨h3, h5.2⟩, h6, h7, h8, h9, h10, h11⟩
  · rintro ⟨h1, h2, h3, h4, h5, h6, h7, h8, h9⟩
    exact ⟨⟨h1.1, h1.2, h3.1, h2⟩, ⟨by omega, h3.2⟩, h4, h5, h6, h7, h8, h9⟩
def newB (a b : Rp) : Bool := if a.i = b.i then (if a.b = b.b then decide (b.t < a.t) else decide (b.b < a.b)) else decide (b.i < a.i)
theorem newB_iff {a b : Rp} : newB a b = true ↔ b.i < a.i ∨ (a.i = b.i ∧ (b.b < a.b ∨ (a.b = b.b ∧ b.t < a.t))) := by
  unfold newB
  split
  · split
    · rw [decide_eq_true_iff]; omega
    · rw [decide_eq_true_iff]; omega
  · rw [decide_eq_true_iff]; omega
theorem newB_self (a : Rp) : newB a a = false := by
  rw [Bool.eq_false_iff]; intro h; rw [newB_iff] at h; omega
theorem newB_trans {a b c : Rp} (h : newB a b = true) (k : newB b c = true) : newB a c = true := by
  rw [newB_iff] at *; omega
theorem newB_anti {a b : Rp} (h : newB a b = true) : newB b a = false := by
  rw [Bool.eq_false_iff]; intro k; rw [newB_iff] at *; omega
theorem newB_not {a b : Rp} (h : newB a b = false) (k : newB b a = false) : a.i = b.i ∧ a.b = b.b ∧ a.t = b.t := by
  rw [Bool.eq_false_iff] at h k
  have h := mt newB_iff.2 h
  have k := mt newB_iff.2 k
  omega

/-- Merged: ahead of the first that isn't of a lesser device, or in its place. -/
def mergeR : List Rp → Rp → List Rp
  | [], r => [r]
  | x :: l, r => if x.d < r.d then x :: mergeR l r else if x.d = r.d then (if newB r x = true then r :: l else x :: l) else r :: x :: l
/-- How many are of lesser devices, at the front. -/
def cutR : List Rp → Int → Nat
  | [], _ => 0
  | x :: l, d => if x.d < d then cutR l d + 1 else 0
theorem cutR_le : ∀ (l : List Rp) (d : Int), cutR l d ≤ l.length
  | [], _ => Nat.le_refl _
  | x :: l, d => by
    unfold cutR
    split
    · rw [List.length_cons]; have := cutR_le l d; omega
    · exact Nat.zero_le _
theorem cutR_lt : ∀ (l : List Rp) (d : Int) (j : Nat) (h : j < l.length), j < cutR l d → l[j].d < d
  | [], _, j, h, _ => absurd h (Nat.not_lt_zero j)
  | x :: l, d, j, h, hc => by
    unfold cutR at hc
    split at hc
    · rename_i hx
      cases j with
      | zero => exact hx
      | succ j => exact cutR_lt l d j (by rw [List.length_cons] at h; omega) (by omega)
    · omega
theorem cutR_at : ∀ (l : List Rp) (d : Int) (h : cutR l d < l.length), ¬ l[cutR l d].d < d
  | [], _, h => absurd h (Nat.not_lt_zero _)
  | x :: l, d, h => by
    by_cases hx : x.d < d
    · have e : cutR (x :: l) d = cutR l d + 1 := if_pos hx
      simp only [e, List.getElem_cons_succ]
      exact cutR_at l d (by rw [e, List.length_cons] at h; omega)
    · have e : cutR (x :: l) d = 0 := if_neg hx
      simp only [e, List.getElem_cons_zero]
      exact hx
theorem mergeR_new : ∀ (l : List Rp) (r : Rp), (∀ h : cutR l r.d < l.length, l[cutR l r.d].d ≠ r.d) → mergeR l r = l.take (cutR l r.d) ++ [r] ++ l.drop (cutR l r.d)
  | [], r, _ => rfl
  | x :: l, r, h => by
    unfold mergeR
    by_cases hx : x.d < r.d
    · have e : cutR (x :: l) r.d = cutR l r.d + 1 := if_pos hx
      rw [if_pos hx, e, mergeR_new l r (fun h2 => by
        have := h (by rw [e, List.length_cons]; omega)
        simp only [e, List.getElem_cons_succ] at this
        exact this)]
      rfl
    · have e : cutR (x :: l) r.d = 0 := if_neg hx
      have hne : x.d ≠ r.d := by
        have := h (by rw [e, List.length_cons]; omega)
        simp only [e, List.getElem_cons_zero] at this
        exact this
      rw [if_neg hx, if_neg hne, e]; rfl
theorem mergeR_old : ∀ (l : List Rp) (r : Rp) (h : cutR l r.d < l.length), l[cutR l r.d].d = r.d → mergeR l r = if newB r l[cutR l r.d] = true then l.set (cutR l r.d) r else l
  | [], _, h, _ => absurd h (Nat.not_lt_zero _)
  | x :: l, r, h, hd => by
    unfold mergeR
    by_cases hx : x.d < r.d
    · have e : cutR (x :: l) r.d = cutR l r.d + 1 := if_pos hx
      simp only [e, List.getElem_cons_succ] at hd ⊢
      rw [if_pos hx, mergeR_old l r (by rw [e, List.length_cons] at h; omega) hd, List.set_cons_succ]
      split <;> rfl
    · have e : cutR (x :: l) r.d = 0 := if_neg hx
      simp only [e, List.getElem_cons_zero] at hd ⊢
      rw [if_neg hx, if_pos hd, List.set_cons_zero]
theorem mergeR_len (l : List Rp) (r : Rp) : (mergeR l r).length ≤ l.length + 1 := by
  induction l with
  | nil => exact Nat.le_refl _
  | cons x l ih =>
    unfold mergeR
    split
    · rw [List.length_cons, List.length_cons]; omega
    · split
      · split
        · rw [List.length_cons, List.length_cons]; omega
        · rw [List.length_cons]; omega
      · rw [List.length_cons, List.length_cons]; omega

/-- Rising devices. -/
def RisR : List Rp → Prop
  | [] => True
  | x :: l => (∀ y ∈ l, x.d < y.d) ∧ RisR l
theorem mergeR_mem : ∀ (l : List Rp) (r y : Rp), y ∈ mergeR l r → y = r ∨ y ∈ l
  | [], r, y, h => by
    have h : y ∈ [r] := h
    rw [List.mem_singleton] at h; exact Or.inl h
  | x :: l, r, y, h => by
    unfold mergeR at h
    split at h
    · rcases List.mem_cons.1 h with h | h
      · exact Or.inr (List.mem_cons.2 (Or.inl h))
      · rcases mergeR_mem l r y h with h | h
        · exact Or.inl h
        · exact Or.inr (List.mem_cons.2 (Or.inr h))
    · split at h
      · split at h
        · rcases List.mem_cons.1 h with h | h
          · exact Or.inl h
          · exact Or.inr (List.mem_cons.2 (Or.inr h))
        · exact Or.inr h
      · rcases List.mem_cons.1 h with h | h
        · exact Or.inl h
        · exact Or.inr h
theorem mergeR_ris : ∀ (l : List Rp) (r : Rp), RisR l → RisR (mergeR l r)
  | [], _, _ => ⟨(fun y h => by cases h), trivial⟩
  | x :: l, r, h => by
    unfold mergeR
    split
    · rename_i hx
      refine ⟨fun y hy => ?_, mergeR_ris l r h.2⟩
      rcases mergeR_mem l r y hy with rfl | hy
      · exact hx
      · exact h.1 y hy
    · rename_i hx
      split
      · rename_i he
        split
        · exact ⟨fun y hy => by rw [← he]; exact h.1 y hy, h.2⟩
        · exact h
      · rename_i he
        refine ⟨fun y hy => ?_, h⟩
        rcases List.mem_cons.1 hy with rfl | hy
        · omega
        · have := h.1 y hy; omega
/-- For each that was there, and for r, there is one that is as new. -/
theorem mergeR_has : ∀ (l : List Rp) (r x : Rp), (∀ y ∈ l, y.d = r.d → newB r y = true ∨ newB y r = true) → (x = r ∨ x ∈ l) → ∃ y ∈ mergeR l r, y.d = x.d ∧ (y = x ∨ newB y x = true)
  | [], r, x, _, h => by
    rcases h with rfl | h
    · exact ⟨x, List.mem_singleton.2 rfl, rfl, Or.inl rfl⟩
    · cases h
  | z :: l, r, x, hc, h => by
    unfold mergeR
    split
    · rcases h with h | h
      · obtain ⟨y, hy, h1, h2⟩ := mergeR_has l r x (fun y hy => hc y (List.mem_cons.2 (Or.inr hy))) (Or.inl h)
        exact ⟨y, List.mem_cons.2 (Or.inr hy), h1, h2⟩
      · rcases List.mem_cons.1 h with rfl | h
        · exact ⟨x, List.mem_cons.2 (Or.inl rfl), rfl, Or.inl rfl⟩
        · obtain ⟨y, hy, h1, h2⟩ := mergeR_has l r x (fun y hy => hc y (List.mem_cons.2 (Or.inr hy))) (Or.inr h)
          exact ⟨y, List.mem_cons.2 (Or.inr hy), h1, h2⟩
    · split
      · rename_i he
        split
        · rename_i hn
          rcases h with rfl | h
          · exact ⟨x, List.mem_cons.2 (Or.inl rfl), rfl, Or.inl rfl⟩
          · rcases List.mem_cons.1 h with rfl | h
            · exact ⟨r, List.mem_cons.2 (Or.inl rfl), he.symm, Or.inr hn⟩
            · exact ⟨x, List.mem_cons.2 (Or.inr h), rfl, Or.inl rfl⟩
        · rename_i hn
          rcases h with rfl | h
          · refine ⟨z, List.mem_cons.2 (Or.inl rfl), he, Or.inr ?_⟩
            rcases hc z (List.mem_cons.2 (Or.inl rfl)) he with h | h
            · exact absurd h hn
            · exact h
          · exact ⟨x, h, rfl, Or.inl rfl⟩
      · rcases h with rfl | h
        · exact ⟨x, List.mem_cons.2 (Or.inl rfl), rfl, Or.inl rfl⟩
        · exact ⟨x, List.mem_cons.2 (Or.inr h), rfl, Or.inl rfl⟩
def foldR (l : List Rp) : List Rp := l.foldl mergeR []
/-- Any two of one device, at two places, differ by what makes one the newer. -/
def Apart (l : List Rp) : Prop := l.Pairwise fun x y => x.d = y.d → newB x y = true ∨ newB y x = true
structure NewestR (l a : List Rp) : Prop where
  ris : RisR a
  mem : ∀ y ∈ a, y ∈ l
  has : ∀ x ∈ l, ∃ y ∈ a, y.d = x.d ∧ (y = x ∨ newB y x = true)
theorem foldR_snoc (l : List Rp) (r : Rp) : foldR (l ++ [r]) = mergeR (foldR l) r := by
  unfold foldR; rw [List.foldl_append]; rfl
theorem foldR_newest {l : List Rp} (h : Apart l) : ∀ k, k ≤ l.length → NewestR (l.take k) (foldR (l.take k))
  | 0, _ => by rw [List.take_zero]; exact ⟨trivial, (fun y h => by cases h), fun y h => by cases h⟩
  | k + 1, hk => by
    have ih := foldR_newest h k (by omega)
    rw [List.take_succ_eq_append_getElem (by omega), foldR_snoc]
    have hap : ∀ x ∈ l.take k, x.d = l[k].d → newB x l[k] = true ∨ newB l[k] x = true := fun x hx => by
      have h2 : (l.take (k + 1)).Pairwise fun x y => x.d = y.d → newB x y = true ∨ newB y x = true := List.Pairwise.sublist (List.take_sublist _ _) h
      rw [List.take_succ_eq_append_getElem (by omega), List.pairwise_append] at h2
      exact h2.2.2 x hx l[k] (by simp)
    refine ⟨mergeR_ris _ _ ih.ris, fun y hy => ?_, fun x hx => ?_⟩
    · rcases mergeR_mem _ _ y hy with rfl | hy
      · exact List.mem_append.2 (Or.inr (List.mem_singleton.2 rfl))
      · exact List.mem_append.2 (Or.inl (ih.mem y hy))
    · have hc : ∀ y ∈ foldR (l.take k), y.d = l[k].d → newB l[k] y = true ∨ newB y l[k] = true := fun y hy hd => (hap y (ih.mem y hy) hd).symm
      rcases List.mem_append.1 hx with hx | hx
      · obtain ⟨y, hy, h1, h2⟩ := ih.has x hx
        obtain ⟨z, hz, h3, h4⟩ := mergeR_has (foldR (l.take k)) l[k] y hc (Or.inr hy)
        refine ⟨z, hz, h3.trans h1, ?_⟩
        rcases h4 with rfl | h4
        · exact h2
        · rcases h2 with rfl | h2
          · exact Or.inr h4
          · exact Or.inr (newB_trans h4 h2)
      · rw [List.mem_singleton] at hx
        subst hx
        exact mergeR_has (foldR (l.take k)) l[k] l[k] hc (Or.inl rfl)
theorem ris_ext : ∀ {a b : List Rp}, RisR a → RisR b → (∀ y, y ∈ a ↔ y ∈ b) → a = b
  | [], [], _, _, _ => rfl
  | [], y :: b, _, _, h => by have := (h y).2 (by simp); cases this
  | x :: a, [], _, _, h => by have := (h x).1 (by simp); cases this
  | x :: a, y :: b, ha, hb, h => by
    have hxy : x = y := by
      rcases List.mem_cons.1 ((h x).1 (by simp)) with e | hx
      · exact e
      · rcases List.mem_cons.1 ((h y).2 (by simp)) with e | hy
        · exact e.symm
        · have h1 := ha.1 y hy
          have h2 := hb.1 x hx
          omega
    subst hxy
    congr 1
    refine ris_ext ha.2 hb.2 fun z => ⟨fun hz => ?_, fun hz => ?_⟩
    · rcases List.mem_cons.1 ((h z).1 (List.mem_cons.2 (Or.inr hz))) with rfl | h1
      · have := ha.1 z hz; omega
      · exact h1
    · rcases List.mem_cons.1 ((h z).2 (List.mem_cons.2 (Or.inr hz))) with rfl | h1
      · have := hb.1 z hz; omega
      · exact h1
theorem newest_sub {l a b : List Rp} (ha : NewestR l a) (hb : NewestR l b) {y : Rp} (hy : y ∈ a) : y ∈ b := by
  have uniq : ∀ {a : List Rp}, RisR a → ∀ x ∈ a, ∀ y ∈ a, x.d = y.d → x = y := by
    intro a
    induction a with
    | nil => intro _ x hx; cases hx
    | cons z a ih =>
      intro h x hx y hy e
      rcases List.mem_cons.1 hx with ex | hx1
      · rcases List.mem_cons.1 hy with ey | hy1
        · rw [ex, ey]
        · have := h.1 y hy1; rw [← ex] at this; omega
      · rcases List.mem_cons.1 hy with ey | hy1
        · have := h.1 x hx1; rw [← ey] at this; omega
        · exact ih h.2 x hx1 y hy1 e
  obtain ⟨z, hz, h1, h2⟩ := hb.has y (ha.mem y hy)
  rcases h2 with rfl | h2
  · exact hz
  · obtain ⟨v, hv, h3, h4⟩ := ha.has z (hb.mem z hz)
    have e : v = y := uniq ha.ris v hv y hy (h3.trans h1)
    subst e
    rcases h4 with rfl | h4
    · exact hz
    · rw [newB_anti h2] at h4; cases h4
/-- Whatever order they come in. -/
theorem newest_one {l a b : List Rp} (ha : NewestR l a) (hb : NewestR l b) : a = b :=
  ris_ext ha.ris hb.ris fun _ => ⟨newest_sub ha hb, newest_sub hb ha⟩
theorem newest_perm {l m a : List Rp} (h : NewestR m a) (hp : ∀ y, y ∈ m ↔ y ∈ l) : NewestR l a :=
  ⟨h.ris, fun y hy => (hp y).1 (h.mem y hy), fun x hx => h.has x ((hp x).2 hx)⟩
end Go.Proofs.Ytjjjpifdmgpnjaa

/- Reports' bytes: nine numbers, one behind the other; what is read of bytes. No call in it. -/
namespace Go.Proofs.Ytjjjpifdmgpnjaa
open Go.RowKit Cod

theorem num_atR (X A Z : ByteArray) (n : Int) (p : Nat) (hX : X = A ++ (bytesOf n ++ Z)) (hp : p = A.size) (h : i64 n) : isNum X p false = some (n, p + (bytesOf n).size) := by
  subst hX hp; exact num_there A Z n h.1 h.2
theorem num_bytesR {s : ByteArray} {p : Nat} {bad : Bool} {n : Int} {q : Nat} (h : isNum s p bad = some (n, q)) : (L s).drop p = L (bytesOf n) ++ (L s).drop q := by
  obtain ⟨_, ⟨m, hr, rfl⟩, _⟩ := isNum_some h
  have h1 := (rd_some hr).1
  show s.data.toList.drop p = enc (fold n) ++ s.data.toList.drop (p + m)
  rw [← h1, ← List.drop_drop, List.take_append_drop]
def catN : List Int → ByteArray
  | [] => ⟨#[]⟩
  | n :: l => bytesOf n ++ catN l
def rpL (r : Rp) : List Int := [r.d, r.i, r.b, r.t, r.m, r.p, r.c, r.s, r.k]
def ofL (l : List Int) : Rp := ⟨l.getD 0 0, l.getD 1 0, l.getD 2 0, l.getD 3 0, l.getD 4 0, l.getD 5 0, l.getD 6 0, l.getD 7 0, l.getD 8 0⟩
theorem ofL_rpL (r : Rp) : ofL (rpL r) = r := rfl
theorem rpL_ofL {l : List Int} (h : l.length = 9) : rpL (ofL l) = l := by
  match l, h with
  | [_, _, _, _, _, _, _, _, _], _ => rfl
def rpBytes (r : Rp) : ByteArray := catN (rpL r)
theorem catN_next (l : List Int) (k : Nat) (h : k < l.length) : catN (l.take (k + 1)) = catN (l.take k) ++ bytesOf l[k] := by
  induction l generalizing k with
  | nil => exact absurd h (Nat.not_lt_zero _)
  | cons a l ih =>
    cases k with
    | zero =>
      show catN [a] = catN [] ++ bytesOf a
      apply L_inj
      show L (bytesOf a ++ ⟨#[]⟩) = L (⟨#[]⟩ ++ bytesOf a)
      rw [L_app, L_app]; simp [L]
    | succ k =>
      rw [List.length_cons] at h
      rw [List.take_succ_cons, List.take_succ_cons, catN, catN, ih k (by omega), ByteArray.append_assoc]
      rfl
theorem catN_le : ∀ l : List Int, (∀ n ∈ l, i64 n) → (catN l).size ≤ 10 * l.length
  | [], _ => Nat.zero_le _
  | n :: l, h => by
    have h1 : (bytesOf n).size ≤ 10 := by rw [bytesOf_size]; exact enc_ten _ (fold_lt n (h n (by simp)).1 (h n (by simp)).2)
    have h2 := catN_le l (fun x hx => h x (by simp [hx]))
    rw [catN, ByteArray.size_append, List.length_cons]; omega
/-- So many numbers, one behind the other. -/
def isNums (s : ByteArray) : Nat → Nat → Option (List Int × Nat)
  | 0, p => some ([], p)
  | n + 1, p => (isNum s p false).bind fun a => (isNums s n a.2).bind fun b => some (a.1 :: b.1, b.2)
theorem isNums_next (s : ByteArray) : ∀ (k p : Nat), isNums s (k + 1) p = (isNums s k p).bind fun a => (isNum s a.2 false).bind fun e => some (a.1 ++ [e.1], e.2)
  | 0, p => by
    rw [isNums, isNums, Option.bind_some]
    cases isNum s p false with
    | none => rfl
    | some a => rfl
  | k + 1, p => by
    rw [isNums]
    cases h : isNum s p false with
    | none => rw [isNums, h]; rfl
    | some a =>
      rw [Option.bind_some, isNums_next s k a.2, isNums, h, Option.bind_some]
      cases isNums s k a.2 with
      | none => rfl
      | some b =>
        simp only [Option.bind_some]
        cases isNum s b.2 false with
        | none => rfl
        | some c => rfl
theorem isNums_none (s : ByteArray) (p k : Nat) (h : isNums s k p = none) : ∀ d, isNums s (k + d) p = none
  | 0 => h
  | d + 1 => by rw [← Nat.add_assoc, isNums_next, isNums_none s p k h d]; rfl
theorem nums_there : ∀ (l : List Int) (A Z : ByteArray), (∀ n ∈ l, i64 n) → isNums (A ++ (catN l ++ Z)) l.length A.size = some (l, A.size + (catN l).size)
  | [], A, Z, _ => rfl
  | n :: l, A, Z, h => by
    rw [List.length_cons, isNums, catN]
    have h1 := num_atR (A ++ (bytesOf n ++ catN l ++ Z)) A (catN l ++ Z) n A.size (by simp only [ByteArray.append_assoc]) rfl (h n (by simp))
    rw [h1, Option.bind_some]
    have h2 := nums_there l (A ++ bytesOf n) Z (fun y hy => h y (by simp [hy]))
    rw [ByteArray.append_assoc, ByteArray.size_append] at h2
    dsimp only
    rw [show A ++ (bytesOf n ++ catN l ++ Z) = A ++ (bytesOf n ++ (catN l ++ Z)) by simp only [ByteArray.append_assoc], h2, Option.bind_some, ByteArray.size_append, Nat.add_assoc]
theorem nums_bytes : ∀ (n : Nat) (s : ByteArray) (p : Nat) (l : List Int) (q : Nat), isNums s n p = some (l, q) → l.length = n ∧ (L s).drop p = L (catN l) ++ (L s).drop q
  | 0, s, p, l, q, h => by
    injection h with h
    injection h with h1 h2
    subst h1 h2
    exact ⟨rfl, rfl⟩
  | n + 1, s, p, l, q, h => by
    rw [isNums] at h
    cases ha : isNum s p false with
    | none => rw [ha] at h; cases h
    | some a =>
      obtain ⟨e, qe⟩ := a
      rw [ha, Option.bind_some] at h
      dsimp only at h
      cases hb : isNums s n qe with
      | none => rw [hb] at h; cases h
      | some b =>
        obtain ⟨r, qr⟩ := b
        rw [hb, Option.bind_some] at h
        injection h with h
        injection h with h1 h2
        subst h1 h2
        obtain ⟨g3, g5⟩ := nums_bytes n s qe r _ hb
        exact ⟨by rw [List.length_cons, g3], by rw [num_bytesR ha, g5, catN, L_app, List.append_assoc]⟩
def isRp (s : ByteArray) (p : Nat) (bad : Bool) : Option (Rp × Nat) := if bad then none else (isNums s 9 p).bind fun a => if rpB (ofL a.1) = true then some (ofL a.1, a.2) else none
theorem rp_bytes {s : ByteArray} {p : Nat} {bad : Bool} {x : Rp} {q : Nat} (h : isRp s p bad = some (x, q)) : RpR x ∧ (L s).drop p = L (rpBytes x) ++ (L s).drop q := by
  unfold isRp at h
  cases bad
  · rw [if_neg (by decide)] at h
    cases ha : isNums s 9 p with
    | none => rw [ha] at h; cases h
    | some a =>
      obtain ⟨l, qa⟩ := a
      rw [ha, Option.bind_some] at h
      dsimp only at h
      by_cases hb : rpB (ofL l) = true
      · rw [if_pos hb] at h
        injection h with h
        injection h with h1 h2
        subst h1 h2
        obtain ⟨g1, g2⟩ := nums_bytes _ _ _ _ _ ha
        refine ⟨rpB_iff.1 hb, ?_⟩
        unfold rpBytes
        rw [rpL_ofL g1, g2]
      · rw [if_neg hb] at h; cases h
  · rw [if_pos rfl] at h; cases h
theorem RpR.i64 {r : Rp} (h : RpR r) : ∀ n ∈ rpL r, i64 n := fun n hn => by
  obtain ⟨h1, h2, h3, h4, h5, h6, h7, h8, h9⟩ := h
  unfold rpL at hn
  simp only [List.mem_cons, List.not_mem_nil, or_false] at hn
  unfold Go.Proofs.Ytjjjpifdmgpnjaa.i64
  rcases hn with rfl | rfl | rfl | rfl | rfl | rfl | rfl | rfl | rfl <;> omega
theorem rp_there (A Z : ByteArray) {x : Rp} (h : RpR x) : isRp (A ++ (rpBytes x ++ Z)) A.size false = some (x, A.size + (rpBytes x).size) := by
  have h1 := nums_there (rpL x) A Z h.i64
  unfold isRp rpBytes
  rw [if_neg (by decide), show (9 : Nat) = (rpL x).length from rfl, h1, Option.bind_some]
  dsimp only
  rw [ofL_rpL, if_pos (rpB_iff.2 h)]
theorem rp_self {x : Rp} (h : RpR x) : isRp (rpBytes x) 0 false = some (x, (rpBytes x).size) := by
  have := rp_there ⟨#[]⟩ ⟨#[]⟩ h
  have e0 : (⟨#[]⟩ : ByteArray) ++ (rpBytes x ++ ⟨#[]⟩) = rpBytes x := L_inj (by rw [L_app, L_app]; simp [L])
  rw [e0, show (⟨#[]⟩ : ByteArray).size = 0 from rfl, Nat.zero_add] at this
  exact this
theorem rp_first {s : ByteArray} {x : Rp} {q : Nat} (hq : q ≤ s.size) (h : isRp s 0 false = some (x, q)) : s.extract 0 q = rpBytes x := by
  obtain ⟨_, h3⟩ := rp_bytes h
  rw [List.drop_zero] at h3
  have hn : (L s).length = s.size := by simp [L]
  have hl := congrArg List.length h3
  rw [List.length_append, List.length_drop, hn] at hl
  apply L_inj
  have e : L (s.extract 0 q) = ((L s).drop 0).take (q - 0) := by
    unfold L
    simp [ByteArray.data_extract, List.extract_eq_take_drop]
  rw [e, List.drop_zero, Nat.sub_zero, h3, List.take_append_of_le_length (by omega), List.take_of_length_le (by omega)]
end Go.Proofs.Ytjjjpifdmgpnjaa

/- Lists of things that have bytes, whatever the things: their bytes, what is read of bytes, step by step. No call in it. -/
namespace Go.Proofs.Ytjjjpifdmgpnjaa
open Go.RowKit Cod

/-- A kind of things: which may be, their bytes, what is read of bytes. -/
structure Kd (α : Type) where
  ok : α → Bool
  b : α → ByteArray
  is : ByteArray → Nat → Bool → Option (α × Nat)
  there : ∀ (A Z : ByteArray) (x : α), ok x = true → is (A ++ (b x ++ Z)) A.size false = some (x, A.size + (b x).size)
  back : ∀ {s : ByteArray} {p : Nat} {bad : Bool} {x : α} {q : Nat}, is s p bad = some (x, q) → ok x = true ∧ (L s).drop p = L (b x) ++ (L s).drop q
namespace Kd
variable {α : Type} (K : Kd α)
def cat : List α → ByteArray
  | [] => ⟨#[]⟩
  | x :: l => K.b x ++ cat l
def isL (s : ByteArray) : Nat → Nat → Option (List α × Nat)
  | 0, p => some ([], p)
  | n + 1, p => (K.is s p false).bind fun a => (isL s n a.2).bind fun b => some (a.1 :: b.1, b.2)
theorem cat_next (l : List α) (k : Nat) (h : k < l.length) : K.cat (l.take (k + 1)) = K.cat (l.take k) ++ K.b l[k] := by
  induction l generalizing k with
  | nil => exact absurd h (Nat.not_lt_zero _)
  | cons a l ih =>
    cases k with
    | zero =>
      show K.cat [a] = K.cat [] ++ K.b a
      apply L_inj
      show L (K.b a ++ ⟨#[]⟩) = L (⟨#[]⟩ ++ K.b a)
      rw [L_app, L_app]; simp [L]
    | succ k =>
      rw [List.length_cons] at h
      rw [List.take_succ_cons, List.take_succ_cons, cat, cat, ih k (by omega), ByteArray.append_assoc]
      rfl
theorem cat_le (n : Nat) : ∀ l : List α, (∀ x ∈ l, (K.b x).size ≤ n) → (K.cat l).size ≤ n * l.length
  | [], _ => Nat.zero_le _
  | x :: l, h => by
    have h1 := h x (by simp)
    have h2 := cat_le n l (fun y hy => h y (by simp [hy]))
    rw [cat, ByteArray.size_append, List.length_cons, Nat.mul_add, Nat.mul_one]; omega
theorem isL_next (s : ByteArray) : ∀ (k p : Nat), K.isL s (k + 1) p = (K.isL s k p).bind fun a => (K.is s a.2 false).bind fun e => some (a.1 ++ [e.1], e.2)
  | 0, p => by
    rw [isL, isL, Option.bind_some]
    cases K.is s p false with
    | none => rfl
    | some a => rfl
  | k + 1, p => by
    rw [isL]
    cases h : K.is s p false with
    | none => rw [isL, h]; rfl
    | some a =>
      rw [Option.bind_some, isL_next s k a.2, isL, h, Option.bind_some]
      cases K.isL s k a.2 with
      | none => rfl
      | some b =>
        simp only [Option.bind_some]
        cases K.is s b.2 false with
        | none => rfl
        | some c => rfl
theorem isL_none (s : ByteArray) (p k : Nat) (h : K.isL s k p = none) : ∀ d, K.isL s (k + d) p = none
  | 0 => h
  | d + 1 => by rw [← Nat.add_assoc, isL_next, isL_none s p k h d]; rfl
theorem l_there : ∀ (l : List α) (A Z : ByteArray), (∀ x ∈ l, K.ok x = true) → K.isL (A ++ (K.cat l ++ Z)) l.length A.size = some (l, A.size + (K.cat l).size)
  | [], A, Z, _ => rfl
  | o :: l, A, Z, h => by
    rw [List.length_cons, isL, cat]
    have h1 := K.there A (K.cat l ++ Z) o (h o (by simp))
    rw [show A ++ (K.b o ++ K.cat l ++ Z) = A ++ (K.b o ++ (K.cat l ++ Z)) by simp only [ByteArray.append_assoc], h1, Option.bind_some]
    have h2 := l_there l (A ++ K.b o) Z (fun y hy => h y (by simp [hy]))
    rw [ByteArray.append_assoc, ByteArray.size_append] at h2
    dsimp only
    rw [h2, Option.bind_some, ByteArray.size_append, Nat.add_assoc]
theorem l_bytes : ∀ (n : Nat) (s : ByteArray) (p : Nat) (l : List α) (q : Nat), K.isL s n p = some (l, q) → l.length = n ∧ (∀ x ∈ l, K.ok x = true) ∧ (L s).drop p = L (K.cat l) ++ (L s).drop q
  | 0, s, p, l, q, h => by
    injection h with h
    injection h with h1 h2
    subst h1 h2
    exact ⟨rfl, (fun e he => by cases he), rfl⟩
  | n + 1, s, p, l, q, h => by
    rw [isL] at h
    cases ha : K.is s p false with
    | none => rw [ha] at h; cases h
    | some a =>
      obtain ⟨e, qe⟩ := a
      rw [ha, Option.bind_some] at h
      dsimp only at h
      cases hb : K.isL s n qe with
      | none => rw [hb] at h; cases h
      | some b =>
        obtain ⟨r, qr⟩ := b
        rw [hb, Option.bind_some] at h
        injection h with h
        injection h with h1 h2
        subst h1 h2
        obtain ⟨g1, g2⟩ := K.back ha
        obtain ⟨g3, g4, g5⟩ := l_bytes n s qe r _ hb
        refine ⟨by rw [List.length_cons, g3], fun y hy => ?_, ?_⟩
        · rcases List.mem_cons.1 hy with rfl | hy
          · exact g1
          · exact g4 y hy
        · rw [g2, g5, cat, L_app, List.append_assoc]
/-- How many, and the things. -/
def part (l : List α) : ByteArray := bytesOf l.length ++ K.cat l
def isPart (most : Int) (s : ByteArray) (p : Nat) (bad : Bool) : Option (List α × Nat) := (isCount s p bad most).bind fun c => K.isL s c.1.toNat c.2
theorem part_there (most : Int) (hm : most ≤ 1000) (l : List α) (A Z : ByteArray) (hl : (l.length : Int) ≤ most) (h : ∀ x ∈ l, K.ok x = true) : K.isPart most (A ++ (K.part l ++ Z)) A.size false = some (l, A.size + (K.part l).size) := by
  have h1 := num_atR (A ++ (K.part l ++ Z)) A (K.cat l ++ Z) l.length A.size (by unfold part; simp only [ByteArray.append_assoc]) rfl (by unfold i64; omega)
  have h2 : isCount (A ++ (K.part l ++ Z)) A.size false most = some ((l.length : Int), A.size + (bytesOf l.length).size) := by
    unfold isCount; rw [h1]; dsimp only; rw [if_pos (by omega)]
  unfold isPart
  rw [h2, Option.bind_some]
  have h3 := K.l_there l (A ++ bytesOf l.length) Z h
  rw [ByteArray.append_assoc, ByteArray.size_append] at h3
  rw [show A ++ (K.part l ++ Z) = A ++ (bytesOf l.length ++ (K.cat l ++ Z)) by unfold part; simp only [ByteArray.append_assoc]]
  dsimp only
  rw [show ((l.length : Int)).toNat = l.length from rfl, h3]
  unfold part
  rw [ByteArray.size_append, Nat.add_assoc]
theorem part_bytes {most : Int} {s : ByteArray} {p : Nat} {bad : Bool} {l : List α} {q : Nat} (h : K.isPart most s p bad = some (l, q)) : (l.length : Int) ≤ most ∧ (∀ x ∈ l, K.ok x = true) ∧ (L s).drop p = L (K.part l) ++ (L s).drop q := by
  unfold isPart at h
  cases hc : isCount s p bad most with
  | none => rw [hc] at h; cases h
  | some c =>
    obtain ⟨c, qc⟩ := c
    rw [hc, Option.bind_some] at h
    dsimp only at h
    obtain ⟨g1, g2, g3⟩ := K.l_bytes _ _ _ _ _ h
    obtain ⟨h1, h2, h3⟩ := isCount_some hc
    have e : c = (l.length : Int) := by omega
    subst e
    refine ⟨h3, g2, ?_⟩
    rw [num_bytesR h1, g3, part, L_app, List.append_assoc]
end Kd
theorem Kd.cat_take_le {α : Type} (K : Kd α) (l : List α) : ∀ k, (K.cat (l.take k)).size ≤ (K.cat l).size := by
  induction l with
  | nil => intro k; simp
  | cons x l ih =>
    intro k
    cases k with
    | zero => exact Nat.zero_le _
    | succ k => rw [List.take_succ_cons, Kd.cat, Kd.cat, ByteArray.size_append, ByteArray.size_append]; have := ih k; omega
theorem Kd.item_le {α : Type} (K : Kd α) (l : List α) (k : Nat) (h : k < l.length) : (K.cat (l.take k)).size + (K.b l[k]).size ≤ (K.cat l).size := by
  have h1 := K.cat_take_le l (k + 1)
  rw [K.cat_next l k h, ByteArray.size_append] at h1
  exact h1
def tStepF (most : Int) (s : ByteArray) (p : Nat) (bad : Bool) (v : ByteArray) (q : Nat) (bad' : Bool) : Prop := (isText s p bad most = some (v, q) ∧ bad' = false) ∨ (isText s p bad most = none ∧ v = ⟨#[]⟩ ∧ bad' = true)
def cStepF (most : Int) (s : ByteArray) (p : Nat) (bad : Bool) (v : Nat) (q : Nat) (bad' : Bool) : Prop := (isCount s p bad most = some ((v : Int), q) ∧ bad' = false) ∨ (isCount s p bad most = none ∧ v = 0 ∧ bad' = true)
theorem isCount_badF (s : ByteArray) (p : Nat) (m : Int) : isCount s p true m = none := rfl
/-- A list that is read: there, or it went wrong. -/
def pStep {α : Type} (K : Kd α) (most : Int) (s : ByteArray) (p : Nat) (bad : Bool) (l : List α) (q : Nat) (bd : Bool) : Prop := (K.isPart most s p bad = some (l, q) ∧ bd = false) ∨ (K.isPart most s p bad = none ∧ bd = true)
/-- Behind some of n. -/
def pAt {α : Type} (K : Kd α) (most : Int) (s : ByteArray) (p : Nat) (bad : Bool) (n : Nat) (l : List α) (q : Nat) (bd : Bool) : Prop := (bd = false ∧ ∃ qc, isCount s p bad most = some ((n : Int), qc) ∧ K.isL s l.length qc = some (l, q)) ∨ (bd = true ∧ K.isPart most s p bad = none)
section
variable {α : Type} {K : Kd α} {most : Int} {s : ByteArray} {p : Nat} {bad : Bool} {n : Nat} {l : List α} {q : Nat} {bd : Bool}
theorem pAt.start (h : cStepF most s p bad n q bd) : pAt K most s p bad n [] q bd := by
  rcases h with ⟨h, rfl⟩ | ⟨h, _, rfl⟩
  · exact Or.inl ⟨rfl, q, h, rfl⟩
  · refine Or.inr ⟨rfl, ?_⟩
    unfold Kd.isPart; rw [h]; rfl
theorem pAt.next {x : α} {q' : Nat} {b' : Bool} (h : pAt K most s p bad n l q false) (hj : l.length < n) (hx : (K.is s q false = some (x, q') ∧ b' = false) ∨ (K.is s q false = none ∧ b' = true)) : pAt K most s p bad n (l ++ [x]) q' b' := by
  rcases h with ⟨_, qc, h1, h2⟩ | ⟨h, _⟩
  · rcases hx with ⟨hx, rfl⟩ | ⟨hx, rfl⟩
    · refine Or.inl ⟨rfl, qc, h1, ?_⟩
      rw [List.length_append, List.length_singleton, K.isL_next, h2, Option.bind_some, hx, Option.bind_some]
    · refine Or.inr ⟨rfl, ?_⟩
      have h4 : K.isL s (l.length + 1) qc = none := by rw [K.isL_next, h2, Option.bind_some, hx]; rfl
      have h5 := K.isL_none s qc (l.length + 1) h4 (n - (l.length + 1))
      rw [show l.length + 1 + (n - (l.length + 1)) = n by omega] at h5
      unfold Kd.isPart
      rw [h1, Option.bind_some]
      exact h5
  · cases h
theorem pAt.good (h : pAt K most s p bad n l q false) (hj : ¬ l.length < n) (hl : l.length ≤ n) : pStep K most s p bad l q false := by
  rcases h with ⟨_, qc, h1, h2⟩ | ⟨h, _⟩
  · obtain rfl : l.length = n := by omega
    refine Or.inl ⟨?_, rfl⟩
    unfold Kd.isPart
    rw [h1, Option.bind_some]
    exact h2
  · cases h
theorem pAt.ill (h : pAt K most s p bad n l q true) : pStep K most s p bad l q true := by
  rcases h with ⟨h, _⟩ | ⟨_, h⟩
  · cases h
  · exact Or.inr ⟨h, rfl⟩
end
end Go.Proofs.Ytjjjpifdmgpnjaa

/- Members as values: which may be, where a device is, minima, who is overdue, their bytes. No call in it. -/
namespace Go.Proofs.Ytjjjpifdmgpnjaa
open Go.RowKit Cod

structure Mb where
  d : Int
  i : Int
  w : Bool
  n : Int
  l : Int
  o : Int
  r : Rp
  f : ByteArray
def zeroMb : Mb := ⟨0, 0, false, 0, 0, 0, zeroRp, ⟨#[]⟩⟩
/-- May a member be, whatever stands ahead of it? -/
def mbB (m : Mb) : Bool := decide (0 ≤ m.d ∧ m.d < 12 ∧ 1 ≤ m.i ∧ m.i ≤ 1099511627776 ∧ 0 ≤ m.n ∧ m.n ≤ 1099511627776 ∧ 0 ≤ m.l ∧ m.l ≤ 1099511627776 ∧ 0 ≤ m.o ∧ m.o ≤ 1099511627776 ∧ m.r.d = m.d ∧ m.f.size ≤ 65536) && rpB m.r
structure MbR (m : Mb) : Prop where
  d : 0 ≤ m.d ∧ m.d < 12
  i : 1 ≤ m.i ∧ m.i ≤ 1099511627776
  n : 0 ≤ m.n ∧ m.n ≤ 1099511627776
  l : 0 ≤ m.l ∧ m.l ≤ 1099511627776
  o : 0 ≤ m.o ∧ m.o ≤ 1099511627776
  rd : m.r.d = m.d
  f : m.f.size ≤ 65536
  r : RpR m.r
theorem mbB_iff {m : Mb} : mbB m = true ↔ MbR m := by
  unfold mbB
  simp only [Bool.and_eq_true, decide_eq_true_iff, rpB_iff]
  constructor
  · rintro ⟨⟨h1, h2, h3, h4, h5, h6, h7, h8, h9, h10, h11, h12⟩, h13⟩
    exact ⟨⟨h1, h2⟩, ⟨h3, h4⟩, ⟨h5, h6⟩, ⟨h7, h8⟩, ⟨h9, h10⟩, h11, h12, h13⟩
  · rintro ⟨⟨h1, h2⟩, ⟨h3, h4⟩, ⟨h5, h6⟩, ⟨h7, h8⟩, ⟨h9, h10⟩, h11, h12, h13⟩
    exact ⟨⟨h1, h2, h3, h4, h5, h6, h7, h8, h9, h10, h11, h12⟩, h13⟩
def risM : List Mb → Bool
  | x :: y :: l => decide (x.d < y.d) && risM (y :: l)
  | _ => true
theorem risM_iff : ∀ l : List Mb, risM l = true ↔ ∀ j (h : j + 1 < l.length), l[j].d < l[j + 1].d
  | [] => ⟨fun _ j h => absurd h (Nat.not_lt_zero _), fun _ => rfl⟩
  | [x] => ⟨fun _ j h => absurd h (by simp), fun _ => rfl⟩
  | x :: y :: l => by
    rw [risM, Bool.and_eq_true, decide_eq_true_iff, risM_iff (y :: l)]
    constructor
    · rintro ⟨h1, h2⟩ j h
      cases j with
      | zero => exact h1
      | succ j => exact h2 j (by simp only [List.length_cons] at h ⊢; omega)
    · intro h
      exact ⟨h 0 (by simp), fun j hj => h (j + 1) (by simp only [List.length_cons] at hj ⊢; omega)⟩
def mbsB (l : List Mb) : Bool := l.all mbB && (risM l && decide (l.length ≤ 8))
/-- The first k may be. -/
def goodM (l : List Mb) (k : Nat) : Prop := ∀ j (h : j < l.length), j < k → mbB l[j] = true ∧ (0 < j → (l.getD (j - 1) zeroMb).d < l[j].d)
theorem goodM_all {l : List Mb} (h : goodM l l.length) (h8 : l.length ≤ 8) : mbsB l = true := by
  unfold mbsB
  rw [Bool.and_eq_true, Bool.and_eq_true, decide_eq_true_iff, List.all_eq_true, risM_iff]
  refine ⟨fun x hx => ?_, fun j hj => ?_, h8⟩
  · obtain ⟨j, hj, rfl⟩ := List.getElem_of_mem hx
    exact (h j hj hj).1
  · have := (h (j + 1) hj hj).2 (Nat.succ_pos _)
    rw [Nat.add_sub_cancel, List.getD_eq_getElem?_getD, List.getElem?_eq_getElem (by omega)] at this
    exact this
theorem goodM_of {l : List Mb} (h : mbsB l = true) (k : Nat) : goodM l k := fun j hj _ => by
  unfold mbsB at h
  rw [Bool.and_eq_true, Bool.and_eq_true, decide_eq_true_iff, List.all_eq_true, risM_iff] at h
  refine ⟨h.1 _ (List.getElem_mem _), fun h0 => ?_⟩
  have := h.2.1 (j - 1) (by omega)
  rw [List.getD_eq_getElem?_getD, List.getElem?_eq_getElem (by omega)]
  simp only [Nat.sub_add_cancel h0] at this
  exact this
theorem goodM_next {l : List Mb} {k : Nat} (h : goodM l k) (hk : k < l.length) (h1 : mbB l[k] = true) (h2 : 0 < k → (l.getD (k - 1) zeroMb).d < l[k].d) : goodM l (k + 1) := fun j hj hjk => by
  by_cases e : j < k
  · exact h j hj e
  · obtain rfl : j = k := by omega
    exact ⟨h1, h2⟩
theorem mbsB_out {l : List Mb} {k : Nat} (hk : k < l.length) (h : ¬ (mbB l[k] = true ∧ (0 < k → (l.getD (k - 1) zeroMb).d < l[k].d))) : mbsB l = false := by
  rw [Bool.eq_false_iff]
  intro hb
  exact h (goodM_of hb (k + 1) k hk (Nat.lt_succ_self _))
theorem mbsB_long {l : List Mb} (h : ¬ l.length ≤ 8) : mbsB l = false := by
  rw [Bool.eq_false_iff]
  intro hb
  unfold mbsB at hb
  rw [Bool.and_eq_true, Bool.and_eq_true, decide_eq_true_iff] at hb
  exact h hb.2.2

def newMb (d : Int) : Mb := ⟨d, 1, true, 0, 0, 0, ⟨d, 1, 0, 0, 1, 0, 0, 0, 0⟩, ⟨#[]⟩⟩
/-- The place of the first one of a device, or how many there are. -/
def cutM : List Mb → Int → Nat
  | [], _ => 0
  | x :: l, d => if x.d = d then 0 else cutM l d + 1
def findM (l : List Mb) (d : Int) : Int := if cutM l d < l.length then (cutM l d : Int) else -1
theorem cutM_le : ∀ (l : List Mb) (d : Int), cutM l d ≤ l.length
  | [], _ => Nat.le_refl _
  | x :: l, d => by
    rw [cutM]
    split
    · exact Nat.zero_le _
    · rw [List.length_cons]; have := cutM_le l d; omega
theorem cutM_lt : ∀ (l : List Mb) (d : Int) (j : Nat) (h : j < l.length), j < cutM l d → l[j].d ≠ d
  | x :: l, d, j, h, hj => by
    rw [cutM] at hj
    split at hj
    · exact absurd hj (Nat.not_lt_zero _)
    · rename_i hx
      cases j with
      | zero => exact hx
      | succ j => exact cutM_lt l d j (by rw [List.length_cons] at h; omega) (by omega)
theorem cutM_at : ∀ (l : List Mb) (d : Int) (h : cutM l d < l.length), l[cutM l d].d = d
  | x :: l, d, h => by
    by_cases hx : x.d = d
    · have e : cutM (x :: l) d = 0 := by rw [cutM, if_pos hx]
      simp only [e]
      exact hx
    · have e : cutM (x :: l) d = cutM l d + 1 := by rw [cutM, if_neg hx]
      have h2 : cutM l d < l.length := by rw [e, List.length_cons] at h; omega
      simp only [e]
      exact cutM_at l d h2
theorem cutM_is {l : List Mb} {d : Int} {k : Nat} (hk : k ≤ l.length) (h1 : ∀ j (h : j < l.length), j < k → l[j].d ≠ d) (h2 : ∀ h : k < l.length, l[k].d = d) : cutM l d = k := by
  have hc := cutM_le l d
  rcases Nat.lt_trichotomy (cutM l d) k with h | h | h
  · exact absurd (cutM_at l d (by omega)) (h1 _ _ h)
  · exact h
  · exact absurd (h2 (by omega)) (cutM_lt l d k (by omega) h)
def putM (l : List Mb) (m : Mb) : List Mb := l.set (cutM l m.d) m
theorem putM_len (l : List Mb) (m : Mb) : (putM l m).length = l.length := List.length_set
def stabM1 (p : Int) (m : Mb) : Int := if m.w = true then min p m.r.p else p
def stabM (l : List Mb) (pos : Int) : Int := l.foldl stabM1 pos
def cntM1 (t : Int) (m : Mb) : Int := if m.w = true then (if m.r.s = m.n then min t m.r.c else min t m.l) else t
def cntrM (l : List Mb) (clock lowest : Int) : Int := l.foldl cntM1 (min clock (lowest - 1))
def overM (heard : List Int) (now lease : Int) (m : Mb) : Bool := m.w && (decide (0 ≤ m.d ∧ m.d < heard.length) && decide (lease < now - heard.getD m.d.toNat 0))
def overdueM (l : List Mb) (heard : List Int) (now lease : Int) : List Int := (l.filter (overM heard now lease)).map Mb.d

/-- A member's bytes. -/
def mbBytes (m : Mb) : ByteArray := bytesOf m.d ++ bytesOf m.i ++ bitOf m.w ++ bytesOf m.n ++ bytesOf m.l ++ bytesOf m.o ++ rpBytes m.r ++ textOf m.f
/-- What is told of any member that is read, whatever it is. -/
structure MbW (m : Mb) : Prop where
  d : i64 m.d
  i : i64 m.i
  n : i64 m.n
  l : i64 m.l
  o : i64 m.o
  r : ∀ n ∈ rpL m.r, i64 n
  f : m.f.size ≤ 1000000
def in64 (n : Int) : Bool := decide (-9223372036854775808 ≤ n ∧ n ≤ 9223372036854775807)
theorem in64_iff {n : Int} : in64 n = true ↔ i64 n := by unfold in64 i64; exact decide_eq_true_iff
/-- What a member that is read is, whatever the others are. -/
def mbRaw (m : Mb) : Bool := in64 m.d && (in64 m.i && (in64 m.n && (in64 m.l && (in64 m.o && (decide (m.f.size ≤ 65536) && rpB m.r)))))
theorem mbRaw_iff {m : Mb} : mbRaw m = true ↔ i64 m.d ∧ i64 m.i ∧ i64 m.n ∧ i64 m.l ∧ i64 m.o ∧ m.f.size ≤ 65536 ∧ RpR m.r := by
  unfold mbRaw
  simp only [Bool.and_eq_true, in64_iff, decide_eq_true_iff, rpB_iff]
theorem mbRaw_of {m : Mb} (h : MbR m) : mbRaw m = true := mbRaw_iff.2 ⟨by have := h.d; unfold i64; omega, by have := h.i; unfold i64; omega, by have := h.n; unfold i64; omega, by have := h.l; unfold i64; omega, by have := h.o; unfold i64; omega, h.f, h.r⟩
def isMb (s : ByteArray) (p : Nat) (bad : Bool) : Option (Mb × Nat) :=
  (isNum s p bad).bind fun a => (isNum s a.2 false).bind fun b => (isBool s b.2 false).bind fun c => (isNum s c.2 false).bind fun d => (isNum s d.2 false).bind fun e => (isNum s e.2 false).bind fun g => (isRp s g.2 false).bind fun h => (isText s h.2 false 65536).bind fun k =>
    some (⟨a.1, b.1, c.1, d.1, e.1, g.1, h.1, k.1⟩, k.2)
theorem mb_there (A Z : ByteArray) (m : Mb) (h : mbRaw m = true) : isMb (A ++ (mbBytes m ++ Z)) A.size false = some (m, A.size + (mbBytes m).size) := by
  obtain ⟨g1, g2, g3, g4, g5, g6, g7⟩ := mbRaw_iff.1 h
  obtain ⟨d, i, w, n, l, o, r, f⟩ := m
  dsimp only at g1 g2 g3 g4 g5 g6 g7
  obtain ⟨X, hX⟩ : ∃ X, A ++ (mbBytes ⟨d, i, w, n, l, o, r, f⟩ ++ Z) = X := ⟨_, rfl⟩
  have h1 := num_atR X A (bytesOf i ++ (bitOf w ++ (bytesOf n ++ (bytesOf l ++ (bytesOf o ++ (rpBytes r ++ (textOf f ++ Z))))))) d A.size (by rw [← hX]; unfold mbBytes; simp only [ByteArray.append_assoc]) rfl g1
  have h2 := num_atR X (A ++ bytesOf d) (bitOf w ++ (bytesOf n ++ (bytesOf l ++ (bytesOf o ++ (rpBytes r ++ (textOf f ++ Z)))))) i (A.size + (bytesOf d).size) (by rw [← hX]; unfold mbBytes; simp only [ByteArray.append_assoc]) (by rw [ByteArray.size_append]) g2
  have h3 := bool_there (A ++ bytesOf d ++ bytesOf i) (bytesOf n ++ (bytesOf l ++ (bytesOf o ++ (rpBytes r ++ (textOf f ++ Z))))) w
  rw [show A ++ bytesOf d ++ bytesOf i ++ (bitOf w ++ (bytesOf n ++ (bytesOf l ++ (bytesOf o ++ (rpBytes r ++ (textOf f ++ Z)))))) = X by rw [← hX]; unfold mbBytes; simp only [ByteArray.append_assoc], ByteArray.size_append, ByteArray.size_append] at h3
  have h4 := num_atR X (A ++ bytesOf d ++ bytesOf i ++ bitOf w) (bytesOf l ++ (bytesOf o ++ (rpBytes r ++ (textOf f ++ Z)))) n (A.size + (bytesOf d).size + (bytesOf i).size + (bitOf w).size) (by rw [← hX]; unfold mbBytes; simp only [ByteArray.append_assoc]) (by simp only [ByteArray.size_append]) g3
  have h5 := num_atR X (A ++ bytesOf d ++ bytesOf i ++ bitOf w ++ bytesOf n) (bytesOf o ++ (rpBytes r ++ (textOf f ++ Z))) l (A.size + (bytesOf d).size + (bytesOf i).size + (bitOf w).size + (bytesOf n).size) (by rw [← hX]; unfold mbBytes; simp only [ByteArray.append_assoc]) (by simp only [ByteArray.size_append]) g4
  have h6 := num_atR X (A ++ bytesOf d ++ bytesOf i ++ bitOf w ++ bytesOf n ++ bytesOf l) (rpBytes r ++ (textOf f ++ Z)) o (A.size + (bytesOf d).size + (bytesOf i).size + (bitOf w).size + (bytesOf n).size + (bytesOf l).size) (by rw [← hX]; unfold mbBytes; simp only [ByteArray.append_assoc]) (by simp only [ByteArray.size_append]) g5
  have h7 := rp_there (A ++ bytesOf d ++ bytesOf i ++ bitOf w ++ bytesOf n ++ bytesOf l ++ bytesOf o) (textOf f ++ Z) g7
  rw [show A ++ bytesOf d ++ bytesOf i ++ bitOf w ++ bytesOf n ++ bytesOf l ++ bytesOf o ++ (rpBytes r ++ (textOf f ++ Z)) = X by rw [← hX]; unfold mbBytes; simp only [ByteArray.append_assoc]] at h7
  have h8 := text_there (A ++ bytesOf d ++ bytesOf i ++ bitOf w ++ bytesOf n ++ bytesOf l ++ bytesOf o ++ rpBytes r) f Z 65536 (by omega) (by omega)
  rw [show A ++ bytesOf d ++ bytesOf i ++ bitOf w ++ bytesOf n ++ bytesOf l ++ bytesOf o ++ rpBytes r ++ (textOf f ++ Z) = X by rw [← hX]; unfold mbBytes; simp only [ByteArray.append_assoc]] at h8
  simp only [ByteArray.size_append] at h7 h8
  rw [hX]
  unfold isMb
  rw [h1, Option.bind_some]
  dsimp only
  rw [h2, Option.bind_some]
  dsimp only
  rw [h3, Option.bind_some]
  dsimp only
  rw [h4, Option.bind_some]
  dsimp only
  rw [h5, Option.bind_some]
  dsimp only
  rw [h6, Option.bind_some]
  dsimp only
  rw [h7, Option.bind_some]
  dsimp only
  rw [h8, Option.bind_some]
  dsimp only
  unfold mbBytes
  simp only [ByteArray.size_append, Nat.add_assoc]
theorem bool_bytesD {s : ByteArray} {p : Nat} {bad : Bool} {v : Bool} {q : Nat} (h : isBool s p bad = some (v, q)) : (L s).drop p = L (bitOf v) ++ (L s).drop q := by
  obtain ⟨n, h1, ⟨rfl, rfl⟩ | ⟨rfl, rfl⟩⟩ := isBool_some h
  · exact num_bytesR (isCount_some h1).1
  · exact num_bytesR (isCount_some h1).1
theorem text_bytesD {s : ByteArray} {p : Nat} {bad : Bool} {m : Int} {t : ByteArray} {q : Nat} (h : isText s p bad m = some (t, q)) : (L s).drop p = L (textOf t) ++ (L s).drop q ∧ (t.size : Int) ≤ m := by
  obtain ⟨n, q0, h1, h2, rfl, rfl⟩ := isText_some h
  have hz : (s.extract q0 (q0 + n)).size = n := by rw [ByteArray.size_extract]; omega
  refine ⟨?_, by rw [hz]; exact (isCount_some h1).2.2⟩
  unfold textOf
  rw [num_bytesR (isCount_some h1).1, L_app, hz, List.append_assoc]
  congr 1
  have e : L (s.extract q0 (q0 + n)) = ((L s).drop q0).take n := by
    unfold L
    simp [ByteArray.data_extract, List.extract_eq_take_drop]
  rw [e, ← List.drop_drop, List.take_append_drop]
theorem isMb_some {s : ByteArray} {p : Nat} {bad : Bool} {m : Mb} {q : Nat} (h : isMb s p bad = some (m, q)) : ∃ q1 q2 q3 q4 q5 q6 q7, isNum s p bad = some (m.d, q1) ∧ isNum s q1 false = some (m.i, q2) ∧ isBool s q2 false = some (m.w, q3) ∧ isNum s q3 false = some (m.n, q4) ∧ isNum s q4 false = some (m.l, q5) ∧ isNum s q5 false = some (m.o, q6) ∧ isRp s q6 false = some (m.r, q7) ∧ isText s q7 false 65536 = some (m.f, q) := by
  unfold isMb at h
  simp only [Option.bind_eq_some_iff] at h
  obtain ⟨a, ha, b, hb, c, hc, d, hd, e, he, g, hg, r, hr, k, hk, h⟩ := h
  injection h with h
  injection h with h1 h2
  subst h1 h2
  exact ⟨_, _, _, _, _, _, _, ha, hb, hc, hd, he, hg, hr, hk⟩
theorem mb_bytes {s : ByteArray} {p : Nat} {bad : Bool} {m : Mb} {q : Nat} (h : isMb s p bad = some (m, q)) : mbRaw m = true ∧ (L s).drop p = L (mbBytes m) ++ (L s).drop q := by
  obtain ⟨q1, q2, q3, q4, q5, q6, q7, h1, h2, h3, h4, h5, h6, h7, h8⟩ := isMb_some h
  obtain ⟨g8, k8⟩ := text_bytesD h8
  refine ⟨mbRaw_iff.2 ⟨(isNum_some h1).2.2.2.2, (isNum_some h2).2.2.2.2, (isNum_some h4).2.2.2.2, (isNum_some h5).2.2.2.2, (isNum_some h6).2.2.2.2, by omega, (rp_bytes h7).1⟩, ?_⟩
  rw [num_bytesR h1, num_bytesR h2, bool_bytesD h3, num_bytesR h4, num_bytesR h5, num_bytesR h6, (rp_bytes h7).2, g8]
  unfold mbBytes
  simp only [L_app, List.append_assoc]
def mbK : Kd Mb where
  ok := mbRaw
  b := mbBytes
  is := isMb
  there := mb_there
  back h := mb_bytes h
def isMbs (s : ByteArray) (p : Nat) (bad : Bool) : Option (List Mb × Nat) := (mbK.isPart 8 s p bad).bind fun a => if mbsB a.1 = true then some a else none
theorem mbs_there (A Z : ByteArray) {l : List Mb} (h : mbsB l = true) : isMbs (A ++ (mbK.part l ++ Z)) A.size false = some (l, A.size + (mbK.part l).size) := by
  have h0 := h
  unfold mbsB at h0
  rw [Bool.and_eq_true, Bool.and_eq_true, decide_eq_true_iff, List.all_eq_true] at h0
  have h1 := mbK.part_there 8 (by decide) l A Z (by omega) (fun x hx => mbRaw_of (mbB_iff.1 (h0.1 x hx)))
  unfold isMbs
  rw [h1, Option.bind_some, if_pos h]
end Go.Proofs.Ytjjjpifdmgpnjaa

/- Trees as lists of places: where a node stands, who is above whom. No program in it. -/
namespace Tre

structure Pl where
  n : Int
  u : Int
  s : ByteArray
def zero : Pl := ⟨0, 0, ⟨#[]⟩⟩
instance : Inhabited Pl := ⟨zero⟩

/-- How many stand ahead of node b. -/
def idx (l : List Pl) (b : Int) : Nat := (l.takeWhile fun p => decide (p.n < b)).length
def Sorted (l : List Pl) : Prop := ∀ i j (hi : i < l.length) (hj : j < l.length), i < j → l[i].n < l[j].n

theorem idx_nil (b : Int) : idx [] b = 0 := rfl
theorem idx_cons_lt {p : Pl} {l : List Pl} {b : Int} (h : p.n < b) : idx (p :: l) b = idx l b + 1 := by
  unfold idx; rw [List.takeWhile_cons_of_pos (by simpa using h)]; rfl
theorem idx_cons_ge {p : Pl} {l : List Pl} {b : Int} (h : ¬ p.n < b) : idx (p :: l) b = 0 := by
  unfold idx; rw [List.takeWhile_cons_of_neg (by simpa using h)]; rfl
theorem idx_le (l : List Pl) (b : Int) : idx l b ≤ l.length := by
  induction l with
  | nil => exact Nat.le_refl _
  | cons p l ih =>
    by_cases h : p.n < b
    · rw [idx_cons_lt h]; simpa using ih
    · rw [idx_cons_ge h]; exact Nat.zero_le _
theorem idx_before : ∀ (l : List Pl) (b : Int) (i : Nat) (h : i < l.length), i < idx l b → l[i].n < b
  | p :: l, b, i, h, hi => by
    by_cases hp : p.n < b
    · rw [idx_cons_lt hp] at hi
      cases i with
      | zero => exact hp
      | succ i => exact idx_before l b i (by simpa using h) (by omega)
    · rw [idx_cons_ge hp] at hi; omega
theorem idx_at : ∀ (l : List Pl) (b : Int) (h : idx l b < l.length), b ≤ l[idx l b].n
  | p :: l, b, h => by
    by_cases hp : p.n < b
    · have e := idx_cons_lt (l := l) hp
      simp only [e, List.getElem_cons_succ]
      exact idx_at l b (by rw [e] at h; simpa using h)
    · have e := idx_cons_ge (l := l) hp
      simp only [e, List.getElem_cons_zero]; omega
/-- Where all ahead are below b, and all from there on aren't. -/
theorem idx_eq {l : List Pl} {b : Int} {k : Nat} (hk : k ≤ l.length) (h1 : ∀ i (h : i < l.length), i < k → l[i].n < b) (h2 : ∀ (h : k < l.length), b ≤ l[k].n) : k = idx l b := by
  rcases Nat.lt_trichotomy k (idx l b) with h | h | h
  · have hl : k < l.length := Nat.lt_of_lt_of_le h (idx_le l b)
    have := idx_before l b k hl h
    have := h2 hl
    omega
  · exact h
  · have hl : idx l b < l.length := Nat.lt_of_lt_of_le h hk
    have := h1 _ hl h
    have := idx_at l b hl
    omega
theorem idx_self {l : List Pl} (hs : Sorted l) (i : Nat) (h : i < l.length) : idx l l[i].n = i :=
  (idx_eq (Nat.le_of_lt h) (fun j hj hji => hs j i hj h hji) (fun _ => by omega)).symm

/-- A node's place. -/
def get (l : List Pl) (b : Int) : Option Pl := (l[idx l b]?).bind fun p => if p.n = b then some p else none
theorem get_some {l : List Pl} {b : Int} {p : Pl} (h : get l b = some p) : p ∈ l ∧ p.n = b ∧ ∃ h : idx l b < l.length, l[idx l b] = p := by
  unfold get at h
  rw [Option.bind_eq_some_iff] at h
  obtain ⟨q, h1, h2⟩ := h
  by_cases e : q.n = b
  · rw [if_pos e] at h2; cases h2
    obtain ⟨hl, he⟩ := List.getElem?_eq_some_iff.1 h1
    exact ⟨List.mem_of_getElem? h1, e, hl, he⟩
  · rw [if_neg e] at h2; cases h2
theorem get_of {l : List Pl} {b : Int} (h : idx l b < l.length) (e : l[idx l b].n = b) : get l b = some l[idx l b] := by
  unfold get; rw [List.getElem?_eq_getElem h, Option.bind_some, if_pos e]
theorem get_none_end {l : List Pl} {b : Int} (h : ¬ idx l b < l.length) : get l b = none := by
  unfold get; rw [List.getElem?_eq_none (by omega)]; rfl
theorem get_none_other {l : List Pl} {b : Int} (h : idx l b < l.length) (e : ¬ l[idx l b].n = b) : get l b = none := by
  unfold get; rw [List.getElem?_eq_getElem h, Option.bind_some, if_neg e]
theorem get_self {l : List Pl} (hs : Sorted l) (i : Nat) (h : i < l.length) : get l l[i].n = some l[i] := by
  have e := idx_self hs i h
  unfold get; rw [e, List.getElem?_eq_getElem h, Option.bind_some, if_pos rfl]

/-- k steps up. -/
def up (l : List Pl) : Nat → Int → Option Int
  | 0, b => some b
  | k + 1, b => (get l b).bind fun p => up l k p.u
theorem up_add (l : List Pl) : ∀ (m k : Nat) (b : Int), up l (m + k) b = (up l m b).bind (up l k)
  | 0, k, b => by rw [Nat.zero_add]; rfl
  | m + 1, k, b => by
    rw [Nat.succ_add]
    show (get l b).bind (fun p => up l (m + k) p.u) = ((get l b).bind fun p => up l m p.u).bind (up l k)
    rw [Option.bind_assoc]
    congr 1; funext p; exact up_add l m k p.u
/-- At or above, by so many looks. -/
def abv (l : List Pl) : Nat → Int → Int → Bool
  | 0, _, _ => false
  | f + 1, a, b => if a = b then true else match get l b with
    | none => false
    | some p => abv l f a p.u
theorem abv_iff (l : List Pl) (a : Int) : ∀ (f : Nat) (b : Int), abv l f a b = true ↔ ∃ k, k < f ∧ up l k b = some a
  | 0, b => by
    constructor
    · intro h; cases h
    · rintro ⟨k, h, _⟩; omega
  | f + 1, b => by
    unfold abv
    by_cases e : a = b
    · rw [if_pos e]
      exact ⟨fun _ => ⟨0, by omega, by rw [e]; rfl⟩, fun _ => rfl⟩
    · rw [if_neg e]
      rcases hg : get l b with _ | p
      · constructor
        · intro h; cases h
        · rintro ⟨k, hk, hu⟩
          cases k with
          | zero => exact absurd (Option.some.inj hu).symm e
          | succ k => rw [up, hg] at hu; cases hu
      · constructor
        · intro h
          obtain ⟨k, hk, hu⟩ := (abv_iff l a f p.u).1 h
          exact ⟨k + 1, by omega, by rw [up, hg]; exact hu⟩
        · rintro ⟨k, hk, hu⟩
          cases k with
          | zero => exact absurd (Option.some.inj hu).symm e
          | succ k =>
            rw [up, hg] at hu
            exact (abv_iff l a f p.u).2 ⟨k, by omega, hu⟩
def above (l : List Pl) (a b : Int) : Bool := abv l (l.length + 1) a b
/-- No place is at or above its own Up. -/
def NoRing (l : List Pl) : Prop := ∀ p ∈ l, above l p.n p.u = false

theorem pigeon {α : Type} [DecidableEq α] : ∀ (l m : List α), l.Nodup → (∀ x ∈ l, x ∈ m) → l.length ≤ m.length
  | [], _, _, _ => Nat.zero_le _
  | x :: l, m, hn, hs => by
    have hx : x ∈ m := hs x (by simp)
    have hn' := List.nodup_cons.1 hn
    have h := pigeon l (m.erase x) hn'.2 (fun y hy => by
      have hne : y ≠ x := fun e => hn'.1 (e ▸ hy)
      exact (List.mem_erase_of_ne hne).2 (hs y (by simp [hy])))
    rw [List.length_erase_of_mem hx] at h
    have : 0 < m.length := List.length_pos_of_mem hx
    simp only [List.length_cons]; omega

/-- A way up has no more steps than there are places. -/
theorem up_bound {l : List Pl} (hr : NoRing l) {k : Nat} {a b : Int} (h : up l k b = some a) : k ≤ l.length := by
  rcases Nat.lt_or_ge l.length k with hlt | hge
  · exfalso
    -- every step up to k stands
    have stand : ∀ i, i ≤ k → ∃ x, up l i b = some x := fun i hi => by
      have e : k = i + (k - i) := by omega
      rw [e, up_add] at h
      rcases hx : up l i b with _ | x
      · rw [hx] at h; cases h
      · exact ⟨x, rfl⟩
    have place : ∀ i x, i < k → up l i b = some x → ∃ p, get l x = some p ∧ up l (i + 1) b = some p.u := fun i x hi hx => by
      obtain ⟨y, hy⟩ := stand (i + 1) hi
      have hy' := hy
      rw [up_add, hx, Option.bind_some] at hy'
      rcases hg : get l x with _ | p
      · rw [up, hg] at hy'; cases hy'
      · rw [up, hg] at hy'
        exact ⟨p, rfl, by rw [hy]; exact hy'.symm⟩
    let s : Nat → Int := fun i => (up l i b).getD 0
    have hs : ∀ i, i ≤ k → up l i b = some (s i) := fun i hi => by
      obtain ⟨x, hx⟩ := stand i hi
      show up l i b = some ((up l i b).getD 0)
      rw [hx]; rfl
    have unlike : ∀ i j, i < j → j ≤ l.length → s i ≠ s j := fun i j hij hj e => by
      have hi := hs i (by omega)
      have hj' := hs j (by omega)
      obtain ⟨p, hp, hu⟩ := place i _ (by omega) hi
      have hj2 := hj'
      rw [show j = (i + 1) + (j - i - 1) by omega, up_add, hu, Option.bind_some] at hj2
      obtain ⟨hm, hn, _⟩ := get_some hp
      have hf := hr p hm
      have ht : above l p.n p.u = true := (abv_iff l p.n _ p.u).2 ⟨j - i - 1, by omega, by
        rw [hj2, hn, e]
        have : (i + 1) + (j - i - 1) = j := by omega
        rw [this]⟩
      rw [hf] at ht; cases ht
    have nd : ((List.range (l.length + 1)).map s).Nodup := by
      rw [List.nodup_iff_pairwise_ne, List.pairwise_map]
      exact List.Pairwise.imp_of_mem (fun {i j} hi hj hij => unlike i j hij (by have := List.mem_range.1 hj; omega)) List.pairwise_lt_range
    have sub : ∀ x ∈ (List.range (l.length + 1)).map s, x ∈ l.map (·.n) := fun x hx => by
      obtain ⟨i, hi, rfl⟩ := List.mem_map.1 hx
      have hi := List.mem_range.1 hi
      obtain ⟨p, hp, _⟩ := place i _ (by omega) (hs i (by omega))
      obtain ⟨hm, hn, _⟩ := get_some hp
      exact List.mem_map.2 ⟨p, hm, hn⟩
    have := pigeon _ _ nd sub
    simp at this
    omega
  · exact hge
theorem above_iff {l : List Pl} (hr : NoRing l) {a b : Int} : above l a b = true ↔ ∃ k, up l k b = some a := by
  unfold above
  rw [abv_iff]
  exact ⟨fun ⟨k, _, h⟩ => ⟨k, h⟩, fun ⟨k, h⟩ => ⟨k, by have := up_bound hr h; omega, h⟩⟩
theorem above_trans {l : List Pl} (hr : NoRing l) {a b c : Int} (h1 : above l a b = true) (h2 : above l b c = true) : above l a c = true := by
  obtain ⟨k, hk⟩ := (above_iff hr).1 h1
  obtain ⟨m, hm⟩ := (above_iff hr).1 h2
  exact (above_iff hr).2 ⟨m + k, by rw [up_add, hm, Option.bind_some, hk]⟩
theorem up_loop {l : List Pl} {k : Nat} {b : Int} (h : up l k b = some b) : ∀ m, up l (k * m) b = some b
  | 0 => rfl
  | m + 1 => by rw [Nat.mul_succ, up_add, up_loop h m, Option.bind_some, h]
theorem above_anti {l : List Pl} (hr : NoRing l) {a b : Int} (h1 : above l a b = true) (h2 : above l b a = true) : a = b := by
  obtain ⟨k, hk⟩ := (above_iff hr).1 h1
  obtain ⟨m, hm⟩ := (above_iff hr).1 h2
  have h : up l (k + m) b = some b := by rw [up_add, hk, Option.bind_some, hm]
  rcases Nat.eq_zero_or_pos (k + m) with h0 | h0
  · obtain rfl : k = 0 := by omega
    exact (Option.some.inj hk).symm
  · have := up_bound hr (up_loop h (l.length + 1))
    have : l.length + 1 ≤ (k + m) * (l.length + 1) := Nat.le_mul_of_pos_left _ h0
    omega
theorem above_self (l : List Pl) (a : Int) : above l a a = true := by unfold above abv; rw [if_pos rfl]

/-- Where what stands behind node b's place begins. -/
def behind (l : List Pl) (b : Int) : Nat := if (get l b).isSome then idx l b + 1 else idx l b
def placedL (l : List Pl) (b : Int) (m : List Pl) : List Pl := (l.take (idx l b) ++ m) ++ l.drop (behind l b)
def putL (l : List Pl) (p : Pl) : List Pl := placedL l p.n [p]
def dropL (l : List Pl) (b : Int) : List Pl := placedL l b []
end Tre

/- A place in a block, a list of places in a slice; Find of the program. -/
namespace Go.Proofs.Ytjjjpifdmgpnjaa
open Go.RowKit Tre

/-- From the cell o of block b on a place lies. -/
def AtPl (w : World) (b o : Nat) (p : Pl) : Prop :=
  w.cell? ⟨b, o, none⟩ = some (.int .i64 p.n) ∧ w.cell? ⟨b, o + 1, none⟩ = some (.int .i64 p.u) ∧ w.cell? ⟨b, o + 2, none⟩ = some (.string p.s)
theorem AtPl.below {W w : World} {b o : Nat} {p : Pl} (h : AtPl W b o p) (hb : Below W.heap.size W w) (hl : b < W.heap.size) : AtPl w b o p := by
  unfold AtPl at h ⊢
  rw [(bcell hb).1 _ _ hl, (bcell hb).1 _ _ hl, (bcell hb).1 _ _ hl]; exact h
/-- The slice at A holds these places. -/
def Tr (w : World) (A : Option Addr) (l : List Pl) : Prop :=
  0 < l.length → ∃ b off, A = some ⟨b, off, none⟩ ∧ b < w.heap.size ∧ ∀ i (h : i < l.length), AtPl w b (off + i * 3) l[i]
theorem Tr.below {W w : World} {A : Option Addr} {l : List Pl} (h : Tr W A l) (hb : Below W.heap.size W w) : Tr w A l := fun h0 => by
  obtain ⟨b, off, e, hl, hc⟩ := h h0
  exact ⟨b, off, e, Nat.lt_of_lt_of_le hl hb.size, fun i hi => (hc i hi).below hb hl⟩
theorem Tr.nil (w : World) (A : Option Addr) : Tr w A [] := fun h => by simp at h

def cmp3 (a b : Int) : Int := if a < b then -1 else if b < a then 1 else 0
end Go.Proofs.Ytjjjpifdmgpnjaa

/- Find of the document; Get and Above of both. -/
namespace Go.Proofs.Ytjjjpifdmgpnjaa
open Go.RowKit Tre

section
variable {w w' : World} {b : Nat} {p : Pl}
theorem below_setRow {W w : World} (h : Below W.heap.size W w) {n : Nat} (hn : W.heap.size ≤ n) (cs : Array Value) : Below W.heap.size W (w.setRow n cs) :=
  ⟨h.os, h.tape, h.output, by simpa [World.setRow] using h.size, fun k hk => (setRow_other w n k cs (by omega)).trans (h.block k hk)⟩
end
theorem find_end {l : List Pl} {b : Int} {i : Nat} {x : Bool} (h : i = idx l b) (k : (Tre.get l b).isSome = x) : Ending.returned (.tuple #[.int .i64 i, .bool x]) = Ending.returned (.tuple #[.int .i64 (idx l b), .bool (Tre.get l b).isSome]) := by rw [k, ← h]

theorem isSome_get {l : List Pl} {b : Int} {p : Pl} (hp : (Tre.get l b).getD zero = p) (hi : (Tre.get l b).isSome = true) : Tre.get l b = some p ∧ ∃ h : idx l b < l.length, l[idx l b] = p := by
  rcases h : Tre.get l b with _ | q
  · rw [h] at hi; cases hi
  · rw [h] at hp
    obtain rfl : q = p := hp
    exact ⟨rfl, (get_some h).2.2⟩
theorem none_get {l : List Pl} {b : Int} {p : Pl} (hp : (Tre.get l b).getD zero = p) (hi : (Tre.get l b).isSome = false) : p = zero := by
  rw [← hp]
  rcases h : Tre.get l b with _ | q
  · rfl
  · rw [h] at hi; cases hi

end Go.Proofs.Ytjjjpifdmgpnjaa

/- Names, digits and twins as lists of bytes. -/
namespace Go.Proofs.Ytjjjpifdmgpnjaa.Nam
open Go.Lib (decDigits decDigits_one)

def okB (b : UInt8) : Bool := decide (33 ≤ b.toNat ∧ b.toNat ≤ 125 ∧ b.toNat ≠ 47)
/-- Is it a name? -/
def isName (l : List UInt8) : Bool := decide (1 ≤ l.length ∧ l.length ≤ 16) && l.all okB

theorem isName_len {l : List UInt8} (h : isName l = true) : 1 ≤ l.length ∧ l.length ≤ 16 := by
  unfold isName at h; simp at h; exact h.1
theorem isName_at {l : List UInt8} (h : isName l = true) (i : Nat) (hi : i < l.length) : 33 ≤ l[i].toNat ∧ l[i].toNat ≤ 125 ∧ l[i].toNat ≠ 47 := by
  unfold isName at h
  rw [Bool.and_eq_true, List.all_eq_true] at h
  exact of_decide_eq_true (h.2 l[i] (List.getElem_mem hi))
theorem isName_short {l : List UInt8} (h : ¬ (1 ≤ l.length ∧ l.length ≤ 16)) : isName l = false := by
  unfold isName; rw [decide_eq_false h]; rfl
theorem isName_bad {l : List UInt8} (i : Nat) (hi : i < l.length) (h : ¬ (33 ≤ l[i].toNat ∧ l[i].toNat ≤ 125 ∧ l[i].toNat ≠ 47)) : isName l = false := by
  cases e : isName l
  · rfl
  · exact absurd (isName_at e i hi) h
theorem isName_of {l : List UInt8} (h1 : 1 ≤ l.length ∧ l.length ≤ 16) (h2 : ∀ b ∈ l, okB b = true) : isName l = true := by
  unfold isName; rw [decide_eq_true h1, List.all_eq_true.2 h2]; rfl

/-- Where the first mark stands, or the length. -/
def endOf : List UInt8 → Nat
  | [] => 0
  | b :: t => if b.toNat = 126 then 0 else endOf t + 1

theorem endOf_le : ∀ l, endOf l ≤ l.length
  | [] => Nat.le_refl _
  | b :: t => by
    rw [endOf]; split
    · exact Nat.zero_le _
    · have := endOf_le t; rw [List.length_cons]; omega
theorem endOf_before : ∀ (l : List UInt8) (i : Nat) (h : i < l.length), i < endOf l → l[i].toNat ≠ 126
  | [], i, h, _ => absurd h (by simp)
  | b :: t, i, h, hi => by
    rw [endOf] at hi
    by_cases hb : b.toNat = 126
    · rw [if_pos hb] at hi; omega
    · rw [if_neg hb] at hi
      cases i with
      | zero => exact hb
      | succ i => exact endOf_before t i (by simpa using h) (by omega)
theorem endOf_at : ∀ (l : List UInt8) (h : endOf l < l.length), l[endOf l].toNat = 126
  | [], h => absurd h (by simp)
  | b :: t, h => by
    by_cases hb : b.toNat = 126
    · have e : endOf (b :: t) = 0 := by rw [endOf, if_pos hb]
      simp [e, hb]
    · have e : endOf (b :: t) = endOf t + 1 := by rw [endOf, if_neg hb]
      have h2 : endOf t < t.length := by rw [e] at h; simpa using h
      have := endOf_at t h2
      simp [e, this]
theorem endOf_app : ∀ (a t : List UInt8), (∀ i (h : i < a.length), a[i].toNat ≠ 126) → endOf (a ++ (126 : UInt8) :: t) = a.length
  | [], t, _ => by
    show endOf ((126 : UInt8) :: t) = 0
    rw [endOf]; rfl
  | b :: a, t, h => by
    have hb : b.toNat ≠ 126 := h 0 (by simp)
    rw [List.cons_append, endOf, if_neg hb, endOf_app a t (fun i hi => h (i + 1) (by simpa using hi))]; rfl
theorem endOf_none : ∀ (a : List UInt8), (∀ i (h : i < a.length), a[i].toNat ≠ 126) → endOf a = a.length
  | [], _ => rfl
  | b :: a, h => by
    have hb : b.toNat ≠ 126 := h 0 (by simp)
    rw [endOf, if_neg hb, endOf_none a (fun i hi => h (i + 1) (by simpa using hi))]; rfl

def isDig (b : UInt8) : Bool := decide (48 ≤ b.toNat ∧ b.toNat ≤ 57)
/-- The number of digits. -/
def val (l : List UInt8) : Nat := l.foldl (fun n b => 10 * n + (b.toNat - 48)) 0

theorem val_snoc (l : List UInt8) (b : UInt8) : val (l ++ [b]) = 10 * val l + (b.toNat - 48) := by unfold val; simp
theorem foldl_ge : ∀ (l : List UInt8) (n : Nat), n ≤ l.foldl (fun n b => 10 * n + (b.toNat - 48)) n
  | [], n => Nat.le_refl _
  | b :: t, n => by
    rw [List.foldl_cons]
    have := foldl_ge t (10 * n + (b.toNat - 48))
    omega
theorem val_app (a b : List UInt8) : val a ≤ val (a ++ b) := by
  unfold val; rw [List.foldl_append]; exact foldl_ge b _
theorem val_take (l : List UInt8) (k : Nat) : val (l.take k) ≤ val l := by
  have h := val_app (l.take k) (l.drop k)
  rwa [List.take_append_drop] at h
theorem take_next (l : List UInt8) (k : Nat) (h : k < l.length) : l.take (k + 1) = l.take k ++ [l[k]] := by
  rw [List.take_succ_eq_append_getElem h]
theorem val_next (l : List UInt8) (k : Nat) (h : k < l.length) : val (l.take (k + 1)) = 10 * val (l.take k) + (l[k].toNat - 48) := by
  rw [take_next l k h, val_snoc]

theorem dec_dig (n : Nat) : ∀ b ∈ decDigits n, isDig b = true := by
  induction n using Nat.strongRecOn with
  | _ n ih =>
    intro b hb
    by_cases h : n < 10
    · rw [decDigits_one h] at hb
      obtain rfl := List.mem_singleton.1 hb
      unfold isDig
      rw [UInt8.toNat_ofNat']
      exact decide_eq_true (by omega)
    · rw [decDigits, dif_neg h] at hb
      rcases List.mem_append.1 hb with h1 | h1
      · exact ih (n / 10) (by omega) b h1
      · obtain rfl := List.mem_singleton.1 h1
        unfold isDig
        rw [UInt8.toNat_ofNat']
        exact decide_eq_true (by omega)
theorem val_dec (n : Nat) : val (decDigits n) = n := by
  induction n using Nat.strongRecOn with
  | _ n ih =>
    by_cases h : n < 10
    · rw [decDigits_one h]
      show 10 * 0 + ((UInt8.ofNat (48 + n)).toNat - 48) = n
      rw [UInt8.toNat_ofNat']; omega
    · rw [decDigits, dif_neg h, val_snoc, ih (n / 10) (by omega), UInt8.toNat_ofNat']; omega
theorem dec_ne (n : Nat) : 1 ≤ (decDigits n).length := by
  by_cases h : n < 10
  · rw [decDigits_one h]; simp
  · rw [decDigits, dif_neg h]; simp
theorem dec_inj {a b : Nat} (h : decDigits a = decDigits b) : a = b := by rw [← val_dec a, h, val_dec]
/-- No number but 0 begins with 0. -/
theorem dec_head (n : Nat) : 0 < n → ∀ b t, decDigits n = b :: t → b.toNat ≠ 48 := by
  induction n using Nat.strongRecOn with
  | _ n ih =>
    intro hn b t e
    by_cases h : n < 10
    · rw [decDigits_one h] at e
      obtain ⟨rfl, _⟩ := List.cons.inj e
      rw [UInt8.toNat_ofNat']; omega
    · rw [decDigits, dif_neg h] at e
      cases e1 : decDigits (n / 10) with
      | nil => have := dec_ne (n / 10); rw [e1] at this; simp at this
      | cons c u =>
        rw [e1, List.cons_append] at e
        obtain ⟨rfl, _⟩ := List.cons.inj e
        exact ih (n / 10) (by omega) (by omega) _ _ e1
theorem val_pos {b : UInt8} {t : List UInt8} (h : 48 < b.toNat) : 0 < val (b :: t) := by
  unfold val
  rw [List.foldl_cons]
  have := foldl_ge t (10 * 0 + (b.toNat - 48))
  omega
theorem dec_ten (v d : Nat) (hv : 0 < v) (hd : d < 10) : decDigits (10 * v + d) = decDigits v ++ [UInt8.ofNat (48 + d)] := by
  rw [decDigits, dif_neg (by omega), show (10 * v + d) / 10 = v by omega, show (10 * v + d) % 10 = d by omega]
theorem rev_rec {P : List UInt8 → Prop} (h0 : P []) (h1 : ∀ l b, P l → P (l ++ [b])) (l : List UInt8) : P l := by
  have key : ∀ m : List UInt8, P m.reverse := by
    intro m
    induction m with
    | nil => exact h0
    | cons b m ih => rw [List.reverse_cons]; exact h1 _ _ ih
  have := key l.reverse
  rwa [List.reverse_reverse] at this
/-- Digits without a 0 ahead are those of their number. -/
theorem dec_val (l : List UInt8) : l ≠ [] → (∀ b ∈ l, isDig b = true) → (∀ b t, l = b :: t → t ≠ [] → b.toNat ≠ 48) → decDigits (val l) = l := by
  refine rev_rec (P := fun l => l ≠ [] → (∀ b ∈ l, isDig b = true) → (∀ b t, l = b :: t → t ≠ [] → b.toNat ≠ 48) → decDigits (val l) = l) (fun h => absurd rfl h) (fun l b ih _ hd h0 => ?_) l
  have hb : 48 ≤ b.toNat ∧ b.toNat ≤ 57 := of_decide_eq_true (hd b (by simp))
  have eb : UInt8.ofNat (48 + (b.toNat - 48)) = b := by rw [show 48 + (b.toNat - 48) = b.toNat by omega, UInt8.ofNat_toNat]
  rw [val_snoc]
  cases l with
  | nil =>
    show decDigits (10 * 0 + (b.toNat - 48)) = [b]
    rw [decDigits_one (by omega), show 10 * 0 + (b.toNat - 48) = b.toNat - 48 by omega, eb]
  | cons c t =>
    have hc : c.toNat ≠ 48 := h0 c (t ++ [b]) rfl (by simp)
    have hc2 : 48 ≤ c.toNat ∧ c.toNat ≤ 57 := of_decide_eq_true (hd c (by simp))
    have hv : 0 < val (c :: t) := val_pos (by omega)
    rw [dec_ten _ _ hv (by omega), eb, ih (by simp) (fun x hx => hd x (by simp at hx ⊢; rcases hx with h | h <;> simp [h])) (fun x u e _ => by obtain ⟨rfl, _⟩ := List.cons.inj e; exact hc)]

/-- The node, below 64, whose digits a text is. -/
def node (l : List UInt8) : Option Nat := if l.all isDig = true ∧ val l < 64 ∧ decDigits (val l) = l then some (val l) else none

theorem node_some {l : List UInt8} {n : Nat} (h : node l = some n) : n < 64 ∧ decDigits n = l := by
  unfold node at h
  split at h
  · rename_i k
    obtain rfl := Option.some.inj h
    exact k.2
  · cases h
theorem node_dec {n : Nat} (h : n < 64) : node (decDigits n) = some n := by
  unfold node
  rw [if_pos ⟨List.all_eq_true.2 (dec_dig n), by rw [val_dec]; exact h, by rw [val_dec]⟩, val_dec]
theorem node_none_of {l : List UInt8} (h : ∀ n, n < 64 → decDigits n = l → False) : node l = none := by
  cases e : node l with
  | none => rfl
  | some n => exact (h n (node_some e).1 (node_some e).2).elim
theorem node_no_dig {l : List UInt8} (i : Nat) (hi : i < l.length) (h : ¬ (48 ≤ l[i].toNat ∧ l[i].toNat ≤ 57)) : node l = none :=
  node_none_of fun n _ e => by subst e; exact h (of_decide_eq_true (dec_dig n _ (List.getElem_mem hi)))
theorem node_no_big {l : List UInt8} (i : Nat) (h : 64 ≤ val (l.take i)) : node l = none :=
  node_none_of fun n hn e => by subst e; have := val_take (decDigits n) i; rw [val_dec] at this; omega
theorem node_no_zero {l : List UInt8} (h1 : 1 < l.length) (h : l[0].toNat = 48) : node l = none :=
  node_none_of fun n hn e => by
    subst e
    by_cases h0 : n < 10
    · rw [decDigits_one h0] at h1; simp at h1
    · cases e1 : decDigits n with
      | nil => rw [e1] at h1; simp at h1
      | cons c t =>
        have := dec_head n (by omega) c t e1
        simp [e1] at h
        exact this h
theorem node_no_nil {l : List UInt8} (h : l.length = 0) : node l = none :=
  node_none_of fun n _ e => by have := dec_ne n; rw [e] at this; omega
theorem node_yes {l : List UInt8} (h1 : 0 < l.length) (h2 : ∀ b ∈ l, isDig b = true) (h3 : val l < 64) (h4 : 1 < l.length → l[0].toNat ≠ 48) : node l = some (val l) := by
  have h0 : ∀ b t, l = b :: t → t ≠ [] → b.toNat ≠ 48 := by
    intro b t e ht
    subst e
    have := h4 (by cases t with | nil => exact absurd rfl ht | cons _ _ => simp)
    simpa using this
  unfold node
  rw [if_pos ⟨List.all_eq_true.2 h2, h3, dec_val l (by intro e; simp [e] at h1) h2 h0⟩]

/-- What a shown name says: a name, and no number; or a name and its number. -/
def says (l : List UInt8) : Option (List UInt8 × Option Nat) :=
  if isName (l.take (endOf l)) = true then
    if endOf l = l.length then some (l, none) else (node (l.drop (endOf l + 1))).map fun n => (l.take (endOf l), some n)
  else none

/-- A twin's shown name. -/
def twin (l : List UInt8) (n : Nat) : List UInt8 := l ++ (126 : UInt8) :: decDigits n

theorem name_no_mark {l : List UInt8} (h : isName l = true) (i : Nat) (hi : i < l.length) : l[i].toNat ≠ 126 := by
  have := isName_at h i hi; omega
theorem says_twin {l : List UInt8} {n : Nat} (h : isName l = true) (hn : n < 64) : says (twin l n) = some (l, some n) := by
  have he : endOf (twin l n) = l.length := endOf_app l (decDigits n) (name_no_mark h)
  have ht : (twin l n).take l.length = l := by unfold twin; simp
  have hd : (twin l n).drop (l.length + 1) = decDigits n := by unfold twin; simp
  have hne : ¬ l.length = (twin l n).length := by unfold twin; simp
  unfold says
  rw [he, ht, if_pos h, if_neg hne, hd, node_dec hn]; rfl
theorem says_name {l : List UInt8} (h : isName l = true) : says l = some (l, none) := by
  have he := endOf_none l (name_no_mark h)
  unfold says
  rw [he, List.take_length, if_pos h, if_pos rfl]
theorem twin_no_name {l : List UInt8} {n : Nat} : isName (twin l n) = false := by
  refine isName_bad l.length (by unfold twin; simp) ?_
  simp [twin]
theorem twin_inj {a b : List UInt8} {m n : Nat} (ha : isName a = true) (hb : isName b = true) (hm : m < 64) (hn : n < 64) (h : twin a m = twin b n) : a = b ∧ m = n := by
  have h1 := says_twin ha hm
  rw [h, says_twin hb hn] at h1
  have h2 := Option.some.inj h1
  exact ⟨(Prod.mk.inj h2).1.symm, (Option.some.inj (Prod.mk.inj h2).2).symm⟩
theorem split_at {l : List UInt8} (h : endOf l < l.length) : l = l.take (endOf l) ++ (126 : UInt8) :: l.drop (endOf l + 1) := by
  have e : l[endOf l] = (126 : UInt8) := UInt8.toNat_inj.1 (endOf_at l h)
  calc l = l.take (endOf l) ++ l.drop (endOf l) := (List.take_append_drop _ _).symm
    _ = _ := by rw [List.drop_eq_getElem_cons h, e]
theorem says_none_name {l : List UInt8} (h : says l = none) : isName l = false := by
  cases e : isName l
  · rfl
  · rw [says_name e] at h; cases h
theorem says_some {l t : List UInt8} {o : Option Nat} (h : says l = some (t, o)) : isName t = true ∧ (o = none ∧ t = l ∨ ∃ n, o = some n ∧ n < 64 ∧ twin t n = l) := by
  unfold says at h
  split at h
  · rename_i h1
    split at h
    · rename_i h2
      obtain ⟨rfl, rfl⟩ := Prod.mk.inj (Option.some.inj h)
      rw [h2, List.take_length] at h1
      exact ⟨h1, Or.inl ⟨rfl, rfl⟩⟩
    · rename_i h2
      obtain ⟨n, h3, h4⟩ := Option.map_eq_some_iff.1 h
      obtain ⟨rfl, rfl⟩ := Prod.mk.inj h4
      obtain ⟨h5, h6⟩ := node_some h3
      refine ⟨h1, Or.inr ⟨n, rfl, h5, ?_⟩⟩
      unfold twin
      rw [h6]
      have := endOf_le l
      exact (split_at (by omega)).symm
  · cases h

end Go.Proofs.Ytjjjpifdmgpnjaa.Nam
