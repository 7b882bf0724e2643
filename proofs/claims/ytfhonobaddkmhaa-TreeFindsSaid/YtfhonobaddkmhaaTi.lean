/- Concat of the library; Put and Drop of the program. -/
import Derived.Test.YtfhonobaddkmhaaTh
namespace Go.Proofs.Ytfhonobaddkmhaa
open Go.RowKit Tre

def catP (F : Nat → List Pl) : Nat → List Pl
  | 0 => []
  | k + 1 => catP F k ++ F k
theorem catP_le (F : Nat → List Pl) (k : Nat) : ∀ n, k ≤ n → (catP F k).length ≤ (catP F n).length
  | 0, h => by obtain rfl : k = 0 := by omega
               exact Nat.le_refl _
  | n + 1, h => by
    by_cases e : k = n + 1
    · subst e; exact Nat.le_refl _
    · have := catP_le F k n (by omega)
      rw [catP, List.length_append]; omega

set_option maxRecDepth 100000 in
theorem concat_any (sb : Nat) (F : Nat → List Pl) (A : Nat → Option Addr) (C : Nat → Nat) (w : World) (hcell : ∀ j, j < 3 → w.cell? ⟨sb, j, none⟩ = some (.slice (A j) (F j).length (C j)))
    (hT : ∀ j, j < 3 → Tr w (A j) (F j)) (hc : ∀ j, j < 3 → A j = none → C j = 0) (hl : (catP F 3).length ≤ 1000) (hsb : sb < w.heap.size) :
    Calls Try.prog 46 #[.slice (some ⟨sb, 0, none⟩) 3 3] w fun e w' => ∃ A' cap', e = .returned (.slice A' (catP F 3).length cap') ∧ Tr w' A' (catP F 3) ∧ (A' = none → cap' = 0) ∧ (catP F 3).length ≤ cap' ∧ Below w.heap.size w w' := by
  have CG := fun n hn => grow_any w.heap.size n w hn (Nat.le_refl _)
  have hle := fun k h => catP_le F k 3 h
  have HCL := Lib.hid hcell
  have HTT := Lib.hid hT
  have HCC := Lib.hid hc
  clear hcell hT hc
  go_enter Try.func46, Try.ntmps46
  go_wp2
  go_loop [3, 11] (fun x y => ∃ k : Nat, k ≤ 3 ∧ y = .int .i64 k ∧ x = .int .i64 (catP F k).length) (fun _ y => 3 - (intOf y).toNat)
  case atStart => exact ⟨0, Nat.zero_le _, rfl, rfl⟩
  case round =>
    obtain ⟨k, hk, rfl, rfl⟩ := hrel
    by_cases hlt : k < 3
    · have h1 := HCL.out k hlt
      have h2 := hle (k + 1) hlt
      have h3 : (catP F (k + 1)).length = (catP F k).length + (F k).length := by rw [catP, List.length_append]
      have H3 := Lib.hid h3
      have h4 : (catP F k).length + (F k).length ≤ 1000 := by omega
      generalize (catP F k).length = n at *
      generalize (F k).length = m at *
      clear h3
      go_wp2
      go_round
      case rel => exact ⟨k + 1, by omega, by go_num, by rw [H3.out]; go_num⟩
      case measure => simp [intOf]; omega
    · obtain rfl : k = 3 := by omega
      have CG := CG _ hl
      go_wp2_with fail
      refine CG.mono ?_
      rintro e w1 ⟨v, rfl, hown, hb1⟩
      clear CG
      go_wp2
      go_loopw [6, 27] (fun x y wr => ∃ (k : Nat) (v : Value), k ≤ 3 ∧ y = .int .i64 k ∧ x = v ∧ Own wr w.heap.size v (catP F k) ∧ Below w.heap.size w wr) (fun _ y _ => 3 - (intOf y).toNat)
      case atStart => exact ⟨0, v, Nat.zero_le _, rfl, rfl, hown, hb1⟩
      case round =>
        clear hown hb1
        obtain ⟨k, v, hk, rfl, rfl, hown, hnx⟩ := hrel
        by_cases hlt : k < 3
        · have h1 := HCL.out k hlt
          rw [← (bcell hnx).1 _ _ hsb] at h1
          have h2 := hle (k + 1) hlt
          have h3 : (catP F (k + 1)).length = (catP F k).length + (F k).length := by rw [catP, List.length_append]
          have hTk := (HTT.out k hlt).below hnx
          have hck := HCC.out k hlt
          have hB := hnx.size
          go_wp2_with (at_builtin; refine wpList_app rfl _ _ rfl w.heap.size _ (catP F k) (F k) rfl hown (A k) _ (C k) rfl rfl hTk hck (by omega) hB ?_; intro v' w2 hown2 hg2 _)
          go_roundw
          case rel => exact ⟨k + 1, v', by omega, by go_num, rfl, hown2, hnx.grown hg2 hB (fun j hj => (World.ownsRow.lt hown j hj).1)⟩
          case measure => simp [intOf]; omega
        · obtain rfl : k = 3 := by omega
          obtain ⟨A', cap', rfl, hT', hc', hlc⟩ := hown.tr
          go_wp2
          go_ret
          exact ⟨A', cap', rfl, hT', hc', hlc, hnx⟩
end Go.Proofs.Ytfhonobaddkmhaa
