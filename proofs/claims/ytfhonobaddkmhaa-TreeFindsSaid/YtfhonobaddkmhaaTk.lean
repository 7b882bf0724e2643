/- The law's example. -/
import Derived.Test.YtfhonobaddkmhaaTj
import Derived.Test.YtfhonobaddkmhaaTg
namespace Go.Proofs.Ytfhonobaddkmhaa
open Go.RowKit Tre Nam Cod

def x5 : Pl := ⟨5, 0, ⟨#[97]⟩⟩
def x3 : Pl := ⟨3, 5, ⟨#[98]⟩⟩
theorem ex1 : putL [] x5 = [x5] := rfl
theorem ex2 : putL [x5] x3 = [x3, x5] := rfl
theorem ex_get : Tre.get [x3, x5] 3 = some x3 := rfl
theorem ex_find : idx [x3, x5] 4 = 1 ∧ Tre.get [x3, x5] 4 = none := ⟨rfl, rfl⟩
theorem ex_above : above [x3, x5] 5 3 = true ∧ above [x3, x5] 3 5 = false ∧ above [x3, x5] 0 3 = true := ⟨rfl, rfl, rfl⟩
theorem ex_drop : (dropL [x3, x5] 5).length = 1 := rfl
theorem ex_right : treeB [x3, x5] = true := by kernel_rfl
theorem ex_print0 : treeBytes [] = ⟨#[0]⟩ := by kernel_rfl
theorem ex_print1 : treeBytes [x3] = ⟨#[2, 6, 10, 2, 98]⟩ := by kernel_rfl
theorem ex_sorted1 : Sorted [x5] := fun i j hi hj h => by simp at hi hj; omega
theorem ex_sorted : Sorted [x3, x5] := (treeB_facts ex_right).2.1
theorem ex_fit : ∀ p ∈ [x3, x5], Fit p := fun p hp => (okPl_fit ((treeB_facts ex_right).1 p hp)).1
theorem sorted_nil : Sorted [] := fun i j hi => by simp at hi

set_option maxRecDepth 100000 in
set_option maxHeartbeats 4000000 in
theorem awake_any (w : World) : Calls Try.prog 8 #[] w fun e w' => e = .returned (.bool true) ∧ Below w.heap.size w w' := by
  have P1 : ∀ w, Calls Try.prog 16 #[.slice none 0 0, .agg #[.int .i64 5, .int .i64 0, .string ⟨#[97]⟩]] w fun e w' => ∃ A' cap', e = .returned (.slice A' 1 cap') ∧ Tr w' A' [x5] ∧ (A' = none → cap' = 0) ∧ 1 ≤ cap' ∧ Below w.heap.size w w' :=
    fun w => put_any none 0 [] x5 w (Nat.zero_le _) sorted_nil (Tr.nil w none) (Nat.le_refl _) (fun _ => rfl)
  have P2 : ∀ w A cap, Tr w A [x5] → 1 ≤ cap → (A = none → cap = 0) → Calls Try.prog 16 #[.slice A 1 cap, .agg #[.int .i64 3, .int .i64 5, .string ⟨#[98]⟩]] w fun e w' => ∃ A' cap', e = .returned (.slice A' 2 cap') ∧ Tr w' A' [x3, x5] ∧ (A' = none → cap' = 0) ∧ 2 ≤ cap' ∧ Below w.heap.size w w' :=
    fun w A cap hT hc hn => put_any A cap [x5] x3 w (by decide) ex_sorted1 hT hc hn
  have G : ∀ w A cap, Tr w A [x3, x5] → Calls Try.prog 13 #[.slice A 2 cap, .int .i64 3] w fun e w' => e = .returned (.tuple #[.agg #[.int .i64 3, .int .i64 5, .string ⟨#[98]⟩], .bool true]) ∧ Below w.heap.size w w' :=
    fun w A cap hT => get_any A cap [x3, x5] 3 w (by decide) ex_sorted hT x3 true rfl rfl
  have F : ∀ w A cap, Tr w A [x3, x5] → Calls Try.prog 11 #[.slice A 2 cap, .int .i64 4] w fun e w' => e = .returned (.tuple #[.int .i64 1, .bool false]) ∧ Below w.heap.size w w' :=
    fun w A cap hT => find_any A cap [x3, x5] 4 w (by decide) ex_sorted hT
  have A1 : ∀ w A cap, Tr w A [x3, x5] → Calls Try.prog 20 #[.slice A 2 cap, .int .i64 5, .int .i64 3] w fun e w' => e = .returned (.bool true) ∧ Below w.heap.size w w' :=
    fun w A cap hT => above_any A cap [x3, x5] 5 3 w (by decide) ex_sorted hT
  have A2 : ∀ w A cap, Tr w A [x3, x5] → Calls Try.prog 20 #[.slice A 2 cap, .int .i64 3, .int .i64 5] w fun e w' => e = .returned (.bool false) ∧ Below w.heap.size w w' :=
    fun w A cap hT => above_any A cap [x3, x5] 3 5 w (by decide) ex_sorted hT
  have A3 : ∀ w A cap, Tr w A [x3, x5] → Calls Try.prog 20 #[.slice A 2 cap, .int .i64 0, .int .i64 3] w fun e w' => e = .returned (.bool true) ∧ Below w.heap.size w w' :=
    fun w A cap hT => above_any A cap [x3, x5] 0 3 w (by decide) ex_sorted hT
  have D : ∀ w A cap, Tr w A [x3, x5] → 2 ≤ cap → (A = none → cap = 0) → Calls Try.prog 18 #[.slice A 2 cap, .int .i64 5] w fun e w' => ∃ A' cap', e = .returned (.slice A' 1 cap') ∧ Tr w' A' (dropL [x3, x5] 5) ∧ (A' = none → cap' = 0) ∧ 1 ≤ cap' ∧ Below w.heap.size w w' :=
    fun w A cap hT hc hn => drop_any A cap [x3, x5] 5 w (by decide) ex_sorted hT hc hn
  have R : ∀ w A cap, Tr w A [x3, x5] → Calls Try.prog 9 #[.slice A 2 cap] w fun e w' => e = .returned (.bool true) ∧ Below w.heap.size w w' :=
    fun w A cap hT => by have := right_any A cap [x3, x5] w (by decide) (fun p hp => by have := (ex_fit p hp).s; omega) hT; rwa [ex_right] at this
  have N0 : ∀ w, Calls Try.prog 22 #[.slice none 0 0] w fun e w' => e = .returned (.string ⟨#[0]⟩) ∧ Below w.heap.size w w' :=
    fun w => by have := print_any none 0 [] w (by decide) (fun p hp => by cases hp) (Tr.nil w none); rwa [ex_print0] at this
  have N1 : ∀ w A cap, Tr w A [x3] → Calls Try.prog 22 #[.slice A 1 cap] w fun e w' => e = .returned (.string ⟨#[2, 6, 10, 2, 98]⟩) ∧ Below w.heap.size w w' :=
    fun w A cap hT => by have := print_any A cap [x3] w (by decide) (fun p hp => ex_fit p (by rw [List.mem_singleton] at hp; subst hp; simp)) hT; rwa [ex_print1] at this
  have HP1 := Lib.hid P1
  have HP2 := Lib.hid P2
  have HG := Lib.hid G
  have HF := Lib.hid F
  have HA1 := Lib.hid A1
  have HA2 := Lib.hid A2
  have HA3 := Lib.hid A3
  have HD := Lib.hid D
  have HR := Lib.hid R
  have HN0 := Lib.hid N0
  have HN1 := Lib.hid N1
  clear P1 P2 G F A1 A2 A3 D R N0 N1
  go_enter Try.func8, Try.ntmps8
  go_wp2_with fail
  refine (HP1.out _).mono ?_
  rintro e w1 ⟨A', c1, rfl, ht1, hz1, hl1, hb1⟩
  go_wp2_with fail
  refine (HP2.out _ _ _ ht1 hl1 hz1).mono ?_
  rintro e w2 ⟨A, cap, rfl, ht2, hz2, hl2, hb2⟩
  have hB2 := below_then hb1 hb2
  clear ht1 hz1 hl1 hb1 hb2
  obtain ⟨bb, off, rfl, hbl, hc⟩ := ht2 (by decide)
  obtain ⟨q0, q1, q2⟩ := hc 0 (by decide)
  have HT2 := Lib.hid ht2
  clear ht2 hc hz2
  go_wp2_with fail
  refine (HG.out _ _ _ HT2.out).mono ?_
  rintro e w3 ⟨rfl, hb3⟩
  have ht3 := HT2.out.below hb3
  have hB3 := below_then hB2 hb3
  have q0 : w2.cell? ⟨bb, off, none⟩ = some (.int .i64 3) := by simpa [x3] using q0
  rw [← (bcell hb3).1 _ _ hbl] at q0
  have hbl := Nat.lt_of_lt_of_le hbl hb3.size
  clear hb3 HG HT2 q1 q2
  go_wp2_with fail
  have hO := PlIn.new w3 x3
  have hB4 := below_alloc hB3 (.cells #[.int .i64 3, .int .i64 5, .string ⟨#[98]⟩] 24)
  have hb4 := below_alloc (Below.refl _ w3) (.cells #[.int .i64 3, .int .i64 5, .string ⟨#[98]⟩] 24)
  have ht4 := ht3.below hb4
  rw [← (bcell hb4).1 _ _ hbl] at q0
  have hbm := Nat.lt_of_lt_of_le hbl hb4.size
  have hO : PlIn (w3.alloc (.cells #[.int .i64 3, .int .i64 5, .string ⟨#[98]⟩] 24)) w3.heap.size x3 := hO
  generalize w3.alloc (.cells #[.int .i64 3, .int .i64 5, .string ⟨#[98]⟩] 24) = W at *
  generalize w3.heap.size = pb at *
  clear hB3 hB2 ht3 hb4
  refine (HF.out _ _ _ ht4).mono ?_
  rintro e w5 ⟨rfl, hb5⟩
  have ht5 := ht4.below hb5
  have hB5 := below_then hB4 hb5
  rw [← (bcell hb5).1 _ _ hbm] at q0
  obtain ⟨g0, g1, g2⟩ := (hO.below hb5).cells
  have g1 : w5.cell? ⟨pb, 1, none⟩ = some (.int .i64 5) := g1
  clear hb5 hB4 ht4 hO HF g0 g2
  go_wp2_with fail
  refine (HA1.out _ _ _ ht5).mono ?_
  rintro e w6 ⟨rfl, hb6⟩
  have ht6 := ht5.below hb6
  have hB6 := below_then hB5 hb6
  clear hb6 ht5 hB5 q0 g1 HA1 hbl hbm
  go_wp2_with fail
  refine (HA2.out _ _ _ ht6).mono ?_
  rintro e w7 ⟨rfl, hb7⟩
  have ht7 := ht6.below hb7
  have hB7 := below_then hB6 hb7
  clear hb7 ht6 hB6 HA2
  go_wp2_with fail
  refine (HA3.out _ _ _ ht7).mono ?_
  rintro e w8 ⟨rfl, hb8⟩
  have ht8 := ht7.below hb8
  have hB8 := below_then hB7 hb8
  clear hb8 ht7 hB7 HA3
  go_wp2_with fail
  refine (HD.out _ _ _ ht8 hl2 (fun e => by cases e)).mono ?_
  rintro e w9 ⟨A9, c9, rfl, _, _, _, hb9⟩
  have ht9 := ht8.below hb9
  have hB9 := below_then hB8 hb9
  clear hb9 ht8 hB8 HD
  go_wp2_with fail
  refine (HR.out _ _ _ ht9).mono ?_
  rintro e w10 ⟨rfl, hb10⟩
  have ht10 := ht9.below hb10
  have hB10 := below_then hB9 hb10
  clear hb10 ht9 hB9 HR
  go_wp2_with fail
  refine (HN0.out _).mono ?_
  rintro e w11 ⟨rfl, hb11⟩
  have ht11 := (ht10.below hb11).take 1
  have hB11 := below_then hB10 hb11
  clear hb11 ht10 hB10 HN0
  have hc1 : (1 : Int) ≤ (cap : Int) := by omega
  have hc0 : ¬ cap = 0 := by omega
  go_wp2_with fail
  refine (HN1.out _ _ _ ht11).mono ?_
  rintro e w12 ⟨rfl, hb12⟩
  have hB12 := below_then hB11 hb12
  clear hb12 ht11 hB11 HN1
  go_wp2_with fail
  go_ret
  exact ⟨rfl, hB12⟩
end Go.Proofs.Ytfhonobaddkmhaa
