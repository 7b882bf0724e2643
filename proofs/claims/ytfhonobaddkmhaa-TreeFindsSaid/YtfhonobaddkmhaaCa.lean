/- What fold, unfold and Num of code give. -/
import Derived.Test.YtfhonobaddkmhaaBs
import Derived.Test.YtfhonobaddkmhaaCm
import Derived.WalkKit
import Derived.Lib.Hide
import Derived.KernelRfl
import Derived.Handy
import Derived.Lib.BufSteps
import Derived.Laws.IdiomStrings
namespace Go.Proofs.Ytfhonobaddkmhaa
open Go.RowKit Cod


theorem fold_any (n : Int) (w : World) (h1 : -9223372036854775808 ≤ n) (h2 : n ≤ 9223372036854775807) :
    Calls Try.prog 48 #[.int .i64 n] w fun e w' => e = .returned (.int .u64 (fold n)) ∧ w = w' := by
  by_cases h : n < 0
  · have HF := Lib.hid (show (2 * (-1 - n) + 1 : Int) = (fold n : Nat) by unfold fold; rw [if_pos h]; omega)
    go_enter Try.func48, Try.ntmps48
    go_wp2
    go_ret
    exact ⟨ret_int HF.out, rfl⟩
  · have HF := Lib.hid (show (2 * n : Int) = (fold n : Nat) by unfold fold; rw [if_neg h]; omega)
    go_enter Try.func48, Try.ntmps48
    go_wp2
    go_ret
    exact ⟨ret_int HF.out, rfl⟩

theorem unfold_any (u : Nat) (w : World) (h : u < 18446744073709551616) :
    Calls Try.prog 57 #[.int .u64 u] w fun e w' => e = .returned (.int .i64 (unfold u)) ∧ w = w' := by
  have HF := Lib.hid (show unfold u = if u % 2 = 1 then -1 - ((u / 2 : Nat) : Int) else ((u / 2 : Nat) : Int) from rfl)
  by_cases h1 : u % 2 = 1
  · go_enter Try.func57, Try.ntmps57
    go_wp2
    go_ret
    exact ⟨ret_int (by rw [HF.out, if_pos h1]; omega), rfl⟩
  · go_enter Try.func57, Try.ntmps57
    go_wp2
    go_ret
    exact ⟨ret_int (by rw [HF.out, if_neg h1]; omega), rfl⟩
end Go.Proofs.Ytfhonobaddkmhaa
