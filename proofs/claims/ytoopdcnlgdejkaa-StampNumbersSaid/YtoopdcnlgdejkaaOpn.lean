/- How the arguments of the laws are opened; To and From in one word each. -/
import Derived.Test.YtoopdcnlgdejkaaAwk
import Derived.Test.YtoopdcnlgdejkaaFrm
import Derived.Lib.QuietBelow
import Derived.BigQuiet
import Derived.Lib.SmallJoins
namespace Go.Proofs.Ytoopdcnlgdejkaa
open Go.ChangeShapes Go.WideShapes Go.ChangeAt Go.RowKit Go.Joins

theorem own : ownKnob Try.prog.godebug = none := by kernel_rfl
theorem cells23 : Try.prog.cellsOf 23 = 2 := by kernel_rfl

/-- A moment among the arguments: two whole numbers. -/
theorem open_stamp {H : Type} {enc : TypeId × Value → H} {W : World} {base : Nat} {sp : Nat → Bool} {v : Value} {d : DataW H} {ps : List MemPlace}
    (hv : Value.okWide Try.prog W .any base 23 v) (h : DataW.Trod enc Try.prog W 0 sp true 23 v d ps) : ∃ A B : Int, v = .agg #[.int .i64 A, .int .i64 B] := by
  obtain ⟨c0, c1, y0, y1, m, rfl, rfl, rfl, hy0, hy1⟩ := open_agg2 Try.underlying23 (by kernel_rfl) cells23 hv h
  obtain ⟨a, e0, _, _⟩ := DataW.trod_int Try.underlying3 hy0
  obtain ⟨b, e1, _, _⟩ := DataW.trod_int Try.underlying3 hy1
  simp at e0 e1
  subst e0 e1
  exact ⟨a, b, rfl⟩

def toR (C D : Int) : Nat := if rightB C D then floatOfInt .f64 C else 0
def toI (C D : Int) : Nat := if rightB C D then floatOfInt .f64 D else 0

theorem to_any (C D : Int) (w : World) : Calls Try.prog 15 #[.agg #[.int .i64 C, .int .i64 D]] w fun e w' => e = .returned (.tuple #[.complex .f64 (toR C D) (toI C D), .bool (rightB C D)]) ∧ Below w.heap.size w w' := by
  by_cases h : rightB C D = true
  · have e1 : toR C D = floatOfInt .f64 C := by simp [toR, h]
    have e2 : toI C D = floatOfInt .f64 D := by simp [toI, h]
    rw [e1, e2, h]; exact to_yes C D w h
  · rw [Bool.not_eq_true] at h
    have e1 : toR C D = 0 := by simp [toR, h]
    have e2 : toI C D = 0 := by simp [toI, h]
    rw [e1, e2, h]; exact to_no C D w h

theorem refTo_any (C D : Int) (w : World) : Calls Try.prog 16 #[.agg #[.int .i64 C, .int .i64 D]] w fun e w' => e = .returned (.tuple #[.complex .f64 (toR C D) (toI C D), .bool (rightB C D)]) ∧ Below w.heap.size w w' := by
  by_cases h : rightB C D = true
  · have e1 : toR C D = floatOfInt .f64 C := by simp [toR, h]
    have e2 : toI C D = floatOfInt .f64 D := by simp [toI, h]
    rw [e1, e2, h]; exact refTo_yes C D w h
  · rw [Bool.not_eq_true] at h
    have e1 : toR C D = 0 := by simp [toR, h]
    have e2 : toI C D = 0 := by simp [toI, h]
    rw [e1, e2, h]; exact refTo_no C D w h

theorem toR_int (C D : Int) : ∃ n : Int, Flo.IsInt (toR C D) n := by
  unfold toR
  split
  · rename_i h
    have hr := rightB_iff.1 h
    exact ⟨C, Flo.isInt_ofInt C (by omega)⟩
  · exact ⟨0, isInt_c0⟩
theorem toI_int (C D : Int) : ∃ n : Int, Flo.IsInt (toI C D) n := by
  unfold toI
  split
  · rename_i h
    have hr := rightB_iff.1 h
    exact ⟨D, Flo.isInt_ofInt D (by omega)⟩
  · exact ⟨0, isInt_c0⟩
theorem toR_self (C D : Int) : FloatKind.f64.format.order (toR C D) (toR C D) = some .eq := by
  obtain ⟨n, h⟩ := toR_int C D
  exact (order_eq h.val h.val).2 rfl
theorem toI_self (C D : Int) : FloatKind.f64.format.order (toI C D) (toI C D) = some .eq := by
  obtain ⟨n, h⟩ := toI_int C D
  exact (order_eq h.val h.val).2 rfl

/-- What From, and the document's From, give of a number. -/
theorem from_both (re im : Nat) : ∃ (C D : Int) (b : Bool), ((b = true ∧ IsM re im C D) ∨ (b = false ∧ C = 0 ∧ D = 0 ∧ ∀ A B, ¬ IsM re im A B)) ∧
    (∀ w, Calls Try.prog 17 #[.complex .f64 re im] w fun e w' => e = .returned (.tuple #[.agg #[.int .i64 C, .int .i64 D], .bool b]) ∧ Below w.heap.size w w') ∧
    (∀ w, Calls Try.prog 18 #[.complex .f64 re im] w fun e w' => e = .returned (.tuple #[.agg #[.int .i64 C, .int .i64 D], .bool b]) ∧ Below w.heap.size w w') := by
  by_cases h : ∃ C D, IsM re im C D
  · obtain ⟨C, D, h⟩ := h
    exact ⟨C, D, true, Or.inl ⟨rfl, h⟩, from_is h, refFrom_is h⟩
  · have h' : ∀ A B, ¬ IsM re im A B := fun A B k => h ⟨A, B, k⟩
    exact ⟨0, 0, false, Or.inr ⟨rfl, rfl, rfl, h'⟩, from_none h', refFrom_none h'⟩

end Go.Proofs.Ytoopdcnlgdejkaa
