/- An operation in a block: stored, loaded, handed back whole. -/
import Derived.Test.YtkocehjomjaidaaOb
import Derived.Laws.ResultCell
import Derived.Laws.CopyOwn
namespace Go.Proofs.Ytkocehjomjaidaa
open Go.RowKit Cod

def opCells (C D I M K U : Int) (s : ByteArray) : Array Value := #[.int .i64 C, .int .i64 D, .int .i64 I, .int .i64 M, .int .i64 K, .int .i64 U, .string s]
theorem op_size : (Try.prog.info? 25).map (·.size) = some 7 := by kernel_rfl

theorem OpIn.set {w : World} {b : Nat} {C D I M K U : Int} {s : ByteArray} (h : OpIn w b C D I M K U s) (C' D' I' M' K' U' : Int) (s' : ByteArray) : OpIn (w.setRow b #[.int .i64 C', .int .i64 D', .int .i64 I', .int .i64 M', .int .i64 K', .int .i64 U', .string s']) b C' D' I' M' K' U' s' := setRow_heap _ _ _ _ _ _ h

theorem OpIn.alloc {w : World} {b : Nat} {C D I M K U : Int} {s : ByteArray} (h : OpIn w b C D I M K U s) (o : Obj) : OpIn (w.alloc o) b C D I M K U s := h.below (below_alloc (Below.refl _ _) o)

theorem store_op {ops : Array Oper} {rest : List Oper} {o : Oper} {a : Act} {w : World} {Q : Exit → Act → World → Prop} (hgd : o.guard = none) (x y : Operand) (ho : o.op = .store 25 x y)
    (b : Nat) (C' D' I' M' K' U' : Int) (s' : ByteArray) (hx : a.eval x = .pointer (some ⟨b, 0, none⟩)) (hy : a.eval y = .agg #[.int .i64 C', .int .i64 D', .int .i64 I', .int .i64 M', .int .i64 K', .int .i64 U', .string s'])
    (C D I M K U : Int) (s : ByteArray) (hg : OpIn w b C D I M K U s)
    (h : wpList Try.prog ops Q rest (a.put o.dst undef) (w.setRow b #[.int .i64 C', .int .i64 D', .int .i64 I', .int .i64 M', .int .i64 K', .int .i64 U', .string s'])) : wpList Try.prog ops Q (o :: rest) a w :=
  wpList_store_row hgd 25 x y ho b _ hx hy 25 _ hg op_size rfl (by simp [Value.oneCell']) h

theorem load_op {ops : Array Oper} {rest : List Oper} {o : Oper} {a : Act} {w : World} {Q : Exit → Act → World → Prop} (hgd : o.guard = none) (x : Operand) (ho : o.op = .load 25 x)
    (b : Nat) (hx : a.eval x = .pointer (some ⟨b, 0, none⟩)) (C D I M K U : Int) (s : ByteArray) (hg : OpIn w b C D I M K U s)
    (h : wpList Try.prog ops Q rest (a.put o.dst (.agg #[.int .i64 C, .int .i64 D, .int .i64 I, .int .i64 M, .int .i64 K, .int .i64 U, .string s])) w) : wpList Try.prog ops Q (o :: rest) a w :=
  wpList_load_row hgd 25 x ho b hx 25 _ (0, 0) _ hg Try.underlying25 rfl op_size h

theorem load_op_if {ops : Array Oper} {rest : List Oper} {o : Oper} {a : Act} {w : World} {Q : Exit → Act → World → Prop} (hw : Region.wanted o (yielded ops a.tmps) = true) (x : Operand) (ho : o.op = .load 25 x)
    (b : Nat) (hx : a.eval x = .pointer (some ⟨b, 0, none⟩)) (C D I M K U : Int) (s : ByteArray) (hg : OpIn w b C D I M K U s)
    (h : wpList Try.prog ops Q rest (a.put o.dst (.agg #[.int .i64 C, .int .i64 D, .int .i64 I, .int .i64 M, .int .i64 K, .int .i64 U, .string s])) w) : wpList Try.prog ops Q (o :: rest) a w :=
  BigFrame.wpList_want hw fun _ hK => wp_load_row 25 x ho b hx 25 _ (0, 0) _ hg Try.underlying25 rfl op_size (hK _ _ h)

theorem loadVar_op {w : World} {b : Nat} {C D I M K U : Int} {s : ByteArray} (h : OpIn w b C D I M K U s) : (loadVar 25 ⟨b, 0, none⟩).run Try.prog w = .ok (.agg #[.int .i64 C, .int .i64 D, .int .i64 I, .int .i64 M, .int .i64 K, .int .i64 U, .string s]) w :=
  run_loadVar_row w b 25 25 _ (0, 0) _ h Try.underlying25 rfl op_size

/-- One result, an operation. -/
theorem ret_op1 {fn : Func} {R : Ending → World → Prop} {a : Act} {w : World} {b : Nat} {p : Tmp} {C D I M K U : Int} {s : ByteArray} (h : OpIn w b C D I M K U s) (hr : fn.results = #[.cell p 25]) (hp : a.tmps.getD p undef = .pointer (some ⟨b, 0, none⟩)) (hd : a.defers = [])
    (hR : R (.returned (.agg #[.int .i64 C, .int .i64 D, .int .i64 I, .int .i64 M, .int .i64 K, .int .i64 U, .string s])) w) : bodyPost Try.prog fn R .ret a w := by
  exact bodyPost_ret (results_cell_row hr a.tmps w b 25 _ (0, 0) _ hp h Try.underlying25 rfl op_size) hd hR

/-- Two results, an operation and a word. -/
theorem ret_op2 {fn : Func} {R : Ending → World → Prop} {a : Act} {w : World} {b : Nat} {p u : Tmp} {v : Value} {C D I M K U : Int} {s : ByteArray} (h : OpIn w b C D I M K U s) (hr : fn.results = #[.cell p 25, .tmp u]) (hp : a.tmps.getD p undef = .pointer (some ⟨b, 0, none⟩)) (hv : a.tmps.getD u undef = v) (hd : a.defers = [])
    (hR : R (.returned (.tuple #[.agg #[.int .i64 C, .int .i64 D, .int .i64 I, .int .i64 M, .int .i64 K, .int .i64 U, .string s], v])) w) : bodyPost Try.prog fn R .ret a w := by
  refine bodyPost_ret (v := .tuple #[.agg #[.int .i64 C, .int .i64 D, .int .i64 I, .int .i64 M, .int .i64 K, .int .i64 U, .string s], v]) ?_ hd hR
  rw [results_cell_tmp hr, hp, hv]
  simp only [asAddr, Sem.run_pure, Result.andThen, loadVar_op h]
end Go.Proofs.Ytkocehjomjaidaa
