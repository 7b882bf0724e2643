/- Find of the document; Get and Above of both. -/
import Derived.Test.YtfhonobaddkmhaaTa
import Derived.Laws.ResultCell
import Derived.Laws.CopyOwn
namespace Go.Proofs.Ytfhonobaddkmhaa
open Go.RowKit Tre

/-- A place has a block of its own. -/
def PlIn (w : World) (b : Nat) (p : Pl) : Prop := w.heap[b]? = some (.cells #[.int .i64 p.n, .int .i64 p.u, .string p.s] 24 (0, 0))
section
variable {w w' : World} {b : Nat} {p : Pl}
theorem PlIn.lt (h : PlIn w b p) : b < w.heap.size := by
  rcases Nat.lt_or_ge b w.heap.size with hlt | hge
  · exact hlt
  · unfold PlIn at h; rw [Array.getElem?_eq_none hge] at h; cases h
theorem PlIn.cells (h : PlIn w b p) : w.cell? ⟨b, 0, none⟩ = some (.int .i64 p.n) ∧ w.cell? ⟨b, 1, none⟩ = some (.int .i64 p.u) ∧ w.cell? ⟨b, 2, none⟩ = some (.string p.s) :=
  ⟨cell_of_row w b 0 _ 24 (0, 0) h, cell_of_row w b 1 _ 24 (0, 0) h, cell_of_row w b 2 _ 24 (0, 0) h⟩
theorem PlIn.frozen (h : PlIn w b p) (i : Nat) : w.frozen? ⟨b, i, none⟩ = false := by
  unfold PlIn at h
  simp [World.frozen?, h]
theorem PlIn.new (w : World) (p : Pl) : PlIn (w.alloc (.cells #[.int .i64 p.n, .int .i64 p.u, .string p.s] 24)) w.heap.size p := heap_alloc_new w _
theorem PlIn.below (h : PlIn w b p) (hg : Below w.heap.size w w') : PlIn w' b p := (hg.block b h.lt).trans h
theorem PlIn.keep {row : Option Nat} (h : PlIn w b p) (hg : w.grownBy w' row) (hne : some b ≠ row) : PlIn w' b p := (hg.block b h.lt hne).trans h
theorem PlIn.set (h : PlIn w b p) (q : Pl) : PlIn (w.setRow b #[.int .i64 q.n, .int .i64 q.u, .string q.s]) b q := setRow_heap _ _ _ _ _ _ h
theorem below_setRow {W w : World} (h : Below W.heap.size W w) {n : Nat} (hn : W.heap.size ≤ n) (cs : Array Value) : Below W.heap.size W (w.setRow n cs) :=
  ⟨h.os, h.tape, h.output, by simpa [World.setRow] using h.size, fun k hk => (setRow_other w n k cs (by omega)).trans (h.block k hk)⟩
theorem PlIn.alloc (h : PlIn w b p) (o : Obj) : PlIn (w.alloc o) b p := h.below (below_alloc (Below.refl _ _) o)
end
theorem pl_size : (Try.prog.info? 24).map (·.size) = some 3 := by kernel_rfl
theorem store_pl {ops : Array Oper} {rest : List Oper} {o : Oper} {a : Act} {w : World} {Q : Exit → Act → World → Prop} (hgd : o.guard = none) (x y : Operand) (ho : o.op = .store 24 x y)
    (b : Nat) (q : Pl) (hx : a.eval x = .pointer (some ⟨b, 0, none⟩)) (hy : a.eval y = .agg #[.int .i64 q.n, .int .i64 q.u, .string q.s])
    (p : Pl) (hg : PlIn w b p)
    (h : wpList Try.prog ops Q rest (a.put o.dst undef) (w.setRow b #[.int .i64 q.n, .int .i64 q.u, .string q.s])) : wpList Try.prog ops Q (o :: rest) a w :=
  wpList_store_row hgd 24 x y ho b _ hx hy 24 _ hg pl_size rfl (by simp [Value.oneCell']) h
theorem load_pl {ops : Array Oper} {rest : List Oper} {o : Oper} {a : Act} {w : World} {Q : Exit → Act → World → Prop} (hgd : o.guard = none) (x : Operand) (ho : o.op = .load 24 x)
    (b : Nat) (hx : a.eval x = .pointer (some ⟨b, 0, none⟩)) (p : Pl) (hg : PlIn w b p)
    (h : wpList Try.prog ops Q rest (a.put o.dst (.agg #[.int .i64 p.n, .int .i64 p.u, .string p.s])) w) : wpList Try.prog ops Q (o :: rest) a w :=
  wpList_load_row hgd 24 x ho b hx 24 _ (0, 0) _ hg Try.underlying24 rfl pl_size h
theorem loadVar_pl {w : World} {b : Nat} {p : Pl} (h : PlIn w b p) : (loadVar 24 ⟨b, 0, none⟩).run Try.prog w = .ok (.agg #[.int .i64 p.n, .int .i64 p.u, .string p.s]) w :=
  run_loadVar_row w b 24 24 _ (0, 0) _ h Try.underlying24 rfl pl_size
/-- One result, a place. -/
theorem ret_pl1 {fn : Func} {R : Ending → World → Prop} {a : Act} {w : World} {b : Nat} {t : Tmp} {p : Pl} (h : PlIn w b p) (hr : fn.results = #[.cell t 24]) (hp : a.tmps.getD t undef = .pointer (some ⟨b, 0, none⟩)) (hd : a.defers = [])
    (hR : R (.returned (.agg #[.int .i64 p.n, .int .i64 p.u, .string p.s])) w) : bodyPost Try.prog fn R .ret a w := by
  exact bodyPost_ret (results_cell_row hr a.tmps w b 24 _ (0, 0) _ hp h Try.underlying24 rfl pl_size) hd hR
/-- Two results, a place and a word. -/
theorem ret_pl2 {fn : Func} {R : Ending → World → Prop} {a : Act} {w : World} {b : Nat} {t u : Tmp} {v : Value} {p : Pl} (h : PlIn w b p) (hr : fn.results = #[.cell t 24, .tmp u]) (hp : a.tmps.getD t undef = .pointer (some ⟨b, 0, none⟩)) (hv : a.tmps.getD u undef = v) (hd : a.defers = [])
    (hR : R (.returned (.tuple #[.agg #[.int .i64 p.n, .int .i64 p.u, .string p.s], v])) w) : bodyPost Try.prog fn R .ret a w := by
  refine bodyPost_ret (v := .tuple #[.agg #[.int .i64 p.n, .int .i64 p.u, .string p.s], v]) ?_ hd hR
  rw [results_cell_tmp hr, hp, hv]
  simp only [asAddr, Sem.run_pure, Result.andThen, loadVar_pl h]

theorem find_end {l : List Pl} {b : Int} {i : Nat} {x : Bool} (h : i = idx l b) (k : (Tre.get l b).isSome = x) : Ending.returned (.tuple #[.int .i64 i, .bool x]) = Ending.returned (.tuple #[.int .i64 (idx l b), .bool (Tre.get l b).isSome]) := by rw [k, ← h]

theorem refFind_any (A : Option Addr) (cap : Nat) (l : List Pl) (b : Int) (w : World) (hl : l.length ≤ 1000) (hT : Tr w A l) :
    Calls Try.prog 12 #[.slice A l.length cap, .int .i64 b] w fun e w' => e = .returned (.tuple #[.int .i64 (idx l b), .bool (Tre.get l b).isSome]) ∧ Below w.heap.size w w' := by
  go_enter Try.func12, Try.ntmps12
  go_wp2
  go_loopw [6] (fun x wr => ∃ i : Nat, i ≤ l.length ∧ x = .int .i64 i ∧ (∀ k (h : k < l.length), k < i → l[k].n < b) ∧ Below w.heap.size w wr) (fun x _ => l.length - (intOf x).toNat)
  case atStart => exact ⟨0, Nat.zero_le _, rfl, fun k h hk => by omega, Below.refl _ _⟩
  case round =>
    obtain ⟨i, hi, rfl, hlo, hnx⟩ := hrel
    by_cases hlt : i < l.length
    · obtain ⟨bb, off, rfl, hbw, hc⟩ := hT (by omega)
      have hat := (hc i hlt).below hnx hbw
      obtain ⟨p, hp⟩ : ∃ p, l[i]'(by omega) = p := ⟨_, rfl⟩
      rw [hp] at hat
      obtain ⟨q0, q1, q2⟩ := hat
      by_cases hcm : p.n < b
      · clear hc
        go_wp2
        go_roundw
        case rel =>
          refine ⟨i + 1, by omega, by go_num, fun k h hk => ?_, hnx⟩
          by_cases e : k = i
          · subst e; rw [hp]; exact hcm
          · exact hlo k h (by omega)
        case measure => simp [intOf]; omega
      · have hix : i = idx l b := idx_eq hi hlo (fun h => by rw [hp]; omega)
        have hg : (Tre.get l b).isSome = decide (p.n = b) := by
          by_cases e : p.n = b
          · rw [get_of (by omega) (by simp only [← hix]; rw [hp]; exact e), decide_eq_true e]; rfl
          · rw [get_none_other (by omega) (by simp only [← hix]; rw [hp]; exact e), decide_eq_false e]; rfl
        have HG := Lib.hid hg
        have HI := Lib.hid hix
        clear hc hg hix hlo
        by_cases e : p.n = b
        · go_wp2
          go_quiet (fail)
          go_wp2
          go_ret2
          exact ⟨find_end HI.out (HG.out.trans (decide_eq_true e)), below_drew hnx _⟩
        · go_wp2
          go_quiet (fail)
          go_wp2
          go_ret2
          exact ⟨find_end HI.out HG.out, below_drew hnx _⟩
    · have hix : i = idx l b := idx_eq hi hlo (fun h => by omega)
      have HG := Lib.hid (get_none_end (l := l) (b := b) (by omega))
      have HI := Lib.hid hix
      clear hix hlo
      go_wp2
      have hd : decide ((i : Int) < (l.length : Int)) = false := decide_eq_false (by omega)
      go_quiet (fail)
      go_wp2
      go_ret2
      exact ⟨find_end HI.out (by rw [HG.out]; rfl), below_drew hnx _⟩

theorem isSome_get {l : List Pl} {b : Int} {p : Pl} (hp : (Tre.get l b).getD zero = p) (hi : (Tre.get l b).isSome = true) : Tre.get l b = some p ∧ ∃ h : idx l b < l.length, l[idx l b] = p := by
  rcases h : Tre.get l b with _ | q
  · rw [h] at hi; cases hi
  · rw [h] at hp
    obtain rfl : q = p := hp
    exact ⟨rfl, (get_some h).2.2⟩
theorem none_get {l : List Pl} {b : Int} {p : Pl} (hp : (Tre.get l b).getD zero = p) (hi : (Tre.get l b).isSome = false) : p = zero := by
  rw [← hp]
  rcases h : Tre.get l b with _ | q
  · rfl
  · rw [h] at hi; cases hi

theorem get_any (A : Option Addr) (cap : Nat) (l : List Pl) (b : Int) (w : World) (hl : l.length ≤ 1000) (hs : Sorted l) (hT : Tr w A l) (p : Pl) (is : Bool) (hp : (Tre.get l b).getD zero = p) (hi : (Tre.get l b).isSome = is) :
    Calls Try.prog 13 #[.slice A l.length cap, .int .i64 b] w fun e w' => e = .returned (.tuple #[.agg #[.int .i64 p.n, .int .i64 p.u, .string p.s], .bool is]) ∧ Below w.heap.size w w' := by
  have C := fun w (hT : Tr w A l) => find_any A cap l b w hl hs hT
  rw [hi] at C
  have hT1 := fun o => hT.below (below_alloc (Below.refl _ _) o)
  cases is
  · obtain rfl := none_get hp hi
    go_enter Try.func13, Try.ntmps13
    go_wp2_with fail
    refine (C _ (hT1 _)).mono ?_
    rintro e w1 ⟨rfl, hb1⟩
    have hz := (PlIn.new w zero).below hb1
    have hn := (below_alloc (Below.refl _ w) (.cells #[.int .i64 zero.n, .int .i64 zero.u, .string zero.s] 24)).trans (hb1.mono (by simp))
    clear hb1
    go_wp2_with (refine store_pl rfl _ _ rfl _ zero rfl rfl zero hz ?_)
    exact ret_pl2 (hz.set zero) rfl rfl rfl rfl ⟨rfl, below_setRow hn (Nat.le_refl _) _⟩
  · obtain ⟨_, hx, hpx⟩ := isSome_get hp hi
    generalize idx l b = ix at *
    obtain ⟨bb, off, rfl, hbw, hc⟩ := hT (by omega)
    have hat := hc ix hx
    rw [hpx] at hat
    clear hpx hc
    go_enter Try.func13, Try.ntmps13
    go_wp2_with fail
    refine (C _ (hT1 _)).mono ?_
    rintro e w1 ⟨rfl, hb1⟩
    have hz := (PlIn.new w zero).below hb1
    have hn := (below_alloc (Below.refl _ w) (.cells #[.int .i64 zero.n, .int .i64 zero.u, .string zero.s] 24)).trans (hb1.mono (by simp))
    have hat := hat.below hn hbw
    obtain ⟨q0, q1, q2⟩ := hat
    have hlt := Nat.lt_of_lt_of_le hbw hn.size
    clear hb1
    go_wp2_with (refine store_pl rfl _ _ rfl _ p rfl rfl zero hz ?_)
    exact ret_pl2 (hz.set p) rfl rfl rfl rfl ⟨rfl, below_setRow hn (Nat.le_refl _) _⟩

theorem refGet_any (A : Option Addr) (cap : Nat) (l : List Pl) (b : Int) (w : World) (hl : l.length ≤ 1000) (hT : Tr w A l) (p : Pl) (is : Bool) (hp : (Tre.get l b).getD zero = p) (hi : (Tre.get l b).isSome = is) :
    Calls Try.prog 14 #[.slice A l.length cap, .int .i64 b] w fun e w' => e = .returned (.tuple #[.agg #[.int .i64 p.n, .int .i64 p.u, .string p.s], .bool is]) ∧ Below w.heap.size w w' := by
  have C := fun w (hT : Tr w A l) => refFind_any A cap l b w hl hT
  rw [hi] at C
  have hT1 := fun o => hT.below (below_alloc (Below.refl _ _) o)
  cases is
  · obtain rfl := none_get hp hi
    go_enter Try.func14, Try.ntmps14
    go_wp2_with fail
    refine (C _ (hT1 _)).mono ?_
    rintro e w1 ⟨rfl, hb1⟩
    have hz := (PlIn.new w zero).below hb1
    have hn := (below_alloc (Below.refl _ w) (.cells #[.int .i64 zero.n, .int .i64 zero.u, .string zero.s] 24)).trans (hb1.mono (by simp))
    clear hb1
    go_wp2_with (refine store_pl rfl _ _ rfl _ zero rfl rfl zero hz ?_)
    exact ret_pl2 (hz.set zero) rfl rfl rfl rfl ⟨rfl, below_setRow hn (Nat.le_refl _) _⟩
  · obtain ⟨_, hx, hpx⟩ := isSome_get hp hi
    generalize idx l b = ix at *
    obtain ⟨bb, off, rfl, hbw, hc⟩ := hT (by omega)
    have hat := hc ix hx
    rw [hpx] at hat
    clear hpx hc
    go_enter Try.func14, Try.ntmps14
    go_wp2_with fail
    refine (C _ (hT1 _)).mono ?_
    rintro e w1 ⟨rfl, hb1⟩
    have hz := (PlIn.new w zero).below hb1
    have hn := (below_alloc (Below.refl _ w) (.cells #[.int .i64 zero.n, .int .i64 zero.u, .string zero.s] 24)).trans (hb1.mono (by simp))
    have hat := hat.below hn hbw
    obtain ⟨q0, q1, q2⟩ := hat
    have hlt := Nat.lt_of_lt_of_le hbw hn.size
    clear hb1
    go_wp2_with (refine store_pl rfl _ _ rfl _ p rfl rfl zero hz ?_)
    exact ret_pl2 (hz.set p) rfl rfl rfl rfl ⟨rfl, below_setRow hn (Nat.le_refl _) _⟩

theorem above_any (A : Option Addr) (cap : Nat) (l : List Pl) (a b : Int) (w : World) (hl : l.length ≤ 1000) (hs : Sorted l) (hT : Tr w A l) :
    Calls Try.prog 20 #[.slice A l.length cap, .int .i64 a, .int .i64 b] w fun e w' => e = .returned (.bool (above l a b)) ∧ Below w.heap.size w w' := by
  have C := fun w b p is (hT : Tr w A l) hp hi => get_any A cap l b w hl hs hT p is hp hi
  go_enter Try.func20, Try.ntmps20
  go_wp2
  go_loopw [2, 12] (fun x y wr => ∃ (c : Int) (k : Nat), k ≤ l.length + 1 ∧ x = .int .i64 c ∧ y = .int .i64 k ∧ abv l (l.length + 1 - k) a c = above l a b ∧ Below w.heap.size w wr) (fun _ y _ => l.length + 1 - (intOf y).toNat)
  case atStart => exact ⟨b, 0, Nat.zero_le _, rfl, rfl, rfl, Below.refl _ _⟩
  case round =>
    obtain ⟨c, k, hk, rfl, rfl, hab, hnx⟩ := hrel
    by_cases hlt : k < l.length + 1
    · obtain ⟨f, hf⟩ : ∃ f, l.length + 1 - k = f + 1 := ⟨l.length - k, by omega⟩
      rw [hf] at hab
      by_cases he : a = c
      · subst he
        have ht : above l a b = true := by rw [← hab]; unfold abv; rw [if_pos rfl]
        have HT := Lib.hid ht
        clear hab ht hf
        go_wp2
        go_ret
        exact ⟨by rw [HT.out]; rfl, hnx⟩
      · have hTr := hT.below hnx
        obtain ⟨p, hp⟩ : ∃ p, (Tre.get l c).getD zero = p := ⟨_, rfl⟩
        obtain ⟨is, hi⟩ : ∃ is, (Tre.get l c).isSome = is := ⟨_, rfl⟩
        have C := C wr c p is hTr hp hi
        cases is
        · have ht : above l a b = false := by
            rw [← hab]; unfold abv; rw [if_neg he]
            rcases h : Tre.get l c with _ | q
            · rfl
            · rw [h] at hi; cases hi
          have HT := Lib.hid ht
          clear hab ht hp hi hf
          go_wp2_with (go_at_call 13; (with_reducible refine C.mono ?_); rintro e w1 ⟨rfl, hb1⟩)
          go_ret
          exact ⟨by rw [HT.out]; rfl, below_alloc (below_then hnx hb1) _⟩
        · have ht : abv l f a p.u = above l a b := by
            rw [← hab]; conv => rhs; unfold abv
            rw [if_neg he, (isSome_get hp hi).1]
          have HT := Lib.hid ht
          have HF := Lib.hid hf
          clear hab ht hp hi hf
          go_wp2_with (go_at_call 13; (with_reducible refine C.mono ?_); rintro e w1 ⟨rfl, hb1⟩)
          go_roundw
          case rel =>
            have hf := HF.out
            exact ⟨p.u, k + 1, by omega, rfl, by go_num, by rw [← HT.out]; congr 1; omega, below_alloc (below_then hnx hb1) _⟩
          case measure => simp [intOf]; omega
    · obtain ⟨rfl⟩ : k = l.length + 1 := by omega
      have ht : above l a b = false := by rw [← hab, Nat.sub_self]; rfl
      have HT := Lib.hid ht
      clear hab ht
      go_wp2
      go_ret
      exact ⟨by rw [HT.out]; rfl, hnx⟩

theorem refAbove_any (A : Option Addr) (cap : Nat) (l : List Pl) (a b : Int) (w : World) (hl : l.length ≤ 1000) (hT : Tr w A l) :
    Calls Try.prog 21 #[.slice A l.length cap, .int .i64 a, .int .i64 b] w fun e w' => e = .returned (.bool (above l a b)) ∧ Below w.heap.size w w' := by
  have C := fun w b p is (hT : Tr w A l) hp hi => refGet_any A cap l b w hl hT p is hp hi
  go_enter Try.func21, Try.ntmps21
  go_wp2
  go_loopw [2, 7] (fun x y wr => ∃ (c : Int) (k : Nat), k ≤ l.length + 1 ∧ x = .int .i64 c ∧ y = .int .i64 k ∧ abv l (l.length + 1 - k) a c = above l a b ∧ Below w.heap.size w wr) (fun _ y _ => l.length + 1 - (intOf y).toNat)
  case atStart => exact ⟨b, 0, Nat.zero_le _, rfl, rfl, rfl, Below.refl _ _⟩
  case round =>
    obtain ⟨c, k, hk, rfl, rfl, hab, hnx⟩ := hrel
    by_cases hlt : k ≤ l.length
    · obtain ⟨f, hf⟩ : ∃ f, l.length + 1 - k = f + 1 := ⟨l.length - k, by omega⟩
      rw [hf] at hab
      by_cases he : a = c
      · subst he
        have ht : above l a b = true := by rw [← hab]; unfold abv; rw [if_pos rfl]
        have HT := Lib.hid ht
        clear hab ht hf
        go_wp2
        go_ret
        exact ⟨by rw [HT.out]; rfl, hnx⟩
      · have hTr := hT.below hnx
        obtain ⟨p, hp⟩ : ∃ p, (Tre.get l c).getD zero = p := ⟨_, rfl⟩
        obtain ⟨is, hi⟩ : ∃ is, (Tre.get l c).isSome = is := ⟨_, rfl⟩
        have C := C wr c p is hTr hp hi
        cases is
        · have ht : above l a b = false := by
            rw [← hab]; unfold abv; rw [if_neg he]
            rcases h : Tre.get l c with _ | q
            · rfl
            · rw [h] at hi; cases hi
          have HT := Lib.hid ht
          clear hab ht hp hi hf
          go_wp2_with (go_at_call 14; (with_reducible refine C.mono ?_); rintro e w1 ⟨rfl, hb1⟩)
          go_ret
          exact ⟨by rw [HT.out]; rfl, below_alloc (below_then hnx hb1) _⟩
        · have ht : abv l f a p.u = above l a b := by
            rw [← hab]; conv => rhs; unfold abv
            rw [if_neg he, (isSome_get hp hi).1]
          have HT := Lib.hid ht
          have HF := Lib.hid hf
          clear hab ht hp hi hf
          go_wp2_with (go_at_call 14; (with_reducible refine C.mono ?_); rintro e w1 ⟨rfl, hb1⟩)
          go_roundw
          case rel =>
            have hf := HF.out
            exact ⟨p.u, k + 1, by omega, rfl, by go_num, by rw [← HT.out]; congr 1; omega, below_alloc (below_then hnx hb1) _⟩
          case measure => simp [intOf]; omega
    · obtain ⟨rfl⟩ : k = l.length + 1 := by omega
      have ht : above l a b = false := by rw [← hab, Nat.sub_self]; rfl
      have HT := Lib.hid ht
      clear hab ht
      go_wp2
      go_ret
      exact ⟨by rw [HT.out]; rfl, hnx⟩

end Go.Proofs.Ytfhonobaddkmhaa
