/- Texts laid one behind the other: Ek, Pk, Py, Pz, Ba, Bb, Pe, Tq, Po, Pp. -/
import Derived.Test.YtfpgfclmmdihjaaB06
import Derived.Test.YtfpgfclmmdihjaaRows
import Derived.Lib.QuietBelow
import Derived.BigQuiet
import Derived.Lib.Overlaps
import Derived.Lib.AppendZerosOnto
import Derived.Deep.RegionLaw
import Derived.Deep.CutRange
/- Entries and counts among the arguments, opened. -/
namespace Go.Proofs.Ytfpgfclmmdihjaa
open Go.ChangeShapes Go.WideShapes Go.ChangeAt Go.RowKit Go.Deep Nam Cod

theorem cellsEn : Try.prog.cellsOf 50 = 10 := by kernel_rfl
theorem cellsCn : Try.prog.cellsOf 69 = 3 := by kernel_rfl
set_option maxRecDepth 100000 in
theorem read_en {H : Type} {enc : TypeId × Value → H} {W : World} {base : Nat} {sp : Nat → Bool} {held : Bool} {fuel : Nat} {cs : List Value} {x : DataW H × List MemPlace}
    (h : DataW.trod enc Try.prog W base sp held fuel 50 cs = some x) : ∃ e : En, cs = enE.c e ∧ EnW e ∧ e.o.s.size ≤ maxLen := by
  obtain ⟨xs, n, _, _, hl, hlen, hf⟩ := DataW.trod_struct Try.underlying50 h
  have hl10 : cs.length = 10 := hl.trans cellsEn
  have hl4 : xs.length = 4 := hlen
  match cs, hl10, xs, hl4 with
  | [c0, c1, c2, c3, c4, c5, c6, c7, c8, c9], _, [y0, y1, y2, y3], _ =>
    have h0 := hf 0 _ rfl
    have h1 := hf 1 _ rfl
    have h2 := hf 2 _ rfl
    have h3 := hf 3 _ rfl
    simp [cells25, cells3] at h0 h1 h2 h3
    obtain ⟨k, e0, _, w0⟩ := DataW.trod_int Try.underlying3 h0
    obtain ⟨d, e1, _, w1⟩ := DataW.trod_int Try.underlying3 h1
    obtain ⟨i, e2, _, w2⟩ := DataW.trod_int Try.underlying3 h2
    obtain ⟨C, D, I, M, K, U, s, e3, w3, ws⟩ := read_op h3
    simp at e0 e1 e2 e3
    obtain ⟨e3, e4, e5, e6, e7, e8, e9⟩ := e3
    subst e0 e1 e2 e3 e4 e5 e6 e7 e8 e9
    have b0 := bounds_i64 w0
    have b1 := bounds_i64 w1
    have b2 := bounds_i64 w2
    have g0 : i64 k := by unfold i64; omega
    have g1 : i64 d := by unfold i64; omega
    have g2 : i64 i := by unfold i64; omega
    exact ⟨⟨k, d, i, ⟨C, D, I, M, K, U, s⟩⟩, rfl, ⟨g0, g1, g2, w3⟩, ws⟩
set_option maxRecDepth 100000 in
theorem read_cn {H : Type} {enc : TypeId × Value → H} {W : World} {base : Nat} {sp : Nat → Bool} {held : Bool} {fuel : Nat} {cs : List Value} {x : DataW H × List MemPlace}
    (h : DataW.trod enc Try.prog W base sp held fuel 69 cs = some x) : ∃ c : Cn, cs = cnE.c c ∧ True := by
  obtain ⟨xs, n, _, _, hl, hlen, hf⟩ := DataW.trod_struct Try.underlying69 h
  have hl10 : cs.length = 3 := hl.trans cellsCn
  have hl4 : xs.length = 3 := hlen
  match cs, hl10, xs, hl4 with
  | [c0, c1, c2], _, [y0, y1, y2], _ =>
    have h0 := hf 0 _ rfl
    have h1 := hf 1 _ rfl
    have h2 := hf 2 _ rfl
    simp [cells3] at h0 h1 h2
    obtain ⟨k, e0, _, _⟩ := DataW.trod_int Try.underlying3 h0
    obtain ⟨d, e1, _, _⟩ := DataW.trod_int Try.underlying3 h1
    obtain ⟨i, e2, _, _⟩ := DataW.trod_int Try.underlying3 h2
    simp at e0 e1 e2
    subst e0 e1 e2
    exact ⟨⟨k, d, i⟩, rfl, trivial⟩
set_option maxRecDepth 100000 in
theorem open_en {H : Type} {enc : TypeId × Value → H} {W : World} {base : Nat} {sp : Nat → Bool} {v : Value} {d : DataW H} {ps : List MemPlace}
    (hv : Value.okWide Try.prog W .any base 50 v) (h : DataW.Trod enc Try.prog W 0 sp true 50 v d ps) : ∃ e : En, v = .agg #[.int .i64 e.k, .int .i64 e.d, .int .i64 e.i, .int .i64 e.o.C, .int .i64 e.o.D, .int .i64 e.o.I, .int .i64 e.o.M, .int .i64 e.o.K, .int .i64 e.o.U, .string e.o.s] ∧ EnW e ∧ e.o.s.size ≤ maxLen := by
  obtain ⟨cs, rfl, _⟩ := okWide_struct Try.underlying50 hv
  obtain ⟨fuel, hf⟩ := h
  obtain ⟨e, he, hw, hs⟩ := read_en hf
  refine ⟨e, ?_, hw, hs⟩
  obtain ⟨l⟩ := cs
  simp [Value.cells] at he
  rw [he]
  rfl
instance : Inhabited En := ⟨zeroEn⟩
instance : Inhabited Cn := ⟨zeroCn⟩
set_option maxRecDepth 100000 in
theorem open_ens {H : Type} {enc : TypeId × Value → H} {W : World} {base : Nat} {v : Value} {d : DataW H} {ps : List MemPlace}
    (hv : Value.okWide Try.prog W .any base 42 v) (h : DataW.Trod enc Try.prog W 0 (fun _ => true) true 42 v d ps) :
    ∃ (A : Option Addr) (cap : Nat) (l : List En), v = .slice A l.length cap ∧ enE.Sl W A l ∧ l.length ≤ cap ∧ (A = none → cap = 0) ∧ ∀ e ∈ l, EnW e ∧ e.o.s.size ≤ maxLen :=
  open_list enE (fun e => EnW e ∧ e.o.s.size ≤ maxLen) Try.underlying42 cellsEn (fun h => read_en h) hv h
set_option maxRecDepth 100000 in
theorem open_cns {H : Type} {enc : TypeId × Value → H} {W : World} {base : Nat} {v : Value} {d : DataW H} {ps : List MemPlace}
    (hv : Value.okWide Try.prog W .any base 28 v) (h : DataW.Trod enc Try.prog W 0 (fun _ => true) true 28 v d ps) :
    ∃ (A : Option Addr) (cap : Nat) (l : List Cn), v = .slice A l.length cap ∧ cnE.Sl W A l ∧ l.length ≤ cap ∧ (A = none → cap = 0) ∧ ∀ c ∈ l, True :=
  open_list cnE (fun _ => True) Try.underlying28 cellsCn (fun h => read_cn h) hv h
end Go.Proofs.Ytfpgfclmmdihjaa

/- GiftFreezes, given the program's calls: the snapshot of any place, clock, past and counts is the document's. -/
namespace Go.Proofs.Ytfpgfclmmdihjaa
open Go.ChangeShapes Go.WideShapes Go.ChangeAt Go.RowKit Go.Deep Nam Cod Tre Pst

theorem inv_of_right {q : Pv} (h : PastR q) : PInv q where
  tree := h.1
  t0 := h.2.1
  t1 := h.2.2.1
  ok m hm := by
    obtain ⟨k, hk, rfl⟩ := List.getElem_of_mem hm
    exact (h.2.2.2.1.at k hk).1
  gt m hm := by
    obtain ⟨k, hk, rfl⟩ := List.getElem_of_mem hm
    exact (h.2.2.2.1.at k hk).2.1
  ris := by
    unfold Ris
    rw [List.pairwise_iff_getElem]
    intro i j hi hj hij
    induction j with
    | zero => omega
    | succ j ih =>
      have h1 := (h.2.2.2.1.at (j + 1) hj).2.2 (Nat.succ_pos j)
      simp only [Nat.add_sub_cancel] at h1
      by_cases e : i = j
      · subst e; exact h1
      · have h2 := ih (by omega) (by omega)
        unfold bef at h1 h2 ⊢
        omega
  un := h.2.2.2.2.2
  nw := h.2.2.2.2.1
/-- A row's contract, with the claim's bound on sizes handed to it. -/
theorem handed_sizedP {H : Type} {enc : TypeId × Value → H} {a : Assume} {C : Checked} {os : Os} {f : FuncId} {fn : Func} {s : ChangeSpec} {conds : List PathCond} {apart fresh handsOn again : Bool}
    (own : ownKnob C.prog.godebug = none) (started : os.Started) (noInit : C.prog.inits.idxOf? f = none) (hfn : C.prog.funcs[f]? = some fn)
    (witness : ∃ (w : World) (tape : Tape) (i : Input), w.os = os ∧ (w.forCall tape i).Shaped C.prog ∧ i.vars = [] ∧ Input.okWide C.prog (w.forCall tape i) .any w.heap.size f i ∧
      s.pre6 enc C.prog fn conds apart (w.forCall tape i).memory i.args ∧ a.holds C.prog (lone (Frame.enter C.prog f i.args .normal) [] (w.forCall tape i)))
    (contract : ∀ (W : World) (base : Nat) (args : Array Value) (ds gs : List (DataW H)) (before : List MemPlace),
      (∀ (j : Nat) t v, fn.params[j]? = some t → args[j]? = some v → Value.okWide C.prog W .any base t v) →
      DataW.Whole enc C.prog fn.params.toList s.vars apart W args.toList ds gs before →
      (DataW.weightsEach C.prog (fn.params.toList ++ s.plain.varTypes C.prog) (ds ++ gs)).all (· ≤ reachBytes) = true →
      Calls C.prog f args W fun e W' => ∃ v, e = .returned v ∧ s.post enc C.prog fn apart fresh handsOn again W args v W') :
    ReturnsInHanded a C os f .any (s.pre6 enc C.prog fn conds apart) (s.post enc C.prog fn apart fresh handsOn again) := by
  have h := returnsInHanded_of_change_and (enc := enc) (s := s) (conds := conds) (apart := apart) (fresh := fresh) (handsOn := handsOn) (again := again) (X := fun _ _ => True) (fun _ _ _ _ h => h) own started noInit hfn
    (by obtain ⟨w, tape, i, h1, h2, h3, h4, h5, h6⟩ := witness; exact ⟨w, tape, i, h1, h2, h3, h4, ⟨⟨h5.1, trivial⟩, h5.2⟩, h6⟩)
    (fun W base args ds gs before h1 h2 _ h4 _ _ => contract W base args ds gs before h1 h2 h4)
  have e : (fun w args => (s.pre enc C.prog fn conds apart w args ∧ True) ∧ sizedMet enc C.prog fn (OpenSpec.ofChange s) apart w args) = s.pre6 enc C.prog fn conds apart := by
    funext w args
    unfold ChangeSpec.pre6
    rw [and_true]
  rw [e] at h
  exact h
set_option maxRecDepth 100000 in
theorem open_int2P {H : Type} {enc : TypeId × Value → H} {W : World} {base : Nat} {sp : Nat → Bool} {v : Value} {d : DataW H} {ps : List MemPlace}
    (hv : Value.okWide Try.prog W .any base 22 v) (h : DataW.Trod enc Try.prog W 0 sp true 22 v d ps) : ∃ a b : Int, v = .agg #[.int .i64 a, .int .i64 b] ∧ i64 a ∧ i64 b := by
  obtain ⟨cs, rfl, hsz⟩ : ∃ cs : Array Value, v = .agg cs ∧ cs.size = 2 := by
    simp only [Value.okWide, Try.underlying22] at hv
    obtain ⟨cs, h1, h2, _⟩ := hv
    exact ⟨cs, h1, by rw [h2]; kernel_rfl⟩
  obtain ⟨fuel, hf⟩ := h
  obtain ⟨xs, m, rfl, _, hlen, hn, hel⟩ := DataW.trod_array Try.underlying22 hf
  have hcs : (Value.agg cs).cells.toList = cs.toList := rfl
  rw [hcs] at hel
  have hone : ∀ i, i < 2 → ∃ a : Int, cs[i]? = some (.int .i64 a) ∧ i64 a := by
    intro i hi
    have h1 := hel i hi
    rw [cells3, Nat.mul_one] at h1
    obtain ⟨x, hxk⟩ : ∃ x, xs[i]? = some x := ⟨_, List.getElem?_eq_getElem (by omega)⟩
    rw [hxk] at h1
    obtain ⟨n, e1, _, wf⟩ := DataW.trod_int Try.underlying3 h1
    have hb := bounds_i64 wf
    have h5 := congrArg (·[0]?) e1
    refine ⟨n, ?_, by unfold i64; omega⟩
    rw [← Array.getElem?_toList]
    simpa using h5
  obtain ⟨a, ha, ha2⟩ := hone 0 (by decide)
  obtain ⟨b, hb, hb2⟩ := hone 1 (by decide)
  refine ⟨a, b, ?_, ha2, hb2⟩
  congr 1
  apply Array.ext
  · rw [hsz]; rfl
  · intro i h1 h2
    have h3 : i < 2 := by omega
    match i, h3 with
    | 0, _ => rw [Array.getElem?_eq_getElem h1] at ha; exact Option.some.inj ha
    | 1, _ => rw [Array.getElem?_eq_getElem h1] at hb; exact Option.some.inj hb
theorem slice_lenP {st e : TypeId} (hu : Try.prog.underlying st = some (.slice e)) (hb : 0 < Try.prog.bytesOf e) {H : Type} {enc : TypeId × Value → H} {W : World} {fuel : Nat} {A : Option Addr} {n c : Nat} {x : DataW H × List MemPlace}
    (h : DataW.trod enc Try.prog W 0 (fun _ => true) true fuel st [.slice A n c] = some x) (hw : (x.1.weights Try.prog st).all (· ≤ reachBytes) = true) : n ≤ reachBytes := by
  rcases DataW.trod_slice hu h with ⟨e1, _⟩ | ⟨a, len, cap, elems, rest, m, _, e1, e2, _, _, _, hlen, _⟩
  · simp at e1; rw [e1.2.1]; exact Nat.zero_le _
  · simp at e1
    obtain ⟨_, rfl, _⟩ := e1
    rw [e2] at hw
    simp only [DataW.weights, hu, List.all_cons, Bool.and_eq_true, decide_eq_true_iff, List.length_map] at hw
    have h1 := hw.1
    have h2 : elems.length * 1 ≤ (elems.length + rest.length) * Try.prog.bytesOf e := Nat.mul_le_mul (by omega) hb
    omega
def PaLen (x : Pw) : Prop := x.base.length ≤ reachBytes ∧ x.ops.length ≤ reachBytes ∧ x.us.length ≤ reachBytes ∧ x.now.length ≤ reachBytes
set_option maxRecDepth 100000 in
/-- Five cells that read as a past. -/
theorem read_pastN {H : Type} {enc : TypeId × Value → H} {W : World} {fuel : Nat} {cs : List Value} {x : DataW H × List MemPlace}
    (h : DataW.trod enc Try.prog W 0 (fun _ => true) true fuel 27 cs = some x) (hw : (x.1.weights Try.prog 27).all (· ≤ reachBytes) = true) : ∃ x : Pw, cs = pwE.c x ∧ PastOk W x ∧ ((∀ p ∈ x.base, WidePl p) ∧ ∀ m ∈ x.ops, WideMv m) ∧ PaLen x := by
  obtain ⟨xs, n, _, hx, hl, hlen, hf⟩ := DataW.trod_struct Try.underlying27 h
  have hl5 : cs.length = 5 := hl.trans cellsPa
  have hl3 : xs.length = 5 := hlen
  match cs, hl5, xs, hl3 with
  | [c0, c1, c2, c3, c4], _, [y0, y1, y2, y3, y4], _ =>
    have h0 := hf 0 _ rfl
    have h1 := hf 1 _ rfl
    have h2 := hf 2 _ rfl
    have h3 := hf 3 _ rfl
    have h4 := hf 4 _ rfl
    simp [cells3, cellsPls, cellsOps, cellsUns] at h0 h1 h2 h3 h4
    obtain ⟨bA, bc, base, e0, v0, q0⟩ := open_cells plE WidePl Try.underlying23 cells24 (fun h => read_pl h) h0
    obtain ⟨t, e1, _, _⟩ := DataW.trod_int Try.underlying3 h1
    obtain ⟨oA, oc, ops, e2, v2, q2⟩ := open_cells opE WideMv Try.underlying24 cells25 (fun h => by
      obtain ⟨C, D, I, M, K, U, t, rfl, hw, ht⟩ := read_op h
      exact ⟨⟨C, D, I, M, K, U, t⟩, rfl, hw, ht⟩) h2
    obtain ⟨uA, uc, us, e3, v3, _⟩ := open_cells unE (fun _ => True) Try.underlying25 cellsUn (fun h => read_un h) h3
    obtain ⟨wA, wc, now, e4, v4, _⟩ := open_cells plE WidePl Try.underlying23 cells24 (fun h => read_pl h) h4
    simp at e0 e1 e2 e3 e4
    subst e0 e1 e2 e3 e4
    rw [hx] at hw
    simp only [DataW.weights, Try.underlying27, List.map_cons, List.map_nil, DataW.weightsEach, List.all_append, Bool.and_eq_true] at hw
    have g0 := slice_lenP Try.underlying23 (by decide +kernel) h0 hw.1
    have g2 := slice_lenP Try.underlying24 (by decide +kernel) h2 hw.2.2.1
    have g3 := slice_lenP Try.underlying25 (by decide +kernel) h3 hw.2.2.2.1
    have g4 := slice_lenP Try.underlying23 (by decide +kernel) h4 hw.2.2.2.2.1
    exact ⟨⟨bA, bc, base, t, oA, oc, ops, uA, uc, us, wA, wc, now⟩, rfl, ⟨v0, v2, v3, v4⟩, ⟨q0, q2⟩, ⟨g0, g2, g3, g4⟩⟩

set_option maxRecDepth 100000 in
theorem open_pastN {H : Type} {enc : TypeId × Value → H} {W : World} {base : Nat} {v : Value} {d : DataW H} {ps : List MemPlace}
    (hv : Value.okWide Try.prog W .any base 27 v) (h : DataW.Trod enc Try.prog W 0 (fun _ => true) true 27 v d ps) (hw : (d.weights Try.prog 27).all (· ≤ reachBytes) = true) : ∃ x : Pw, v = .agg #[.slice x.bA x.base.length x.bc, .int .i64 x.t, .slice x.oA x.ops.length x.oc, .slice x.uA x.us.length x.uc, .slice x.wA x.now.length x.wc] ∧ PastOk W x ∧ ((∀ p ∈ x.base, WidePl p) ∧ ∀ m ∈ x.ops, WideMv m) ∧ PaLen x := by
  obtain ⟨cs, rfl, _⟩ := okWide_struct Try.underlying27 hv
  obtain ⟨fuel, hf⟩ := h
  obtain ⟨x, e, hw⟩ := read_pastN hf hw
  refine ⟨x, ?_, hw⟩
  obtain ⟨l⟩ := cs
  simp [Value.cells] at e
  rw [e]
  rfl
set_option maxRecDepth 100000 in
theorem read_cnP {H : Type} {enc : TypeId × Value → H} {W : World} {base : Nat} {sp : Nat → Bool} {held : Bool} {fuel : Nat} {cs : List Value} {x : DataW H × List MemPlace}
    (h : DataW.trod enc Try.prog W base sp held fuel 69 cs = some x) : ∃ c : Cn, cs = cnE.c c ∧ CnW c := by
  obtain ⟨xs, n, _, _, hl, hlen, hf⟩ := DataW.trod_struct Try.underlying69 h
  have hl10 : cs.length = 3 := hl.trans cellsCn
  have hl4 : xs.length = 3 := hlen
  match cs, hl10, xs, hl4 with
  | [c0, c1, c2], _, [y0, y1, y2], _ =>
    have h0 := hf 0 _ rfl
    have h1 := hf 1 _ rfl
    have h2 := hf 2 _ rfl
    simp [cells3] at h0 h1 h2
    obtain ⟨k, e0, _, w0⟩ := DataW.trod_int Try.underlying3 h0
    obtain ⟨d, e1, _, w1⟩ := DataW.trod_int Try.underlying3 h1
    obtain ⟨i, e2, _, w2⟩ := DataW.trod_int Try.underlying3 h2
    simp at e0 e1 e2
    subst e0 e1 e2
    have b0 := bounds_i64 w0
    have b1 := bounds_i64 w1
    have b2 := bounds_i64 w2
    exact ⟨⟨k, d, i⟩, rfl, by unfold CnW i64; dsimp only; omega⟩
set_option maxRecDepth 100000 in
theorem open_cnsP {H : Type} {enc : TypeId × Value → H} {W : World} {base : Nat} {v : Value} {d : DataW H} {ps : List MemPlace}
    (hv : Value.okWide Try.prog W .any base 28 v) (h : DataW.Trod enc Try.prog W 0 (fun _ => true) true 28 v d ps) :
    ∃ (A : Option Addr) (cap : Nat) (l : List Cn), v = .slice A l.length cap ∧ cnE.Sl W A l ∧ l.length ≤ cap ∧ (A = none → cap = 0) ∧ ∀ c ∈ l, CnW c :=
  open_list cnE CnW Try.underlying28 cellsCn (fun h => read_cnP h) hv h
set_option maxRecDepth 100000 in
set_option maxHeartbeats 8000000 in
theorem freezes17_any (H : GiftCalls) (x0 x1 : Int) (y : Pw) (A : Option Addr) (c : Nat) (l : List Cn) (w : World) (hx0 : i64 x0) (hx1 : i64 x1) (hok : PastOk w y) (hlen : PaLen y) (hwb : ∀ p ∈ y.base, p.s.size ≤ 9223372036854775807) (hwo : ∀ m ∈ y.ops, m.s.size ≤ 9223372036854775807) (hT : SlV cnE w A c l) (hcw : ∀ x ∈ l, CnW x) : Calls Try.prog 3 #[.agg #[.int .i64 x0, .int .i64 x1], .agg #[.slice y.bA y.base.length y.bc, .int .i64 y.t, .slice y.oA y.ops.length y.oc, .slice y.uA y.us.length y.uc, .slice y.wA y.now.length y.wc], .slice A l.length c] w fun r w' => r = .returned (.bool true) ∧ Below w.heap.size w w' := by
  have hc0 : ((w.alloc (.cells #[.int .i64 x0, .int .i64 x1] 22)).alloc (.cells #[.slice y.bA y.base.length y.bc, .int .i64 y.t, .slice y.oA y.ops.length y.oc, .slice y.uA y.us.length y.uc, .slice y.wA y.now.length y.wc] 27)).cell? ⟨w.heap.size, 0, none⟩ = some (.int .i64 x0) := by go_simp
  have hc1 : ((w.alloc (.cells #[.int .i64 x0, .int .i64 x1] 22)).alloc (.cells #[.slice y.bA y.base.length y.bc, .int .i64 y.t, .slice y.oA y.ops.length y.oc, .slice y.uA y.us.length y.uc, .slice y.wA y.now.length y.wc] 27)).cell? ⟨w.heap.size, 1, none⟩ = some (.int .i64 x1) := by go_simp
  have hP : pwE.In ((w.alloc (.cells #[.int .i64 x0, .int .i64 x1] 22)).alloc (.cells #[.slice y.bA y.base.length y.bc, .int .i64 y.t, .slice y.oA y.ops.length y.oc, .slice y.uA y.us.length y.uc, .slice y.wA y.now.length y.wc] 27)) (w.heap.size + 1) y := by
    have h := El.In.new (E := pwE) (w.alloc (.cells #[.int .i64 x0, .int .i64 x1] 22)) y _ rfl
    rw [alloc_size] at h; exact h
  have hB := below_alloc (below_alloc (Below.refl w.heap.size w) (.cells #[.int .i64 x0, .int .i64 x1] 22)) (.cells #[.slice y.bA y.base.length y.bc, .int .i64 y.t, .slice y.oA y.ops.length y.oc, .slice y.uA y.us.length y.uc, .slice y.wA y.now.length y.wc] 27)
  have HOK := Lib.hid hok
  have HT := Lib.hid hT
  obtain ⟨l1, l2, l3, l4⟩ := hlen
  have hrb : reachBytes ≤ 140737488355328 := by decide
  clear hok hT
  go_enter Try.func3, Try.ntmps3
  go_upto_region 1 with fail
  generalize (w.alloc (.cells #[.int .i64 x0, .int .i64 x1] 22)).alloc (.cells #[.slice y.bA y.base.length y.bc, .int .i64 y.t, .slice y.oA y.ops.length y.oc, .slice y.uA y.us.length y.uc, .slice y.wA y.now.length y.wc] 27) = W at *
  obtain ⟨n2, hn2⟩ : ∃ n, w.heap.size + 1 = n := ⟨_, rfl⟩
  obtain ⟨n1, hn1⟩ : ∃ n, w.heap.size = n := ⟨_, rfl⟩
  rw [hn2] at hP ⊢
  rw [hn1] at hc0 hc1 ⊢
  clear hn1 hn2
  have hn1W : n1 < W.heap.size := World.block_lt_of_cell? _ _ hc0
  obtain ⟨p0, p1, p2, p3, p4⟩ := pwIn5 hP
  by_cases ho : 40 < y.ops.length
  · have e1 : decide ((40 : Int) < (y.ops.length : Int)) = true := decide_eq_true (by omega)
    have e2 : decide (40 < y.ops.length) = true := decide_eq_true ho
    go_wp2_with fail
    refine (awake17_any H _).mono ?_
    rintro r w1 ⟨rfl, hb1⟩
    go_wp2_with fail
    go_ret
    exact ⟨rfl, below_then hB hb1⟩
  · have e1 : decide ((40 : Int) < (y.ops.length : Int)) = false := decide_eq_false (by omega)
    have e2 : decide (40 < y.ops.length) = false := decide_eq_false ho
    by_cases hl : 12 < l.length
    · have e3 : decide ((12 : Int) < (l.length : Int)) = true := decide_eq_true (by omega)
      have e4 : decide (12 < l.length) = true := decide_eq_true hl
      go_wp2_with fail
      refine (awake17_any H _).mono ?_
      rintro r w1 ⟨rfl, hb1⟩
      go_wp2_with fail
      go_ret
      exact ⟨rfl, below_then hB hb1⟩
    · have e3 : decide ((12 : Int) < (l.length : Int)) = false := decide_eq_false (by omega)
      have e4 : decide (12 < l.length) = false := decide_eq_false hl
      have CR := Lib.hid (fun bv hbv => refPastRightG_any y W (HOK.out.below hB) (by omega) (by omega) (by omega) (by omega) hwb hwo bv hbv)
      by_cases hR : PastR y.v
      · have CT := Lib.hid (CR.out true ⟨fun _ => hR, fun _ => rfl⟩)
        have hI := inv_of_right hR
        have F1 := Lib.hid (fun wx (hb : Below w.heap.size w wx) => H.freeze x0 x1 y A c l wx hx0 hx1 hI (by omega) (HOK.out.below hb) (by omega) hcw (SlV.below HT.out hb))
        have F2 := Lib.hid (fun wx (hb : Below w.heap.size w wx) => refFreeze_any x0 x1 y A c l wx hx0 hx1 hI (by omega) (HOK.out.below hb) (by omega) hcw (SlV.below HT.out hb).1)
        generalize snBytes ⟨x0, x1, y.v, l⟩ = X at *
        clear hR hI CR
        go_wp2_with fail
        refine CT.out.mono ?_
        clear p0 p1 p2 p3 p4 e1 e2 e3 e4 CT
        rintro r w1 ⟨rfl, hb1⟩
        have hB1 := below_then hB hb1
        replace hP := hP.below hb1
        replace hc0 := ((bcell hb1).1 n1 0 hn1W).trans hc0
        replace hc1 := ((bcell hb1).1 n1 1 hn1W).trans hc1
        have hn1w := Nat.lt_of_lt_of_le hn1W hb1.size
        clear hb1
        have HA := Lib.hid (fun wx => awake17_any H wx)
        go_upto_region 3 with fail
        have d1 : ∀ d' os, Calls Try.prog 9 #[] (Sort.grow (redrawn w1 d') os) fun e w'' => e = .returned (.bool true) ∧ ∃ p : Regrown, w'' = Sort.grow (redrawn w1 p.d) p.os := fun d' os => Calls.regrown_of (HA.out _)
        have d2 : ∀ d' os, Calls Try.prog 10 #[.int .i64 x0, .int .i64 x1, .agg #[.slice y.bA y.base.length y.bc, .int .i64 y.t, .slice y.oA y.ops.length y.oc, .slice y.uA y.us.length y.uc, .slice y.wA y.now.length y.wc], .slice A l.length c] (Sort.grow (redrawn w1 d') os) fun e w'' => e = .returned (.string X) ∧ ∃ p : Regrown, w'' = Sort.grow (redrawn w1 p.d) p.os := fun d' os => Calls.regrown_of (F1.out _ (below_then hB1 (below_regrown w1 d' os)))
        have d3 : ∀ d' os, Calls Try.prog 11 #[.int .i64 x0, .int .i64 x1, .agg #[.slice y.bA y.base.length y.bc, .int .i64 y.t, .slice y.oA y.ops.length y.oc, .slice y.uA y.us.length y.uc, .slice y.wA y.now.length y.wc], .slice A l.length c] (Sort.grow (redrawn w1 d') os) fun e w'' => e = .returned (.string X) ∧ ∃ p : Regrown, w'' = Sort.grow (redrawn w1 p.d) p.os := fun d' os => Calls.regrown_of (F2.out _ (below_then hB1 (below_regrown w1 d' os)))
        obtain ⟨p0, p1, p2, p3, p4⟩ := pwIn5 hP
        have k0 := cell_regrown p0
        have k1 := cell_regrown p1
        have k2 := cell_regrown p2
        have k3 := cell_regrown p3
        have k4 := cell_regrown p4
        have m0 := cell_regrown hc0
        have m1 := cell_regrown hc1
        clear p0 p1 p2 p3 p4 hc0 hc1 F1 F2 hP
        refine wp_region_quiet_below (by kernel_rfl) (by as_aux_lemma => kernel_rfl) ?_
        repeat (go_big_quiet_step ((with_reducible (first | exact d1 _ _ | exact d2 _ _ | exact d3 _ _))))
        refine wpQuiet_nil ?_
        intro _ hw'
        obtain ⟨⟨dq, osq⟩, hw''⟩ := hw'
        subst hw''
        go_wp2_with fail
        go_ret
        exact ⟨rfl, below_then hB1 (below_regrown w1 dq osq)⟩
      · have CF := Lib.hid (CR.out false ⟨fun h => (by cases h), fun h => absurd h hR⟩)
        clear hR CR
        go_wp2_with fail
        refine CF.out.mono ?_
        rintro r w1 ⟨rfl, hb1⟩
        replace hB := below_then hB hb1
        clear p0 p1 p2 p3 p4 CF hb1
        go_wp2_with fail
        refine (awake17_any H _).mono ?_
        rintro r w1 ⟨rfl, hb1⟩
        go_wp2_with fail
        go_ret
        exact ⟨rfl, below_then hB hb1⟩
set_option maxRecDepth 100000 in
theorem freezes17_lifted (H0 : GiftCalls) (os : Os) (started : os.Started) (H : Type) (enc : TypeId × Value → H) :
    ReturnsInHanded {} Try.checked os 3 .any (Rows.giftFreezesSpec.pre6 enc Try.prog Try.f3 Rows.giftFreezesRow.domain false) (Rows.giftFreezesSpec.post enc Try.prog Try.f3 false true false false) := by
  refine handed_sizedP (C := Try.checked) own started (by kernel_rfl) Try.func3
    (ChangeSpec.witness6 (enc := enc) (C := Try.checked) false ⟨#[], #[.agg #[.int .i64 0, .int .i64 0], .agg #[.slice none 0 0, .int .i64 0, .slice none 0 0, .slice none 0 0, .slice none 0 0], .slice none 0 0], []⟩ 8 (by kernel_rfl) (by kernel_rfl) (by kernel_rfl) (by kernel_rfl)) ?_
  intro W base args ds gs before hval0 hW hL0
  have hval : ∀ (j : Nat) t v, Try.f3.params[j]? = some t → args[j]? = some v → Value.okWide Try.prog W .any base t v := hval0
  have hW' := hW
  obtain ⟨p, q, hA0, hV, rfl, _, _⟩ := hW
  have hA : DataW.TrodAll enc Try.prog W 0 (fun _ => true) true Try.f3.params.toList args.toList ds p := hA0
  rw [Try.params3] at hA hval
  obtain ⟨v0, v1, v2, d0, d1, d2, p0, p1, p2, rfl, rfl, rfl, h0, h1, h2⟩ := trodAll_three hA
  simp only [Try.params3, List.cons_append, List.nil_append, DataW.weightsEach, List.all_append, Bool.and_eq_true] at hL0
  obtain ⟨x0, x1, rfl, i0, i1⟩ := open_int2P (hval 0 22 v0 rfl rfl) h0
  obtain ⟨y, rfl, hok, hwd, hlen⟩ := open_pastN (hval 1 27 v1 rfl rfl) h1 hL0.2.1
  obtain ⟨A, c, l, rfl, hS, hS1, hS2, hcw⟩ := open_cnsP (hval 2 28 v2 rfl rfl) h2
  have hc : Calls Try.prog 3 #[.agg #[.int .i64 x0, .int .i64 x1], .agg #[.slice y.bA y.base.length y.bc, .int .i64 y.t, .slice y.oA y.ops.length y.oc, .slice y.uA y.us.length y.uc, .slice y.wA y.now.length y.wc], .slice A l.length c] W fun e w' => e = .returned (.bool true) ∧ Below W.heap.size W w' := by
    exact freezes17_any H0 x0 x1 y A c l W i0 i1 hok hlen (fun p hp => by have h := (hwd.1 p hp).2.2; unfold maxLen at h; omega) (fun m hm => by have h := (hwd.2 m hm).2; unfold maxLen at h; omega) ⟨hS, hS2, hS1⟩ hcw
  refine hc.mono fun e W' ⟨he, hb⟩ => ?_
  subst he
  exact ⟨_, rfl, Frm.law_post (by kernel_rfl) (by kernel_rfl) (by kernel_rfl) Try.underlying4 rfl rfl hW' hb⟩

theorem freezes17_holds (H0 : GiftCalls) : Rows.GiftFreezesSaid :=
  OpenClaim.holds_of_wide 3 Try.f3 rfl rfl rfl rfl rfl rfl rfl ⟨rfl, rfl, rfl, rfl, rfl⟩ rfl rfl rfl rfl rfl (by kernel_rfl) Try.func3 (by kernel_rfl)
    (of_decide_eq_true (by kernel_rfl)) (by unfold Func.isWrapper; first | (rw [if_pos (by decide +kernel)]; kernel_rfl) | (rw [if_neg (by decide +kernel)]; exact ⟨rfl, rfl⟩))
    (fun os started H enc _ => freezes17_lifted H0 os started H enc)
end Go.Proofs.Ytfpgfclmmdihjaa

/- The program's Newer and Wanted of gifts. -/
namespace Go.Proofs.Ytfpgfclmmdihjaa
open Go.RowKit Nam Cod Tre Pst

set_option maxRecDepth 100000 in
set_option maxHeartbeats 2000000 in
theorem pNewerG_any (a b : Gf) (w : World) : Calls Try.prog 17 #[.agg #[.int .i64 a.d, .int .i64 a.i, .int .i64 a.c, .int .i64 a.t, .string a.s], .agg #[.int .i64 b.d, .int .i64 b.i, .int .i64 b.c, .int .i64 b.t, .string b.s]] w fun e w' => e = .returned (.bool (newG a b)) ∧ Below w.heap.size w w' := by
  have hP : gfE.In ((w.alloc (.cells #[.int .i64 a.d, .int .i64 a.i, .int .i64 a.c, .int .i64 a.t, .string a.s] 37)).alloc (.cells #[.int .i64 b.d, .int .i64 b.i, .int .i64 b.c, .int .i64 b.t, .string b.s] 37)) w.heap.size a := (El.In.new (E := gfE) w a _ rfl).alloc _
  have hQ : gfE.In ((w.alloc (.cells #[.int .i64 a.d, .int .i64 a.i, .int .i64 a.c, .int .i64 a.t, .string a.s] 37)).alloc (.cells #[.int .i64 b.d, .int .i64 b.i, .int .i64 b.c, .int .i64 b.t, .string b.s] 37)) (w.heap.size + 1) b := by
    have h := El.In.new (E := gfE) (w.alloc (.cells #[.int .i64 a.d, .int .i64 a.i, .int .i64 a.c, .int .i64 a.t, .string a.s] 37)) b _ rfl
    rw [alloc_size] at h; exact h
  have hB := below_alloc (below_alloc (Below.refl w.heap.size w) (.cells #[.int .i64 a.d, .int .i64 a.i, .int .i64 a.c, .int .i64 a.t, .string a.s] 37)) (.cells #[.int .i64 b.d, .int .i64 b.i, .int .i64 b.c, .int .i64 b.t, .string b.s] 37)
  obtain ⟨_, p1, p2, p3, _⟩ := gfIn5 hP
  obtain ⟨_, q1, q2, q3, _⟩ := gfIn5 hQ
  clear hP hQ
  cases h2 : decide (a.i = b.i) with
  | false =>
    have e2 : (a.i == b.i) = false := h2
    have e2b : (a.i != b.i) = true := by simp [bne, e2]
    have e2c : decide (¬ a.i = b.i) = true := by simpa using h2
    cases h1 : decide (b.i < a.i) with
    | true =>
      have hv : newG a b = true := by unfold newG; rw [h1]; rfl
      rw [hv]
      clear hv
      go_enter Try.func17, Try.ntmps17
      go_upto_region 1 with fail
      generalize (w.alloc (.cells #[.int .i64 a.d, .int .i64 a.i, .int .i64 a.c, .int .i64 a.t, .string a.s] 37)).alloc (.cells #[.int .i64 b.d, .int .i64 b.i, .int .i64 b.c, .int .i64 b.t, .string b.s] 37) = W at *
      generalize w.heap.size + 1 = n2 at *
      go_wp2_with fail
      go_ret
      exact ⟨rfl, hB⟩
    | false =>
      have hv : newG a b = false := by unfold newG; rw [h1, h2]; rfl
      rw [hv]
      clear hv
      go_enter Try.func17, Try.ntmps17
      go_upto_region 1 with fail
      generalize (w.alloc (.cells #[.int .i64 a.d, .int .i64 a.i, .int .i64 a.c, .int .i64 a.t, .string a.s] 37)).alloc (.cells #[.int .i64 b.d, .int .i64 b.i, .int .i64 b.c, .int .i64 b.t, .string b.s] 37) = W at *
      generalize w.heap.size + 1 = n2 at *
      go_wp2_with fail
      go_ret
      exact ⟨rfl, hB⟩
  | true =>
    have e2 : (a.i == b.i) = true := h2
    have e2b : (a.i != b.i) = false := by simp [bne, e2]
    have e2c : decide (¬ a.i = b.i) = false := by simpa using h2
    have h1 : decide (b.i < a.i) = false := by have := of_decide_eq_true h2; exact decide_eq_false (by omega)
    cases h3 : decide (a.t = 0) with
    | true =>
      have hv : newG a b = true := by unfold newG; rw [h1, h2, h3]; rfl
      have e3 : (a.t == 0) = true := h3
      rw [hv]
      clear hv
      go_enter Try.func17, Try.ntmps17
      go_upto_region 1 with fail
      generalize (w.alloc (.cells #[.int .i64 a.d, .int .i64 a.i, .int .i64 a.c, .int .i64 a.t, .string a.s] 37)).alloc (.cells #[.int .i64 b.d, .int .i64 b.i, .int .i64 b.c, .int .i64 b.t, .string b.s] 37) = W at *
      generalize w.heap.size + 1 = n2 at *
      go_wp2_with fail
      go_ret
      exact ⟨rfl, hB⟩
    | false =>
      have e3 : (a.t == 0) = false := h3
      by_cases h4 : b.t = 0
      · have hv : newG a b = false := by unfold newG; rw [h1, h2, h3, decide_eq_false (show ¬ b.t ≠ 0 from fun h => h h4)]; rfl
        have e4 : (b.t == 0) = true := beq_iff_eq.2 h4
        have e5 : (b.t != 0) = false := by simp [h4]
        have e6 : decide (b.t = 0) = true := decide_eq_true h4
        have e7 : decide (¬ b.t = 0) = false := by simp [h4]
        clear h4
        rw [hv]
        clear hv
        go_enter Try.func17, Try.ntmps17
        go_upto_region 1 with fail
        generalize (w.alloc (.cells #[.int .i64 a.d, .int .i64 a.i, .int .i64 a.c, .int .i64 a.t, .string a.s] 37)).alloc (.cells #[.int .i64 b.d, .int .i64 b.i, .int .i64 b.c, .int .i64 b.t, .string b.s] 37) = W at *
        generalize w.heap.size + 1 = n2 at *
        go_wp2_with fail
        go_ret
        exact ⟨rfl, hB⟩
      · have hv : newG a b = decide (b.c ≤ a.c) := by unfold newG; rw [h1, h2, h3, decide_eq_true (show b.t ≠ 0 from h4)]; rfl
        have e4 : (b.t == 0) = false := beq_eq_false_iff_ne.2 h4
        have e5 : (b.t != 0) = true := by simp [h4]
        have e6 : decide (b.t = 0) = false := decide_eq_false h4
        have e7 : decide (¬ b.t = 0) = true := by simp [h4]
        clear h4
        rw [hv]
        clear hv
        go_enter Try.func17, Try.ntmps17
        go_upto_region 1 with fail
        generalize (w.alloc (.cells #[.int .i64 a.d, .int .i64 a.i, .int .i64 a.c, .int .i64 a.t, .string a.s] 37)).alloc (.cells #[.int .i64 b.d, .int .i64 b.i, .int .i64 b.c, .int .i64 b.t, .string b.s] 37) = W at *
        generalize w.heap.size + 1 = n2 at *
        go_wp2_with fail
        go_ret
        exact ⟨rfl, hB⟩

def needV (g : Gf) (r : Rp) : Bool := decide (g.i < r.i) || (decide (r.i = g.i) && (decide (r.m = 1) || (decide (g.t ≠ 0) && decide (g.c < r.k))))
theorem outG_need (g : Gf) (r : Rp) : outG g r = (decide (r.d = g.d) && needV g r) := rfl
set_option maxRecDepth 100000 in
set_option maxHeartbeats 2000000 in
theorem pNeedless_any (g : Gf) (r : Rp) (w : World) : Calls Try.prog 46 #[.agg #[.int .i64 g.d, .int .i64 g.i, .int .i64 g.c, .int .i64 g.t, .string g.s], .agg #[.int .i64 r.d, .int .i64 r.i, .int .i64 r.b, .int .i64 r.t, .int .i64 r.m, .int .i64 r.p, .int .i64 r.c, .int .i64 r.s, .int .i64 r.k]] w fun e w' => e = .returned (.bool (needV g r)) ∧ Below w.heap.size w w' := by
  have hP : gfE.In ((w.alloc (.cells #[.int .i64 g.d, .int .i64 g.i, .int .i64 g.c, .int .i64 g.t, .string g.s] 37)).alloc (.cells #[.int .i64 r.d, .int .i64 r.i, .int .i64 r.b, .int .i64 r.t, .int .i64 r.m, .int .i64 r.p, .int .i64 r.c, .int .i64 r.s, .int .i64 r.k] 56)) w.heap.size g := (El.In.new (E := gfE) w g _ rfl).alloc _
  have hQ : rpE.In ((w.alloc (.cells #[.int .i64 g.d, .int .i64 g.i, .int .i64 g.c, .int .i64 g.t, .string g.s] 37)).alloc (.cells #[.int .i64 r.d, .int .i64 r.i, .int .i64 r.b, .int .i64 r.t, .int .i64 r.m, .int .i64 r.p, .int .i64 r.c, .int .i64 r.s, .int .i64 r.k] 56)) (w.heap.size + 1) r := by
    have h := El.In.new (E := rpE) (w.alloc (.cells #[.int .i64 g.d, .int .i64 g.i, .int .i64 g.c, .int .i64 g.t, .string g.s] 37)) r _ rfl
    rw [alloc_size] at h; exact h
  have hB := below_alloc (below_alloc (Below.refl w.heap.size w) (.cells #[.int .i64 g.d, .int .i64 g.i, .int .i64 g.c, .int .i64 g.t, .string g.s] 37)) (.cells #[.int .i64 r.d, .int .i64 r.i, .int .i64 r.b, .int .i64 r.t, .int .i64 r.m, .int .i64 r.p, .int .i64 r.c, .int .i64 r.s, .int .i64 r.k] 56)
  obtain ⟨_, p1, p2, p3, _⟩ := gfIn5 hP
  obtain ⟨_, q1, _, _, q4, _, _, _, q8⟩ := rpIn9 hQ
  clear hP hQ
  cases h2 : decide (r.i = g.i) with
  | false =>
    have e2 : (r.i == g.i) = false := h2
    have e2b : (r.i != g.i) = true := by simp [bne, e2]
    have e2c : decide (¬ r.i = g.i) = true := by simpa using h2
    cases h1 : decide (g.i < r.i) with
    | true =>
      have hv : needV g r = true := by unfold needV; rw [h1]; rfl
      rw [hv]
      clear hv
      go_enter Try.func46, Try.ntmps46
      go_upto_region 1 with fail
      generalize (w.alloc (.cells #[.int .i64 g.d, .int .i64 g.i, .int .i64 g.c, .int .i64 g.t, .string g.s] 37)).alloc (.cells #[.int .i64 r.d, .int .i64 r.i, .int .i64 r.b, .int .i64 r.t, .int .i64 r.m, .int .i64 r.p, .int .i64 r.c, .int .i64 r.s, .int .i64 r.k] 56) = W at *
      generalize w.heap.size + 1 = n2 at *
      go_wp2_with fail
      go_ret
      exact ⟨rfl, hB⟩
    | false =>
      have hv : needV g r = false := by unfold needV; rw [h1, h2]; rfl
      rw [hv]
      clear hv
      go_enter Try.func46, Try.ntmps46
      go_upto_region 1 with fail
      generalize (w.alloc (.cells #[.int .i64 g.d, .int .i64 g.i, .int .i64 g.c, .int .i64 g.t, .string g.s] 37)).alloc (.cells #[.int .i64 r.d, .int .i64 r.i, .int .i64 r.b, .int .i64 r.t, .int .i64 r.m, .int .i64 r.p, .int .i64 r.c, .int .i64 r.s, .int .i64 r.k] 56) = W at *
      generalize w.heap.size + 1 = n2 at *
      go_wp2_with fail
      go_ret
      exact ⟨rfl, hB⟩
  | true =>
    have e2 : (r.i == g.i) = true := h2
    have e2b : (r.i != g.i) = false := by simp [bne, e2]
    have e2c : decide (¬ r.i = g.i) = false := by simpa using h2
    have h1 : decide (g.i < r.i) = false := by have := of_decide_eq_true h2; exact decide_eq_false (by omega)
    cases h3 : decide (r.m = 1) with
    | true =>
      have hv : needV g r = true := by unfold needV; rw [h1, h2, h3]; rfl
      have e3 : (r.m == 1) = true := h3
      rw [hv]
      clear hv
      go_enter Try.func46, Try.ntmps46
      go_upto_region 1 with fail
      generalize (w.alloc (.cells #[.int .i64 g.d, .int .i64 g.i, .int .i64 g.c, .int .i64 g.t, .string g.s] 37)).alloc (.cells #[.int .i64 r.d, .int .i64 r.i, .int .i64 r.b, .int .i64 r.t, .int .i64 r.m, .int .i64 r.p, .int .i64 r.c, .int .i64 r.s, .int .i64 r.k] 56) = W at *
      generalize w.heap.size + 1 = n2 at *
      go_wp2_with fail
      go_ret
      exact ⟨rfl, hB⟩
    | false =>
      have e3 : (r.m == 1) = false := h3
      by_cases h4 : g.t = 0
      · have hv : needV g r = false := by unfold needV; rw [h1, h2, h3, decide_eq_false (show ¬ g.t ≠ 0 from fun h => h h4)]; rfl
        have e4 : (g.t == 0) = true := beq_iff_eq.2 h4
        have e5 : (g.t != 0) = false := by simp [h4]
        have e6 : decide (g.t = 0) = true := decide_eq_true h4
        have e7 : decide (¬ g.t = 0) = false := by simp [h4]
        clear h4
        rw [hv]
        clear hv
        go_enter Try.func46, Try.ntmps46
        go_upto_region 1 with fail
        generalize (w.alloc (.cells #[.int .i64 g.d, .int .i64 g.i, .int .i64 g.c, .int .i64 g.t, .string g.s] 37)).alloc (.cells #[.int .i64 r.d, .int .i64 r.i, .int .i64 r.b, .int .i64 r.t, .int .i64 r.m, .int .i64 r.p, .int .i64 r.c, .int .i64 r.s, .int .i64 r.k] 56) = W at *
        generalize w.heap.size + 1 = n2 at *
        go_wp2_with fail
        go_ret
        exact ⟨rfl, hB⟩
      · have hv : needV g r = decide (g.c < r.k) := by unfold needV; rw [h1, h2, h3, decide_eq_true (show g.t ≠ 0 from h4)]; rfl
        have e4 : (g.t == 0) = false := beq_eq_false_iff_ne.2 h4
        have e5 : (g.t != 0) = true := by simp [h4]
        have e6 : decide (g.t = 0) = false := decide_eq_false h4
        have e7 : decide (¬ g.t = 0) = true := by simp [h4]
        clear h4
        rw [hv]
        clear hv
        go_enter Try.func46, Try.ntmps46
        go_upto_region 1 with fail
        generalize (w.alloc (.cells #[.int .i64 g.d, .int .i64 g.i, .int .i64 g.c, .int .i64 g.t, .string g.s] 37)).alloc (.cells #[.int .i64 r.d, .int .i64 r.i, .int .i64 r.b, .int .i64 r.t, .int .i64 r.m, .int .i64 r.p, .int .i64 r.c, .int .i64 r.s, .int .i64 r.k] 56) = W at *
        generalize w.heap.size + 1 = n2 at *
        go_wp2_with fail
        go_ret
        exact ⟨rfl, hB⟩

set_option maxRecDepth 100000 in
set_option maxHeartbeats 2000000 in
theorem pWanted1_any (g : Gf) (r : Rp) (n : Nat) (w : World) (h : gfE.In w n g) : Calls Try.prog 45 #[.agg #[.int .i64 r.d, .int .i64 r.i, .int .i64 r.b, .int .i64 r.t, .int .i64 r.m, .int .i64 r.p, .int .i64 r.c, .int .i64 r.s, .int .i64 r.k], .pointer (some ⟨n, 0, none⟩)] w fun e w' => e = .returned (.bool (outG g r)) ∧ Below w.heap.size w w' := by
  have hQ : rpE.In (w.alloc (.cells #[.int .i64 r.d, .int .i64 r.i, .int .i64 r.b, .int .i64 r.t, .int .i64 r.m, .int .i64 r.p, .int .i64 r.c, .int .i64 r.s, .int .i64 r.k] 56)) w.heap.size r := El.In.new (E := rpE) w r _ rfl
  have hB := below_alloc (Below.refl w.heap.size w) (.cells #[.int .i64 r.d, .int .i64 r.i, .int .i64 r.b, .int .i64 r.t, .int .i64 r.m, .int .i64 r.p, .int .i64 r.c, .int .i64 r.s, .int .i64 r.k] 56)
  have hG := h.below hB
  have p0 := (gfIn5 hG).1
  have q0 := (rpIn9 hQ).1
  rw [outG_need]
  cases h1 : decide (r.d = g.d) with
  | false =>
    have e1 : (r.d == g.d) = false := h1
    clear hQ hG
    rw [show (false && needV g r) = false from rfl]
    go_enter Try.func45, Try.ntmps45
    go_upto_region 1 with fail
    generalize w.alloc (.cells #[.int .i64 r.d, .int .i64 r.i, .int .i64 r.b, .int .i64 r.t, .int .i64 r.m, .int .i64 r.p, .int .i64 r.c, .int .i64 r.s, .int .i64 r.k] 56) = W at *
    obtain ⟨n2, hn2⟩ : ∃ n, w.heap.size = n := ⟨_, rfl⟩
    rw [hn2] at q0 ⊢
    clear hn2
    go_wp2_with fail
    go_ret
    exact ⟨rfl, hB⟩
  | true =>
    have e1 : (r.d == g.d) = true := h1
    rw [show (true && needV g r) = needV g r from rfl]
    have HC := Lib.hid (pNeedless_any g r (w.alloc (.cells #[.int .i64 r.d, .int .i64 r.i, .int .i64 r.b, .int .i64 r.t, .int .i64 r.m, .int .i64 r.p, .int .i64 r.c, .int .i64 r.s, .int .i64 r.k] 56)))
    obtain ⟨g0, g1, g2, g3, g4⟩ := gfIn5 hG
    obtain ⟨r0, r1, r2, r3, r4, r5, r6, r7, r8⟩ := rpIn9 hQ
    clear hQ hG p0 q0
    go_enter Try.func45, Try.ntmps45
    go_upto_region 1 with fail
    generalize w.alloc (.cells #[.int .i64 r.d, .int .i64 r.i, .int .i64 r.b, .int .i64 r.t, .int .i64 r.m, .int .i64 r.p, .int .i64 r.c, .int .i64 r.s, .int .i64 r.k] 56) = W at *
    obtain ⟨n2, hn2⟩ : ∃ n, w.heap.size = n := ⟨_, rfl⟩
    rw [hn2] at r0 r1 r2 r3 r4 r5 r6 r7 r8 ⊢
    clear hn2
    go_wp2_with (first | (go_at_call 46; (with_reducible refine HC.out.mono ?_); rintro e w1 ⟨rfl, hb1⟩) | fail)
    go_ret
    exact ⟨rfl, below_then hB hb1⟩

/-- Where the first report stands that takes g's place; -1: nowhere. -/
def wantI (g : Gf) : List Rp → Nat
  | [] => 0
  | x :: l => if outG g x = true then 0 else wantI g l + 1
def wantAt (g : Gf) (l : List Rp) : Int := if l.any (outG g) = true then (wantI g l : Int) else -1
theorem wantI_is {g : Gf} : ∀ (l : List Rp) (k : Nat), (∀ j (h : j < l.length), j < k → outG g l[j] = false) → ∀ h : k < l.length, outG g l[k] = true → wantI g l = k
  | [], _, _, h, _ => absurd h (Nat.not_lt_zero _)
  | x :: l, k, hj, h, hk => by
    cases k with
    | zero =>
      rw [List.getElem_cons_zero] at hk
      unfold wantI; rw [if_pos hk]
    | succ k =>
      have h0 := hj 0 (by rw [List.length_cons]; omega) (by omega)
      rw [List.getElem_cons_zero] at h0
      unfold wantI
      rw [h0, if_neg (by decide), wantI_is l k (fun j h1 h2 => by have := hj (j + 1) (by rw [List.length_cons]; omega) (by omega); rw [List.getElem_cons_succ] at this; exact this) (by rw [List.length_cons] at h; omega) (by rw [List.getElem_cons_succ] at hk; exact hk)]

set_option maxRecDepth 100000 in
set_option maxHeartbeats 2000000 in
theorem pWantIdx_any (A : Option Addr) (cap : Nat) (l : List Rp) (n : Nat) (g : Gf) (w : World) (hl : l.length ≤ 1000) (h : gfE.In w n g) (hT : rpE.Sl w A l) :
    Calls Try.prog 65 #[.slice A l.length cap, .func (.func 45) #[] #[.pointer (some ⟨n, 0, none⟩)]] w fun e w' => e = .returned (.int .i64 (wantAt g l)) ∧ Below w.heap.size w w' := by
  have HF := Lib.hid (fun (r : Rp) (wx : World) (hb : Below w.heap.size w wx) => pWanted1_any g r n wx (h.below hb))
  have HC0 := Lib.hid (fun (j : Nat) (h : j < l.length) (hj : j < 0) => (absurd hj (Nat.not_lt_zero j) : outG g l[j] = false))
  have hB := Below.refl w.heap.size w
  have HT := Lib.hid hT
  clear h hT
  go_enter Try.func65, Try.ntmps65
  go_wp2_with fail
  go_loopw [8] (fun y wr => ∃ k : Nat, k ≤ l.length ∧ y = .int .i64 k ∧ Hid (∀ j (h : j < l.length), j < k → outG g l[j] = false) ∧ Below w.heap.size w wr) (fun y _ => l.length - (intOf y).toNat)
  case atStart => exact ⟨0, Nat.zero_le _, rfl, HC0, hB⟩
  case round =>
    clear HC0 hB
    obtain ⟨k, hk, rfl, HK, hB⟩ := hrel
    by_cases hkl : k < l.length
    · obtain ⟨b, off, eA, hbw, hc⟩ := HT.out (by omega)
      have hx := rpIdxH (cap := cap) eA hkl
      have hat : rpE.At wr b (off + k * 9) l[k] := (hc k hkl).below hB hbw
      have HC := Lib.hid (HF.out l[k] wr hB)
      cases hd : outG g l[k] with
      | true =>
        have HV := Lib.hid (show wantAt g l = k by
          unfold wantAt
          rw [if_pos (List.any_eq_true.2 ⟨l[k], List.getElem_mem _, hd⟩), wantI_is l k HK.out hkl hd])
        rw [hd] at HC
        generalize l[k] = x at *
        clear hc eA hd
        go_wp2_with (first | (refine El.load rpRow rfl _ rfl b (off + k * 9) rfl x hat #[.int .i64 x.d, .int .i64 x.i, .int .i64 x.b, .int .i64 x.t, .int .i64 x.m, .int .i64 x.p, .int .i64 x.c, .int .i64 x.s, .int .i64 x.k] rfl ?_) | (go_at_call 45; (with_reducible refine (HC.out).mono ?_); rintro e w1 ⟨rfl, hb1⟩))
        go_ret
        exact ⟨by rw [HV.out]; rfl, below_then hB hb1⟩
      | false =>
        have HN := Lib.hid (fun (j : Nat) (h : j < l.length) (hj : j < k + 1) => (by
          by_cases e : j < k
          · exact HK.out j h e
          · obtain rfl : j = k := by omega
            exact hd : outG g l[j] = false))
        rw [hd] at HC
        generalize l[k] = x at *
        clear hc eA hd
        go_wp2_with (first | (refine El.load rpRow rfl _ rfl b (off + k * 9) rfl x hat #[.int .i64 x.d, .int .i64 x.i, .int .i64 x.b, .int .i64 x.t, .int .i64 x.m, .int .i64 x.p, .int .i64 x.c, .int .i64 x.s, .int .i64 x.k] rfl ?_) | (go_at_call 45; (with_reducible refine (HC.out).mono ?_); rintro e w1 ⟨rfl, hb1⟩))
        exact ⟨⟨k + 1, by omega, by go_num, HN, below_then hB hb1⟩, by simp [intOf]; omega⟩
    · obtain rfl : k = l.length := by omega
      have HV := Lib.hid (show wantAt g l = -1 by
        unfold wantAt
        rw [if_neg]
        intro h
        obtain ⟨x, hx, ho⟩ := List.any_eq_true.1 h
        obtain ⟨j, hj, rfl⟩ := List.getElem_of_mem hx
        rw [HK.out j hj hj] at ho
        cases ho)
      go_wp2_with fail
      go_ret
      exact ⟨by rw [HV.out]; rfl, hB⟩

set_option maxRecDepth 100000 in
set_option maxHeartbeats 2000000 in
theorem pContains_any (A : Option Addr) (cap : Nat) (l : List Rp) (n : Nat) (g : Gf) (w : World) (hl : l.length ≤ 1000) (h : gfE.In w n g) (hT : rpE.Sl w A l) :
    Calls Try.prog 44 #[.slice A l.length cap, .func (.func 45) #[] #[.pointer (some ⟨n, 0, none⟩)]] w fun e w' => e = .returned (.bool (l.any (outG g))) ∧ Below w.heap.size w w' := by
  have HC := Lib.hid (pWantIdx_any A cap l n g w hl h hT)
  clear h hT
  cases ha : l.any (outG g) with
  | true =>
    have e : wantAt g l = (wantI g l : Int) := by unfold wantAt; rw [if_pos ha]
    rw [e] at HC
    generalize wantI g l = k at *
    have f1 : decide ((0 : Int) ≤ (k : Int)) = true := decide_eq_true (by omega)
    clear e ha
    go_enter Try.func44, Try.ntmps44
    go_wp2_with fail
    refine HC.out.mono ?_
    rintro e w1 ⟨rfl, hb1⟩
    go_wp2_with fail
    go_ret
    exact ⟨rfl, hb1⟩
  | false =>
    have e : wantAt g l = -1 := by unfold wantAt; rw [if_neg (by rw [ha]; decide)]
    rw [e] at HC
    clear e ha
    go_enter Try.func44, Try.ntmps44
    go_wp2_with fail
    refine HC.out.mono ?_
    rintro e w1 ⟨rfl, hb1⟩
    go_wp2_with fail
    go_ret
    exact ⟨rfl, hb1⟩

set_option maxRecDepth 100000 in
set_option maxHeartbeats 2000000 in
theorem pWantedG_any (g : Gf) (A : Option Addr) (c : Nat) (l : List Rp) (w : World) (hl : l.length ≤ 1000) (hT : rpE.Sl w A l) : Calls Try.prog 15 #[.agg #[.int .i64 g.d, .int .i64 g.i, .int .i64 g.c, .int .i64 g.t, .string g.s], .slice A l.length c] w fun e w' => e = .returned (.bool (wantedG g l)) ∧ Below w.heap.size w w' := by
  have hP : gfE.In (w.alloc (.cells #[.int .i64 g.d, .int .i64 g.i, .int .i64 g.c, .int .i64 g.t, .string g.s] 37)) w.heap.size g := El.In.new (E := gfE) w g _ rfl
  have hB := below_alloc (Below.refl w.heap.size w) (.cells #[.int .i64 g.d, .int .i64 g.i, .int .i64 g.c, .int .i64 g.t, .string g.s] 37)
  have HC := Lib.hid (pContains_any A c l w.heap.size g _ hl hP (hT.below hB))
  clear hP hT
  unfold wantedG
  generalize l.any (outG g) = bv at *
  go_enter Try.func15, Try.ntmps15
  go_upto_region 1 with fail
  generalize w.alloc (.cells #[.int .i64 g.d, .int .i64 g.i, .int .i64 g.c, .int .i64 g.t, .string g.s] 37) = W at *
  go_wp2_with fail
  refine HC.out.mono ?_
  rintro e w1 ⟨rfl, hb1⟩
  go_wp2_with fail
  go_ret
  exact ⟨rfl, below_then hB hb1⟩
end Go.Proofs.Ytfpgfclmmdihjaa

/- The program's gifts: a place put into a list. -/
namespace Go.Proofs.Ytfpgfclmmdihjaa
open Go.RowKit Nam Cod

/-- 'copy' into a row that is known whole, whatever an element's size. -/
theorem run_copyE {P : Program} (w : World) (dT sT ty elem : TypeId) (k g o dLen dCap : Nat) (a : Addr) (sLen sCap : Nat) (cur : Array Value) (t : TypeId) (cs : List Value)
    (hu : P.underlying dT = some (.slice elem)) (hs : (P.info? elem).map (·.size) = some k)
    (hg : w.heap[g]? = some (.cells cur t (0, 0))) (hn : cs.length = Nat.min sLen dLen * k)
    (hsrc : ∀ j v, cs[j]? = some v → w.cell? (a.add j) = some v) (hfit : o + cs.length ≤ cur.size) (h1 : ∀ v ∈ cs, v.oneCell' = true) :
    (Builtin.copy_ #[dT, sT] ty #[.slice (some ⟨g, o, none⟩) dLen dCap, .slice (some a) sLen sCap]).run P w =
      .ok (goInt (Nat.min sLen dLen)) (w.setRow g (splice cur.toList o cs).toArray) := by
  have hl := run_loadCells_list (P := P) w a cs hsrc
  have hst := run_storeCells_at P g o t cs 0 cur w hg (by simpa using hfit) h1
  cases hq : P.info? elem with
  | none => simp [hq] at hs
  | some i =>
    have hi : i.size = k := by simpa [hq] using hs
    rw [hn] at hl
    simp [Builtin.copy_, run_underlying hu, Builtin.lenOf, Builtin.firstCells, sizeOf, typeInfo, hq, hi, hl, hst, splice]
theorem wpList_copyE {P : Program} {w : World} {ops : Array Oper} {rest : List Oper} {o : Oper} {a : Act} {Q : Exit → Act → World → Prop} (hgd : o.guard = none) (d s : Operand) (dT sT : TypeId)
    (ho : o.op = .call { callee := .builtin .copy, args := #[d, s], argTypes := #[dT, sT] }) (elem : TypeId) (hu : P.underlying dT = some (.slice elem)) (k : Nat) (hsz : (P.info? elem).map (·.size) = some k)
    (g off dLen dCap : Nat) (ad : Addr) (sLen sCap : Nat) (hd : a.eval d = .slice (some ⟨g, off, none⟩) dLen dCap) (hs : a.eval s = .slice (some ad) sLen sCap)
    (cur : List Value) (t : TypeId) (hg : w.heap[g]? = some (.cells cur.toArray t (0, 0))) (cs : List Value) (hn : cs.length = Nat.min sLen dLen * k)
    (hsrc : ∀ j v, cs[j]? = some v → w.cell? (ad.add j) = some v) (hfit : off + cs.length ≤ cur.length) (h1 : ∀ v ∈ cs, v.oneCell' = true) (B : Nat) (w0 : World) (hb : Below B w0 w) (hBg : B ≤ g)
    (h : ∀ w', Hid (w'.heap[g]? = some (.cells (splice cur off cs).toArray t (0, 0))) → Below B w0 w' → (∀ b, b ≠ g → w'.heap[b]? = w.heap[b]?) → wpList P ops Q rest (a.put o.dst (goInt (Nat.min sLen dLen))) w') :
    wpList P ops Q (o :: rest) a w := by
  refine wpList_plain hgd fun K hK => ?_
  have hrun := run_copyE (P := P) w dT sT o.type elem k g off dLen dCap ad sLen sCap cur.toArray t cs hu hsz hg hn hsrc (by simpa using hfit) h1
  unfold Oper.wp
  simp only [execOp, ho, resolve, invoke, builtin, Sem.run_bind, Sem.run_pure, Result.andThen_ok, List.map_toArray, List.map_cons, List.map_nil, hd, hs, hrun]
  exact hK _ _ (h _ (setRow_heap w g _ _ t _ hg) (_root_.Go.below_setRow hb hBg _) (fun b hne => setRow_other w g b _ hne))
theorem step_copyE {P : Program} {ops : Array Oper} {o : Oper} {a : Act} {w : World} {K : Act → World → Prop} {Q : Exit → Act → World → Prop} {E : Prop} (hgd : o.guard = none) (d s : Operand) (dT sT : TypeId)
    (ho : o.op = .call { callee := .builtin .copy, args := #[d, s], argTypes := #[dT, sT] }) (elem : TypeId) (hu : P.underlying dT = some (.slice elem)) (k : Nat) (hsz : (P.info? elem).map (·.size) = some k)
    (g off dLen dCap : Nat) (ad : Addr) (sLen sCap : Nat) (hd : a.eval d = .slice (some ⟨g, off, none⟩) dLen dCap) (hs : a.eval s = .slice (some ad) sLen sCap)
    (cur : List Value) (t : TypeId) (hg : w.heap[g]? = some (.cells cur.toArray t (0, 0))) (cs : List Value) (hn : cs.length = Nat.min sLen dLen * k)
    (hsrc : ∀ j v, cs[j]? = some v → w.cell? (ad.add j) = some v) (hfit : off + cs.length ≤ cur.length) (h1 : ∀ v ∈ cs, v.oneCell' = true) (B : Nat) (w0 : World) (hb : Below B w0 w) (hBg : B ≤ g)
    (h : ∀ w', Hid (w'.heap[g]? = some (.cells (splice cur off cs).toArray t (0, 0))) → Below B w0 w' → (∀ b, b ≠ g → w'.heap[b]? = w.heap[b]?) → K (a.put o.dst (goInt (Nat.min sLen dLen))) w') :
    if Region.wanted o (yielded ops a.tmps) = true then Oper.wp P o a w K Q else E := by
  have hw : Region.wanted o (yielded ops a.tmps) = true := by simp [Region.wanted, hgd]
  rw [if_pos hw]
  have hrun := run_copyE (P := P) w dT sT o.type elem k g off dLen dCap ad sLen sCap cur.toArray t cs hu hsz hg hn hsrc (by simpa using hfit) h1
  unfold Oper.wp
  simp only [execOp, ho, resolve, invoke, builtin, Sem.run_bind, Sem.run_pure, Result.andThen_ok, List.map_toArray, List.map_cons, List.map_nil, hd, hs, hrun]
  exact h _ (setRow_heap w g _ _ t _ hg) (_root_.Go.below_setRow hb hBg _) (fun b hne => setRow_other w g b _ hne)

section
variable {α : Type}
theorem take_splice (C D : List α) (o a : Nat) (h : a ≤ o) (ho : o ≤ C.length) : (splice C o D).take a = C.take a := by
  unfold splice
  rw [List.take_append_of_le_length (by rw [List.length_take]; omega), List.take_take, Nat.min_eq_left h]
theorem drop_splice (C D : List α) (o : Nat) (ho : o ≤ C.length) : (splice C o D).drop o = D ++ C.drop (o + D.length) := by
  unfold splice
  have h := List.length_take_of_le ho
  rw [List.drop_append, h, Nat.sub_self, List.drop_zero, List.drop_of_length_le (by omega), List.nil_append]
/-- What stands from a on goes m farther, and X comes there. -/
theorem shift_in (C D X : List α) (a m : Nat) (hX : X.length = m) (hC : a + m + D.length ≤ C.length) : (splice (splice C (a + m) D) a X).take (a + m + D.length) = C.take a ++ (X ++ D) := by
  obtain ⟨S, hS⟩ : ∃ S, splice C (a + m) D = S := ⟨_, rfl⟩
  have h1 : S.take a = C.take a := by rw [← hS]; exact take_splice C D _ _ (by omega) (by omega)
  have h2 : S.drop (a + m) = D ++ C.drop (a + m + D.length) := by rw [← hS]; exact drop_splice C D _ (by omega)
  rw [hS]
  unfold splice
  rw [hX, h1, h2]
  have hl : (C.take a).length = a := by rw [List.length_take]; omega
  rw [List.take_append, hl, List.take_of_length_le (by omega : (C.take a).length ≤ a + m + D.length), show a + m + D.length - a = m + D.length by omega]
  rw [List.take_append, hX, List.take_of_length_le (by omega : X.length ≤ m + D.length), show m + D.length - m = D.length by omega]
  rw [List.take_append_of_le_length (Nat.le_refl _), List.take_length]
/-- The same, X first. -/
theorem new_in (C D X : List α) (a m : Nat) (hX : X.length = m) (hC : a + m + D.length ≤ C.length) : (splice (splice C a X) (a + m) D).take (a + m + D.length) = C.take a ++ (X ++ D) := by
  obtain ⟨S, hS⟩ : ∃ S, splice C a X = S := ⟨_, rfl⟩
  have hl0 : S.length = C.length := by rw [← hS]; exact length_splice C a X (by omega)
  have hl : (C.take a).length = a := by rw [List.length_take]; omega
  have h1 : S.take (a + m) = C.take a ++ X := by
    rw [← hS]; unfold splice
    rw [List.take_append, hl, List.take_of_length_le (by omega : (C.take a).length ≤ a + m), show a + m - a = m by omega, List.take_append_of_le_length (by omega), List.take_of_length_le (by omega : X.length ≤ m)]
  rw [hS]
  have hl2 : (S.take (a + m)).length = a + m := by rw [List.length_take]; omega
  unfold splice
  rw [List.take_append, hl2, List.take_of_length_le (by omega : (S.take (a + m)).length ≤ a + m + D.length), show a + m + D.length - (a + m) = D.length by omega]
  rw [List.take_append_of_le_length (Nat.le_refl _), List.take_length, h1, List.append_assoc]
end
theorem gf_take (l : List Gf) (i : Nat) : (gfE.cells l).take (i * 5) = gfE.cells (l.take i) := by
  have h : gfE.cells l = gfE.cells (l.take i) ++ gfE.cells (l.drop i) := by rw [← El.cells_app, List.take_append_drop]
  have hl : (gfE.cells (l.take i)).length = (l.take i).length * 5 := El.cells_len _
  rw [List.length_take] at hl
  by_cases hi : i ≤ l.length
  · rw [Nat.min_eq_left hi] at hl
    rw [h, List.take_append_of_le_length (by omega), List.take_of_length_le (by omega)]
  · rw [List.take_of_length_le (by rw [show (gfE.cells l).length = l.length * 5 from El.cells_len _]; omega), List.take_of_length_le (by omega)]
theorem gf_in (l : List Gf) (i : Nat) (x : Gf) : gfE.cells (l.take i ++ [x] ++ l.drop i) = gfE.cells (l.take i) ++ (gfE.c x ++ gfE.cells (l.drop i)) := by
  rw [El.cells_app, El.cells_app, List.append_assoc]
  rw [show gfE.cells [x] = gfE.c x ++ [] from rfl, List.append_nil]

set_option maxRecDepth 100000 in
theorem cloneGf_any (A : Option Addr) (c : Nat) (l : List Gf) (w : World) (hl : l.length ≤ 1000) (hT : SlV gfE w A c l) :
    Calls Try.prog 40 #[.slice A l.length c] w fun e w' => ∃ v, e = .returned v ∧ gfE.Own w' w.heap.size v l ∧ Below w.heap.size w w' := by
  obtain ⟨hT, hz, hlc⟩ := hT
  have q : ∀ (w : World) (a : Option Addr) (n c n' c' : Nat), (binOp .eql 33 (.slice a n c) (.slice none n' c')).run Try.prog w = .ok (.bool a.isNone) w := fun w a n c n' c' => Lib.run_eql_slice_nil w _ _ a n c n' c' Try.underlying33
  cases A with
  | none =>
    obtain rfl := hT.none_nil
    obtain rfl := hz rfl
    go_enter Try.func40, Try.ntmps40
    go_wp2
    go_ret
    exact ⟨_, rfl, El.Own.nil (E := gfE) w w.heap.size, Below.refl _ _⟩
  | some a =>
    go_enter Try.func40, Try.ntmps40
    have hE := El.Own.empty (E := gfE) w w.heap.size (Nat.le_refl _)
    have hb0 := below_alloc (Below.refl w.heap.size w) (.cells #[] 37)
    go_wp2_with (at_builtin; refine El.wpList_app gfInn rfl _ _ rfl w.heap.size _ [] l rfl hE (some a) _ c rfl rfl (hT.below hb0) (fun e => by cases e) (by simp; omega) (by simp) ?_; intro v' w2 hown hg _)
    go_wp2
    go_ret
    exact ⟨v', rfl, hown, below_own hb0 hg (hE.rows)⟩

def idxG (l : List Gf) (d : Int) : Int := if cutG l d < l.length then (cutG l d : Int) else -1
set_option maxRecDepth 100000 in
set_option maxHeartbeats 2000000 in
theorem pMerge1_any (x : Gf) (n : Nat) (g : Gf) (w : World) (h : gfE.In w n g) : Calls Try.prog 42 #[.agg #[.int .i64 x.d, .int .i64 x.i, .int .i64 x.c, .int .i64 x.t, .string x.s], .pointer (some ⟨n, 0, none⟩)] w fun e w' => e = .returned (.bool (decide (g.d ≤ x.d))) ∧ Below w.heap.size w w' := by
  have hQ : gfE.In (w.alloc (.cells #[.int .i64 x.d, .int .i64 x.i, .int .i64 x.c, .int .i64 x.t, .string x.s] 37)) w.heap.size x := El.In.new (E := gfE) w x _ rfl
  have hB := below_alloc (Below.refl w.heap.size w) (.cells #[.int .i64 x.d, .int .i64 x.i, .int .i64 x.c, .int .i64 x.t, .string x.s] 37)
  have p0 := (gfIn5 (h.below hB)).1
  have q0 := (gfIn5 hQ).1
  clear hQ
  obtain ⟨bv, hbv⟩ : ∃ bv, decide (g.d ≤ x.d) = bv := ⟨_, rfl⟩
  rw [hbv]
  go_enter Try.func42, Try.ntmps42
  go_upto_region 1 with fail
  generalize w.alloc (.cells #[.int .i64 x.d, .int .i64 x.i, .int .i64 x.c, .int .i64 x.t, .string x.s] 37) = W at *
  obtain ⟨n2, hn2⟩ : ∃ n, w.heap.size = n := ⟨_, rfl⟩
  rw [hn2] at q0 ⊢
  clear hn2
  go_wp2_with fail
  go_ret
  exact ⟨rfl, hB⟩

set_option maxRecDepth 100000 in
set_option maxHeartbeats 2000000 in
theorem pMergeIdx_any (A : Option Addr) (cap : Nat) (l : List Gf) (n : Nat) (g : Gf) (w : World) (hl : l.length ≤ 1000) (h : gfE.In w n g) (hT : gfE.Sl w A l) :
    Calls Try.prog 41 #[.slice A l.length cap, .func (.func 42) #[] #[.pointer (some ⟨n, 0, none⟩)]] w fun e w' => e = .returned (.int .i64 (idxG l g.d)) ∧ Below w.heap.size w w' := by
  have HF := Lib.hid (fun (r : Gf) (wx : World) (hb : Below w.heap.size w wx) => pMerge1_any r n g wx (h.below hb))
  have HC0 := Lib.hid (Nat.zero_le (cutG l g.d))
  have hB := Below.refl w.heap.size w
  have HT := Lib.hid hT
  clear h hT
  go_enter Try.func41, Try.ntmps41
  go_wp2_with fail
  go_loopw [8] (fun y wr => ∃ k : Nat, k ≤ l.length ∧ y = .int .i64 k ∧ Hid (k ≤ cutG l g.d) ∧ Below w.heap.size w wr) (fun y _ => l.length - (intOf y).toNat)
  case atStart => exact ⟨0, Nat.zero_le _, rfl, HC0, hB⟩
  case round =>
    clear HC0 hB
    obtain ⟨k, hk, rfl, HK, hB⟩ := hrel
    by_cases hkl : k < l.length
    · obtain ⟨b, off, eA, hbw, hc⟩ := HT.out (by omega)
      have hx := gfIdxH (cap := cap) eA hkl
      have hat : gfE.At wr b (off + k * 5) l[k] := (hc k hkl).below hB hbw
      have HC := Lib.hid (HF.out l[k] wr hB)
      by_cases hd : g.d ≤ l[k].d
      · have HV := Lib.hid (show idxG l g.d = k by
          have e := cutG_here HK.out (Or.inr ⟨hkl, hd⟩)
          unfold idxG; rw [← e, if_pos hkl])
        rw [show decide (g.d ≤ l[k].d) = true from decide_eq_true hd] at HC
        generalize l[k] = x at *
        clear hc eA hd
        go_wp2_with (first | (refine El.load gfRow rfl _ rfl b (off + k * 5) rfl x hat #[.int .i64 x.d, .int .i64 x.i, .int .i64 x.c, .int .i64 x.t, .string x.s] rfl ?_) | (go_at_call 42; (with_reducible refine (HC.out).mono ?_); rintro e w1 ⟨rfl, hb1⟩))
        go_ret
        exact ⟨by rw [HV.out]; rfl, below_then hB hb1⟩
      · have HN := Lib.hid (cutG_next HK.out hkl (by omega))
        rw [show decide (g.d ≤ l[k].d) = false from decide_eq_false hd] at HC
        generalize l[k] = x at *
        clear hc eA hd
        go_wp2_with (first | (refine El.load gfRow rfl _ rfl b (off + k * 5) rfl x hat #[.int .i64 x.d, .int .i64 x.i, .int .i64 x.c, .int .i64 x.t, .string x.s] rfl ?_) | (go_at_call 42; (with_reducible refine (HC.out).mono ?_); rintro e w1 ⟨rfl, hb1⟩))
        exact ⟨⟨k + 1, by omega, by go_num, HN, below_then hB hb1⟩, by simp [intOf]; omega⟩
    · obtain rfl : k = l.length := by omega
      have HV := Lib.hid (show idxG l g.d = -1 by
        have e := cutG_here HK.out (Or.inl rfl)
        unfold idxG; rw [← e, if_neg (Nat.lt_irrefl _)])
      go_wp2_with fail
      go_ret
      exact ⟨by rw [HV.out]; rfl, hB⟩
end Go.Proofs.Ytfpgfclmmdihjaa

/- The program's gifts: Insert (slices), Merge. -/
namespace Go.Proofs.Ytfpgfclmmdihjaa
open Go.RowKit Nam Cod

theorem gfSize : (Try.prog.info? 37).map (·.size) = some 5 := by kernel_rfl
theorem infoGf : (Try.prog.info? 37).map (fun i => (i.zero, i.size, i.bytes)) = some (some (.agg #[.int .i64 0, .int .i64 0, .int .i64 0, .int .i64 0, .string ⟨#[]⟩]), 5, 48) := by kernel_rfl
theorem mul_add5 (i : Nat) : (i + 1) * 5 = i * 5 + 5 := by omega
/-- What a row of the call's own is. -/
theorem gf_row {w : World} {B g c : Nat} {l : List Gf} (h : gfE.Own w B (.slice (some ⟨g, 0, none⟩) l.length c) l) : ∃ C : List Value, B ≤ g ∧ w.heap[g]? = some (.cells C.toArray 37 (0, 0)) ∧ l.length ≤ c ∧ c ≤ maxLen ∧ C.length = c * 5 ∧ C.take (l.length * 5) = gfE.cells l := by
  rcases h.2 with ⟨e, _⟩ | ⟨g', cap, cur, e, hb, hg, hnc, hcm, hcs, htk⟩
  · cases e
  · injection e with e1 _ e2
    injection e1 with e1
    injection e1 with e1
    subst e1 e2
    exact ⟨cur.toList, hb, by rw [Array.toArray_toList]; exact hg, hnc, hcm, by rw [Array.length_toList]; exact hcs, htk⟩
theorem gf_own {w : World} {B g c : Nat} {l : List Gf} {C : List Value} (hb : B ≤ g) (hg : w.heap[g]? = some (.cells C.toArray 37 (0, 0))) (hnc : l.length ≤ c) (hcm : c ≤ maxLen) (hcs : C.length = c * 5) (htk : C.take (l.length * 5) = gfE.cells l) : gfE.Own w B (.slice (some ⟨g, 0, none⟩) l.length c) l :=
  ⟨El.cells_len l, Or.inr ⟨g, c, C.toArray, rfl, hb, hg, hnc, hcm, by rw [List.size_toArray]; exact hcs, by rw [List.toList_toArray]; exact htk⟩⟩
theorem gf_get {w : World} {g : Nat} {C : List Value} (hg : w.heap[g]? = some (.cells C.toArray 37 (0, 0))) (o : Nat) (cs : List Value) (h : ∀ j v, cs[j]? = some v → C[o + j]? = some v) : ∀ j v, cs[j]? = some v → w.cell? ((⟨g, o, none⟩ : Addr).add j) = some v := fun j v hj => by
  rw [Addr.add_lit, cell_of_row w g (o + j) _ _ _ hg]
  simpa using h j v hj
theorem gf_drop {C : List Value} {l : List Gf} (htk : C.take (l.length * 5) = gfE.cells l) (i : Nat) (hi : i ≤ l.length) : ∀ j v, (gfE.cells (l.drop i))[j]? = some v → C[i * 5 + j]? = some v := fun j v hj => by
  have h : gfE.cells l = gfE.cells (l.take i) ++ gfE.cells (l.drop i) := by rw [← El.cells_app, List.take_append_drop]
  have hl : (gfE.cells (l.take i)).length = i * 5 := by rw [show (gfE.cells (l.take i)).length = (l.take i).length * 5 from El.cells_len _, List.length_take, Nat.min_eq_left hi]
  have h2 : (C.take (l.length * 5))[i * 5 + j]? = some v := by
    rw [htk, h, List.getElem?_append_right (by omega), hl, Nat.add_sub_cancel_left]; exact hj
  rw [List.getElem?_take] at h2
  split at h2
  · exact h2
  · cases h2

set_option maxRecDepth 100000 in
set_option maxHeartbeats 4000000 in
theorem insRoom_any (W0 w : World) (hB : Below W0.heap.size W0 w) (g c : Nat) (l : List Gf) (i : Nat) (x : Gf) (vb : Nat) (hO : gfE.Own w W0.heap.size (.slice (some ⟨g, 0, none⟩) l.length c) l) (hi : i < l.length) (hl : l.length ≤ 1000) (hx : gfE.In w vb x) (hne : vb ≠ g) (hroom : l.length + 1 ≤ c) :
    Calls Try.prog 43 #[.slice (some ⟨g, 0, none⟩) l.length c, .int .i64 i, .slice (some ⟨vb, 0, none⟩) 1 1] w fun e w' => ∃ v, e = .returned v ∧ gfE.Own w' W0.heap.size v (l.take i ++ [x] ++ l.drop i) ∧ Below W0.heap.size W0 w' := by
  obtain ⟨C, hBg, hg, hnc, hcm, hcs, htk⟩ := gf_row hO
  have hc63 : c ≤ 9223372036854775807 := by unfold maxLen at hcm; omega
  have hov : ∀ lb cb, (callFunc 63 #[.slice (some ⟨vb, 0, none⟩) 1 1, .slice (some ⟨g, (i + 1) * 5, none⟩) lb cb]).run Try.prog w = .ok (.value (.bool false)) w := fun lb cb => by
    have hx' : w.heap[vb]? = some (.cells (gfE.c x).toArray 37 (0, 0)) := hx
    rw [run_callFunc_extern Try.func63 (by kernel_rfl) (by kernel_rfl) (by kernel_rfl) (e := Extern.SlicesOverlaps.overlaps #[33, 33] #[4]) (by kernel_rfl),
      Lib.run_overlaps_apart w 33 4 37 Try.underlying33 5 (fun w => by kernel_rfl) ⟨vb, 0, none⟩ ⟨g, (i + 1) * 5, none⟩ 1 1 lb cb hne 37 37 5 (c * 5) (by simp [World.shape?, hx']; rfl) (by simp [World.shape?, hg, hcs]) (by omega) (hx.frozen 0) (hx.frozen 5)]
    rfl
  have hw1 : IntKind.i64.wrap ((i : Int) + 1) = (i : Int) + 1 := by rw [IntKind.wrap_i64]; omega
  have hb1 : (0 : Int) ≤ (i : Int) + 1 := by omega
  have hin : i ≤ l.length := by omega
  have htn : ((i : Int) + 1).toNat = i + 1 := by omega
  have hz2 : ¬ ((i : Int) = (l.length : Int)) := by omega
  have hb2 : ¬ (c = i + 1) := by omega
  have hb3 : (i : Int) ≤ (l.length : Int) + 1 := by omega
  have hb4 : ¬ (c = i) := by omega
  obtain ⟨D, hD⟩ : ∃ D, gfE.cells (l.drop i) = D := ⟨_, rfl⟩
  have hDl : D.length = (l.length - i) * 5 := by rw [← hD, show (gfE.cells (l.drop i)).length = (l.drop i).length * 5 from El.cells_len _, List.length_drop]
  have hD1 : ∀ v ∈ D, v.oneCell' = true := by rw [← hD]; exact El.cells_one _
  have hsrc := gf_get hg (i * 5) D (by rw [← hD]; exact gf_drop htk i hin)
  obtain ⟨n, hn⟩ : ∃ n, l.length = n := ⟨_, rfl⟩
  have HN := Lib.hid hn
  have HD := Lib.hid hD
  rw [hn] at hi hl hroom htk hnc hin hz2 hb3 hDl ⊢
  clear hn hD
  go_enter Try.func43, Try.ntmps43
  go_wp2_with (simp only [hov])
  have hgd : w.drew.heap[g]? = some (.cells C.toArray 37 (0, 0)) := hg
  have hsd : ∀ j v, D[j]? = some v → w.drew.cell? ((⟨g, i * 5, none⟩ : Addr).add j) = some v := hsrc
  have hxd : gfE.In w.drew vb x := hx
  have hBd := hB.drew
  have hfit : i * 5 + 5 + D.length ≤ C.length := by omega
  go_region_law (refine step_copyE rfl (.tmp 73) (.tmp 76) 33 33 rfl 37 Try.underlying33 5 gfSize g (i * 5 + 5) (n - i) (c - (i + 1)) ⟨g, i * 5, none⟩ (n + 1 - i) (c - i) (by simp [Act.eval, Act.put]) (by simp [Act.eval, Act.put]) C 37 hgd D (by rw [hDl]; simp only [Nat.min_def]; split <;> omega) hsd hfit hD1 W0.heap.size W0 hBd hBg ?_; intro w4 hg4 hb4 hk4)
  replace hxd : gfE.In w4 vb x := (hk4 vb hne).trans hxd
  obtain ⟨S, hS⟩ : ∃ S, splice C (i * 5 + 5) D = S := ⟨_, rfl⟩
  rw [hS] at hg4
  have hSl : S.length = C.length := by rw [← hS]; exact length_splice _ _ _ hfit
  have HS := Lib.hid hS
  clear hS hgd hsd hx hB hBd hsrc hov hO hk4
  go_wp2_with (refine wpList_copyE rfl (.tmp 80) (.tmp 81) 33 33 rfl 37 Try.underlying33 5 gfSize g (i * 5) _ _ ⟨vb, 0, none⟩ _ _ rfl rfl S 37 hg4.out (gfE.c x) (by rw [gfE.len]; show 5 = Nat.min 1 (n + 1 - i) * 5; simp only [Nat.min_def]; split <;> omega) (fun j v hj => by rw [Addr.add_lit, Nat.zero_add]; exact (hxd.cell j).trans hj) (by rw [gfE.len]; show i * 5 + 5 ≤ _; omega) (gfE.one x) W0.heap.size W0 hb4 hBg ?_; intro w5 hg5 hb5 _)
  go_ret
  refine ⟨_, rfl, ?_, hb5⟩
  have hlen : (l.take i ++ [x] ++ l.drop i).length = n + 1 := by
    have := HN.out
    simp only [List.length_append, List.length_take, List.length_drop, List.length_singleton]; omega
  have hfin := shift_in C D (gfE.c x) (i * 5) 5 (gfE.len x) (by omega)
  rw [HS.out, show i * 5 + 5 + D.length = (n + 1) * 5 by omega] at hfin
  have hown := gf_own (c := c) (l := l.take i ++ [x] ++ l.drop i) hBg hg5.out (by omega) hcm (by rw [length_splice _ _ _ (by rw [gfE.len]; show i * 5 + 5 ≤ _; omega), hSl, hcs]) (by
    rw [hlen, hfin, gf_in, HD.out, ← gf_take, ← htk, List.take_take, Nat.min_eq_left (by omega)])
  rw [hlen] at hown
  exact hown

set_option maxRecDepth 100000 in
set_option maxHeartbeats 4000000 in
theorem insGrow_any (W0 w : World) (hB : Below W0.heap.size W0 w) (g c : Nat) (l : List Gf) (i : Nat) (x : Gf) (vb : Nat) (hO : gfE.Own w W0.heap.size (.slice (some ⟨g, 0, none⟩) l.length c) l) (hi : i < l.length) (hl : l.length ≤ 1000) (hx : gfE.In w vb x) (hne : vb ≠ g) (hroom : c < l.length + 1) :
    Calls Try.prog 43 #[.slice (some ⟨g, 0, none⟩) l.length c, .int .i64 i, .slice (some ⟨vb, 0, none⟩) 1 1] w fun e w' => ∃ v, e = .returned v ∧ gfE.Own w' W0.heap.size v (l.take i ++ [x] ++ l.drop i) ∧ Below W0.heap.size W0 w' := by
  obtain ⟨C, hBg, hg, hnc, hcm, hcs, htk⟩ := gf_row hO
  obtain ⟨inf, hinf, hz, hz1, hz2⟩ := info_parts infoGf
  have hgN : g < w.heap.size := by
    rcases Nat.lt_or_ge g w.heap.size with h | h
    · exact h
    · rw [Array.getElem?_eq_none h] at hg; cases hg
  have hvN := hx.lt
  have hin : i ≤ l.length := by omega
  obtain ⟨D, hD⟩ : ∃ D, gfE.cells (l.drop i) = D := ⟨_, rfl⟩
  obtain ⟨T, hT⟩ : ∃ T, gfE.cells (l.take i) = T := ⟨_, rfl⟩
  have hDl : D.length = (l.length - i) * 5 := by rw [← hD, show (gfE.cells (l.drop i)).length = (l.drop i).length * 5 from El.cells_len _, List.length_drop]
  have hTl : T.length = i * 5 := by rw [← hT, show (gfE.cells (l.take i)).length = (l.take i).length * 5 from El.cells_len _, List.length_take, Nat.min_eq_left hin]
  have hD1 : ∀ v ∈ D, v.oneCell' = true := by rw [← hD]; exact El.cells_one _
  have hDs := gf_drop htk i hin
  rw [hD] at hDs
  have hCT : T = C.take (i * 5) := by rw [← hT, ← gf_take, ← htk, List.take_take, Nat.min_eq_left (by omega)]
  have hold : (Builtin.firstCells inf.size i (.slice (some ⟨g, 0, none⟩) i c)).run Try.prog w.drew = .ok T.toArray w.drew := by
    rw [hz1]
    exact run_firstCells_some w.drew 5 i ⟨g, 0, none⟩ i c T hTl (gf_get (w := w.drew) hg 0 T (fun j v hj => by
      rw [Nat.zero_add]
      rw [hCT, List.getElem?_take] at hj
      split at hj
      · exact hj
      · cases hj))
  obtain ⟨n, hn⟩ : ∃ n, l.length = n := ⟨_, rfl⟩
  have HN := Lib.hid hn
  have HD := Lib.hid hD
  have HT := Lib.hid hT
  rw [hn] at hi hl hroom htk hnc hin hDl ⊢
  clear hn hD hT hCT hO
  have hik : i + (n + 1 - i) = n + 1 := by omega
  have hkk : (n : Int) + 1 - (i : Int) = ((n + 1 - i : Nat) : Int) := by omega
  have hrz := fun ty => Lib.run_append_grow_zeros w 33 3 ty 37 inf _ .i64 .i64 Try.underlying33 Try.underlying3 hinf hz (some ⟨g, 0, none⟩) i c T hold (n + 1 - i) (by omega) (by omega) (by omega) (by omega) (by rw [hz2]; omega) (by rw [hz2, hik]; exact growslice_fits hroom (by omega))
  rw [hik, ← hkk] at hrz
  have hGn : n + 1 ≤ grownCap w (n + 1) c 37 := grownCap_ge w _ _ _
  have hGm : grownCap w (n + 1) c 37 ≤ maxLen := grownCap_le_maxLen w (n + 1) c 37 (by unfold maxLen; omega)
  generalize grownCap w (n + 1) c 37 = G at *
  have hG63 : G ≤ 9223372036854775807 := by unfold maxLen at hGm; omega
  obtain ⟨R, hR0⟩ : ∃ R : List Value, R = (T.toArray ++ Builtin.zeroCells (Value.agg #[.int .i64 0, .int .i64 0, .int .i64 0, .int .i64 0, .string ⟨#[]⟩]).cells (n + 1 - i) ++ Builtin.zeroCells (Value.agg #[.int .i64 0, .int .i64 0, .int .i64 0, .int .i64 0, .string ⟨#[]⟩]).cells (G - (n + 1))).toList := ⟨_, rfl⟩
  have hR : T.toArray ++ Builtin.zeroCells (Value.agg #[.int .i64 0, .int .i64 0, .int .i64 0, .int .i64 0, .string ⟨#[]⟩]).cells (n + 1 - i) ++ Builtin.zeroCells (Value.agg #[.int .i64 0, .int .i64 0, .int .i64 0, .int .i64 0, .string ⟨#[]⟩]).cells (G - (n + 1)) = R.toArray := by rw [hR0, Array.toArray_toList]
  have hRl : R.length = G * 5 := by
    rw [hR0, Array.length_toList, Array.size_append, Array.size_append, size_zeroCells, size_zeroCells, List.size_toArray, hTl]
    have h2 : ((Value.agg #[.int .i64 0, .int .i64 0, .int .i64 0, .int .i64 0, .string ⟨#[]⟩]).cells).size = 5 := rfl
    rw [h2]
    omega
  have hRT : R.take (i * 5) = T := by
    rw [hR0, Array.toList_append, Array.toList_append, List.toList_toArray, List.append_assoc, List.take_append_of_le_length (by omega), List.take_of_length_le (by omega)]
  clear hR0
  rw [hR] at hrz
  obtain ⟨W1, hW1⟩ : ∃ W1, W1 = w.drew.alloc (.cells R.toArray 37) := ⟨_, rfl⟩
  rw [← hW1] at hrz
  have hrow : W1.heap[w.heap.size]? = some (.cells R.toArray 37 (0, 0)) := by rw [hW1]; exact heap_alloc_new w.drew _
  have hB1 : Below W0.heap.size W0 W1 := by rw [hW1]; exact below_then hB (below_alloc (Below.refl w.heap.size w).drew _)
  have hbl : Below w.heap.size w W1 := by rw [hW1]; exact below_alloc (Below.refl w.heap.size w).drew _
  have hx1 : gfE.In W1 vb x := hx.below hbl
  have hg1 : W1.heap[g]? = some (.cells C.toArray 37 (0, 0)) := (hbl.block g hgN).trans hg
  have hBN : W0.heap.size ≤ w.heap.size := hB.size
  have hvne : vb ≠ w.heap.size := by omega
  have hgne : g ≠ w.heap.size := by omega
  generalize w.heap.size = N at *
  have hw1 : IntKind.i64.wrap ((i : Int) + 1) = (i : Int) + 1 := by rw [IntKind.wrap_i64]; omega
  have hb1 : (0 : Int) ≤ (i : Int) + 1 := by omega
  have htn : ((i : Int) + 1).toNat = i + 1 := by omega
  have hz2 : ¬ ((i : Int) = (n : Int)) := by omega
  have hz3 : (c : Int) < (n : Int) + 1 := by omega
  have hb3 : (i : Int) ≤ (n : Int) := by omega
  have hGi : ¬ (G = i) := by omega
  have hGim : ¬ (G = i + 1) := by omega
  have hci : ¬ (c = i) := by omega
  have hfit : i * 5 + 5 ≤ R.length := by omega
  clear hW1 hR hold hinf hz hz1 hik hkk hbl hx hg hgN hvN hB
  go_enter Try.func43, Try.ntmps43
  go_wp2_with (first
    | (at_builtin; refine Lib.wpList_append_run _ rfl _ _ _ _ rfl _ _ rfl rfl _ _ (hrz _) ?_)
    | (refine wpList_copyE rfl (.tmp 43) (.tmp 44) 33 33 rfl 37 Try.underlying33 5 gfSize N (i * 5) _ _ ⟨vb, 0, none⟩ _ _ rfl rfl R 37 hrow (gfE.c x) (by rw [gfE.len]; show 5 = Nat.min 1 (n + 1 - i) * 5; simp only [Nat.min_def]; split <;> omega) (fun j v hj => by rw [Addr.add_lit, Nat.zero_add]; exact (hx1.cell j).trans hj) (by rw [gfE.len]; exact hfit) (gfE.one x) W0.heap.size W0 hB1 hBN ?_; intro w5 hg5 hb5 hk5))
  obtain ⟨S, hS⟩ : ∃ S, splice R (i * 5) (gfE.c x) = S := ⟨_, rfl⟩
  rw [hS] at hg5
  have hSl : S.length = R.length := by rw [← hS]; exact length_splice _ _ _ (by rw [gfE.len]; exact hfit)
  have HS := Lib.hid hS
  have hgd : w5.drew.heap[N]? = some (.cells S.toArray 37 (0, 0)) := hg5.out
  have hsd : ∀ j v, D[j]? = some v → w5.drew.cell? ((⟨g, i * 5, none⟩ : Addr).add j) = some v := gf_get (w := w5.drew) ((hk5 g hgne).trans hg1) (i * 5) D hDs
  have hBd := hb5.drew
  have hfit2 : i * 5 + 5 + D.length ≤ S.length := by omega
  clear hS hg1 hx1 hrow hB1 hb5 hk5 hrz
  go_region_law (refine step_copyE rfl (.tmp 50) (.tmp 53) 33 33 rfl 37 Try.underlying33 5 gfSize N (i * 5 + 5) (n - i) (G - (i + 1)) ⟨g, i * 5, none⟩ (n - i) (c - i) (by simp [Act.eval, Act.put]) (by simp [Act.eval, Act.put]) S 37 hgd D (by rw [hDl]; simp only [Nat.min_def]; split <;> omega) hsd hfit2 hD1 W0.heap.size W0 hBd hBN ?_; intro w6 hg6 hb6 _)
  clear hgd hsd hBd
  go_wp2_with fail
  go_ret
  refine ⟨_, rfl, ?_, hb6⟩
  have hlen : (l.take i ++ [x] ++ l.drop i).length = n + 1 := by
    have := HN.out
    simp only [List.length_append, List.length_take, List.length_drop, List.length_singleton]; omega
  have hfin := new_in R D (gfE.c x) (i * 5) 5 (gfE.len x) (by omega)
  rw [HS.out, show i * 5 + 5 + D.length = (n + 1) * 5 by omega] at hfin
  have hown := gf_own (c := G) (l := l.take i ++ [x] ++ l.drop i) hBN hg6.out (by omega) hGm (by rw [length_splice _ _ _ hfit2, hSl, hRl]) (by
    rw [hlen, hfin, gf_in, HD.out, HT.out, hRT])
  rw [hlen] at hown
  exact hown

theorem gfInsert_any (W0 w : World) (hB : Below W0.heap.size W0 w) (g c : Nat) (l : List Gf) (i : Nat) (x : Gf) (vb : Nat) (hO : gfE.Own w W0.heap.size (.slice (some ⟨g, 0, none⟩) l.length c) l) (hi : i < l.length) (hl : l.length ≤ 1000) (hx : gfE.In w vb x) (hne : vb ≠ g) :
    Calls Try.prog 43 #[.slice (some ⟨g, 0, none⟩) l.length c, .int .i64 i, .slice (some ⟨vb, 0, none⟩) 1 1] w fun e w' => ∃ v, e = .returned v ∧ gfE.Own w' W0.heap.size v (l.take i ++ [x] ++ l.drop i) ∧ Below W0.heap.size W0 w' := by
  by_cases h : l.length + 1 ≤ c
  · exact insRoom_any W0 w hB g c l i x vb hO hi hl hx hne h
  · exact insGrow_any W0 w hB g c l i x vb hO hi hl hx hne (by omega)
theorem own_atG {w : World} {B : Nat} {A : Option Addr} {c : Nat} {l : List Gf} (h : gfE.Own w B (.slice A l.length c) l) (h0 : 0 < l.length) : ∃ g, A = some ⟨g, 0, none⟩ := by
  rcases h.2 with ⟨e, e2⟩ | ⟨g, cap, cur, e, _⟩
  · omega
  · injection e with e1
    exact ⟨g, e1⟩
theorem idxG_none {l : List Gf} {d : Int} (h : ¬ cutG l d < l.length) : idxG l d = -1 := if_neg h
theorem idxG_at {l : List Gf} {d : Int} (h : cutG l d < l.length) : idxG l d = (cutG l d : Int) := if_pos h

set_option maxRecDepth 100000 in
set_option maxHeartbeats 4000000 in
theorem pMergeG_any (A : Option Addr) (c : Nat) (l : List Gf) (g : Gf) (w : World) (hl : l.length ≤ 1000) (hT0 : SlV gfE w A c l) : Calls Try.prog 12 #[.slice A l.length c, .agg #[.int .i64 g.d, .int .i64 g.i, .int .i64 g.c, .int .i64 g.t, .string g.s]] w fun e w' => ∃ (A' : Option Addr) (c' : Nat), e = .returned (.slice A' (mergeG l g).length c') ∧ SlV gfE w' A' c' (mergeG l g) ∧ Below w.heap.size w w' := by
  have hP : gfE.In (w.alloc (.cells #[.int .i64 g.d, .int .i64 g.i, .int .i64 g.c, .int .i64 g.t, .string g.s] 37)) w.heap.size g := El.In.new (E := gfE) w g _ rfl
  have hB := below_alloc (Below.refl w.heap.size w) (.cells #[.int .i64 g.d, .int .i64 g.i, .int .i64 g.c, .int .i64 g.t, .string g.s] 37)
  have C1 := Lib.hid (cloneGf_any A c l _ hl (SlV.below hT0 hB))
  clear hT0
  go_enter Try.func12, Try.ntmps12
  go_upto_region 1 with fail
  generalize w.alloc (.cells #[.int .i64 g.d, .int .i64 g.i, .int .i64 g.c, .int .i64 g.t, .string g.s] 37) = W at *
  obtain ⟨n1, hn1⟩ : ∃ n, w.heap.size = n := ⟨_, rfl⟩
  rw [hn1] at hP ⊢
  clear hn1
  have hlt := hP.lt
  have hws := hB.size
  go_wp2_with fail
  refine C1.out.mono ?_
  rintro e w2 ⟨v, rfl, hO, hb2⟩
  replace hP := hP.below hb2
  obtain ⟨A', c', rfl, hS⟩ := SlV.own hO
  have C2 := Lib.hid (pMergeIdx_any A' c' l n1 g w2 hl hP hS.1)
  clear C1 hS
  go_wp2_with fail
  refine C2.out.mono ?_
  rintro e w3 ⟨rfl, hb3⟩
  replace hP := hP.below hb3
  replace hO := hO.below hb3
  replace hb2 := below_then hb2 hb3
  clear hb3 C2
  by_cases hc : cutG l g.d < l.length
  · rw [idxG_at hc]
    obtain ⟨gb, rfl⟩ := own_atG hO (by omega)
    have hle := cutG_at l g.d hc
    have hnew := mergeG_new l g
    have hold := mergeG_old l g hc
    generalize cutG l g.d = k at *
    have hat : gfE.At w3 gb (k * 5) l[k] := by
      obtain ⟨A2, c2, e2, hS2, _⟩ := SlV.own hO
      injection e2 with e3
      subst e3
      obtain ⟨b, off, eA, _, hcc⟩ := hS2 (by omega)
      injection eA with eA
      injection eA with eb eo
      subst eb eo
      have h := hcc k hc
      rw [Nat.zero_add] at h
      exact h
    have hbr := (hO.lt gb rfl).2
    have hx := gfIdxH (A := some ⟨gb, 0, none⟩) (b := gb) (off := 0) (cap := c') rfl hc
    simp only [Nat.zero_add] at hx
    obtain ⟨s0, s1, s2, s3, s4⟩ := gfAt5 hat
    obtain ⟨q0, q1, q2, q3, q4⟩ := gfIn5 hP
    have f0 : decide ((k : Int) < 0) = false := decide_eq_false (by omega)
    have hki : (k : Int) < (l.length : Int) := by omega
    have HC := Lib.hid hc
    by_cases hd : g.d < l[k].d
    · have HV := Lib.hid (hnew (fun _ => by omega))
      generalize hx0 : l[k].d = x0 at *
      have g5 : decide (g.d < x0) = true := decide_eq_true hd
      clear hd hx0 hat hold hnew hle
      go_wp2_with fail
      go_quiet (fail)
      replace hb2 := below_drew hb2 nq
      replace hP : gfE.In (w3.drewN nq) n1 g := hP
      replace hO := hO.below (below_drew (Below.refl w3.heap.size w3) nq)
      replace hbr : gb < (w3.drewN nq).heap.size := hbr
      clear s0 s1 s2 s3 s4 q0 q1 q2 q3 q4 g5 hx
      generalize w3.drewN nq = V at *
      have hal := below_alloc (Below.refl V.heap.size V) (.cells #[.int .i64 g.d, .int .i64 g.i, .int .i64 g.c, .int .i64 g.t, .string g.s] 37)
      have hX : gfE.In (V.alloc (.cells #[.int .i64 g.d, .int .i64 g.i, .int .i64 g.c, .int .i64 g.t, .string g.s] 37)) V.heap.size g := El.In.new (E := gfE) V g _ rfl
      have CI := Lib.hid (gfInsert_any W _ (below_then hb2 hal) gb c' l k g V.heap.size (hO.below hal) hc hl hX (by omega))
      clear hX hal hO
      go_wp2_with (first | (refine El.load gfRow rfl _ rfl n1 0 rfl g hP.at #[.int .i64 g.d, .int .i64 g.i, .int .i64 g.c, .int .i64 g.t, .string g.s] rfl ?_) | (go_at_call 43; (with_reducible refine CI.out.mono ?_); rintro e w6 ⟨v6, rfl, hO6, hb6⟩))
      rw [← HV.out] at hO6
      obtain ⟨A6, c6, rfl, hS6⟩ := SlV.own hO6
      go_ret
      exact ⟨A6, c6, rfl, hS6, hB.trans (hb6.mono hB.size)⟩
    · have he : l[k].d = g.d := by omega
      have HM := Lib.hid (hold he)
      obtain ⟨bn, hbn⟩ : ∃ bn, newG g l[k] = bn := ⟨_, rfl⟩
      generalize l[k] = x at *
      have g5 : decide (g.d < x.d) = false := decide_eq_false hd
      have CN := Lib.hid (fun wx => (by
        have h := pNewerG_any g x wx
        rw [hbn] at h
        exact h : Calls Try.prog 17 #[.agg #[.int .i64 g.d, .int .i64 g.i, .int .i64 g.c, .int .i64 g.t, .string g.s], .agg #[.int .i64 x.d, .int .i64 x.i, .int .i64 x.c, .int .i64 x.t, .string x.s]] wx fun e w' => e = .returned (.bool bn) ∧ Below wx.heap.size wx w'))
      have HM2 := Lib.hid (show mergeG l g = if bn = true then l.set k g else l by rw [← hbn]; exact HM.out)
      clear hd he hold hnew hle HM hbn
      go_wp2_with fail
      go_quiet (fail)
      replace hb2 := below_drew hb2 nq
      replace hP : gfE.In (w3.drewN nq) n1 g := hP
      replace hat : gfE.At (w3.drewN nq) gb (k * 5) x := hat
      replace hO := hO.below (below_drew (Below.refl w3.heap.size w3) nq)
      replace hbr : gb < (w3.drewN nq).heap.size := hbr
      clear s0 s1 s2 s3 s4 q0 q1 q2 q3 q4 g5
      go_wp2_with fail
      generalize w3.drewN nq = V at *
      replace hP : gfE.In V.drew n1 g := hP
      replace hat : gfE.At V.drew gb (k * 5) x := hat
      replace hO : gfE.Own V.drew W.heap.size (.slice (some ⟨gb, 0, none⟩) l.length c') l := hO
      replace hb2 := hb2.drew
      replace hbr : gb < V.drew.heap.size := hbr
      go_region_held3 (fun w' => (w'.cell? ⟨n1, 0, none⟩ = some (.int .i64 g.d) ∧ w'.cell? ⟨n1, 1, none⟩ = some (.int .i64 g.i) ∧ w'.cell? ⟨n1, 2, none⟩ = some (.int .i64 g.c) ∧ w'.cell? ⟨n1, 3, none⟩ = some (.int .i64 g.t) ∧ w'.cell? ⟨n1, 4, none⟩ = some (.string g.s)) ∧ (w'.cell? ⟨gb, k * 5, none⟩ = some (.int .i64 x.d) ∧ w'.cell? ⟨gb, k * 5 + 1, none⟩ = some (.int .i64 x.i) ∧ w'.cell? ⟨gb, k * 5 + 2, none⟩ = some (.int .i64 x.c) ∧ w'.cell? ⟨gb, k * 5 + 3, none⟩ = some (.int .i64 x.t) ∧ w'.cell? ⟨gb, k * 5 + 4, none⟩ = some (.string x.s))) (with_reducible exact ⟨gfIn5 hP, gfAt5 hat⟩) (first | (go_at_call 17; (with_reducible refine (CN.out _).mono ?_); rintro e w6 ⟨rfl, hb6⟩; replace hP := hP.below hb6; replace hat := hat.below hb6 hbr; replace hO := hO.below hb6; replace hb2 := below_then hb2 hb6; clear hb6))
      cases bn
      · have hm := HM2.out
        rw [if_neg (by decide)] at hm
        have HV := Lib.hid hm
        clear hm hat
        go_wp2_with fail
        obtain ⟨A6, c6, e6, hS6⟩ := SlV.own hO
        injection e6 with e7 _ e8
        subst e7 e8
        go_ret
        exact ⟨some ⟨gb, 0, none⟩, c', by rw [HV.out]; rfl, by rw [HV.out]; exact hS6, hB.trans (hb2.mono hB.size)⟩
      · have hm := HM2.out
        rw [if_pos rfl] at hm
        have HV := Lib.hid hm
        clear hm hat
        go_wp2_with (first | (refine El.load gfRow rfl _ rfl n1 0 rfl g hP.at #[.int .i64 g.d, .int .i64 g.i, .int .i64 g.c, .int .i64 g.t, .string g.s] rfl ?_) | (refine El.wpList_setAt gfRow rfl _ _ rfl W.heap.size gb c' k l g hO HC.out #[.int .i64 g.d, .int .i64 g.i, .int .i64 g.c, .int .i64 g.t, .string g.s] rfl rfl rfl ?_; intro w7 hO7 hg7 _) | fail)
        obtain ⟨A6, c6, e6, hS6⟩ := SlV.own hO7
        injection e6 with e7 _ e8
        subst e7 e8
        go_ret
        exact ⟨some ⟨gb, 0, none⟩, c', by rw [HV.out, List.length_set]; rfl, by rw [HV.out]; exact hS6, hB.trans ((hb2.grown hg7 hb2.size (fun k hk => by have := hO.rows k (by rw [← hk]; rfl); omega)).mono hB.size)⟩
  · rw [idxG_none hc]
    have hk : cutG l g.d = l.length := by have := cutG_le l g.d; omega
    have HV := Lib.hid (show mergeG l g = l ++ [g] by
      rw [mergeG_new l g (fun h => absurd h hc), hk, List.take_length, List.drop_length, List.append_nil])
    clear hc hk
    have hal := below_alloc (Below.refl w3.heap.size w3) (.cells #[.int .i64 g.d, .int .i64 g.i, .int .i64 g.c, .int .i64 g.t, .string g.s] 37)
    have he : gfE.Sl (w3.alloc (.cells #[.int .i64 g.d, .int .i64 g.i, .int .i64 g.c, .int .i64 g.t, .string g.s] 37)) (some ⟨w3.heap.size, 0, none⟩) [g] := (El.In.new (E := gfE) w3 g _ rfl).sl
    replace hO := hO.below hal
    replace hb2 := below_then hb2 hal
    have hBs := hb2.size
    clear hal
    go_wp2_with (first | (refine El.load gfRow rfl _ rfl n1 0 rfl g hP.at #[.int .i64 g.d, .int .i64 g.i, .int .i64 g.c, .int .i64 g.t, .string g.s] rfl ?_) | (at_builtin; refine El.wpList_app gfInn rfl _ _ rfl W.heap.size _ l [g] rfl hO (some ⟨w3.heap.size, 0, none⟩) 1 1 rfl rfl he (fun e => by cases e) (by rw [List.length_singleton]; omega) hBs ?_; intro v' w5 hO5 hg5 _) | fail)
    rw [← HV.out] at hO5
    obtain ⟨A5, c5, rfl, hS5⟩ := SlV.own hO5
    go_ret
    exact ⟨A5, c5, rfl, hS5, hB.trans ((hb2.grown hg5 hb2.size (fun k hk => hO.rows k hk)).mono hB.size)⟩
end Go.Proofs.Ytfpgfclmmdihjaa

/- The program's Freeze. -/
namespace Go.Proofs.Ytfpgfclmmdihjaa
open Go.RowKit Nam Cod Tre Pst

set_option maxRecDepth 100000 in
set_option maxHeartbeats 8000000 in
theorem pFreeze_any (pos clock : Int) (y : Pw) (A : Option Addr) (c : Nat) (l : List Cn) (w : World) (h1 : i64 pos) (h2 : i64 clock) (hI : PInv y.v) (hl60 : y.ops.length ≤ 60) (hok : PastOk w y) (hl : l.length ≤ 1000) (hw : ∀ c ∈ l, CnW c) (hT : cnE.Sl w A l) : Calls Try.prog 10 #[.int .i64 pos, .int .i64 clock, .agg #[.slice y.bA y.base.length y.bc, .int .i64 y.t, .slice y.oA y.ops.length y.oc, .slice y.uA y.us.length y.uc, .slice y.wA y.now.length y.wc], .slice A l.length c] w fun e w' => e = .returned (.string (snBytes ⟨pos, clock, y.v, l⟩)) ∧ Below w.heap.size w w' := by
  have HT := Lib.hid hT
  have HW := Lib.hid hw
  have hP : pwE.In ((w.alloc (.cells #[.slice y.bA y.base.length y.bc, .int .i64 y.t, .slice y.oA y.ops.length y.oc, .slice y.uA y.us.length y.uc, .slice y.wA y.now.length y.wc] 27)).alloc (.cells #[.pointer none, .slice none 0 0] 92)) w.heap.size y := (El.In.new (E := pwE) w y _ rfl).alloc _
  have hbd := builder_new (w.alloc (.cells #[.slice y.bA y.base.length y.bc, .int .i64 y.t, .slice y.oA y.ops.length y.oc, .slice y.uA y.us.length y.uc, .slice y.wA y.now.length y.wc] 27))
  have hB := below_alloc (below_alloc (Below.refl w.heap.size w) (.cells #[.slice y.bA y.base.length y.bc, .int .i64 y.t, .slice y.oA y.ops.length y.oc, .slice y.uA y.us.length y.uc, .slice y.wA y.now.length y.wc] 27)) (.cells #[.pointer none, .slice none 0 0] 92)
  have hL : w.heap.size + 1 < ((w.alloc (.cells #[.slice y.bA y.base.length y.bc, .int .i64 y.t, .slice y.oA y.ops.length y.oc, .slice y.uA y.us.length y.uc, .slice y.wA y.now.length y.wc] 27)).alloc (.cells #[.pointer none, .slice none 0 0] 92)).heap.size := by rw [alloc_size, alloc_size]; omega
  rw [alloc_size] at hbd
  have C1 := Lib.hid (fun wx => num_any pos wx h1.1 h1.2)
  have C2 := Lib.hid (fun wx => num_any clock wx h2.1 h2.2)
  have C4 := Lib.hid (fun wx => num_any (l.length : Int) wx (by omega) (by omega))
  have C3 := Lib.hid (fun wx (hb : Below w.heap.size w wx) => pPrint_any y wx (hok.below hb) (by have := tree_len hI.tree; exact Nat.le_trans this (by decide)) (by omega) (tree_fit hI.tree) (by have := hI.t0; have := hI.t1; show i64 y.v.t; unfold i64; omega) hI.ok (tree_bytes hI.tree))
  have z1 := bytesOf_le10 h1
  have z2 := bytesOf_le10 h2
  have z4 := bytesOf_le10 (n := (l.length : Int)) (by unfold i64; omega)
  have z3 := past_le hI hl60
  have HV := Lib.hid (show snBytes ⟨pos, clock, y.v, l⟩ = bytesOf pos ++ bytesOf clock ++ pastBytes y.v ++ bytesOf l.length ++ cnK.cat l by unfold snBytes Kd.part; simp only [ByteArray.append_assoc])
  have HC := Lib.hid (cnCat_le hw)
  generalize pastBytes y.v = x3 at *
  generalize bytesOf pos = x1 at *
  generalize bytesOf clock = x2 at *
  generalize bytesOf (l.length : Int) = x4 at *
  have y1 : ¬ 9223372036854775807 < x1.size + x2.size := by omega
  have y2 : ¬ 9223372036854775807 < x1.size + x2.size + x3.size := by omega
  have y3 : ¬ 9223372036854775807 < x1.size + x2.size + x3.size + x4.size := by omega
  clear hI hok hw hT
  go_enter Try.func10, Try.ntmps10
  go_wp2_with fail
  generalize (w.alloc (.cells #[.slice y.bA y.base.length y.bc, .int .i64 y.t, .slice y.oA y.ops.length y.oc, .slice y.uA y.us.length y.uc, .slice y.wA y.now.length y.wc] 27)).alloc (.cells #[.pointer none, .slice none 0 0] 92) = W at *
  obtain ⟨nb, hnb⟩ : ∃ n, w.heap.size + 1 = n := ⟨_, rfl⟩
  obtain ⟨n1, hn1⟩ : ∃ n, w.heap.size = n := ⟨_, rfl⟩
  have hne : n1 ≠ nb := by omega
  have hwb : w.heap.size ≤ nb := by omega
  rw [hnb] at hbd hL ⊢
  rw [hn1] at hP ⊢
  clear hn1 hnb
  replace hP : pwE.In W.drew n1 y := hP
  replace hbd : Lib.IsBuilder 92 5 nb nb [] W.drew := hbd
  replace hB := hB.drew
  replace hL : nb < W.drew.heap.size := hL
  go_region_held3 (fun w' => w'.cell? ⟨n1, 0, none⟩ = some (.slice y.bA y.base.length y.bc) ∧ w'.cell? ⟨n1, 1, none⟩ = some (.int .i64 y.t) ∧ w'.cell? ⟨n1, 2, none⟩ = some (.slice y.oA y.ops.length y.oc) ∧ w'.cell? ⟨n1, 3, none⟩ = some (.slice y.uA y.us.length y.uc) ∧ w'.cell? ⟨n1, 4, none⟩ = some (.slice y.wA y.now.length y.wc)) (with_reducible exact pwIn5 hP) (first | (go_at_call 27; (with_reducible first | refine (C1.out _).mono ?_ | refine (C2.out _).mono ?_ | refine (C4.out _).mono ?_); rintro e w3 ⟨rfl, hb3⟩; replace hP := hP.below hb3; replace hbd := builder_below hbd hb3; replace hB := below_then hB hb3; replace hL := Nat.lt_of_lt_of_le hL hb3.size) | (go_at_call 36; (with_reducible refine (C3.out _ hB).mono ?_); rintro e w3 ⟨rfl, hb3⟩; replace hP := hP.below hb3; replace hbd := builder_below hbd hb3; replace hB := below_then hB hb3; replace hL := Nat.lt_of_lt_of_le hL hb3.size) | (go_at_call 35; (with_reducible refine (wstr_any _ _ _ _ _ hbd (by simp [ByteArray.size_append]; omega) (Nat.le_of_lt hL)).mono ?_); rintro e w4 ⟨rfl, hbd4, hN4, hr4⟩; replace hP : pwE.In w4 n1 y := (hr4 n1 _ _ _ hP hne (by decide)).trans hP; replace hB := hB.trans (hN4.mono hwb)))
  all_goals
    have hX30 : (x1 ++ x2 ++ x3 ++ x4).size ≤ 300000 := by simp only [ByteArray.size_append]; omega
    rw [List.nil_append] at hbd4
    generalize x1 ++ x2 ++ x3 ++ x4 = N at *
    have hbd5 : Lib.IsBuilder 92 5 nb nb (Lib.strCells (N ++ cnK.cat (l.take 0))) w4 := by
      rw [List.take_zero, show N ++ cnK.cat [] = N from L_inj (by rw [L_app]; show L N ++ L ⟨#[]⟩ = _; simp [L])]
      exact hbd4
    clear hbd4 hbd hL C1 C2 C3 C4 z1 z2 z3 z4 y1 y2 y3 hr4 hN4 hP
    go_wp2_with fail
    go_loopw [27] (fun i wr => ∃ k : Nat, k ≤ l.length ∧ i = .int .i64 k ∧ Lib.IsBuilder 92 5 nb nb (Lib.strCells (N ++ cnK.cat (l.take k))) wr ∧ Below w.heap.size w wr) (fun i _ => l.length - (intOf i).toNat)
    case atStart => exact ⟨0, Nat.zero_le _, rfl, hbd5, hB⟩
    case round =>
      clear hbd5 hB
      obtain ⟨k, hk, rfl, hbd, hB⟩ := hrel
      have hlt : nb < wr.heap.size := by rcases hbd with h | h <;> exact h.lt
      by_cases hkl : k < l.length
      · obtain ⟨b, off, eA, hbw, hc⟩ := HT.out (by omega)
        have hx := cnIdxF (cap := c) eA hkl
        have hat : cnE.At wr b (off + k * 3) l[k] := (hc k hkl).below hB hbw
        have hzk := HC.out k
        have HNX := Lib.hid (show N ++ cnK.cat (l.take (k + 1)) = N ++ cnK.cat (l.take k) ++ cnBytes l[k] by rw [cnK.cat_next l k hkl, ByteArray.append_assoc]; rfl)
        obtain ⟨i1, i2, i3⟩ := HW.out l[k] (List.getElem_mem _)
        generalize l[k] = x at *
        have hss : (N ++ cnK.cat (l.take k)).size = N.size + (cnK.cat (l.take k)).size := ByteArray.size_append
        generalize N ++ cnK.cat (l.take k) = Z at *
        have D1 := Lib.hid (fun wx => num_any x.d wx i1.1 i1.2)
        have D2 := Lib.hid (fun wx => num_any x.i wx i2.1 i2.2)
        have D3 := Lib.hid (fun wx => num_any x.n wx i3.1 i3.2)
        have z1 := bytesOf_le10 i1
        have z2 := bytesOf_le10 i2
        have z3 := bytesOf_le10 i3
        have HX := Lib.hid (show cnBytes x = bytesOf x.d ++ bytesOf x.i ++ bytesOf x.n from rfl)
        generalize cnBytes x = Bx at *
        generalize bytesOf x.d = x1 at *
        generalize bytesOf x.i = x2 at *
        generalize bytesOf x.n = x3 at *
        have HNV := Lib.hid (show N ++ cnK.cat (l.take (k + 1)) = Z ++ (x1 ++ x2 ++ x3) by rw [HNX.out, HX.out])
        have hZs : Z.size ≤ 400000 := by omega
        have y1 : ¬ 9223372036854775807 < x1.size + x2.size := by omega
        have y2 : ¬ 9223372036854775807 < x1.size + x2.size + x3.size := by omega
        have hE : cnE.In (wr.alloc (.cells #[.int .i64 x.d, .int .i64 x.i, .int .i64 x.n] 69)) wr.heap.size x := El.In.new (E := cnE) wr x _ rfl
        have hal := below_alloc (Below.refl wr.heap.size wr) (.cells #[.int .i64 x.d, .int .i64 x.i, .int .i64 x.n] 69)
        have hne2 : wr.heap.size ≠ nb := by omega
        replace hbd := builder_below hbd hal
        replace hB := below_then hB hal
        replace hlt := Nat.lt_of_lt_of_le hlt hal.size
        clear hc eA i1 i2 i3 hss hzk HNX HX hal
        go_upto_region 6 with (first | (refine El.load cnRow rfl _ rfl b (off + k * 3) rfl x hat #[.int .i64 x.d, .int .i64 x.i, .int .i64 x.n] rfl ?_) | fail)
        generalize wr.alloc (.cells #[.int .i64 x.d, .int .i64 x.i, .int .i64 x.n] 69) = V at *
        generalize wr.heap.size = nx at *
        replace hE : cnE.In V.drew nx x := hE
        replace hbd : Lib.IsBuilder 92 5 nb nb (Lib.strCells Z) V.drew := hbd
        replace hB := hB.drew
        replace hlt : nb < V.drew.heap.size := hlt
        clear hat hx hbw
        go_region_held3 (fun w' => w'.cell? ⟨nx, 0, none⟩ = some (.int .i64 x.d) ∧ w'.cell? ⟨nx, 1, none⟩ = some (.int .i64 x.i) ∧ w'.cell? ⟨nx, 2, none⟩ = some (.int .i64 x.n)) (with_reducible exact cnIn3 hE) (first | (go_at_call 27; (with_reducible first | refine (D1.out _).mono ?_ | refine (D2.out _).mono ?_ | refine (D3.out _).mono ?_); rintro e w3 ⟨rfl, hb3⟩; replace hE := hE.below hb3; replace hbd := builder_below hbd hb3; replace hB := below_then hB hb3; replace hlt := Nat.lt_of_lt_of_le hlt hb3.size) | (go_at_call 35; (with_reducible refine (wstr_any _ _ _ _ _ hbd (by simp only [Lib.strCells_length, ByteArray.size_append]; omega) (Nat.le_of_lt hlt)).mono ?_); rintro e w5 ⟨rfl, hbd5, hN5, hr5⟩; replace hE : cnE.In w5 nx x := (hr5 nx _ _ _ hE hne2 (by decide)).trans hE; replace hB := hB.trans (hN5.mono hwb)))
        all_goals
          rw [← strCells_app, ← HNV.out] at hbd5
          clear hE hbd hlt y1 y2 D1 D2 D3 hr5 hN5
          go_wp2_with fail
          exact ⟨⟨k + 1, by omega, by go_num, hbd5, hB⟩, by simp [intOf]; omega⟩
      · obtain rfl : k = l.length := by omega
        rw [List.take_length, ← HV.out] at hbd
        have C := builder_String_any nb nb (L (snBytes ⟨pos, clock, y.v, l⟩)) wr hbd (Nat.le_of_lt hlt)
        have he : (⟨(L (snBytes ⟨pos, clock, y.v, l⟩)).toArray⟩ : ByteArray) = snBytes ⟨pos, clock, y.v, l⟩ := back_L _
        rw [he] at C
        have HC := Lib.hid C
        clear C he hbd
        go_wp2_with fail
        refine HC.out.mono ?_
        rintro r w5 ⟨rfl, hb5⟩
        go_wp2_with fail
        go_ret
        exact ⟨rfl, hB.trans (hb5.mono hwb)⟩
end Go.Proofs.Ytfpgfclmmdihjaa

/- The document's ReadCounts. -/
namespace Go.Proofs.Ytfpgfclmmdihjaa
open Go.RowKit Nam Cod

theorem Kd.isL_take {α : Type} (K : Kd α) (s : ByteArray) (p j : Nat) : ∀ (d : Nat) (L : List α) (q : Nat), K.isL s (j + d) p = some (L, q) → ∃ qj, K.isL s j p = some (L.take j, qj)
  | 0, L, q, h => ⟨q, by have := (K.l_bytes _ _ _ _ _ h).1; rw [List.take_of_length_le (by omega)]; exact h⟩
  | d + 1, L, q, h => by
    rw [← Nat.add_assoc, K.isL_next] at h
    cases ha : K.isL s (j + d) p with
    | none => rw [ha] at h; cases h
    | some a =>
      obtain ⟨l, ql⟩ := a
      rw [ha, Option.bind_some] at h
      dsimp only at h
      cases he : K.is s ql false with
      | none => rw [he] at h; cases h
      | some e =>
        rw [he, Option.bind_some] at h
        injection h with h
        injection h with h1 h2
        obtain ⟨qj, hj⟩ := Kd.isL_take K s p j d l ql ha
        refine ⟨qj, ?_⟩
        rw [hj, ← h1, List.take_append_of_le_length (by have := (K.l_bytes _ _ _ _ _ ha).1; omega)]
/-- Behind some of n counts: they may be, or nothing is read in the end. -/
def cAt (s : ByteArray) (p : Nat) (bad : Bool) (n : Nat) (l : List Cn) (q : Nat) (bd : Bool) : Prop := (bd = false ∧ ∃ qc, isCount s p bad 12 = some ((n : Int), qc) ∧ cnK.isL s l.length qc = some (l, q) ∧ goodC l l.length) ∨ (bd = true ∧ isCns s p bad = none)
section
variable {s : ByteArray} {p : Nat} {bad : Bool} {n : Nat} {l : List Cn} {q : Nat}
theorem isCns_no (h : cnK.isPart 12 s p bad = none) : isCns s p bad = none := by unfold isCns; rw [h]; rfl
theorem cAt.start {bd : Bool} (h : cStepF 12 s p bad n q bd) : cAt s p bad n [] q bd := by
  rcases h with ⟨h, rfl⟩ | ⟨h, _, rfl⟩
  · exact Or.inl ⟨rfl, q, h, rfl, fun j hj => absurd hj (Nat.not_lt_zero _)⟩
  · refine Or.inr ⟨rfl, isCns_no ?_⟩
    unfold Kd.isPart; rw [h]; rfl
theorem goodC_app {l : List Cn} {x : Cn} (h : goodC l l.length) (h1 : cnB x = true) (h2 : 0 < l.length → (l.getD (l.length - 1) zeroCn).d < x.d) : goodC (l ++ [x]) (l ++ [x]).length := fun j hj _ => by
  by_cases e : j < l.length
  · have h3 := h j e e
    rw [List.getElem_append_left e]
    refine ⟨h3.1, fun h0 => ?_⟩
    have h4 := h3.2 h0
    rw [List.getD_eq_getElem?_getD, List.getElem?_eq_getElem (show j - 1 < l.length by omega)] at h4
    rw [List.getD_eq_getElem?_getD, List.getElem?_append_left (by omega), List.getElem?_eq_getElem (show j - 1 < l.length by omega)]
    exact h4
  · rw [List.length_append, List.length_singleton] at hj
    obtain rfl : j = l.length := by omega
    rw [List.getElem_append_right (Nat.le_refl _)]
    simp only [Nat.sub_self, List.getElem_cons_zero]
    refine ⟨h1, fun h0 => ?_⟩
    have h4 := h2 h0
    rw [List.getD_eq_getElem?_getD, List.getElem?_eq_getElem (show l.length - 1 < l.length by omega)] at h4
    rw [List.getD_eq_getElem?_getD, List.getElem?_append_left (by omega), List.getElem?_eq_getElem (show l.length - 1 < l.length by omega)]
    exact h4
theorem cAt.next {x : Cn} {q' : Nat} (h : cAt s p bad n l q false) (hx : isCn s q false = some (x, q')) (h1 : cnB x = true) (h2 : 0 < l.length → (l.getD (l.length - 1) zeroCn).d < x.d) : cAt s p bad n (l ++ [x]) q' false := by
  rcases h with ⟨_, qc, g1, g2, g3⟩ | ⟨h, _⟩
  · refine Or.inl ⟨rfl, qc, g1, ?_, goodC_app g3 h1 h2⟩
    rw [List.length_append, List.length_singleton, cnK.isL_next, g2, Option.bind_some]
    show (isCn s q false).bind _ = _
    rw [hx]; rfl
  · cases h
theorem cAt.lost (h : cAt s p bad n l q false) (hj : l.length < n) (hx : isCn s q false = none) : isCns s p bad = none := by
  rcases h with ⟨_, qc, g1, g2, g3⟩ | ⟨h, _⟩
  · refine isCns_no ?_
    have h4 : cnK.isL s (l.length + 1) qc = none := by rw [cnK.isL_next, g2, Option.bind_some]; show (isCn s q false).bind _ = _; rw [hx]; rfl
    have h5 := cnK.isL_none s qc (l.length + 1) h4 (n - (l.length + 1))
    rw [show l.length + 1 + (n - (l.length + 1)) = n by omega] at h5
    unfold Kd.isPart
    rw [g1, Option.bind_some]
    exact h5
  · cases h
theorem cAt.outside {x : Cn} {q' : Nat} (h : cAt s p bad n l q false) (hj : l.length < n) (hx : isCn s q false = some (x, q')) (hn : ¬ (cnB x = true ∧ (0 < l.length → (l.getD (l.length - 1) zeroCn).d < x.d))) : isCns s p bad = none := by
  rcases h with ⟨_, qc, g1, g2, g3⟩ | ⟨h, _⟩
  · unfold isCns
    cases hp : cnK.isPart 12 s p bad with
    | none => rfl
    | some a =>
      obtain ⟨L, qL⟩ := a
      rw [Option.bind_some, if_neg]
      intro hc
      have hc := cnsB_iff.1 hc
      dsimp only at hc
      unfold Kd.isPart at hp
      rw [g1, Option.bind_some] at hp
      dsimp only at hp
      have hLn := (cnK.l_bytes _ _ _ _ _ hp).1
      simp only [Int.toNat_natCast] at hp hLn
      obtain ⟨qj, h6⟩ := cnK.isL_take s qc (l.length + 1) (n - (l.length + 1)) L qL (by rw [show l.length + 1 + (n - (l.length + 1)) = n by omega]; exact hp)
      have h7 : cnK.isL s (l.length + 1) qc = some (l ++ [x], q') := by rw [cnK.isL_next, g2, Option.bind_some]; show (isCn s q false).bind _ = _; rw [hx]; rfl
      rw [h7] at h6
      injection h6 with h6
      injection h6 with h8 _
      have hk : l.length < L.length := by omega
      have e1 : L[l.length] = x := by
        have : (L.take (l.length + 1))[l.length]? = some x := by rw [← h8]; simp
        rw [List.getElem?_take_of_lt (by omega), List.getElem?_eq_getElem hk] at this
        exact Option.some.inj this
      have h9 := hc l.length hk hk
      rw [e1] at h9
      refine hn ⟨h9.1, fun h0 => ?_⟩
      have h10 := h9.2 h0
      have e2 : L.getD (l.length - 1) zeroCn = l.getD (l.length - 1) zeroCn := by
        have : (L.take (l.length + 1))[l.length - 1]? = l[l.length - 1]? := by rw [← h8, List.getElem?_append_left (by omega)]
        rw [List.getElem?_take_of_lt (by omega)] at this
        rw [List.getD_eq_getElem?_getD, List.getD_eq_getElem?_getD, this]
      rw [e2] at h10
      exact h10
  · cases h
theorem cAt.good (h : cAt s p bad n l q false) (hj : ¬ l.length < n) (hl : l.length ≤ n) : isCns s p bad = some (l, q) := by
  rcases h with ⟨_, qc, g1, g2, g3⟩ | ⟨h, _⟩
  · obtain rfl : l.length = n := by omega
    unfold isCns Kd.isPart
    rw [g1, Option.bind_some]
    dsimp only
    rw [Int.toNat_natCast, g2, Option.bind_some, if_pos (cnsB_iff.2 g3)]
  · cases h
theorem cAt.ill (h : cAt s p bad n l q true) : isCns s p bad = none := by
  rcases h with ⟨h, _⟩ | ⟨_, h⟩
  · cases h
  · exact h
end
theorem numStayP {s : ByteArray} {p : Nat} {v : Int} {q : Nat} {b : Bool} (h : numStep s p true v q b) : b = true := by
  rcases h with ⟨h, _⟩ | ⟨_, _, h⟩
  · rw [isNum_bad] at h; cases h
  · exact h
theorem cn_step {s : ByteArray} {p : Nat} {bad : Bool} {a b c : Int} {q1 q2 q3 : Nat} {b1 b2 b3 : Bool} (h1 : numStep s p bad a q1 b1) (h2 : numStep s q1 b1 b q2 b2) (h3 : numStep s q2 b2 c q3 b3) : (isCn s p bad = some (⟨a, b, c⟩, q3) ∧ b3 = false) ∨ (isCn s p bad = none ∧ b3 = true) := by
  have t2 : b1 = true → b2 = true := fun e => by subst e; exact numStayP h2
  have t3 : b2 = true → b3 = true := fun e => by subst e; exact numStayP h3
  rcases h1 with ⟨h1, rfl⟩ | ⟨h1, _, e1⟩
  · rcases h2 with ⟨h2, rfl⟩ | ⟨h2, _, e2⟩
    · rcases h3 with ⟨h3, rfl⟩ | ⟨h3, _, e3⟩
      · exact Or.inl ⟨by simp only [isCn, h1, h2, h3, Option.bind_some], rfl⟩
      · exact Or.inr ⟨by simp only [isCn, h1, h2, h3, Option.bind_some, Option.bind_none], e3⟩
    · exact Or.inr ⟨by simp only [isCn, h1, h2, Option.bind_some, Option.bind_none], t3 e2⟩
  · exact Or.inr ⟨by simp only [isCn, h1, Option.bind_none], t3 (t2 e1)⟩
theorem refCntP_m {w : World} {b p : Nat} {s : ByteArray} {bad : Bool} (most : Nat) (hs : s.size ≤ 1000000) (hp : p ≤ s.size) (hr : Rd 77 w b s p bad) :
    Calls Try.prog 71 #[.pointer (some ⟨b, 0, none⟩), .int .i64 most] w fun e w' => ∃ v q bad', e = .returned (.int .i64 (v : Nat)) ∧ v ≤ most ∧ Rd 77 w' b s q bad' ∧ q ≤ s.size ∧ w.grownBy w' (some b) ∧ cStepF most s p bad v q bad' := by
  rcases h : isCount s p bad most with _ | ⟨v, q⟩
  · exact (refCount_no hs hp hr h).mono fun e w' ⟨he, ⟨q, hq, hr'⟩, hg⟩ => ⟨0, q, true, he, by omega, hr', hq, hg, Or.inr ⟨h, rfl, rfl⟩⟩
  · obtain ⟨h1, h2, h3⟩ := isCount_some h
    obtain ⟨n, rfl⟩ : ∃ n : Nat, v = n := ⟨v.toNat, by omega⟩
    exact (refCount_yes hs hp hr h).mono fun e w' ⟨he, hr', hg⟩ => ⟨n, q, false, he, by omega, hr', (isNum_some h1).2.2.1, hg, Or.inl ⟨h, rfl⟩⟩
theorem by_ownP {a w w' : World} {b : Nat} {row : Option Nat} (h : a.grownBy w (some b)) (g : w.grownBy w' row) (hrow : ∀ k, row = some k → a.heap.size ≤ k) : a.grownBy w' (some b) :=
  ⟨g.os.trans h.os, g.tape.trans h.tape, g.output.trans h.output, Nat.le_trans h.size g.size, fun k hk hne =>
    (g.block k (Nat.lt_of_lt_of_le hk h.size) (fun e => by have := hrow k e.symm; omega)).trans (h.block k hk hne)⟩

theorem cAt.good_step {s : ByteArray} {p : Nat} {bad : Bool} {n : Nat} {l : List Cn} {q q3 : Nat} {x : Cn} {b3 : Bool} (h : cAt s p bad n l q false) (hj : l.length < n) (hst : (isCn s q false = some (x, q3) ∧ b3 = false) ∨ (isCn s q false = none ∧ b3 = true)) (h1 : cnB x = true) (h2 : 0 < l.length → (l.getD (l.length - 1) zeroCn).d < x.d) : cAt s p bad n (l ++ [x]) q3 b3 := by
  rcases hst with ⟨hx, rfl⟩ | ⟨hx, rfl⟩
  · exact h.next hx h1 h2
  · exact Or.inr ⟨rfl, h.lost hj hx⟩
theorem cAt.bad_step {s : ByteArray} {p : Nat} {bad : Bool} {n : Nat} {l : List Cn} {q q3 : Nat} {x : Cn} {b3 : Bool} (h : cAt s p bad n l q false) (hj : l.length < n) (hst : (isCn s q false = some (x, q3) ∧ b3 = false) ∨ (isCn s q false = none ∧ b3 = true)) (hn : ¬ (cnB x = true ∧ (0 < l.length → (l.getD (l.length - 1) zeroCn).d < x.d))) : cAt s p bad n (l ++ [x]) q3 true := by
  rcases hst with ⟨hx, _⟩ | ⟨hx, _⟩
  · exact Or.inr ⟨rfl, h.outside hj hx hn⟩
  · exact Or.inr ⟨rfl, h.lost hj hx⟩
def lenP : Value → Nat
  | .slice _ n _ => n
  | _ => 0
theorem own_lenP {α : Type} {E : El α} {w : World} {B : Nat} {v : Value} {l : List α} (h : E.Own w B v l) : lenP v = l.length := by
  obtain ⟨A, c, rfl, _⟩ := SlV.own h
  rfl
theorem cnIdxP {A : Option Addr} {b off len cap k : Nat} (hA : A = some ⟨b, off, none⟩) (h : k < len) : ∀ w, (Instr.indexAt 28 (.slice A len cap) (.int .i64 k)).run Try.prog w = .ok (.pointer (some ⟨b, off + k * 3, none⟩)) w := fun w => by
  subst hA
  have h2 : (k : Int) < (len : Int) := by omega
  go_simp

set_option maxRecDepth 100000 in
set_option maxHeartbeats 8000000 in
theorem refCounts_uni (w : World) (b p : Nat) (s : ByteArray) (bad : Bool) (hs : s.size ≤ 1000000) (hp : p ≤ s.size) (hr : Rd 77 w b s p bad) :
    Calls Try.prog 52 #[.pointer (some ⟨b, 0, none⟩)] w fun e w' => ∃ (A : Option Addr) (c : Nat) (l : List Cn) (q : Nat) (bd : Bool), e = .returned (.slice A l.length c) ∧ SlV cnE w' A c l ∧ Rd 77 w' b s q bd ∧ q ≤ s.size ∧ w.grownBy w' (some b) ∧ ((bd = false ∧ isCns s p bad = some (l, q)) ∨ (bd = true ∧ isCns s p bad = none)) := by
  have hbw := hr.lt
  have hG := by_below (Below.refl w.heap.size w) (some b)
  go_enter Try.func52, Try.ntmps52
  go_wp2_with fail
  refine (refCntP_m 12 hs hp hr).mono ?_
  rintro e w1 ⟨n, q0, b0, rfl, hnm, hR, hq0, hg, st⟩
  have HS := Lib.hid (cAt.start st)
  replace hG := by_trans hG hg
  have HNM := Lib.hid hnm
  clear hr hg st hnm
  go_wp2_with fail
  go_loopw [3, 5] (fun x y wr => ∃ (v : Value) (l : List Cn) (q : Nat) (bd : Bool), x = v ∧ y = .int .i64 (l.length : Nat) ∧ cnE.Own wr w.heap.size v l ∧ Hid (l.length ≤ n) ∧ Rd 77 wr b s q bd ∧ q ≤ s.size ∧ w.grownBy wr (some b) ∧ Hid (cAt s p bad n l q bd)) (fun x _ _ => n - lenP x)
  case atStart => exact ⟨_, [], q0, b0, rfl, rfl, El.Own.nil w1 w.heap.size, Lib.hid (Nat.zero_le _), hR, hq0, hG, HS⟩
  case round =>
    clear hR hG HS hq0
    obtain ⟨v, l, q, bd, rfl, rfl, hO, hl, hR, hq, hG, HS⟩ := hrel
    obtain ⟨A, c, rfl, hS⟩ := SlV.own hO
    obtain ⟨r0, r1, r2⟩ := hR.cells
    cases bd
    · by_cases hlt : l.length < n
      · have HLE := Lib.hid (show l.length + 1 ≤ 12 by have := HNM.out; omega)
        have f5 : decide ((l.length : Int) < (n : Int)) = true := decide_eq_true (by omega)
        have f6 : decide (l.length < n) = true := decide_eq_true hlt
        have HLT := Lib.hid hlt
        clear hS hlt
        go_wp2_with fail
        clear r0 r1 r2 f5 f6
        refine (refNum_uni hs hq hR).mono ?_
        rintro e w1 ⟨v1, q1, b1, rfl, hR, hq1, hg, st1⟩
        replace hO := hO.kept hg (Or.inr (fun e => by have := (hO.lt b e).1; omega))
        replace hG := by_trans hG hg
        clear hg
        go_wp2_with fail
        refine (refNum_uni hs hq1 hR).mono ?_
        rintro e w2 ⟨v2, q2, b2, rfl, hR, hq2, hg, st2⟩
        replace hO := hO.kept hg (Or.inr (fun e => by have := (hO.lt b e).1; omega))
        replace hG := by_trans hG hg
        clear hg
        go_wp2_with fail
        refine (refNum_uni hs hq2 hR).mono ?_
        rintro e w3 ⟨v3, q3, b3, rfl, hR, hq3, hg, st3⟩
        replace hO := hO.kept hg (Or.inr (fun e => by have := (hO.lt b e).1; omega))
        replace hG := by_trans hG hg
        have HST := Lib.hid (cn_step st1 st2 st3)
        clear hg st1 st2 st3
        have hX : cnE.In (w3.alloc (.cells #[.int .i64 v1, .int .i64 v2, .int .i64 v3] 69)) w3.heap.size ⟨v1, v2, v3⟩ := El.In.new (E := cnE) w3 ⟨v1, v2, v3⟩ _ rfl
        have hal := below_alloc (Below.refl w3.heap.size w3) (.cells #[.int .i64 v1, .int .i64 v2, .int .i64 v3] 69)
        have hnx : w3.heap.size ≠ b := by have := hG.size; omega
        replace hO := hO.below hal
        replace hR := hR.below hal
        replace hG := by_trans hG (by_below hal _)
        clear hal
        go_upto_region 7 with fail
        generalize w3.alloc (.cells #[.int .i64 v1, .int .i64 v2, .int .i64 v3] 69) = V at *
        generalize w3.heap.size = nx at *
        obtain ⟨x0, x1, x2⟩ := cnIn3 hX
        dsimp only at x0 x1 x2
        by_cases a0 : v1 < 0
        · have g0 : decide (v1 < 0) = true := decide_eq_true a0
          have HNR := Lib.hid (HS.out.bad_step HLT.out HST.out (fun h => by have h1 := of_decide_eq_true (show decide (0 ≤ v1 ∧ v1 < 12 ∧ 1 ≤ v2 ∧ 0 ≤ v3) = true from h.1); omega))
          clear HS HST
          go_quiet (fail)
          have hqb := below_drew (Below.refl V.heap.size V) nq
          replace hR := hR.drewN nq
          replace hO := hO.below hqb
          replace hX := hX.below hqb
          replace hG := by_trans hG (by_below hqb _)
          clear hqb x0 x1 x2
          generalize V.drewN nq = V1 at *
          have g := by_set (by_below (Below.refl V1.heap.size V1) (some b)) 2 (.bool true)
          obtain ⟨r0, r1, r2⟩ := hR.cells
          have rf := hR.frozen
          have hRb := hR.setBad
          replace hO := hO.kept g (Or.inr (fun e => by have := (hO.lt b e).1; omega))
          replace hX := hX.keep g (fun e => hnx (Option.some.inj e))
          replace hG := by_trans hG g
          clear hR g
          go_upto_region 9 with fail
          have hR := hRb
          clear hRb r0 r1 r2 rf
          generalize V1.setCell ⟨b, 2, none⟩ (.bool true) = V2 at *
          have hb4 := below_alloc (Below.refl V2.heap.size V2) (.cells #[.int .i64 v1, .int .i64 v2, .int .i64 v3] 69)
          have hE : cnE.Sl (V2.alloc (.cells #[.int .i64 v1, .int .i64 v2, .int .i64 v3] 69)) (some ⟨V2.heap.size, 0, none⟩) [⟨v1, v2, v3⟩] := (El.In.new (E := cnE) V2 ⟨v1, v2, v3⟩ _ rfl).sl
          replace hO := hO.below hb4
          replace hR := hR.below hb4
          replace hG := by_trans hG (by_below hb4 _)
          have hBs := hG.size
          clear hb4
          go_wp2_with (first | (refine El.load cnRow rfl _ rfl nx 0 rfl ⟨v1, v2, v3⟩ hX.at #[.int .i64 v1, .int .i64 v2, .int .i64 v3] rfl ?_) | (at_builtin; refine El.wpList_app cnInn rfl _ _ rfl w.heap.size _ l [⟨v1, v2, v3⟩] rfl hO (some ⟨V2.heap.size, 0, none⟩) 1 1 rfl rfl hE (fun e => by cases e) (by have := HLE.out; rw [List.length_singleton]; omega) hBs ?_; intro v' w5 hO5 hg5 _) | fail)
          replace hR := hR.keep hg5 (fun e => by have := (hO.lt b e.symm).1; omega)
          replace hG := by_ownP hG hg5 (fun k e => (hO.lt k e).1)
          clear hO hE hX hg5
          go_wp2_with fail
          exact ⟨⟨v', l ++ [⟨v1, v2, v3⟩], q3, true, rfl, by have h7 := HLE.out; rw [List.length_append, List.length_singleton]; exact congrArg (Value.int .i64) (by rw [show wrap64 ((l.length : Int) + 1) = (l.length : Int) + 1 from by unfold wrap64; omega]; rfl), hO5, Lib.hid (by rw [List.length_append, List.length_singleton]; have := HLT.out; omega), hR, hq3, hG, HNR⟩, by have h9 := own_lenP hO5; rw [List.length_append, List.length_singleton] at h9; have h8 := HLT.out; show n - lenP v' < n - l.length; omega⟩
        · have g0 : decide (v1 < 0) = false := decide_eq_false a0
          by_cases a1 : 12 ≤ v1
          · have g1 : decide (12 ≤ v1) = true := decide_eq_true a1
            have HNR := Lib.hid (HS.out.bad_step HLT.out HST.out (fun h => by have h1 := of_decide_eq_true (show decide (0 ≤ v1 ∧ v1 < 12 ∧ 1 ≤ v2 ∧ 0 ≤ v3) = true from h.1); omega))
            clear HS HST
            go_quiet (fail)
            have hqb := below_drew (Below.refl V.heap.size V) nq
            replace hR := hR.drewN nq
            replace hO := hO.below hqb
            replace hX := hX.below hqb
            replace hG := by_trans hG (by_below hqb _)
            clear hqb x0 x1 x2
            generalize V.drewN nq = V1 at *
            have g := by_set (by_below (Below.refl V1.heap.size V1) (some b)) 2 (.bool true)
            obtain ⟨r0, r1, r2⟩ := hR.cells
            have rf := hR.frozen
            have hRb := hR.setBad
            replace hO := hO.kept g (Or.inr (fun e => by have := (hO.lt b e).1; omega))
            replace hX := hX.keep g (fun e => hnx (Option.some.inj e))
            replace hG := by_trans hG g
            clear hR g
            go_upto_region 9 with fail
            have hR := hRb
            clear hRb r0 r1 r2 rf
            generalize V1.setCell ⟨b, 2, none⟩ (.bool true) = V2 at *
            have hb4 := below_alloc (Below.refl V2.heap.size V2) (.cells #[.int .i64 v1, .int .i64 v2, .int .i64 v3] 69)
            have hE : cnE.Sl (V2.alloc (.cells #[.int .i64 v1, .int .i64 v2, .int .i64 v3] 69)) (some ⟨V2.heap.size, 0, none⟩) [⟨v1, v2, v3⟩] := (El.In.new (E := cnE) V2 ⟨v1, v2, v3⟩ _ rfl).sl
            replace hO := hO.below hb4
            replace hR := hR.below hb4
            replace hG := by_trans hG (by_below hb4 _)
            have hBs := hG.size
            clear hb4
            go_wp2_with (first | (refine El.load cnRow rfl _ rfl nx 0 rfl ⟨v1, v2, v3⟩ hX.at #[.int .i64 v1, .int .i64 v2, .int .i64 v3] rfl ?_) | (at_builtin; refine El.wpList_app cnInn rfl _ _ rfl w.heap.size _ l [⟨v1, v2, v3⟩] rfl hO (some ⟨V2.heap.size, 0, none⟩) 1 1 rfl rfl hE (fun e => by cases e) (by have := HLE.out; rw [List.length_singleton]; omega) hBs ?_; intro v' w5 hO5 hg5 _) | fail)
            replace hR := hR.keep hg5 (fun e => by have := (hO.lt b e.symm).1; omega)
            replace hG := by_ownP hG hg5 (fun k e => (hO.lt k e).1)
            clear hO hE hX hg5
            go_wp2_with fail
            exact ⟨⟨v', l ++ [⟨v1, v2, v3⟩], q3, true, rfl, by have h7 := HLE.out; rw [List.length_append, List.length_singleton]; exact congrArg (Value.int .i64) (by rw [show wrap64 ((l.length : Int) + 1) = (l.length : Int) + 1 from by unfold wrap64; omega]; rfl), hO5, Lib.hid (by rw [List.length_append, List.length_singleton]; have := HLT.out; omega), hR, hq3, hG, HNR⟩, by have h9 := own_lenP hO5; rw [List.length_append, List.length_singleton] at h9; have h8 := HLT.out; show n - lenP v' < n - l.length; omega⟩
          · have g1 : decide (12 ≤ v1) = false := decide_eq_false a1
            by_cases a2 : v2 < 1
            · have g2 : decide (v2 < 1) = true := decide_eq_true a2
              have HNR := Lib.hid (HS.out.bad_step HLT.out HST.out (fun h => by have h1 := of_decide_eq_true (show decide (0 ≤ v1 ∧ v1 < 12 ∧ 1 ≤ v2 ∧ 0 ≤ v3) = true from h.1); omega))
              clear HS HST
              go_quiet (fail)
              have hqb := below_drew (Below.refl V.heap.size V) nq
              replace hR := hR.drewN nq
              replace hO := hO.below hqb
              replace hX := hX.below hqb
              replace hG := by_trans hG (by_below hqb _)
              clear hqb x0 x1 x2
              generalize V.drewN nq = V1 at *
              have g := by_set (by_below (Below.refl V1.heap.size V1) (some b)) 2 (.bool true)
              obtain ⟨r0, r1, r2⟩ := hR.cells
              have rf := hR.frozen
              have hRb := hR.setBad
              replace hO := hO.kept g (Or.inr (fun e => by have := (hO.lt b e).1; omega))
              replace hX := hX.keep g (fun e => hnx (Option.some.inj e))
              replace hG := by_trans hG g
              clear hR g
              go_upto_region 9 with fail
              have hR := hRb
              clear hRb r0 r1 r2 rf
              generalize V1.setCell ⟨b, 2, none⟩ (.bool true) = V2 at *
              have hb4 := below_alloc (Below.refl V2.heap.size V2) (.cells #[.int .i64 v1, .int .i64 v2, .int .i64 v3] 69)
              have hE : cnE.Sl (V2.alloc (.cells #[.int .i64 v1, .int .i64 v2, .int .i64 v3] 69)) (some ⟨V2.heap.size, 0, none⟩) [⟨v1, v2, v3⟩] := (El.In.new (E := cnE) V2 ⟨v1, v2, v3⟩ _ rfl).sl
              replace hO := hO.below hb4
              replace hR := hR.below hb4
              replace hG := by_trans hG (by_below hb4 _)
              have hBs := hG.size
              clear hb4
              go_wp2_with (first | (refine El.load cnRow rfl _ rfl nx 0 rfl ⟨v1, v2, v3⟩ hX.at #[.int .i64 v1, .int .i64 v2, .int .i64 v3] rfl ?_) | (at_builtin; refine El.wpList_app cnInn rfl _ _ rfl w.heap.size _ l [⟨v1, v2, v3⟩] rfl hO (some ⟨V2.heap.size, 0, none⟩) 1 1 rfl rfl hE (fun e => by cases e) (by have := HLE.out; rw [List.length_singleton]; omega) hBs ?_; intro v' w5 hO5 hg5 _) | fail)
              replace hR := hR.keep hg5 (fun e => by have := (hO.lt b e.symm).1; omega)
              replace hG := by_ownP hG hg5 (fun k e => (hO.lt k e).1)
              clear hO hE hX hg5
              go_wp2_with fail
              exact ⟨⟨v', l ++ [⟨v1, v2, v3⟩], q3, true, rfl, by have h7 := HLE.out; rw [List.length_append, List.length_singleton]; exact congrArg (Value.int .i64) (by rw [show wrap64 ((l.length : Int) + 1) = (l.length : Int) + 1 from by unfold wrap64; omega]; rfl), hO5, Lib.hid (by rw [List.length_append, List.length_singleton]; have := HLT.out; omega), hR, hq3, hG, HNR⟩, by have h9 := own_lenP hO5; rw [List.length_append, List.length_singleton] at h9; have h8 := HLT.out; show n - lenP v' < n - l.length; omega⟩
            · have g2 : decide (v2 < 1) = false := decide_eq_false a2
              by_cases a3 : v3 < 0
              · have g3 : decide (v3 < 0) = true := decide_eq_true a3
                have HNR := Lib.hid (HS.out.bad_step HLT.out HST.out (fun h => by have h1 := of_decide_eq_true (show decide (0 ≤ v1 ∧ v1 < 12 ∧ 1 ≤ v2 ∧ 0 ≤ v3) = true from h.1); omega))
                clear HS HST
                go_quiet (fail)
                have hqb := below_drew (Below.refl V.heap.size V) nq
                replace hR := hR.drewN nq
                replace hO := hO.below hqb
                replace hX := hX.below hqb
                replace hG := by_trans hG (by_below hqb _)
                clear hqb x0 x1 x2
                generalize V.drewN nq = V1 at *
                have g := by_set (by_below (Below.refl V1.heap.size V1) (some b)) 2 (.bool true)
                obtain ⟨r0, r1, r2⟩ := hR.cells
                have rf := hR.frozen
                have hRb := hR.setBad
                replace hO := hO.kept g (Or.inr (fun e => by have := (hO.lt b e).1; omega))
                replace hX := hX.keep g (fun e => hnx (Option.some.inj e))
                replace hG := by_trans hG g
                clear hR g
                go_upto_region 9 with fail
                have hR := hRb
                clear hRb r0 r1 r2 rf
                generalize V1.setCell ⟨b, 2, none⟩ (.bool true) = V2 at *
                have hb4 := below_alloc (Below.refl V2.heap.size V2) (.cells #[.int .i64 v1, .int .i64 v2, .int .i64 v3] 69)
                have hE : cnE.Sl (V2.alloc (.cells #[.int .i64 v1, .int .i64 v2, .int .i64 v3] 69)) (some ⟨V2.heap.size, 0, none⟩) [⟨v1, v2, v3⟩] := (El.In.new (E := cnE) V2 ⟨v1, v2, v3⟩ _ rfl).sl
                replace hO := hO.below hb4
                replace hR := hR.below hb4
                replace hG := by_trans hG (by_below hb4 _)
                have hBs := hG.size
                clear hb4
                go_wp2_with (first | (refine El.load cnRow rfl _ rfl nx 0 rfl ⟨v1, v2, v3⟩ hX.at #[.int .i64 v1, .int .i64 v2, .int .i64 v3] rfl ?_) | (at_builtin; refine El.wpList_app cnInn rfl _ _ rfl w.heap.size _ l [⟨v1, v2, v3⟩] rfl hO (some ⟨V2.heap.size, 0, none⟩) 1 1 rfl rfl hE (fun e => by cases e) (by have := HLE.out; rw [List.length_singleton]; omega) hBs ?_; intro v' w5 hO5 hg5 _) | fail)
                replace hR := hR.keep hg5 (fun e => by have := (hO.lt b e.symm).1; omega)
                replace hG := by_ownP hG hg5 (fun k e => (hO.lt k e).1)
                clear hO hE hX hg5
                go_wp2_with fail
                exact ⟨⟨v', l ++ [⟨v1, v2, v3⟩], q3, true, rfl, by have h7 := HLE.out; rw [List.length_append, List.length_singleton]; exact congrArg (Value.int .i64) (by rw [show wrap64 ((l.length : Int) + 1) = (l.length : Int) + 1 from by unfold wrap64; omega]; rfl), hO5, Lib.hid (by rw [List.length_append, List.length_singleton]; have := HLT.out; omega), hR, hq3, hG, HNR⟩, by have h9 := own_lenP hO5; rw [List.length_append, List.length_singleton] at h9; have h8 := HLT.out; show n - lenP v' < n - l.length; omega⟩
              · have g3 : decide (v3 < 0) = false := decide_eq_false a3
                have hcb : cnB ⟨v1, v2, v3⟩ = true := by exact decide_eq_true (show 0 ≤ v1 ∧ v1 < 12 ∧ 1 ≤ v2 ∧ 0 ≤ v3 by omega)
                by_cases hk0 : l.length = 0
                · have e1 : decide ((0 : Int) < (l.length : Int)) = false := decide_eq_false (by omega)
                  have e2 : decide (0 < l.length) = false := decide_eq_false (by omega)
                  have HNR := Lib.hid (HS.out.good_step HLT.out HST.out hcb (fun h0 => by omega))
                  clear HS HST hcb hk0 a0 a1 a2 a3
                  go_quiet (fail)
                  have hqb := below_drew (Below.refl V.heap.size V) nq
                  replace hR := hR.drewN nq
                  replace hO := hO.below hqb
                  replace hX := hX.below hqb
                  replace hG := by_trans hG (by_below hqb _)
                  clear hqb x0 x1 x2
                  generalize V.drewN nq = V1 at *
                  have hb4 := below_alloc (Below.refl V1.heap.size V1) (.cells #[.int .i64 v1, .int .i64 v2, .int .i64 v3] 69)
                  have hE : cnE.Sl (V1.alloc (.cells #[.int .i64 v1, .int .i64 v2, .int .i64 v3] 69)) (some ⟨V1.heap.size, 0, none⟩) [⟨v1, v2, v3⟩] := (El.In.new (E := cnE) V1 ⟨v1, v2, v3⟩ _ rfl).sl
                  replace hO := hO.below hb4
                  replace hR := hR.below hb4
                  replace hG := by_trans hG (by_below hb4 _)
                  have hBs := hG.size
                  clear hb4
                  go_wp2_with (first | (refine El.load cnRow rfl _ rfl nx 0 rfl ⟨v1, v2, v3⟩ hX.at #[.int .i64 v1, .int .i64 v2, .int .i64 v3] rfl ?_) | (at_builtin; refine El.wpList_app cnInn rfl _ _ rfl w.heap.size _ l [⟨v1, v2, v3⟩] rfl hO (some ⟨V1.heap.size, 0, none⟩) 1 1 rfl rfl hE (fun e => by cases e) (by have := HLE.out; rw [List.length_singleton]; omega) hBs ?_; intro v' w5 hO5 hg5 _) | fail)
                  replace hR := hR.keep hg5 (fun e => by have := (hO.lt b e.symm).1; omega)
                  replace hG := by_ownP hG hg5 (fun k e => (hO.lt k e).1)
                  clear hO hE hX hg5
                  go_wp2_with fail
                  exact ⟨⟨v', l ++ [⟨v1, v2, v3⟩], q3, b3, rfl, by have h7 := HLE.out; rw [List.length_append, List.length_singleton]; exact congrArg (Value.int .i64) (by rw [show wrap64 ((l.length : Int) + 1) = (l.length : Int) + 1 from by unfold wrap64; omega]; rfl), hO5, Lib.hid (by rw [List.length_append, List.length_singleton]; have := HLT.out; omega), hR, hq3, hG, HNR⟩, by have h9 := own_lenP hO5; rw [List.length_append, List.length_singleton] at h9; have h8 := HLT.out; show n - lenP v' < n - l.length; omega⟩
                · have e1 : decide ((0 : Int) < (l.length : Int)) = true := decide_eq_true (by omega)
                  have e2 : decide (0 < l.length) = true := decide_eq_true (by omega)
                  have e3 : IntKind.i64.wrap ((l.length : Int) - 1) = ((l.length - 1 : Nat) : Int) := by rw [IntKind.wrap_i64]; have := HLE.out; omega
                  obtain ⟨A9, c9, e9, hS⟩ := SlV.own hO
                  injection e9 with e9a _ e9b
                  subst e9a e9b
                  obtain ⟨b9, o9, eA, hb9, hc9⟩ := hS.1 (by omega)
                  have hxp := cnIdxP (cap := c) (k := l.length - 1) (len := l.length) eA (by omega)
                  have hat : cnE.At V b9 (o9 + (l.length - 1) * 3) (l[l.length - 1]'(by omega)) := hc9 (l.length - 1) (by omega)
                  have t0 := (cnAt3 hat).1
                  have hgd : l.getD (l.length - 1) zeroCn = l[l.length - 1]'(by omega) := by rw [List.getD_eq_getElem?_getD, List.getElem?_eq_getElem (by omega)]; rfl
                  clear hat hc9 hb9 hS eA
                  generalize l[l.length - 1]'(by omega) = y at *
                  by_cases hp2 : v1 ≤ y.d
                  · have e4 : decide (v1 ≤ y.d) = true := decide_eq_true hp2
                    have HNR := Lib.hid (HS.out.bad_step HLT.out HST.out (fun h => by have h1 := h.2 (by omega); rw [hgd] at h1; dsimp only at h1; omega))
                    clear HS HST hcb hk0 a0 a1 a2 a3 hgd hp2
                    go_quiet (fail)
                    have hqb := below_drew (Below.refl V.heap.size V) nq
                    replace hR := hR.drewN nq
                    replace hO := hO.below hqb
                    replace hX := hX.below hqb
                    replace hG := by_trans hG (by_below hqb _)
                    clear hqb x0 x1 x2
                    generalize V.drewN nq = V1 at *
                    have g := by_set (by_below (Below.refl V1.heap.size V1) (some b)) 2 (.bool true)
                    obtain ⟨r0, r1, r2⟩ := hR.cells
                    have rf := hR.frozen
                    have hRb := hR.setBad
                    replace hO := hO.kept g (Or.inr (fun e => by have := (hO.lt b e).1; omega))
                    replace hX := hX.keep g (fun e => hnx (Option.some.inj e))
                    replace hG := by_trans hG g
                    clear hR g
                    go_upto_region 9 with fail
                    have hR := hRb
                    clear hRb r0 r1 r2 rf
                    generalize V1.setCell ⟨b, 2, none⟩ (.bool true) = V2 at *
                    have hb4 := below_alloc (Below.refl V2.heap.size V2) (.cells #[.int .i64 v1, .int .i64 v2, .int .i64 v3] 69)
                    have hE : cnE.Sl (V2.alloc (.cells #[.int .i64 v1, .int .i64 v2, .int .i64 v3] 69)) (some ⟨V2.heap.size, 0, none⟩) [⟨v1, v2, v3⟩] := (El.In.new (E := cnE) V2 ⟨v1, v2, v3⟩ _ rfl).sl
                    replace hO := hO.below hb4
                    replace hR := hR.below hb4
                    replace hG := by_trans hG (by_below hb4 _)
                    have hBs := hG.size
                    clear hb4
                    go_wp2_with (first | (refine El.load cnRow rfl _ rfl nx 0 rfl ⟨v1, v2, v3⟩ hX.at #[.int .i64 v1, .int .i64 v2, .int .i64 v3] rfl ?_) | (at_builtin; refine El.wpList_app cnInn rfl _ _ rfl w.heap.size _ l [⟨v1, v2, v3⟩] rfl hO (some ⟨V2.heap.size, 0, none⟩) 1 1 rfl rfl hE (fun e => by cases e) (by have := HLE.out; rw [List.length_singleton]; omega) hBs ?_; intro v' w5 hO5 hg5 _) | fail)
                    replace hR := hR.keep hg5 (fun e => by have := (hO.lt b e.symm).1; omega)
                    replace hG := by_ownP hG hg5 (fun k e => (hO.lt k e).1)
                    clear hO hE hX hg5
                    go_wp2_with fail
                    exact ⟨⟨v', l ++ [⟨v1, v2, v3⟩], q3, true, rfl, by have h7 := HLE.out; rw [List.length_append, List.length_singleton]; exact congrArg (Value.int .i64) (by rw [show wrap64 ((l.length : Int) + 1) = (l.length : Int) + 1 from by unfold wrap64; omega]; rfl), hO5, Lib.hid (by rw [List.length_append, List.length_singleton]; have := HLT.out; omega), hR, hq3, hG, HNR⟩, by have h9 := own_lenP hO5; rw [List.length_append, List.length_singleton] at h9; have h8 := HLT.out; show n - lenP v' < n - l.length; omega⟩
                  · have e4 : decide (v1 ≤ y.d) = false := decide_eq_false hp2
                    have HNR := Lib.hid (HS.out.good_step HLT.out HST.out hcb (fun h0 => by rw [hgd]; dsimp only; omega))
                    clear HS HST hcb hk0 a0 a1 a2 a3 hgd hp2
                    go_quiet (fail)
                    have hqb := below_drew (Below.refl V.heap.size V) nq
                    replace hR := hR.drewN nq
                    replace hO := hO.below hqb
                    replace hX := hX.below hqb
                    replace hG := by_trans hG (by_below hqb _)
                    clear hqb x0 x1 x2
                    generalize V.drewN nq = V1 at *
                    clear t0
                    have hb4 := below_alloc (Below.refl V1.heap.size V1) (.cells #[.int .i64 v1, .int .i64 v2, .int .i64 v3] 69)
                    have hE : cnE.Sl (V1.alloc (.cells #[.int .i64 v1, .int .i64 v2, .int .i64 v3] 69)) (some ⟨V1.heap.size, 0, none⟩) [⟨v1, v2, v3⟩] := (El.In.new (E := cnE) V1 ⟨v1, v2, v3⟩ _ rfl).sl
                    replace hO := hO.below hb4
                    replace hR := hR.below hb4
                    replace hG := by_trans hG (by_below hb4 _)
                    have hBs := hG.size
                    clear hb4
                    go_wp2_with (first | (refine El.load cnRow rfl _ rfl nx 0 rfl ⟨v1, v2, v3⟩ hX.at #[.int .i64 v1, .int .i64 v2, .int .i64 v3] rfl ?_) | (at_builtin; refine El.wpList_app cnInn rfl _ _ rfl w.heap.size _ l [⟨v1, v2, v3⟩] rfl hO (some ⟨V1.heap.size, 0, none⟩) 1 1 rfl rfl hE (fun e => by cases e) (by have := HLE.out; rw [List.length_singleton]; omega) hBs ?_; intro v' w5 hO5 hg5 _) | fail)
                    replace hR := hR.keep hg5 (fun e => by have := (hO.lt b e.symm).1; omega)
                    replace hG := by_ownP hG hg5 (fun k e => (hO.lt k e).1)
                    clear hO hE hX hg5
                    go_wp2_with fail
                    exact ⟨⟨v', l ++ [⟨v1, v2, v3⟩], q3, b3, rfl, by have h7 := HLE.out; rw [List.length_append, List.length_singleton]; exact congrArg (Value.int .i64) (by rw [show wrap64 ((l.length : Int) + 1) = (l.length : Int) + 1 from by unfold wrap64; omega]; rfl), hO5, Lib.hid (by rw [List.length_append, List.length_singleton]; have := HLT.out; omega), hR, hq3, hG, HNR⟩, by have h9 := own_lenP hO5; rw [List.length_append, List.length_singleton] at h9; have h8 := HLT.out; show n - lenP v' < n - l.length; omega⟩
      · have HG := Lib.hid (HS.out.good hlt hl.out)
        have f5 : decide ((l.length : Int) < (n : Int)) = false := decide_eq_false (by omega)
        have f6 : decide (l.length < n) = false := decide_eq_false hlt
        clear hlt
        go_wp2_with fail
        go_ret
        exact ⟨A, c, l, q, false, rfl, hS, hR, hq, hG, Or.inl ⟨rfl, HG.out⟩⟩
    · have HG := Lib.hid HS.out.ill
      by_cases hlt : l.length < n
      · have f5 : decide ((l.length : Int) < (n : Int)) = true := decide_eq_true (by omega)
        have f6 : decide (l.length < n) = true := decide_eq_true hlt
        clear hlt
        go_wp2_with fail
        go_ret
        exact ⟨A, c, l, q, true, rfl, hS, hR, hq, hG, Or.inr ⟨rfl, HG.out⟩⟩
      · have f5 : decide ((l.length : Int) < (n : Int)) = false := decide_eq_false (by omega)
        have f6 : decide (l.length < n) = false := decide_eq_false hlt
        clear hlt
        go_wp2_with fail
        go_ret
        exact ⟨A, c, l, q, true, rfl, hS, hR, hq, hG, Or.inr ⟨rfl, HG.out⟩⟩
set_option maxRecDepth 100000 in
set_option maxHeartbeats 2000000 in
theorem refReadCounts_uni (w : World) (b p : Nat) (s : ByteArray) (bad : Bool) (hs : s.size ≤ 1000000) (hp : p ≤ s.size) (hr : Rd 77 w b s p bad) :
    Calls Try.prog 26 #[.pointer (some ⟨b, 0, none⟩)] w fun e w' => ∃ (A : Option Addr) (c : Nat) (l : List Cn) (q : Nat) (bd : Bool), e = .returned (.slice A l.length c) ∧ SlV cnE w' A c l ∧ Rd 77 w' b s q bd ∧ q ≤ s.size ∧ w.grownBy w' (some b) ∧ cnsStep s p bad l q bd := by
  go_enter Try.func26, Try.ntmps26
  go_wp2_with fail
  refine (refCounts_uni w b p s bad hs hp hr).mono ?_
  rintro e w1 ⟨A, c, l, q, bd, rfl, hS, hR, hq, hG, hst⟩
  obtain ⟨r0, r1, r2⟩ := hR.cells
  rcases hst with ⟨rfl, hst⟩ | ⟨rfl, hst⟩
  · have HG := Lib.hid hst
    clear hst
    go_wp2_with fail
    go_ret
    exact ⟨A, c, l, q, false, rfl, hS, hR, hq, hG, Or.inl ⟨HG.out, rfl⟩⟩
  · have HG := Lib.hid hst
    clear hst
    go_wp2_with fail
    go_ret
    exact ⟨none, 0, [], q, true, rfl, SlV.nil _ _, hR, hq, hG, Or.inr ⟨HG.out, rfl, rfl⟩⟩
end Go.Proofs.Ytfpgfclmmdihjaa

/- How the document reads a tree. -/
namespace Go.Proofs.Ytfpgfclmmdihjaa
open Go.RowKit Tre Nam Cod

theorem own_ne {w : World} {B : Nat} {v : Value} {l : List Pl} (h : Own w B v l) : v.ownBlock = none ∨ v.ownBlock ≠ some w.heap.size := Or.inr (fun e => by have := (World.ownsRow.lt h _ e).2; omega)

end Go.Proofs.Ytfpgfclmmdihjaa

/- The document's Read of a past, whatever stands there. -/
namespace Go.Proofs.Ytfpgfclmmdihjaa
open Go.RowKit Tre Cod Pst Nam

/-- A list in memory that is neither below lo nor, if it has anything, from hi on. -/
structure SlN {α : Type} (E : El α) (lo hi : Nat) (w : World) (A : Option Addr) (c : Nat) (l : List α) : Prop where
  sl : SlV E w A c l
  wh : 0 < l.length → ∃ b off, A = some ⟨b, off, none⟩ ∧ lo ≤ b ∧ b < hi
theorem SlN.of {α : Type} {E : El α} {lo : Nat} {w : World} {A : Option Addr} {c : Nat} {l : List α} (h : SlV E w A c l) (hf : Frs lo A) : SlN E lo w.heap.size w A c l :=
  ⟨h, fun h0 => by
    obtain ⟨b, off, e, hl, _⟩ := h.1 h0
    exact ⟨b, off, e, hf _ e, hl⟩⟩
theorem SlN.keep {α : Type} {E : El α} {lo hi : Nat} {w w' : World} {A : Option Addr} {c : Nat} {l : List α} {row : Option Nat} (h : SlN E lo hi w A c l) (hg : w.grownBy w' row) (hr : ∀ k, row = some k → k < lo ∨ hi ≤ k) : SlN E lo hi w' A c l :=
  ⟨⟨fun h0 => by
    obtain ⟨b, off, e, hl, hc⟩ := h.sl.1 h0
    obtain ⟨b2, off2, e2, h1, h2⟩ := h.wh h0
    rw [e] at e2
    cases e2
    exact ⟨b, off, e, Nat.lt_of_lt_of_le hl hg.size, fun i hi => (hc i hi).grown hg (fun e3 => by have := hr b e3.symm; omega)⟩, h.sl.2⟩, h.wh⟩
theorem SlN.below {α : Type} {E : El α} {lo hi : Nat} {w w' : World} {A : Option Addr} {c : Nat} {l : List α} (h : SlN E lo hi w A c l) (hb : Below w.heap.size w w') : SlN E lo hi w' A c l := ⟨SlV.below h.sl hb, h.wh⟩
theorem SlN.raise {α : Type} {E : El α} {lo hi lo' hi' : Nat} {w : World} {A : Option Addr} {c : Nat} {l : List α} (h : SlN E lo hi w A c l) (h1 : lo' ≤ lo) (h2 : hi ≤ hi') : SlN E lo' hi' w A c l :=
  ⟨h.sl, fun h0 => by
    obtain ⟨b, off, e, h3, h4⟩ := h.wh h0
    exact ⟨b, off, e, by omega, by omega⟩⟩

theorem isTree_tree {s : ByteArray} {p : Nat} {bad : Bool} {l : List Pl} {q : Nat} (h : isTree s p bad = some (l, q)) : treeB l = true := by
  unfold isTree at h
  simp only [Option.bind_eq_some_iff] at h
  obtain ⟨a, _, b, _, h⟩ := h
  split at h
  · rename_i hb
    injection h with h
    rw [h] at hb
    exact hb
  · cases h
theorem opsB_iff {l : List Mv} {t : Int} (hok : ∀ m ∈ l, m.ok) : opsB l t = true ↔ OpsR l t := by
  unfold opsB
  rw [decide_eq_true_iff]
  constructor
  · intro h i hi _
    have h1 := h ⟨i, hi⟩
    refine ⟨hok _ (List.getElem_mem _), h1.1, fun h0 => ?_⟩
    have h2 := h1.2 h0
    dsimp only at h2
    rw [List.getD_eq_getElem?_getD, List.getElem?_eq_getElem (show i - 1 < l.length by omega), bef_iff] at h2
    exact of_decide_eq_true h2
  · intro h j
    have h1 := h.at j.1 j.2
    refine ⟨h1.2.1, fun h0 => ?_⟩
    rw [List.getD_eq_getElem?_getD, List.getElem?_eq_getElem (show j.1 - 1 < l.length by omega), bef_iff]
    exact decide_eq_true (h1.2.2 h0)
theorem past_good {s : ByteArray} {p q1 q2 q3 : Nat} {bad : Bool} {base : List Pl} {t : Int} {l : List Mv} (h1 : isTree s p bad = some (base, q1)) (h2 : isNum s q1 false = some (t, q2)) (h3 : opK.isPart 4096 s q2 false = some (l, q3)) : (PastR (pastOf base t l) → isPast s p bad = some (pastOf base t l, q3)) ∧ (¬ PastR (pastOf base t l) → isPast s p bad = none) := by
  have hok : ∀ m ∈ l, m.ok := fun m hm => (opK.part_bytes h3).2.1 m hm
  by_cases ht : 0 ≤ t ∧ t ≤ 1099511627776
  · have hc : isCount s q1 false 1099511627776 = some (t, q2) := by unfold isCount; rw [h2]; dsimp only; rw [if_pos ht]
    have e : isPast s p bad = if opsB l t = true then some (pastOf base t l, q3) else none := by
      unfold isPast
      rw [h1, Option.bind_some]
      dsimp only
      rw [hc, Option.bind_some]
      dsimp only
      rw [h3, Option.bind_some]
    rw [e]
    refine ⟨fun h => if_pos ((opsB_iff hok).2 h.2.2.2.1), fun h => if_neg (fun hb => h ⟨isTree_tree h1, ht.1, ht.2, (opsB_iff hok).1 hb, rfl, rfl⟩)⟩
  · refine ⟨fun h => absurd ⟨h.2.1, h.2.2.1⟩ ht, fun _ => ?_⟩
    have hc : isCount s q1 false 1099511627776 = none := by unfold isCount; rw [h2]; dsimp only; rw [if_neg ht]
    unfold isPast
    rw [h1, Option.bind_some]
    dsimp only
    rw [hc]; rfl
theorem past_ill {s : ByteArray} {p q1 q2 q3 : Nat} {bad b1 b2 : Bool} {base : List Pl} {t : Int} {l : List Mv} (h1 : treeStep s p bad base q1 b1) (h2 : numStep s q1 b1 t q2 b2) (h3 : pStep opK 4096 s q2 b2 l q3 true) : isPast s p bad = none := by
  rcases h1 with ⟨h1, rfl⟩ | ⟨h1, _, _⟩
  · rcases h2 with ⟨h2, rfl⟩ | ⟨h2, _, _⟩
    · rcases h3 with ⟨_, h3⟩ | ⟨h3, _⟩
      · cases h3
      · unfold isPast
        rw [h1, Option.bind_some]
        dsimp only
        cases hc : isCount s q1 false 1099511627776 with
        | none => rfl
        | some c =>
          obtain ⟨v, q⟩ := c
          have h4 := (isCount_some hc).1
          rw [h2] at h4
          injection h4 with h4
          injection h4 with e1 e2
          subst e1 e2
          rw [Option.bind_some]
          dsimp only
          rw [h3]; rfl
    · unfold isPast
      rw [h1, Option.bind_some]
      dsimp only
      have : isCount s q1 false 1099511627776 = none := by unfold isCount; rw [h2]
      rw [this]; rfl
  · unfold isPast
    rw [h1]; rfl
theorem past_part {s : ByteArray} {p q1 q2 q3 : Nat} {bad b1 b2 : Bool} {base : List Pl} {t : Int} {l : List Mv} (h1 : treeStep s p bad base q1 b1) (h2 : numStep s q1 b1 t q2 b2) (h3 : pStep opK 4096 s q2 b2 l q3 false) : isTree s p bad = some (base, q1) ∧ isNum s q1 false = some (t, q2) ∧ opK.isPart 4096 s q2 false = some (l, q3) := by
  rcases h3 with ⟨h3, _⟩ | ⟨_, h3⟩
  · rcases h2 with ⟨h2, rfl⟩ | ⟨_, _, rfl⟩
    · rcases h1 with ⟨h1, rfl⟩ | ⟨_, _, rfl⟩
      · exact ⟨h1, h2, h3⟩
      · rw [isNum_bad] at h2; cases h2
    · unfold Kd.isPart at h3
      rw [isCount_badF] at h3; cases h3
  · cases h3
end Go.Proofs.Ytfpgfclmmdihjaa

/- The document's Read of a past: the walk. -/
namespace Go.Proofs.Ytfpgfclmmdihjaa
open Go.RowKit Tre Cod Pst Nam

theorem op_ge (m : Mv) : 7 ≤ (opK.b m).size := by
  show 7 ≤ m.bytes.size
  unfold Mv.bytes printOf textOf
  have h1 := bytesOf_pos m.C
  have h2 := bytesOf_pos m.D
  have h3 := bytesOf_pos m.I
  have h4 := bytesOf_pos m.M
  have h5 := bytesOf_pos m.K
  have h6 := bytesOf_pos m.U
  have h7 := bytesOf_pos (m.s.size : Int)
  simp only [ByteArray.size_append]
  omega
theorem opCat_ge : ∀ l : List Mv, 7 * l.length ≤ (opK.cat l).size
  | [] => Nat.zero_le _
  | m :: l => by
    have h1 := op_ge m
    have h2 := opCat_ge l
    rw [Kd.cat, ByteArray.size_append, List.length_cons]
    omega
theorem part_few {s : ByteArray} {p q : Nat} {bad : Bool} {l : List Mv} (h : opK.isPart 4096 s p bad = some (l, q)) (hs : s.size ≤ 3000) : l.length ≤ 430 := by
  have h1 := (opK.part_bytes h).2.2
  have h2 := congrArg List.length h1
  rw [List.length_append, List.length_drop, List.length_drop, L_len, L_len] at h2
  have h3 := opCat_ge l
  unfold Kd.part at h2
  rw [ByteArray.size_append] at h2
  omega
theorem tree_short {l : List Pl} (h : treeB l = true) : ∀ p ∈ l, p.s.size ≤ 9223372036854775807 := fun p hp => by
  have h1 := isName_len (okPl_fit ((treeB_facts h).1 p hp)).2.2.2.2.2
  rw [L_len] at h1
  omega
end Go.Proofs.Ytfpgfclmmdihjaa
