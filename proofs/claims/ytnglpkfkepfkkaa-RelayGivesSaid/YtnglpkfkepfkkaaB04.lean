/- Texts laid one behind the other: Ah, Al, Zn, Zi, Zj, Pb, Py, Pz. -/
import Derived.Test.YtnglpkfkepfkkaaB03
import Derived.Deep.CutRange
import Derived.RegionTactic
import Derived.ChangeAlike
import Derived.BigRegion
import Derived.Lib.QuietBelow
import Derived.BigQuiet
import Derived.Deep.QuietTactic
import Derived.Deep.RegionHeld3
import Derived.Lib.MinMax
import Derived.Lib.Overlaps
import Derived.Lib.AppendZerosOnto
import Derived.Deep.RegionLaw
/- The law RelayStale. -/
namespace Go.Proofs.Ytnglpkfkepfkkaa
open Go.RowKit Nam Cod Pln

theorem kidAt_none : ∀ {l : List Kin} {n : Int}, kidAt l n = none → ∀ k ∈ l, k.n ≠ n
  | [], _, _, k, hk => by cases hk
  | x :: l, n, h, k, hk => by
    unfold kidAt at h
    by_cases hx : x.n = n
    · rw [if_pos hx] at h; cases h
    · rw [if_neg hx] at h
      rcases List.mem_cons.1 hk with rfl | hk
      · exact hx
      · cases h2 : kidAt l n with
        | none => exact kidAt_none h2 k hk
        | some j => rw [h2] at h; cases h
theorem known_yes {N : Int} {b : Bool} (h : (N = 1 ∧ b = false) ∨ (N = 7 ∧ b = true)) (hb : b = true) : N = 7 := by
  rcases h with ⟨_, h⟩ | ⟨h, _⟩
  · rw [hb] at h; cases h
  · exact h
theorem known_no {N : Int} {b : Bool} (h : (N = 1 ∧ b = false) ∨ (N = 7 ∧ b = true)) (hb : b = false) : N = 1 := by
  rcases h with ⟨h, _⟩ | ⟨_, h⟩
  · exact h
  · rw [hb] at h; cases h
def known19 (f : Fr) : Bool := decide (f.b = 1) && (decide (f.a = 0) || (decide (f.a = 2) || decide (f.a = 3)))
theorem kids19 {n : Nat} {x : Rlv} (h : RlR P19 0 n x) : x.ks.map Kin.n = [2, 3] := by
  rw [h.kn, node19 h]; rfl
theorem takeR_err {n : Nat} {x : Rlv} (h : RlR P19 0 n x) {f : Fr} (hN : (takeR P19 0 x f).2 ≠ 0) : (takeR P19 0 x f).1 = x ∧ (((takeR P19 0 x f).2 = 1 ∧ known19 f = false) ∨ ((takeR P19 0 x f).2 = 7 ∧ known19 f = true)) := by
  have hnode := node19 h
  have hks := kids19 h
  unfold known19
  by_cases h1 : f.b ≠ x.node
  · have e : takeR P19 0 x f = (x, 1) := by unfold takeR; rw [if_pos h1]
    rw [e]
    refine ⟨rfl, Or.inl ⟨rfl, ?_⟩⟩
    rw [decide_eq_false (by rw [← hnode]; exact h1), Bool.false_and]
  · have hb : decide (f.b = 1) = true := decide_eq_true (by omega)
    rw [hb]
    by_cases h2 : f.a = 0
    · by_cases h3 : f.boot < x.above
      · have e : takeR P19 0 x f = (x, 7) := by unfold takeR; rw [if_neg h1, if_pos h2, if_pos h3]
        rw [e]
        exact ⟨rfl, Or.inr ⟨rfl, by rw [decide_eq_true h2]; rfl⟩⟩
      · have e : takeR P19 0 x f = (downR P19 x f, 0) := by unfold takeR; rw [if_neg h1, if_pos h2, if_neg h3]
        rw [e] at hN
        exact absurd rfl hN
    · cases hk : kidAt x.ks f.a with
      | none =>
        have e : takeR P19 0 x f = (x, 1) := by unfold takeR; rw [if_neg h1, if_neg h2, hk]
        rw [e]
        have hno := kidAt_none hk
        have hm : ∀ m ∈ x.ks.map Kin.n, m ≠ f.a := fun m hm => by
          obtain ⟨k, hk1, rfl⟩ := List.mem_map.1 hm
          exact hno k hk1
        rw [hks] at hm
        have g2 := hm 2 (by simp)
        have g3 := hm 3 (by simp)
        refine ⟨rfl, Or.inl ⟨rfl, ?_⟩⟩
        rw [decide_eq_false h2, decide_eq_false (fun e => g2 e.symm), decide_eq_false (fun e => g3 e.symm)]
        rfl
      | some i =>
        obtain ⟨hi, hn⟩ := kidAt_some hk
        have hm : f.a ∈ x.ks.map Kin.n := by rw [← hn]; exact List.mem_map.2 ⟨_, List.getElem_mem hi, rfl⟩
        rw [hks] at hm
        have h23 : f.a = 2 ∨ f.a = 3 := by simpa using hm
        by_cases h3 : f.boot < (x.ks.getD i ⟨0, 0, 0, 0⟩).b
        · have e : takeR P19 0 x f = (x, 7) := by unfold takeR; rw [if_neg h1, if_neg h2, hk]; dsimp only; rw [if_pos h3]
          rw [e]
          refine ⟨rfl, Or.inr ⟨rfl, ?_⟩⟩
          rcases h23 with h4 | h4
          · rw [decide_eq_true h4]; simp
          · rw [decide_eq_true h4]; simp
        · have e : takeR P19 0 x f = (upR P19 x i (x.ks.getD i ⟨0, 0, 0, 0⟩) f, 0) := by unfold takeR; rw [if_neg h1, if_neg h2, hk]; dsimp only; rw [if_neg h3]
          rw [e] at hN
          exact absurd rfl hN
theorem frIdx19 {A : Option Addr} {b off len cap k : Nat} (hA : A = some ⟨b, off, none⟩) (h : k < len) : ∀ w, (Instr.indexAt 22 (.slice A len cap) (.int .i64 k)).run Try.prog w = .ok (.pointer (some ⟨b, off + k * 14, none⟩)) w := fun w => by
  subst hA
  have h2 : (k : Int) < (len : Int) := by omega
  go_simp
def cut19 (f : Fr) : Fr := { f with os := [], gs := [] }
theorem cut19_r {f : Fr} (h : FrR f) : FrR (cut19 f) where
  six := h.six
  os := fun o ho => by cases ho
  es := h.es
  rs := h.rs
  gs := fun g hg => by cases hg
  e := by
    have h2 := h.e
    refine ⟨h2.1, h2.2.1, h2.2.2.1, h2.2.2.2.1, h2.2.2.2.2.1, h2.2.2.2.2.2.1, h2.2.2.2.2.2.2.1, h2.2.2.2.2.2.2.2.1, Nat.zero_le _, h2.2.2.2.2.2.2.2.2.2.1, h2.2.2.2.2.2.2.2.2.2.2.1, Nat.zero_le _⟩
def cutW (f : Fw) : Fw := { f with oA := none, oc := 0, gA := none, gc := 0, x := cut19 f.x }
theorem cutW_ok {f : Fw} {w : World} (h : f.ok w) : (cutW f).ok w := ⟨SlV.nil _ _, h.r, h.e, SlV.nil _ _⟩
theorem inSl_lt19 {w : World} {m : Nat} {l : List Int} (h : inE.Sl w (some ⟨m, 0, none⟩) l) (h0 : 0 < l.length) : m < w.heap.size := by
  obtain ⟨b, off, e, hb, _⟩ := h h0
  injection e with e
  injection e with e
  omega
theorem inSl_keep19 {w w' : World} {m n : Nat} {l : List Int} (h : inE.Sl w (some ⟨m, 0, none⟩) l) (hne : m ≠ n) (hg : w.grownBy w' (some n)) : inE.Sl w' (some ⟨m, 0, none⟩) l := h.keep hg (fun a e e2 => by
  have e1 := Option.some.inj e
  subst e1
  exact hne (Option.some.inj e2))
theorem frE_cells19 (x : Fw) : ∀ v ∈ frE.c x, (∃ k, v = .int .i64 k) ∨ ∃ a m c, v = .slice a m c := by
  intro v hv
  simp only [frE, List.mem_cons, List.not_mem_nil, or_false] at hv
  rcases hv with rfl | rfl | rfl | rfl | rfl | rfl | rfl | rfl | rfl | rfl | rfl | rfl | rfl | rfl <;> first | exact Or.inl ⟨_, rfl⟩ | exact Or.inr ⟨_, _, _, rfl⟩
theorem frE_cell19 {w : World} {n i : Nat} {v : Value} {x : Fw} (hZ : frE.In w n x) (h : w.cell? ⟨n, i, none⟩ = some v) : (∃ k, v = .int .i64 k) ∨ ∃ a m c, v = .slice a m c := by
  rw [hZ.cell] at h
  exact frE_cells19 x v (List.mem_of_getElem? h)
theorem frE_nine {w : World} {n off : Nat} {x : Fw} {r : Rp} (hZ : frE.In w n x) : ¬ rpE.At w n off r := fun ha => by
  have hI : ∀ j, j < 9 → ∃ k, (frE.c x)[off + j]? = some (.int .i64 k) := fun j hj => by
    match j, hj with
    | 0, _ => exact ⟨_, (hZ.cell _).symm.trans (ha 0 _ rfl)⟩
    | 1, _ => exact ⟨_, (hZ.cell _).symm.trans (ha 1 _ rfl)⟩
    | 2, _ => exact ⟨_, (hZ.cell _).symm.trans (ha 2 _ rfl)⟩
    | 3, _ => exact ⟨_, (hZ.cell _).symm.trans (ha 3 _ rfl)⟩
    | 4, _ => exact ⟨_, (hZ.cell _).symm.trans (ha 4 _ rfl)⟩
    | 5, _ => exact ⟨_, (hZ.cell _).symm.trans (ha 5 _ rfl)⟩
    | 6, _ => exact ⟨_, (hZ.cell _).symm.trans (ha 6 _ rfl)⟩
    | 7, _ => exact ⟨_, (hZ.cell _).symm.trans (ha 7 _ rfl)⟩
    | 8, _ => exact ⟨_, (hZ.cell _).symm.trans (ha 8 _ rfl)⟩
  have hno : ∀ i, i = 4 ∨ i = 8 ∨ i = 13 → ∀ k, (frE.c x)[i]? ≠ some (.int .i64 k) := fun i hi k h => by
    rcases hi with rfl | rfl | rfl <;> (injection h with h; cases h)
  rcases Nat.lt_or_ge off 14 with h26 | h26
  · have hcase : ∃ j, j < 9 ∧ (off + j = 4 ∨ off + j = 8 ∨ off + j = 13) := by
      rcases Nat.lt_or_ge off 5 with h | h
      · exact ⟨4 - off, by omega, by omega⟩
      · exact ⟨13 - off, by omega, by omega⟩
    obtain ⟨j, hj, hc⟩ := hcase
    obtain ⟨k, hk⟩ := hI j hj
    exact hno _ hc k hk
  · obtain ⟨k, hk⟩ := hI 0 (by omega)
    rw [List.getElem?_eq_none (by rw [frE.len]; show 14 ≤ off + 0; omega)] at hk
    cases hk
/-- A frame's block is written: what a state's slices hold stays. -/
theorem Rlw.ok.keepF {w w' : World} {x : Rlw} {z : Fw} {n : Nat} (h : x.ok w) (hZ : frE.In w n z) (hg : w.grownBy w' (some n)) : x.ok w' := by
  have ho : ∀ off y, ¬ opE.At w n off y := fun off y ha => by
    rcases frE_cell19 hZ (ha 6 _ rfl) with ⟨_, h⟩ | ⟨_, _, _, h⟩ <;> cases h
  have he : ∀ off y, ¬ enE.At w n off y := fun off y ha => by
    rcases frE_cell19 hZ (ha 9 _ rfl) with ⟨_, h⟩ | ⟨_, _, _, h⟩ <;> cases h
  have hgf : ∀ off y, ¬ gfE.At w n off y := fun off y ha => by
    rcases frE_cell19 hZ (ha 4 _ rfl) with ⟨_, h⟩ | ⟨_, _, _, h⟩ <;> cases h
  have hne : ∀ a, x.kA = some a → a.block ≠ n := fun a e he => by
    obtain ⟨c, hc⟩ := h.t a e
    have hZ' : w.heap[n]? = some (.cells (frE.c z).toArray 28 (0, 0)) := hZ
    rw [he, hZ'] at hc
    injection hc with hc
    injection hc with _ hc _
    exact absurd hc (by decide)
  refine ⟨h.e.keepRK (fun o _ => he o _) hg, h.q.keepRK (fun o _ => ho o _) hg, ⟨h.k.1.keep hg (fun a e e2 => hne a e (Option.some.inj e2)), h.k.2⟩, fun a e => ?_, h.r.keepRK (fun o _ => frE_nine hZ) hg, h.g.keepRK (fun o _ => hgf o _) hg⟩
  obtain ⟨c, hc⟩ := h.t a e
  refine ⟨c, (hg.block _ ?_ (fun e2 => hne a e (Option.some.inj e2))).trans hc⟩
  rcases Nat.lt_or_ge a.block w.heap.size with h1 | h1
  · exact h1
  · rw [Array.getElem?_eq_none h1] at hc; cases hc
def SlS (n1 n2 m : Nat) (z : Rlw) (b off : Nat) (f : Fw) (w : World) : Prop := pnE.In w n1 (pl19 m) ∧ ryE.In w n2 z ∧ frE.At w b off f
set_option maxRecDepth 100000 in
set_option maxHeartbeats 16000000 in
theorem stale19_any (H : RelayCalls) (HA : ∀ wx : World, Calls Try.prog 6 #[] wx fun e w' => e = .returned (.bool true) ∧ Below wx.heap.size wx w')
    (A : Option Addr) (c : Nat) (l : List Fw) (f : Fw) (w : World) (hF0 : FsV w A c l) (hn : ∀ f ∈ l, FrN f.x ∧ FrLen f.x) (hf0 : f.ok w) (hfn : FrN f.x ∧ FrLen f.x) :
    Calls Try.prog 3 #[.slice A l.length c, .agg #[.int .i64 f.x.a, .int .i64 f.x.b, .int .i64 f.x.boot, .int .i64 f.x.first, .slice f.oA f.x.os.length f.oc, .int .i64 f.x.pos, .slice f.rA f.x.rs.length f.rc, .int .i64 f.x.start, .slice f.eA f.x.es.length f.ec, .int .i64 f.x.ack, .int .i64 f.x.grant, .int .i64 f.x.s, .int .i64 f.x.t, .slice f.gA f.x.gs.length f.gc]] w fun e w' => e = .returned (.bool true) ∧ Below w.heap.size w w' := by
  have hX : frE.In (w.alloc (.cells #[.int .i64 f.x.a, .int .i64 f.x.b, .int .i64 f.x.boot, .int .i64 f.x.first, .slice f.oA f.x.os.length f.oc, .int .i64 f.x.pos, .slice f.rA f.x.rs.length f.rc, .int .i64 f.x.start, .slice f.eA f.x.es.length f.ec, .int .i64 f.x.ack, .int .i64 f.x.grant, .int .i64 f.x.s, .int .i64 f.x.t, .slice f.gA f.x.gs.length f.gc] 28)) w.heap.size f := El.In.new (E := frE) w f _ rfl
  have hB := below_alloc (Below.refl w.heap.size w) (.cells #[.int .i64 f.x.a, .int .i64 f.x.b, .int .i64 f.x.boot, .int .i64 f.x.first, .slice f.oA f.x.os.length f.oc, .int .i64 f.x.pos, .slice f.rA f.x.rs.length f.rc, .int .i64 f.x.start, .slice f.eA f.x.es.length f.ec, .int .i64 f.x.ack, .int .i64 f.x.grant, .int .i64 f.x.s, .int .i64 f.x.t, .slice f.gA f.x.gs.length f.gc] 28)
  have HF := Lib.hid hF0
  have HFO := Lib.hid hf0
  have C1 := fine19_any A c l _ (hF0.below hB) hn
  have HFN := Lib.hid hfn
  obtain ⟨b1, hb1⟩ : ∃ b1, fineB l = b1 := ⟨_, rfl⟩
  rw [hb1] at C1
  have HL := Lib.hid hb1
  clear hF0 hn hf0 hfn hb1
  go_enter Try.func3, Try.ntmps3
  go_upto_region 1 with fail
  generalize w.alloc (.cells #[.int .i64 f.x.a, .int .i64 f.x.b, .int .i64 f.x.boot, .int .i64 f.x.first, .slice f.oA f.x.os.length f.oc, .int .i64 f.x.pos, .slice f.rA f.x.rs.length f.rc, .int .i64 f.x.start, .slice f.eA f.x.es.length f.ec, .int .i64 f.x.ack, .int .i64 f.x.grant, .int .i64 f.x.s, .int .i64 f.x.t, .slice f.gA f.x.gs.length f.gc] 28) = W at *
  obtain ⟨n0, h0⟩ : ∃ n0, w.heap.size = n0 := ⟨_, rfl⟩
  have hn0 : w.heap.size ≤ n0 := by omega
  rw [h0] at hX ⊢
  clear h0
  go_wp2_with fail
  refine C1.mono ?_
  rintro e w1 ⟨rfl, hb1⟩
  replace hX := hX.below hb1
  replace hB := below_then hB hb1
  clear hb1 C1
  cases b1 with
  | false =>
    clear hX
    go_wp2_with fail
    refine (HA _).mono ?_
    rintro e w9 ⟨rfl, hb9⟩
    go_wp2_with fail
    go_ret
    exact ⟨rfl, below_then hB hb9⟩
  | true =>
    have hS1 : FsV (w1.alloc (.cells #[.int .i64 f.x.a, .int .i64 f.x.b, .int .i64 f.x.boot, .int .i64 f.x.first, .slice f.oA f.x.os.length f.oc, .int .i64 f.x.pos, .slice f.rA f.x.rs.length f.rc, .int .i64 f.x.start, .slice f.eA f.x.es.length f.ec, .int .i64 f.x.ack, .int .i64 f.x.grant, .int .i64 f.x.s, .int .i64 f.x.t, .slice f.gA f.x.gs.length f.gc] 28)) (some ⟨w1.heap.size, 0, none⟩) 1 [f] := ⟨⟨(El.In.new (E := frE) w1 f _ rfl).sl, (fun e => by cases e), Nat.le_refl _⟩, fun g hg => by
      rw [List.mem_singleton] at hg
      subst hg
      exact Fw.ok.below HFO.out (below_alloc hB _)⟩
    have hal := below_alloc (Below.refl w1.heap.size w1) (.cells #[.int .i64 f.x.a, .int .i64 f.x.b, .int .i64 f.x.boot, .int .i64 f.x.first, .slice f.oA f.x.os.length f.oc, .int .i64 f.x.pos, .slice f.rA f.x.rs.length f.rc, .int .i64 f.x.start, .slice f.eA f.x.es.length f.ec, .int .i64 f.x.ack, .int .i64 f.x.grant, .int .i64 f.x.s, .int .i64 f.x.t, .slice f.gA f.x.gs.length f.gc] 28)
    have C2 := fine19_any (some ⟨w1.heap.size, 0, none⟩) 1 [f] _ hS1 (fun g hg => by rw [List.mem_singleton] at hg; subst hg; exact HFN.out)
    obtain ⟨b2, hb2⟩ : ∃ b2, fineB [f] = b2 := ⟨_, rfl⟩
    rw [hb2] at C2
    have HL2 := Lib.hid hb2
    have hX0 := hX
    replace hX := hX.below hal
    replace hB := below_then hB hal
    clear hb2 hS1 hal
    go_wp2_with (first | (refine El.load_ifK frRow (by rfl) _ rfl n0 0 rfl f hX0.at #[.int .i64 f.x.a, .int .i64 f.x.b, .int .i64 f.x.boot, .int .i64 f.x.first, .slice f.oA f.x.os.length f.oc, .int .i64 f.x.pos, .slice f.rA f.x.rs.length f.rc, .int .i64 f.x.start, .slice f.eA f.x.es.length f.ec, .int .i64 f.x.ack, .int .i64 f.x.grant, .int .i64 f.x.s, .int .i64 f.x.t, .slice f.gA f.x.gs.length f.gc] rfl ?_) | fail)
    refine C2.mono ?_
    rintro e w2 ⟨rfl, hb2⟩
    replace hX := hX.below hb2
    replace hB := below_then hB hb2
    clear hb2 C2 hX0
    cases b2 with
    | false =>
      clear hX
      go_wp2_with fail
      refine (HA _).mono ?_
      rintro e w9 ⟨rfl, hb9⟩
      go_wp2_with fail
      go_ret
      exact ⟨rfl, below_then hB hb9⟩
    | true =>
      have HR2 := Lib.hid (show FrR f.x ∧ f.x.s ≤ 1073741824 by
        have h := HL2.out
        unfold fineB at h
        rw [Bool.and_eq_true, List.all_eq_true] at h
        have h2 := h.2 f (List.mem_singleton.2 rfl)
        rw [Bool.and_eq_true, decide_eq_true_iff] at h2
        exact ⟨frB_iff.1 h2.1, h2.2⟩)
      have HL40 := Lib.hid (show l.length ≤ 40 by
        have h := HL.out
        unfold fineB at h
        rw [Bool.and_eq_true, decide_eq_true_iff] at h
        exact h.1)
      have HLF := Lib.hid (fun g (hg : g ∈ l) => (show FrR g.x ∧ g.x.s ≤ 1073741824 by
        have h := HL.out
        unfold fineB at h
        rw [Bool.and_eq_true, List.all_eq_true] at h
        have h2 := h.2 g hg
        rw [Bool.and_eq_true, decide_eq_true_iff] at h2
        exact ⟨frB_iff.1 h2.1, h2.2⟩))
      clear HFN HL2
      go_wp2_with fail
      refine (some19_any _).mono ?_
      rintro e w3 ⟨m, rfl, hT, hb3⟩
      replace hX := hX.below hb3
      replace hB := below_then hB hb3
      clear hb3
      have hn01 : n0 < w3.heap.size := hX.lt
      have hP : pnE.In (w3.alloc (.cells #[.slice (some ⟨m, 0, none⟩) 4 4, .int .i64 2, .int .i64 2, .int .i64 2, .int .i64 20, .int .i64 2, .int .i64 32, .int .i64 4, .int .i64 16] 33)) w3.heap.size (pl19 m) := El.In.new (E := pnE) w3 (pl19 m) _ rfl
      have hal := below_alloc (Below.refl w3.heap.size w3) (.cells #[.slice (some ⟨m, 0, none⟩) 4 4, .int .i64 2, .int .i64 2, .int .i64 2, .int .i64 20, .int .i64 2, .int .i64 32, .int .i64 4, .int .i64 16] 33)
      replace hX := hX.below hal
      replace hT := hT.below hal
      replace hB := below_then hB hal
      clear hal
      go_upto_region 4 with fail
      generalize w3.alloc (.cells #[.slice (some ⟨m, 0, none⟩) 4 4, .int .i64 2, .int .i64 2, .int .i64 2, .int .i64 20, .int .i64 2, .int .i64 32, .int .i64 4, .int .i64 16] 33) = W4 at *
      generalize w3.heap.size = n1 at *
      go_wp2_with (first | (refine El.load pnRow rfl _ rfl n1 0 rfl (pl19 m) hP.at #[.slice (some ⟨m, 0, none⟩) 4 4, .int .i64 2, .int .i64 2, .int .i64 2, .int .i64 20, .int .i64 2, .int .i64 32, .int .i64 4, .int .i64 16] rfl ?_) | fail)
      refine (newAt19 H m _ hT).mono ?_
      rintro e w5 ⟨x0, rfl, hx0, hvx0, hb5⟩
      replace hX := hX.below hb5
      replace hP := hP.below hb5
      replace hT := hT.below hb5
      replace hB := below_then hB hb5
      clear hb5
      have hZ4 : ryE.In (w5.alloc (.cells #[.int .i64 0, .int .i64 0, .int .i64 0, .int .i64 0, .int .i64 0, .int .i64 0, .slice none 0 0, .int .i64 0, .int .i64 0, .slice none 0 0, .slice none 0 0, .slice none 0 0, .slice none 0 0, .slice none 0 0, .slice none 0 0, .int .i64 0, .slice none 0 0, .slice none 0 0, .slice none 0 0, .slice none 0 0, .int .i64 0, .int .i64 0, .int .i64 0, .int .i64 0, .slice none 0 0, .int .i64 0] 48)) w5.heap.size Rlw.zero := El.In.new (E := ryE) w5 Rlw.zero _ rfl
      go_upto_region 5 with (first | (refine wpList_alloc_ry rfl rfl ?_) | (refine El.store ryRow rfl _ _ rfl w5.heap.size x0 #[.int .i64 x0.node, .int .i64 x0.boot, .int .i64 x0.above, .int .i64 x0.st.s, .int .i64 x0.st.t, .int .i64 x0.st.p, .slice x0.eA x0.st.es.length x0.ec, .int .i64 x0.q.f, .int .i64 x0.q.g, .slice x0.qA x0.q.os.length x0.qc, .slice x0.kA x0.ks.length x0.kc, .slice x0.rA x0.rs.length x0.rc, .slice x0.gA x0.gs.length x0.gc, .slice none 0 0, .slice none 0 0, .int .i64 0, .slice none 0 0, .slice none 0 0, .slice none 0 0, .slice none 0 0, .int .i64 0, .int .i64 0, .int .i64 0, .int .i64 0, .slice none 0 0, .int .i64 0] rfl rfl rfl Rlw.zero hZ4 ?_) | fail)
      have hdn := below_setRow (below_alloc (Below.refl w5.heap.size w5) (.cells #[.int .i64 0, .int .i64 0, .int .i64 0, .int .i64 0, .int .i64 0, .int .i64 0, .slice none 0 0, .int .i64 0, .int .i64 0, .slice none 0 0, .slice none 0 0, .slice none 0 0, .slice none 0 0, .slice none 0 0, .slice none 0 0, .int .i64 0, .slice none 0 0, .slice none 0 0, .slice none 0 0, .slice none 0 0, .int .i64 0, .int .i64 0, .int .i64 0, .int .i64 0, .slice none 0 0, .int .i64 0] 48)) (Nat.le_refl _) #[.int .i64 x0.node, .int .i64 x0.boot, .int .i64 x0.above, .int .i64 x0.st.s, .int .i64 x0.st.t, .int .i64 x0.st.p, .slice x0.eA x0.st.es.length x0.ec, .int .i64 x0.q.f, .int .i64 x0.q.g, .slice x0.qA x0.q.os.length x0.qc, .slice x0.kA x0.ks.length x0.kc, .slice x0.rA x0.rs.length x0.rc, .slice x0.gA x0.gs.length x0.gc, .slice none 0 0, .slice none 0 0, .int .i64 0, .slice none 0 0, .slice none 0 0, .slice none 0 0, .slice none 0 0, .int .i64 0, .int .i64 0, .int .i64 0, .int .i64 0, .slice none 0 0, .int .i64 0]
      have hE := hZ4.set x0 #[.int .i64 x0.node, .int .i64 x0.boot, .int .i64 x0.above, .int .i64 x0.st.s, .int .i64 x0.st.t, .int .i64 x0.st.p, .slice x0.eA x0.st.es.length x0.ec, .int .i64 x0.q.f, .int .i64 x0.q.g, .slice x0.qA x0.q.os.length x0.qc, .slice x0.kA x0.ks.length x0.kc, .slice x0.rA x0.rs.length x0.rc, .slice x0.gA x0.gs.length x0.gc, .slice none 0 0, .slice none 0 0, .int .i64 0, .slice none 0 0, .slice none 0 0, .slice none 0 0, .slice none 0 0, .int .i64 0, .int .i64 0, .int .i64 0, .int .i64 0, .slice none 0 0, .int .i64 0] rfl
      have hnw : w.heap.size ≤ w5.heap.size := hB.size
      have hn12 : n1 < w5.heap.size := hP.lt
      have hn02 : n0 < w5.heap.size := hX.lt
      have hm2 : m < w5.heap.size := inSl_lt19 hT (by show 0 < 4; omega)
      have hz := hx0.below hdn
      replace hX := hX.below hdn
      replace hP := hP.below hdn
      replace hT := hT.below hdn
      replace hB := below_then hB hdn
      have HV0 := Lib.hid (show x0.v = rlL (l.take 0) from hvx0)
      clear hdn hZ4 hx0 hvx0
      generalize (w5.alloc (.cells #[.int .i64 0, .int .i64 0, .int .i64 0, .int .i64 0, .int .i64 0, .int .i64 0, .slice none 0 0, .int .i64 0, .int .i64 0, .slice none 0 0, .slice none 0 0, .slice none 0 0, .slice none 0 0, .slice none 0 0, .slice none 0 0, .int .i64 0, .slice none 0 0, .slice none 0 0, .slice none 0 0, .slice none 0 0, .int .i64 0, .int .i64 0, .int .i64 0, .int .i64 0, .slice none 0 0, .int .i64 0] 48)).setRow w5.heap.size #[.int .i64 x0.node, .int .i64 x0.boot, .int .i64 x0.above, .int .i64 x0.st.s, .int .i64 x0.st.t, .int .i64 x0.st.p, .slice x0.eA x0.st.es.length x0.ec, .int .i64 x0.q.f, .int .i64 x0.q.g, .slice x0.qA x0.q.os.length x0.qc, .slice x0.kA x0.ks.length x0.kc, .slice x0.rA x0.rs.length x0.rc, .slice x0.gA x0.gs.length x0.gc, .slice none 0 0, .slice none 0 0, .int .i64 0, .slice none 0 0, .slice none 0 0, .slice none 0 0, .slice none 0 0, .int .i64 0, .int .i64 0, .int .i64 0, .int .i64 0, .slice none 0 0, .int .i64 0] = W6 at *
      generalize w5.heap.size = n2 at *
      go_wp2_with fail
      go_loopw [7] (fun i wr => ∃ (k : Nat) (z : Rlw), k ≤ l.length ∧ i = .int .i64 k ∧ Hid (z.v = rlL (l.take k)) ∧ ryE.In wr n2 z ∧ z.ok wr ∧ pnE.In wr n1 (pl19 m) ∧ inE.Sl wr (some ⟨m, 0, none⟩) [-1, 0, 1, 1] ∧ frE.In wr n0 f ∧ Below w.heap.size w wr) (fun i _ => l.length - (intOf i).toNat)
      case atStart => exact ⟨0, x0, Nat.zero_le _, rfl, HV0, hE, hz, hP, hT, hX, hB⟩
      case round =>
        clear hE hz hP hT hX hB
        obtain ⟨k, z, hk, rfl, HV, hE, hz, hP, hT, hX, hB⟩ := hrel
        by_cases hkl : k < l.length
        · have f1 : decide ((k : Int) < (l.length : Int)) = true := decide_eq_true (by omega)
          have f2 : decide (k < l.length) = true := decide_eq_true hkl
          obtain ⟨b, off, eA, hbw, hc⟩ := HF.out.s.1 (by omega)
          obtain ⟨g, hg⟩ : ∃ g, l[k] = g := ⟨_, rfl⟩
          have hat : frE.At wr b (off + k * 14) g := by
            have h : frE.At wr b (off + k * 14) l[k] := (hc k hkl).below hB hbw
            rw [hg] at h; exact h
          have hbr : b < wr.heap.size := Nat.lt_of_lt_of_le hbw hB.size
          have hix := frIdx19 (cap := c) eA hkl
          clear eA
          have hgm : g ∈ l := by rw [← hg]; exact List.getElem_mem hkl
          obtain ⟨N, hN⟩ : ∃ N, (takeR P19 0 (rlL (l.take k)) g.x).2 = N := ⟨_, rfl⟩
          have HED := Lib.hid (show takeR P19 0 (rlL (l.take k)) g.x = (rlL (l.take (k + 1)), N) from Prod.ext (by rw [rlL_next hkl, hg]) hN)
          have HG := Lib.hid (And.intro (HLF.out g hgm) (HF.out.o g hgm))
          clear hc hg hN hgm
          go_upto_region 8 with fail
          refine region_anyG (S := SlS n1 n2 m z b (off + k * 14) g) 10 (by kernel_rfl) ?_
          replace hP : pnE.In wr.drew n1 (pl19 m) := hP
          replace hE : ryE.In wr.drew n2 z := hE
          replace hX : frE.In wr.drew n0 f := hX
          replace hat : frE.At wr.drew b (off + k * 14) g := hat
          replace hbr : b < wr.drew.heap.size := hbr
          replace hz := hz.below (Below.refl wr.heap.size wr).drew
          replace hT := hT.below (Below.refl wr.heap.size wr).drew
          replace hB := hB.drew
          generalize wr.drew = V at *
          have hS : SlS n1 n2 m z b (off + k * 14) g V := ⟨hP, hE, hat⟩
          refine anyG_take (i := 0) (v := .agg #[.slice (some ⟨m, 0, none⟩) 4 4, .int .i64 2, .int .i64 2, .int .i64 2, .int .i64 20, .int .i64 2, .int .i64 32, .int .i64 4, .int .i64 16]) rfl (by kernel_rfl) (by kernel_rfl) (by kernel_rfl) (by kernel_rfl) (by kernel_rfl) (fun _ _ _ h => h) (Or.inl ⟨by rfl, fun w' hSw => El.exec_loadK pnRow (.tmp 5) rfl rfl hSw.1.at _ rfl⟩) hS ?_
          try simp only [Act.put, List.setIfInBounds_toArray, List.set_cons_zero, List.set_cons_succ]
          refine anyG_take (i := 1) (v := .agg #[.int .i64 z.node, .int .i64 z.boot, .int .i64 z.above, .int .i64 z.st.s, .int .i64 z.st.t, .int .i64 z.st.p, .slice z.eA z.st.es.length z.ec, .int .i64 z.q.f, .int .i64 z.q.g, .slice z.qA z.q.os.length z.qc, .slice z.kA z.ks.length z.kc, .slice z.rA z.rs.length z.rc, .slice z.gA z.gs.length z.gc, .slice none 0 0, .slice none 0 0, .int .i64 0, .slice none 0 0, .slice none 0 0, .slice none 0 0, .slice none 0 0, .int .i64 0, .int .i64 0, .int .i64 0, .int .i64 0, .slice none 0 0, .int .i64 0]) rfl (by kernel_rfl) (by kernel_rfl) (by kernel_rfl) (by kernel_rfl) (by kernel_rfl) (fun _ _ _ h => h) (Or.inl ⟨by rfl, fun w' hSw => El.exec_loadK ryRow (.tmp 6) rfl rfl hSw.2.1.at _ rfl⟩) hS ?_
          try simp only [Act.put, List.setIfInBounds_toArray, List.set_cons_zero, List.set_cons_succ]
          refine anyG_take (i := 2) (v := .slice A l.length c) rfl (by kernel_rfl) (by kernel_rfl) (by kernel_rfl) (by kernel_rfl) (by kernel_rfl) (fun _ _ _ h => h) (Or.inl ⟨by rfl, fun w' hSw => by go_simp⟩) hS ?_
          try simp only [Act.put, List.setIfInBounds_toArray, List.set_cons_zero, List.set_cons_succ]
          refine anyG_take (i := 3) (v := .int .i64 k) rfl (by kernel_rfl) (by kernel_rfl) (by kernel_rfl) (by kernel_rfl) (by kernel_rfl) (fun _ _ _ h => h) (Or.inl ⟨by rfl, fun w' hSw => by go_simp⟩) hS ?_
          try simp only [Act.put, List.setIfInBounds_toArray, List.set_cons_zero, List.set_cons_succ]
          refine anyG_take (i := 4) (v := .pointer (some ⟨b, off + k * 14, none⟩)) rfl (by kernel_rfl) (by kernel_rfl) (by kernel_rfl) (by kernel_rfl) (by kernel_rfl) (fun _ _ _ h => h) (Or.inl ⟨by rfl, fun w' hSw => by go_simp⟩) hS ?_
          try simp only [Act.put, List.setIfInBounds_toArray, List.set_cons_zero, List.set_cons_succ]
          refine anyG_take (i := 5) (v := .agg #[.int .i64 g.x.a, .int .i64 g.x.b, .int .i64 g.x.boot, .int .i64 g.x.first, .slice g.oA g.x.os.length g.oc, .int .i64 g.x.pos, .slice g.rA g.x.rs.length g.rc, .int .i64 g.x.start, .slice g.eA g.x.es.length g.ec, .int .i64 g.x.ack, .int .i64 g.x.grant, .int .i64 g.x.s, .int .i64 g.x.t, .slice g.gA g.x.gs.length g.gc]) rfl (by kernel_rfl) (by kernel_rfl) (by kernel_rfl) (by kernel_rfl) (by kernel_rfl) (fun _ _ _ h => h) (Or.inl ⟨by rfl, fun w' hSw => El.exec_loadK frRow (.tmp 37) rfl rfl hSw.2.2 _ rfl⟩) hS ?_
          try simp only [Act.put, List.setIfInBounds_toArray, List.set_cons_zero, List.set_cons_succ]
          refine anyG_step (rs := [6]) (by kernel_rfl) (by simp) ?_
          refine AllG.cons rfl (fun K hK => ?_) AllG.nil
          go_simp
          refine (takeAt19 H m z g V k (by have := HL40.out; omega) hT hz (Fw.ok.below HG.out.2 hB) HV.out (rlL_r HL.out k hk) HG.out.1.1.tk HG.out.1.2 HED.out).mono ?_
          rintro e W7 ⟨z6, rfl, hz6, hvz6, hb6⟩
          replace hP := hP.below hb6
          replace hE := hE.below hb6
          replace hX := hX.below hb6
          replace hat := hat.below hb6 hbr
          replace hT := hT.below hb6
          replace hB := below_then hB hb6
          clear hb6
          try go_wp2_with fail
          refine hK.out _ _ (⟨hP, hE, hat⟩ : SlS n1 n2 m z b (off + k * 14) g W7) ?_
          try simp only [Act.put, List.setIfInBounds_toArray, List.set_cons_zero, List.set_cons_succ]
          clear hK hS
          have hS : SlS n1 n2 m z b (off + k * 14) g W7 := ⟨hP, hE, hat⟩
          refine anyG_plain (i := 7) (v := .tuple #[.agg #[.int .i64 z6.node, .int .i64 z6.boot, .int .i64 z6.above, .int .i64 z6.st.s, .int .i64 z6.st.t, .int .i64 z6.st.p, .slice z6.eA z6.st.es.length z6.ec, .int .i64 z6.q.f, .int .i64 z6.q.g, .slice z6.qA z6.q.os.length z6.qc, .slice z6.kA z6.ks.length z6.kc, .slice z6.rA z6.rs.length z6.rc, .slice z6.gA z6.gs.length z6.gc, .slice none 0 0, .slice none 0 0, .int .i64 0, .slice none 0 0, .slice none 0 0, .slice none 0 0, .slice none 0 0, .int .i64 0, .int .i64 0, .int .i64 0, .int .i64 0, .slice none 0 0, .int .i64 0], .int .i64 N]) rfl (by kernel_rfl) (by kernel_rfl) (by kernel_rfl) (by kernel_rfl) (fun _ _ _ h => h) (Or.inl ⟨by rfl, fun w' => by go_simp⟩) (fun _ => hS) ?_
          try simp only [Act.put, List.setIfInBounds_toArray, List.set_cons_zero, List.set_cons_succ]
          refine anyG_plain (i := 8) (v := .agg #[.int .i64 z6.node, .int .i64 z6.boot, .int .i64 z6.above, .int .i64 z6.st.s, .int .i64 z6.st.t, .int .i64 z6.st.p, .slice z6.eA z6.st.es.length z6.ec, .int .i64 z6.q.f, .int .i64 z6.q.g, .slice z6.qA z6.q.os.length z6.qc, .slice z6.kA z6.ks.length z6.kc, .slice z6.rA z6.rs.length z6.rc, .slice z6.gA z6.gs.length z6.gc, .slice none 0 0, .slice none 0 0, .int .i64 0, .slice none 0 0, .slice none 0 0, .slice none 0 0, .slice none 0 0, .int .i64 0, .int .i64 0, .int .i64 0, .int .i64 0, .slice none 0 0, .int .i64 0]) rfl (by kernel_rfl) (by kernel_rfl) (by kernel_rfl) (by kernel_rfl) (fun _ _ _ h => h) (Or.inl ⟨by rfl, fun w' => by go_simp⟩) (fun _ => hS) ?_
          try simp only [Act.put, List.setIfInBounds_toArray, List.set_cons_zero, List.set_cons_succ]
          refine anyG_plain (i := 9) (v := .int .i64 N) rfl (by kernel_rfl) (by kernel_rfl) (by kernel_rfl) (by kernel_rfl) (fun _ _ _ h => h) (Or.inl ⟨by rfl, fun w' => by go_simp⟩) (fun _ => hS) ?_
          try simp only [Act.put, List.setIfInBounds_toArray, List.set_cons_zero, List.set_cons_succ]
          refine anyG_step (rs := [10]) (by kernel_rfl) (by simp) ?_
          refine AllG.last (n := 10) rfl (fun K hK => ?_)
          refine El.step_store ryRow rfl _ _ rfl n2 z6 #[.int .i64 z6.node, .int .i64 z6.boot, .int .i64 z6.above, .int .i64 z6.st.s, .int .i64 z6.st.t, .int .i64 z6.st.p, .slice z6.eA z6.st.es.length z6.ec, .int .i64 z6.q.f, .int .i64 z6.q.g, .slice z6.qA z6.q.os.length z6.qc, .slice z6.kA z6.ks.length z6.kc, .slice z6.rA z6.rs.length z6.rc, .slice z6.gA z6.gs.length z6.gc, .slice none 0 0, .slice none 0 0, .int .i64 0, .slice none 0 0, .slice none 0 0, .slice none 0 0, .slice none 0 0, .int .i64 0, .int .i64 0, .int .i64 0, .int .i64 0, .slice none 0 0, .int .i64 0] rfl rfl rfl z hE ?_
          refine hK.out _ _ ?_
          try simp only [Act.put, List.setIfInBounds_toArray, List.set_cons_zero, List.set_cons_succ]
          clear hK hS
          refine anyG_done (by kernel_rfl) ?_ _
          have hgr := by_row W7 n2 #[.int .i64 z6.node, .int .i64 z6.boot, .int .i64 z6.above, .int .i64 z6.st.s, .int .i64 z6.st.t, .int .i64 z6.st.p, .slice z6.eA z6.st.es.length z6.ec, .int .i64 z6.q.f, .int .i64 z6.q.g, .slice z6.qA z6.q.os.length z6.qc, .slice z6.kA z6.ks.length z6.kc, .slice z6.rA z6.rs.length z6.rc, .slice z6.gA z6.gs.length z6.gc, .slice none 0 0, .slice none 0 0, .int .i64 0, .slice none 0 0, .slice none 0 0, .slice none 0 0, .slice none 0 0, .int .i64 0, .int .i64 0, .int .i64 0, .int .i64 0, .slice none 0 0, .int .i64 0]
          have hz7 := hz6.keepB hE hgr
          replace hP := hP.keep hgr (fun e => by have := Option.some.inj e; omega)
          replace hX := hX.keep hgr (fun e => by have := Option.some.inj e; omega)
          replace hT := inSl_keep19 hT (by omega) hgr
          replace hE := hE.set z6 #[.int .i64 z6.node, .int .i64 z6.boot, .int .i64 z6.above, .int .i64 z6.st.s, .int .i64 z6.st.t, .int .i64 z6.st.p, .slice z6.eA z6.st.es.length z6.ec, .int .i64 z6.q.f, .int .i64 z6.q.g, .slice z6.qA z6.q.os.length z6.qc, .slice z6.kA z6.ks.length z6.kc, .slice z6.rA z6.rs.length z6.rc, .slice z6.gA z6.gs.length z6.gc, .slice none 0 0, .slice none 0 0, .int .i64 0, .slice none 0 0, .slice none 0 0, .slice none 0 0, .slice none 0 0, .int .i64 0, .int .i64 0, .int .i64 0, .int .i64 0, .slice none 0 0, .int .i64 0] rfl
          replace hB := below_setRow hB hnw #[.int .i64 z6.node, .int .i64 z6.boot, .int .i64 z6.above, .int .i64 z6.st.s, .int .i64 z6.st.t, .int .i64 z6.st.p, .slice z6.eA z6.st.es.length z6.ec, .int .i64 z6.q.f, .int .i64 z6.q.g, .slice z6.qA z6.q.os.length z6.qc, .slice z6.kA z6.ks.length z6.kc, .slice z6.rA z6.rs.length z6.rc, .slice z6.gA z6.gs.length z6.gc, .slice none 0 0, .slice none 0 0, .int .i64 0, .slice none 0 0, .slice none 0 0, .slice none 0 0, .slice none 0 0, .int .i64 0, .int .i64 0, .int .i64 0, .int .i64 0, .slice none 0 0, .int .i64 0]
          have HV6 := Lib.hid hvz6
          have hl40 := HL40.out
          clear hgr hz6 hvz6 hz hat hbr HV hix
          generalize W7.setRow n2 #[.int .i64 z6.node, .int .i64 z6.boot, .int .i64 z6.above, .int .i64 z6.st.s, .int .i64 z6.st.t, .int .i64 z6.st.p, .slice z6.eA z6.st.es.length z6.ec, .int .i64 z6.q.f, .int .i64 z6.q.g, .slice z6.qA z6.q.os.length z6.qc, .slice z6.kA z6.ks.length z6.kc, .slice z6.rA z6.rs.length z6.rc, .slice z6.gA z6.gs.length z6.gc, .slice none 0 0, .slice none 0 0, .int .i64 0, .slice none 0 0, .slice none 0 0, .slice none 0 0, .slice none 0 0, .int .i64 0, .int .i64 0, .int .i64 0, .int .i64 0, .slice none 0 0, .int .i64 0] = W8 at *
          go_wp2_with fail
          go_roundw
          case rel => exact ⟨k + 1, z6, by omega, by go_num, HV6, hE, hz7, hP, hT, hX, hB⟩
          case measure => simp [intOf]; omega
        · obtain rfl : k = l.length := by omega
          rw [List.take_length] at HV
          have HR := Lib.hid (by have h := rlL_r HL.out l.length (Nat.le_refl _); rw [List.take_length] at h; exact h : RlR P19 0 l.length (rlL l))
          have hl40 := HL40.out
          clear hk hkl
          have c4 : wr.cell? ⟨n0, 4, none⟩ = some (.slice f.oA f.x.os.length f.oc) := hX.cell 4
          have c13 : wr.cell? ⟨n0, 13, none⟩ = some (.slice f.gA f.x.gs.length f.gc) := hX.cell 13
          have qf := hX.frozen
          have hX00 : wr.cell? ⟨n0, 0, none⟩ = some (.int .i64 f.x.a) := hX.cell 0
          have HX0 := Lib.hid hX
          go_upto_region 10 with fail
          clear c4 c13 qf
          replace hX := (hX.put { f with oA := none, oc := 0, x := { f.x with os := [] } } 4 (.slice none 0 0) rfl).put (cutW f) 13 (.slice none 0 0) rfl
          replace hE := (hE.other n0 4 (.slice none 0 0) (by omega)).other n0 13 (.slice none 0 0) (by omega)
          replace hP := (hP.other n0 4 (.slice none 0 0) (by omega)).other n0 13 (.slice none 0 0) (by omega)
          have g2 := by_cell2 (by_cell wr n0 4 (.slice none 0 0)) 13 (.slice none 0 0)
          have hm0 : m ≠ n0 := by
            rintro rfl
            obtain ⟨b, off, e, _, hc⟩ := hT (by show 0 < 4; omega)
            injection e with e
            injection e with e1 e2
            have h := hc 0 (by show 0 < 4; omega) 0 _ rfl
            rw [← e1, ← e2] at h
            have h : wr.cell? ⟨m, 0, none⟩ = some (.int .i64 (-1)) := h
            rw [hX00] at h
            have h2 := Option.some.inj h
            injection h2 with _ h2
            have := HR2.out.1.e.1
            omega
          replace hT := inSl_keep19 hT hm0 g2
          replace hz := hz.keepF HX0.out g2
          replace hB := Below.setCell (Below.setCell hB (p := ⟨n0, 4, none⟩) hn0 (.slice none 0 0)) (p := ⟨n0, 13, none⟩) hn0 (.slice none 0 0)
          clear g2 hX00
          generalize (wr.setCell ⟨n0, 4, none⟩ (.slice none 0 0)).setCell ⟨n0, 13, none⟩ (.slice none 0 0) = W5 at *
          obtain ⟨F, hFF⟩ : ∃ F, cutW f = F := ⟨_, rfl⟩
          have HFF := Lib.hid (show FrR F.x ∧ F.x.s ≤ 1073741824 ∧ F.x.os = [] ∧ F.x.gs = [] ∧ F.ok w from by
            rw [← hFF]
            exact ⟨cut19_r HR2.out.1, HR2.out.2, rfl, rfl, cutW_ok HFO.out⟩)
          rw [hFF] at hX
          clear hFF
          obtain ⟨S0, hS0⟩ : ∃ S0, rlL l = S0 := ⟨_, rfl⟩
          rw [hS0] at HV HR
          clear hS0
          obtain ⟨Z, hZ⟩ : ∃ Z, (takeR P19 0 S0 F.x).1 = Z := ⟨_, rfl⟩
          obtain ⟨N, hN⟩ : ∃ N, (takeR P19 0 S0 F.x).2 = N := ⟨_, rfl⟩
          have HT1 := Lib.hid (show takeR P19 0 S0 F.x = (Z, N) from Prod.ext hZ hN)
          have HRZ := Lib.hid (show RlR P19 0 (l.length + 1) Z from by rw [← hZ]; exact takeR_r HR.out (by omega) HFF.out.1 HFF.out.2.1)
          clear hZ hN
          go_wp2_with (first | (refine El.load pnRow rfl _ rfl n1 0 rfl (pl19 m) hP.at #[.slice (some ⟨m, 0, none⟩) 4 4, .int .i64 2, .int .i64 2, .int .i64 2, .int .i64 20, .int .i64 2, .int .i64 32, .int .i64 4, .int .i64 16] rfl ?_) | (refine El.load ryRow rfl _ rfl n2 0 rfl z hE.at #[.int .i64 z.node, .int .i64 z.boot, .int .i64 z.above, .int .i64 z.st.s, .int .i64 z.st.t, .int .i64 z.st.p, .slice z.eA z.st.es.length z.ec, .int .i64 z.q.f, .int .i64 z.q.g, .slice z.qA z.q.os.length z.qc, .slice z.kA z.ks.length z.kc, .slice z.rA z.rs.length z.rc, .slice z.gA z.gs.length z.gc, .slice none 0 0, .slice none 0 0, .int .i64 0, .slice none 0 0, .slice none 0 0, .slice none 0 0, .slice none 0 0, .int .i64 0, .int .i64 0, .int .i64 0, .int .i64 0, .slice none 0 0, .int .i64 0] rfl ?_) | (refine El.load frRow rfl _ rfl n0 0 rfl F hX.at #[.int .i64 F.x.a, .int .i64 F.x.b, .int .i64 F.x.boot, .int .i64 F.x.first, .slice F.oA F.x.os.length F.oc, .int .i64 F.x.pos, .slice F.rA F.x.rs.length F.rc, .int .i64 F.x.start, .slice F.eA F.x.es.length F.ec, .int .i64 F.x.ack, .int .i64 F.x.grant, .int .i64 F.x.s, .int .i64 F.x.t, .slice F.gA F.x.gs.length F.gc] rfl ?_) | fail)
          refine (takeAt19 H m z F _ l.length (by omega) hT hz (Fw.ok.below HFF.out.2.2.2.2 hB) HV.out HR.out HFF.out.1.tk HFF.out.2.1 HT1.out).mono ?_
          rintro e w8 ⟨z8, rfl, hz8, hvz8, hb8⟩
          replace hX := hX.below hb8
          replace hP := hP.below hb8
          replace hT := hT.below hb8
          replace hE := hE.below hb8
          replace hz := hz.below hb8
          replace hB := below_then hB hb8
          clear hb8
          have HV8 := Lib.hid hvz8
          clear hvz8
          have hZ8 : ryE.In (w8.alloc (.cells #[.int .i64 0, .int .i64 0, .int .i64 0, .int .i64 0, .int .i64 0, .int .i64 0, .slice none 0 0, .int .i64 0, .int .i64 0, .slice none 0 0, .slice none 0 0, .slice none 0 0, .slice none 0 0, .slice none 0 0, .slice none 0 0, .int .i64 0, .slice none 0 0, .slice none 0 0, .slice none 0 0, .slice none 0 0, .int .i64 0, .int .i64 0, .int .i64 0, .int .i64 0, .slice none 0 0, .int .i64 0] 48)) w8.heap.size Rlw.zero := El.In.new (E := ryE) w8 Rlw.zero _ rfl
          go_upto_region 11 with (first | (refine wpList_alloc_ry rfl rfl ?_) | (refine El.store ryRow rfl _ _ rfl w8.heap.size z8 #[.int .i64 z8.node, .int .i64 z8.boot, .int .i64 z8.above, .int .i64 z8.st.s, .int .i64 z8.st.t, .int .i64 z8.st.p, .slice z8.eA z8.st.es.length z8.ec, .int .i64 z8.q.f, .int .i64 z8.q.g, .slice z8.qA z8.q.os.length z8.qc, .slice z8.kA z8.ks.length z8.kc, .slice z8.rA z8.rs.length z8.rc, .slice z8.gA z8.gs.length z8.gc, .slice none 0 0, .slice none 0 0, .int .i64 0, .slice none 0 0, .slice none 0 0, .slice none 0 0, .slice none 0 0, .int .i64 0, .int .i64 0, .int .i64 0, .int .i64 0, .slice none 0 0, .int .i64 0] rfl rfl rfl Rlw.zero hZ8 ?_) | fail)
          have hdn := below_setRow (below_alloc (Below.refl w8.heap.size w8) (.cells #[.int .i64 0, .int .i64 0, .int .i64 0, .int .i64 0, .int .i64 0, .int .i64 0, .slice none 0 0, .int .i64 0, .int .i64 0, .slice none 0 0, .slice none 0 0, .slice none 0 0, .slice none 0 0, .slice none 0 0, .slice none 0 0, .int .i64 0, .slice none 0 0, .slice none 0 0, .slice none 0 0, .slice none 0 0, .int .i64 0, .int .i64 0, .int .i64 0, .int .i64 0, .slice none 0 0, .int .i64 0] 48)) (Nat.le_refl _) #[.int .i64 z8.node, .int .i64 z8.boot, .int .i64 z8.above, .int .i64 z8.st.s, .int .i64 z8.st.t, .int .i64 z8.st.p, .slice z8.eA z8.st.es.length z8.ec, .int .i64 z8.q.f, .int .i64 z8.q.g, .slice z8.qA z8.q.os.length z8.qc, .slice z8.kA z8.ks.length z8.kc, .slice z8.rA z8.rs.length z8.rc, .slice z8.gA z8.gs.length z8.gc, .slice none 0 0, .slice none 0 0, .int .i64 0, .slice none 0 0, .slice none 0 0, .slice none 0 0, .slice none 0 0, .int .i64 0, .int .i64 0, .int .i64 0, .int .i64 0, .slice none 0 0, .int .i64 0]
          have hN8 := hZ8.set z8 #[.int .i64 z8.node, .int .i64 z8.boot, .int .i64 z8.above, .int .i64 z8.st.s, .int .i64 z8.st.t, .int .i64 z8.st.p, .slice z8.eA z8.st.es.length z8.ec, .int .i64 z8.q.f, .int .i64 z8.q.g, .slice z8.qA z8.q.os.length z8.qc, .slice z8.kA z8.ks.length z8.kc, .slice z8.rA z8.rs.length z8.rc, .slice z8.gA z8.gs.length z8.gc, .slice none 0 0, .slice none 0 0, .int .i64 0, .slice none 0 0, .slice none 0 0, .slice none 0 0, .slice none 0 0, .int .i64 0, .int .i64 0, .int .i64 0, .int .i64 0, .slice none 0 0, .int .i64 0] rfl
          replace hX := hX.below hdn
          replace hP := hP.below hdn
          replace hT := hT.below hdn
          replace hE := hE.below hdn
          replace hz := hz.below hdn
          replace hz8 := hz8.below hdn
          replace hB := below_then hB hdn
          clear hdn hZ8
          generalize (w8.alloc (.cells #[.int .i64 0, .int .i64 0, .int .i64 0, .int .i64 0, .int .i64 0, .int .i64 0, .slice none 0 0, .int .i64 0, .int .i64 0, .slice none 0 0, .slice none 0 0, .slice none 0 0, .slice none 0 0, .slice none 0 0, .slice none 0 0, .int .i64 0, .slice none 0 0, .slice none 0 0, .slice none 0 0, .slice none 0 0, .int .i64 0, .int .i64 0, .int .i64 0, .int .i64 0, .slice none 0 0, .int .i64 0] 48)).setRow w8.heap.size #[.int .i64 z8.node, .int .i64 z8.boot, .int .i64 z8.above, .int .i64 z8.st.s, .int .i64 z8.st.t, .int .i64 z8.st.p, .slice z8.eA z8.st.es.length z8.ec, .int .i64 z8.q.f, .int .i64 z8.q.g, .slice z8.qA z8.q.os.length z8.qc, .slice z8.kA z8.ks.length z8.kc, .slice z8.rA z8.rs.length z8.rc, .slice z8.gA z8.gs.length z8.gc, .slice none 0 0, .slice none 0 0, .int .i64 0, .slice none 0 0, .slice none 0 0, .slice none 0 0, .slice none 0 0, .int .i64 0, .int .i64 0, .int .i64 0, .int .i64 0, .slice none 0 0, .int .i64 0] = W9 at *
          generalize w8.heap.size = n8 at *
          by_cases hN0 : N = 0
          · subst hN0
            have HTW := Lib.hid (show takeR P19 0 Z F.x = (Z, 0) from by
              have h := takeR_twice P19 0 S0 F.x HFF.out.2.2.1 HFF.out.2.2.2.1 (by rw [HT1.out])
              rw [HT1.out] at h
              exact h)
            go_wp2_with (first | (refine El.load pnRow rfl _ rfl n1 0 rfl (pl19 m) hP.at #[.slice (some ⟨m, 0, none⟩) 4 4, .int .i64 2, .int .i64 2, .int .i64 2, .int .i64 20, .int .i64 2, .int .i64 32, .int .i64 4, .int .i64 16] rfl ?_) | (refine El.load ryRow rfl _ rfl n8 0 rfl z8 hN8.at #[.int .i64 z8.node, .int .i64 z8.boot, .int .i64 z8.above, .int .i64 z8.st.s, .int .i64 z8.st.t, .int .i64 z8.st.p, .slice z8.eA z8.st.es.length z8.ec, .int .i64 z8.q.f, .int .i64 z8.q.g, .slice z8.qA z8.q.os.length z8.qc, .slice z8.kA z8.ks.length z8.kc, .slice z8.rA z8.rs.length z8.rc, .slice z8.gA z8.gs.length z8.gc, .slice none 0 0, .slice none 0 0, .int .i64 0, .slice none 0 0, .slice none 0 0, .slice none 0 0, .slice none 0 0, .int .i64 0, .int .i64 0, .int .i64 0, .int .i64 0, .slice none 0 0, .int .i64 0] rfl ?_) | (refine El.load frRow rfl _ rfl n0 0 rfl F hX.at #[.int .i64 F.x.a, .int .i64 F.x.b, .int .i64 F.x.boot, .int .i64 F.x.first, .slice F.oA F.x.os.length F.oc, .int .i64 F.x.pos, .slice F.rA F.x.rs.length F.rc, .int .i64 F.x.start, .slice F.eA F.x.es.length F.ec, .int .i64 F.x.ack, .int .i64 F.x.grant, .int .i64 F.x.s, .int .i64 F.x.t, .slice F.gA F.x.gs.length F.gc] rfl ?_) | fail)
            refine (takeAt19 H m z8 F _ (l.length + 1) (by omega) hT hz8 (Fw.ok.below HFF.out.2.2.2.2 hB) HV8.out HRZ.out HFF.out.1.tk HFF.out.2.1 HTW.out).mono ?_
            rintro e w11 ⟨z11, rfl, hz11, hvz11, hb11⟩
            replace hN8 := hN8.below hb11
            replace hz8 := hz8.below hb11
            replace hB := below_then hB hb11
            clear hb11 hX hP hT hE hz
            have HV11 := Lib.hid hvz11
            clear hvz11
            have hZ11 : ryE.In (w11.alloc (.cells #[.int .i64 0, .int .i64 0, .int .i64 0, .int .i64 0, .int .i64 0, .int .i64 0, .slice none 0 0, .int .i64 0, .int .i64 0, .slice none 0 0, .slice none 0 0, .slice none 0 0, .slice none 0 0, .slice none 0 0, .slice none 0 0, .int .i64 0, .slice none 0 0, .slice none 0 0, .slice none 0 0, .slice none 0 0, .int .i64 0, .int .i64 0, .int .i64 0, .int .i64 0, .slice none 0 0, .int .i64 0] 48)) w11.heap.size Rlw.zero := El.In.new (E := ryE) w11 Rlw.zero _ rfl
            go_upto_region 15 with (first | (refine wpList_alloc_ry rfl rfl ?_) | (refine El.store ryRow rfl _ _ rfl w11.heap.size z11 #[.int .i64 z11.node, .int .i64 z11.boot, .int .i64 z11.above, .int .i64 z11.st.s, .int .i64 z11.st.t, .int .i64 z11.st.p, .slice z11.eA z11.st.es.length z11.ec, .int .i64 z11.q.f, .int .i64 z11.q.g, .slice z11.qA z11.q.os.length z11.qc, .slice z11.kA z11.ks.length z11.kc, .slice z11.rA z11.rs.length z11.rc, .slice z11.gA z11.gs.length z11.gc, .slice none 0 0, .slice none 0 0, .int .i64 0, .slice none 0 0, .slice none 0 0, .slice none 0 0, .slice none 0 0, .int .i64 0, .int .i64 0, .int .i64 0, .int .i64 0, .slice none 0 0, .int .i64 0] rfl rfl rfl Rlw.zero hZ11 ?_) | fail)
            have hdn := below_setRow (below_alloc (Below.refl w11.heap.size w11) (.cells #[.int .i64 0, .int .i64 0, .int .i64 0, .int .i64 0, .int .i64 0, .int .i64 0, .slice none 0 0, .int .i64 0, .int .i64 0, .slice none 0 0, .slice none 0 0, .slice none 0 0, .slice none 0 0, .slice none 0 0, .slice none 0 0, .int .i64 0, .slice none 0 0, .slice none 0 0, .slice none 0 0, .slice none 0 0, .int .i64 0, .int .i64 0, .int .i64 0, .int .i64 0, .slice none 0 0, .int .i64 0] 48)) (Nat.le_refl _) #[.int .i64 z11.node, .int .i64 z11.boot, .int .i64 z11.above, .int .i64 z11.st.s, .int .i64 z11.st.t, .int .i64 z11.st.p, .slice z11.eA z11.st.es.length z11.ec, .int .i64 z11.q.f, .int .i64 z11.q.g, .slice z11.qA z11.q.os.length z11.qc, .slice z11.kA z11.ks.length z11.kc, .slice z11.rA z11.rs.length z11.rc, .slice z11.gA z11.gs.length z11.gc, .slice none 0 0, .slice none 0 0, .int .i64 0, .slice none 0 0, .slice none 0 0, .slice none 0 0, .slice none 0 0, .int .i64 0, .int .i64 0, .int .i64 0, .int .i64 0, .slice none 0 0, .int .i64 0]
            have hN11 := hZ11.set z11 #[.int .i64 z11.node, .int .i64 z11.boot, .int .i64 z11.above, .int .i64 z11.st.s, .int .i64 z11.st.t, .int .i64 z11.st.p, .slice z11.eA z11.st.es.length z11.ec, .int .i64 z11.q.f, .int .i64 z11.q.g, .slice z11.qA z11.q.os.length z11.qc, .slice z11.kA z11.ks.length z11.kc, .slice z11.rA z11.rs.length z11.rc, .slice z11.gA z11.gs.length z11.gc, .slice none 0 0, .slice none 0 0, .int .i64 0, .slice none 0 0, .slice none 0 0, .slice none 0 0, .slice none 0 0, .int .i64 0, .int .i64 0, .int .i64 0, .int .i64 0, .slice none 0 0, .int .i64 0] rfl
            replace hN8 := hN8.below hdn
            replace hz8 := hz8.below hdn
            replace hz11 := hz11.below hdn
            replace hB := below_then hB hdn
            clear hdn hZ11
            generalize (w11.alloc (.cells #[.int .i64 0, .int .i64 0, .int .i64 0, .int .i64 0, .int .i64 0, .int .i64 0, .slice none 0 0, .int .i64 0, .int .i64 0, .slice none 0 0, .slice none 0 0, .slice none 0 0, .slice none 0 0, .slice none 0 0, .slice none 0 0, .int .i64 0, .slice none 0 0, .slice none 0 0, .slice none 0 0, .slice none 0 0, .int .i64 0, .int .i64 0, .int .i64 0, .int .i64 0, .slice none 0 0, .int .i64 0] 48)).setRow w11.heap.size #[.int .i64 z11.node, .int .i64 z11.boot, .int .i64 z11.above, .int .i64 z11.st.s, .int .i64 z11.st.t, .int .i64 z11.st.p, .slice z11.eA z11.st.es.length z11.ec, .int .i64 z11.q.f, .int .i64 z11.q.g, .slice z11.qA z11.q.os.length z11.qc, .slice z11.kA z11.ks.length z11.kc, .slice z11.rA z11.rs.length z11.rc, .slice z11.gA z11.gs.length z11.gc, .slice none 0 0, .slice none 0 0, .int .i64 0, .slice none 0 0, .slice none 0 0, .slice none 0 0, .slice none 0 0, .int .i64 0, .int .i64 0, .int .i64 0, .int .i64 0, .slice none 0 0, .int .i64 0] = W12 at *
            generalize w11.heap.size = n11 at *
            go_wp2_with fail
            refine (HA _).mono ?_
            rintro e w12 ⟨rfl, hb12⟩
            replace hN8 := hN8.below hb12
            replace hN11 := hN11.below hb12
            replace hz8 := hz8.below hb12
            replace hz11 := hz11.below hb12
            replace hB := below_then hB hb12
            clear hb12
            have CS := same19_any z8 z11 w12 hz8 hz11 (HV8.out.trans HV11.out.symm) (by have h := few19 HRZ.out; rw [← HV8.out] at h; exact h.2)
            go_wp2_with (first | (refine El.load_ifK ryRow (by rfl) _ rfl n8 0 rfl z8 hN8.at #[.int .i64 z8.node, .int .i64 z8.boot, .int .i64 z8.above, .int .i64 z8.st.s, .int .i64 z8.st.t, .int .i64 z8.st.p, .slice z8.eA z8.st.es.length z8.ec, .int .i64 z8.q.f, .int .i64 z8.q.g, .slice z8.qA z8.q.os.length z8.qc, .slice z8.kA z8.ks.length z8.kc, .slice z8.rA z8.rs.length z8.rc, .slice z8.gA z8.gs.length z8.gc, .slice none 0 0, .slice none 0 0, .int .i64 0, .slice none 0 0, .slice none 0 0, .slice none 0 0, .slice none 0 0, .int .i64 0, .int .i64 0, .int .i64 0, .int .i64 0, .slice none 0 0, .int .i64 0] rfl ?_) | (refine El.load_ifK ryRow (by rfl) _ rfl n11 0 rfl z11 hN11.at #[.int .i64 z11.node, .int .i64 z11.boot, .int .i64 z11.above, .int .i64 z11.st.s, .int .i64 z11.st.t, .int .i64 z11.st.p, .slice z11.eA z11.st.es.length z11.ec, .int .i64 z11.q.f, .int .i64 z11.q.g, .slice z11.qA z11.q.os.length z11.qc, .slice z11.kA z11.ks.length z11.kc, .slice z11.rA z11.rs.length z11.rc, .slice z11.gA z11.gs.length z11.gc, .slice none 0 0, .slice none 0 0, .int .i64 0, .slice none 0 0, .slice none 0 0, .slice none 0 0, .slice none 0 0, .int .i64 0, .int .i64 0, .int .i64 0, .int .i64 0, .slice none 0 0, .int .i64 0] rfl ?_) | fail)
            refine CS.mono ?_
            rintro e w13 ⟨rfl, hb13⟩
            go_wp2_with fail
            go_ret
            exact ⟨rfl, below_then hB hb13⟩
          · have HER := Lib.hid (takeR_err HR.out (f := F.x) (by rw [HT1.out]; exact hN0))
            rw [HT1.out] at HER
            have HSZ := Lib.hid (show Z = S0 from HER.out.1)
            have HKN := Lib.hid (show (N = 1 ∧ known19 F.x = false) ∨ (N = 7 ∧ known19 F.x = true) from HER.out.2)
            clear HER
            have p0 : W9.cell? ⟨n0, 0, none⟩ = some (.int .i64 F.x.a) := hX.cell 0
            have p1 : W9.cell? ⟨n0, 1, none⟩ = some (.int .i64 F.x.b) := hX.cell 1
            clear hX hP hT
            obtain ⟨fa, hfa⟩ : ∃ fa, F.x.a = fa := ⟨_, rfl⟩
            obtain ⟨fb, hfb⟩ : ∃ fb, F.x.b = fb := ⟨_, rfl⟩
            rw [hfa] at p0
            rw [hfb] at p1
            have HK2 := Lib.hid (show known19 F.x = (decide (fb = 1) && (decide (fa = 0) || (decide (fa = 2) || decide (fa = 3)))) by rw [← hfa, ← hfb]; rfl)
            clear hfa hfb
            by_cases h1 : fb = 1
            · by_cases h2 : fa = 0
              · have HN7 := Lib.hid (known_yes HKN.out (by rw [HK2.out, decide_eq_true h1, decide_eq_true h2]; simp))
                subst h1 h2
                obtain rfl := HN7.out
                clear hN0
                go_wp2_with fail
                refine (HA _).mono ?_
                rintro e w12 ⟨rfl, hb12⟩
                replace hN8 := hN8.below hb12
                replace hE := hE.below hb12
                replace hz8 := hz8.below hb12
                replace hz := hz.below hb12
                replace hB := below_then hB hb12
                clear hb12
                have CS := same19_any z8 z w12 hz8 hz (HV8.out.trans (HSZ.out.trans HV.out.symm)) (by have h := few19 HRZ.out; rw [← HV8.out] at h; exact h.2)
                go_wp2_with (first | (refine El.load_ifK ryRow (by rfl) _ rfl n8 0 rfl z8 hN8.at #[.int .i64 z8.node, .int .i64 z8.boot, .int .i64 z8.above, .int .i64 z8.st.s, .int .i64 z8.st.t, .int .i64 z8.st.p, .slice z8.eA z8.st.es.length z8.ec, .int .i64 z8.q.f, .int .i64 z8.q.g, .slice z8.qA z8.q.os.length z8.qc, .slice z8.kA z8.ks.length z8.kc, .slice z8.rA z8.rs.length z8.rc, .slice z8.gA z8.gs.length z8.gc, .slice none 0 0, .slice none 0 0, .int .i64 0, .slice none 0 0, .slice none 0 0, .slice none 0 0, .slice none 0 0, .int .i64 0, .int .i64 0, .int .i64 0, .int .i64 0, .slice none 0 0, .int .i64 0] rfl ?_) | (refine El.load_ifK ryRow (by rfl) _ rfl n2 0 rfl z hE.at #[.int .i64 z.node, .int .i64 z.boot, .int .i64 z.above, .int .i64 z.st.s, .int .i64 z.st.t, .int .i64 z.st.p, .slice z.eA z.st.es.length z.ec, .int .i64 z.q.f, .int .i64 z.q.g, .slice z.qA z.q.os.length z.qc, .slice z.kA z.ks.length z.kc, .slice z.rA z.rs.length z.rc, .slice z.gA z.gs.length z.gc, .slice none 0 0, .slice none 0 0, .int .i64 0, .slice none 0 0, .slice none 0 0, .slice none 0 0, .slice none 0 0, .int .i64 0, .int .i64 0, .int .i64 0, .int .i64 0, .slice none 0 0, .int .i64 0] rfl ?_) | fail)
                refine CS.mono ?_
                rintro e w13 ⟨rfl, hb13⟩
                go_wp2_with fail
                go_ret
                exact ⟨rfl, below_then hB hb13⟩
              · by_cases h3 : fa = 2
                · have HN7 := Lib.hid (known_yes HKN.out (by rw [HK2.out, decide_eq_true h1, decide_eq_true h3]; simp))
                  subst h1 h3
                  clear h2
                  obtain rfl := HN7.out
                  clear hN0
                  go_wp2_with fail
                  refine (HA _).mono ?_
                  rintro e w12 ⟨rfl, hb12⟩
                  replace hN8 := hN8.below hb12
                  replace hE := hE.below hb12
                  replace hz8 := hz8.below hb12
                  replace hz := hz.below hb12
                  replace hB := below_then hB hb12
                  clear hb12
                  have CS := same19_any z8 z w12 hz8 hz (HV8.out.trans (HSZ.out.trans HV.out.symm)) (by have h := few19 HRZ.out; rw [← HV8.out] at h; exact h.2)
                  go_wp2_with (first | (refine El.load_ifK ryRow (by rfl) _ rfl n8 0 rfl z8 hN8.at #[.int .i64 z8.node, .int .i64 z8.boot, .int .i64 z8.above, .int .i64 z8.st.s, .int .i64 z8.st.t, .int .i64 z8.st.p, .slice z8.eA z8.st.es.length z8.ec, .int .i64 z8.q.f, .int .i64 z8.q.g, .slice z8.qA z8.q.os.length z8.qc, .slice z8.kA z8.ks.length z8.kc, .slice z8.rA z8.rs.length z8.rc, .slice z8.gA z8.gs.length z8.gc, .slice none 0 0, .slice none 0 0, .int .i64 0, .slice none 0 0, .slice none 0 0, .slice none 0 0, .slice none 0 0, .int .i64 0, .int .i64 0, .int .i64 0, .int .i64 0, .slice none 0 0, .int .i64 0] rfl ?_) | (refine El.load_ifK ryRow (by rfl) _ rfl n2 0 rfl z hE.at #[.int .i64 z.node, .int .i64 z.boot, .int .i64 z.above, .int .i64 z.st.s, .int .i64 z.st.t, .int .i64 z.st.p, .slice z.eA z.st.es.length z.ec, .int .i64 z.q.f, .int .i64 z.q.g, .slice z.qA z.q.os.length z.qc, .slice z.kA z.ks.length z.kc, .slice z.rA z.rs.length z.rc, .slice z.gA z.gs.length z.gc, .slice none 0 0, .slice none 0 0, .int .i64 0, .slice none 0 0, .slice none 0 0, .slice none 0 0, .slice none 0 0, .int .i64 0, .int .i64 0, .int .i64 0, .int .i64 0, .slice none 0 0, .int .i64 0] rfl ?_) | fail)
                  refine CS.mono ?_
                  rintro e w13 ⟨rfl, hb13⟩
                  go_wp2_with fail
                  go_ret
                  exact ⟨rfl, below_then hB hb13⟩
                · by_cases h4 : fa = 3
                  · have HN7 := Lib.hid (known_yes HKN.out (by rw [HK2.out, decide_eq_true h1, decide_eq_true h4]; simp))
                    subst h1 h4
                    clear h2 h3
                    obtain rfl := HN7.out
                    clear hN0
                    go_wp2_with fail
                    refine (HA _).mono ?_
                    rintro e w12 ⟨rfl, hb12⟩
                    replace hN8 := hN8.below hb12
                    replace hE := hE.below hb12
                    replace hz8 := hz8.below hb12
                    replace hz := hz.below hb12
                    replace hB := below_then hB hb12
                    clear hb12
                    have CS := same19_any z8 z w12 hz8 hz (HV8.out.trans (HSZ.out.trans HV.out.symm)) (by have h := few19 HRZ.out; rw [← HV8.out] at h; exact h.2)
                    go_wp2_with (first | (refine El.load_ifK ryRow (by rfl) _ rfl n8 0 rfl z8 hN8.at #[.int .i64 z8.node, .int .i64 z8.boot, .int .i64 z8.above, .int .i64 z8.st.s, .int .i64 z8.st.t, .int .i64 z8.st.p, .slice z8.eA z8.st.es.length z8.ec, .int .i64 z8.q.f, .int .i64 z8.q.g, .slice z8.qA z8.q.os.length z8.qc, .slice z8.kA z8.ks.length z8.kc, .slice z8.rA z8.rs.length z8.rc, .slice z8.gA z8.gs.length z8.gc, .slice none 0 0, .slice none 0 0, .int .i64 0, .slice none 0 0, .slice none 0 0, .slice none 0 0, .slice none 0 0, .int .i64 0, .int .i64 0, .int .i64 0, .int .i64 0, .slice none 0 0, .int .i64 0] rfl ?_) | (refine El.load_ifK ryRow (by rfl) _ rfl n2 0 rfl z hE.at #[.int .i64 z.node, .int .i64 z.boot, .int .i64 z.above, .int .i64 z.st.s, .int .i64 z.st.t, .int .i64 z.st.p, .slice z.eA z.st.es.length z.ec, .int .i64 z.q.f, .int .i64 z.q.g, .slice z.qA z.q.os.length z.qc, .slice z.kA z.ks.length z.kc, .slice z.rA z.rs.length z.rc, .slice z.gA z.gs.length z.gc, .slice none 0 0, .slice none 0 0, .int .i64 0, .slice none 0 0, .slice none 0 0, .slice none 0 0, .slice none 0 0, .int .i64 0, .int .i64 0, .int .i64 0, .int .i64 0, .slice none 0 0, .int .i64 0] rfl ?_) | fail)
                    refine CS.mono ?_
                    rintro e w13 ⟨rfl, hb13⟩
                    go_wp2_with fail
                    go_ret
                    exact ⟨rfl, below_then hB hb13⟩
                  · have HN7 := Lib.hid (known_no HKN.out (by rw [HK2.out, decide_eq_false h2, decide_eq_false h3, decide_eq_false h4]; simp))
                    have f2 : (fa == 0) = false := beq_eq_false_iff_ne.2 h2
                    have f3 : (fa == 2) = false := beq_eq_false_iff_ne.2 h3
                    have f4 : (fa == 3) = false := beq_eq_false_iff_ne.2 h4
                    subst h1
                    clear h2 h3 h4
                    obtain rfl := HN7.out
                    clear hN0
                    go_wp2_with fail
                    refine (HA _).mono ?_
                    rintro e w12 ⟨rfl, hb12⟩
                    replace hN8 := hN8.below hb12
                    replace hE := hE.below hb12
                    replace hz8 := hz8.below hb12
                    replace hz := hz.below hb12
                    replace hB := below_then hB hb12
                    clear hb12
                    have CS := same19_any z8 z w12 hz8 hz (HV8.out.trans (HSZ.out.trans HV.out.symm)) (by have h := few19 HRZ.out; rw [← HV8.out] at h; exact h.2)
                    go_wp2_with (first | (refine El.load_ifK ryRow (by rfl) _ rfl n8 0 rfl z8 hN8.at #[.int .i64 z8.node, .int .i64 z8.boot, .int .i64 z8.above, .int .i64 z8.st.s, .int .i64 z8.st.t, .int .i64 z8.st.p, .slice z8.eA z8.st.es.length z8.ec, .int .i64 z8.q.f, .int .i64 z8.q.g, .slice z8.qA z8.q.os.length z8.qc, .slice z8.kA z8.ks.length z8.kc, .slice z8.rA z8.rs.length z8.rc, .slice z8.gA z8.gs.length z8.gc, .slice none 0 0, .slice none 0 0, .int .i64 0, .slice none 0 0, .slice none 0 0, .slice none 0 0, .slice none 0 0, .int .i64 0, .int .i64 0, .int .i64 0, .int .i64 0, .slice none 0 0, .int .i64 0] rfl ?_) | (refine El.load_ifK ryRow (by rfl) _ rfl n2 0 rfl z hE.at #[.int .i64 z.node, .int .i64 z.boot, .int .i64 z.above, .int .i64 z.st.s, .int .i64 z.st.t, .int .i64 z.st.p, .slice z.eA z.st.es.length z.ec, .int .i64 z.q.f, .int .i64 z.q.g, .slice z.qA z.q.os.length z.qc, .slice z.kA z.ks.length z.kc, .slice z.rA z.rs.length z.rc, .slice z.gA z.gs.length z.gc, .slice none 0 0, .slice none 0 0, .int .i64 0, .slice none 0 0, .slice none 0 0, .slice none 0 0, .slice none 0 0, .int .i64 0, .int .i64 0, .int .i64 0, .int .i64 0, .slice none 0 0, .int .i64 0] rfl ?_) | fail)
                    refine CS.mono ?_
                    rintro e w13 ⟨rfl, hb13⟩
                    go_wp2_with fail
                    go_ret
                    exact ⟨rfl, below_then hB hb13⟩
            · have HN7 := Lib.hid (known_no HKN.out (by rw [HK2.out, decide_eq_false h1]; simp))
              have f1 : (fb == 1) = false := beq_eq_false_iff_ne.2 h1
              clear h1
              obtain rfl := HN7.out
              clear hN0
              go_wp2_with fail
              refine (HA _).mono ?_
              rintro e w12 ⟨rfl, hb12⟩
              replace hN8 := hN8.below hb12
              replace hE := hE.below hb12
              replace hz8 := hz8.below hb12
              replace hz := hz.below hb12
              replace hB := below_then hB hb12
              clear hb12
              have CS := same19_any z8 z w12 hz8 hz (HV8.out.trans (HSZ.out.trans HV.out.symm)) (by have h := few19 HRZ.out; rw [← HV8.out] at h; exact h.2)
              go_wp2_with (first | (refine El.load_ifK ryRow (by rfl) _ rfl n8 0 rfl z8 hN8.at #[.int .i64 z8.node, .int .i64 z8.boot, .int .i64 z8.above, .int .i64 z8.st.s, .int .i64 z8.st.t, .int .i64 z8.st.p, .slice z8.eA z8.st.es.length z8.ec, .int .i64 z8.q.f, .int .i64 z8.q.g, .slice z8.qA z8.q.os.length z8.qc, .slice z8.kA z8.ks.length z8.kc, .slice z8.rA z8.rs.length z8.rc, .slice z8.gA z8.gs.length z8.gc, .slice none 0 0, .slice none 0 0, .int .i64 0, .slice none 0 0, .slice none 0 0, .slice none 0 0, .slice none 0 0, .int .i64 0, .int .i64 0, .int .i64 0, .int .i64 0, .slice none 0 0, .int .i64 0] rfl ?_) | (refine El.load_ifK ryRow (by rfl) _ rfl n2 0 rfl z hE.at #[.int .i64 z.node, .int .i64 z.boot, .int .i64 z.above, .int .i64 z.st.s, .int .i64 z.st.t, .int .i64 z.st.p, .slice z.eA z.st.es.length z.ec, .int .i64 z.q.f, .int .i64 z.q.g, .slice z.qA z.q.os.length z.qc, .slice z.kA z.ks.length z.kc, .slice z.rA z.rs.length z.rc, .slice z.gA z.gs.length z.gc, .slice none 0 0, .slice none 0 0, .int .i64 0, .slice none 0 0, .slice none 0 0, .slice none 0 0, .slice none 0 0, .int .i64 0, .int .i64 0, .int .i64 0, .int .i64 0, .slice none 0 0, .int .i64 0] rfl ?_) | fail)
              refine CS.mono ?_
              rintro e w13 ⟨rfl, hb13⟩
              go_wp2_with fail
              go_ret
              exact ⟨rfl, below_then hB hb13⟩
end Go.Proofs.Ytnglpkfkepfkkaa

/- Frames among the arguments, opened: each with lists that a machine has room for. -/
namespace Go.Proofs.Ytnglpkfkepfkkaa
open Go.ChangeShapes Go.WideShapes Go.ChangeAt Go.RowKit Go.Deep Nam Cod

theorem weightsAll_mem {H : Type} {P : Program} {e : TypeId} {q : Nat → Bool} : ∀ {l : List (DataW H)}, (DataW.weightsAll P e l).all q = true → ∀ d ∈ l, (d.weights P e).all q = true
  | [], _, d, h => by cases h
  | x :: r, h, d, hd => by
    simp only [DataW.weightsAll, List.all_append, Bool.and_eq_true] at h
    rcases List.mem_cons.1 hd with rfl | hd
    · exact h.1
    · exact weightsAll_mem h.2 d hd
set_option maxRecDepth 100000 in
theorem open_listW {α : Type} (E : El α) (Q : α → Prop) {st : TypeId} (hu : Try.prog.underlying st = some (.slice E.e)) (hk : Try.prog.cellsOf E.e = E.k) [Inhabited α] {H : Type} {enc : TypeId × Value → H} {W : World} {base : Nat} {v : Value} {d : DataW H} {ps : List MemPlace}
    (hrd : ∀ {fuel : Nat} {cs : List Value} {x : DataW H × List MemPlace}, DataW.trod enc Try.prog W 0 (fun _ => true) true fuel E.e cs = some x → (x.1.weights Try.prog E.e).all (· ≤ reachBytes) = true → ∃ a, cs = E.c a ∧ Q a)
    (hv : Value.okWide Try.prog W .any base st v) (h : DataW.Trod enc Try.prog W 0 (fun _ => true) true st v d ps) (hw : (d.weights Try.prog st).all (· ≤ reachBytes) = true) :
    ∃ (A : Option Addr) (cap : Nat) (l : List α), v = .slice A l.length cap ∧ E.Sl W A l ∧ l.length ≤ cap ∧ (A = none → cap = 0) ∧ ∀ p ∈ l, Q p := by
  obtain ⟨a0, len, cap, rfl, _⟩ := okWide_slice hu hv
  obtain ⟨fuel, hf⟩ := h
  rcases DataW.trod_slice hu hf with ⟨hcs, hx⟩ | ⟨a, len', cap', elems, rest, n, _, hcs, hx, _, hle, _, hel, hi, _, _⟩
  · simp [Value.cells] at hcs
    obtain ⟨rfl, rfl, rfl⟩ := hcs
    exact ⟨none, 0, [], rfl, El.Sl.nil W none, Nat.le_refl _, fun _ => rfl, fun p hp => by cases hp⟩
  · simp [Value.cells] at hcs
    obtain ⟨rfl, rfl, rfl⟩ := hcs
    have hd : d = .slice (elems.map (·.1)) (rest.map (·.1)) := congrArg Prod.fst hx
    rw [hd] at hw
    simp only [DataW.weights, hu, List.all_cons, List.all_append, Bool.and_eq_true] at hw
    have hw2 : ∀ x ∈ elems, (x.1.weights Try.prog E.e).all (· ≤ reachBytes) = true := fun x hx => weightsAll_mem hw.2.1 x.1 (List.mem_map.2 ⟨x, hx, rfl⟩)
    have hv : ∀ i, i < len → ∃ p : α, Q p ∧ W.cells? 0 (a.add (i * E.k)) E.k = some (E.c p) := by
      intro i him
      have h1 := hi i him
      rw [List.getElem?_eq_getElem (by omega), hk] at h1
      obtain ⟨cs', h2, h3⟩ := Option.bind_eq_some_iff.1 h1
      obtain ⟨p, rfl, hq⟩ := hrd h3 (hw2 _ (List.getElem_mem _))
      exact ⟨p, hq, h2⟩
    obtain ⟨f, hf2⟩ := choose_lt hv
    have hlen : ((List.range len).map f).length = len := by simp
    refine ⟨some a, cap, (List.range len).map f, by rw [hlen], fun h => ?_, by rw [hlen]; exact hle, (fun e => by cases e), fun p hp => ?_⟩
    · rw [hlen] at h
      obtain ⟨bb, off, spot⟩ := a
      have cell : ∀ i, i < len → ∀ j v, (E.c (f i))[j]? = some v → W.cell? (((⟨bb, off, spot⟩ : Addr).add (i * E.k)).add j) = some v := by
        intro i hil j v hv
        obtain ⟨_, _, hcell⟩ := World.cells?_some (hf2 i (by omega)).2
        have hj : j < E.k := by have := (List.getElem?_eq_some_iff.1 hv).1; rw [E.len] at this; exact this
        have := hcell j hj
        rw [this]; exact hv
      have h00 : ∃ v, (E.c (f 0))[0]? = some v := ⟨(E.c (f 0))[0]'(by rw [E.len]; exact E.pos), List.getElem?_eq_getElem _⟩
      obtain ⟨v0, hv0⟩ := h00
      have hspot : spot = none := by
        have := cell 0 h 0 _ hv0
        simpa [Addr.add] using World.cell?_spot this
      subst hspot
      refine ⟨bb, off, rfl, (by have h9 := block_lt_of_cell (cell 0 h 0 _ hv0); rw [add_plain, add_plain] at h9; exact h9), fun i hil => ?_⟩
      have hil' : i < len := by rw [hlen] at hil; exact hil
      have he : ((List.range len).map f)[i] = f i := by simp
      rw [he]
      intro j u hu
      have := cell i hil' j u hu
      rwa [add_plain, add_plain] at this
    · obtain ⟨i, hi2, rfl⟩ := List.mem_map.1 hp
      exact (hf2 i (by have := List.mem_range.1 hi2; omega)).1
instance : Inhabited Fw := ⟨zeroFw⟩
set_option maxRecDepth 100000 in
theorem open_frs {H : Type} {enc : TypeId × Value → H} {W : World} {base : Nat} {v : Value} {d : DataW H} {ps : List MemPlace}
    (hv : Value.okWide Try.prog W .any base 22 v) (h : DataW.Trod enc Try.prog W 0 (fun _ => true) true 22 v d ps) (hw : (d.weights Try.prog 22).all (· ≤ reachBytes) = true) :
    ∃ (A : Option Addr) (cap : Nat) (l : List Fw), v = .slice A l.length cap ∧ FsV W A cap l ∧ ∀ f ∈ l, FrN f.x ∧ FrLen f.x := by
  obtain ⟨A, cap, l, e, hS, hc, hz, hQ⟩ := open_listW frE (fun f => f.ok W ∧ FrN f.x ∧ FrLen f.x) Try.underlying22 cellsFr (fun h hw => by
    obtain ⟨y, e, ho, hn, hl⟩ := read_fr h hw
    exact ⟨y, e, ho, hn, hl⟩) hv h hw
  exact ⟨A, cap, l, e, ⟨⟨hS, hz, hc⟩, fun f hf => (hQ f hf).1⟩, fun f hf => (hQ f hf).2⟩
/-- A row's contract, with the claim's bound on sizes handed to it. -/
theorem handed_sized19 {H : Type} {enc : TypeId × Value → H} {a : Assume} {C : Checked} {os : Os} {f : FuncId} {fn : Func} {s : ChangeSpec} {conds : List PathCond} {apart fresh handsOn again : Bool}
    (own : ownKnob C.prog.godebug = none) (started : os.Started) (noInit : C.prog.inits.idxOf? f = none) (hfn : C.prog.funcs[f]? = some fn)
    (witness : ∃ (w : World) (tape : Tape) (i : Input), w.os = os ∧ (w.forCall tape i).Shaped C.prog ∧ i.vars = [] ∧ Input.okWide C.prog (w.forCall tape i) .any w.heap.size f i ∧
      s.pre6 enc C.prog fn conds apart (w.forCall tape i).memory i.args ∧ a.holds C.prog (lone (Frame.enter C.prog f i.args .normal) [] (w.forCall tape i)))
    (contract : ∀ (W : World) (base : Nat) (args : Array Value) (ds gs : List (DataW H)) (before : List MemPlace),
      (∀ (j : Nat) t v, fn.params[j]? = some t → args[j]? = some v → Value.okWide C.prog W .any base t v) →
      DataW.Whole enc C.prog fn.params.toList s.vars apart W args.toList ds gs before →
      (DataW.weightsEach C.prog (fn.params.toList ++ s.plain.varTypes C.prog) (ds ++ gs)).all (· ≤ reachBytes) = true →
      Calls C.prog f args W fun e W' => ∃ v, e = .returned v ∧ s.post enc C.prog fn apart fresh handsOn again W args v W') :
    ReturnsInHanded a C os f .any (s.pre6 enc C.prog fn conds apart) (s.post enc C.prog fn apart fresh handsOn again) := by
  have h := returnsInHanded_of_change_and (enc := enc) (s := s) (conds := conds) (apart := apart) (fresh := fresh) (handsOn := handsOn) (again := again) (X := fun _ _ => True) (fun _ _ _ _ h => h) own started noInit hfn
    (by obtain ⟨w, tape, i, h1, h2, h3, h4, h5, h6⟩ := witness; exact ⟨w, tape, i, h1, h2, h3, h4, ⟨⟨h5.1, trivial⟩, h5.2⟩, h6⟩)
    (fun W base args ds gs before h1 h2 _ h4 _ _ => contract W base args ds gs before h1 h2 h4)
  have e : (fun w args => (s.pre enc C.prog fn conds apart w args ∧ True) ∧ sizedMet enc C.prog fn (OpenSpec.ofChange s) apart w args) = s.pre6 enc C.prog fn conds apart := by
    funext w args
    unfold ChangeSpec.pre6
    rw [and_true]
  rw [e] at h
  exact h
end Go.Proofs.Ytnglpkfkepfkkaa

/- Lists of ints in a row of the call's own: a cell read, a cell written. -/
namespace Go.Proofs.Ytnglpkfkepfkkaa
open Go.RowKit Go.Deep Pln

theorem by_cellG (w : World) (b i : Nat) (v : Value) : w.grownBy (w.setCell ⟨b, i, none⟩ v) (some b) := ⟨rfl, rfl, rfl, by simp [World.setCell], fun k _ hk => Below.heap_setCell w ⟨b, i, none⟩ v k (fun e => hk (by rw [e]))⟩
theorem inInnT : inE.Inn Try.prog 31 := El.inn_of (z := .int .i64 0) (bytes := 8) Try.underlying31 (by kernel_rfl) rfl (by decide)
theorem inZero : ∃ i z, Try.prog.info? inE.e = some i ∧ i.zero = some z ∧ z.cells.toList = inE.c (0 : Int) := by
  obtain ⟨i, hi, hz, _, _⟩ := info_parts (show (Try.prog.info? 3).map (fun i => (i.zero, i.size, i.bytes)) = some (some (.int .i64 0), 1, 8) by kernel_rfl)
  exact ⟨i, _, hi, hz, rfl⟩
theorem inCells : ∀ (l : List Int) (j : Nat) (h : j < l.length), (inE.cells l)[j]? = some (.int .i64 l[j])
  | x :: l, 0, _ => rfl
  | x :: l, j + 1, h => by
    have := inCells l j (by simpa using h)
    show (inE.c x ++ inE.cells l)[j + 1]? = _
    rw [List.getElem?_append_right (by rw [inE.len]; show 1 ≤ j + 1; omega), inE.len]
    exact this
theorem inSet (l : List Int) (j : Nat) (v : Int) : inE.cells (l.set j v) = (inE.cells l).set j (.int .i64 v) := by
  induction l generalizing j with
  | nil => rfl
  | cons x l ih =>
    cases j with
    | zero => rfl
    | succ j =>
      show inE.c x ++ inE.cells (l.set j v) = (inE.c x ++ inE.cells l).set (j + 1) _
      rw [ih]; rfl
theorem inOwn_cells {w : World} {B g cap : Nat} {l : List Int} (h : inE.Own w B (.slice (some ⟨g, 0, none⟩) l.length cap) l) : B ≤ g ∧ (∀ j (hj : j < l.length), w.cell? ⟨g, j, none⟩ = some (.int .i64 l[j])) ∧ (∀ j, w.frozen? ⟨g, j, none⟩ = false) ∧ g < w.heap.size := by
  have hlt := h.lt g rfl
  have hc := World.ownsRow.cells h (g := g) rfl
  refine ⟨hlt.1, fun j hj => ?_, fun j => ?_, hlt.2⟩
  · have := hc j _ (inCells l j hj)
    rw [Addr.add_lit, Nat.zero_add] at this
    exact this
  · unfold El.Own at h
    rcases h.2 with ⟨e, _⟩ | ⟨g', _, cur, e, _, hg, _⟩
    · cases e
    · injection e with e1
      have : g' = g := by injection e1 with e1; injection e1 with e1; exact e1.symm
      subst this
      simp [World.frozen?, hg]
theorem inOwn_put {w : World} {B g cap : Nat} {l : List Int} (h : inE.Own w B (.slice (some ⟨g, 0, none⟩) l.length cap) l) (j : Nat) (hj : j < l.length) (v : Int) : inE.Own (w.setCell ⟨g, j, none⟩ (.int .i64 v)) B (.slice (some ⟨g, 0, none⟩) l.length cap) (l.set j v) := by
  unfold El.Own at h ⊢
  rcases h.2 with ⟨e, _⟩ | ⟨g', cap', cur, e, hb, hg, hnc, hcm, hcs, htk⟩
  · cases e
  · injection e with e1 _ e3
    have : g' = g := by injection e1 with e1; injection e1 with e1; exact e1.symm
    subst this e3
    refine ⟨by rw [El.cells_len], .inr ⟨g', cap, cur.setIfInBounds j (.int .i64 v), by rw [List.length_set], hb, ?_, by rw [List.length_set]; exact hnc, hcm, by rw [Array.size_setIfInBounds]; exact hcs, ?_⟩⟩
    · simp [World.setCell, Array.getElem?_modify, hg]
    · rw [List.length_set, inSet, ← htk, Array.toList_setIfInBounds, List.take_set]

theorem inAt1 {w : World} {b o : Nat} {v : Int} (h : inE.At w b o v) : w.cell? ⟨b, o, none⟩ = some (.int .i64 v) := h 0 _ rfl
theorem slCell {w : World} {b off : Nat} {l : List Int} (h : inE.Sl w (some ⟨b, off, none⟩) l) (j : Nat) (hj : j < l.length) : w.cell? ⟨b, off + j, none⟩ = some (.int .i64 l[j]) := by
  obtain ⟨b', off', e, _, hc⟩ := h (by omega)
  cases e
  have := hc j hj 0 _ rfl
  rw [show inE.k = 1 from rfl, Nat.mul_one] at this
  exact this
theorem slCell0 {w : World} {b : Nat} {l : List Int} (h : inE.Sl w (some ⟨b, 0, none⟩) l) (j : Nat) (hj : j < l.length) : w.cell? ⟨b, j, none⟩ = some (.int .i64 l[j]) := by
  have := slCell h j hj
  rw [Nat.zero_add] at this; exact this
theorem getD_at {u : List Int} {i : Nat} (h : i < u.length) : u.getD i 0 = u[i] := by simp [h]
end Go.Proofs.Ytnglpkfkepfkkaa

/- The program's ways through the parents: within, isNode, depths, fans. -/
namespace Go.Proofs.Ytnglpkfkepfkkaa
open Go.RowKit Go.Deep Pln

theorem isNode_any (x : Pnw) (n : Int) (bv : Bool) (hbv : bv = true ↔ 0 ≤ n ∧ n < x.p.u.length) (w : World) : Calls Try.prog 71 #[.agg #[.slice x.A x.p.u.length x.c, .int .i64 x.p.q, .int .i64 x.p.r, .int .i64 x.p.b, .int .i64 x.p.l, .int .i64 x.p.w, .int .i64 x.p.c, .int .i64 x.p.k, .int .i64 x.p.i], .int .i64 n] w fun e w' => e = .returned (.bool bv) ∧ Below w.heap.size w w' := by
  have hP : pnE.In (w.alloc (.cells #[.slice x.A x.p.u.length x.c, .int .i64 x.p.q, .int .i64 x.p.r, .int .i64 x.p.b, .int .i64 x.p.l, .int .i64 x.p.w, .int .i64 x.p.c, .int .i64 x.p.k, .int .i64 x.p.i] 33)) w.heap.size x := El.In.new (E := pnE) w x _ rfl
  have hB := below_alloc (Below.refl w.heap.size w) (.cells #[.slice x.A x.p.u.length x.c, .int .i64 x.p.q, .int .i64 x.p.r, .int .i64 x.p.b, .int .i64 x.p.l, .int .i64 x.p.w, .int .i64 x.p.c, .int .i64 x.p.k, .int .i64 x.p.i] 33)
  have p0 := (pnIn9 hP).1
  clear hP
  go_enter Try.func71, Try.ntmps71
  by_cases h1 : 0 ≤ n
  · by_cases h2 : n < x.p.u.length
    · obtain rfl : bv = true := hbv.2 ⟨h1, h2⟩
      clear hbv
      go_wp2; go_ret
      exact ⟨rfl, hB⟩
    · obtain rfl : bv = false := by cases bv with
        | false => rfl
        | true => exact absurd (hbv.1 rfl).2 h2
      clear hbv
      go_wp2; go_ret
      exact ⟨rfl, hB⟩
  · obtain rfl : bv = false := by cases bv with
      | false => rfl
      | true => exact absurd (hbv.1 rfl).1 h1
    clear hbv
    go_wp2; go_ret
    exact ⟨rfl, hB⟩

set_option maxRecDepth 100000 in
set_option maxHeartbeats 2000000 in
theorem fans_any (x : Pnw) (w : World) (hT : inE.Sl w x.A x.p.u) (hR : Shp x.p.u) : Calls Try.prog 73 #[.agg #[.slice x.A x.p.u.length x.c, .int .i64 x.p.q, .int .i64 x.p.r, .int .i64 x.p.b, .int .i64 x.p.l, .int .i64 x.p.w, .int .i64 x.p.c, .int .i64 x.p.k, .int .i64 x.p.i]] w fun e w' => ∃ g, e = .returned (.slice (some ⟨g, 0, none⟩) x.p.u.length x.p.u.length) ∧ inE.Sl w' (some ⟨g, 0, none⟩) (fansL x.p.u x.p.u.length) ∧ g < w'.heap.size ∧ Below w.heap.size w w' := by
  have hP : pnE.In (w.alloc (.cells #[.slice x.A x.p.u.length x.c, .int .i64 x.p.q, .int .i64 x.p.r, .int .i64 x.p.b, .int .i64 x.p.l, .int .i64 x.p.w, .int .i64 x.p.c, .int .i64 x.p.k, .int .i64 x.p.i] 33)) w.heap.size x := El.In.new (E := pnE) w x _ rfl
  have hB := below_alloc (Below.refl w.heap.size w) (.cells #[.slice x.A x.p.u.length x.c, .int .i64 x.p.q, .int .i64 x.p.r, .int .i64 x.p.b, .int .i64 x.p.l, .int .i64 x.p.w, .int .i64 x.p.c, .int .i64 x.p.k, .int .i64 x.p.i] 33)
  obtain ⟨b, off, hA, hbw, hc⟩ := hT (by have := hR.n2; omega)
  have HS := Lib.hid (fun (i : Nat) (hi : i < x.p.u.length) (wx : World) (hb : Below w.heap.size w wx) => (by
    have h2 := ((hc i hi).below hb hbw)
    rw [show inE.k = 1 from rfl, Nat.mul_one, ← getD_at hi] at h2
    exact inAt1 h2 : wx.cell? ⟨b, off + i, none⟩ = some (.int .i64 (x.p.u.getD i 0))))
  have HR := Lib.hid hR
  have HL := Lib.hid (⟨hR.n2, hR.n12⟩ : 2 ≤ x.p.u.length ∧ x.p.u.length ≤ 12)
  have HZ := Lib.hid (fansL_zero x.p.u)
  have hst := fansL_start x.p.u
  clear hT hc hR
  have hl12 := HL.out.2
  have hBs := hB.size
  have p0 := (pnIn9 hP).1
  rw [hA] at p0
  have HA := Lib.hid hA
  clear hA
  go_enter Try.func73, Try.ntmps73
  go_wp2_with (first | (at_make; refine El.wpList_make inInnT (0 : Int) inZero rfl _ _ rfl w.heap.size x.p.u.length x.p.u.length rfl rfl (by omega) (Nat.le_refl _) hBs ?_; intro w2 hO hg2 hg2s; have hP2 := hP.keep hg2 (by simp); have p02 := (pnIn9 hP2).1; rw [HA.out] at p02) | fail)
  clear p0 p02
  rw [← hst, alloc_size] at hO
  replace hB := hB.grown hg2 hB.size (fun k e => by cases e)
  obtain ⟨g, hg⟩ : ∃ g, w.heap.size + 1 = g := ⟨_, rfl⟩
  rw [hg] at hO ⊢
  obtain ⟨n1, hn1⟩ : ∃ n, w.heap.size = n := ⟨_, rfl⟩
  rw [hn1] at hP2 ⊢
  have hn1g : n1 ≠ g := by omega
  have hwn1 : w.heap.size ≤ n1 := by omega
  clear hg2 hg2s hBs hst hP hg hn1
  go_loopw [13] (fun y wr => ∃ i : Nat, i ≤ x.p.u.length ∧ y = .int .i64 i ∧ pnE.In wr n1 x ∧ inE.Own wr w.heap.size (.slice (some ⟨g, 0, none⟩) x.p.u.length x.p.u.length) (fansL x.p.u i) ∧ Below w.heap.size w wr) (fun y _ => x.p.u.length - (intOf y).toNat)
  case atStart => exact ⟨0, Nat.zero_le _, rfl, hP2, hO, hB⟩
  case round =>
    clear hP2 hO hB
    obtain ⟨i, hi, rfl, hP, hO, hB⟩ := hrel
    by_cases hil : i < x.p.u.length
    · have s0 := HS.out i hil wr hB
      by_cases h0 : i = 0
      · subst h0
        rw [HR.out.up0, Nat.add_zero] at s0
        go_wp2_with fail
        exact ⟨⟨1, by omega, by go_num, hP, by rw [HZ.out]; exact hO, hB⟩, by simp [intOf]; omega⟩
      · obtain ⟨hu0, hui⟩ := HR.out.par i (by omega) hil
        obtain ⟨j, hj⟩ : ∃ j : Nat, x.p.u.getD i 0 = j := ⟨(x.p.u.getD i 0).toNat, by omega⟩
        have HST := Lib.hid (fansL_step (u := x.p.u) (i := i) (j := j) (by omega) hj)
        have hkl := kidsK_le x.p.u i (j : Int)
        have HN := Lib.hid (fun (wx : World) => isNode_any x j true ⟨fun _ => ⟨by omega, by omega⟩, fun _ => rfl⟩ wx)
        rw [hj] at s0 hui
        have hji : j < i := by omega
        have hlc := fansL_len x.p.u i
        obtain ⟨p0, p1, p2, p3, p4, p5, p6, p7, p8⟩ := pnIn9 hP
        have e1 : ((i : Int) == 0) = false := beq_eq_false_iff_ne.2 (by omega)
        have e2 : ((i : Int) != 0) = true := by simp; omega
        clear hj hu0 hui
        go_wp2_with fail
        clear s0 p0 p1 p2 p3 p4 p5 p6 p7 p8 e1 e2
        refine (HN.out _).mono ?_
        rintro e w3 ⟨rfl, hb3⟩
        replace hP := hP.below hb3
        replace hO := hO.below hb3
        replace hB := hB.trans (hb3.mono hB.size)
        rw [← hlc] at hO
        clear hb3 HN
        obtain ⟨_, hcc, hcf, hgw⟩ := inOwn_cells hO
        have c2 := hcc j (by rw [hlc]; omega)
        rw [fansL_get] at c2
        have cf := hcf j
        have hO3 := inOwn_put hO j (by rw [hlc]; omega) (((kidsK x.p.u i (j : Int)).length : Int) + 1)
        rw [HST.out, hlc] at hO3
        generalize (kidsK x.p.u i (j : Int)).length = d at *
        have hd : IntKind.i64.wrap ((d : Int) + 1) = (d : Int) + 1 := by rw [IntKind.wrap_i64]; omega
        have hgi := by_cellG w3 g j (.int .i64 ((d : Int) + 1))
        have hP3 := hP.keep hgi (fun e => hn1g (Option.some.inj e))
        have hB3 := hB.grown hgi hB.size (fun k e => by have := Option.some.inj e; have := (hO.lt g rfl).1; omega)
        clear hO hP hB hcc hcf hlc HST hgi
        go_wp2_with fail
        exact ⟨⟨i + 1, by omega, by go_num, hP3, hO3, hB3⟩, by simp [intOf]; omega⟩
    · obtain rfl : i = x.p.u.length := by omega
      have hS : inE.Sl wr (some ⟨g, 0, none⟩) (fansL x.p.u x.p.u.length) := by
        obtain ⟨A', c', hv, h, _⟩ := hO.sl
        injection hv with h1
        subst h1; exact h
      have hg := (hO.lt g rfl).2
      clear hO hP
      go_wp2_with fail
      go_ret
      exact ⟨g, rfl, hS, hg, hB⟩
end Go.Proofs.Ytnglpkfkepfkkaa

/- The program's answers of a list of parents that may be: Kids, Devices, Deep, Deepest, Kind, Below, Window. -/
namespace Go.Proofs.Ytnglpkfkepfkkaa
open Go.RowKit Go.Deep Pln

set_option maxRecDepth 100000 in
theorem pKind_any (x : Pnw) (n : Int) (w : World) (hT : inE.Sl w x.A x.p.u) (hR : Shp x.p.u) : Calls Try.prog 58 #[.agg #[.slice x.A x.p.u.length x.c, .int .i64 x.p.q, .int .i64 x.p.r, .int .i64 x.p.b, .int .i64 x.p.l, .int .i64 x.p.w, .int .i64 x.p.c, .int .i64 x.p.k, .int .i64 x.p.i], .int .i64 n] w fun e w' => e = .returned (.int .i64 (kindL x.p.u n)) ∧ Below w.heap.size w w' := by
  have hP : pnE.In (w.alloc (.cells #[.slice x.A x.p.u.length x.c, .int .i64 x.p.q, .int .i64 x.p.r, .int .i64 x.p.b, .int .i64 x.p.l, .int .i64 x.p.w, .int .i64 x.p.c, .int .i64 x.p.k, .int .i64 x.p.i] 33)) w.heap.size x := El.In.new (E := pnE) w x _ rfl
  have hB := below_alloc (Below.refl w.heap.size w) (.cells #[.slice x.A x.p.u.length x.c, .int .i64 x.p.q, .int .i64 x.p.r, .int .i64 x.p.b, .int .i64 x.p.l, .int .i64 x.p.w, .int .i64 x.p.c, .int .i64 x.p.k, .int .i64 x.p.i] 33)
  obtain ⟨p0, p1, p2, p3, p4, p5, p6, p7, p8⟩ := pnIn9 hP
  by_cases hn : 0 ≤ n ∧ n < x.p.u.length
  · have HN := Lib.hid (fun (wx : World) => isNode_any x n true ⟨fun _ => hn, fun _ => rfl⟩ wx)
    obtain ⟨j, rfl⟩ : ∃ j : Nat, n = j := ⟨n.toNat, by omega⟩
    have hjl : j < x.p.u.length := by omega
    clear hn
    by_cases h0 : j = 0
    · subst h0
      rw [show kindL x.p.u ((0 : Nat) : Int) = 1 from kind_root hjl]
      go_enter Try.func58, Try.ntmps58
      go_wp2_with fail
      refine (HN.out _).mono ?_
      rintro e w1 ⟨rfl, hb1⟩
      clear p0 p1 p2 p3 p4 p5 p6 p7 p8
      go_wp2_with fail
      go_ret
      exact ⟨rfl, hB.trans (hb1.mono hB.size)⟩
    · obtain ⟨kv, hkv⟩ : ∃ kv, kindL x.p.u (j : Int) = kv := ⟨_, rfl⟩
      rw [hkv]
      rw [kind_of (by omega) hjl] at hkv
      have HV := Lib.hid hkv
      clear hkv
      go_enter Try.func58, Try.ntmps58
      go_wp2_with fail
      clear p0 p1 p2 p3 p4 p5 p6 p7 p8
      refine (HN.out _).mono ?_
      rintro e w1 ⟨rfl, hb1⟩
      replace hP := hP.below hb1
      replace hB := hB.trans (hb1.mono hB.size)
      clear hb1
      obtain ⟨p0, p1, p2, p3, p4, p5, p6, p7, p8⟩ := pnIn9 hP
      have e1 : ((j : Int) == 0) = false := beq_eq_false_iff_ne.2 (by omega)
      go_wp2_with fail
      clear p0 p1 p2 p3 p4 p5 p6 p7 p8
      refine (fans_any x _ (hT.below hB) hR).mono ?_
      rintro e w2 ⟨g, rfl, hS, _, hb2⟩
      replace hB := hB.trans (hb2.mono hB.size)
      have hlc := fansL_len x.p.u x.p.u.length
      have c0 := slCell0 hS j (by rw [hlc]; exact hjl)
      rw [fansL_all] at c0
      clear hlc hS hb2
      generalize (kidsN x.p.u (j : Int)).length = d at *
      by_cases hd : d = 0
      · subst hd
        obtain rfl : (3 : Int) = kv := HV.out
        clear HV
        go_wp2_with fail
        go_ret
        exact ⟨rfl, hB⟩
      · obtain rfl : (2 : Int) = kv := by rw [← HV.out, if_neg hd]
        clear HV
        have e2 : ((d : Int) == 0) = false := beq_eq_false_iff_ne.2 (by omega)
        go_wp2_with fail
        go_ret
        exact ⟨rfl, hB⟩
  · have HN := Lib.hid (fun (wx : World) => isNode_any x n false ⟨fun h => (by cases h), fun h => absurd h hn⟩ wx)
    have hd : kindL x.p.u n = 0 := by
      unfold kindL
      rw [if_pos (by omega)]
    rw [hd]
    clear hd hn
    go_enter Try.func58, Try.ntmps58
    go_wp2_with fail
    refine (HN.out _).mono ?_
    rintro e w1 ⟨rfl, hb1⟩
    clear p0 p1 p2 p3 p4 p5 p6 p7 p8
    go_wp2_with fail
    go_ret
    exact ⟨rfl, hB.trans (hb1.mono hB.size)⟩

set_option maxRecDepth 100000 in
set_option maxHeartbeats 2000000 in
theorem pKids_any (x : Pnw) (n : Int) (w : World) (hT : inE.Sl w x.A x.p.u) (hR : Shp x.p.u) : Calls Try.prog 16 #[.agg #[.slice x.A x.p.u.length x.c, .int .i64 x.p.q, .int .i64 x.p.r, .int .i64 x.p.b, .int .i64 x.p.l, .int .i64 x.p.w, .int .i64 x.p.c, .int .i64 x.p.k, .int .i64 x.p.i], .int .i64 n] w fun e w' => ∃ A' c', e = .returned (.slice A' (kidsN x.p.u n).length c') ∧ (inE.Sl w' A' (ints (kidsN x.p.u n)) ∧ ∀ a, A' = some a → w.heap.size ≤ a.block) ∧ Below w.heap.size w w' := by
  obtain ⟨A, c, p⟩ := x
  dsimp only at hT hR ⊢
  obtain ⟨b, off, rfl, hbw, hc⟩ := hT (by have := hR.n2; omega)
  have hP : pnE.In (w.alloc (.cells #[.slice (some ⟨b, off, none⟩) p.u.length c, .int .i64 p.q, .int .i64 p.r, .int .i64 p.b, .int .i64 p.l, .int .i64 p.w, .int .i64 p.c, .int .i64 p.k, .int .i64 p.i] 33)) w.heap.size ⟨some ⟨b, off, none⟩, c, p⟩ := El.In.new (E := pnE) w ⟨some ⟨b, off, none⟩, c, p⟩ _ rfl
  have hB := below_alloc (Below.refl w.heap.size w) (.cells #[.slice (some ⟨b, off, none⟩) p.u.length c, .int .i64 p.q, .int .i64 p.r, .int .i64 p.b, .int .i64 p.l, .int .i64 p.w, .int .i64 p.c, .int .i64 p.k, .int .i64 p.i] 33)
  have HS := Lib.hid (fun (i : Nat) (hi : i < p.u.length) (wx : World) (hb : Below w.heap.size w wx) => (by
    have h2 := ((hc i hi).below hb hbw)
    rw [show inE.k = 1 from rfl, Nat.mul_one, ← getD_at hi] at h2
    exact inAt1 h2 : wx.cell? ⟨b, off + i, none⟩ = some (.int .i64 (p.u.getD i 0))))
  have hl12 := hR.n12
  have p0 := (pnIn9 hP).1
  dsimp only at p0
  clear hT hc hR hP
  go_enter Try.func16, Try.ntmps16
  go_wp2_with fail
  clear p0
  go_loopw [5, 11] (fun v y wr => ∃ (i : Nat) (v1 : Value), i ≤ p.u.length ∧ y = .int .i64 i ∧ v = v1 ∧ inE.Own wr w.heap.size v1 (ints (kidsK p.u i n)) ∧ Below w.heap.size w wr) (fun _ y _ => p.u.length - (intOf y).toNat)
  case atStart => exact ⟨0, _, Nat.zero_le _, rfl, rfl, El.Own.nil _ w.heap.size, hB⟩
  case round =>
    clear hB
    obtain ⟨i, v1, hi, rfl, rfl, hO, hB⟩ := hrel
    by_cases hil : i < p.u.length
    · have s0 := HS.out i hil wr hB
      have hle := kidsK_le p.u i n
      by_cases h0 : 0 < i ∧ p.u.getD i 0 = n
      · obtain ⟨h1, h2⟩ := h0
        have HK := Lib.hid (kidsK_yes h1 h2)
        rw [h2] at s0
        have e1 : ((i : Int) != 0) = true := by simp; omega
        have e2 : ((i : Int) == 0) = false := beq_eq_false_iff_ne.2 (by omega)
        have e3 : (n == n) = true := beq_self_eq_true n
        have hal := below_alloc (Below.refl wr.heap.size wr) (.cells #[.int .i64 i] 3)
        have hO2 := hO.below hal
        have hE : inE.Sl (wr.alloc (.cells #[.int .i64 i] 3)) (some ⟨wr.heap.size, 0, none⟩) [(i : Int)] := El.Sl.row (E := inE) wr [(i : Int)] #[.int .i64 i] rfl
        have hB2 := hB.trans (hal.mono hB.size)
        have hli : (ints (kidsK p.u i n)).length ≤ 12 := by rw [ints_len]; omega
        have HL1 := Lib.hid hli
        clear h2 hO hal hB hle hli
        go_wp2_with (first | (at_builtin; refine El.wpList_app inInnT rfl _ _ rfl w.heap.size u5 (ints (kidsK p.u i n)) [(i : Int)] rfl hO2 (some ⟨wr.heap.size, 0, none⟩) 1 1 rfl rfl hE (fun e => by cases e) (by have := HL1.out; rw [List.length_singleton]; omega) hB2.size ?_; intro v3 w3 hO3 hg3 _; have hB3 := hB2.grown hg3 hB2.size (fun k e => (hO2.lt k e).1); clear hO2 hB2 hE hg3) | fail)
        exact ⟨⟨i + 1, v3, by omega, by go_num, rfl, by rw [HK.out]; unfold ints at hO3 ⊢; rw [List.map_append]; exact hO3, hB3⟩, by simp [intOf]; omega⟩
      · have HK := Lib.hid (kidsK_no h0)
        by_cases h1 : i = 0
        · subst h1
          rw [Nat.add_zero] at s0
          go_wp2_with fail
          exact ⟨⟨1, _, by omega, by go_num, rfl, by rw [HK.out]; exact hO, hB⟩, by simp [intOf]; omega⟩
        · have e1 : ((i : Int) != 0) = true := by simp; omega
          have e2 : ((i : Int) == 0) = false := beq_eq_false_iff_ne.2 (by omega)
          have e3 : (p.u.getD i 0 == n) = false := beq_eq_false_iff_ne.2 (fun h => h0 ⟨by omega, h⟩)
          generalize p.u.getD i 0 = up at *
          clear h0
          go_wp2_with fail
          exact ⟨⟨i + 1, _, by omega, by go_num, rfl, by rw [HK.out]; exact hO, hB⟩, by simp [intOf]; omega⟩
    · obtain rfl : i = p.u.length := by omega
      rw [kidsK_all] at hO
      have hfr := hO.rows
      obtain ⟨A', c', hv, hS, _⟩ := hO.sl
      rw [ints_len] at hv
      subst hv
      clear hO
      go_wp2_with fail
      go_ret
      exact ⟨A', c', rfl, ⟨hS, fun a e => by subst e; exact hfr _ rfl⟩, hB⟩

set_option maxRecDepth 100000 in
set_option maxHeartbeats 2000000 in
theorem pDevs_any (x : Pnw) (w : World) (hT : inE.Sl w x.A x.p.u) (hR : Shp x.p.u) : Calls Try.prog 57 #[.agg #[.slice x.A x.p.u.length x.c, .int .i64 x.p.q, .int .i64 x.p.r, .int .i64 x.p.b, .int .i64 x.p.l, .int .i64 x.p.w, .int .i64 x.p.c, .int .i64 x.p.k, .int .i64 x.p.i]] w fun e w' => ∃ A' c', e = .returned (.slice A' (devsN x.p.u).length c') ∧ inE.Sl w' A' (ints (devsN x.p.u)) ∧ Below w.heap.size w w' := by
  have hP : pnE.In (w.alloc (.cells #[.slice x.A x.p.u.length x.c, .int .i64 x.p.q, .int .i64 x.p.r, .int .i64 x.p.b, .int .i64 x.p.l, .int .i64 x.p.w, .int .i64 x.p.c, .int .i64 x.p.k, .int .i64 x.p.i] 33)) w.heap.size x := El.In.new (E := pnE) w x _ rfl
  have hB := below_alloc (Below.refl w.heap.size w) (.cells #[.slice x.A x.p.u.length x.c, .int .i64 x.p.q, .int .i64 x.p.r, .int .i64 x.p.b, .int .i64 x.p.l, .int .i64 x.p.w, .int .i64 x.p.c, .int .i64 x.p.k, .int .i64 x.p.i] 33)
  obtain ⟨p0, p1, p2, p3, p4, p5, p6, p7, p8⟩ := pnIn9 hP
  have hl12 := hR.n12
  go_enter Try.func57, Try.ntmps57
  go_wp2_with fail
  clear p0 p1 p2 p3 p4 p5 p6 p7 p8 hP
  refine (fans_any x _ (hT.below hB) hR).mono ?_
  rintro e w2 ⟨g, rfl, hS, hg, hb2⟩
  replace hB := hB.trans (hb2.mono hB.size)
  obtain ⟨B2, hB2⟩ : ∃ B2, w2.heap.size = B2 := ⟨_, rfl⟩
  rw [hB2] at hg
  have hwB : w.heap.size ≤ B2 := by have := hB.size; omega
  have hBw : B2 ≤ w2.heap.size := by omega
  have hnil := El.Own.nil (E := inE) w2 B2
  clear hb2 hB2 hT hR
  go_wp2_with fail
  go_loopw [3, 9] (fun v y wr => ∃ (i : Nat) (v1 : Value), i ≤ x.p.u.length ∧ y = .int .i64 i ∧ v = v1 ∧ inE.Own wr B2 v1 (ints (devsK x.p.u i)) ∧ inE.Sl wr (some ⟨g, 0, none⟩) (fansL x.p.u x.p.u.length) ∧ B2 ≤ wr.heap.size ∧ Below w.heap.size w wr) (fun _ y _ => x.p.u.length - (intOf y).toNat)
  case atStart => exact ⟨0, _, Nat.zero_le _, rfl, rfl, hnil, hS, hBw, hB⟩
  case round =>
    clear hnil hS hBw hB
    obtain ⟨i, v1, hi, rfl, rfl, hO, hS, hBw, hB⟩ := hrel
    by_cases hil : i < x.p.u.length
    · have s0 := slCell0 hS i (by rw [fansL_len]; exact hil)
      rw [fansL_all] at s0
      have hle := devsK_le x.p.u i
      by_cases h0 : 0 < i ∧ (kidsN x.p.u i).length = 0
      · obtain ⟨h1, h2⟩ := h0
        have HK := Lib.hid (devsK_yes h1 hil h2)
        rw [h2] at s0
        have e1 : ((i : Int) != 0) = true := by simp; omega
        have e2 : ((i : Int) == 0) = false := beq_eq_false_iff_ne.2 (by omega)
        have hal := below_alloc (Below.refl wr.heap.size wr) (.cells #[.int .i64 i] 3)
        have hO2 := hO.below hal
        have hS2 := hS.below hal
        have hE : inE.Sl (wr.alloc (.cells #[.int .i64 i] 3)) (some ⟨wr.heap.size, 0, none⟩) [(i : Int)] := El.Sl.row (E := inE) wr [(i : Int)] #[.int .i64 i] rfl
        have hBw2 := Nat.le_trans hBw hal.size
        have hB2 := hB.trans (hal.mono hB.size)
        have hli : (ints (devsK x.p.u i)).length ≤ 12 := by rw [ints_len]; omega
        have HL1 := Lib.hid hli
        clear h2 hO hal hB hle hli hS hBw
        go_wp2_with (first | (at_builtin; refine El.wpList_app inInnT rfl _ _ rfl B2 u3 (ints (devsK x.p.u i)) [(i : Int)] rfl hO2 (some ⟨wr.heap.size, 0, none⟩) 1 1 rfl rfl hE (fun e => by cases e) (by have := HL1.out; rw [List.length_singleton]; omega) hBw2 ?_; intro v3 w3 hO3 hg3 _; have hB3 := hB2.grown hg3 hB2.size (fun k e => Nat.le_trans hwB (hO2.lt k e).1); have hS3 := hS2.keep1 hg3 (fun e => by have := (hO2.lt g e.symm).1; omega); have hBw3 := Nat.le_trans hBw2 hg3.size; clear hO2 hB2 hE hg3 hS2 hBw2) | fail)
        exact ⟨⟨i + 1, v3, by omega, by go_num, rfl, by rw [HK.out]; unfold ints at hO3 ⊢; rw [List.map_append]; exact hO3, hS3, hBw3, hB3⟩, by simp [intOf]; omega⟩
      · have HK := Lib.hid (devsK_no hil h0)
        by_cases h1 : i = 0
        · subst h1
          go_wp2_with fail
          exact ⟨⟨1, _, by omega, by go_num, rfl, by rw [HK.out]; exact hO, hS, hBw, hB⟩, by simp [intOf]; omega⟩
        · have e1 : ((i : Int) != 0) = true := by simp; omega
          have e2 : ((i : Int) == 0) = false := beq_eq_false_iff_ne.2 (by omega)
          have e3 : ((((kidsN x.p.u i).length : Nat) : Int) == 0) = false := beq_eq_false_iff_ne.2 (fun h => h0 ⟨by omega, by omega⟩)
          generalize (kidsN x.p.u i).length = d at *
          clear h0
          go_wp2_with fail
          exact ⟨⟨i + 1, _, by omega, by go_num, rfl, by rw [HK.out]; exact hO, hS, hBw, hB⟩, by simp [intOf]; omega⟩
    · obtain rfl : i = x.p.u.length := by omega
      rw [devsK_all] at hO
      obtain ⟨A', c', hv, hS2, _⟩ := hO.sl
      rw [ints_len] at hv
      subst hv
      clear hO hS
      go_wp2_with fail
      go_ret
      exact ⟨A', c', rfl, hS2, hB⟩

set_option maxRecDepth 100000 in
set_option maxHeartbeats 2000000 in
theorem pBelow_any (x : Pnw) (n top : Int) (w : World) (hT : inE.Sl w x.A x.p.u) (hR : Shp x.p.u) : Calls Try.prog 49 #[.agg #[.slice x.A x.p.u.length x.c, .int .i64 x.p.q, .int .i64 x.p.r, .int .i64 x.p.b, .int .i64 x.p.l, .int .i64 x.p.w, .int .i64 x.p.c, .int .i64 x.p.k, .int .i64 x.p.i], .int .i64 n, .int .i64 top] w fun e w' => e = .returned (.bool (belowU x.p.u n top)) ∧ Below w.heap.size w w' := by
  obtain ⟨A, c, p⟩ := x
  dsimp only at hT hR ⊢
  obtain ⟨b, off, rfl, hbw, hc⟩ := hT (by have := hR.n2; omega)
  have hP : pnE.In (w.alloc (.cells #[.slice (some ⟨b, off, none⟩) p.u.length c, .int .i64 p.q, .int .i64 p.r, .int .i64 p.b, .int .i64 p.l, .int .i64 p.w, .int .i64 p.c, .int .i64 p.k, .int .i64 p.i] 33)) w.heap.size ⟨some ⟨b, off, none⟩, c, p⟩ := El.In.new (E := pnE) w ⟨some ⟨b, off, none⟩, c, p⟩ _ rfl
  have hB := below_alloc (Below.refl w.heap.size w) (.cells #[.slice (some ⟨b, off, none⟩) p.u.length c, .int .i64 p.q, .int .i64 p.r, .int .i64 p.b, .int .i64 p.l, .int .i64 p.w, .int .i64 p.c, .int .i64 p.k, .int .i64 p.i] 33)
  have HS := Lib.hid (fun (i : Nat) (hi : i < p.u.length) (wx : World) (hb : Below w.heap.size w wx) => (by
    have h2 := ((hc i hi).below hb hbw)
    rw [show inE.k = 1 from rfl, Nat.mul_one, ← getD_at hi] at h2
    exact inAt1 h2 : wx.cell? ⟨b, off + i, none⟩ = some (.int .i64 (p.u.getD i 0))))
  have HN := Lib.hid (fun (m : Int) (bv : Bool) (h : bv = true ↔ 0 ≤ m ∧ m < p.u.length) (wx : World) => (by
    have h2 := isNode_any ⟨some ⟨b, off, none⟩, c, p⟩ m bv h wx
    dsimp only at h2
    exact h2 : Calls Try.prog 71 #[.agg #[.slice (some ⟨b, off, none⟩) p.u.length c, .int .i64 p.q, .int .i64 p.r, .int .i64 p.b, .int .i64 p.l, .int .i64 p.w, .int .i64 p.c, .int .i64 p.k, .int .i64 p.i], .int .i64 m] wx fun e w' => e = .returned (.bool bv) ∧ Below wx.heap.size wx w'))
  have HR := Lib.hid hR
  obtain ⟨bb, hbb⟩ : ∃ bb, belowU p.u n top = bb := ⟨_, rfl⟩
  rw [hbb]
  have HBB := Lib.hid hbb
  have hl12 := hR.n12
  clear hT hc hR hbb
  go_enter Try.func49, Try.ntmps49
  go_wp2_with fail
  generalize w.alloc (.cells #[.slice (some ⟨b, off, none⟩) p.u.length c, .int .i64 p.q, .int .i64 p.r, .int .i64 p.b, .int .i64 p.l, .int .i64 p.w, .int .i64 p.c, .int .i64 p.k, .int .i64 p.i] 33) = W0 at *
  obtain ⟨n1, hn1⟩ : ∃ n1, w.heap.size = n1 := ⟨_, rfl⟩
  rw [hn1] at hP ⊢
  clear hn1
  go_loopw [1] (fun y wr => ∃ m : Int, y = .int .i64 m ∧ Hid (belowU p.u m top = bb) ∧ pnE.In wr n1 ⟨some ⟨b, off, none⟩, c, p⟩ ∧ Below w.heap.size w wr) (fun y _ => (intOf y + 1).toNat)
  case atStart => exact ⟨n, rfl, HBB, hP, hB⟩
  case round =>
    clear hP hB HBB
    obtain ⟨m, rfl, HBB, hP, hB⟩ := hrel
    obtain ⟨p0, p1, p2, p3, p4, p5, p6, p7, p8⟩ := pnIn9 hP
    dsimp only at p0 p1 p2 p3 p4 p5 p6 p7 p8
    by_cases hm : 0 ≤ m ∧ m < p.u.length
    · have hN := Lib.hid (HN.out m true ⟨fun _ => hm, fun _ => rfl⟩)
      obtain ⟨j, rfl⟩ : ∃ j : Nat, m = j := ⟨m.toNat, by omega⟩
      have hjl : j < p.u.length := by omega
      clear hm
      go_wp2_with fail
      clear p0 p1 p2 p3 p4 p5 p6 p7 p8
      refine (hN.out _).mono ?_
      rintro e w1 ⟨rfl, hb1⟩
      replace hP := hP.below hb1
      replace hB := hB.trans (hb1.mono hB.size)
      clear hb1 hN
      by_cases ht : (j : Int) = top
      · subst ht
        obtain rfl : true = bb := by rw [← HBB.out, below_at (by omega)]
        have e1 : ((j : Int) == (j : Int)) = true := beq_self_eq_true _
        go_wp2_with fail
        go_ret
        exact ⟨rfl, hB⟩
      · have e1 : ((j : Int) == top) = false := beq_eq_false_iff_ne.2 ht
        have HB2 := Lib.hid (below_next HR.out hjl ht)
        have s0 := HS.out j hjl w1 hB
        obtain ⟨hu1, hu2⟩ := up_lt HR.out hjl
        generalize p.u.getD j 0 = up at *
        obtain ⟨p0, p1, p2, p3, p4, p5, p6, p7, p8⟩ := pnIn9 hP
        dsimp only at p0 p1 p2 p3 p4 p5 p6 p7 p8
        have e2 : decide ((j : Int) ≤ up) = false := decide_eq_false (by omega)
        go_wp2_with fail
        exact ⟨⟨up, rfl, Lib.hid (by rw [← HB2.out]; exact HBB.out), hP, hB⟩, by simp [intOf]; omega⟩
    · have hN := Lib.hid (HN.out m false ⟨fun h => (by cases h), fun h => absurd h hm⟩)
      obtain rfl : false = bb := by rw [← HBB.out, below_neg hm]
      clear hm
      go_wp2_with fail
      clear p0 p1 p2 p3 p4 p5 p6 p7 p8
      refine (hN.out _).mono ?_
      rintro e w1 ⟨rfl, hb1⟩
      replace hB := hB.trans (hb1.mono hB.size)
      go_wp2_with fail
      go_ret
      exact ⟨rfl, hB⟩

set_option maxRecDepth 100000 in
set_option maxHeartbeats 2000000 in
theorem pWindow_any (x : Pnw) (w : World) (hT : inE.Sl w x.A x.p.u) (hR : Shp x.p.u) (hq : 1 ≤ x.p.q ∧ x.p.q ≤ 8) : Calls Try.prog 37 #[.agg #[.slice x.A x.p.u.length x.c, .int .i64 x.p.q, .int .i64 x.p.r, .int .i64 x.p.b, .int .i64 x.p.l, .int .i64 x.p.w, .int .i64 x.p.c, .int .i64 x.p.k, .int .i64 x.p.i]] w fun e w' => e = .returned (.int .i64 ((x.p.q + 2) * (devsN x.p.u).length)) ∧ Below w.heap.size w w' := by
  have hP : pnE.In (w.alloc (.cells #[.slice x.A x.p.u.length x.c, .int .i64 x.p.q, .int .i64 x.p.r, .int .i64 x.p.b, .int .i64 x.p.l, .int .i64 x.p.w, .int .i64 x.p.c, .int .i64 x.p.k, .int .i64 x.p.i] 33)) w.heap.size x := El.In.new (E := pnE) w x _ rfl
  have hB := below_alloc (Below.refl w.heap.size w) (.cells #[.slice x.A x.p.u.length x.c, .int .i64 x.p.q, .int .i64 x.p.r, .int .i64 x.p.b, .int .i64 x.p.l, .int .i64 x.p.w, .int .i64 x.p.c, .int .i64 x.p.k, .int .i64 x.p.i] 33)
  have HDV := Lib.hid (fun (wx : World) (hb : Below w.heap.size w wx) => pDevs_any x wx (hT.below hb) hR)
  have hd : (devsN x.p.u).length ≤ 12 := by
    have := devsK_le x.p.u x.p.u.length
    rw [devsK_all] at this
    have := hR.n12
    omega
  obtain ⟨p0, p1, p2, p3, p4, p5, p6, p7, p8⟩ := pnIn9 hP
  generalize devsN x.p.u = dl at *
  have hs1 : IntKind.i64.wrap (x.p.q + 2) = x.p.q + 2 := by rw [IntKind.wrap_i64]; omega
  have hs2 : IntKind.i64.wrap ((x.p.q + 2) * (dl.length : Int)) = (x.p.q + 2) * (dl.length : Int) := by
    have h1 : (x.p.q + 2) * (dl.length : Int) ≤ 10 * (dl.length : Int) := Int.mul_le_mul_of_nonneg_right (by omega) (by omega)
    have h2 : 0 ≤ (x.p.q + 2) * (dl.length : Int) := Int.mul_nonneg (by omega) (by omega)
    rw [IntKind.wrap_i64]; omega
  clear hT hR
  go_enter Try.func37, Try.ntmps37
  go_wp2_with fail
  clear p0 p1 p2 p3 p4 p5 p6 p7 p8
  generalize w.alloc (.cells #[.slice x.A x.p.u.length x.c, .int .i64 x.p.q, .int .i64 x.p.r, .int .i64 x.p.b, .int .i64 x.p.l, .int .i64 x.p.w, .int .i64 x.p.c, .int .i64 x.p.k, .int .i64 x.p.i] 33) = W0 at *
  obtain ⟨n1, hn1⟩ : ∃ n, w.heap.size = n := ⟨_, rfl⟩
  rw [hn1] at hP ⊢
  clear hn1
  replace hP : pnE.In W0.drew n1 x := hP
  replace hB := hB.drew
  go_region_held3 (fun w' => (w'.cell? ⟨n1, 0, none⟩ = some (.slice x.A x.p.u.length x.c) ∧ w'.cell? ⟨n1, 1, none⟩ = some (.int .i64 x.p.q) ∧ w'.cell? ⟨n1, 2, none⟩ = some (.int .i64 x.p.r) ∧ w'.cell? ⟨n1, 3, none⟩ = some (.int .i64 x.p.b) ∧ w'.cell? ⟨n1, 4, none⟩ = some (.int .i64 x.p.l) ∧ w'.cell? ⟨n1, 5, none⟩ = some (.int .i64 x.p.w) ∧ w'.cell? ⟨n1, 6, none⟩ = some (.int .i64 x.p.c) ∧ w'.cell? ⟨n1, 7, none⟩ = some (.int .i64 x.p.k) ∧ w'.cell? ⟨n1, 8, none⟩ = some (.int .i64 x.p.i))) (with_reducible exact pnIn9 hP) (first | (go_at_call 57; (with_reducible refine (HDV.out _ hB).mono ?_); rintro e w4 ⟨A9, c9, rfl, _, hb4⟩; have hP := hP.below hb4; have hB := hB.trans (hb4.mono hB.size)))
  go_wp2_with fail
  go_ret
  exact ⟨rfl, hB⟩
end Go.Proofs.Ytnglpkfkepfkkaa

/- Gifts and states in memory; what the program's functions shall answer (GiftCalls); the document's Newer, Wanted. -/
namespace Go.Proofs.Ytnglpkfkepfkkaa
open Go.RowKit Nam Cod Tre Pst

/-- A state as Thaw makes it: all but its stream's place, its clock, its past and its counts is zero. -/
structure Swz where
  pos : Int
  clock : Int
  y : Pw
  cA : Option Addr
  cc : Nat
  l : List Cn
def Swz.v (x : Swz) : Sn := ⟨x.pos, x.clock, x.y.v, x.l⟩
def Swz.zero : Swz := ⟨0, 0, Pw.zero, none, 0, []⟩
structure Swz.ok (x : Swz) (w : World) : Prop where
  p : PastOk w x.y
  c : SlV cnE w x.cA x.cc x.l
theorem Swz.ok.below {x : Swz} {W w : World} (h : x.ok W) (hb : Below W.heap.size W w) : x.ok w := ⟨h.p.below hb, SlV.below h.c hb⟩
theorem Swz.ok.zero (w : World) : Swz.zero.ok w := ⟨PastOk.zero w, SlV.nil _ _⟩
end Go.Proofs.Ytnglpkfkepfkkaa

/- The program's Newer and Wanted of gifts. -/
namespace Go.Proofs.Ytnglpkfkepfkkaa
open Go.RowKit Nam Cod Tre Pst

set_option maxRecDepth 100000 in
set_option maxHeartbeats 2000000 in
theorem pNewerG_any (a b : Gf) (w : World) : Calls Try.prog 63 #[.agg #[.int .i64 a.d, .int .i64 a.i, .int .i64 a.c, .int .i64 a.t, .string a.s], .agg #[.int .i64 b.d, .int .i64 b.i, .int .i64 b.c, .int .i64 b.t, .string b.s]] w fun e w' => e = .returned (.bool (newG a b)) ∧ Below w.heap.size w w' := by
  have hP : gfE.In ((w.alloc (.cells #[.int .i64 a.d, .int .i64 a.i, .int .i64 a.c, .int .i64 a.t, .string a.s] 57)).alloc (.cells #[.int .i64 b.d, .int .i64 b.i, .int .i64 b.c, .int .i64 b.t, .string b.s] 57)) w.heap.size a := (El.In.new (E := gfE) w a _ rfl).alloc _
  have hQ : gfE.In ((w.alloc (.cells #[.int .i64 a.d, .int .i64 a.i, .int .i64 a.c, .int .i64 a.t, .string a.s] 57)).alloc (.cells #[.int .i64 b.d, .int .i64 b.i, .int .i64 b.c, .int .i64 b.t, .string b.s] 57)) (w.heap.size + 1) b := by
    have h := El.In.new (E := gfE) (w.alloc (.cells #[.int .i64 a.d, .int .i64 a.i, .int .i64 a.c, .int .i64 a.t, .string a.s] 57)) b _ rfl
    rw [alloc_size] at h; exact h
  have hB := below_alloc (below_alloc (Below.refl w.heap.size w) (.cells #[.int .i64 a.d, .int .i64 a.i, .int .i64 a.c, .int .i64 a.t, .string a.s] 57)) (.cells #[.int .i64 b.d, .int .i64 b.i, .int .i64 b.c, .int .i64 b.t, .string b.s] 57)
  obtain ⟨_, p1, p2, p3, _⟩ := gfIn5 hP
  obtain ⟨_, q1, q2, q3, _⟩ := gfIn5 hQ
  clear hP hQ
  cases h2 : decide (a.i = b.i) with
  | false =>
    have e2 : (a.i == b.i) = false := h2
    have e2b : (a.i != b.i) = true := by simp [bne, e2]
    have e2c : decide (¬ a.i = b.i) = true := by simpa using h2
    cases h1 : decide (b.i < a.i) with
    | true =>
      have hv : newG a b = true := by unfold newG; rw [h1]; rfl
      rw [hv]
      clear hv
      go_enter Try.func63, Try.ntmps63
      go_upto_region 1 with fail
      generalize (w.alloc (.cells #[.int .i64 a.d, .int .i64 a.i, .int .i64 a.c, .int .i64 a.t, .string a.s] 57)).alloc (.cells #[.int .i64 b.d, .int .i64 b.i, .int .i64 b.c, .int .i64 b.t, .string b.s] 57) = W at *
      generalize w.heap.size + 1 = n2 at *
      go_wp2_with fail
      go_ret
      exact ⟨rfl, hB⟩
    | false =>
      have hv : newG a b = false := by unfold newG; rw [h1, h2]; rfl
      rw [hv]
      clear hv
      go_enter Try.func63, Try.ntmps63
      go_upto_region 1 with fail
      generalize (w.alloc (.cells #[.int .i64 a.d, .int .i64 a.i, .int .i64 a.c, .int .i64 a.t, .string a.s] 57)).alloc (.cells #[.int .i64 b.d, .int .i64 b.i, .int .i64 b.c, .int .i64 b.t, .string b.s] 57) = W at *
      generalize w.heap.size + 1 = n2 at *
      go_wp2_with fail
      go_ret
      exact ⟨rfl, hB⟩
  | true =>
    have e2 : (a.i == b.i) = true := h2
    have e2b : (a.i != b.i) = false := by simp [bne, e2]
    have e2c : decide (¬ a.i = b.i) = false := by simpa using h2
    have h1 : decide (b.i < a.i) = false := by have := of_decide_eq_true h2; exact decide_eq_false (by omega)
    cases h3 : decide (a.t = 0) with
    | true =>
      have hv : newG a b = true := by unfold newG; rw [h1, h2, h3]; rfl
      have e3 : (a.t == 0) = true := h3
      rw [hv]
      clear hv
      go_enter Try.func63, Try.ntmps63
      go_upto_region 1 with fail
      generalize (w.alloc (.cells #[.int .i64 a.d, .int .i64 a.i, .int .i64 a.c, .int .i64 a.t, .string a.s] 57)).alloc (.cells #[.int .i64 b.d, .int .i64 b.i, .int .i64 b.c, .int .i64 b.t, .string b.s] 57) = W at *
      generalize w.heap.size + 1 = n2 at *
      go_wp2_with fail
      go_ret
      exact ⟨rfl, hB⟩
    | false =>
      have e3 : (a.t == 0) = false := h3
      by_cases h4 : b.t = 0
      · have hv : newG a b = false := by unfold newG; rw [h1, h2, h3, decide_eq_false (show ¬ b.t ≠ 0 from fun h => h h4)]; rfl
        have e4 : (b.t == 0) = true := beq_iff_eq.2 h4
        have e5 : (b.t != 0) = false := by simp [h4]
        have e6 : decide (b.t = 0) = true := decide_eq_true h4
        have e7 : decide (¬ b.t = 0) = false := by simp [h4]
        clear h4
        rw [hv]
        clear hv
        go_enter Try.func63, Try.ntmps63
        go_upto_region 1 with fail
        generalize (w.alloc (.cells #[.int .i64 a.d, .int .i64 a.i, .int .i64 a.c, .int .i64 a.t, .string a.s] 57)).alloc (.cells #[.int .i64 b.d, .int .i64 b.i, .int .i64 b.c, .int .i64 b.t, .string b.s] 57) = W at *
        generalize w.heap.size + 1 = n2 at *
        go_wp2_with fail
        go_ret
        exact ⟨rfl, hB⟩
      · have hv : newG a b = decide (b.c ≤ a.c) := by unfold newG; rw [h1, h2, h3, decide_eq_true (show b.t ≠ 0 from h4)]; rfl
        have e4 : (b.t == 0) = false := beq_eq_false_iff_ne.2 h4
        have e5 : (b.t != 0) = true := by simp [h4]
        have e6 : decide (b.t = 0) = false := decide_eq_false h4
        have e7 : decide (¬ b.t = 0) = true := by simp [h4]
        clear h4
        rw [hv]
        clear hv
        go_enter Try.func63, Try.ntmps63
        go_upto_region 1 with fail
        generalize (w.alloc (.cells #[.int .i64 a.d, .int .i64 a.i, .int .i64 a.c, .int .i64 a.t, .string a.s] 57)).alloc (.cells #[.int .i64 b.d, .int .i64 b.i, .int .i64 b.c, .int .i64 b.t, .string b.s] 57) = W at *
        generalize w.heap.size + 1 = n2 at *
        go_wp2_with fail
        go_ret
        exact ⟨rfl, hB⟩

def needV (g : Gf) (r : Rp) : Bool := decide (g.i < r.i) || (decide (r.i = g.i) && (decide (r.m = 1) || (decide (g.t ≠ 0) && decide (g.c < r.k))))
theorem outG_need (g : Gf) (r : Rp) : outG g r = (decide (r.d = g.d) && needV g r) := rfl
set_option maxRecDepth 100000 in
set_option maxHeartbeats 2000000 in
theorem pNeedless_any (g : Gf) (r : Rp) (w : World) : Calls Try.prog 70 #[.agg #[.int .i64 g.d, .int .i64 g.i, .int .i64 g.c, .int .i64 g.t, .string g.s], .agg #[.int .i64 r.d, .int .i64 r.i, .int .i64 r.b, .int .i64 r.t, .int .i64 r.m, .int .i64 r.p, .int .i64 r.c, .int .i64 r.s, .int .i64 r.k]] w fun e w' => e = .returned (.bool (needV g r)) ∧ Below w.heap.size w w' := by
  have hP : gfE.In ((w.alloc (.cells #[.int .i64 g.d, .int .i64 g.i, .int .i64 g.c, .int .i64 g.t, .string g.s] 57)).alloc (.cells #[.int .i64 r.d, .int .i64 r.i, .int .i64 r.b, .int .i64 r.t, .int .i64 r.m, .int .i64 r.p, .int .i64 r.c, .int .i64 r.s, .int .i64 r.k] 59)) w.heap.size g := (El.In.new (E := gfE) w g _ rfl).alloc _
  have hQ : rpE.In ((w.alloc (.cells #[.int .i64 g.d, .int .i64 g.i, .int .i64 g.c, .int .i64 g.t, .string g.s] 57)).alloc (.cells #[.int .i64 r.d, .int .i64 r.i, .int .i64 r.b, .int .i64 r.t, .int .i64 r.m, .int .i64 r.p, .int .i64 r.c, .int .i64 r.s, .int .i64 r.k] 59)) (w.heap.size + 1) r := by
    have h := El.In.new (E := rpE) (w.alloc (.cells #[.int .i64 g.d, .int .i64 g.i, .int .i64 g.c, .int .i64 g.t, .string g.s] 57)) r _ rfl
    rw [alloc_size] at h; exact h
  have hB := below_alloc (below_alloc (Below.refl w.heap.size w) (.cells #[.int .i64 g.d, .int .i64 g.i, .int .i64 g.c, .int .i64 g.t, .string g.s] 57)) (.cells #[.int .i64 r.d, .int .i64 r.i, .int .i64 r.b, .int .i64 r.t, .int .i64 r.m, .int .i64 r.p, .int .i64 r.c, .int .i64 r.s, .int .i64 r.k] 59)
  obtain ⟨_, p1, p2, p3, _⟩ := gfIn5 hP
  obtain ⟨_, q1, _, _, q4, _, _, _, q8⟩ := rpIn9 hQ
  clear hP hQ
  cases h2 : decide (r.i = g.i) with
  | false =>
    have e2 : (r.i == g.i) = false := h2
    have e2b : (r.i != g.i) = true := by simp [bne, e2]
    have e2c : decide (¬ r.i = g.i) = true := by simpa using h2
    cases h1 : decide (g.i < r.i) with
    | true =>
      have hv : needV g r = true := by unfold needV; rw [h1]; rfl
      rw [hv]
      clear hv
      go_enter Try.func70, Try.ntmps70
      go_upto_region 1 with fail
      generalize (w.alloc (.cells #[.int .i64 g.d, .int .i64 g.i, .int .i64 g.c, .int .i64 g.t, .string g.s] 57)).alloc (.cells #[.int .i64 r.d, .int .i64 r.i, .int .i64 r.b, .int .i64 r.t, .int .i64 r.m, .int .i64 r.p, .int .i64 r.c, .int .i64 r.s, .int .i64 r.k] 59) = W at *
      generalize w.heap.size + 1 = n2 at *
      go_wp2_with fail
      go_ret
      exact ⟨rfl, hB⟩
    | false =>
      have hv : needV g r = false := by unfold needV; rw [h1, h2]; rfl
      rw [hv]
      clear hv
      go_enter Try.func70, Try.ntmps70
      go_upto_region 1 with fail
      generalize (w.alloc (.cells #[.int .i64 g.d, .int .i64 g.i, .int .i64 g.c, .int .i64 g.t, .string g.s] 57)).alloc (.cells #[.int .i64 r.d, .int .i64 r.i, .int .i64 r.b, .int .i64 r.t, .int .i64 r.m, .int .i64 r.p, .int .i64 r.c, .int .i64 r.s, .int .i64 r.k] 59) = W at *
      generalize w.heap.size + 1 = n2 at *
      go_wp2_with fail
      go_ret
      exact ⟨rfl, hB⟩
  | true =>
    have e2 : (r.i == g.i) = true := h2
    have e2b : (r.i != g.i) = false := by simp [bne, e2]
    have e2c : decide (¬ r.i = g.i) = false := by simpa using h2
    have h1 : decide (g.i < r.i) = false := by have := of_decide_eq_true h2; exact decide_eq_false (by omega)
    cases h3 : decide (r.m = 1) with
    | true =>
      have hv : needV g r = true := by unfold needV; rw [h1, h2, h3]; rfl
      have e3 : (r.m == 1) = true := h3
      rw [hv]
      clear hv
      go_enter Try.func70, Try.ntmps70
      go_upto_region 1 with fail
      generalize (w.alloc (.cells #[.int .i64 g.d, .int .i64 g.i, .int .i64 g.c, .int .i64 g.t, .string g.s] 57)).alloc (.cells #[.int .i64 r.d, .int .i64 r.i, .int .i64 r.b, .int .i64 r.t, .int .i64 r.m, .int .i64 r.p, .int .i64 r.c, .int .i64 r.s, .int .i64 r.k] 59) = W at *
      generalize w.heap.size + 1 = n2 at *
      go_wp2_with fail
      go_ret
      exact ⟨rfl, hB⟩
    | false =>
      have e3 : (r.m == 1) = false := h3
      by_cases h4 : g.t = 0
      · have hv : needV g r = false := by unfold needV; rw [h1, h2, h3, decide_eq_false (show ¬ g.t ≠ 0 from fun h => h h4)]; rfl
        have e4 : (g.t == 0) = true := beq_iff_eq.2 h4
        have e5 : (g.t != 0) = false := by simp [h4]
        have e6 : decide (g.t = 0) = true := decide_eq_true h4
        have e7 : decide (¬ g.t = 0) = false := by simp [h4]
        clear h4
        rw [hv]
        clear hv
        go_enter Try.func70, Try.ntmps70
        go_upto_region 1 with fail
        generalize (w.alloc (.cells #[.int .i64 g.d, .int .i64 g.i, .int .i64 g.c, .int .i64 g.t, .string g.s] 57)).alloc (.cells #[.int .i64 r.d, .int .i64 r.i, .int .i64 r.b, .int .i64 r.t, .int .i64 r.m, .int .i64 r.p, .int .i64 r.c, .int .i64 r.s, .int .i64 r.k] 59) = W at *
        generalize w.heap.size + 1 = n2 at *
        go_wp2_with fail
        go_ret
        exact ⟨rfl, hB⟩
      · have hv : needV g r = decide (g.c < r.k) := by unfold needV; rw [h1, h2, h3, decide_eq_true (show g.t ≠ 0 from h4)]; rfl
        have e4 : (g.t == 0) = false := beq_eq_false_iff_ne.2 h4
        have e5 : (g.t != 0) = true := by simp [h4]
        have e6 : decide (g.t = 0) = false := decide_eq_false h4
        have e7 : decide (¬ g.t = 0) = true := by simp [h4]
        clear h4
        rw [hv]
        clear hv
        go_enter Try.func70, Try.ntmps70
        go_upto_region 1 with fail
        generalize (w.alloc (.cells #[.int .i64 g.d, .int .i64 g.i, .int .i64 g.c, .int .i64 g.t, .string g.s] 57)).alloc (.cells #[.int .i64 r.d, .int .i64 r.i, .int .i64 r.b, .int .i64 r.t, .int .i64 r.m, .int .i64 r.p, .int .i64 r.c, .int .i64 r.s, .int .i64 r.k] 59) = W at *
        generalize w.heap.size + 1 = n2 at *
        go_wp2_with fail
        go_ret
        exact ⟨rfl, hB⟩

set_option maxRecDepth 100000 in
set_option maxHeartbeats 2000000 in
theorem pWanted1_any (g : Gf) (r : Rp) (n : Nat) (w : World) (h : gfE.In w n g) : Calls Try.prog 69 #[.agg #[.int .i64 r.d, .int .i64 r.i, .int .i64 r.b, .int .i64 r.t, .int .i64 r.m, .int .i64 r.p, .int .i64 r.c, .int .i64 r.s, .int .i64 r.k], .pointer (some ⟨n, 0, none⟩)] w fun e w' => e = .returned (.bool (outG g r)) ∧ Below w.heap.size w w' := by
  have hQ : rpE.In (w.alloc (.cells #[.int .i64 r.d, .int .i64 r.i, .int .i64 r.b, .int .i64 r.t, .int .i64 r.m, .int .i64 r.p, .int .i64 r.c, .int .i64 r.s, .int .i64 r.k] 59)) w.heap.size r := El.In.new (E := rpE) w r _ rfl
  have hB := below_alloc (Below.refl w.heap.size w) (.cells #[.int .i64 r.d, .int .i64 r.i, .int .i64 r.b, .int .i64 r.t, .int .i64 r.m, .int .i64 r.p, .int .i64 r.c, .int .i64 r.s, .int .i64 r.k] 59)
  have hG := h.below hB
  have p0 := (gfIn5 hG).1
  have q0 := (rpIn9 hQ).1
  rw [outG_need]
  cases h1 : decide (r.d = g.d) with
  | false =>
    have e1 : (r.d == g.d) = false := h1
    clear hQ hG
    rw [show (false && needV g r) = false from rfl]
    go_enter Try.func69, Try.ntmps69
    go_upto_region 1 with fail
    generalize w.alloc (.cells #[.int .i64 r.d, .int .i64 r.i, .int .i64 r.b, .int .i64 r.t, .int .i64 r.m, .int .i64 r.p, .int .i64 r.c, .int .i64 r.s, .int .i64 r.k] 59) = W at *
    obtain ⟨n2, hn2⟩ : ∃ n, w.heap.size = n := ⟨_, rfl⟩
    rw [hn2] at q0 ⊢
    clear hn2
    go_wp2_with fail
    go_ret
    exact ⟨rfl, hB⟩
  | true =>
    have e1 : (r.d == g.d) = true := h1
    rw [show (true && needV g r) = needV g r from rfl]
    have HC := Lib.hid (pNeedless_any g r (w.alloc (.cells #[.int .i64 r.d, .int .i64 r.i, .int .i64 r.b, .int .i64 r.t, .int .i64 r.m, .int .i64 r.p, .int .i64 r.c, .int .i64 r.s, .int .i64 r.k] 59)))
    obtain ⟨g0, g1, g2, g3, g4⟩ := gfIn5 hG
    obtain ⟨r0, r1, r2, r3, r4, r5, r6, r7, r8⟩ := rpIn9 hQ
    clear hQ hG p0 q0
    go_enter Try.func69, Try.ntmps69
    go_upto_region 1 with fail
    generalize w.alloc (.cells #[.int .i64 r.d, .int .i64 r.i, .int .i64 r.b, .int .i64 r.t, .int .i64 r.m, .int .i64 r.p, .int .i64 r.c, .int .i64 r.s, .int .i64 r.k] 59) = W at *
    obtain ⟨n2, hn2⟩ : ∃ n, w.heap.size = n := ⟨_, rfl⟩
    rw [hn2] at r0 r1 r2 r3 r4 r5 r6 r7 r8 ⊢
    clear hn2
    go_wp2_with (first | (go_at_call 70; (with_reducible refine HC.out.mono ?_); rintro e w1 ⟨rfl, hb1⟩) | fail)
    go_ret
    exact ⟨rfl, below_then hB hb1⟩

/-- Where the first report stands that takes g's place; -1: nowhere. -/
def wantI (g : Gf) : List Rp → Nat
  | [] => 0
  | x :: l => if outG g x = true then 0 else wantI g l + 1
def wantAt (g : Gf) (l : List Rp) : Int := if l.any (outG g) = true then (wantI g l : Int) else -1
theorem wantI_is {g : Gf} : ∀ (l : List Rp) (k : Nat), (∀ j (h : j < l.length), j < k → outG g l[j] = false) → ∀ h : k < l.length, outG g l[k] = true → wantI g l = k
  | [], _, _, h, _ => absurd h (Nat.not_lt_zero _)
  | x :: l, k, hj, h, hk => by
    cases k with
    | zero =>
      rw [List.getElem_cons_zero] at hk
      unfold wantI; rw [if_pos hk]
    | succ k =>
      have h0 := hj 0 (by rw [List.length_cons]; omega) (by omega)
      rw [List.getElem_cons_zero] at h0
      unfold wantI
      rw [h0, if_neg (by decide), wantI_is l k (fun j h1 h2 => by have := hj (j + 1) (by rw [List.length_cons]; omega) (by omega); rw [List.getElem_cons_succ] at this; exact this) (by rw [List.length_cons] at h; omega) (by rw [List.getElem_cons_succ] at hk; exact hk)]

set_option maxRecDepth 100000 in
set_option maxHeartbeats 2000000 in
theorem pWantIdx_any (A : Option Addr) (cap : Nat) (l : List Rp) (n : Nat) (g : Gf) (w : World) (hl : l.length ≤ 1000) (h : gfE.In w n g) (hT : rpE.Sl w A l) :
    Calls Try.prog 77 #[.slice A l.length cap, .func (.func 69) #[] #[.pointer (some ⟨n, 0, none⟩)]] w fun e w' => e = .returned (.int .i64 (wantAt g l)) ∧ Below w.heap.size w w' := by
  have HF := Lib.hid (fun (r : Rp) (wx : World) (hb : Below w.heap.size w wx) => pWanted1_any g r n wx (h.below hb))
  have HC0 := Lib.hid (fun (j : Nat) (h : j < l.length) (hj : j < 0) => (absurd hj (Nat.not_lt_zero j) : outG g l[j] = false))
  have hB := Below.refl w.heap.size w
  have HT := Lib.hid hT
  clear h hT
  go_enter Try.func77, Try.ntmps77
  go_wp2_with fail
  go_loopw [8] (fun y wr => ∃ k : Nat, k ≤ l.length ∧ y = .int .i64 k ∧ Hid (∀ j (h : j < l.length), j < k → outG g l[j] = false) ∧ Below w.heap.size w wr) (fun y _ => l.length - (intOf y).toNat)
  case atStart => exact ⟨0, Nat.zero_le _, rfl, HC0, hB⟩
  case round =>
    clear HC0 hB
    obtain ⟨k, hk, rfl, HK, hB⟩ := hrel
    by_cases hkl : k < l.length
    · obtain ⟨b, off, eA, hbw, hc⟩ := HT.out (by omega)
      have hx := rpIdxH (cap := cap) eA hkl
      have hat : rpE.At wr b (off + k * 9) l[k] := (hc k hkl).below hB hbw
      have HC := Lib.hid (HF.out l[k] wr hB)
      cases hd : outG g l[k] with
      | true =>
        have HV := Lib.hid (show wantAt g l = k by
          unfold wantAt
          rw [if_pos (List.any_eq_true.2 ⟨l[k], List.getElem_mem _, hd⟩), wantI_is l k HK.out hkl hd])
        rw [hd] at HC
        generalize l[k] = x at *
        clear hc eA hd
        go_wp2_with (first | (refine El.load rpRow rfl _ rfl b (off + k * 9) rfl x hat #[.int .i64 x.d, .int .i64 x.i, .int .i64 x.b, .int .i64 x.t, .int .i64 x.m, .int .i64 x.p, .int .i64 x.c, .int .i64 x.s, .int .i64 x.k] rfl ?_) | (go_at_call 69; (with_reducible refine (HC.out).mono ?_); rintro e w1 ⟨rfl, hb1⟩))
        go_ret
        exact ⟨by rw [HV.out]; rfl, below_then hB hb1⟩
      | false =>
        have HN := Lib.hid (fun (j : Nat) (h : j < l.length) (hj : j < k + 1) => (by
          by_cases e : j < k
          · exact HK.out j h e
          · obtain rfl : j = k := by omega
            exact hd : outG g l[j] = false))
        rw [hd] at HC
        generalize l[k] = x at *
        clear hc eA hd
        go_wp2_with (first | (refine El.load rpRow rfl _ rfl b (off + k * 9) rfl x hat #[.int .i64 x.d, .int .i64 x.i, .int .i64 x.b, .int .i64 x.t, .int .i64 x.m, .int .i64 x.p, .int .i64 x.c, .int .i64 x.s, .int .i64 x.k] rfl ?_) | (go_at_call 69; (with_reducible refine (HC.out).mono ?_); rintro e w1 ⟨rfl, hb1⟩))
        exact ⟨⟨k + 1, by omega, by go_num, HN, below_then hB hb1⟩, by simp [intOf]; omega⟩
    · obtain rfl : k = l.length := by omega
      have HV := Lib.hid (show wantAt g l = -1 by
        unfold wantAt
        rw [if_neg]
        intro h
        obtain ⟨x, hx, ho⟩ := List.any_eq_true.1 h
        obtain ⟨j, hj, rfl⟩ := List.getElem_of_mem hx
        rw [HK.out j hj hj] at ho
        cases ho)
      go_wp2_with fail
      go_ret
      exact ⟨by rw [HV.out]; rfl, hB⟩

set_option maxRecDepth 100000 in
set_option maxHeartbeats 2000000 in
theorem pContains_any (A : Option Addr) (cap : Nat) (l : List Rp) (n : Nat) (g : Gf) (w : World) (hl : l.length ≤ 1000) (h : gfE.In w n g) (hT : rpE.Sl w A l) :
    Calls Try.prog 68 #[.slice A l.length cap, .func (.func 69) #[] #[.pointer (some ⟨n, 0, none⟩)]] w fun e w' => e = .returned (.bool (l.any (outG g))) ∧ Below w.heap.size w w' := by
  have HC := Lib.hid (pWantIdx_any A cap l n g w hl h hT)
  clear h hT
  cases ha : l.any (outG g) with
  | true =>
    have e : wantAt g l = (wantI g l : Int) := by unfold wantAt; rw [if_pos ha]
    rw [e] at HC
    generalize wantI g l = k at *
    have f1 : decide ((0 : Int) ≤ (k : Int)) = true := decide_eq_true (by omega)
    clear e ha
    go_enter Try.func68, Try.ntmps68
    go_wp2_with fail
    refine HC.out.mono ?_
    rintro e w1 ⟨rfl, hb1⟩
    go_wp2_with fail
    go_ret
    exact ⟨rfl, hb1⟩
  | false =>
    have e : wantAt g l = -1 := by unfold wantAt; rw [if_neg (by rw [ha]; decide)]
    rw [e] at HC
    clear e ha
    go_enter Try.func68, Try.ntmps68
    go_wp2_with fail
    refine HC.out.mono ?_
    rintro e w1 ⟨rfl, hb1⟩
    go_wp2_with fail
    go_ret
    exact ⟨rfl, hb1⟩

set_option maxRecDepth 100000 in
set_option maxHeartbeats 2000000 in
theorem pWantedG_any (g : Gf) (A : Option Addr) (c : Nat) (l : List Rp) (w : World) (hl : l.length ≤ 1000) (hT : rpE.Sl w A l) : Calls Try.prog 43 #[.agg #[.int .i64 g.d, .int .i64 g.i, .int .i64 g.c, .int .i64 g.t, .string g.s], .slice A l.length c] w fun e w' => e = .returned (.bool (wantedG g l)) ∧ Below w.heap.size w w' := by
  have hP : gfE.In (w.alloc (.cells #[.int .i64 g.d, .int .i64 g.i, .int .i64 g.c, .int .i64 g.t, .string g.s] 57)) w.heap.size g := El.In.new (E := gfE) w g _ rfl
  have hB := below_alloc (Below.refl w.heap.size w) (.cells #[.int .i64 g.d, .int .i64 g.i, .int .i64 g.c, .int .i64 g.t, .string g.s] 57)
  have HC := Lib.hid (pContains_any A c l w.heap.size g _ hl hP (hT.below hB))
  clear hP hT
  unfold wantedG
  generalize l.any (outG g) = bv at *
  go_enter Try.func43, Try.ntmps43
  go_upto_region 1 with fail
  generalize w.alloc (.cells #[.int .i64 g.d, .int .i64 g.i, .int .i64 g.c, .int .i64 g.t, .string g.s] 57) = W at *
  go_wp2_with fail
  refine HC.out.mono ?_
  rintro e w1 ⟨rfl, hb1⟩
  go_wp2_with fail
  go_ret
  exact ⟨rfl, below_then hB hb1⟩
end Go.Proofs.Ytnglpkfkepfkkaa

/- The program's gifts: a place put into a list. -/
namespace Go.Proofs.Ytnglpkfkepfkkaa
open Go.RowKit Nam Cod

/-- 'copy' into a row that is known whole, whatever an element's size. -/
theorem run_copyE {P : Program} (w : World) (dT sT ty elem : TypeId) (k g o dLen dCap : Nat) (a : Addr) (sLen sCap : Nat) (cur : Array Value) (t : TypeId) (cs : List Value)
    (hu : P.underlying dT = some (.slice elem)) (hs : (P.info? elem).map (·.size) = some k)
    (hg : w.heap[g]? = some (.cells cur t (0, 0))) (hn : cs.length = Nat.min sLen dLen * k)
    (hsrc : ∀ j v, cs[j]? = some v → w.cell? (a.add j) = some v) (hfit : o + cs.length ≤ cur.size) (h1 : ∀ v ∈ cs, v.oneCell' = true) :
    (Builtin.copy_ #[dT, sT] ty #[.slice (some ⟨g, o, none⟩) dLen dCap, .slice (some a) sLen sCap]).run P w =
      .ok (goInt (Nat.min sLen dLen)) (w.setRow g (splice cur.toList o cs).toArray) := by
  have hl := run_loadCells_list (P := P) w a cs hsrc
  have hst := run_storeCells_at P g o t cs 0 cur w hg (by simpa using hfit) h1
  cases hq : P.info? elem with
  | none => simp [hq] at hs
  | some i =>
    have hi : i.size = k := by simpa [hq] using hs
    rw [hn] at hl
    simp [Builtin.copy_, run_underlying hu, Builtin.lenOf, Builtin.firstCells, sizeOf, typeInfo, hq, hi, hl, hst, splice]
theorem wpList_copyE {P : Program} {w : World} {ops : Array Oper} {rest : List Oper} {o : Oper} {a : Act} {Q : Exit → Act → World → Prop} (hgd : o.guard = none) (d s : Operand) (dT sT : TypeId)
    (ho : o.op = .call { callee := .builtin .copy, args := #[d, s], argTypes := #[dT, sT] }) (elem : TypeId) (hu : P.underlying dT = some (.slice elem)) (k : Nat) (hsz : (P.info? elem).map (·.size) = some k)
    (g off dLen dCap : Nat) (ad : Addr) (sLen sCap : Nat) (hd : a.eval d = .slice (some ⟨g, off, none⟩) dLen dCap) (hs : a.eval s = .slice (some ad) sLen sCap)
    (cur : List Value) (t : TypeId) (hg : w.heap[g]? = some (.cells cur.toArray t (0, 0))) (cs : List Value) (hn : cs.length = Nat.min sLen dLen * k)
    (hsrc : ∀ j v, cs[j]? = some v → w.cell? (ad.add j) = some v) (hfit : off + cs.length ≤ cur.length) (h1 : ∀ v ∈ cs, v.oneCell' = true) (B : Nat) (w0 : World) (hb : Below B w0 w) (hBg : B ≤ g)
    (h : ∀ w', Hid (w'.heap[g]? = some (.cells (splice cur off cs).toArray t (0, 0))) → Below B w0 w' → (∀ b, b ≠ g → w'.heap[b]? = w.heap[b]?) → wpList P ops Q rest (a.put o.dst (goInt (Nat.min sLen dLen))) w') :
    wpList P ops Q (o :: rest) a w := by
  refine wpList_plain hgd fun K hK => ?_
  have hrun := run_copyE (P := P) w dT sT o.type elem k g off dLen dCap ad sLen sCap cur.toArray t cs hu hsz hg hn hsrc (by simpa using hfit) h1
  unfold Oper.wp
  simp only [execOp, ho, resolve, invoke, builtin, Sem.run_bind, Sem.run_pure, Result.andThen_ok, List.map_toArray, List.map_cons, List.map_nil, hd, hs, hrun]
  exact hK _ _ (h _ (setRow_heap w g _ _ t _ hg) (_root_.Go.below_setRow hb hBg _) (fun b hne => setRow_other w g b _ hne))
theorem step_copyE {P : Program} {ops : Array Oper} {o : Oper} {a : Act} {w : World} {K : Act → World → Prop} {Q : Exit → Act → World → Prop} {E : Prop} (hgd : o.guard = none) (d s : Operand) (dT sT : TypeId)
    (ho : o.op = .call { callee := .builtin .copy, args := #[d, s], argTypes := #[dT, sT] }) (elem : TypeId) (hu : P.underlying dT = some (.slice elem)) (k : Nat) (hsz : (P.info? elem).map (·.size) = some k)
    (g off dLen dCap : Nat) (ad : Addr) (sLen sCap : Nat) (hd : a.eval d = .slice (some ⟨g, off, none⟩) dLen dCap) (hs : a.eval s = .slice (some ad) sLen sCap)
    (cur : List Value) (t : TypeId) (hg : w.heap[g]? = some (.cells cur.toArray t (0, 0))) (cs : List Value) (hn : cs.length = Nat.min sLen dLen * k)
    (hsrc : ∀ j v, cs[j]? = some v → w.cell? (ad.add j) = some v) (hfit : off + cs.length ≤ cur.length) (h1 : ∀ v ∈ cs, v.oneCell' = true) (B : Nat) (w0 : World) (hb : Below B w0 w) (hBg : B ≤ g)
    (h : ∀ w', Hid (w'.heap[g]? = some (.cells (splice cur off cs).toArray t (0, 0))) → Below B w0 w' → (∀ b, b ≠ g → w'.heap[b]? = w.heap[b]?) → K (a.put o.dst (goInt (Nat.min sLen dLen))) w') :
    if Region.wanted o (yielded ops a.tmps) = true then Oper.wp P o a w K Q else E := by
  have hw : Region.wanted o (yielded ops a.tmps) = true := by simp [Region.wanted, hgd]
  rw [if_pos hw]
  have hrun := run_copyE (P := P) w dT sT o.type elem k g off dLen dCap ad sLen sCap cur.toArray t cs hu hsz hg hn hsrc (by simpa using hfit) h1
  unfold Oper.wp
  simp only [execOp, ho, resolve, invoke, builtin, Sem.run_bind, Sem.run_pure, Result.andThen_ok, List.map_toArray, List.map_cons, List.map_nil, hd, hs, hrun]
  exact h _ (setRow_heap w g _ _ t _ hg) (_root_.Go.below_setRow hb hBg _) (fun b hne => setRow_other w g b _ hne)

section
variable {α : Type}
theorem take_splice (C D : List α) (o a : Nat) (h : a ≤ o) (ho : o ≤ C.length) : (splice C o D).take a = C.take a := by
  unfold splice
  rw [List.take_append_of_le_length (by rw [List.length_take]; omega), List.take_take, Nat.min_eq_left h]
theorem drop_splice (C D : List α) (o : Nat) (ho : o ≤ C.length) : (splice C o D).drop o = D ++ C.drop (o + D.length) := by
  unfold splice
  have h := List.length_take_of_le ho
  rw [List.drop_append, h, Nat.sub_self, List.drop_zero, List.drop_of_length_le (by omega), List.nil_append]
/-- What stands from a on goes m farther, and X comes there. -/
theorem shift_in (C D X : List α) (a m : Nat) (hX : X.length = m) (hC : a + m + D.length ≤ C.length) : (splice (splice C (a + m) D) a X).take (a + m + D.length) = C.take a ++ (X ++ D) := by
  obtain ⟨S, hS⟩ : ∃ S, splice C (a + m) D = S := ⟨_, rfl⟩
  have h1 : S.take a = C.take a := by rw [← hS]; exact take_splice C D _ _ (by omega) (by omega)
  have h2 : S.drop (a + m) = D ++ C.drop (a + m + D.length) := by rw [← hS]; exact drop_splice C D _ (by omega)
  rw [hS]
  unfold splice
  rw [hX, h1, h2]
  have hl : (C.take a).length = a := by rw [List.length_take]; omega
  rw [List.take_append, hl, List.take_of_length_le (by omega : (C.take a).length ≤ a + m + D.length), show a + m + D.length - a = m + D.length by omega]
  rw [List.take_append, hX, List.take_of_length_le (by omega : X.length ≤ m + D.length), show m + D.length - m = D.length by omega]
  rw [List.take_append_of_le_length (Nat.le_refl _), List.take_length]
/-- The same, X first. -/
theorem new_in (C D X : List α) (a m : Nat) (hX : X.length = m) (hC : a + m + D.length ≤ C.length) : (splice (splice C a X) (a + m) D).take (a + m + D.length) = C.take a ++ (X ++ D) := by
  obtain ⟨S, hS⟩ : ∃ S, splice C a X = S := ⟨_, rfl⟩
  have hl0 : S.length = C.length := by rw [← hS]; exact length_splice C a X (by omega)
  have hl : (C.take a).length = a := by rw [List.length_take]; omega
  have h1 : S.take (a + m) = C.take a ++ X := by
    rw [← hS]; unfold splice
    rw [List.take_append, hl, List.take_of_length_le (by omega : (C.take a).length ≤ a + m), show a + m - a = m by omega, List.take_append_of_le_length (by omega), List.take_of_length_le (by omega : X.length ≤ m)]
  rw [hS]
  have hl2 : (S.take (a + m)).length = a + m := by rw [List.length_take]; omega
  unfold splice
  rw [List.take_append, hl2, List.take_of_length_le (by omega : (S.take (a + m)).length ≤ a + m + D.length), show a + m + D.length - (a + m) = D.length by omega]
  rw [List.take_append_of_le_length (Nat.le_refl _), List.take_length, h1, List.append_assoc]
end
theorem gf_take (l : List Gf) (i : Nat) : (gfE.cells l).take (i * 5) = gfE.cells (l.take i) := by
  have h : gfE.cells l = gfE.cells (l.take i) ++ gfE.cells (l.drop i) := by rw [← El.cells_app, List.take_append_drop]
  have hl : (gfE.cells (l.take i)).length = (l.take i).length * 5 := El.cells_len _
  rw [List.length_take] at hl
  by_cases hi : i ≤ l.length
  · rw [Nat.min_eq_left hi] at hl
    rw [h, List.take_append_of_le_length (by omega), List.take_of_length_le (by omega)]
  · rw [List.take_of_length_le (by rw [show (gfE.cells l).length = l.length * 5 from El.cells_len _]; omega), List.take_of_length_le (by omega)]
theorem gf_in (l : List Gf) (i : Nat) (x : Gf) : gfE.cells (l.take i ++ [x] ++ l.drop i) = gfE.cells (l.take i) ++ (gfE.c x ++ gfE.cells (l.drop i)) := by
  rw [El.cells_app, El.cells_app, List.append_assoc]
  rw [show gfE.cells [x] = gfE.c x ++ [] from rfl, List.append_nil]

set_option maxRecDepth 100000 in
theorem cloneGf_any (A : Option Addr) (c : Nat) (l : List Gf) (w : World) (hl : l.length ≤ 1000) (hT : SlV gfE w A c l) :
    Calls Try.prog 59 #[.slice A l.length c] w fun e w' => ∃ v, e = .returned v ∧ gfE.Own w' w.heap.size v l ∧ Below w.heap.size w w' := by
  obtain ⟨hT, hz, hlc⟩ := hT
  have q : ∀ (w : World) (a : Option Addr) (n c n' c' : Nat), (binOp .eql 26 (.slice a n c) (.slice none n' c')).run Try.prog w = .ok (.bool a.isNone) w := fun w a n c n' c' => Lib.run_eql_slice_nil w _ _ a n c n' c' Try.underlying26
  cases A with
  | none =>
    obtain rfl := hT.none_nil
    obtain rfl := hz rfl
    go_enter Try.func59, Try.ntmps59
    go_wp2
    go_ret
    exact ⟨_, rfl, El.Own.nil (E := gfE) w w.heap.size, Below.refl _ _⟩
  | some a =>
    go_enter Try.func59, Try.ntmps59
    have hE := El.Own.empty (E := gfE) w w.heap.size (Nat.le_refl _)
    have hb0 := below_alloc (Below.refl w.heap.size w) (.cells #[] 57)
    go_wp2_with (at_builtin; refine El.wpList_app gfInn rfl _ _ rfl w.heap.size _ [] l rfl hE (some a) _ c rfl rfl (hT.below hb0) (fun e => by cases e) (by simp; omega) (by simp) ?_; intro v' w2 hown hg _)
    go_wp2
    go_ret
    exact ⟨v', rfl, hown, below_own hb0 hg (hE.rows)⟩

def idxG (l : List Gf) (d : Int) : Int := if cutG l d < l.length then (cutG l d : Int) else -1
set_option maxRecDepth 100000 in
set_option maxHeartbeats 2000000 in
theorem pMerge1_any (x : Gf) (n : Nat) (g : Gf) (w : World) (h : gfE.In w n g) : Calls Try.prog 61 #[.agg #[.int .i64 x.d, .int .i64 x.i, .int .i64 x.c, .int .i64 x.t, .string x.s], .pointer (some ⟨n, 0, none⟩)] w fun e w' => e = .returned (.bool (decide (g.d ≤ x.d))) ∧ Below w.heap.size w w' := by
  have hQ : gfE.In (w.alloc (.cells #[.int .i64 x.d, .int .i64 x.i, .int .i64 x.c, .int .i64 x.t, .string x.s] 57)) w.heap.size x := El.In.new (E := gfE) w x _ rfl
  have hB := below_alloc (Below.refl w.heap.size w) (.cells #[.int .i64 x.d, .int .i64 x.i, .int .i64 x.c, .int .i64 x.t, .string x.s] 57)
  have p0 := (gfIn5 (h.below hB)).1
  have q0 := (gfIn5 hQ).1
  clear hQ
  obtain ⟨bv, hbv⟩ : ∃ bv, decide (g.d ≤ x.d) = bv := ⟨_, rfl⟩
  rw [hbv]
  go_enter Try.func61, Try.ntmps61
  go_upto_region 1 with fail
  generalize w.alloc (.cells #[.int .i64 x.d, .int .i64 x.i, .int .i64 x.c, .int .i64 x.t, .string x.s] 57) = W at *
  obtain ⟨n2, hn2⟩ : ∃ n, w.heap.size = n := ⟨_, rfl⟩
  rw [hn2] at q0 ⊢
  clear hn2
  go_wp2_with fail
  go_ret
  exact ⟨rfl, hB⟩

set_option maxRecDepth 100000 in
set_option maxHeartbeats 2000000 in
theorem pMergeIdx_any (A : Option Addr) (cap : Nat) (l : List Gf) (n : Nat) (g : Gf) (w : World) (hl : l.length ≤ 1000) (h : gfE.In w n g) (hT : gfE.Sl w A l) :
    Calls Try.prog 60 #[.slice A l.length cap, .func (.func 61) #[] #[.pointer (some ⟨n, 0, none⟩)]] w fun e w' => e = .returned (.int .i64 (idxG l g.d)) ∧ Below w.heap.size w w' := by
  have HF := Lib.hid (fun (r : Gf) (wx : World) (hb : Below w.heap.size w wx) => pMerge1_any r n g wx (h.below hb))
  have HC0 := Lib.hid (Nat.zero_le (cutG l g.d))
  have hB := Below.refl w.heap.size w
  have HT := Lib.hid hT
  clear h hT
  go_enter Try.func60, Try.ntmps60
  go_wp2_with fail
  go_loopw [8] (fun y wr => ∃ k : Nat, k ≤ l.length ∧ y = .int .i64 k ∧ Hid (k ≤ cutG l g.d) ∧ Below w.heap.size w wr) (fun y _ => l.length - (intOf y).toNat)
  case atStart => exact ⟨0, Nat.zero_le _, rfl, HC0, hB⟩
  case round =>
    clear HC0 hB
    obtain ⟨k, hk, rfl, HK, hB⟩ := hrel
    by_cases hkl : k < l.length
    · obtain ⟨b, off, eA, hbw, hc⟩ := HT.out (by omega)
      have hx := gfIdxH (cap := cap) eA hkl
      have hat : gfE.At wr b (off + k * 5) l[k] := (hc k hkl).below hB hbw
      have HC := Lib.hid (HF.out l[k] wr hB)
      by_cases hd : g.d ≤ l[k].d
      · have HV := Lib.hid (show idxG l g.d = k by
          have e := cutG_here HK.out (Or.inr ⟨hkl, hd⟩)
          unfold idxG; rw [← e, if_pos hkl])
        rw [show decide (g.d ≤ l[k].d) = true from decide_eq_true hd] at HC
        generalize l[k] = x at *
        clear hc eA hd
        go_wp2_with (first | (refine El.load gfRow rfl _ rfl b (off + k * 5) rfl x hat #[.int .i64 x.d, .int .i64 x.i, .int .i64 x.c, .int .i64 x.t, .string x.s] rfl ?_) | (go_at_call 61; (with_reducible refine (HC.out).mono ?_); rintro e w1 ⟨rfl, hb1⟩))
        go_ret
        exact ⟨by rw [HV.out]; rfl, below_then hB hb1⟩
      · have HN := Lib.hid (cutG_next HK.out hkl (by omega))
        rw [show decide (g.d ≤ l[k].d) = false from decide_eq_false hd] at HC
        generalize l[k] = x at *
        clear hc eA hd
        go_wp2_with (first | (refine El.load gfRow rfl _ rfl b (off + k * 5) rfl x hat #[.int .i64 x.d, .int .i64 x.i, .int .i64 x.c, .int .i64 x.t, .string x.s] rfl ?_) | (go_at_call 61; (with_reducible refine (HC.out).mono ?_); rintro e w1 ⟨rfl, hb1⟩))
        exact ⟨⟨k + 1, by omega, by go_num, HN, below_then hB hb1⟩, by simp [intOf]; omega⟩
    · obtain rfl : k = l.length := by omega
      have HV := Lib.hid (show idxG l g.d = -1 by
        have e := cutG_here HK.out (Or.inl rfl)
        unfold idxG; rw [← e, if_neg (Nat.lt_irrefl _)])
      go_wp2_with fail
      go_ret
      exact ⟨by rw [HV.out]; rfl, hB⟩
end Go.Proofs.Ytnglpkfkepfkkaa
