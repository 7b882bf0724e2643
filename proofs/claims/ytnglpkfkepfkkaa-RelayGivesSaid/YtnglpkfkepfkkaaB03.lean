/- Texts laid one behind the other: Ab, Fe, Ek, Fv, Ie, Ig, Fh, Fi, Fm, Ac, Ae, Af, Ag, Zh, Aj. -/
import Derived.Test.YtnglpkfkepfkkaaB02
import Derived.Lib.QuietBelow
import Derived.BigQuiet
import Derived.Deep.CutRange
import Derived.Deep.QuietTactic
/- Relays' states in memory; what the program's functions shall answer (RelayCalls). -/
namespace Go.Proofs.Ytnglpkfkepfkkaa
open Go.RowKit Nam Cod Pln

/-- A list stays where a block is written that holds no such thing. -/
theorem SlV.keepRK {α : Type} {E : El α} {w w' : World} {A : Option Addr} {c : Nat} {l : List α} {b : Nat} (h : SlV E w A c l) (hno : ∀ off (h : 0 < l.length), ¬ E.At w b off l[0]) (hg : w.grownBy w' (some b)) : SlV E w' A c l := by
  refine ⟨fun h0 => ?_, h.2⟩
  obtain ⟨b1, off, e, hl, hc⟩ := h.1 h0
  have hne : b1 ≠ b := by
    rintro rfl
    exact hno _ h0 (hc 0 h0)
  exact ⟨b1, off, e, Nat.lt_of_lt_of_le hl hg.size, fun i hi => (hc i hi).grown hg (fun e => hne (Option.some.inj e))⟩
def kinE : El Kin where
  e := 69
  k := 4
  c x := [.int .i64 x.n, .int .i64 x.r, .int .i64 x.p, .int .i64 x.b]
  len _ := rfl
  one p u h := by
    simp only [List.mem_cons, List.not_mem_nil, or_false] at h
    rcases h with rfl | rfl | rfl | rfl <;> rfl
  pos := by decide
theorem kinRow : kinE.Row Try.prog := ⟨by kernel_rfl, _, Try.underlying69, rfl⟩
/-- A relay's state, and where its slices lie. -/
structure Rlw where
  node : Int
  boot : Int
  above : Int
  eA : Option Addr
  ec : Nat
  st : Sm
  qA : Option Addr
  qc : Nat
  q : Qu
  kA : Option Addr
  kc : Nat
  ks : List Kin
  rA : Option Addr
  rc : Nat
  rs : List Rp
  gA : Option Addr
  gc : Nat
  gs : List Gf
def Rlw.v (x : Rlw) : Rlv := ⟨x.node, x.boot, x.above, x.st, x.q, x.ks, x.rs, x.gs⟩
def Rlw.zero : Rlw := ⟨0, 0, 0, none, 0, zeroSm, none, 0, nilQu, none, 0, [], none, 0, [], none, 0, []⟩
def ryE : El Rlw where
  e := 48
  k := 26
  c x := [.int .i64 x.node, .int .i64 x.boot, .int .i64 x.above, .int .i64 x.st.s, .int .i64 x.st.t, .int .i64 x.st.p, .slice x.eA x.st.es.length x.ec, .int .i64 x.q.f, .int .i64 x.q.g, .slice x.qA x.q.os.length x.qc, .slice x.kA x.ks.length x.kc, .slice x.rA x.rs.length x.rc, .slice x.gA x.gs.length x.gc, .slice none 0 0, .slice none 0 0, .int .i64 0, .slice none 0 0, .slice none 0 0, .slice none 0 0, .slice none 0 0, .int .i64 0, .int .i64 0, .int .i64 0, .int .i64 0, .slice none 0 0, .int .i64 0]
  len _ := rfl
  one p u h := by
    simp only [List.mem_cons, List.not_mem_nil, or_false] at h
    rcases h with rfl | rfl | rfl | rfl | rfl | rfl | rfl | rfl | rfl | rfl | rfl | rfl | rfl | rfl | rfl | rfl | rfl | rfl | rfl | rfl | rfl | rfl | rfl | rfl | rfl | rfl <;> rfl
  pos := by decide
theorem ryRow : ryE.Row Try.prog := ⟨by kernel_rfl, _, Try.underlying48, rfl⟩
/-- Kids lie in a block of kids. -/
def KnT (w : World) (A : Option Addr) : Prop := ∀ a, A = some a → ∃ c, w.heap[a.block]? = some (.cells c 69 (0, 0))
theorem KnT.below {W w : World} {A : Option Addr} (h : KnT W A) (hb : Below W.heap.size W w) : KnT w A := fun a e => by
  obtain ⟨c, hc⟩ := h a e
  refine ⟨c, (hb.block _ ?_).trans hc⟩
  rcases Nat.lt_or_ge a.block W.heap.size with h1 | h1
  · exact h1
  · rw [Array.getElem?_eq_none h1] at hc; cases hc
theorem KnT.nil (w : World) : KnT w none := fun a e => by cases e
structure Rlw.ok (x : Rlw) (w : World) : Prop where
  e : SlV enE w x.eA x.ec x.st.es
  q : SlV opE w x.qA x.qc x.q.os
  k : SlV kinE w x.kA x.kc x.ks
  t : KnT w x.kA
  r : SlV rpE w x.rA x.rc x.rs
  g : SlV gfE w x.gA x.gc x.gs
theorem Rlw.ok.below {x : Rlw} {W w : World} (h : x.ok W) (hb : Below W.heap.size W w) : x.ok w := ⟨SlV.below h.e hb, SlV.below h.q hb, SlV.below h.k hb, h.t.below hb, SlV.below h.r hb, SlV.below h.g hb⟩
theorem Rlw.ok.zero (w : World) : Rlw.zero.ok w := ⟨SlV.nil _ _, SlV.nil _ _, SlV.nil _ _, KnT.nil w, SlV.nil _ _, SlV.nil _ _⟩
theorem ryE_cells (x : Rlw) : ∀ v ∈ ryE.c x, (∃ k, v = .int .i64 k) ∨ ∃ a m c, v = .slice a m c := by
  intro v hv
  simp only [ryE, List.mem_cons, List.not_mem_nil, or_false] at hv
  rcases hv with rfl | rfl | rfl | rfl | rfl | rfl | rfl | rfl | rfl | rfl | rfl | rfl | rfl | rfl | rfl | rfl | rfl | rfl | rfl | rfl | rfl | rfl | rfl | rfl | rfl | rfl <;> first | exact Or.inl ⟨_, rfl⟩ | exact Or.inr ⟨_, _, _, rfl⟩
theorem ryE_cell {w : World} {n i : Nat} {v : Value} {x : Rlw} (hZ : ryE.In w n x) (h : w.cell? ⟨n, i, none⟩ = some v) : (∃ k, v = .int .i64 k) ∨ ∃ a m c, v = .slice a m c := by
  rw [hZ.cell] at h
  exact ryE_cells x v (List.mem_of_getElem? h)
/-- Nine numbers in a row stand nowhere in a state. -/
theorem ryE_nine {w : World} {n off : Nat} {x : Rlw} {r : Rp} (hZ : ryE.In w n x) : ¬ rpE.At w n off r := fun ha => by
  have hI : ∀ j, j < 9 → ∃ k, (ryE.c x)[off + j]? = some (.int .i64 k) := fun j hj => by
    match j, hj with
    | 0, _ => exact ⟨_, (hZ.cell _).symm.trans (ha 0 _ rfl)⟩
    | 1, _ => exact ⟨_, (hZ.cell _).symm.trans (ha 1 _ rfl)⟩
    | 2, _ => exact ⟨_, (hZ.cell _).symm.trans (ha 2 _ rfl)⟩
    | 3, _ => exact ⟨_, (hZ.cell _).symm.trans (ha 3 _ rfl)⟩
    | 4, _ => exact ⟨_, (hZ.cell _).symm.trans (ha 4 _ rfl)⟩
    | 5, _ => exact ⟨_, (hZ.cell _).symm.trans (ha 5 _ rfl)⟩
    | 6, _ => exact ⟨_, (hZ.cell _).symm.trans (ha 6 _ rfl)⟩
    | 7, _ => exact ⟨_, (hZ.cell _).symm.trans (ha 7 _ rfl)⟩
    | 8, _ => exact ⟨_, (hZ.cell _).symm.trans (ha 8 _ rfl)⟩
  have hno : ∀ i, i = 6 ∨ i = 13 ∨ i = 19 ∨ i = 24 → ∀ k, (ryE.c x)[i]? ≠ some (.int .i64 k) := fun i hi k h => by
    rcases hi with rfl | rfl | rfl | rfl <;> (injection h with h; cases h)
  rcases Nat.lt_or_ge off 26 with h26 | h26
  · have hcase : (∃ j, j < 9 ∧ (off + j = 6 ∨ off + j = 13 ∨ off + j = 19 ∨ off + j = 24)) ∨ off = 25 := by
      rcases Nat.lt_or_ge off 7 with h | h
      · rcases Nat.lt_or_ge 6 (off + 9) with g | g
        · exact Or.inl ⟨6 - off, by omega, by omega⟩
        · omega
      · rcases Nat.lt_or_ge off 14 with h | h
        · exact Or.inl ⟨13 - off, by omega, by omega⟩
        · rcases Nat.lt_or_ge off 20 with h | h
          · exact Or.inl ⟨19 - off, by omega, by omega⟩
          · rcases Nat.lt_or_ge off 25 with h | h
            · exact Or.inl ⟨24 - off, by omega, by omega⟩
            · exact Or.inr (by omega)
    rcases hcase with ⟨j, hj, hc⟩ | rfl
    · obtain ⟨k, hk⟩ := hI j hj
      exact hno _ hc k hk
    · obtain ⟨k, hk⟩ := hI 1 (by omega)
      rw [List.getElem?_eq_none (by rw [ryE.len]; show 26 ≤ 25 + 1; omega)] at hk
      cases hk
  · obtain ⟨k, hk⟩ := hI 0 (by omega)
    rw [List.getElem?_eq_none (by rw [ryE.len]; show 26 ≤ off + 0; omega)] at hk
    cases hk
/-- A state's block is written: what another state's slices hold stays. -/
theorem Rlw.ok.keepB {w w' : World} {x z : Rlw} {n : Nat} (h : x.ok w) (hZ : ryE.In w n z) (hg : w.grownBy w' (some n)) : x.ok w' := by
  have ho : ∀ off y, ¬ opE.At w n off y := fun off y ha => by
    rcases ryE_cell hZ (ha 6 _ rfl) with ⟨_, h⟩ | ⟨_, _, _, h⟩ <;> cases h
  have he : ∀ off y, ¬ enE.At w n off y := fun off y ha => by
    rcases ryE_cell hZ (ha 9 _ rfl) with ⟨_, h⟩ | ⟨_, _, _, h⟩ <;> cases h
  have hgf : ∀ off y, ¬ gfE.At w n off y := fun off y ha => by
    rcases ryE_cell hZ (ha 4 _ rfl) with ⟨_, h⟩ | ⟨_, _, _, h⟩ <;> cases h
  have hne : ∀ a, x.kA = some a → a.block ≠ n := fun a e he => by
    obtain ⟨c, hc⟩ := h.t a e
    have hZ' : w.heap[n]? = some (.cells (ryE.c z).toArray 48 (0, 0)) := hZ
    rw [he, hZ'] at hc
    injection hc with hc
    injection hc with _ hc _
    exact absurd hc (by decide)
  refine ⟨h.e.keepRK (fun o _ => he o _) hg, h.q.keepRK (fun o _ => ho o _) hg, ⟨h.k.1.keep hg (fun a e e2 => hne a e (Option.some.inj e2)), h.k.2⟩, fun a e => ?_, h.r.keepRK (fun o _ => ryE_nine hZ) hg, h.g.keepRK (fun o _ => hgf o _) hg⟩
  obtain ⟨c, hc⟩ := h.t a e
  refine ⟨c, (hg.block _ ?_ (fun e2 => hne a e (Option.some.inj e2))).trans hc⟩
  rcases Nat.lt_or_ge a.block w.heap.size with h1 | h1
  · exact h1
  · rw [Array.getElem?_eq_none h1] at hc; cases hc
/-- A list of frames, each with its own lists. -/
structure FsV (w : World) (A : Option Addr) (c : Nat) (l : List Fw) : Prop where
  s : SlV frE w A c l
  o : ∀ f ∈ l, f.ok w
theorem FsV.below {W w : World} {A : Option Addr} {c : Nat} {l : List Fw} (h : FsV W A c l) (hb : Below W.heap.size W w) : FsV w A c l := ⟨SlV.below h.s hb, fun f hf => Fw.ok.below (h.o f hf) hb⟩
/-- What is asked of a frame that a relay takes: less than that it may be. -/
structure FrT (f : Fr) : Prop where
  six : (0 ≤ f.boot ∧ f.boot ≤ 1099511627776) ∧ (0 ≤ f.pos ∧ f.pos ≤ 1099511627776) ∧ (0 ≤ f.ack ∧ f.ack ≤ 1099511627776) ∧ (0 ≤ f.grant ∧ f.grant ≤ 1099511627776) ∧ (0 ≤ f.s ∧ f.s ≤ 1099511627776) ∧ (0 ≤ f.t ∧ f.t ≤ 1099511627776)
  es : ∀ x ∈ f.es, entB x = true
  e : 0 ≤ f.first ∧ f.first ≤ 1099511627776 ∧ 0 ≤ f.start ∧ f.start ≤ 1099511627776 ∧ f.os.length ≤ 64 ∧ f.es.length ≤ 64 ∧ f.rs.length ≤ 8 ∧ f.gs.length ≤ 8
theorem FrR.tk {f : Fr} (h : FrR f) : FrT f := ⟨fr_six h, h.es, by have := h.e; omega⟩
theorem reps_len (u : List Int) (k : Int) : ∀ (m l : List Rp), (m.foldl (repStep u k) l).length ≤ l.length + m.length
  | [], _ => Nat.le_refl _
  | r :: m, l => by
    have h1 : (repStep u k l r).length ≤ l.length + 1 := by
      unfold repStep
      split
      · exact mergeR_len l r
      · omega
    have h2 := reps_len u k m (repStep u k l r)
    rw [List.length_cons]
    show (m.foldl (repStep u k) (repStep u k l r)).length ≤ _
    omega
theorem gifs_len (u : List Int) (k : Int) : ∀ (m l : List Gf), (m.foldl (gifStep u k) l).length ≤ l.length + m.length
  | [], _ => Nat.le_refl _
  | r :: m, l => by
    have h1 : (gifStep u k l r).length ≤ l.length + 1 := by
      unfold gifStep
      split
      · exact mergeG_len l r
      · omega
    have h2 := gifs_len u k m (gifStep u k l r)
    rw [List.length_cons]
    show (m.foldl (gifStep u k) (gifStep u k l r)).length ≤ _
    omega
structure RelayCalls : Prop where
  kid : ∀ (x : Rlw) (d : Int) (w : World), x.ks.length ≤ 1000 → x.ok w → Calls Try.prog 14 #[.agg #[.int .i64 x.node, .int .i64 x.boot, .int .i64 x.above, .int .i64 x.st.s, .int .i64 x.st.t, .int .i64 x.st.p, .slice x.eA x.st.es.length x.ec, .int .i64 x.q.f, .int .i64 x.q.g, .slice x.qA x.q.os.length x.qc, .slice x.kA x.ks.length x.kc, .slice x.rA x.rs.length x.rc, .slice x.gA x.gs.length x.gc, .slice none 0 0, .slice none 0 0, .int .i64 0, .slice none 0 0, .slice none 0 0, .slice none 0 0, .slice none 0 0, .int .i64 0, .int .i64 0, .int .i64 0, .int .i64 0, .slice none 0 0, .int .i64 0], .int .i64 d] w fun e w' => e = .returned (.int .i64 (kidI x.ks d)) ∧ Below w.heap.size w w'
  new : ∀ (p : Pnw) (n : Int) (w : World), Pln.Right p.p → 0 ≤ n ∧ n < 12 → inE.Sl w p.A p.p.u → Calls Try.prog 8 #[.agg #[.slice p.A p.p.u.length p.c, .int .i64 p.p.q, .int .i64 p.p.r, .int .i64 p.p.b, .int .i64 p.p.l, .int .i64 p.p.w, .int .i64 p.p.c, .int .i64 p.p.k, .int .i64 p.p.i], .int .i64 n] w fun e w' => ∃ x : Rlw, e = .returned (.agg #[.int .i64 x.node, .int .i64 x.boot, .int .i64 x.above, .int .i64 x.st.s, .int .i64 x.st.t, .int .i64 x.st.p, .slice x.eA x.st.es.length x.ec, .int .i64 x.q.f, .int .i64 x.q.g, .slice x.qA x.q.os.length x.qc, .slice x.kA x.ks.length x.kc, .slice x.rA x.rs.length x.rc, .slice x.gA x.gs.length x.gc, .slice none 0 0, .slice none 0 0, .int .i64 0, .slice none 0 0, .slice none 0 0, .slice none 0 0, .slice none 0 0, .int .i64 0, .int .i64 0, .int .i64 0, .int .i64 0, .slice none 0 0, .int .i64 0]) ∧ x.ok w' ∧ x.v = newR19 p.p.u n ∧ Below w.heap.size w w'
  take : ∀ (p : Pnw) (x : Rlw) (f : Fw) (w : World) (up : Int) (n : Nat), Pln.Right p.p → n ≤ 60 → RlR p.p up n x.v → (∀ d, belowU p.p.u d x.node = true → (kindL p.p.u d = 3 ↔ d ≠ x.node)) → FrT f.x → f.x.s ≤ 1073741824 → inE.Sl w p.A p.p.u → x.ok w → f.ok w → Calls Try.prog 9 #[.agg #[.slice p.A p.p.u.length p.c, .int .i64 p.p.q, .int .i64 p.p.r, .int .i64 p.p.b, .int .i64 p.p.l, .int .i64 p.p.w, .int .i64 p.p.c, .int .i64 p.p.k, .int .i64 p.p.i], .agg #[.int .i64 x.node, .int .i64 x.boot, .int .i64 x.above, .int .i64 x.st.s, .int .i64 x.st.t, .int .i64 x.st.p, .slice x.eA x.st.es.length x.ec, .int .i64 x.q.f, .int .i64 x.q.g, .slice x.qA x.q.os.length x.qc, .slice x.kA x.ks.length x.kc, .slice x.rA x.rs.length x.rc, .slice x.gA x.gs.length x.gc, .slice none 0 0, .slice none 0 0, .int .i64 0, .slice none 0 0, .slice none 0 0, .slice none 0 0, .slice none 0 0, .int .i64 0, .int .i64 0, .int .i64 0, .int .i64 0, .slice none 0 0, .int .i64 0], .agg #[.int .i64 f.x.a, .int .i64 f.x.b, .int .i64 f.x.boot, .int .i64 f.x.first, .slice f.oA f.x.os.length f.oc, .int .i64 f.x.pos, .slice f.rA f.x.rs.length f.rc, .int .i64 f.x.start, .slice f.eA f.x.es.length f.ec, .int .i64 f.x.ack, .int .i64 f.x.grant, .int .i64 f.x.s, .int .i64 f.x.t, .slice f.gA f.x.gs.length f.gc]] w fun e w' => ∃ (z : Rlw) (m : Int), e = .returned (.tuple #[.agg #[.int .i64 z.node, .int .i64 z.boot, .int .i64 z.above, .int .i64 z.st.s, .int .i64 z.st.t, .int .i64 z.st.p, .slice z.eA z.st.es.length z.ec, .int .i64 z.q.f, .int .i64 z.q.g, .slice z.qA z.q.os.length z.qc, .slice z.kA z.ks.length z.kc, .slice z.rA z.rs.length z.rc, .slice z.gA z.gs.length z.gc, .slice none 0 0, .slice none 0 0, .int .i64 0, .slice none 0 0, .slice none 0 0, .slice none 0 0, .slice none 0 0, .int .i64 0, .int .i64 0, .int .i64 0, .int .i64 0, .slice none 0 0, .int .i64 0], .int .i64 m]) ∧ z.ok w' ∧ takeR p.p up x.v f.x = (z.v, m) ∧ Below w.heap.size w w'
  frames : ∀ (p : Pnw) (x : Rlw) (w : World) (up : Int) (n : Nat), Pln.Right p.p → n ≤ 60 → RlR p.p up n x.v → inE.Sl w p.A p.p.u → x.ok w → Calls Try.prog 11 #[.agg #[.slice p.A p.p.u.length p.c, .int .i64 p.p.q, .int .i64 p.p.r, .int .i64 p.p.b, .int .i64 p.p.l, .int .i64 p.p.w, .int .i64 p.p.c, .int .i64 p.p.k, .int .i64 p.p.i], .agg #[.int .i64 x.node, .int .i64 x.boot, .int .i64 x.above, .int .i64 x.st.s, .int .i64 x.st.t, .int .i64 x.st.p, .slice x.eA x.st.es.length x.ec, .int .i64 x.q.f, .int .i64 x.q.g, .slice x.qA x.q.os.length x.qc, .slice x.kA x.ks.length x.kc, .slice x.rA x.rs.length x.rc, .slice x.gA x.gs.length x.gc, .slice none 0 0, .slice none 0 0, .int .i64 0, .slice none 0 0, .slice none 0 0, .slice none 0 0, .slice none 0 0, .int .i64 0, .int .i64 0, .int .i64 0, .int .i64 0, .slice none 0 0, .int .i64 0]] w fun e w' => ∃ (A : Option Addr) (c : Nat) (l : List Fw), e = .returned (.slice A l.length c) ∧ FsV w' A c l ∧ l.map Fw.x = framesR p.p up x.v ∧ Below w.heap.size w w'
theorem ryIn {w : World} {b : Nat} {x : Rlw} (h : ryE.In w b x) : w.cell? ⟨b, 0, none⟩ = some (.int .i64 x.node) ∧ w.cell? ⟨b, 1, none⟩ = some (.int .i64 x.boot) ∧ w.cell? ⟨b, 2, none⟩ = some (.int .i64 x.above) ∧ w.cell? ⟨b, 3, none⟩ = some (.int .i64 x.st.s) ∧ w.cell? ⟨b, 4, none⟩ = some (.int .i64 x.st.t) ∧ w.cell? ⟨b, 5, none⟩ = some (.int .i64 x.st.p) ∧ w.cell? ⟨b, 6, none⟩ = some (.slice x.eA x.st.es.length x.ec) ∧ w.cell? ⟨b, 7, none⟩ = some (.int .i64 x.q.f) ∧ w.cell? ⟨b, 8, none⟩ = some (.int .i64 x.q.g) ∧ w.cell? ⟨b, 9, none⟩ = some (.slice x.qA x.q.os.length x.qc) ∧ w.cell? ⟨b, 10, none⟩ = some (.slice x.kA x.ks.length x.kc) ∧ w.cell? ⟨b, 11, none⟩ = some (.slice x.rA x.rs.length x.rc) ∧ w.cell? ⟨b, 12, none⟩ = some (.slice x.gA x.gs.length x.gc) :=
  ⟨h.cell 0, h.cell 1, h.cell 2, h.cell 3, h.cell 4, h.cell 5, h.cell 6, h.cell 7, h.cell 8, h.cell 9, h.cell 10, h.cell 11, h.cell 12⟩
end Go.Proofs.Ytnglpkfkepfkkaa

/- Of law 15: awake, given the program's calls. -/
namespace Go.Proofs.Ytnglpkfkepfkkaa
open Go.RowKit Nam Cod
theorem FrR.w {f : Fr} (h : FrR f) : FrW f where
  n := frL_i64 h
  os o ho := ⟨(opB_wide (h.os o ho)).1, Nat.le_trans (opB_wide (h.os o ho)).2.2.1 (by decide)⟩
  rs r hr := (rpB_iff.1 (h.rs r hr)).i64
  es e he := by
    have hb := h.es e he
    by_cases h1 : e.k = 1
    · obtain ⟨g1, g2, g3⟩ := entB_one hb h1
      exact ⟨⟨by unfold i64; omega, by unfold i64; omega, by unfold i64; omega, (opB_wide g3).1⟩, Nat.le_trans (opB_wide g3).2.2.1 (by decide)⟩
    · obtain ⟨g1, g2, g3⟩ := entB_two hb h1
      refine ⟨⟨by unfold i64; omega, by unfold i64; omega, by unfold i64; omega, ?_⟩, by rw [g3]; exact Nat.zero_le _⟩
      rw [g3]
      exact ⟨by unfold i64; decide, by unfold i64; decide, by unfold i64; decide, by unfold i64; decide, by unfold i64; decide, by unfold i64; decide⟩
  gs g hg := by
    have hb := h.gs g hg
    unfold gfB at hb
    rw [decide_eq_true_iff] at hb
    exact ⟨by unfold i64; omega, by unfold i64; omega, by unfold i64; omega, by unfold i64; omega, by omega⟩
  l := by have := h.e; omega
  z := Nat.le_trans (bodyF_le h) (by decide)
end Go.Proofs.Ytnglpkfkepfkkaa

/- Entries and counts among the arguments, opened. -/
namespace Go.Proofs.Ytnglpkfkepfkkaa
open Go.ChangeShapes Go.WideShapes Go.ChangeAt Go.RowKit Go.Deep Nam Cod

theorem cellsEn : Try.prog.cellsOf 67 = 10 := by kernel_rfl
set_option maxRecDepth 100000 in
theorem read_en {H : Type} {enc : TypeId × Value → H} {W : World} {base : Nat} {sp : Nat → Bool} {held : Bool} {fuel : Nat} {cs : List Value} {x : DataW H × List MemPlace}
    (h : DataW.trod enc Try.prog W base sp held fuel 67 cs = some x) : ∃ e : En, cs = enE.c e ∧ EnW e ∧ e.o.s.size ≤ maxLen := by
  obtain ⟨xs, n, _, _, hl, hlen, hf⟩ := DataW.trod_struct Try.underlying67 h
  have hl10 : cs.length = 10 := hl.trans cellsEn
  have hl4 : xs.length = 4 := hlen
  match cs, hl10, xs, hl4 with
  | [c0, c1, c2, c3, c4, c5, c6, c7, c8, c9], _, [y0, y1, y2, y3], _ =>
    have h0 := hf 0 _ rfl
    have h1 := hf 1 _ rfl
    have h2 := hf 2 _ rfl
    have h3 := hf 3 _ rfl
    simp [cells25, cells3] at h0 h1 h2 h3
    obtain ⟨k, e0, _, w0⟩ := DataW.trod_int Try.underlying3 h0
    obtain ⟨d, e1, _, w1⟩ := DataW.trod_int Try.underlying3 h1
    obtain ⟨i, e2, _, w2⟩ := DataW.trod_int Try.underlying3 h2
    obtain ⟨C, D, I, M, K, U, s, e3, w3, ws⟩ := read_op h3
    simp at e0 e1 e2 e3
    obtain ⟨e3, e4, e5, e6, e7, e8, e9⟩ := e3
    subst e0 e1 e2 e3 e4 e5 e6 e7 e8 e9
    have b0 := bounds_i64 w0
    have b1 := bounds_i64 w1
    have b2 := bounds_i64 w2
    have g0 : i64 k := by unfold i64; omega
    have g1 : i64 d := by unfold i64; omega
    have g2 : i64 i := by unfold i64; omega
    exact ⟨⟨k, d, i, ⟨C, D, I, M, K, U, s⟩⟩, rfl, ⟨g0, g1, g2, w3⟩, ws⟩
instance : Inhabited En := ⟨zeroEn⟩
instance : Inhabited Cn := ⟨zeroCn⟩
end Go.Proofs.Ytnglpkfkepfkkaa

/- Gifts and frames among the arguments. -/
namespace Go.Proofs.Ytnglpkfkepfkkaa
open Go.ChangeShapes Go.WideShapes Go.ChangeAt Go.RowKit Go.Deep Nam Cod

theorem cellsGf : Try.prog.cellsOf 57 = 5 := by kernel_rfl
set_option maxRecDepth 100000 in
theorem read_gf {H : Type} {enc : TypeId × Value → H} {W : World} {base : Nat} {sp : Nat → Bool} {held : Bool} {fuel : Nat} {cs : List Value} {x : DataW H × List MemPlace}
    (h : DataW.trod enc Try.prog W base sp held fuel 57 cs = some x) : ∃ g : Gf, cs = gfE.c g ∧ (i64 g.d ∧ i64 g.i ∧ i64 g.c ∧ i64 g.t) ∧ g.s.size ≤ maxLen := by
  obtain ⟨xs, n, _, _, hl, hlen, hf⟩ := DataW.trod_struct Try.underlying57 h
  have hl9 : cs.length = 5 := hl.trans cellsGf
  have hl4 : xs.length = 5 := hlen
  match cs, hl9, xs, hl4 with
  | [c0, c1, c2, c3, c4], _, [y0, y1, y2, y3, y4], _ =>
    have h0 := hf 0 _ rfl
    have h1 := hf 1 _ rfl
    have h2 := hf 2 _ rfl
    have h3 := hf 3 _ rfl
    have h4 := hf 4 _ rfl
    simp [cells3, cells9] at h0 h1 h2 h3 h4
    obtain ⟨n0, e0, _, w0⟩ := DataW.trod_int Try.underlying3 h0
    obtain ⟨n1, e1, _, w1⟩ := DataW.trod_int Try.underlying3 h1
    obtain ⟨n2, e2, _, w2⟩ := DataW.trod_int Try.underlying3 h2
    obtain ⟨n3, e3, _, w3⟩ := DataW.trod_int Try.underlying3 h3
    obtain ⟨s, e4, _, ws⟩ := DataW.trod_string Try.underlying9 h4
    simp at e0 e1 e2 e3 e4
    subst e0 e1 e2 e3 e4
    have b0 := bounds_i64 w0
    have b1 := bounds_i64 w1
    have b2 := bounds_i64 w2
    have b3 := bounds_i64 w3
    exact ⟨⟨n0, n1, n2, n3, s⟩, rfl, ⟨by unfold i64; omega, by unfold i64; omega, by unfold i64; omega, by unfold i64; omega⟩, ws⟩
end Go.Proofs.Ytnglpkfkepfkkaa

/- The document's Merge of reports. -/
namespace Go.Proofs.Ytnglpkfkepfkkaa
open Go.RowKit Cod

theorem cutR_next {l : List Rp} {d : Int} {k : Nat} (hk : k ≤ cutR l d) (h : k < l.length) (hd : l[k].d < d) : k + 1 ≤ cutR l d := by
  rcases Nat.lt_or_ge k (cutR l d) with h1 | h1
  · exact h1
  · obtain rfl : k = cutR l d := by omega
    exact absurd hd (cutR_at l d h)
theorem cutR_here {l : List Rp} {d : Int} {k : Nat} (hk : k ≤ cutR l d) (h : k = l.length ∨ ∃ h : k < l.length, d ≤ l[k].d) : k = cutR l d := by
  rcases Nat.lt_or_ge k (cutR l d) with h1 | h1
  · rcases h with h | ⟨h, h2⟩
    · have := cutR_le l d; omega
    · have := cutR_lt l d k h h1; omega
  · omega
def RpS (n : Nat) (r : Rp) (w : World) : Prop := w.cell? ⟨n, 0, none⟩ = some (.int .i64 r.d) ∧ w.cell? ⟨n, 1, none⟩ = some (.int .i64 r.i) ∧ w.cell? ⟨n, 2, none⟩ = some (.int .i64 r.b) ∧ w.cell? ⟨n, 3, none⟩ = some (.int .i64 r.t) ∧ w.cell? ⟨n, 4, none⟩ = some (.int .i64 r.m) ∧ w.cell? ⟨n, 5, none⟩ = some (.int .i64 r.p) ∧ w.cell? ⟨n, 6, none⟩ = some (.int .i64 r.c) ∧ w.cell? ⟨n, 7, none⟩ = some (.int .i64 r.s) ∧ w.cell? ⟨n, 8, none⟩ = some (.int .i64 r.k)

end Go.Proofs.Ytnglpkfkepfkkaa

/- Reports among the arguments, opened. -/
namespace Go.Proofs.Ytnglpkfkepfkkaa
open Go.ChangeShapes Go.WideShapes Go.ChangeAt Go.RowKit Go.Deep Cod

theorem cellsRp : Try.prog.cellsOf 59 = 9 := by kernel_rfl
set_option maxRecDepth 100000 in
theorem read_rp {H : Type} {enc : TypeId × Value → H} {W : World} {base : Nat} {sp : Nat → Bool} {held : Bool} {fuel : Nat} {cs : List Value} {x : DataW H × List MemPlace}
    (h : DataW.trod enc Try.prog W base sp held fuel 59 cs = some x) : ∃ r : Rp, cs = rpE.c r ∧ RpW r := by
  obtain ⟨xs, n, _, _, hl, hlen, hf⟩ := DataW.trod_struct Try.underlying59 h
  have hl9 : cs.length = 9 := hl.trans cellsRp
  have hl4 : xs.length = 9 := hlen
  match cs, hl9, xs, hl4 with
  | [c0, c1, c2, c3, c4, c5, c6, c7, c8], _, [y0, y1, y2, y3, y4, y5, y6, y7, y8], _ =>
    have h0 := hf 0 _ rfl
    have h1 := hf 1 _ rfl
    have h2 := hf 2 _ rfl
    have h3 := hf 3 _ rfl
    have h4 := hf 4 _ rfl
    have h5 := hf 5 _ rfl
    have h6 := hf 6 _ rfl
    have h7 := hf 7 _ rfl
    have h8 := hf 8 _ rfl
    simp [cells3] at h0 h1 h2 h3 h4 h5 h6 h7 h8
    obtain ⟨n0, e0, _, w0⟩ := DataW.trod_int Try.underlying3 h0
    obtain ⟨n1, e1, _, w1⟩ := DataW.trod_int Try.underlying3 h1
    obtain ⟨n2, e2, _, w2⟩ := DataW.trod_int Try.underlying3 h2
    obtain ⟨n3, e3, _, w3⟩ := DataW.trod_int Try.underlying3 h3
    obtain ⟨n4, e4, _, w4⟩ := DataW.trod_int Try.underlying3 h4
    obtain ⟨n5, e5, _, w5⟩ := DataW.trod_int Try.underlying3 h5
    obtain ⟨n6, e6, _, w6⟩ := DataW.trod_int Try.underlying3 h6
    obtain ⟨n7, e7, _, w7⟩ := DataW.trod_int Try.underlying3 h7
    obtain ⟨n8, e8, _, w8⟩ := DataW.trod_int Try.underlying3 h8
    simp at e0 e1 e2 e3 e4 e5 e6 e7 e8
    subst e0 e1 e2 e3 e4 e5 e6 e7 e8
    have b0 := bounds_i64 w0
    have b1 := bounds_i64 w1
    have b2 := bounds_i64 w2
    have b3 := bounds_i64 w3
    have b4 := bounds_i64 w4
    have b5 := bounds_i64 w5
    have b6 := bounds_i64 w6
    have b7 := bounds_i64 w7
    have b8 := bounds_i64 w8
    refine ⟨⟨n0, n1, n2, n3, n4, n5, n6, n7, n8⟩, rfl, fun n hn => ?_⟩
    simp only [rpL, List.mem_cons, List.not_mem_nil, or_false] at hn
    unfold i64
    rcases hn with rfl | rfl | rfl | rfl | rfl | rfl | rfl | rfl | rfl <;> omega
instance : Inhabited Rp := ⟨zeroRp⟩
end Go.Proofs.Ytnglpkfkepfkkaa

/- A frame among the arguments, opened; its lists have no more than a machine has room for. -/
namespace Go.Proofs.Ytnglpkfkepfkkaa
open Go.ChangeShapes Go.WideShapes Go.ChangeAt Go.RowKit Go.Deep Nam Cod

instance : Inhabited Gf := ⟨zeroGf⟩
theorem cellsFr : Try.prog.cellsOf 28 = 14 := by kernel_rfl
theorem cellsOpsF : Try.prog.cellsOf 23 = 1 := by kernel_rfl
theorem cellsRpsF : Try.prog.cellsOf 24 = 1 := by kernel_rfl
theorem cellsEnsF : Try.prog.cellsOf 25 = 1 := by kernel_rfl
theorem cellsGfsF : Try.prog.cellsOf 26 = 1 := by kernel_rfl
theorem slice_len {st e : TypeId} (hu : Try.prog.underlying st = some (.slice e)) (hb : 0 < Try.prog.bytesOf e) {H : Type} {enc : TypeId × Value → H} {W : World} {fuel : Nat} {A : Option Addr} {n c : Nat} {x : DataW H × List MemPlace}
    (h : DataW.trod enc Try.prog W 0 (fun _ => true) true fuel st [.slice A n c] = some x) (hw : (x.1.weights Try.prog st).all (· ≤ reachBytes) = true) : n ≤ reachBytes := by
  rcases DataW.trod_slice hu h with ⟨e1, _⟩ | ⟨a, len, cap, elems, rest, m, _, e1, e2, _, _, _, hlen, _⟩
  · simp at e1; rw [e1.2.1]; exact Nat.zero_le _
  · simp at e1
    obtain ⟨_, rfl, _⟩ := e1
    rw [e2] at hw
    simp only [DataW.weights, hu, List.all_cons, Bool.and_eq_true, decide_eq_true_iff, List.length_map] at hw
    have h1 := hw.1
    have h2 : elems.length * 1 ≤ (elems.length + rest.length) * Try.prog.bytesOf e := Nat.mul_le_mul (by omega) hb
    omega
structure FrN (x : Fr) : Prop where
  n : ∀ n ∈ frL x, i64 n
  os : ∀ o ∈ x.os, Wide o.C o.D o.I o.M o.K o.U ∧ o.s.size ≤ maxLen
  rs : ∀ r ∈ x.rs, RpW r
  es : ∀ e ∈ x.es, EnW e ∧ e.o.s.size ≤ maxLen
  gs : ∀ g ∈ x.gs, (i64 g.d ∧ i64 g.i ∧ i64 g.c ∧ i64 g.t) ∧ g.s.size ≤ maxLen
def FrLen (x : Fr) : Prop := x.os.length ≤ reachBytes ∧ x.rs.length ≤ reachBytes ∧ x.es.length ≤ reachBytes ∧ x.gs.length ≤ reachBytes
set_option maxRecDepth 100000 in
set_option maxHeartbeats 2000000 in
theorem read_fr {H : Type} {enc : TypeId × Value → H} {W : World} {fuel : Nat} {cs : List Value} {x : DataW H × List MemPlace}
    (h : DataW.trod enc Try.prog W 0 (fun _ => true) true fuel 28 cs = some x) (hw : (x.1.weights Try.prog 28).all (· ≤ reachBytes) = true) : ∃ y : Fw, cs = frE.c y ∧ y.ok W ∧ FrN y.x ∧ FrLen y.x := by
  obtain ⟨xs, n, _, hx, hl, hlen, hf⟩ := DataW.trod_struct Try.underlying28 h
  have hl14 : cs.length = 14 := hl.trans cellsFr
  have hl4 : xs.length = 14 := hlen
  match cs, hl14, xs, hl4 with
  | [c0, c1, c2, c3, c4, c5, c6, c7, c8, c9, c10, c11, c12, c13], _, [y0, y1, y2, y3, y4, y5, y6, y7, y8, y9, y10, y11, y12, y13], _ =>
    have h0 := hf 0 _ rfl
    have h1 := hf 1 _ rfl
    have h2 := hf 2 _ rfl
    have h3 := hf 3 _ rfl
    have h4 := hf 4 _ rfl
    have h5 := hf 5 _ rfl
    have h6 := hf 6 _ rfl
    have h7 := hf 7 _ rfl
    have h8 := hf 8 _ rfl
    have h9 := hf 9 _ rfl
    have h10 := hf 10 _ rfl
    have h11 := hf 11 _ rfl
    have h12 := hf 12 _ rfl
    have h13 := hf 13 _ rfl
    simp [cells3, cellsOpsF, cellsRpsF, cellsEnsF, cellsGfsF] at h0 h1 h2 h3 h4 h5 h6 h7 h8 h9 h10 h11 h12 h13
    obtain ⟨n0, e0, _, w0⟩ := DataW.trod_int Try.underlying3 h0
    obtain ⟨n1, e1, _, w1⟩ := DataW.trod_int Try.underlying3 h1
    obtain ⟨n2, e2, _, w2⟩ := DataW.trod_int Try.underlying3 h2
    obtain ⟨n3, e3, _, w3⟩ := DataW.trod_int Try.underlying3 h3
    obtain ⟨n5, e5, _, w5⟩ := DataW.trod_int Try.underlying3 h5
    obtain ⟨n7, e7, _, w7⟩ := DataW.trod_int Try.underlying3 h7
    obtain ⟨n9, e9, _, w9⟩ := DataW.trod_int Try.underlying3 h9
    obtain ⟨n10, e10, _, w10⟩ := DataW.trod_int Try.underlying3 h10
    obtain ⟨n11, e11, _, w11⟩ := DataW.trod_int Try.underlying3 h11
    obtain ⟨n12, e12, _, w12⟩ := DataW.trod_int Try.underlying3 h12
    obtain ⟨oA, oc, os, e4, v4, q4⟩ := open_cells opE (fun o => Wide o.C o.D o.I o.M o.K o.U ∧ o.s.size ≤ maxLen) Try.underlying23 cells25 (fun h => by
      obtain ⟨C, D, I, M, K, U, t, rfl, hw, ht⟩ := read_op h
      exact ⟨⟨C, D, I, M, K, U, t⟩, rfl, hw, ht⟩) h4
    obtain ⟨rA, rc, rs, e6, v6, q6⟩ := open_cells rpE RpW Try.underlying24 cellsRp (fun h => read_rp h) h6
    obtain ⟨eA, ec, es, e8, v8, q8⟩ := open_cells enE (fun e => EnW e ∧ e.o.s.size ≤ maxLen) Try.underlying25 cellsEn (fun h => read_en h) h8
    obtain ⟨gA, gc, gs, e13, v13, q13⟩ := open_cells gfE (fun g => (i64 g.d ∧ i64 g.i ∧ i64 g.c ∧ i64 g.t) ∧ g.s.size ≤ maxLen) Try.underlying26 cellsGf (fun h => read_gf h) h13
    simp at e0 e1 e2 e3 e4 e5 e6 e7 e8 e9 e10 e11 e12 e13
    subst e0 e1 e2 e3 e4 e5 e6 e7 e8 e9 e10 e11 e12 e13
    rw [hx] at hw
    simp only [DataW.weights, Try.underlying28, List.map_cons, List.map_nil, DataW.weightsEach, List.all_append, Bool.and_eq_true] at hw
    have k4 := hw.2.2.2.2.1
    have k6 := hw.2.2.2.2.2.2.1
    have k8 := hw.2.2.2.2.2.2.2.2.1
    have k13 := hw.2.2.2.2.2.2.2.2.2.2.2.2.2.1
    have g4 := slice_len Try.underlying23 (by decide +kernel) h4 k4
    have g6 := slice_len Try.underlying24 (by decide +kernel) h6 k6
    have g8 := slice_len Try.underlying25 (by decide +kernel) h8 k8
    have g13 := slice_len Try.underlying26 (by decide +kernel) h13 k13
    have b0 := bounds_i64 w0
    have b1 := bounds_i64 w1
    have b2 := bounds_i64 w2
    have b3 := bounds_i64 w3
    have b5 := bounds_i64 w5
    have b7 := bounds_i64 w7
    have b9 := bounds_i64 w9
    have b10 := bounds_i64 w10
    have b11 := bounds_i64 w11
    have b12 := bounds_i64 w12
    refine ⟨⟨oA, oc, rA, rc, eA, ec, gA, gc, ⟨n0, n1, n2, n3, n5, n7, n9, n10, n11, n12, os, rs, es, gs⟩⟩, rfl, ⟨v4, v6, v8, v13⟩, ⟨fun n hn => ?_, q4, q6, q8, q13⟩, g4, g6, g8, g13⟩
    simp only [frL, List.mem_cons, List.not_mem_nil, or_false] at hn
    unfold i64
    rcases hn with rfl | rfl | rfl | rfl | rfl | rfl | rfl | rfl | rfl | rfl <;> omega
set_option maxRecDepth 100000 in
theorem open_fr {H : Type} {enc : TypeId × Value → H} {W : World} {base : Nat} {v : Value} {d : DataW H} {ps : List MemPlace}
    (hv : Value.okWide Try.prog W .any base 28 v) (h : DataW.Trod enc Try.prog W 0 (fun _ => true) true 28 v d ps) (hw : (d.weights Try.prog 28).all (· ≤ reachBytes) = true) : ∃ y : Fw, v = .agg #[.int .i64 y.x.a, .int .i64 y.x.b, .int .i64 y.x.boot, .int .i64 y.x.first, .slice y.oA y.x.os.length y.oc, .int .i64 y.x.pos, .slice y.rA y.x.rs.length y.rc, .int .i64 y.x.start, .slice y.eA y.x.es.length y.ec, .int .i64 y.x.ack, .int .i64 y.x.grant, .int .i64 y.x.s, .int .i64 y.x.t, .slice y.gA y.x.gs.length y.gc] ∧ y.ok W ∧ FrN y.x ∧ FrLen y.x := by
  obtain ⟨cs, rfl, _⟩ := okWide_struct Try.underlying28 hv
  obtain ⟨fuel, hf⟩ := h
  obtain ⟨y, e, ho, hn, hl⟩ := read_fr hf hw
  refine ⟨y, ?_, ho, hn, hl⟩
  obtain ⟨l⟩ := cs
  simp [Value.cells] at e
  rw [e]
  rfl
end Go.Proofs.Ytnglpkfkepfkkaa

/- Of law 15: great: what isn't has little in it. -/
namespace Go.Proofs.Ytnglpkfkepfkkaa
open Go.RowKit Nam Cod

theorem opIdxF {A : Option Addr} {b off len cap k : Nat} (hA : A = some ⟨b, off, none⟩) (h : k < len) : ∀ w, (Instr.indexAt 23 (.slice A len cap) (.int .i64 k)).run Try.prog w = .ok (.pointer (some ⟨b, off + k * 7, none⟩)) w := fun w => by
  subst hA
  have h2 : (k : Int) < (len : Int) := by omega
  go_simp
theorem enIdxF {A : Option Addr} {b off len cap k : Nat} (hA : A = some ⟨b, off, none⟩) (h : k < len) : ∀ w, (Instr.indexAt 25 (.slice A len cap) (.int .i64 k)).run Try.prog w = .ok (.pointer (some ⟨b, off + k * 10, none⟩)) w := fun w => by
  subst hA
  have h2 : (k : Int) < (len : Int) := by omega
  go_simp
end Go.Proofs.Ytnglpkfkepfkkaa

/- The document's Right of frames. -/
namespace Go.Proofs.Ytnglpkfkepfkkaa
open Go.RowKit Nam Cod

theorem idx6 (f : Fr) (w : World) : ∀ k, k < 6 → (Instr.index 84 (.agg #[.int .i64 f.boot, .int .i64 f.pos, .int .i64 f.ack, .int .i64 f.grant, .int .i64 f.s, .int .i64 f.t]) (.int .i64 (k : Nat))).run Try.prog w = .ok (.int .i64 ((fr6 f).getD k 0)) w
  | 0, _ => by kernel_rfl
  | 1, _ => by kernel_rfl
  | 2, _ => by kernel_rfl
  | 3, _ => by kernel_rfl
  | 4, _ => by kernel_rfl
  | 5, _ => by kernel_rfl
  | k + 6, h => absurd h (by omega)
theorem frB_six {f : Fr} {k : Nat} (h : k < 6) (hn : cnt0 ((fr6 f).getD k 0) = false) : frB f = false := by
  have h1 : (fr6 f).all cnt0 = false := by
    rw [Bool.eq_false_iff]; intro ha
    rw [List.all_eq_true] at ha
    have := ha ((fr6 f).getD k 0) (by
      rw [List.getD_eq_getElem?_getD, List.getElem?_eq_getElem (by simpa [fr6] using h)]
      exact List.getElem_mem _)
    rw [hn] at this; cases this
  unfold frB
  rw [h1, Bool.false_and]
theorem fr6_all {f : Fr} (h : ∀ k, k < 6 → cnt0 ((fr6 f).getD k 0) = true) : (fr6 f).all cnt0 = true := by
  rw [List.all_eq_true]
  intro n hn
  obtain ⟨k, hk, rfl⟩ := List.getElem_of_mem hn
  have h2 : k < 6 := by simpa [fr6] using hk
  have := h k h2
  rw [List.getD_eq_getElem?_getD, List.getElem?_eq_getElem hk] at this
  exact this
theorem all_noF {α : Type} {p : α → Bool} {l : List α} {x : α} (hx : x ∈ l) (h : p x = false) : l.all p = false := by
  rw [Bool.eq_false_iff]; intro ha
  rw [List.all_eq_true] at ha
  have := ha x hx
  rw [h] at this; cases this
theorem all_toF {α : Type} {p : α → Bool} {l : List α} (h : ∀ j (hj : j < l.length), p l[j] = true) : l.all p = true := by
  rw [List.all_eq_true]
  intro x hx
  obtain ⟨j, hj, rfl⟩ := List.getElem_of_mem hx
  exact h j hj
theorem frB_os {f : Fr} (h : f.os.all okB = false) : frB f = false := by unfold frB; rw [h]; simp
theorem frB_es {f : Fr} (h : f.es.all entB = false) : frB f = false := by unfold frB; rw [h]; simp
theorem frB_rs {f : Fr} (h : f.rs.all rpB = false) : frB f = false := by unfold frB; rw [h]; simp
theorem frB_gs {f : Fr} (h : f.gs.all gfB = false) : frB f = false := by unfold frB; rw [h]; simp
theorem frB_end {f : Fr} (h0 : (fr6 f).all cnt0 = true) (h1 : f.os.all okB = true) (h2 : f.es.all entB = true) (h3 : f.rs.all rpB = true) (h4 : f.gs.all gfB = true) : frB f = frEnd f := by
  unfold frB; rw [h0, h1, h2, h3, h4]; simp

end Go.Proofs.Ytnglpkfkepfkkaa

/- The document's Right of frames, whatever they are. -/
namespace Go.Proofs.Ytnglpkfkepfkkaa
open Go.RowKit Nam Cod

set_option maxRecDepth 100000 in
set_option maxHeartbeats 2000000 in
theorem refRightGift_raw (g : Gf) (w : World) (hs : g.s.size ≤ 9223372036854775807) : Calls Try.prog 30 #[.agg #[.int .i64 g.d, .int .i64 g.i, .int .i64 g.c, .int .i64 g.t, .string g.s]] w fun e w' => e = .returned (.bool (gfB g)) ∧ Below w.heap.size w w' := by
  have hP : gfE.In (w.alloc (.cells #[.int .i64 g.d, .int .i64 g.i, .int .i64 g.c, .int .i64 g.t, .string g.s] 57)) w.heap.size g := El.In.new (E := gfE) w g _ rfl
  have hB := below_alloc (Below.refl w.heap.size w) (.cells #[.int .i64 g.d, .int .i64 g.i, .int .i64 g.c, .int .i64 g.t, .string g.s] 57)
  obtain ⟨p0, p1, p2, p3, p4⟩ := gfIn5 hP
  clear hP
  by_cases a0 : 0 ≤ g.d
  · have f0 : decide (0 ≤ g.d) = true := decide_eq_true a0
    by_cases a1 : g.d < 12
    · have f1 : decide (g.d < 12) = true := decide_eq_true a1
      by_cases a2 : 1 ≤ g.i
      · have f2 : decide (1 ≤ g.i) = true := decide_eq_true a2
        by_cases a3 : g.i ≤ 1099511627776
        · have f3 : decide (g.i ≤ 1099511627776) = true := decide_eq_true a3
          by_cases a4 : 0 ≤ g.c
          · have f4 : decide (0 ≤ g.c) = true := decide_eq_true a4
            by_cases a5 : g.c ≤ 1099511627776
            · have f5 : decide (g.c ≤ 1099511627776) = true := decide_eq_true a5
              by_cases a6 : 0 ≤ g.t
              · have f6 : decide (0 ≤ g.t) = true := decide_eq_true a6
                by_cases a7 : g.t ≤ 1099511627776
                · have f7 : decide (g.t ≤ 1099511627776) = true := decide_eq_true a7
                  by_cases a8 : (g.s.size : Int) ≤ 256
                  · have f8 : decide ((g.s.size : Int) ≤ 256) = true := decide_eq_true a8
                    have f9 : decide (g.s.size ≤ 256) = true := decide_eq_true (by omega)
                    have hv : gfB g = true := by unfold gfB; exact decide_eq_true (by omega)
                    rw [hv]
                    clear hv a0 a1 a2 a3 a4 a5 a6 a7 a8
                    go_enter Try.func30, Try.ntmps30
                    go_wp2_with fail
                    go_ret
                    exact ⟨rfl, hB⟩
                  · have f8 : decide ((g.s.size : Int) ≤ 256) = false := decide_eq_false a8
                    have f9 : decide (g.s.size ≤ 256) = false := decide_eq_false (by omega)
                    have hv : gfB g = false := by unfold gfB; exact decide_eq_false (by omega)
                    rw [hv]
                    clear hv a0 a1 a2 a3 a4 a5 a6 a7 a8
                    go_enter Try.func30, Try.ntmps30
                    go_wp2_with fail
                    go_ret
                    exact ⟨rfl, hB⟩
                · have f7 : decide (g.t ≤ 1099511627776) = false := decide_eq_false a7
                  have hv : gfB g = false := by unfold gfB; exact decide_eq_false (by omega)
                  rw [hv]
                  clear hv a0 a1 a2 a3 a4 a5 a6 a7
                  go_enter Try.func30, Try.ntmps30
                  go_wp2_with fail
                  go_ret
                  exact ⟨rfl, hB⟩
              · have f6 : decide (0 ≤ g.t) = false := decide_eq_false a6
                have hv : gfB g = false := by unfold gfB; exact decide_eq_false (by omega)
                rw [hv]
                clear hv a0 a1 a2 a3 a4 a5 a6
                go_enter Try.func30, Try.ntmps30
                go_wp2_with fail
                go_ret
                exact ⟨rfl, hB⟩
            · have f5 : decide (g.c ≤ 1099511627776) = false := decide_eq_false a5
              have hv : gfB g = false := by unfold gfB; exact decide_eq_false (by omega)
              rw [hv]
              clear hv a0 a1 a2 a3 a4 a5
              go_enter Try.func30, Try.ntmps30
              go_wp2_with fail
              go_ret
              exact ⟨rfl, hB⟩
          · have f4 : decide (0 ≤ g.c) = false := decide_eq_false a4
            have hv : gfB g = false := by unfold gfB; exact decide_eq_false (by omega)
            rw [hv]
            clear hv a0 a1 a2 a3 a4
            go_enter Try.func30, Try.ntmps30
            go_wp2_with fail
            go_ret
            exact ⟨rfl, hB⟩
        · have f3 : decide (g.i ≤ 1099511627776) = false := decide_eq_false a3
          have hv : gfB g = false := by unfold gfB; exact decide_eq_false (by omega)
          rw [hv]
          clear hv a0 a1 a2 a3
          go_enter Try.func30, Try.ntmps30
          go_wp2_with fail
          go_ret
          exact ⟨rfl, hB⟩
      · have f2 : decide (1 ≤ g.i) = false := decide_eq_false a2
        have hv : gfB g = false := by unfold gfB; exact decide_eq_false (by omega)
        rw [hv]
        clear hv a0 a1 a2
        go_enter Try.func30, Try.ntmps30
        go_wp2_with fail
        go_ret
        exact ⟨rfl, hB⟩
    · have f1 : decide (g.d < 12) = false := decide_eq_false a1
      have hv : gfB g = false := by unfold gfB; exact decide_eq_false (by omega)
      rw [hv]
      clear hv a0 a1
      go_enter Try.func30, Try.ntmps30
      go_wp2_with fail
      go_ret
      exact ⟨rfl, hB⟩
  · have f0 : decide (0 ≤ g.d) = false := decide_eq_false a0
    have hv : gfB g = false := by unfold gfB; exact decide_eq_false (by omega)
    rw [hv]
    clear hv a0
    go_enter Try.func30, Try.ntmps30
    go_wp2_with fail
    go_ret
    exact ⟨rfl, hB⟩


set_option maxRecDepth 100000 in
set_option maxHeartbeats 16000000 in
theorem refRight15_raw (y : Fw) (w : World) (hn : FrN y.x) (hlen : FrLen y.x) (hok : y.ok w) : Calls Try.prog 12 #[.agg #[.int .i64 y.x.a, .int .i64 y.x.b, .int .i64 y.x.boot, .int .i64 y.x.first, .slice y.oA y.x.os.length y.oc, .int .i64 y.x.pos, .slice y.rA y.x.rs.length y.rc, .int .i64 y.x.start, .slice y.eA y.x.es.length y.ec, .int .i64 y.x.ack, .int .i64 y.x.grant, .int .i64 y.x.s, .int .i64 y.x.t, .slice y.gA y.x.gs.length y.gc]] w fun e w' => e = .returned (.bool (frB y.x)) ∧ Below w.heap.size w w' := by
  have hP : frE.In (w.alloc (.cells #[.int .i64 y.x.a, .int .i64 y.x.b, .int .i64 y.x.boot, .int .i64 y.x.first, .slice y.oA y.x.os.length y.oc, .int .i64 y.x.pos, .slice y.rA y.x.rs.length y.rc, .int .i64 y.x.start, .slice y.eA y.x.es.length y.ec, .int .i64 y.x.ack, .int .i64 y.x.grant, .int .i64 y.x.s, .int .i64 y.x.t, .slice y.gA y.x.gs.length y.gc] 28)) w.heap.size y := El.In.new (E := frE) w y _ rfl
  have hB := below_alloc (Below.refl w.heap.size w) (.cells #[.int .i64 y.x.a, .int .i64 y.x.b, .int .i64 y.x.boot, .int .i64 y.x.first, .slice y.oA y.x.os.length y.oc, .int .i64 y.x.pos, .slice y.rA y.x.rs.length y.rc, .int .i64 y.x.start, .slice y.eA y.x.es.length y.ec, .int .i64 y.x.ack, .int .i64 y.x.grant, .int .i64 y.x.s, .int .i64 y.x.t, .slice y.gA y.x.gs.length y.gc] 28)
  have HOK := Lib.hid hok
  obtain ⟨l1, l2, l3, l4⟩ : y.x.os.length ≤ 140737488355328 ∧ y.x.rs.length ≤ 140737488355328 ∧ y.x.es.length ≤ 140737488355328 ∧ y.x.gs.length ≤ 140737488355328 := by
    obtain ⟨a, b, c, d⟩ := hlen
    unfold reachBytes at a b c d
    omega
  have HWO := Lib.hid (fun o (ho : o ∈ y.x.os) => (⟨(hn.os o ho).1, by have := (hn.os o ho).2; unfold maxLen at this; omega⟩ : Wide o.C o.D o.I o.M o.K o.U ∧ o.s.size ≤ 9223372036854775807))
  have HWE := Lib.hid (fun e (he : e ∈ y.x.es) => (⟨(hn.es e he).1, by have := (hn.es e he).2; unfold maxLen at this; omega⟩ : EnW e ∧ e.o.s.size ≤ 9223372036854775807))
  have HWG := Lib.hid hn.gs
  obtain ⟨bv, hbv⟩ : ∃ bv, frB y.x = bv := ⟨_, rfl⟩
  rw [hbv]
  have HV := Lib.hid hbv
  have HC0 := Lib.hid (fun (j : Nat) (hj : j < 0) => (absurd hj (Nat.not_lt_zero j) : cnt0 ((fr6 y.x).getD j 0) = true))
  clear hbv hn hlen hok
  go_enter Try.func12, Try.ntmps12
  go_upto_region 1 with fail
  generalize w.alloc (.cells #[.int .i64 y.x.a, .int .i64 y.x.b, .int .i64 y.x.boot, .int .i64 y.x.first, .slice y.oA y.x.os.length y.oc, .int .i64 y.x.pos, .slice y.rA y.x.rs.length y.rc, .int .i64 y.x.start, .slice y.eA y.x.es.length y.ec, .int .i64 y.x.ack, .int .i64 y.x.grant, .int .i64 y.x.s, .int .i64 y.x.t, .slice y.gA y.x.gs.length y.gc] 28) = W at *
  obtain ⟨n1, hn1⟩ : ∃ n, w.heap.size = n := ⟨_, rfl⟩
  rw [hn1] at hP ⊢
  clear hn1
  obtain ⟨p0, p1, p2, p3, p4, p5, p6, p7, p8, p9, p10, p11, p12, p13⟩ := frIn14 hP
  go_wp2_with fail
  clear p0 p1 p2 p3 p4 p5 p6 p7 p8 p9 p10 p11 p12 p13
  go_loopw [22] (fun i wr => ∃ k : Nat, k ≤ 6 ∧ i = .int .i64 k ∧ Hid (∀ j, j < k → cnt0 ((fr6 y.x).getD j 0) = true) ∧ W = wr) (fun i _ => 6 - (intOf i).toNat)
  case atStart => exact ⟨0, Nat.zero_le _, rfl, HC0, rfl⟩
  case round =>
    clear HC0
    obtain ⟨k, hk, rfl, HC, rfl⟩ := hrel
    by_cases hkl : k < 6
    · have hx := fun wx => idx6 y.x wx k hkl
      have HO := Lib.hid (frB_six (f := y.x) hkl)
      have HN := Lib.hid (fun (h : cnt0 ((fr6 y.x).getD k 0) = true) (j : Nat) (hj : j < k + 1) => (by
        by_cases e : j < k
        · exact HC.out j e
        · obtain rfl : j = k := by omega
          exact h : cnt0 ((fr6 y.x).getD j 0) = true))
      generalize (fr6 y.x).getD k 0 = n at *
      by_cases h0 : n < 0
      · have hv := HO.out (by unfold cnt0; exact decide_eq_false (by omega))
        obtain rfl : false = bv := hv.symm.trans HV.out
        have f1 : decide (n < 0) = true := decide_eq_true h0
        clear hv
        go_wp2_with fail
        go_ret
        exact ⟨rfl, hB⟩
      · have f1 : decide (n < 0) = false := decide_eq_false h0
        by_cases h1 : 1099511627776 < n
        · have hv := HO.out (by unfold cnt0; exact decide_eq_false (by omega))
          obtain rfl : false = bv := hv.symm.trans HV.out
          have f2 : decide (1099511627776 < n) = true := decide_eq_true h1
          clear hv
          go_wp2_with fail
          go_ret
          exact ⟨rfl, hB⟩
        · have f2 : decide (1099511627776 < n) = false := decide_eq_false h1
          have HN2 := Lib.hid (HN.out (by unfold cnt0; exact decide_eq_true (by omega)))
          go_wp2_with fail
          exact ⟨⟨k + 1, by omega, by go_num, HN2, by trivial⟩, by simp [intOf]; omega⟩
    · obtain rfl : k = 6 := by omega
      simp only [show ((6 : Nat) : Int) = (6 : Int) from rfl]
      have HSIX := Lib.hid (fr6_all HC.out)
      clear HC hk hkl
      have p4 := (frIn14 hP).2.2.2.2.1
      go_wp2_with fail
      have HA0 := Lib.hid (fun (j : Nat) (hj : j < 0) (h : j < y.x.os.length) => (absurd hj (Nat.not_lt_zero j) : okB y.x.os[j] = true))
      clear p4
      go_loopw [5] (fun i wr => ∃ k : Nat, k ≤ y.x.os.length ∧ i = .int .i64 k ∧ Hid (∀ j, j < k → ∀ h : j < y.x.os.length, okB y.x.os[j] = true) ∧ frE.In wr n1 y ∧ Below w.heap.size w wr) (fun i _ => y.x.os.length - (intOf i).toNat)
      case atStart => exact ⟨0, Nat.zero_le _, rfl, HA0, hP, hB⟩
      case round =>
        clear hP hB HA0
        obtain ⟨k, hk, rfl, HC, hP, hB⟩ := hrel
        have p4 := (frIn14 hP).2.2.2.2.1
        by_cases hkl : k < y.x.os.length
        · obtain ⟨b, off, eA, hbw, hc⟩ := HOK.out.o.1 (by omega)
          have hx := opIdxF (cap := y.oc) eA hkl
          have hat : opE.At wr b (off + k * 7) _ := (hc k hkl).below hB hbw
          have hxm : y.x.os[k] ∈ y.x.os := List.getElem_mem _
          have HO := Lib.hid (fun (h : okB y.x.os[k] = false) => frB_os (all_noF hxm h))
          have HN := Lib.hid (fun (h : okB y.x.os[k] = true) (j : Nat) (hj : j < k + 1) (h2 : j < y.x.os.length) => (by
            by_cases e : j < k
            · exact HC.out j e h2
            · obtain rfl : j = k := by omega
              exact h : okB y.x.os[j] = true))
          generalize y.x.os[k] = x at *
          have CI := Lib.hid (fun wx => (show Calls Try.prog 27 #[.agg #[.int .i64 x.C, .int .i64 x.D, .int .i64 x.I, .int .i64 x.M, .int .i64 x.K, .int .i64 x.U, .string x.s]] wx fun e w' => e = .returned (.bool (okB x)) ∧ Below wx.heap.size wx w' from opRef_mv x wx (by have := (HWO.out x hxm).2; omega)))
          clear hc eA hxm
          cases hb : okB x with
          | false =>
            rw [hb] at CI
            obtain rfl : false = bv := (HO.out hb).symm.trans HV.out
            clear hb HO HN
            go_wp2_with (first | (refine El.load opRow rfl _ rfl b (off + k * 7) rfl x hat #[.int .i64 x.C, .int .i64 x.D, .int .i64 x.I, .int .i64 x.M, .int .i64 x.K, .int .i64 x.U, .string x.s] rfl ?_) | fail)
            refine (CI.out _).mono ?_
            rintro e w2 ⟨rfl, hb2⟩
            go_wp2_with fail
            go_ret
            exact ⟨rfl, below_then hB hb2⟩
          | true =>
            rw [hb] at CI
            have HN2 := Lib.hid (HN.out hb)
            clear hb HO HN
            go_wp2_with (first | (refine El.load opRow rfl _ rfl b (off + k * 7) rfl x hat #[.int .i64 x.C, .int .i64 x.D, .int .i64 x.I, .int .i64 x.M, .int .i64 x.K, .int .i64 x.U, .string x.s] rfl ?_) | fail)
            refine (CI.out _).mono ?_
            rintro e w2 ⟨rfl, hb2⟩
            replace hP := hP.below hb2
            replace hB := below_then hB hb2
            clear hb2 CI hat p4
            go_wp2_with fail
            go_roundw
            case rel => exact ⟨k + 1, by omega, by go_num, HN2, hP, hB⟩
            case measure => simp [intOf]; omega
        · obtain rfl : k = y.x.os.length := by omega
          have HALL0 := Lib.hid (all_toF (p := okB) (l := y.x.os) fun j hj => HC.out j hj hj)
          clear HC hk hkl
          have p8 := (frIn14 hP).2.2.2.2.2.2.2.2.1
          go_wp2_with fail
          have HA1 := Lib.hid (fun (j : Nat) (hj : j < 0) (h : j < y.x.es.length) => (absurd hj (Nat.not_lt_zero j) : entB y.x.es[j] = true))
          clear p8
          go_loopw [6] (fun i wr => ∃ k : Nat, k ≤ y.x.es.length ∧ i = .int .i64 k ∧ Hid (∀ j, j < k → ∀ h : j < y.x.es.length, entB y.x.es[j] = true) ∧ frE.In wr n1 y ∧ Below w.heap.size w wr) (fun i _ => y.x.es.length - (intOf i).toNat)
          case atStart => exact ⟨0, Nat.zero_le _, rfl, HA1, hP, hB⟩
          case round =>
            clear hP hB HA1
            obtain ⟨k, hk, rfl, HC, hP, hB⟩ := hrel
            have p8 := (frIn14 hP).2.2.2.2.2.2.2.2.1
            by_cases hkl : k < y.x.es.length
            · obtain ⟨b, off, eA, hbw, hc⟩ := HOK.out.e.1 (by omega)
              have hx := enIdxF (cap := y.ec) eA hkl
              have hat : enE.At wr b (off + k * 10) _ := (hc k hkl).below hB hbw
              have hxm : y.x.es[k] ∈ y.x.es := List.getElem_mem _
              have HO := Lib.hid (fun (h : entB y.x.es[k] = false) => frB_es (all_noF hxm h))
              have HN := Lib.hid (fun (h : entB y.x.es[k] = true) (j : Nat) (hj : j < k + 1) (h2 : j < y.x.es.length) => (by
                by_cases e : j < k
                · exact HC.out j e h2
                · obtain rfl : j = k := by omega
                  exact h : entB y.x.es[j] = true))
              generalize y.x.es[k] = x at *
              have CI := Lib.hid (fun wx => (show Calls Try.prog 28 #[.agg #[.int .i64 x.k, .int .i64 x.d, .int .i64 x.i, .int .i64 x.o.C, .int .i64 x.o.D, .int .i64 x.o.I, .int .i64 x.o.M, .int .i64 x.o.K, .int .i64 x.o.U, .string x.o.s]] wx fun e w' => e = .returned (.bool (entB x)) ∧ Below wx.heap.size wx w' from refEntRight_any x wx (by have := (HWE.out x hxm).2; omega)))
              clear hc eA hxm
              cases hb : entB x with
              | false =>
                rw [hb] at CI
                obtain rfl : false = bv := (HO.out hb).symm.trans HV.out
                clear hb HO HN
                go_wp2_with (first | (refine El.load enRow rfl _ rfl b (off + k * 10) rfl x hat #[.int .i64 x.k, .int .i64 x.d, .int .i64 x.i, .int .i64 x.o.C, .int .i64 x.o.D, .int .i64 x.o.I, .int .i64 x.o.M, .int .i64 x.o.K, .int .i64 x.o.U, .string x.o.s] rfl ?_) | fail)
                refine (CI.out _).mono ?_
                rintro e w2 ⟨rfl, hb2⟩
                go_wp2_with fail
                go_ret
                exact ⟨rfl, below_then hB hb2⟩
              | true =>
                rw [hb] at CI
                have HN2 := Lib.hid (HN.out hb)
                clear hb HO HN
                go_wp2_with (first | (refine El.load enRow rfl _ rfl b (off + k * 10) rfl x hat #[.int .i64 x.k, .int .i64 x.d, .int .i64 x.i, .int .i64 x.o.C, .int .i64 x.o.D, .int .i64 x.o.I, .int .i64 x.o.M, .int .i64 x.o.K, .int .i64 x.o.U, .string x.o.s] rfl ?_) | fail)
                refine (CI.out _).mono ?_
                rintro e w2 ⟨rfl, hb2⟩
                replace hP := hP.below hb2
                replace hB := below_then hB hb2
                clear hb2 CI hat p8
                go_wp2_with fail
                go_roundw
                case rel => exact ⟨k + 1, by omega, by go_num, HN2, hP, hB⟩
                case measure => simp [intOf]; omega
            · obtain rfl : k = y.x.es.length := by omega
              have HALL1 := Lib.hid (all_toF (p := entB) (l := y.x.es) fun j hj => HC.out j hj hj)
              clear HC hk hkl
              have p6 := (frIn14 hP).2.2.2.2.2.2.1
              go_wp2_with fail
              have HA2 := Lib.hid (fun (j : Nat) (hj : j < 0) (h : j < y.x.rs.length) => (absurd hj (Nat.not_lt_zero j) : rpB y.x.rs[j] = true))
              clear p6
              go_loopw [7] (fun i wr => ∃ k : Nat, k ≤ y.x.rs.length ∧ i = .int .i64 k ∧ Hid (∀ j, j < k → ∀ h : j < y.x.rs.length, rpB y.x.rs[j] = true) ∧ frE.In wr n1 y ∧ Below w.heap.size w wr) (fun i _ => y.x.rs.length - (intOf i).toNat)
              case atStart => exact ⟨0, Nat.zero_le _, rfl, HA2, hP, hB⟩
              case round =>
                clear hP hB HA2
                obtain ⟨k, hk, rfl, HC, hP, hB⟩ := hrel
                have p6 := (frIn14 hP).2.2.2.2.2.2.1
                by_cases hkl : k < y.x.rs.length
                · obtain ⟨b, off, eA, hbw, hc⟩ := HOK.out.r.1 (by omega)
                  have hx := rpIdxH (cap := y.rc) eA hkl
                  have hat : rpE.At wr b (off + k * 9) _ := (hc k hkl).below hB hbw
                  have hxm : y.x.rs[k] ∈ y.x.rs := List.getElem_mem _
                  have HO := Lib.hid (fun (h : rpB y.x.rs[k] = false) => frB_rs (all_noF hxm h))
                  have HN := Lib.hid (fun (h : rpB y.x.rs[k] = true) (j : Nat) (hj : j < k + 1) (h2 : j < y.x.rs.length) => (by
                    by_cases e : j < k
                    · exact HC.out j e h2
                    · obtain rfl : j = k := by omega
                      exact h : rpB y.x.rs[j] = true))
                  generalize y.x.rs[k] = x at *
                  have CI := Lib.hid (fun wx => (show Calls Try.prog 29 #[.agg #[.int .i64 x.d, .int .i64 x.i, .int .i64 x.b, .int .i64 x.t, .int .i64 x.m, .int .i64 x.p, .int .i64 x.c, .int .i64 x.s, .int .i64 x.k]] wx fun e w' => e = .returned (.bool (rpB x)) ∧ Below wx.heap.size wx w' from refRpRight_any x wx))
                  clear hc eA hxm
                  cases hb : rpB x with
                  | false =>
                    rw [hb] at CI
                    obtain rfl : false = bv := (HO.out hb).symm.trans HV.out
                    clear hb HO HN
                    go_wp2_with (first | (refine El.load rpRow rfl _ rfl b (off + k * 9) rfl x hat #[.int .i64 x.d, .int .i64 x.i, .int .i64 x.b, .int .i64 x.t, .int .i64 x.m, .int .i64 x.p, .int .i64 x.c, .int .i64 x.s, .int .i64 x.k] rfl ?_) | fail)
                    refine (CI.out _).mono ?_
                    rintro e w2 ⟨rfl, hb2⟩
                    go_wp2_with fail
                    go_ret
                    exact ⟨rfl, below_then hB hb2⟩
                  | true =>
                    rw [hb] at CI
                    have HN2 := Lib.hid (HN.out hb)
                    clear hb HO HN
                    go_wp2_with (first | (refine El.load rpRow rfl _ rfl b (off + k * 9) rfl x hat #[.int .i64 x.d, .int .i64 x.i, .int .i64 x.b, .int .i64 x.t, .int .i64 x.m, .int .i64 x.p, .int .i64 x.c, .int .i64 x.s, .int .i64 x.k] rfl ?_) | fail)
                    refine (CI.out _).mono ?_
                    rintro e w2 ⟨rfl, hb2⟩
                    replace hP := hP.below hb2
                    replace hB := below_then hB hb2
                    clear hb2 CI hat p6
                    go_wp2_with fail
                    go_roundw
                    case rel => exact ⟨k + 1, by omega, by go_num, HN2, hP, hB⟩
                    case measure => simp [intOf]; omega
                · obtain rfl : k = y.x.rs.length := by omega
                  have HALL2 := Lib.hid (all_toF (p := rpB) (l := y.x.rs) fun j hj => HC.out j hj hj)
                  clear HC hk hkl
                  have p13 := (frIn14 hP).2.2.2.2.2.2.2.2.2.2.2.2.2
                  go_wp2_with fail
                  have HA3 := Lib.hid (fun (j : Nat) (hj : j < 0) (h : j < y.x.gs.length) => (absurd hj (Nat.not_lt_zero j) : gfB y.x.gs[j] = true))
                  clear p13
                  go_loopw [8] (fun i wr => ∃ k : Nat, k ≤ y.x.gs.length ∧ i = .int .i64 k ∧ Hid (∀ j, j < k → ∀ h : j < y.x.gs.length, gfB y.x.gs[j] = true) ∧ frE.In wr n1 y ∧ Below w.heap.size w wr) (fun i _ => y.x.gs.length - (intOf i).toNat)
                  case atStart => exact ⟨0, Nat.zero_le _, rfl, HA3, hP, hB⟩
                  case round =>
                    clear hP hB HA3
                    obtain ⟨k, hk, rfl, HC, hP, hB⟩ := hrel
                    have p13 := (frIn14 hP).2.2.2.2.2.2.2.2.2.2.2.2.2
                    by_cases hkl : k < y.x.gs.length
                    · obtain ⟨b, off, eA, hbw, hc⟩ := HOK.out.g.1 (by omega)
                      have hx := gfIdxH (cap := y.gc) eA hkl
                      have hat : gfE.At wr b (off + k * 5) _ := (hc k hkl).below hB hbw
                      have hxm : y.x.gs[k] ∈ y.x.gs := List.getElem_mem _
                      have HO := Lib.hid (fun (h : gfB y.x.gs[k] = false) => frB_gs (all_noF hxm h))
                      have HN := Lib.hid (fun (h : gfB y.x.gs[k] = true) (j : Nat) (hj : j < k + 1) (h2 : j < y.x.gs.length) => (by
                        by_cases e : j < k
                        · exact HC.out j e h2
                        · obtain rfl : j = k := by omega
                          exact h : gfB y.x.gs[j] = true))
                      generalize y.x.gs[k] = x at *
                      have CI := Lib.hid (fun wx => (show Calls Try.prog 30 #[.agg #[.int .i64 x.d, .int .i64 x.i, .int .i64 x.c, .int .i64 x.t, .string x.s]] wx fun e w' => e = .returned (.bool (gfB x)) ∧ Below wx.heap.size wx w' from refRightGift_raw x wx (by have := (HWG.out x hxm).2; unfold maxLen at this; omega)))
                      clear hc eA hxm
                      cases hb : gfB x with
                      | false =>
                        rw [hb] at CI
                        obtain rfl : false = bv := (HO.out hb).symm.trans HV.out
                        clear hb HO HN
                        go_wp2_with (first | (refine El.load gfRow rfl _ rfl b (off + k * 5) rfl x hat #[.int .i64 x.d, .int .i64 x.i, .int .i64 x.c, .int .i64 x.t, .string x.s] rfl ?_) | fail)
                        refine (CI.out _).mono ?_
                        rintro e w2 ⟨rfl, hb2⟩
                        go_wp2_with fail
                        go_ret
                        exact ⟨rfl, below_then hB hb2⟩
                      | true =>
                        rw [hb] at CI
                        have HN2 := Lib.hid (HN.out hb)
                        clear hb HO HN
                        go_wp2_with (first | (refine El.load gfRow rfl _ rfl b (off + k * 5) rfl x hat #[.int .i64 x.d, .int .i64 x.i, .int .i64 x.c, .int .i64 x.t, .string x.s] rfl ?_) | fail)
                        refine (CI.out _).mono ?_
                        rintro e w2 ⟨rfl, hb2⟩
                        replace hP := hP.below hb2
                        replace hB := below_then hB hb2
                        clear hb2 CI hat p13
                        go_wp2_with fail
                        go_roundw
                        case rel => exact ⟨k + 1, by omega, by go_num, HN2, hP, hB⟩
                        case measure => simp [intOf]; omega
                    · obtain rfl : k = y.x.gs.length := by omega
                      have HALL3 := Lib.hid (all_toF (p := gfB) (l := y.x.gs) fun j hj => HC.out j hj hj)
                      clear HC hk hkl p13
                      have HE := Lib.hid ((frB_end HSIX.out HALL0.out HALL1.out HALL2.out HALL3.out).symm.trans HV.out)
                      clear HSIX HALL0 HALL1 HALL2 HALL3 HOK HWO HWE HWG
                      obtain ⟨p0, p1, p2, p3, p4, p5, p6, p7, p8, p9, p10, p11, p12, p13⟩ := frIn14 hP
                      by_cases a0 : 0 ≤ y.x.a
                      · skip
                        have f0 : decide (0 ≤ y.x.a) = true := decide_eq_true a0
                        by_cases a1 : y.x.a < 12
                        · skip
                          have f1 : decide (y.x.a < 12) = true := decide_eq_true a1
                          by_cases a2 : 0 ≤ y.x.b
                          · skip
                            have f2 : decide (0 ≤ y.x.b) = true := decide_eq_true a2
                            by_cases a3 : y.x.b < 12
                            · skip
                              have f3 : decide (y.x.b < 12) = true := decide_eq_true a3
                              by_cases a4 : 1 ≤ y.x.first
                              · skip
                                have f4 : decide (1 ≤ y.x.first) = true := decide_eq_true a4
                                by_cases a5 : y.x.first ≤ 1099511627776
                                · skip
                                  have f5 : decide (y.x.first ≤ 1099511627776) = true := decide_eq_true a5
                                  by_cases a6 : 1 ≤ y.x.start
                                  · skip
                                    have f6 : decide (1 ≤ y.x.start) = true := decide_eq_true a6
                                    by_cases a7 : y.x.start ≤ 1099511627776
                                    · skip
                                      have f7 : decide (y.x.start ≤ 1099511627776) = true := decide_eq_true a7
                                      by_cases a8 : y.x.os.length ≤ 64
                                      · skip
                                        have f8 : decide (y.x.os.length ≤ 64) = true := decide_eq_true a8
                                        have g8 : decide ((y.x.os.length : Int) ≤ 64) = true := decide_eq_true (by omega)
                                        by_cases a9 : y.x.es.length ≤ 64
                                        · skip
                                          have f9 : decide (y.x.es.length ≤ 64) = true := decide_eq_true a9
                                          have g9 : decide ((y.x.es.length : Int) ≤ 64) = true := decide_eq_true (by omega)
                                          by_cases a10 : y.x.rs.length ≤ 8
                                          · skip
                                            have f10 : decide (y.x.rs.length ≤ 8) = true := decide_eq_true a10
                                            have g10 : decide ((y.x.rs.length : Int) ≤ 8) = true := decide_eq_true (by omega)
                                            by_cases a11 : y.x.gs.length ≤ 8
                                            · skip
                                              have f11 : decide (y.x.gs.length ≤ 8) = true := decide_eq_true a11
                                              have g11 : decide ((y.x.gs.length : Int) ≤ 8) = true := decide_eq_true (by omega)
                                              have hv : frEnd y.x = true := by unfold frEnd; exact decide_eq_true (by omega)
                                              obtain rfl : true = bv := hv.symm.trans HE.out
                                              clear hv a0 a1 a2 a3 a4 a5 a6 a7 a8 a9 a10 a11
                                              go_wp2_with fail
                                              go_ret
                                              exact ⟨rfl, hB⟩
                                            · skip
                                              have f11 : decide (y.x.gs.length ≤ 8) = false := decide_eq_false a11
                                              have g11 : decide ((y.x.gs.length : Int) ≤ 8) = false := decide_eq_false (by omega)
                                              have hv : frEnd y.x = false := by unfold frEnd; exact decide_eq_false (by omega)
                                              obtain rfl : false = bv := hv.symm.trans HE.out
                                              clear hv a0 a1 a2 a3 a4 a5 a6 a7 a8 a9 a10 a11
                                              go_wp2_with fail
                                              go_ret
                                              exact ⟨rfl, hB⟩
                                          · skip
                                            have f10 : decide (y.x.rs.length ≤ 8) = false := decide_eq_false a10
                                            have g10 : decide ((y.x.rs.length : Int) ≤ 8) = false := decide_eq_false (by omega)
                                            have hv : frEnd y.x = false := by unfold frEnd; exact decide_eq_false (by omega)
                                            obtain rfl : false = bv := hv.symm.trans HE.out
                                            clear hv a0 a1 a2 a3 a4 a5 a6 a7 a8 a9 a10
                                            go_wp2_with fail
                                            go_ret
                                            exact ⟨rfl, hB⟩
                                        · skip
                                          have f9 : decide (y.x.es.length ≤ 64) = false := decide_eq_false a9
                                          have g9 : decide ((y.x.es.length : Int) ≤ 64) = false := decide_eq_false (by omega)
                                          have hv : frEnd y.x = false := by unfold frEnd; exact decide_eq_false (by omega)
                                          obtain rfl : false = bv := hv.symm.trans HE.out
                                          clear hv a0 a1 a2 a3 a4 a5 a6 a7 a8 a9
                                          go_wp2_with fail
                                          go_ret
                                          exact ⟨rfl, hB⟩
                                      · skip
                                        have f8 : decide (y.x.os.length ≤ 64) = false := decide_eq_false a8
                                        have g8 : decide ((y.x.os.length : Int) ≤ 64) = false := decide_eq_false (by omega)
                                        have hv : frEnd y.x = false := by unfold frEnd; exact decide_eq_false (by omega)
                                        obtain rfl : false = bv := hv.symm.trans HE.out
                                        clear hv a0 a1 a2 a3 a4 a5 a6 a7 a8
                                        go_wp2_with fail
                                        go_ret
                                        exact ⟨rfl, hB⟩
                                    · skip
                                      have f7 : decide (y.x.start ≤ 1099511627776) = false := decide_eq_false a7
                                      have hv : frEnd y.x = false := by unfold frEnd; exact decide_eq_false (by omega)
                                      obtain rfl : false = bv := hv.symm.trans HE.out
                                      clear hv a0 a1 a2 a3 a4 a5 a6 a7
                                      go_wp2_with fail
                                      go_ret
                                      exact ⟨rfl, hB⟩
                                  · skip
                                    have f6 : decide (1 ≤ y.x.start) = false := decide_eq_false a6
                                    have hv : frEnd y.x = false := by unfold frEnd; exact decide_eq_false (by omega)
                                    obtain rfl : false = bv := hv.symm.trans HE.out
                                    clear hv a0 a1 a2 a3 a4 a5 a6
                                    go_wp2_with fail
                                    go_ret
                                    exact ⟨rfl, hB⟩
                                · skip
                                  have f5 : decide (y.x.first ≤ 1099511627776) = false := decide_eq_false a5
                                  have hv : frEnd y.x = false := by unfold frEnd; exact decide_eq_false (by omega)
                                  obtain rfl : false = bv := hv.symm.trans HE.out
                                  clear hv a0 a1 a2 a3 a4 a5
                                  go_wp2_with fail
                                  go_ret
                                  exact ⟨rfl, hB⟩
                              · skip
                                have f4 : decide (1 ≤ y.x.first) = false := decide_eq_false a4
                                have hv : frEnd y.x = false := by unfold frEnd; exact decide_eq_false (by omega)
                                obtain rfl : false = bv := hv.symm.trans HE.out
                                clear hv a0 a1 a2 a3 a4
                                go_wp2_with fail
                                go_ret
                                exact ⟨rfl, hB⟩
                            · skip
                              have f3 : decide (y.x.b < 12) = false := decide_eq_false a3
                              have hv : frEnd y.x = false := by unfold frEnd; exact decide_eq_false (by omega)
                              obtain rfl : false = bv := hv.symm.trans HE.out
                              clear hv a0 a1 a2 a3
                              go_wp2_with fail
                              go_ret
                              exact ⟨rfl, hB⟩
                          · skip
                            have f2 : decide (0 ≤ y.x.b) = false := decide_eq_false a2
                            have hv : frEnd y.x = false := by unfold frEnd; exact decide_eq_false (by omega)
                            obtain rfl : false = bv := hv.symm.trans HE.out
                            clear hv a0 a1 a2
                            go_wp2_with fail
                            go_ret
                            exact ⟨rfl, hB⟩
                        · skip
                          have f1 : decide (y.x.a < 12) = false := decide_eq_false a1
                          have hv : frEnd y.x = false := by unfold frEnd; exact decide_eq_false (by omega)
                          obtain rfl : false = bv := hv.symm.trans HE.out
                          clear hv a0 a1
                          go_wp2_with fail
                          go_ret
                          exact ⟨rfl, hB⟩
                      · skip
                        have f0 : decide (0 ≤ y.x.a) = false := decide_eq_false a0
                        have hv : frEnd y.x = false := by unfold frEnd; exact decide_eq_false (by omega)
                        obtain rfl : false = bv := hv.symm.trans HE.out
                        clear hv a0
                        go_wp2_with fail
                        go_ret
                        exact ⟨rfl, hB⟩
end Go.Proofs.Ytnglpkfkepfkkaa

/- Of law 19: are frames few, and ones that may be? -/
namespace Go.Proofs.Ytnglpkfkepfkkaa
open Go.RowKit Nam Cod Pln

def fineB (l : List Fw) : Bool := decide (l.length ≤ 40) && l.all fun f => frB f.x && decide (f.x.s ≤ 1073741824)
set_option maxRecDepth 100000 in
set_option maxHeartbeats 4000000 in
theorem fine19_any (A : Option Addr) (c : Nat) (l : List Fw) (w : World) (hF : FsV w A c l) (hn : ∀ f ∈ l, FrN f.x ∧ FrLen f.x) :
    Calls Try.prog 5 #[.slice A l.length c] w fun e w' => e = .returned (.bool (fineB l)) ∧ Below w.heap.size w w' := by
  have HF := Lib.hid hF
  have HN := Lib.hid hn
  obtain ⟨bv, hbv⟩ : ∃ bv, fineB l = bv := ⟨_, rfl⟩
  rw [hbv]
  have HV := Lib.hid hbv
  clear hF hn hbv
  go_enter Try.func5, Try.ntmps5
  by_cases hl : 40 < l.length
  · have f1 : decide ((40 : Int) < (l.length : Int)) = true := decide_eq_true (by omega)
    have f2 : decide (40 < l.length) = true := decide_eq_true hl
    have HV2 := Lib.hid (show bv = false by rw [← HV.out]; unfold fineB; rw [decide_eq_false (by omega), Bool.false_and])
    clear hl
    go_wp2_with fail
    go_ret
    exact ⟨by rw [HV2.out]; rfl, Below.refl _ _⟩
  · have f1 : decide ((40 : Int) < (l.length : Int)) = false := decide_eq_false (by omega)
    have f2 : decide (40 < l.length) = false := decide_eq_false hl
    have hl40 : l.length ≤ 40 := by omega
    clear hl
    go_wp2_with fail
    go_loopw [3] (fun i wr => ∃ k : Nat, k ≤ l.length ∧ i = .int .i64 k ∧ Hid (∀ j (hj : j < k) (hk : k ≤ l.length), (frB (l[j]'(by omega)).x && decide ((l[j]'(by omega)).x.s ≤ 1073741824)) = true) ∧ Below w.heap.size w wr) (fun i _ => l.length - (intOf i).toNat)
    case atStart => exact ⟨0, Nat.zero_le _, rfl, Lib.hid (fun j hj => absurd hj (Nat.not_lt_zero j)), Below.refl _ _⟩
    case round =>
      obtain ⟨k, hk, rfl, HA, hB⟩ := hrel
      by_cases hkl : k < l.length
      · have f3 : decide ((k : Int) < (l.length : Int)) = true := decide_eq_true (by omega)
        have f4 : decide (k < l.length) = true := decide_eq_true hkl
        have hki : (k : Int) < (l.length : Int) := by omega
        obtain ⟨b, off, eA, hbw, hc⟩ := HF.out.s.1 (by omega)
        obtain ⟨f, hf⟩ : ∃ f, l[k] = f := ⟨_, rfl⟩
        have hat : frE.At wr b (off + k * 14) f := by
          have h : frE.At wr b (off + k * 14) l[k] := (hc k hkl).below hB hbw
          rw [hf] at h; exact h
        have hb2 : b < wr.heap.size := Nat.lt_of_lt_of_le hbw hB.size
        have HFK := Lib.hid hf
        have hm : f ∈ l := by rw [← hf]; exact List.getElem_mem hkl
        have CR := refRight15_raw f wr (HN.out f hm).1 (HN.out f hm).2 (Fw.ok.below (HF.out.o f hm) hB)
        clear hc hf hm
        obtain ⟨rb, hrb⟩ : ∃ rb, frB f.x = rb := ⟨_, rfl⟩
        rw [hrb] at CR
        have HRB := Lib.hid hrb
        clear hrb
        subst eA
        go_wp2_with (first | (refine El.load frRow rfl _ rfl b (off + k * 14) rfl f hat #[.int .i64 f.x.a, .int .i64 f.x.b, .int .i64 f.x.boot, .int .i64 f.x.first, .slice f.oA f.x.os.length f.oc, .int .i64 f.x.pos, .slice f.rA f.x.rs.length f.rc, .int .i64 f.x.start, .slice f.eA f.x.es.length f.ec, .int .i64 f.x.ack, .int .i64 f.x.grant, .int .i64 f.x.s, .int .i64 f.x.t, .slice f.gA f.x.gs.length f.gc] rfl ?_) | fail)
        refine CR.mono ?_
        rintro e w2 ⟨rfl, hb⟩
        replace hat := hat.below hb hb2
        replace hB := below_then hB hb
        clear hb CR
        have s11 : w2.cell? ⟨b, off + k * 14 + 11, none⟩ = some (.int .i64 f.x.s) := hat 11 _ rfl
        clear hat
        have HNO := Lib.hid (fun (h : (frB f.x && decide (f.x.s ≤ 1073741824)) = false) => (show bv = false by
          rw [← HV.out]; unfold fineB
          rw [Bool.and_eq_false_iff]
          right
          rw [Bool.eq_false_iff]
          intro ha
          rw [List.all_eq_true] at ha
          have := ha f (by rw [← HFK.out]; exact List.getElem_mem hkl)
          rw [h] at this; cases this))
        cases rb with
        | false =>
          have HV2 := Lib.hid (HNO.out (by rw [HRB.out, Bool.false_and]))
          skip
          go_wp2_with fail
          go_ret
          exact ⟨by rw [HV2.out]; rfl, hB⟩
        | true =>
          by_cases hs : (1073741824 : Int) < f.x.s
          · have f5 : decide ((1073741824 : Int) < f.x.s) = true := decide_eq_true hs
            have HV2 := Lib.hid (HNO.out (by rw [decide_eq_false (by omega), Bool.and_false]))
            clear hs
            go_wp2_with fail
            go_ret
            exact ⟨by rw [HV2.out]; rfl, hB⟩
          · have f5 : decide ((1073741824 : Int) < f.x.s) = false := decide_eq_false hs
            have HYES := Lib.hid (show (frB f.x && decide (f.x.s ≤ 1073741824)) = true by rw [HRB.out, decide_eq_true (by omega)]; rfl)
            clear hs
            go_wp2_with fail
            go_roundw
            case rel =>
              refine ⟨k + 1, by omega, by go_num, Lib.hid (fun j hj hk2 => ?_), hB⟩
              rcases Nat.lt_or_ge j k with h | h
              · exact HA.out j h (by omega)
              · obtain rfl : j = k := by omega
                rw [HFK.out]; exact HYES.out
            case measure => simp [intOf]; omega
      · obtain rfl : k = l.length := by omega
        have HV2 := Lib.hid (show bv = true by
          rw [← HV.out]; unfold fineB
          rw [decide_eq_true hl40, Bool.true_and, List.all_eq_true]
          intro f hf
          obtain ⟨j, hj, rfl⟩ := List.getElem_of_mem hf
          exact HA.out j hj (Nat.le_refl _))
        clear hkl hk
        go_wp2_with fail
        go_ret
        exact ⟨by rw [HV2.out]; rfl, hB⟩
end Go.Proofs.Ytnglpkfkepfkkaa

/- Of law 19: the same relays. -/
namespace Go.Proofs.Ytnglpkfkepfkkaa
open Go.ChangeShapes Go.WideShapes Go.ChangeAt Go.RowKit Go.Deep Nam Cod Pln

theorem El.quiet_loadK {α : Type} {E : El α} {P : Program} (R : El.Row E P) {C : World → Prop} {o : Oper} {a : Act} {K : Act → Prop} (x : Operand) (ho : o.op = .load E.e x) (b off : Nat) (hx : a.eval x = .pointer (some ⟨b, off, none⟩)) (p : α) (hg : ∀ w, C w → E.At w b off p) (cs : Array Value) (hc : cs = (E.c p).toArray) (h : K (a.put o.dst (.agg cs))) : o.quiet P a C K := by
  subst hc
  refine ⟨.agg (E.c p).toArray, fun w hw => ?_, h⟩
  unfold Oper.quietAt execOp
  simp only [ho, hx, Instr.loadAt, Instr.sureAddr, Sem.run_bind, Sem.run_pure, Result.andThen_ok, El.run_load R (hg w hw)]
  exact ⟨rfl, rfl⟩
theorem run_eqKn (w : World) (n r p b : Int) : (Op.equalIn 10000 69 (.agg #[.int .i64 n, .int .i64 r, .int .i64 p, .int .i64 b]) (.agg #[.int .i64 n, .int .i64 r, .int .i64 p, .int .i64 b])).run Try.prog w = .ok true w := by
  go_simp
theorem kinIdx {A : Option Addr} {b off len cap k : Nat} (hA : A = some ⟨b, off, none⟩) (h : k < len) : ∀ w, (Instr.indexAt 39 (.slice A len cap) (.int .i64 k)).run Try.prog w = .ok (.pointer (some ⟨b, off + k * 4, none⟩)) w := fun w => by
  subst hA
  have h2 : (k : Int) < (len : Int) := by omega
  go_simp
set_option maxRecDepth 100000 in
set_option maxHeartbeats 8000000 in
theorem same19_any (x z : Rlw) (w : World) (hx : x.ok w) (hz : z.ok w) (hv : x.v = z.v) (hl : x.ks.length ≤ 1000 ∧ x.st.es.length ≤ 50000 ∧ x.q.os.length ≤ 50000 ∧ x.rs.length ≤ 50000 ∧ x.gs.length ≤ 50000) :
    Calls Try.prog 10 #[.agg #[.int .i64 x.node, .int .i64 x.boot, .int .i64 x.above, .int .i64 x.st.s, .int .i64 x.st.t, .int .i64 x.st.p, .slice x.eA x.st.es.length x.ec, .int .i64 x.q.f, .int .i64 x.q.g, .slice x.qA x.q.os.length x.qc, .slice x.kA x.ks.length x.kc, .slice x.rA x.rs.length x.rc, .slice x.gA x.gs.length x.gc, .slice none 0 0, .slice none 0 0, .int .i64 0, .slice none 0 0, .slice none 0 0, .slice none 0 0, .slice none 0 0, .int .i64 0, .int .i64 0, .int .i64 0, .int .i64 0, .slice none 0 0, .int .i64 0], .agg #[.int .i64 z.node, .int .i64 z.boot, .int .i64 z.above, .int .i64 z.st.s, .int .i64 z.st.t, .int .i64 z.st.p, .slice z.eA z.st.es.length z.ec, .int .i64 z.q.f, .int .i64 z.q.g, .slice z.qA z.q.os.length z.qc, .slice z.kA z.ks.length z.kc, .slice z.rA z.rs.length z.rc, .slice z.gA z.gs.length z.gc, .slice none 0 0, .slice none 0 0, .int .i64 0, .slice none 0 0, .slice none 0 0, .slice none 0 0, .slice none 0 0, .int .i64 0, .int .i64 0, .int .i64 0, .int .i64 0, .slice none 0 0, .int .i64 0]] w fun e w' => e = .returned (.bool true) ∧ Below w.heap.size w w' := by
  have hX : ryE.In ((w.alloc (.cells #[.int .i64 x.node, .int .i64 x.boot, .int .i64 x.above, .int .i64 x.st.s, .int .i64 x.st.t, .int .i64 x.st.p, .slice x.eA x.st.es.length x.ec, .int .i64 x.q.f, .int .i64 x.q.g, .slice x.qA x.q.os.length x.qc, .slice x.kA x.ks.length x.kc, .slice x.rA x.rs.length x.rc, .slice x.gA x.gs.length x.gc, .slice none 0 0, .slice none 0 0, .int .i64 0, .slice none 0 0, .slice none 0 0, .slice none 0 0, .slice none 0 0, .int .i64 0, .int .i64 0, .int .i64 0, .int .i64 0, .slice none 0 0, .int .i64 0] 48)).alloc (.cells #[.int .i64 z.node, .int .i64 z.boot, .int .i64 z.above, .int .i64 z.st.s, .int .i64 z.st.t, .int .i64 z.st.p, .slice z.eA z.st.es.length z.ec, .int .i64 z.q.f, .int .i64 z.q.g, .slice z.qA z.q.os.length z.qc, .slice z.kA z.ks.length z.kc, .slice z.rA z.rs.length z.rc, .slice z.gA z.gs.length z.gc, .slice none 0 0, .slice none 0 0, .int .i64 0, .slice none 0 0, .slice none 0 0, .slice none 0 0, .slice none 0 0, .int .i64 0, .int .i64 0, .int .i64 0, .int .i64 0, .slice none 0 0, .int .i64 0] 48)) w.heap.size x := (El.In.new (E := ryE) w x _ rfl).alloc _
  have hZ : ryE.In ((w.alloc (.cells #[.int .i64 x.node, .int .i64 x.boot, .int .i64 x.above, .int .i64 x.st.s, .int .i64 x.st.t, .int .i64 x.st.p, .slice x.eA x.st.es.length x.ec, .int .i64 x.q.f, .int .i64 x.q.g, .slice x.qA x.q.os.length x.qc, .slice x.kA x.ks.length x.kc, .slice x.rA x.rs.length x.rc, .slice x.gA x.gs.length x.gc, .slice none 0 0, .slice none 0 0, .int .i64 0, .slice none 0 0, .slice none 0 0, .slice none 0 0, .slice none 0 0, .int .i64 0, .int .i64 0, .int .i64 0, .int .i64 0, .slice none 0 0, .int .i64 0] 48)).alloc (.cells #[.int .i64 z.node, .int .i64 z.boot, .int .i64 z.above, .int .i64 z.st.s, .int .i64 z.st.t, .int .i64 z.st.p, .slice z.eA z.st.es.length z.ec, .int .i64 z.q.f, .int .i64 z.q.g, .slice z.qA z.q.os.length z.qc, .slice z.kA z.ks.length z.kc, .slice z.rA z.rs.length z.rc, .slice z.gA z.gs.length z.gc, .slice none 0 0, .slice none 0 0, .int .i64 0, .slice none 0 0, .slice none 0 0, .slice none 0 0, .slice none 0 0, .int .i64 0, .int .i64 0, .int .i64 0, .int .i64 0, .slice none 0 0, .int .i64 0] 48)) (w.heap.size + 1) z := by
    have h := El.In.new (E := ryE) (w.alloc (.cells #[.int .i64 x.node, .int .i64 x.boot, .int .i64 x.above, .int .i64 x.st.s, .int .i64 x.st.t, .int .i64 x.st.p, .slice x.eA x.st.es.length x.ec, .int .i64 x.q.f, .int .i64 x.q.g, .slice x.qA x.q.os.length x.qc, .slice x.kA x.ks.length x.kc, .slice x.rA x.rs.length x.rc, .slice x.gA x.gs.length x.gc, .slice none 0 0, .slice none 0 0, .int .i64 0, .slice none 0 0, .slice none 0 0, .slice none 0 0, .slice none 0 0, .int .i64 0, .int .i64 0, .int .i64 0, .int .i64 0, .slice none 0 0, .int .i64 0] 48)) z #[.int .i64 z.node, .int .i64 z.boot, .int .i64 z.above, .int .i64 z.st.s, .int .i64 z.st.t, .int .i64 z.st.p, .slice z.eA z.st.es.length z.ec, .int .i64 z.q.f, .int .i64 z.q.g, .slice z.qA z.q.os.length z.qc, .slice z.kA z.ks.length z.kc, .slice z.rA z.rs.length z.rc, .slice z.gA z.gs.length z.gc, .slice none 0 0, .slice none 0 0, .int .i64 0, .slice none 0 0, .slice none 0 0, .slice none 0 0, .slice none 0 0, .int .i64 0, .int .i64 0, .int .i64 0, .int .i64 0, .slice none 0 0, .int .i64 0] rfl
    rw [alloc_size] at h; exact h
  have hB := below_alloc (below_alloc (Below.refl w.heap.size w) (.cells #[.int .i64 x.node, .int .i64 x.boot, .int .i64 x.above, .int .i64 x.st.s, .int .i64 x.st.t, .int .i64 x.st.p, .slice x.eA x.st.es.length x.ec, .int .i64 x.q.f, .int .i64 x.q.g, .slice x.qA x.q.os.length x.qc, .slice x.kA x.ks.length x.kc, .slice x.rA x.rs.length x.rc, .slice x.gA x.gs.length x.gc, .slice none 0 0, .slice none 0 0, .int .i64 0, .slice none 0 0, .slice none 0 0, .slice none 0 0, .slice none 0 0, .int .i64 0, .int .i64 0, .int .i64 0, .int .i64 0, .slice none 0 0, .int .i64 0] 48)) (.cells #[.int .i64 z.node, .int .i64 z.boot, .int .i64 z.above, .int .i64 z.st.s, .int .i64 z.st.t, .int .i64 z.st.p, .slice z.eA z.st.es.length z.ec, .int .i64 z.q.f, .int .i64 z.q.g, .slice z.qA z.q.os.length z.qc, .slice z.kA z.ks.length z.kc, .slice z.rA z.rs.length z.rc, .slice z.gA z.gs.length z.gc, .slice none 0 0, .slice none 0 0, .int .i64 0, .slice none 0 0, .slice none 0 0, .slice none 0 0, .slice none 0 0, .int .i64 0, .int .i64 0, .int .i64 0, .int .i64 0, .slice none 0 0, .int .i64 0] 48)
  have e0 : z.node = x.node := (congrArg Rlv.node hv).symm
  have e1 : z.boot = x.boot := (congrArg Rlv.boot hv).symm
  have e2 : z.above = x.above := (congrArg Rlv.above hv).symm
  have e3 : z.st = x.st := (congrArg Rlv.st hv).symm
  have e4 : z.q = x.q := (congrArg Rlv.q hv).symm
  have e5 : z.ks = x.ks := (congrArg Rlv.ks hv).symm
  have e6 : z.rs = x.rs := (congrArg Rlv.rs hv).symm
  have e7 : z.gs = x.gs := (congrArg Rlv.gs hv).symm
  obtain ⟨z1, z2, z3, _, z5, z6⟩ := hz
  rw [e3] at z1
  rw [e4] at z2
  rw [e5] at z3
  rw [e6] at z5
  rw [e7] at z6
  obtain ⟨l1, l2, l3, l4, l5⟩ := hl
  have HSM := Lib.hid (fun (wx : World) (h : Below w.heap.size w wx) => refSameSm_any ⟨x.eA, x.ec, x.st⟩ ⟨z.eA, z.ec, x.st⟩ wx rfl (SlV.below hx.e h) (SlV.below z1 h) (by show x.st.es.length ≤ 100000; omega))
  have HSQ := Lib.hid (fun (wx : World) (h : Below w.heap.size w wx) => refSameQu_any ⟨x.qA, x.qc, x.q⟩ ⟨z.qA, z.qc, x.q⟩ wx rfl (SlV.below hx.q h) (SlV.below z2 h) l3)
  have HSR := Lib.hid (fun (wx : World) (h : Below w.heap.size w wx) => refSameRp_any x.rA z.rA x.rc z.rc x.rs wx (SlV.below hx.r h).1 (SlV.below z5 h).1 (by omega))
  have HSG := Lib.hid (fun (wx : World) (h : Below w.heap.size w wx) => (by
    have h2 := sameGf_iff x.gA z.gA x.gc z.gc x.gs x.gs wx l5 l5 (SlV.below hx.g h).1 (SlV.below z6 h).1
    exact h2.mono (fun e w' ⟨b, h4, h5, h6⟩ => ⟨by rw [h4, h5.2 rfl], h6⟩) : Calls Try.prog 24 #[.slice x.gA x.gs.length x.gc, .slice z.gA x.gs.length z.gc] wx fun e w' => e = .returned (.bool true) ∧ Below wx.heap.size wx w'))
  have HKX := Lib.hid hx.k
  have HKZ := Lib.hid z3
  have HEE := Lib.hid (And.intro e0 (And.intro e1 (And.intro e2 (And.intro e3 (And.intro e4 (And.intro e5 (And.intro e6 e7)))))))
  clear e0 e1 e2 e3 e4 e5 e6 e7 z1 z2 z3 z5 z6 hv l2 l3 l4 l5 hx
  go_enter Try.func10, Try.ntmps10
  go_upto_region 1 with fail
  generalize (w.alloc (.cells #[.int .i64 x.node, .int .i64 x.boot, .int .i64 x.above, .int .i64 x.st.s, .int .i64 x.st.t, .int .i64 x.st.p, .slice x.eA x.st.es.length x.ec, .int .i64 x.q.f, .int .i64 x.q.g, .slice x.qA x.q.os.length x.qc, .slice x.kA x.ks.length x.kc, .slice x.rA x.rs.length x.rc, .slice x.gA x.gs.length x.gc, .slice none 0 0, .slice none 0 0, .int .i64 0, .slice none 0 0, .slice none 0 0, .slice none 0 0, .slice none 0 0, .int .i64 0, .int .i64 0, .int .i64 0, .int .i64 0, .slice none 0 0, .int .i64 0] 48)).alloc (.cells #[.int .i64 z.node, .int .i64 z.boot, .int .i64 z.above, .int .i64 z.st.s, .int .i64 z.st.t, .int .i64 z.st.p, .slice z.eA z.st.es.length z.ec, .int .i64 z.q.f, .int .i64 z.q.g, .slice z.qA z.q.os.length z.qc, .slice z.kA z.ks.length z.kc, .slice z.rA z.rs.length z.rc, .slice z.gA z.gs.length z.gc, .slice none 0 0, .slice none 0 0, .int .i64 0, .slice none 0 0, .slice none 0 0, .slice none 0 0, .slice none 0 0, .int .i64 0, .int .i64 0, .int .i64 0, .int .i64 0, .slice none 0 0, .int .i64 0] 48) = V at *
  obtain ⟨n3, h3⟩ : ∃ n, w.heap.size + 1 = n := ⟨_, rfl⟩
  obtain ⟨n2, h2⟩ : ∃ n, w.heap.size = n := ⟨_, rfl⟩
  rw [h3] at hZ ⊢
  rw [h2] at hX ⊢
  clear h2 h3
  have hZc := ryIn hZ
  obtain ⟨e0, e1, e2, e3, e4, e5, e6, e7⟩ := HEE.out
  simp only [e0, e1, e2, e3, e4, e5, e6, e7] at hZc
  clear e0 e1 e2 e3 e4 e5 e6 e7
  have hXc := ryIn hX
  obtain ⟨L, hL⟩ : ∃ L, x.ks = L := ⟨_, rfl⟩
  rw [hL] at hXc hZc HKX HKZ l1
  clear hL
  have HXC := Lib.hid hXc
  have HZC := Lib.hid hZc
  obtain ⟨gx0, gx1, gx2, gx3, gx4, gx5, gx6, gx7, gx8, gx9, gx10, gx11, gx12⟩ := hXc
  obtain ⟨gz0, gz1, gz2, gz3, gz4, gz5, gz6, gz7, gz8, gz9, gz10, gz11, gz12⟩ := hZc
  clear gx0 gx1 gx2 gx3 gx4 gx5 gx6 gx7 gx8 gx9 gx11 gx12 gz0 gz1 gz2 gz3 gz4 gz5 gz6 gz7 gz8 gz9 gz11 gz12
  go_wp2_with fail
  go_loopw [5] (fun i wr => ∃ k : Nat, k ≤ L.length ∧ i = .int .i64 k ∧ Below w.heap.size w wr ∧ Below V.heap.size V wr) (fun i _ => L.length - (intOf i).toNat)
  case atStart => exact ⟨0, Nat.zero_le _, rfl, hB, Below.refl _ _⟩
  case round =>
    clear hB
    obtain ⟨k, hk, rfl, hB, hBV⟩ := hrel
    replace gx10 : wr.cell? ⟨n2, 10, none⟩ = some (.slice x.kA L.length x.kc) := by rw [(bcell hBV).1 _ _ (block_lt_of_cell gx10)]; exact gx10
    replace gz10 : wr.cell? ⟨n3, 10, none⟩ = some (.slice z.kA L.length z.kc) := by rw [(bcell hBV).1 _ _ (block_lt_of_cell gz10)]; exact gz10
    by_cases hkl : k < L.length
    · have f1 : decide ((k : Int) < (L.length : Int)) = true := decide_eq_true (by omega)
      have f2 : decide (k < L.length) = true := decide_eq_true hkl
      obtain ⟨b1, o1, eA1, hb1, hc1⟩ := HKX.out.1 (by omega)
      obtain ⟨b2, o2, eA2, hb2, hc2⟩ := HKZ.out.1 (by omega)
      obtain ⟨kd, hkd⟩ : ∃ kd, L[k] = kd := ⟨_, rfl⟩
      have a1 : kinE.At wr b1 (o1 + k * 4) kd := by
        have h : kinE.At wr b1 (o1 + k * 4) L[k] := (hc1 k hkl).below hB hb1
        rw [hkd] at h; exact h
      have a2 : kinE.At wr b2 (o2 + k * 4) kd := by
        have h : kinE.At wr b2 (o2 + k * 4) L[k] := (hc2 k hkl).below hB hb2
        rw [hkd] at h; exact h
      have hw1 : b1 < wr.heap.size := Nat.lt_of_lt_of_le hb1 hB.size
      have hw2 : b2 < wr.heap.size := Nat.lt_of_lt_of_le hb2 hB.size
      have ix1 := kinIdx (cap := x.kc) eA1 hkl
      have ix2 := kinIdx (cap := z.kc) eA2 hkl
      clear hkd hc1 hc2
      go_upto_region 6 with fail
      have HA1 := Lib.hid (fun (w' : World) (h : ∃ p : Regrown, w' = Sort.grow (redrawn wr p.d) p.os) => (by obtain ⟨p, rfl⟩ := h; exact a1.below (below_regrown wr p.d p.os) hw1 : kinE.At w' b1 (o1 + k * 4) kd))
      have HA2 := Lib.hid (fun (w' : World) (h : ∃ p : Regrown, w' = Sort.grow (redrawn wr p.d) p.os) => (by obtain ⟨p, rfl⟩ := h; exact a2.below (below_regrown wr p.d p.os) hw2 : kinE.At w' b2 (o2 + k * 4) kd))
      have k1 := cell_regrown gx10
      have k2 := cell_regrown gz10
      have q := run_eqKn
      clear a1 a2 hw1 hw2
      refine wp_region_quiet_below (by kernel_rfl) (by as_aux_lemma => kernel_rfl) ?_
      repeat (first | (go_big_quiet_want; (first | (refine El.quiet_loadK kinRow (.tmp 23) rfl b1 (o1 + k * 4) rfl kd HA1.out #[.int .i64 kd.n, .int .i64 kd.r, .int .i64 kd.p, .int .i64 kd.b] rfl ?_) | (refine El.quiet_loadK kinRow (.tmp 28) rfl b2 (o2 + k * 4) rfl kd HA2.out #[.int .i64 kd.n, .int .i64 kd.r, .int .i64 kd.p, .int .i64 kd.b] rfl ?_)); go_big_quiet_on; try simp only [Act.put, List.setIfInBounds_toArray, List.set_cons_zero, List.set_cons_succ]) | go_big_quiet_step (fail))
      refine wpQuiet_nil ?_
      intro _ hw'
      obtain ⟨⟨dq, osq⟩, hw''⟩ := hw'
      subst hw''
      have HB2 := Lib.hid (below_then hB (below_regrown wr dq osq))
      have HB3 := Lib.hid (below_then hBV (below_regrown wr dq osq))
      clear hB hBV q k1 k2 ix1 ix2
      go_wp2_with fail
      go_roundw
      case rel => exact ⟨k + 1, by omega, by go_num, HB2.out, HB3.out⟩
      case measure => simp [intOf]; omega
    · obtain rfl : k = L.length := by omega
      replace hX := hX.below hBV
      replace hZ := hZ.below hBV
      clear hkl hk hBV
      obtain ⟨gx0, gx1, gx2, gx3, gx4, gx5, gx6, gx7, gx8, gx9, _, gx11, gx12⟩ := ryIn hX
      have hZc := ryIn hZ
      obtain ⟨e0, e1, e2, e3, e4, e5, e6, e7⟩ := HEE.out
      simp only [e0, e1, e2, e3, e4, e5, e6, e7] at hZc
      clear e0 e1 e2 e3 e4 e5 e6 e7
      obtain ⟨gz0, gz1, gz2, gz3, gz4, gz5, gz6, gz7, gz8, gz9, _, gz11, gz12⟩ := hZc
      go_wp2_with fail
      refine (HSM.out _ hB).mono ?_
      rintro e w5 ⟨rfl, hb5⟩
      replace hX := hX.below hb5
      replace hZ := hZ.below hb5
      replace hB := below_then hB hb5
      clear hb5 gx0 gx1 gx2 gx3 gx4 gx5 gx6 gx7 gx8 gx9 gx11 gx12 gz0 gz1 gz2 gz3 gz4 gz5 gz6 gz7 gz8 gz9 gz11 gz12
      obtain ⟨gx0, gx1, gx2, gx3, gx4, gx5, gx6, gx7, gx8, gx9, _, gx11, gx12⟩ := ryIn hX
      have hZc := ryIn hZ
      obtain ⟨e0, e1, e2, e3, e4, e5, e6, e7⟩ := HEE.out
      simp only [e0, e1, e2, e3, e4, e5, e6, e7] at hZc
      clear e0 e1 e2 e3 e4 e5 e6 e7
      obtain ⟨gz0, gz1, gz2, gz3, gz4, gz5, gz6, gz7, gz8, gz9, _, gz11, gz12⟩ := hZc
      go_wp2_with fail
      refine (HSQ.out _ hB).mono ?_
      rintro e w6 ⟨rfl, hb6⟩
      replace hX := hX.below hb6
      replace hZ := hZ.below hb6
      replace hB := below_then hB hb6
      clear hb6 gx0 gx1 gx2 gx3 gx4 gx5 gx6 gx7 gx8 gx9 gx11 gx12 gz0 gz1 gz2 gz3 gz4 gz5 gz6 gz7 gz8 gz9 gz11 gz12
      obtain ⟨gx0, gx1, gx2, gx3, gx4, gx5, gx6, gx7, gx8, gx9, _, gx11, gx12⟩ := ryIn hX
      have hZc := ryIn hZ
      obtain ⟨e0, e1, e2, e3, e4, e5, e6, e7⟩ := HEE.out
      simp only [e0, e1, e2, e3, e4, e5, e6, e7] at hZc
      clear e0 e1 e2 e3 e4 e5 e6 e7
      obtain ⟨gz0, gz1, gz2, gz3, gz4, gz5, gz6, gz7, gz8, gz9, _, gz11, gz12⟩ := hZc
      go_wp2_with fail
      refine (HSR.out _ hB).mono ?_
      rintro e w7 ⟨rfl, hb7⟩
      replace hX := hX.below hb7
      replace hZ := hZ.below hb7
      replace hB := below_then hB hb7
      clear hb7 gx0 gx1 gx2 gx3 gx4 gx5 gx6 gx7 gx8 gx9 gx11 gx12 gz0 gz1 gz2 gz3 gz4 gz5 gz6 gz7 gz8 gz9 gz11 gz12
      obtain ⟨gx0, gx1, gx2, gx3, gx4, gx5, gx6, gx7, gx8, gx9, _, gx11, gx12⟩ := ryIn hX
      have hZc := ryIn hZ
      obtain ⟨e0, e1, e2, e3, e4, e5, e6, e7⟩ := HEE.out
      simp only [e0, e1, e2, e3, e4, e5, e6, e7] at hZc
      clear e0 e1 e2 e3 e4 e5 e6 e7
      obtain ⟨gz0, gz1, gz2, gz3, gz4, gz5, gz6, gz7, gz8, gz9, _, gz11, gz12⟩ := hZc
      go_wp2_with fail
      refine (HSG.out _ hB).mono ?_
      rintro e w8 ⟨rfl, hb8⟩
      replace hX := hX.below hb8
      replace hZ := hZ.below hb8
      replace hB := below_then hB hb8
      clear hb8 gx0 gx1 gx2 gx3 gx4 gx5 gx6 gx7 gx8 gx9 gx11 gx12 gz0 gz1 gz2 gz3 gz4 gz5 gz6 gz7 gz8 gz9 gz11 gz12
      obtain ⟨gx0, gx1, gx2, gx3, gx4, gx5, gx6, gx7, gx8, gx9, _, gx11, gx12⟩ := ryIn hX
      have hZc := ryIn hZ
      obtain ⟨e0, e1, e2, e3, e4, e5, e6, e7⟩ := HEE.out
      simp only [e0, e1, e2, e3, e4, e5, e6, e7] at hZc
      clear e0 e1 e2 e3 e4 e5 e6 e7
      obtain ⟨gz0, gz1, gz2, gz3, gz4, gz5, gz6, gz7, gz8, gz9, _, gz11, gz12⟩ := hZc
      go_wp2_with fail
      go_ret
      exact ⟨rfl, hB⟩
end Go.Proofs.Ytnglpkfkepfkkaa

/- Of law 19: the plan, and what the calls answer over it. -/
namespace Go.Proofs.Ytnglpkfkepfkkaa
open Go.RowKit Nam Cod Pln

def P19 : Pn := ⟨[-1, 0, 1, 1], 2, 2, 2, 20, 2, 32, 4, 16⟩
def pl19 (m : Nat) : Pnw := ⟨some ⟨m, 0, none⟩, 4, P19⟩
theorem some19_any (w : World) : Calls Try.prog 7 #[] w fun e w' => ∃ n : Nat, e = .returned (.agg #[.slice (some ⟨n, 0, none⟩) 4 4, .int .i64 2, .int .i64 2, .int .i64 2, .int .i64 20, .int .i64 2, .int .i64 32, .int .i64 4, .int .i64 16]) ∧ inE.Sl w' (some ⟨n, 0, none⟩) [-1, 0, 1, 1] ∧ Below w.heap.size w w' := by
  go_enter Try.func7, Try.ntmps7
  have hP : pnE.In ((w.alloc (.cells #[.slice (some ⟨w.heap.size + 1, 0, none⟩) 4 4, .int .i64 2, .int .i64 2, .int .i64 2, .int .i64 20, .int .i64 2, .int .i64 32, .int .i64 4, .int .i64 16] 33)).alloc (.cells #[.int .i64 (-1), .int .i64 0, .int .i64 1, .int .i64 1] 3)) w.heap.size (pl19 (w.heap.size + 1)) := (El.In.new (E := pnE) w (pl19 (w.heap.size + 1)) #[.slice (some ⟨w.heap.size + 1, 0, none⟩) 4 4, .int .i64 2, .int .i64 2, .int .i64 2, .int .i64 20, .int .i64 2, .int .i64 32, .int .i64 4, .int .i64 16] rfl).alloc _
  have hT : inE.Sl ((w.alloc (.cells #[.slice (some ⟨w.heap.size + 1, 0, none⟩) 4 4, .int .i64 2, .int .i64 2, .int .i64 2, .int .i64 20, .int .i64 2, .int .i64 32, .int .i64 4, .int .i64 16] 33)).alloc (.cells #[.int .i64 (-1), .int .i64 0, .int .i64 1, .int .i64 1] 3)) (some ⟨w.heap.size + 1, 0, none⟩) [-1, 0, 1, 1] := by
    have h := El.Sl.row (E := inE) (w.alloc (.cells #[.slice (some ⟨w.heap.size + 1, 0, none⟩) 4 4, .int .i64 2, .int .i64 2, .int .i64 2, .int .i64 20, .int .i64 2, .int .i64 32, .int .i64 4, .int .i64 16] 33)) [-1, 0, 1, 1] #[.int .i64 (-1), .int .i64 0, .int .i64 1, .int .i64 1] rfl
    rw [alloc_size] at h; exact h
  have hB := below_alloc (below_alloc (Below.refl w.heap.size w) (.cells #[.slice (some ⟨w.heap.size + 1, 0, none⟩) 4 4, .int .i64 2, .int .i64 2, .int .i64 2, .int .i64 20, .int .i64 2, .int .i64 32, .int .i64 4, .int .i64 16] 33)) (.cells #[.int .i64 (-1), .int .i64 0, .int .i64 1, .int .i64 1] 3)
  go_wp2_with fail
  refine El.ret1 pnRow hP rfl rfl rfl _ rfl ?_
  exact ⟨_, rfl, hT, hB⟩
theorem ris_lenR (N : Nat) : ∀ (l : List Rp) (a : Nat), RisR l → (∀ r ∈ l, (a : Int) ≤ r.d) → (∀ r ∈ l, r.d < N) → a ≤ N → l.length ≤ N - a
  | [], _, _, _, _, _ => Nat.zero_le _
  | x :: l, a, h, h1, h2, ha => by
    have hx := h1 x (List.mem_cons_self ..)
    have hx2 := h2 x (List.mem_cons_self ..)
    have := ris_lenR N l (x.d.toNat + 1) h.2 (fun r hr => by have := h.1 r hr; omega) (fun r hr => h2 r (List.mem_cons_of_mem _ hr)) (by omega)
    rw [List.length_cons]; omega
theorem ris_lenG (N : Nat) : ∀ (l : List Gf) (a : Nat), RisG l → (∀ r ∈ l, (a : Int) ≤ r.d) → (∀ r ∈ l, r.d < N) → a ≤ N → l.length ≤ N - a
  | [], _, _, _, _, _ => Nat.zero_le _
  | x :: l, a, h, h1, h2, ha => by
    have hx := h1 x (List.mem_cons_self ..)
    have hx2 := h2 x (List.mem_cons_self ..)
    have := ris_lenG N l (x.d.toNat + 1) h.2 (fun r hr => by have := h.1 r hr; omega) (fun r hr => h2 r (List.mem_cons_of_mem _ hr)) (by omega)
    rw [List.length_cons]; omega
theorem P19_deepest : Pln.deepest P19.u = 2 := by rfl
theorem P19_r : Pln.Right P19 where
  n2 := by decide
  n12 := by decide
  up0 := by rfl
  par := fun i h0 hi => by
    have hi : i < 4 := hi
    match i, h0, hi with
    | 1, _, _ => decide
    | 2, _, _ => decide
    | 3, _, _ => decide
  deep := fun i hi => by
    have hi : i < 4 := hi
    match i, hi with
    | 0, _ => decide
    | 1, _ => decide
    | 2, _ => decide
    | 3, _ => decide
  kids := fun i hi => by
    have hi : i < 4 := hi
    match i, hi with
    | 0, _ => decide
    | 1, _ => decide
    | 2, _ => decide
    | 3, _ => decide
  devs := by decide
  q := by decide
  r := by decide
  b := by decide
  w := by decide
  c := by decide
  k := by decide
  i := by decide
  l := by rw [P19_deepest]; decide
theorem new19_r : RlR P19 0 0 (newR19 P19.u 1) := newR19_r ⟨by omega, rfl, by omega, by omega⟩
/-- What a relay of that plan has. -/
theorem few19 {n : Nat} {x : Rlv} (h : RlR P19 0 n x) : x.node = x.node ∧ x.ks.length ≤ 1000 ∧ x.st.es.length ≤ 50000 ∧ x.q.os.length ≤ 50000 ∧ x.rs.length ≤ 50000 ∧ x.gs.length ≤ 50000 := by
  refine ⟨rfl, ?_, ?_, ?_, ?_, ?_⟩
  · have h1 := congrArg List.length h.kn
    rw [List.length_map, List.length_map] at h1
    rw [h1]
    unfold kidsN
    refine Nat.le_trans (List.length_filter_le _ _) ?_
    rw [List.length_range]
    decide
  · have h1 := h.stl
    have h2 : winP P19 = 8 := by rfl
    rw [h2] at h1
    omega
  · have h1 := h.ql
    have h2 : P19.r = 2 := rfl
    rw [h2] at h1
    omega
  · have hr := h.rs
    have hd : ∀ r ∈ x.rs, 0 ≤ r.d ∧ r.d < 12 := fun r hr2 => by
      have h3 := (hr.2 r hr2).1
      unfold rpB at h3
      rw [Bool.and_eq_true, decide_eq_true_iff] at h3
      exact ⟨h3.1.1, h3.1.2.1⟩
    exact Nat.le_trans (ris_lenR 12 x.rs 0 hr.1 (fun r h => (hd r h).1) (fun r h => (hd r h).2) (by omega)) (by omega)
  · have hg := h.gs
    have hd : ∀ g ∈ x.gs, 0 ≤ g.d ∧ g.d < 12 := fun g hg2 => by
      have h3 := (hg.2 g hg2).1
      unfold gfB at h3
      rw [decide_eq_true_iff] at h3
      exact ⟨h3.1, h3.2.1⟩
    exact Nat.le_trans (ris_lenG 12 x.gs 0 hg.1 (fun g h => (hd g h).1) (fun g h => (hd g h).2) (by omega)) (by omega)
theorem node19 {n : Nat} {x : Rlv} (h : RlR P19 0 n x) : x.node = 1 := by
  obtain ⟨h0, h1, _, _⟩ := h.node
  obtain ⟨k, hk⟩ : ∃ k, x.node.toNat = k := ⟨_, rfl⟩
  rw [hk] at h1
  match k, h1 with
  | 0, h1 => cases h1
  | 1, _ => omega
  | 2, h1 => cases h1
  | 3, h1 => cases h1
  | k + 4, h1 => cases h1
theorem below19 {d : Int} (h : belowU P19.u d 1 = true) (h1 : d ≠ 1) : d = 2 ∨ d = 3 := by
  have hd : 0 ≤ d ∧ d < 4 := by
    unfold belowU belowF at h
    split at h
    · rename_i h2; exact h2
    · cases h
  have h0 : d ≠ 0 := by
    rintro rfl
    exact absurd h (by decide)
  omega
theorem kind19 {n : Nat} {x : Rlv} (h : RlR P19 0 n x) : ∀ d, belowU P19.u d x.node = true → (kindL P19.u d = 3 ↔ d ≠ x.node) := fun d hd => by
  rw [node19 h] at hd ⊢
  by_cases h1 : d = 1
  · subst h1
    exact ⟨fun e => absurd e (by decide), fun e => absurd rfl e⟩
  · rcases below19 hd h1 with rfl | rfl
    · exact ⟨fun _ => h1, fun _ => by rfl⟩
    · exact ⟨fun _ => h1, fun _ => by rfl⟩
theorem newAt19 (H : RelayCalls) (m : Nat) (w : World) (hT : inE.Sl w (some ⟨m, 0, none⟩) [-1, 0, 1, 1]) :
    Calls Try.prog 8 #[.agg #[.slice (some ⟨m, 0, none⟩) 4 4, .int .i64 2, .int .i64 2, .int .i64 2, .int .i64 20, .int .i64 2, .int .i64 32, .int .i64 4, .int .i64 16], .int .i64 1] w fun e w' => ∃ x : Rlw, e = .returned (.agg #[.int .i64 x.node, .int .i64 x.boot, .int .i64 x.above, .int .i64 x.st.s, .int .i64 x.st.t, .int .i64 x.st.p, .slice x.eA x.st.es.length x.ec, .int .i64 x.q.f, .int .i64 x.q.g, .slice x.qA x.q.os.length x.qc, .slice x.kA x.ks.length x.kc, .slice x.rA x.rs.length x.rc, .slice x.gA x.gs.length x.gc, .slice none 0 0, .slice none 0 0, .int .i64 0, .slice none 0 0, .slice none 0 0, .slice none 0 0, .slice none 0 0, .int .i64 0, .int .i64 0, .int .i64 0, .int .i64 0, .slice none 0 0, .int .i64 0]) ∧ x.ok w' ∧ x.v = newR19 P19.u 1 ∧ Below w.heap.size w w' :=
  H.new (pl19 m) 1 w P19_r (by omega) hT
theorem takeAt19 (H : RelayCalls) (m : Nat) (x : Rlw) (f : Fw) (w : World) (n : Nat) (hn : n ≤ 60) (hT : inE.Sl w (some ⟨m, 0, none⟩) [-1, 0, 1, 1]) (hx : x.ok w) (hf : f.ok w) {X : Rlv} (hv : x.v = X) (hr : RlR P19 0 n X) (hfr : FrT f.x) (hs : f.x.s ≤ 1073741824) {Z : Rlv} {k : Int} (he : takeR P19 0 X f.x = (Z, k)) :
    Calls Try.prog 9 #[.agg #[.slice (some ⟨m, 0, none⟩) 4 4, .int .i64 2, .int .i64 2, .int .i64 2, .int .i64 20, .int .i64 2, .int .i64 32, .int .i64 4, .int .i64 16], .agg #[.int .i64 x.node, .int .i64 x.boot, .int .i64 x.above, .int .i64 x.st.s, .int .i64 x.st.t, .int .i64 x.st.p, .slice x.eA x.st.es.length x.ec, .int .i64 x.q.f, .int .i64 x.q.g, .slice x.qA x.q.os.length x.qc, .slice x.kA x.ks.length x.kc, .slice x.rA x.rs.length x.rc, .slice x.gA x.gs.length x.gc, .slice none 0 0, .slice none 0 0, .int .i64 0, .slice none 0 0, .slice none 0 0, .slice none 0 0, .slice none 0 0, .int .i64 0, .int .i64 0, .int .i64 0, .int .i64 0, .slice none 0 0, .int .i64 0], .agg #[.int .i64 f.x.a, .int .i64 f.x.b, .int .i64 f.x.boot, .int .i64 f.x.first, .slice f.oA f.x.os.length f.oc, .int .i64 f.x.pos, .slice f.rA f.x.rs.length f.rc, .int .i64 f.x.start, .slice f.eA f.x.es.length f.ec, .int .i64 f.x.ack, .int .i64 f.x.grant, .int .i64 f.x.s, .int .i64 f.x.t, .slice f.gA f.x.gs.length f.gc]] w fun e w' => ∃ z : Rlw, e = .returned (.tuple #[.agg #[.int .i64 z.node, .int .i64 z.boot, .int .i64 z.above, .int .i64 z.st.s, .int .i64 z.st.t, .int .i64 z.st.p, .slice z.eA z.st.es.length z.ec, .int .i64 z.q.f, .int .i64 z.q.g, .slice z.qA z.q.os.length z.qc, .slice z.kA z.ks.length z.kc, .slice z.rA z.rs.length z.rc, .slice z.gA z.gs.length z.gc, .slice none 0 0, .slice none 0 0, .int .i64 0, .slice none 0 0, .slice none 0 0, .slice none 0 0, .slice none 0 0, .int .i64 0, .int .i64 0, .int .i64 0, .int .i64 0, .slice none 0 0, .int .i64 0], .int .i64 k]) ∧ z.ok w' ∧ z.v = Z ∧ Below w.heap.size w w' := by
  subst hv
  refine (H.take (pl19 m) x f w 0 n P19_r hn hr (kind19 hr) hfr hs hT hx hf).mono ?_
  rintro e w' ⟨z, k', rfl, hz, he', hb⟩
  have he2 : takeR P19 0 x.v f.x = (z.v, k') := he'
  rw [he] at he2
  injection he2 with h1 h2
  subst h2
  exact ⟨z, rfl, hz, h1.symm, hb⟩
/-- Behind so many frames. -/
def rlL (l : List Fw) : Rlv := l.foldl (fun x f => (takeR P19 0 x f.x).1) (newR19 P19.u 1)
theorem rlL_next {l : List Fw} {k : Nat} (h : k < l.length) : rlL (l.take (k + 1)) = (takeR P19 0 (rlL (l.take k)) l[k].x).1 := by
  unfold rlL
  rw [List.take_succ_eq_append_getElem h, List.foldl_append]; rfl
theorem rlL_r {l : List Fw} (hl : fineB l = true) : ∀ k, k ≤ l.length → RlR P19 0 k (rlL (l.take k))
  | 0, _ => new19_r
  | k + 1, hk => by
    unfold fineB at hl
    rw [Bool.and_eq_true, decide_eq_true_iff, List.all_eq_true] at hl
    have hf := hl.2 l[k] (List.getElem_mem hk)
    rw [Bool.and_eq_true, decide_eq_true_iff] at hf
    rw [rlL_next hk]
    exact takeR_r (rlL_r (by unfold fineB; rw [Bool.and_eq_true, decide_eq_true_iff, List.all_eq_true]; exact hl) k (by omega)) (by omega) (frB_iff.1 hf.1) hf.2
end Go.Proofs.Ytnglpkfkepfkkaa

/- How the program counts: depths and fans, node by node. No call in it. -/
namespace Pln

/-- A list of parents that may be. -/
structure Shp (u : List Int) : Prop where
  n2 : 2 ≤ u.length
  n12 : u.length ≤ 12
  up0 : u.getD 0 0 = -1
  par : Par u
theorem Right.shp {p : Pn} (h : Right p) : Shp p.u := ⟨h.n2, h.n12, h.up0, h.par⟩
theorem Shp.neg {u : List Int} (h : Shp u) : u.getD 0 0 < 0 := by rw [h.up0]; decide
/-- Of the first k nodes: those whose Up this is. -/
def kidsK (u : List Int) (k : Nat) (n : Int) : List Nat := (List.range k).filter fun i => decide (0 < i) && decide (u.getD i 0 = n)
theorem kidsK_all (u : List Int) (n : Int) : kidsK u u.length n = kidsN u n := rfl
theorem kidsK_le (u : List Int) (k : Nat) (n : Int) : (kidsK u k n).length ≤ k := by
  unfold kidsK
  exact Nat.le_trans (List.length_filter_le _ _) (by simp)
theorem kidsK_yes {u : List Int} {k : Nat} {n : Int} (h0 : 0 < k) (h : u.getD k 0 = n) : kidsK u (k + 1) n = kidsK u k n ++ [k] := by
  unfold kidsK
  rw [List.range_succ, List.filter_append, List.filter_cons, if_pos (by rw [Bool.and_eq_true, decide_eq_true_iff, decide_eq_true_iff]; exact ⟨h0, h⟩)]; rfl
theorem kidsK_no {u : List Int} {k : Nat} {n : Int} (h : ¬ (0 < k ∧ u.getD k 0 = n)) : kidsK u (k + 1) n = kidsK u k n := by
  unfold kidsK
  rw [List.range_succ, List.filter_append, List.filter_cons, if_neg (by rw [Bool.and_eq_true, decide_eq_true_iff, decide_eq_true_iff]; exact h)]
  simp
/-- How many kids among the first k each node has. -/
def fansL (u : List Int) (k : Nat) : List Int := (List.range u.length).map fun (j : Nat) => (((kidsK u k (j : Int)).length : Nat) : Int)
theorem fansL_len (u : List Int) (k : Nat) : (fansL u k).length = u.length := by unfold fansL; simp
theorem fansL_get {u : List Int} {k j : Nat} (h : j < (fansL u k).length) : (fansL u k)[j] = (((kidsK u k (j : Int)).length : Nat) : Int) := by simp only [fansL, List.getElem_map, List.getElem_range]
theorem fansL_start (u : List Int) : fansL u 0 = List.replicate u.length 0 := by
  apply List.ext_getElem
  · rw [fansL_len, List.length_replicate]
  · intro j h1 h2
    rw [fansL_get, List.getElem_replicate]; rfl
theorem fansL_zero (u : List Int) : fansL u 1 = fansL u 0 := by
  apply List.ext_getElem
  · rw [fansL_len, fansL_len]
  · intro j h1 h2
    rw [fansL_get, fansL_get, kidsK_no (k := 0) (by omega)]
theorem fansL_step {u : List Int} {i j : Nat} (h0 : 0 < i) (hj : u.getD i 0 = j) : (fansL u i).set j (((kidsK u i (j : Int)).length : Int) + 1) = fansL u (i + 1) := by
  apply List.ext_getElem
  · rw [List.length_set, fansL_len, fansL_len]
  · intro k h1 h2
    rw [List.getElem_set, fansL_get, fansL_get]
    by_cases e : j = k
    · subst e
      rw [if_pos rfl, kidsK_yes h0 hj, List.length_append, List.length_singleton]; omega
    · rw [if_neg e, kidsK_no (by omega)]
theorem fansL_all {u : List Int} {j : Nat} (h : j < (fansL u u.length).length) : (fansL u u.length)[j] = (((kidsN u (j : Int)).length : Nat) : Int) := fansL_get h

/-- Of the first k nodes: the devices. -/
def devsK (u : List Int) (k : Nat) : List Nat := (List.range k).filter fun i => decide (kindL u (i : Int) = 3)
theorem devsK_all (u : List Int) : devsK u u.length = devsN u := rfl
theorem devsK_le (u : List Int) (k : Nat) : (devsK u k).length ≤ k := by
  unfold devsK
  exact Nat.le_trans (List.length_filter_le _ _) (by simp)
theorem devsK_yes {u : List Int} {k : Nat} (h0 : 0 < k) (hk : k < u.length) (h : (kidsN u k).length = 0) : devsK u (k + 1) = devsK u k ++ [k] := by
  unfold devsK
  rw [List.range_succ, List.filter_append, List.filter_cons, if_pos (by rw [decide_eq_true_iff, kind_of h0 hk, if_pos h])]; rfl
theorem devsK_no {u : List Int} {k : Nat} (hk : k < u.length) (h : ¬ (0 < k ∧ (kidsN u k).length = 0)) : devsK u (k + 1) = devsK u k := by
  unfold devsK
  have hn : ¬ kindL u (k : Int) = 3 := by
    by_cases h0 : k = 0
    · subst h0
      rw [show kindL u ((0 : Nat) : Int) = 1 from kind_root hk]; decide
    · rw [kind_of (by omega) hk, if_neg (by omega)]; decide
  rw [List.range_succ, List.filter_append, List.filter_cons, if_neg (by rw [decide_eq_true_iff]; exact hn)]
  simp

/-- Who is below whom, a step. -/
theorem below_neg {u : List Int} {n top : Int} (h : ¬ (0 ≤ n ∧ n < u.length)) : belowU u n top = false := by
  unfold belowU belowF
  rw [if_neg h]
theorem below_at {u : List Int} {n : Int} (h : 0 ≤ n ∧ n < u.length) : belowU u n n = true := by
  unfold belowU belowF
  rw [if_pos h, if_pos rfl]
theorem below_next {u : List Int} (h : Shp u) {j : Nat} (hj : j < u.length) {top : Int} (hne : (j : Int) ≠ top) : belowU u j top = belowU u (u.getD j 0) top := by
  by_cases h0 : j = 0
  · subst h0
    rw [h.up0, below_neg (n := -1) (by omega)]
    unfold belowU belowF
    have e0 : ((0 : Nat) : Int).toNat = 0 := rfl
    have e1 : (0 : Int) ≤ ((0 : Nat) : Int) ∧ ((0 : Nat) : Int) < (u.length : Int) := ⟨by omega, by omega⟩
    have e2 : ¬ ((0 : Nat) : Int) ≤ u.getD 0 0 := by rw [h.up0]; decide
    rw [if_pos e1, if_neg hne, e0, if_neg e2, h.up0]
    obtain ⟨f, hf⟩ : ∃ f, u.length = f + 1 := ⟨u.length - 1, by have := h.n2; omega⟩
    rw [hf]
    unfold belowF
    rw [if_neg (by omega)]
  · exact below_up h.par h.neg (by omega) hj hne
theorem up_lt {u : List Int} (h : Shp u) {j : Nat} (hj : j < u.length) : u.getD j 0 < j ∧ -1 ≤ u.getD j 0 := by
  by_cases h0 : j = 0
  · subst h0
    rw [h.up0]; decide
  · have := h.par j (by omega) hj
    omega

end Pln

/- Relays' states: a part of a struct stored; how long their lists are. -/
namespace Go.Proofs.Ytnglpkfkepfkkaa
open Go.ChangeShapes Go.WideShapes Go.ChangeAt Go.RowKit Go.Deep Nam Cod Pln

theorem El.run_part {α : Type} {E : El α} {P : Program} {T : TypeId} {k : Nat} (hT : (P.info? T).map (·.size) = some k) {w : World} {b off : Nat} {p z : α} {vs : List Value} (hvl : vs.length = k) (h1 : ∀ v ∈ vs, v.oneCell' = true)
    (hg : E.In w b p) (hz : (E.c p).take off ++ vs ++ (E.c p).drop (off + vs.length) = E.c z) (hfit : off + vs.length ≤ E.k) : (storeVar T ⟨b, off, none⟩ (.agg vs.toArray)).run P w = .ok () (w.setRow b (E.c z).toArray) := by
  have hs := run_storeCells_at (P := P) b off E.e vs 0 (E.c p).toArray w hg (by rw [List.size_toArray, E.len]; omega) h1
  rw [Nat.add_zero, List.toList_toArray, hz] at hs
  cases hq : P.info? T with
  | none => simp [hq] at hT
  | some inf =>
    have hinf : inf.size = k := by simpa [hq] using hT
    simp [storeVar, sizeOf, typeInfo, hq, Value.cells, hinf, hvl, hs]
/-- A part of a struct stored. -/
theorem El.wpList_part {α : Type} {E : El α} {P : Program} {T : TypeId} {k : Nat} (hT : (P.info? T).map (·.size) = some k) {ops : Array Oper} {rest : List Oper} {o : Oper} {a : Act} {w : World} {Q : Exit → Act → World → Prop} (hgd : o.guard = none) (x y : Operand) (ho : o.op = .store T x y)
    (b off : Nat) (p z : α) (vs : List Value) (hvl : vs.length = k) (h1 : ∀ v ∈ vs, v.oneCell' = true) (hx : a.eval x = .pointer (some ⟨b, off, none⟩)) (hy : a.eval y = .agg vs.toArray) (hg : E.In w b p) (hz : (E.c p).take off ++ vs ++ (E.c p).drop (off + vs.length) = E.c z) (hfit : off + vs.length ≤ E.k)
    (h : wpList P ops Q rest (a.put o.dst undef) (w.setRow b (E.c z).toArray)) : wpList P ops Q (o :: rest) a w :=
  wpList_plain hgd fun _ hK => by
    have hv := El.run_part (P := P) hT hvl h1 hg hz hfit
    unfold Oper.wp execOp
    simp only [ho, hx, hy, Instr.storeAt, Instr.sureAddr, Sem.run_bind, Sem.run_pure, Result.andThen_ok, hv]
    exact hK _ _ h
/-- As a step of a region that draws. -/
theorem El.step_part {α : Type} {E : El α} {P : Program} {T : TypeId} {k : Nat} (hT : (P.info? T).map (·.size) = some k) {ops : Array Oper} {o : Oper} {a : Act} {w : World} {K : Act → World → Prop} {Q : Exit → Act → World → Prop} {F : Prop} (hgd : o.guard = none) (x y : Operand) (ho : o.op = .store T x y)
    (b off : Nat) (p z : α) (vs : List Value) (hvl : vs.length = k) (h1 : ∀ v ∈ vs, v.oneCell' = true) (hx : a.eval x = .pointer (some ⟨b, off, none⟩)) (hy : a.eval y = .agg vs.toArray) (hg : E.In w b p) (hz : (E.c p).take off ++ vs ++ (E.c p).drop (off + vs.length) = E.c z) (hfit : off + vs.length ≤ E.k)
    (h : K (a.put o.dst undef) (w.setRow b (E.c z).toArray)) : if Region.wanted o (yielded ops a.tmps) = true then Oper.wp P o a w K Q else F := by
  have hw : Region.wanted o (yielded ops a.tmps) = true := by simp [Region.wanted, hgd]
  rw [if_pos hw]
  have hv := El.run_part (P := P) hT hvl h1 hg hz hfit
  unfold Oper.wp execOp
  simp only [ho, hx, hy, Instr.storeAt, Instr.sureAddr, Sem.run_bind, Sem.run_pure, Result.andThen_ok, hv]
  exact h
def Rlw.S (x : Rlw) : Sw := ⟨x.eA, x.ec, x.st⟩
def Rlw.Q (x : Rlw) : Qw := ⟨x.qA, x.qc, x.q⟩
theorem ry_s {w : World} {b : Nat} {x : Rlw} (h : ryE.In w b x) : smE.At w b 3 x.S := fun j u hu => by
  match j, hu with
  | 0, hu => rw [h.cell]; exact hu
  | 1, hu => rw [h.cell]; exact hu
  | 2, hu => rw [h.cell]; exact hu
  | 3, hu => rw [h.cell]; exact hu
theorem ry_q {w : World} {b : Nat} {x : Rlw} (h : ryE.In w b x) : quE.At w b 7 x.Q := fun j u hu => by
  match j, hu with
  | 0, hu => rw [h.cell]; exact hu
  | 1, hu => rw [h.cell]; exact hu
  | 2, hu => rw [h.cell]; exact hu
theorem kinInn : kinE.Inn Try.prog 39 := El.inn_of (z := .agg #[.int .i64 0, .int .i64 0, .int .i64 0, .int .i64 0]) (bytes := 32) Try.underlying39 (by kernel_rfl) rfl (by decide)
theorem kinIdxH {A : Option Addr} {b off len cap k : Nat} (hA : A = some ⟨b, off, none⟩) (h : k < len) : ∀ w, (Instr.indexAt 39 (.slice A len cap) (.int .i64 k)).run Try.prog w = .ok (.pointer (some ⟨b, off + k * 4, none⟩)) w := fun w => by
  subst hA
  have h2 : (k : Int) < (len : Int) := by omega
  go_simp
theorem risLenR (N : Nat) : ∀ (l : List Rp) (a : Nat), RisR l → (∀ r ∈ l, (a : Int) ≤ r.d) → (∀ r ∈ l, r.d < N) → a ≤ N → l.length ≤ N - a
  | [], _, _, _, _, _ => Nat.zero_le _
  | x :: l, a, h, h1, h2, ha => by
    have hx := h1 x (List.mem_cons_self ..)
    have hx2 := h2 x (List.mem_cons_self ..)
    have := risLenR N l (x.d.toNat + 1) h.2 (fun r hr => by have := h.1 r hr; omega) (fun r hr => h2 r (List.mem_cons_of_mem _ hr)) (by omega)
    rw [List.length_cons]; omega
theorem risLenG (N : Nat) : ∀ (l : List Gf) (a : Nat), RisG l → (∀ r ∈ l, (a : Int) ≤ r.d) → (∀ r ∈ l, r.d < N) → a ≤ N → l.length ≤ N - a
  | [], _, _, _, _, _ => Nat.zero_le _
  | x :: l, a, h, h1, h2, ha => by
    have hx := h1 x (List.mem_cons_self ..)
    have hx2 := h2 x (List.mem_cons_self ..)
    have := risLenG N l (x.d.toNat + 1) h.2 (fun r hr => by have := h.1 r hr; omega) (fun r hr => h2 r (List.mem_cons_of_mem _ hr)) (by omega)
    rw [List.length_cons]; omega
theorem ris12R {l : List Rp} (h : RisR l) (hb : ∀ r ∈ l, rpB r = true) : l.length ≤ 12 := by
  have hd : ∀ r ∈ l, 0 ≤ r.d ∧ r.d < 12 := fun r hr => by
    have h3 := hb r hr
    unfold rpB at h3
    rw [Bool.and_eq_true, decide_eq_true_iff] at h3
    exact ⟨h3.1.1, h3.1.2.1⟩
  exact risLenR 12 l 0 h (fun r h => (hd r h).1) (fun r h => (hd r h).2) (by omega)
theorem ris12G {l : List Gf} (h : RisG l) (hb : ∀ g ∈ l, gfB g = true) : l.length ≤ 12 := by
  have hd : ∀ g ∈ l, 0 ≤ g.d ∧ g.d < 12 := fun g hg => by
    have h3 := hb g hg
    unfold gfB at h3
    rw [decide_eq_true_iff] at h3
    exact ⟨h3.1, h3.2.1⟩
  exact risLenG 12 l 0 h (fun r h => (hd r h).1) (fun r h => (hd r h).2) (by omega)
theorem winP_le {p : Pn} (hP : Pln.Right p) : 0 ≤ winP p ∧ winP p ≤ 80 := by
  unfold winP
  have h1 := hP.q
  have h2 := hP.devs
  obtain ⟨d, hd⟩ : ∃ d, (devsN p.u).length = d := ⟨_, rfl⟩
  rw [hd] at h2 ⊢
  have h3 : (p.q + 2) * (d : Int) ≤ 10 * 8 := Int.mul_le_mul (by omega) (by omega) (by omega) (by omega)
  have h4 : 0 ≤ (p.q + 2) * (d : Int) := Int.mul_nonneg (by omega) (by omega)
  exact ⟨h4, h3⟩
theorem lens19 {p : Pn} {up : Int} {n : Nat} {x : Rlv} (hP : Pln.Right p) (h : RlR p up n x) : x.ks.length ≤ 12 ∧ x.st.es.length ≤ 80 ∧ x.q.os.length ≤ 16 ∧ x.rs.length ≤ 12 ∧ x.gs.length ≤ 12 := by
  refine ⟨?_, ?_, ?_, ?_, ?_⟩
  · have h1 := congrArg List.length h.kn
    rw [List.length_map, List.length_map] at h1
    rw [h1]
    unfold kidsN
    refine Nat.le_trans (List.length_filter_le _ _) ?_
    rw [List.length_range]
    exact hP.n12
  · have h1 := h.stl
    have h2 := winP_le hP
    omega
  · have h1 := h.ql
    have h2 := hP.r
    omega
  · exact ris12R h.rs.1 fun r hr => (h.rs.2 r hr).1
  · exact ris12G h.gs.1 fun g hg => (h.gs.2 g hg).1
theorem qn19 {p : Pn} {up : Int} {n : Nat} {x : Rlv} (hP : Pln.Right p) (hn : n ≤ 1000) (h : RlR p up n x) : QuN x.q := by
  have h1 := h.qf
  have h2 := h.qg
  have h3 := (lens19 hP h).2.2.1
  exact ⟨by omega, by omega, by omega⟩
theorem sn19 {p : Pn} {up : Int} {n : Nat} {x : Rlv} (hP : Pln.Right p) (h : RlR p up n x) : SmN x.st := by
  have h1 := h.st
  have h2 := h1.s0
  have h3 := h1.t0
  have h4 := h1.tm
  have h5 := h1.sp
  have h6 := h1.pm
  have h7 := (lens19 hP h).2.1
  exact ⟨by omega, by omega, by omega, by omega⟩
theorem smR_n {x : Sm} (h1 : SmR x) (h7 : x.es.length ≤ 50000) : SmN x := by
  have h2 := h1.s0
  have h3 := h1.t0
  have h4 := h1.tm
  have h5 := h1.sp
  have h6 := h1.pm
  exact ⟨by omega, by omega, by omega, by omega⟩
theorem El.load_ifK {α : Type} {E : El α} {P : Program} (R : El.Row E P) {ops : Array Oper} {rest : List Oper} {o : Oper} {a : Act} {w : World} {Q : Exit → Act → World → Prop} (hw : Region.wanted o (yielded ops a.tmps) = true) (x : Operand) (ho : o.op = .load E.e x)
    (b off : Nat) (hx : a.eval x = .pointer (some ⟨b, off, none⟩)) (p : α) (hg : E.At w b off p) (cs : Array Value) (hc : cs = (E.c p).toArray)
    (h : wpList P ops Q rest (a.put o.dst (.agg cs)) w) : wpList P ops Q (o :: rest) a w :=
  BigFrame.wpList_want hw fun _ hK => El.wp_load R x ho b off hx p hg cs hc (hK _ _ h)
theorem El.exec_loadK {α : Type} {E : El α} {P : Program} (R : El.Row E P) {o : Oper} {a : Act} (x : Operand) (ho : o.op = .load E.e x) {b off : Nat} (hx : a.eval x = .pointer (some ⟨b, off, none⟩)) {w : World} {p : α} (h : E.At w b off p) (cs : Array Value) (hc : cs = (E.c p).toArray) : (execOp a.eval o).run P w = .ok (.value (.agg cs)) w := by
  subst hc
  unfold execOp
  simp only [ho, hx, Instr.loadAt, Instr.sureAddr, Sem.run_bind, Sem.run_pure, Result.andThen_ok, El.run_load R h]
theorem st_zero19 : (Try.prog.info? 48).map (·.zero) = some (some (.agg #[.int .i64 0, .int .i64 0, .int .i64 0, .int .i64 0, .int .i64 0, .int .i64 0, .slice none 0 0, .int .i64 0, .int .i64 0, .slice none 0 0, .slice none 0 0, .slice none 0 0, .slice none 0 0, .slice none 0 0, .slice none 0 0, .int .i64 0, .slice none 0 0, .slice none 0 0, .slice none 0 0, .slice none 0 0, .int .i64 0, .int .i64 0, .int .i64 0, .int .i64 0, .slice none 0 0, .int .i64 0])) := by kernel_rfl
/-- A state laid, in one step. -/
theorem wpList_alloc_ry {ops : Array Oper} {rest : List Oper} {o : Oper} {a : Act} {w : World} {Q : Exit → Act → World → Prop} (hgd : o.guard = none) (ho : o.op = .alloc 48)
    (h : wpList Try.prog ops Q rest (a.put o.dst (.pointer (some ⟨w.heap.size, 0, none⟩))) (w.alloc (.cells #[.int .i64 0, .int .i64 0, .int .i64 0, .int .i64 0, .int .i64 0, .int .i64 0, .slice none 0 0, .int .i64 0, .int .i64 0, .slice none 0 0, .slice none 0 0, .slice none 0 0, .slice none 0 0, .slice none 0 0, .slice none 0 0, .int .i64 0, .slice none 0 0, .slice none 0 0, .slice none 0 0, .slice none 0 0, .int .i64 0, .int .i64 0, .int .i64 0, .int .i64 0, .slice none 0 0, .int .i64 0] 48))) : wpList Try.prog ops Q (o :: rest) a w :=
  wpList_plain hgd fun _ hK => by
    have hR := st_zero19
    cases hq : Try.prog.info? 48 with
    | none => simp [hq] at hR
    | some inf =>
      have hinf : inf.zero = some (.agg #[.int .i64 0, .int .i64 0, .int .i64 0, .int .i64 0, .int .i64 0, .int .i64 0, .slice none 0 0, .int .i64 0, .int .i64 0, .slice none 0 0, .slice none 0 0, .slice none 0 0, .slice none 0 0, .slice none 0 0, .slice none 0 0, .int .i64 0, .slice none 0 0, .slice none 0 0, .slice none 0 0, .slice none 0 0, .int .i64 0, .int .i64 0, .int .i64 0, .int .i64 0, .slice none 0 0, .int .i64 0]) := by simpa [hq] using hR
      have hv : (Instr.alloc 48 true (.tuple #[])).run Try.prog w = .ok (.pointer (some ⟨w.heap.size, 0, none⟩)) (w.alloc (.cells #[.int .i64 0, .int .i64 0, .int .i64 0, .int .i64 0, .int .i64 0, .int .i64 0, .slice none 0 0, .int .i64 0, .int .i64 0, .slice none 0 0, .slice none 0 0, .slice none 0 0, .slice none 0 0, .slice none 0 0, .slice none 0 0, .int .i64 0, .slice none 0 0, .slice none 0 0, .slice none 0 0, .slice none 0 0, .int .i64 0, .int .i64 0, .int .i64 0, .int .i64 0, .slice none 0 0, .int .i64 0] 48)) := by
        simp [Instr.alloc, zeroValue, typeInfo, hq, hinf, newVar, newRow, newObj, Value.cells]
        rfl
      unfold Oper.wp execOp
      simp only [ho, hv, Sem.run_bind, Sem.run_pure, Result.andThen_ok]
      exact hK _ _ h
end Go.Proofs.Ytnglpkfkepfkkaa
