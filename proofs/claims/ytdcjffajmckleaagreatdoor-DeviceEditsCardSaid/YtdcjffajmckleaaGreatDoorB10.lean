/- Texts laid one behind the other: Rn, Ro. -/
import Derived.Test.YtdcjffajmckleaaGreatDoorB09
/- Devices, as values: a life that follows. -/
namespace Go.Proofs.YtdcjffajmckleaaGreatDoor
open Go.RowKit Nam Cod Tre Pst Pln

/-- The operation that the law makes of another one. -/
def foM (m : Mv) (i : Nat) : Mv := ⟨1 + (i : Int), 2, 1, 1 + (i : Int), m.K, m.U, m.s⟩
/-- The law's operations. -/
structure FoL (ms : List Mv) : Prop where
  len : ms.length ≤ 30
  at' : ∀ i (h : i < ms.length), ms[i].C = 1 + (i : Int) ∧ ms[i].D = 2 ∧ ms[i].I = 1 ∧ ms[i].M = 1 + (i : Int)
  ok : ∀ m ∈ ms, m.ok
def foP (ms : List Mv) : Pv := ms.foldl (fun q m => (addV q m).1) Pv.zero
theorem foP_next (ms : List Mv) (m : Mv) : foP (ms ++ [m]) = (addV (foP ms) m).1 := by
  unfold foP
  rw [List.foldl_append]; rfl
theorem FoL.take {ms : List Mv} (h : FoL ms) (k : Nat) : FoL (ms.take k) where
  len := by have := h.len; rw [List.length_take]; omega
  at' i hi := by rw [List.getElem_take]; exact h.at' i (by rw [List.length_take] at hi; omega)
  ok m hm := h.ok m (List.mem_of_mem_take hm)
/-- Behind k of them. -/
theorem foP_ops {ms : List Mv} (h : FoL ms) (k : Nat) (hk : k ≤ ms.length) : (foP (ms.take k)).ops = ms.take k ∧ (foP (ms.take k)).t = 0 ∧ PInv (foP (ms.take k)) := by
  induction k with
  | zero => exact ⟨rfl, rfl, PInv.zero⟩
  | succ k ih =>
    obtain ⟨i1, i2, i3⟩ := ih (by omega)
    rw [List.take_succ_eq_append_getElem (by omega : k < ms.length), foP_next]
    have hC : ms[k].C = 1 + (k : Int) := (h.at' k (by omega)).1
    have ha := addV_last (q := foP (ms.take k)) (m := ms[k]) (by rw [i2, hC]; omega) (fun o ho => by
      rw [i1] at ho
      obtain ⟨j, hj, rfl⟩ := List.getElem_of_mem ho
      rw [List.length_take] at hj
      rw [List.getElem_take, (h.at' j (by omega)).1, hC]; omega)
    exact ⟨by rw [ha.2.1, i1], by rw [ha.2.2, i2], i3.add (h.ok _ (List.getElem_mem _))⟩
theorem foP_adds {ms : List Mv} (h : FoL ms) {k : Nat} (hk : k < ms.length) : (addV (foP (ms.take k)) ms[k]).2 = true ∧ (addV (foP (ms.take k)) ms[k]).1 = foP (ms.take (k + 1)) := by
  obtain ⟨i1, i2, i3⟩ := foP_ops h k (by omega)
  have hC : ms[k].C = 1 + (k : Int) := (h.at' k (by omega)).1
  refine ⟨(addV_last (by rw [i2, hC]; omega) (fun o ho => ?_)).1, by rw [List.take_succ_eq_append_getElem hk, foP_next]⟩
  rw [i1] at ho
  obtain ⟨j, hj, rfl⟩ := List.getElem_of_mem ho
  rw [List.length_take] at hj
  rw [List.getElem_take, (h.at' j (by omega)).1, hC]; omega
/-- The life behind k entries. -/
def foC (k : Nat) : List Cn := match k with | 0 => [] | k + 1 => [⟨2, 1, (k : Int) + 1⟩]
def foD (ms : List Mv) (k : Nat) : Dv := { newD 1 with pos := k, y := foP (ms.take k), l := foC k, clock := k }
def foE (m : Mv) : En := ⟨1, 0, 0, m⟩
theorem foC_next (k : Nat) (m : Mv) (hD : m.D = 2) (hI : m.I = 1) (hM : m.M = 1 + (k : Int)) : tally (foC k) (foE m) = foC (k + 1) := by
  obtain ⟨C, D, I, M, K, U, s⟩ := m
  simp only at hD hI hM
  subst hD hI hM
  cases k with
  | zero => rfl
  | succ k =>
    show putC [⟨2, 1, (k : Int) + 1⟩] ⟨2, 1, 1 + ((k + 1 : Nat) : Int)⟩ = [⟨2, 1, ((k + 1 : Nat) : Int) + 1⟩]
    rw [show (1 : Int) + ((k + 1 : Nat) : Int) = ((k + 1 : Nat) : Int) + 1 from by omega]
    rfl
theorem foD_follow {ms : List Mv} (h : FoL ms) {k : Nat} (hk : k < ms.length) : followD (foD ms k) (foE ms[k]) = foD ms (k + 1) := by
  obtain ⟨hC, hD, hI, hM⟩ := h.at' k hk
  obtain ⟨a1, a2⟩ := foP_adds h hk
  unfold followD
  rw [if_neg (fun e => by have : (1 : Int) = 2 := e.1; omega), if_neg (fun e => e rfl), if_neg (fun e => by have e1 : ms[k].D = 1 := e.1; rw [hD] at e1; omega)]
  refine Dv.same rfl rfl rfl ?_ rfl ?_ ?_ rfl rfl ?_ rfl ?_
  · show (k : Int) + 1 = ((k + 1 : Nat) : Int); omega
  · exact a2
  · exact foC_next k _ hD hI hM
  · show max (k : Int) ms[k].C = ((k + 1 : Nat) : Int); rw [hC]; omega
  · show (if (addV (foP (ms.take k)) ms[k]).2 = true then (0 : Int) else 0 + 1) = 0
    rw [if_pos a1]
theorem foD_go {ms : List Mv} (h : FoL ms) : ∀ (L : List En) (p a : Nat), a ≤ p → p ≤ ms.length → a + L.length ≤ ms.length → (∀ j (hj : j < L.length) (hm : a + j < ms.length), L[j] = foE ms[a + j]) →
    goD (foD ms p) ((a : Int) + 1) L = foD ms (max p (a + L.length))
  | [], p, a, hap, _, _, _ => by
    show foD ms p = _
    rw [List.length_nil, Nat.add_zero, Nat.max_eq_left hap]
  | e :: L, p, a, hap, hp, hl, he => by
    rw [List.length_cons] at hl
    have he0 : e = foE ms[a] := he 0 (by rw [List.length_cons]; omega) (by omega)
    have hrest : ∀ j (hj : j < L.length) (hm : a + 1 + j < ms.length), L[j] = foE ms[a + 1 + j] := fun j hj hm => by
      have h2 := he (j + 1) (by rw [List.length_cons]; omega) (by omega)
      rw [List.getElem_cons_succ] at h2
      rw [h2]
      simp only [show a + (j + 1) = a + 1 + j from by omega]
    show goD (if (foD ms p).mode = 1 ∧ (a : Int) + 1 = (foD ms p).pos + 1 then followD (foD ms p) e else foD ms p) ((a : Int) + 1 + 1) L = _
    rw [show (a : Int) + 1 + 1 = ((a + 1 : Nat) : Int) + 1 from by omega, List.length_cons]
    rcases Nat.lt_or_ge a p with hlt | hge
    · rw [if_neg (fun e => by have e2 : (a : Int) + 1 = (p : Int) + 1 := e.2; omega), foD_go h L p (a + 1) (by omega) hp (by omega) hrest]
      rw [show a + 1 + L.length = a + (L.length + 1) from by omega]
    · obtain rfl : a = p := by omega
      rw [if_pos ⟨rfl, rfl⟩, he0, foD_follow h (by omega), foD_go h L (a + 1) (a + 1) (Nat.le_refl _) (by omega) (by omega) hrest]
      rw [show a + 1 + L.length = a + (L.length + 1) from by omega, Nat.max_eq_right (by omega), Nat.max_eq_right (by omega)]
/-- What the law's frame holds. -/
def foF (a : Nat) (L : List En) : Fr := ⟨0, 1, 0, 0, 0, (a : Int) + 1, 0, 0, 0, 0, [], [], L, []⟩
theorem foD_take {ms : List Mv} (h : FoL ms) (L : List En) (p a : Nat) (hap : a ≤ p) (hp : p ≤ ms.length) (hl : a + L.length ≤ ms.length) (he : ∀ j (hj : j < L.length) (hm : a + j < ms.length), L[j] = foE ms[a + j]) :
    takeD 0 (foD ms p) (foF a L) = (foD ms (max p (a + L.length)), 0) := by
  unfold takeD
  rw [if_neg (fun e => e ⟨rfl, rfl⟩), if_neg (by show ¬ (0 : Int) < 0; omega)]
  dsimp only
  rw [if_neg (by show ¬ (1 : Int) ≠ 1; omega), if_neg (by show ¬ (p : Int) < 0; omega), ← foD_go h L p a hap hp hl he]
  have hs : settleV (foP (ms.take p)) 0 = foP (ms.take p) := settleV_late' (by rw [(foP_ops h p hp).2.1]; exact Int.le_refl _)
  refine Prod.ext (congrArg (fun x => goD x ((a : Int) + 1) L) ?_) rfl
  refine Dv.same rfl rfl rfl rfl rfl hs rfl rfl rfl ?_ rfl rfl
  show max (p : Int) (settleV (foP (ms.take p)) 0).t = p
  rw [hs, (foP_ops h p hp).2.1]; omega
theorem foD_r {ms : List Mv} (h : FoL ms) {k : Nat} (hk : k ≤ ms.length) : DvR (foD ms k) := by
  have hlen := h.len
  obtain ⟨i1, i2, i3⟩ := foP_ops h k hk
  exact
    { node := by show (0 : Int) ≤ 1 ∧ (1 : Int) < 12; omega
      boot := by show (0 : Int) ≤ 1 ∧ (1 : Int) ≤ 1099511627776; omega
      above := by show (0 : Int) ≤ 0 ∧ (0 : Int) ≤ 1099511627776; omega
      pos := by show (0 : Int) ≤ (k : Int) ∧ (k : Int) ≤ 4294967296; omega
      qf := (newD_r (n := 1) (by omega)).qf
      qg := (newD_r (n := 1) (by omega)).qg
      ql := Nat.zero_le _
      y := i3
      yl := by show (foP (ms.take k)).ops.length ≤ 60; rw [i1, List.length_take]; omega
      yt := by show (foP (ms.take k)).t ≤ 4294967296; rw [i2]; omega
      l := by
        cases k with
        | zero => exact ⟨Nat.zero_le _, List.Pairwise.nil⟩
        | succ k => exact ⟨by show 1 ≤ 12; omega, List.pairwise_singleton _ _⟩
      lw := fun c hc => by
        cases k with
        | zero => cases hc
        | succ k =>
          have hc : c ∈ [(⟨2, 1, (k : Int) + 1⟩ : Cn)] := hc
          rw [List.mem_singleton] at hc
          subst hc
          refine ⟨⟨?_, ?_⟩, ⟨?_, ?_⟩, ?_, ?_⟩ <;> dsimp only <;> omega
      inc := by show (1 : Int) ≤ 1 ∧ (1 : Int) ≤ 4294967296; omega
      mode := Or.inl rfl
      clock := by show (0 : Int) ≤ (k : Int) ∧ (k : Int) ≤ 4294967296; omega
      sent := by show (0 : Int) ≤ 0 ∧ (0 : Int) ≤ 4294967296; omega
      late := by show (0 : Int) ≤ 0 ∧ (0 : Int) ≤ 4294967296; omega }
end Go.Proofs.YtdcjffajmckleaaGreatDoor

/- The law DeviceFollows: its first loop. -/
namespace Go.Proofs.YtdcjffajmckleaaGreatDoor
open Go.RowKit Nam Cod Tre Pst Pln

/-- A list stays where another block is written. -/
theorem SlV.keepY {α : Type} {E : El α} {w w' : World} {A : Option Addr} {c : Nat} {l : List α} {row : Option Nat} (h : SlV E w A c l) (hA : ∀ a, A = some a → l ≠ [] → some a.block ≠ row) (hg : w.grownBy w' row) : SlV E w' A c l := by
  refine ⟨fun h0 => ?_, h.2⟩
  obtain ⟨b1, off, e, hl, hc⟩ := h.1 h0
  have hne : some b1 ≠ row := hA _ e (fun e0 => by rw [e0] at h0; exact absurd h0 (Nat.lt_irrefl _))
  exact ⟨b1, off, e, Nat.lt_of_lt_of_le hl hg.size, fun i hi => (hc i hi).grown hg hne⟩
theorem SlV.lts {α : Type} {E : El α} {w : World} {A : Option Addr} {c : Nat} {l : List α} (h : SlV E w A c l) (a : Addr) (e : A = some a) (h0 : l ≠ []) : a.block < w.heap.size := by
  obtain ⟨b1, off, e2, hl, _⟩ := h.1 (List.length_pos_iff.2 h0)
  rw [e] at e2
  obtain rfl := Option.some.inj e2
  exact hl
/-- A past's lists lie off a row. -/
def OfP (row : Option Nat) (y : Pw) : Prop := ∀ a, ((y.bA = some a ∧ y.base ≠ []) ∨ (y.oA = some a ∧ y.ops ≠ []) ∨ (y.uA = some a ∧ y.us ≠ []) ∨ (y.wA = some a ∧ y.now ≠ [])) → some a.block ≠ row
theorem PastOk.keepO {w w' : World} {y : Pw} {row : Option Nat} (h : PastOk w y) (ho : OfP row y) (hg : w.grownBy w' row) : PastOk w' y :=
  ⟨h.b.keepY (fun a e h0 => ho a (Or.inl ⟨e, h0⟩)) hg, h.o.keepY (fun a e h0 => ho a (Or.inr (Or.inl ⟨e, h0⟩))) hg, h.u.keepY (fun a e h0 => ho a (Or.inr (Or.inr (Or.inl ⟨e, h0⟩)))) hg, h.w.keepY (fun a e h0 => ho a (Or.inr (Or.inr (Or.inr ⟨e, h0⟩)))) hg⟩
theorem OfP.none (y : Pw) : OfP none y := fun a _ e => by cases e
theorem OfP.new {x y : Pw} {row : Option Nat} {n : Nat} (h : OfP row x) (hr : ∀ g, row = some g → g < n) (hn : Nr n x y) : OfP row y := by
  obtain ⟨⟨b1, b2⟩, n2, n3, n4⟩ := hn
  have hf : ∀ {A : Option Addr} {a : Addr}, Frs n A → A = some a → some a.block ≠ row := fun hF e e2 => by
    have h1 := hF _ e
    have h2 := hr _ e2.symm
    omega
  rintro a (⟨e, h0⟩ | ⟨e, h0⟩ | ⟨e, h0⟩ | ⟨e, h0⟩)
  · exact h a (Or.inl ⟨by rw [← b1]; exact e, by rw [← b2]; exact h0⟩)
  · rcases n2 with ⟨e1, e2⟩ | hF
    · exact h a (Or.inr (Or.inl ⟨by rw [← e1]; exact e, by rw [← e2]; exact h0⟩))
    · exact hf hF e
  · rcases n3 with ⟨e1, e2⟩ | hF
    · exact h a (Or.inr (Or.inr (Or.inl ⟨by rw [← e1]; exact e, by rw [← e2]; exact h0⟩)))
    · exact hf hF e
  · rcases n4 with ⟨e1, e2⟩ | hF
    · exact h a (Or.inr (Or.inr (Or.inr ⟨by rw [← e1]; exact e, by rw [← e2]; exact h0⟩)))
    · exact hf hF e
theorem OfP.app {w : World} {y : Pw} {row row' : Option Nat} (h : OfP row y) (hy : PastOk w y) (hr : row' = row ∨ row' = some w.heap.size) : OfP row' y := by
  rcases hr with rfl | rfl
  · exact h
  · rintro a ha e
    have h2 : a.block < w.heap.size := by
      rcases ha with ⟨e, h0⟩ | ⟨e, h0⟩ | ⟨e, h0⟩ | ⟨e, h0⟩
      · exact hy.b.lts a e h0
      · exact hy.o.lts a e h0
      · exact hy.u.lts a e h0
      · exact hy.w.lts a e h0
    have := Option.some.inj e
    omega
def foMs (l : List Mv) : List Mv := l.mapIdx fun i m => foM m i
theorem foMs_len (l : List Mv) : (foMs l).length = l.length := by unfold foMs; rw [List.length_mapIdx]
theorem foMs_next {l : List Mv} {k : Nat} (h : k < l.length) : foMs (l.take (k + 1)) = foMs (l.take k) ++ [foM l[k] k] := by
  unfold foMs
  rw [List.take_succ_eq_append_getElem h, List.mapIdx_concat, List.length_take, Nat.min_eq_left (Nat.le_of_lt h)]
theorem FoL.nil : FoL [] where
  len := Nat.zero_le _
  at' i hi := absurd hi (Nat.not_lt_zero _)
  ok m hm := by cases hm
theorem FoL.next {l : List Mv} {k : Nat} (h : k < l.length) (hl : l.length ≤ 30) (hf : FoL (foMs (l.take k))) (ho : (foM l[k] k).ok) : FoL (foMs (l.take (k + 1))) := by
  have hlen : (foMs (l.take k)).length = k := by rw [foMs_len, List.length_take, Nat.min_eq_left (Nat.le_of_lt h)]
  rw [foMs_next h]
  refine ⟨by rw [List.length_append, hlen, List.length_singleton]; omega, fun i hi => ?_, fun m hm => ?_⟩
  · rcases Nat.lt_or_ge i k with h1 | h1
    · rw [List.getElem_append_left (by rw [hlen]; exact h1)]
      exact hf.at' i (by rw [hlen]; exact h1)
    · rw [List.length_append, hlen, List.length_singleton] at hi
      obtain rfl : i = k := by omega
      rw [List.getElem_append_right (by rw [hlen]; exact Nat.le_refl _)]
      simp only [hlen, Nat.sub_self, List.getElem_cons_zero]
      exact ⟨rfl, rfl, rfl, rfl⟩
  · rcases List.mem_append.1 hm with h1 | h1
    · exact hf.ok m h1
    · rw [List.mem_singleton] at h1; rw [h1]; exact ho
end Go.Proofs.YtdcjffajmckleaaGreatDoor
