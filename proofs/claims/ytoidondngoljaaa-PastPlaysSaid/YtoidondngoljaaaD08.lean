/- Texts laid one behind the other: Xe, Tl, Tp, Xg, Xh, Xi. -/
import Derived.Test.YtoidondngoljaaaD07
/- Of PastPlays: the document's Add and Settle at known lists; a past's bytes are few; what number n waits for along a path. -/
namespace Go.Proofs.Ytoidondngoljaaa
open Go.RowKit Tre Cod Pst Nam

theorem refaddc (y : Pw) (m : Mv) {V V' : Pv} {b : Bool} (w : World) (hy : PastOk w y) (hv : y.v = V) (hl : V.base.length + V.ops.length ≤ 890) (he : addV V m = (V', b)) :
    Calls Try.prog 13 #[.agg #[.slice y.bA y.base.length y.bc, .int .i64 y.t, .slice y.oA y.ops.length y.oc, .slice y.uA y.us.length y.uc, .slice y.wA y.now.length y.wc], .agg #[.int .i64 m.C, .int .i64 m.D, .int .i64 m.I, .int .i64 m.M, .int .i64 m.K, .int .i64 m.U, .string m.s]] w fun e w' => ∃ z : Pw, e = .returned (.tuple #[.agg #[.slice z.bA z.base.length z.bc, .int .i64 z.t, .slice z.oA z.ops.length z.oc, .slice z.uA z.us.length z.uc, .slice z.wA z.now.length z.wc], .bool b]) ∧ PastOk w' z ∧ z.v = V' ∧ Below w.heap.size w w' := by
  subst hv
  have h := refAdd_any y m w hy hl
  rw [he] at h
  exact h
theorem refsettlec (y : Pw) (t : Int) {V V' : Pv} (w : World) (hy : PastOk w y) (hv : y.v = V) (hl : V.base.length + V.ops.length ≤ 890) (he : settleV V t = V') :
    Calls Try.prog 15 #[.agg #[.slice y.bA y.base.length y.bc, .int .i64 y.t, .slice y.oA y.ops.length y.oc, .slice y.uA y.us.length y.uc, .slice y.wA y.now.length y.wc], .int .i64 t] w fun e w' => ∃ z : Pw, e = .returned (.agg #[.slice z.bA z.base.length z.bc, .int .i64 z.t, .slice z.oA z.ops.length z.oc, .slice z.uA z.us.length z.uc, .slice z.wA z.now.length z.wc]) ∧ PastOk w' z ∧ z.v = V' ∧ Below w.heap.size w w' := by
  subst hv
  have h := refSettle_any y t w hy hl
  rw [he] at h
  exact h
theorem tree_bytes {l : List Pl} (h : treeB l = true) : (treeBytes l).size ≤ 100000 := by
  have h1 := tree_len h
  have h2 := catL_le l (tree_fit h)
  unfold treeBytes
  rw [ByteArray.size_append]
  have h3 := bytesOf_le l.length (by omega) (by omega)
  omega

section
variable {P : Program} {ops : Array Oper} {Q : Exit → Act → World → Prop} {md : Region.Mode} {S : World → Prop} {n : Nat}

theorem anyG_first2 {i : Nat} {oi : Oper} {v : Value} (hi : ops[i]? = some oi) (hin : i ≠ n) (hsel : ∀ (j : Nat) (o : Oper) cs b, ops[j]? = some o → o.op ≠ .select cs b)
    (hQ : ∀ c a w, Q (.panic c) (a.put oi.dst v) w → Q (.panic c) a w) (ms : List Nat) (hm : ∀ x ∈ n :: ms, ∃ y ∈ i :: ms, waitsB md ops x y = true) :
    ∀ (fuel : Nat) (listed : Array Bool) (a : Act) (w : World),
      (∀ j oj, ops[j]? = some oj → j ≠ i → listed.getD j true = false → (∀ e ∈ oj.after, Region.binds md e = true → e.on ≠ i) → oi.apart ops oj = true) →
      i ∈ Region.ready md ops listed → YieldsIf P ops S oi v a → S w → listed.getD n true = false → (∀ y ∈ ms, listed.getD y false = false) →
      anyG P md ops Q S n fuel (listed.setIfInBounds i true) (a.put oi.dst v) w → anyG P md ops Q S n (fuel + 1) listed a w := by
  intro fuel
  induction fuel with
  | zero =>
    intro listed a w _ hr hy hTw hn _ H
    refine ⟨fun h => (by rw [h] at hr; cases hr), fun j hj => ?_⟩
    by_cases hji : j = i
    · subst hji; exact hy.wpOp hi hTw ⟨fun h => hTw, H⟩
    · have h0 := ready_mono hj hji
      rw [H.1] at h0
      cases h0
  | succ fuel ih =>
    intro listed a w hfree hr hy hTw hn hms H
    refine ⟨fun h => (by rw [h] at hr; cases hr), fun j hj => ?_⟩
    by_cases hji : j = i
    · subst hji; exact hy.wpOp hi hTw ⟨fun h => hTw, H⟩
    · have hunf := getD_false (mem_ready.1 hr).1
      have hjm : ∀ x ∈ n :: ms, j ≠ x := fun x hx e => by
        subst e
        obtain ⟨y, hy1, hy2⟩ := hm j hx
        have h4 := waits_spec hy2 hj
        rcases List.mem_cons.1 hy1 with rfl | hy1
        · rw [hunf] at h4; cases h4
        · rw [hms y hy1] at h4; cases h4
      have h1 := H.2 j (ready_mono hj hji)
      obtain ⟨hjun, oj, hoj, hall⟩ := mem_ready.1 hj
      have hnot : ∀ e ∈ oj.after, Region.binds md e = true → e.on ≠ i := fun e he hb heq => by
        have h2 := hall e he hb
        rw [heq, hunf] at h2; cases h2
      have h2 := wpOp_putIf hoj (hfree j oj hoj hji hjun hnot) (fun cs b => hsel i oi cs b hi) (fun cs b => hsel j oj cs b hoj) hQ hy h1
      refine wpOp_mono (fun b u h3 => ?_) h2
      have hn2 : (listed.setIfInBounds j true).getD n true = false := by rw [getD_set_ne true (hjm n (by simp))]; exact hn
      have hSu : S u := h3.2.1 (by
        rw [Array.setIfInBounds_comm _ _ (Ne.symm hji), getD_set_ne true hin]; exact hn2)
      refine ⟨fun _ => hSu, ih (listed.setIfInBounds j true) b u (fun k ok hk hki hku hno => hfree k ok hk hki ?_ hno) (ready_mono hr (Ne.symm hji)) h3.1 hSu hn2 (fun y hy => by rw [getD_set_ne false (hjm y (by simp [hy]))]; exact hms y hy) ?_⟩
      · by_cases hjk : j = k
        · subst hjk; exact hjun
        · rw [getD_set_ne true hjk] at hku; exact hku
      · rw [Array.setIfInBounds_comm _ _ hji]
        exact h3.2.2
/-- What yields in whatever world meets S, and for what number n waits by way of ms. -/
theorem anyG_path {i : Nat} {oi : Oper} {v : Value} {fuel : Nat} {listed : Array Bool} {a : Act} {w : World} (ms : List Nat) (hi : ops.toList[i]? = some oi)
    (hl : (n :: ms).all (fun x => (i :: ms).any fun y => waitsB md ops x y) = true) (hin : (i == n || listed.getD n true || ms.any (fun y => listed.getD y false)) = false) (hs : Region.noSelect ops = true) (hf : Region.free md ops listed i = true) (hr : (Region.ready md ops listed).contains i = true)
    (hQ : ∀ c a w, Q (.panic c) (a.put oi.dst v) w → Q (.panic c) a w) (hy : YieldsIf P ops S oi v a) (hS : S w)
    (h : anyG P md ops Q S n fuel (listed.setIfInBounds i true) (a.put oi.dst v) w) : anyG P md ops Q S n (fuel + 1) listed a w := by
  have hi : ops[i]? = some oi := by rw [← Array.getElem?_toList]; exact hi
  rw [Bool.or_eq_false_iff, Bool.or_eq_false_iff] at hin
  refine anyG_first2 hi (by simpa using hin.1.1) (Region.noSelect_spec hs) hQ ms (fun x hx => ?_) fuel listed a w (Region.free_spec hi hf) (by simpa using hr) hy hS hin.1.2 (fun y hy => ?_) h
  · rw [List.all_eq_true] at hl
    have := hl x hx
    rw [List.any_eq_true] at this
    exact this
  · have := hin.2
    rw [List.any_eq_false] at this
    simpa using this y hy
end
end Go.Proofs.Ytoidondngoljaaa

/- How a place, and a list of places, is read. -/
namespace Go.Proofs.Ytoidondngoljaaa
open Go.RowKit Tre Nam Cod


/-- A place read: what it is, where it stands behind it, and whether it went wrong. -/
def plStep (s : ByteArray) (p : Nat) (bad : Bool) (v : Pl) (q : Nat) (bad' : Bool) : Prop := (isPlace s p bad = some (v, q) ∧ bad' = false) ∨ (isPlace s p bad = none ∧ bad' = true)
theorem plStep_of {s : ByteArray} {p q1 q2 q3 : Nat} {bad b1 b2 b3 : Bool} {n u : Int} {t : ByteArray} (h1 : numStep s p bad n q1 b1) (h2 : numStep s q1 b1 u q2 b2) (h3 : textStep s q2 b2 t q3 b3) : plStep s p bad ⟨n, u, t⟩ q3 b3 := by
  cases b3
  · left
    obtain ⟨e2, g3⟩ := h3.good
    subst e2
    obtain ⟨e1, g2⟩ := h2.good
    subst e1
    have g1 := h1.back
    unfold isPlace
    simp only [g1, g2, g3, Option.bind_some]
    exact ⟨trivial, trivial⟩
  · right
    refine ⟨?_, rfl⟩
    unfold isPlace
    cases b1
    · have h1 := h1.back
      cases b2
      · have h2 := h2.back
        have h3 := h3.ill
        simp only [h1, h2, h3, Option.bind_some, Option.bind_none]
      · have h2 := h2.ill
        simp only [h1, h2, Option.bind_some, Option.bind_none]
    · have h1 := h1.ill
      simp only [h1, Option.bind_none]
theorem isPlace_bad (s : ByteArray) (p : Nat) : isPlace s p true = none := rfl

/-- So many places read, from p on. -/
def plsStep (s : ByteArray) (p k : Nat) (l : List Pl) (q : Nat) (bad : Bool) : Prop := (isPlaces s k p = some (l, q) ∧ bad = false) ∨ (isPlaces s k p = none ∧ bad = true)
theorem plsStep.zero (s : ByteArray) (p : Nat) : plsStep s p 0 [] p false := Or.inl ⟨rfl, rfl⟩
theorem plsStep.next {s : ByteArray} {p k q q' : Nat} {l : List Pl} {v : Pl} {bad bad' : Bool} (h : plsStep s p k l q bad) (h1 : plStep s q bad v q' bad') : plsStep s p (k + 1) (l ++ [v]) q' bad' := by
  rcases h with ⟨h, rfl⟩ | ⟨h, rfl⟩
  · rcases h1 with ⟨h1, rfl⟩ | ⟨h1, rfl⟩
    · left; refine ⟨?_, rfl⟩; unfold isPlaces; simp only [h, h1, Option.bind_some]
    · right; refine ⟨?_, rfl⟩; unfold isPlaces; simp only [h, h1, Option.bind_some, Option.bind_none]
  · rcases h1 with ⟨h1, _⟩ | ⟨_, rfl⟩
    · rw [isPlace_bad] at h1; cases h1
    · right; refine ⟨?_, rfl⟩; unfold isPlaces; simp only [h, Option.bind_none]
theorem isPlaces_none (s : ByteArray) (p k : Nat) (h : isPlaces s k p = none) : ∀ n, k ≤ n → isPlaces s n p = none
  | 0, hk => by obtain rfl : k = 0 := by omega
                exact h
  | n + 1, hk => by
    by_cases e : k = n + 1
    · subst e; exact h
    · unfold isPlaces; rw [isPlaces_none s p k h n (by omega)]; rfl

section
variable {w a : World} {b : Nat} {p : Pl} {s : ByteArray}
theorem PlIn.putN (h : PlIn w b p) (x : Int) : PlIn (w.setCell ⟨b, 0, none⟩ (.int .i64 x)) b ⟨x, p.u, p.s⟩ := by
  unfold PlIn at h ⊢
  simp [World.setCell, Array.getElem?_modify, h]
theorem PlIn.putU (h : PlIn w b p) (x : Int) : PlIn (w.setCell ⟨b, 1, none⟩ (.int .i64 x)) b ⟨p.n, x, p.s⟩ := by
  unfold PlIn at h ⊢
  simp [World.setCell, Array.getElem?_modify, h]
theorem PlIn.putS (h : PlIn w b p) (x : ByteArray) : PlIn (w.setCell ⟨b, 2, none⟩ (.string x)) b ⟨p.n, p.u, x⟩ := by
  unfold PlIn at h ⊢
  simp [World.setCell, Array.getElem?_modify, h]
theorem PlIn.other (h : PlIn w b p) (n i : Nat) (v : Value) (hne : b ≠ n) : PlIn (w.setCell ⟨n, i, none⟩ v) b p :=
  (Below.heap_setCell w ⟨n, i, none⟩ v b hne).trans h
theorem by_own {w' : World} {row : Option Nat} (h : a.grownBy w (some b)) (g : w.grownBy w' row) (hrow : ∀ k, row = some k → a.heap.size ≤ k) : a.grownBy w' (some b) :=
  ⟨g.os.trans h.os, g.tape.trans h.tape, g.output.trans h.output, Nat.le_trans h.size g.size, fun k hk hne =>
    (g.block k (Nat.lt_of_lt_of_le hk h.size) (fun e => by have := hrow k e.symm; omega)).trans (h.block k hk hne)⟩
end

set_option maxRecDepth 100000 in
set_option maxHeartbeats 4000000 in
theorem readPlace_uni {w : World} {b p : Nat} {s : ByteArray} {bad : Bool} (hs : s.size ≤ 1000000) (hp : p ≤ s.size) (hr : Rd 52 w b s p bad) :
    Calls Try.prog 85 #[.pointer (some ⟨b, 0, none⟩)] w fun e w' => ∃ (v : Pl) (q : Nat) (bad' : Bool), e = .returned (.agg #[.int .i64 v.n, .int .i64 v.u, .string v.s]) ∧ Rd 52 w' b s q bad' ∧ q ≤ s.size ∧ v.s.size ≤ 1000000 ∧ w.grownBy w' (some b) ∧ plStep s p bad v q bad' := by
  have hbw := hr.lt
  go_enter Try.func85, Try.ntmps85
  go_wp2_with fail
  have hO := PlIn.new (w.alloc (.cells #[.int .i64 0, .int .i64 0, .string ⟨#[]⟩] 58)) zero
  rw [alloc_size] at hO
  have hZ := (PlIn.new w zero).alloc (.cells #[.int .i64 0, .int .i64 0, .string ⟨#[]⟩] 58)
  have hB := below_alloc (below_alloc (Below.refl w.heap.size w) (.cells #[.int .i64 0, .int .i64 0, .string ⟨#[]⟩] 58)) (.cells #[.int .i64 0, .int .i64 0, .string ⟨#[]⟩] 58)
  have hR := hr.below hB
  have hG := by_below hB (some b)
  have hO : PlIn ((w.alloc (.cells #[.int .i64 0, .int .i64 0, .string ⟨#[]⟩] 58)).alloc (.cells #[.int .i64 0, .int .i64 0, .string ⟨#[]⟩] 58)) (w.heap.size + 1) zero := hO
  have hZ : PlIn ((w.alloc (.cells #[.int .i64 0, .int .i64 0, .string ⟨#[]⟩] 58)).alloc (.cells #[.int .i64 0, .int .i64 0, .string ⟨#[]⟩] 58)) w.heap.size zero := hZ
  generalize (w.alloc (.cells #[.int .i64 0, .int .i64 0, .string ⟨#[]⟩] 58)).alloc (.cells #[.int .i64 0, .int .i64 0, .string ⟨#[]⟩] 58) = W0 at *
  obtain ⟨n2, h2⟩ : ∃ n, w.heap.size = n := ⟨_, rfl⟩
  obtain ⟨n3, h3⟩ : ∃ n, w.heap.size + 1 = n := ⟨_, rfl⟩
  have hn2 : w.heap.size ≤ n2 := by omega
  have hn3 : w.heap.size ≤ n3 := by omega
  have e2 : b ≠ n2 := by omega
  have e3 : b ≠ n3 := by omega
  have e4 : n2 ≠ n3 := by omega
  have i2 : some n2 ≠ some b := fun e => e2 (Option.some.inj e).symm
  have i3 : some n3 ≠ some b := fun e => e3 (Option.some.inj e).symm
  rw [h3] at hO ⊢
  rw [h2] at hZ ⊢
  clear h2 h3 hB hr
  refine (num_uni hs hp hR).mono ?_
  clear hR
  rintro e w1 ⟨v1, q1, b1, rfl, hR, q1s, hg, st1⟩
  replace hO := hO.keep hg i3
  replace hZ := hZ.keep hg i2
  replace hG := by_trans hG hg
  clear hg
  have kc := hO.cells
  obtain ⟨k0, k1, k2⟩ := kc
  have kf := hO.frozen
  clear k1 k2
  go_wp2_with fail
  clear k0 kf
  replace hO := hO.putN v1
  replace hZ := hZ.other n3 0 (.int .i64 v1) e4
  replace hR := hR.other n3 0 (.int .i64 v1) e3
  replace hG := by_setNew hG n3 0 (.int .i64 v1) hn3
  generalize w1.setCell ⟨n3, 0, none⟩ (.int .i64 v1) = W1 at *
  refine (num_uni hs q1s hR).mono ?_
  clear hR
  rintro e w2 ⟨v2, q2, b2, rfl, hR, q2s, hg, st2⟩
  replace hO := hO.keep hg i3
  replace hZ := hZ.keep hg i2
  replace hG := by_trans hG hg
  clear hg
  have kc := hO.cells
  obtain ⟨k0, k1, k2⟩ := kc
  have kf := hO.frozen
  clear k0 k2
  go_wp2_with fail
  clear k1 kf
  replace hO := hO.putU v2
  replace hZ := hZ.other n3 1 (.int .i64 v2) e4
  replace hR := hR.other n3 1 (.int .i64 v2) e3
  replace hG := by_setNew hG n3 1 (.int .i64 v2) hn3
  generalize w2.setCell ⟨n3, 1, none⟩ (.int .i64 v2) = W2 at *
  refine (text_uni hs q2s hR).mono ?_
  clear hR
  rintro e w3 ⟨v3, q3, b3, rfl, hR, q3s, hv, hg, st3⟩
  replace hO := hO.keep hg i3
  replace hZ := hZ.keep hg i2
  replace hG := by_trans hG hg
  clear hg
  have kc := hO.cells
  obtain ⟨k0, k1, k2⟩ := kc
  have kf := hO.frozen
  clear k0 k1
  have hst := plStep_of st1 st2 st3
  clear st1 st2 st3
  have hO7 := hO.putS v3
  have hZ7 := hZ.other n3 2 (.string v3) e4
  have hR7 := hR.other n3 2 (.string v3) e3
  have hG7 := by_setNew hG n3 2 (.string v3) hn3
  have HST := Lib.hid hst
  clear hst hO hZ hR hG
  go_wp2_with (first | (refine store_pl rfl _ _ rfl _ ⟨v1, v2, v3⟩ rfl rfl zero hZ7 ?_) | (refine load_pl rfl _ rfl _ rfl ⟨v1, v2, v3⟩ hO7 ?_))
  refine ret_pl1 (hZ7.set ⟨v1, v2, v3⟩) rfl rfl rfl ?_
  exact ⟨⟨v1, v2, v3⟩, q3, b3, rfl, hR7.row n2 _ e2, q3s, hv, by_setRow hG7 n2 _ hn2, HST.out⟩
end Go.Proofs.Ytoidondngoljaaa

/- How a tree is read, by the program and by the document. -/
namespace Go.Proofs.Ytoidondngoljaaa
open Go.RowKit Tre Nam Cod

def cntStep (s : ByteArray) (p : Nat) (bad : Bool) (n q : Nat) (bad' : Bool) : Prop := (isCount s p bad 64 = some ((n : Int), q) ∧ bad' = false) ∨ (isCount s p bad 64 = none ∧ n = 0 ∧ bad' = true)
/-- What was read: a tree and where it ends; or that none stands there. -/
def treeStep (s : ByteArray) (p : Nat) (bad : Bool) (l : List Pl) (q : Nat) (bad' : Bool) : Prop := (isTree s p bad = some (l, q) ∧ bad' = false) ∨ (isTree s p bad = none ∧ l = [] ∧ bad' = true)
/-- How far the list is. -/
def wayStep (s : ByteArray) (p : Nat) (bad : Bool) (n k : Nat) (l : List Pl) (q : Nat) (bad' : Bool) : Prop :=
  (∃ q0, isCount s p bad 64 = some ((n : Int), q0) ∧ plsStep s q0 k l q bad') ∨ (isCount s p bad 64 = none ∧ n = 0 ∧ l = [] ∧ bad' = true)
theorem wayStep.start {s : ByteArray} {p n q : Nat} {bad bad' : Bool} (h : cntStep s p bad n q bad') : wayStep s p bad n 0 [] q bad' := by
  rcases h with ⟨h, rfl⟩ | ⟨h, hn, rfl⟩
  · exact Or.inl ⟨q, h, plsStep.zero s q⟩
  · exact Or.inr ⟨h, hn, rfl, rfl⟩
theorem wayStep.next {s : ByteArray} {p n k q q' : Nat} {bad b1 b2 : Bool} {l : List Pl} {v : Pl} (h : wayStep s p bad n k l q b1) (hk : k < n) (h1 : plStep s q b1 v q' b2) : wayStep s p bad n (k + 1) (l ++ [v]) q' b2 := by
  rcases h with ⟨q0, h, h2⟩ | ⟨h, hn, _⟩
  · exact Or.inl ⟨q0, h, h2.next h1⟩
  · omega
theorem wayStep.ill {s : ByteArray} {p n k q : Nat} {bad : Bool} {l : List Pl} (h : wayStep s p bad n k l q true) (hk : k ≤ n) : isTree s p bad = none := by
  unfold isTree
  rcases h with ⟨q0, h, h2⟩ | ⟨h, _⟩
  · rcases h2 with ⟨_, h2⟩ | ⟨h2, _⟩
    · cases h2
    · simp only [h, Option.bind_some, Int.toNat_natCast, isPlaces_none s q0 k h2 n hk, Option.bind_none]
  · simp only [h, Option.bind_none]
theorem wayStep.good {s : ByteArray} {p n q : Nat} {bad : Bool} {l : List Pl} (h : wayStep s p bad n n l q false) : isTree s p bad = if treeB l = true then some (l, q) else none := by
  unfold isTree
  rcases h with ⟨q0, h, h2⟩ | ⟨_, _, _, h⟩
  · rcases h2 with ⟨h2, _⟩ | ⟨_, h2⟩
    · simp only [h, Option.bind_some, Int.toNat_natCast, h2]
    · cases h2
  · cases h

theorem cnt_uni {w : World} {b p : Nat} {s : ByteArray} {bad : Bool} (hs : s.size ≤ 1000000) (hp : p ≤ s.size) (hr : Rd 52 w b s p bad) :
    Calls Try.prog 64 #[.pointer (some ⟨b, 0, none⟩), .int .i64 64] w fun e w' => ∃ n q bad', e = .returned (.int .i64 (n : Nat)) ∧ n ≤ 64 ∧ Rd 52 w' b s q bad' ∧ q ≤ s.size ∧ w.grownBy w' (some b) ∧ cntStep s p bad n q bad' := by
  rcases h : isCount s p bad 64 with _ | ⟨v, q⟩
  · exact (count_no hs hp hr h).mono fun e w' ⟨he, ⟨q, hq, hr'⟩, hg⟩ => ⟨0, q, true, he, by omega, hr', hq, hg, Or.inr ⟨h, rfl, rfl⟩⟩
  · obtain ⟨h1, h2, h3⟩ := isCount_some h
    obtain ⟨n, rfl⟩ : ∃ n : Nat, v = n := ⟨v.toNat, by omega⟩
    exact (count_yes hs hp hr h).mono fun e w' ⟨he, hr', hg⟩ => ⟨n, q, false, he, by omega, hr', (isNum_some h1).2.2.1, hg, Or.inl ⟨h, rfl⟩⟩
set_option maxRecDepth 100000 in
set_option maxHeartbeats 8000000 in
theorem treeRead_uni {w : World} {b p : Nat} {s : ByteArray} {bad : Bool} (hs : s.size ≤ 1000000) (hp : p ≤ s.size) (hr : Rd 52 w b s p bad) :
    Calls Try.prog 63 #[.pointer (some ⟨b, 0, none⟩)] w fun e w' => ∃ A cap l q bad', e = .returned (.slice A l.length cap) ∧ Tr w' A l ∧ l.length ≤ 64 ∧ Rd 52 w' b s q bad' ∧ q ≤ s.size ∧ w.grownBy w' (some b) ∧ treeStep s p bad l q bad' := by
  have hbw := hr.lt
  obtain ⟨i, hi, hz0, hz1, hz2⟩ := info_parts pl_info
  go_enter Try.func63, Try.ntmps63
  go_wp2_with fail
  refine (cnt_uni hs hp hr).mono ?_
  rintro e w1 ⟨n, q0, b0, rfl, hn, hR, hq0, hG, hst⟩
  have hsz := hG.size
  go_wp2_with (at_make; refine wpList_make_own _ rfl _ _ 26 rfl w.heap.size 58 i _ 3 Try.underlying26 hi hz0 hz1 .i64 .i64 (n : Int) n rfl rfl rfl (by rw [hz2]; omega) (by unfold maxLen; omega) hsz ?_; intro w2 hown hg2)
  have hO : Own w2 w.heap.size (.slice (some ⟨w1.heap.size, 0, none⟩) 0 n) [] := hown
  have hR := hR.keep hg2 (by simp)
  have hG := by_own hG hg2 (fun k e => by cases e)
  have hw := wayStep.start hst
  clear hown hg2 hst hr hsz
  generalize w1.heap.size = nb at *
  go_loopw [4, 10] (fun x y wr => ∃ (k : Nat) (l : List Pl) (q : Nat) (b1 : Bool), k ≤ n ∧ l.length = k ∧ y = .int .i64 k ∧ Own wr w.heap.size x l ∧ Rd 52 wr b s q b1 ∧ q ≤ s.size ∧ w.grownBy wr (some b) ∧ (∀ p ∈ l, p.s.size ≤ 1000000) ∧ wayStep s p bad n k l q b1) (fun _ y _ => n - (intOf y).toNat)
  case atStart => exact ⟨0, [], q0, b0, Nat.zero_le _, rfl, rfl, hO, hR, hq0, hG, (fun p hp => by cases hp), hw⟩
  case round =>
    clear hO hR hG hw hq0
    obtain ⟨k, l, q, b1, hkn, hlk, rfl, hO, hR, hq, hG, hz, hw⟩ := hrel
    have hsz := hG.size
    by_cases hlt : k < n
    · have HZ := Lib.hid hz
      have HW := Lib.hid hw
      clear hz hw
      go_wp2_with fail
      refine (readPlace_uni hs hq hR).mono ?_
      clear hR hq
      rintro e w3 ⟨v, q', b2, rfl, hR, hq, hv, hg3, hst⟩
      have hO := hO.kept hg3 (Or.inr (fun e => by have := (World.ownsRow.lt hO b e).1; omega))
      have hG := by_trans hG hg3
      have hw := HW.out.next hlt hst
      have hz : ∀ p ∈ l ++ [v], p.s.size ≤ 1000000 := fun p hp => by
        rcases List.mem_append.1 hp with h | h
        · exact HZ.out p h
        · rw [List.mem_singleton] at h; subst h; exact hv
      have hb4 := below_alloc (Below.refl _ w3) (.cells #[.int .i64 v.n, .int .i64 v.u, .string v.s] 58)
      have hE := AtPl.one (PlIn.new w3 v)
      have hO := hO.below hb4
      have hR := hR.below hb4
      have hG := by_trans hG (by_below hb4 _)
      have hB := hG.size
      have hl3 : l.length ≤ 64 := by omega
      have HLK := Lib.hid hlk
      clear hg3 hb4 hst HZ HW hsz hlk
      have HW := Lib.hid hw
      have HZ := Lib.hid hz
      clear hw hz
      go_wp2_with (at_builtin; refine wpList_app rfl _ _ rfl w.heap.size _ l [v] rfl hO (some ⟨w3.heap.size, 0, none⟩) 1 1 rfl rfl hE (fun e => by cases e) (by have : [v].length = 1 := rfl; omega) hB ?_; intro v' w5 hO5 hg5 _)
      have hR := hR.keep hg5 (fun e => by have := (World.ownsRow.lt hO b e.symm).1; omega)
      have hG := by_own hG hg5 (fun k e => (World.ownsRow.lt hO k e).1)
      go_wp2
      go_roundw
      case rel => exact ⟨k + 1, l ++ [v], q', b2, by omega, by have := HLK.out; rw [List.length_append, this]; rfl, by go_num, hO5, hR, hq, hG, HZ.out, HW.out⟩
      case measure => simp [intOf]; omega
    · obtain rfl : k = n := by omega
      obtain ⟨A, cap, rfl, hTr, _, _⟩ := hO.tr
      have hl64 : l.length ≤ 64 := by omega
      clear hlk
      obtain ⟨r0, r1, r2⟩ := hR.cells
      clear r0 r1
      have rf := hR.frozen
      cases b1
      · have hop := hw.good
        have C := fun w (hT : Tr w A l) => right_any A cap l w (by omega) (fun p hp => Nat.le_trans (hz p hp) (by omega)) hT
        obtain ⟨tb, htb⟩ : ∃ x, treeB l = x := ⟨_, rfl⟩
        rw [htb] at C hop
        have HC := Lib.hid C
        have HOP := Lib.hid hop
        clear C hop hw hz hO htb
        cases tb
        · go_wp2_with fail
          refine (HC.out _ hTr).mono ?_
          rintro e w8 ⟨rfl, hb8⟩
          have hR := hR.below hb8
          have hG := by_trans hG (by_below hb8 _)
          clear hTr hb8 HC r2 rf
          obtain ⟨r0, r1, r2⟩ := hR.cells
          clear r0 r1
          have rf := hR.frozen
          go_wp2_with fail
          go_ret
          exact ⟨none, 0, [], q, true, rfl, Tr.nil _ _, Nat.zero_le _, hR.setBad, hq, by_set hG 2 (.bool true), Or.inr ⟨by rw [HOP.out]; simp, rfl, rfl⟩⟩
        · go_wp2_with fail
          refine (HC.out _ hTr).mono ?_
          rintro e w8 ⟨rfl, hb8⟩
          have hR := hR.below hb8
          have hG := by_trans hG (by_below hb8 _)
          have hTr := hTr.below hb8
          clear hb8 HC r2 rf
          go_wp2_with fail
          go_ret
          exact ⟨A, cap, l, q, false, rfl, hTr, by omega, hR, hq, hG, Or.inl ⟨by rw [HOP.out]; simp, rfl⟩⟩
      · have HOP := Lib.hid (hw.ill hkn)
        clear hw hz hO hTr
        go_wp2_with fail
        go_ret
        exact ⟨none, 0, [], q, true, rfl, Tr.nil _ _, Nat.zero_le _, hR.setBad, hq, by_set hG 2 (.bool true), Or.inr ⟨HOP.out, rfl, rfl⟩⟩
end Go.Proofs.Ytoidondngoljaaa

/- The program's tree.Read, and of whose making the list is. -/
namespace Go.Proofs.Ytoidondngoljaaa
open Go.RowKit Tre Cod Nam

set_option maxRecDepth 100000 in
set_option maxHeartbeats 8000000 in
theorem treeRead_slv {w : World} {b p : Nat} {s : ByteArray} {bad : Bool} (hs : s.size ≤ 1000000) (hp : p ≤ s.size) (hr : Rd 52 w b s p bad) :
    Calls Try.prog 63 #[.pointer (some ⟨b, 0, none⟩)] w fun e w' => ∃ A cap l q bad', e = .returned (.slice A l.length cap) ∧ SlV plE w' A cap l ∧ Frs w.heap.size A ∧ l.length ≤ 64 ∧ Rd 52 w' b s q bad' ∧ q ≤ s.size ∧ w.grownBy w' (some b) ∧ treeStep s p bad l q bad' := by
  have hbw := hr.lt
  obtain ⟨i, hi, hz0, hz1, hz2⟩ := info_parts pl_info
  go_enter Try.func63, Try.ntmps63
  go_wp2_with fail
  refine (cnt_uni hs hp hr).mono ?_
  rintro e w1 ⟨n, q0, b0, rfl, hn, hR, hq0, hG, hst⟩
  have hsz := hG.size
  go_wp2_with (at_make; refine wpList_make_own _ rfl _ _ 26 rfl w.heap.size 58 i _ 3 Try.underlying26 hi hz0 hz1 .i64 .i64 (n : Int) n rfl rfl rfl (by rw [hz2]; omega) (by unfold maxLen; omega) hsz ?_; intro w2 hown hg2)
  have hO : Own w2 w.heap.size (.slice (some ⟨w1.heap.size, 0, none⟩) 0 n) [] := hown
  have hR := hR.keep hg2 (by simp)
  have hG := by_own hG hg2 (fun k e => by cases e)
  have hw := wayStep.start hst
  clear hown hg2 hst hr hsz
  generalize w1.heap.size = nb at *
  go_loopw [4, 10] (fun x y wr => ∃ (k : Nat) (l : List Pl) (q : Nat) (b1 : Bool), k ≤ n ∧ l.length = k ∧ y = .int .i64 k ∧ Own wr w.heap.size x l ∧ Rd 52 wr b s q b1 ∧ q ≤ s.size ∧ w.grownBy wr (some b) ∧ (∀ p ∈ l, p.s.size ≤ 1000000) ∧ wayStep s p bad n k l q b1) (fun _ y _ => n - (intOf y).toNat)
  case atStart => exact ⟨0, [], q0, b0, Nat.zero_le _, rfl, rfl, hO, hR, hq0, hG, (fun p hp => by cases hp), hw⟩
  case round =>
    clear hO hR hG hw hq0
    obtain ⟨k, l, q, b1, hkn, hlk, rfl, hO, hR, hq, hG, hz, hw⟩ := hrel
    have hsz := hG.size
    by_cases hlt : k < n
    · have HZ := Lib.hid hz
      have HW := Lib.hid hw
      clear hz hw
      go_wp2_with fail
      refine (readPlace_uni hs hq hR).mono ?_
      clear hR hq
      rintro e w3 ⟨v, q', b2, rfl, hR, hq, hv, hg3, hst⟩
      have hO := hO.kept hg3 (Or.inr (fun e => by have := (World.ownsRow.lt hO b e).1; omega))
      have hG := by_trans hG hg3
      have hw := HW.out.next hlt hst
      have hz : ∀ p ∈ l ++ [v], p.s.size ≤ 1000000 := fun p hp => by
        rcases List.mem_append.1 hp with h | h
        · exact HZ.out p h
        · rw [List.mem_singleton] at h; subst h; exact hv
      have hb4 := below_alloc (Below.refl _ w3) (.cells #[.int .i64 v.n, .int .i64 v.u, .string v.s] 58)
      have hE := AtPl.one (PlIn.new w3 v)
      have hO := hO.below hb4
      have hR := hR.below hb4
      have hG := by_trans hG (by_below hb4 _)
      have hB := hG.size
      have hl3 : l.length ≤ 64 := by omega
      have HLK := Lib.hid hlk
      clear hg3 hb4 hst HZ HW hsz hlk
      have HW := Lib.hid hw
      have HZ := Lib.hid hz
      clear hw hz
      go_wp2_with (at_builtin; refine wpList_app rfl _ _ rfl w.heap.size _ l [v] rfl hO (some ⟨w3.heap.size, 0, none⟩) 1 1 rfl rfl hE (fun e => by cases e) (by have : [v].length = 1 := rfl; omega) hB ?_; intro v' w5 hO5 hg5 _)
      have hR := hR.keep hg5 (fun e => by have := (World.ownsRow.lt hO b e.symm).1; omega)
      have hG := by_own hG hg5 (fun k e => (World.ownsRow.lt hO k e).1)
      go_wp2
      go_roundw
      case rel => exact ⟨k + 1, l ++ [v], q', b2, by omega, by have := HLK.out; rw [List.length_append, this]; rfl, by go_num, hO5, hR, hq, hG, HZ.out, HW.out⟩
      case measure => simp [intOf]; omega
    · obtain rfl : k = n := by omega
      obtain ⟨A, cap, rfl, hTr, hA0, hAc⟩ := hO.tr
      have HA := Lib.hid (⟨hA0, hAc, hO.frs⟩ : (A = none → cap = 0) ∧ l.length ≤ cap ∧ Frs w.heap.size A)
      clear hA0 hAc
      have hl64 : l.length ≤ 64 := by omega
      clear hlk
      obtain ⟨r0, r1, r2⟩ := hR.cells
      clear r0 r1
      have rf := hR.frozen
      cases b1
      · have hop := hw.good
        have C := fun w (hT : Tr w A l) => right_any A cap l w (by omega) (fun p hp => Nat.le_trans (hz p hp) (by omega)) hT
        obtain ⟨tb, htb⟩ : ∃ x, treeB l = x := ⟨_, rfl⟩
        rw [htb] at C hop
        have HC := Lib.hid C
        have HOP := Lib.hid hop
        clear C hop hw hz hO htb
        cases tb
        · go_wp2_with fail
          refine (HC.out _ hTr).mono ?_
          rintro e w8 ⟨rfl, hb8⟩
          have hR := hR.below hb8
          have hG := by_trans hG (by_below hb8 _)
          clear hTr hb8 HC r2 rf
          obtain ⟨r0, r1, r2⟩ := hR.cells
          clear r0 r1
          have rf := hR.frozen
          go_wp2_with fail
          go_ret
          exact ⟨none, 0, [], q, true, rfl, SlV.nil _ _, frs_nil _, Nat.zero_le _, hR.setBad, hq, by_set hG 2 (.bool true), Or.inr ⟨by rw [HOP.out]; simp, rfl, rfl⟩⟩
        · go_wp2_with fail
          refine (HC.out _ hTr).mono ?_
          rintro e w8 ⟨rfl, hb8⟩
          have hR := hR.below hb8
          have hG := by_trans hG (by_below hb8 _)
          have hTr := hTr.below hb8
          clear hb8 HC r2 rf
          go_wp2_with fail
          go_ret
          exact ⟨A, cap, l, q, false, rfl, ⟨plSl.2 hTr, HA.out.1, HA.out.2.1⟩, HA.out.2.2, by omega, hR, hq, hG, Or.inl ⟨by rw [HOP.out]; simp, rfl⟩⟩
      · have HOP := Lib.hid (hw.ill hkn)
        clear hw hz hO hTr
        go_wp2_with fail
        go_ret
        exact ⟨none, 0, [], q, true, rfl, SlV.nil _ _, frs_nil _, Nat.zero_le _, hR.setBad, hq, by_set hG 2 (.bool true), Or.inr ⟨HOP.out, rfl, rfl⟩⟩

theorem treeRead_yes {w : World} {b p q : Nat} {s : ByteArray} {l : List Pl} (hs : s.size ≤ 1000000) (hp : p ≤ s.size) (hr : Rd 52 w b s p false) (h : isTree s p false = some (l, q)) :
    Calls Try.prog 63 #[.pointer (some ⟨b, 0, none⟩)] w fun e w' => ∃ A cap, e = .returned (.slice A l.length cap) ∧ SlV plE w' A cap l ∧ Frs w.heap.size A ∧ Rd 52 w' b s q false ∧ w.grownBy w' (some b) := by
  refine (treeRead_slv hs hp hr).mono ?_
  rintro e w' ⟨A, cap, l', q', bad', rfl, h1, h2, _, hR, _, hG, st⟩
  rcases st with ⟨h', rfl⟩ | ⟨h', _⟩
  · rw [h] at h'; cases h'
    exact ⟨A, cap, rfl, h1, h2, hR, hG⟩
  · rw [h] at h'; cases h'
end Go.Proofs.Ytoidondngoljaaa

/- The program's readOps, where operations stand. -/
namespace Go.Proofs.Ytoidondngoljaaa
open Go.RowKit Tre Cod Nam

theorem op_zero : ∃ i z, Try.prog.info? opE.e = some i ∧ i.zero = some z ∧ z.cells.toList = opE.c zeroMv := by
  obtain ⟨i, hi, hz, _, _⟩ := info_parts (show (Try.prog.info? 35).map (fun i => (i.zero, i.size, i.bytes)) = some (some (.agg #[.int .i64 0, .int .i64 0, .int .i64 0, .int .i64 0, .int .i64 0, .int .i64 0, .string ⟨#[]⟩]), 7, 64) by kernel_rfl)
  exact ⟨i, _, hi, hz, rfl⟩

set_option maxRecDepth 100000 in
set_option maxHeartbeats 2000000 in
theorem pReadOps_yes {w : World} {b p : Nat} {s : ByteArray} (l : List Mv) (pos : Nat → Nat) (hs : s.size ≤ 1000000) (hp : p ≤ s.size) (hr : Rd 52 w b s p false) (hl : l.length ≤ 60)
    (hcnt : isCount s p false 4096 = some ((l.length : Int), pos 0)) (hop : ∀ k (h : k < l.length), isOp s (pos k) false = some (l[k], pos (k + 1))) (hpos : ∀ k, k ≤ l.length → pos k ≤ s.size) :
    Calls Try.prog 65 #[.pointer (some ⟨b, 0, none⟩)] w fun e w' => ∃ A c, e = .returned (.slice A l.length c) ∧ SlV opE w' A c l ∧ Frs w.heap.size A ∧ Rd 52 w' b s (pos l.length) false ∧ w.grownBy w' (some b) := by
  have hbw := hr.lt
  have CC := count_yes (most := 4096) hs hp hr hcnt
  have HOP := Lib.hid hop
  have HPO := Lib.hid hpos
  clear hop hpos hcnt
  go_enter Try.func65, Try.ntmps65
  go_wp2_with fail
  refine CC.mono ?_
  rintro e w1 ⟨rfl, hR, hG⟩
  have hsz := hG.size
  clear CC hr hp
  go_wp2_with (at_make; refine El.wpList_make opInn zeroMv op_zero rfl _ _ rfl w.heap.size 0 l.length rfl rfl (by omega) (Nat.zero_le _) hsz ?_; intro w2 hO hg2 hg2s)
  replace hO : opE.Own w2 w.heap.size (.slice (some ⟨w1.heap.size, 0, none⟩) 0 l.length) [] := hO
  replace hR := hR.keep hg2 (by simp)
  replace hG := by_own hG hg2 (fun k e => by cases e)
  clear hg2 hg2s hsz
  generalize w1.heap.size = nb at *
  go_loopw [4, 10] (fun x y wr => ∃ k : Nat, k ≤ l.length ∧ y = .int .i64 k ∧ opE.Own wr w.heap.size x (l.take k) ∧ Rd 52 wr b s (pos k) false ∧ w.grownBy wr (some b)) (fun _ y _ => l.length - (intOf y).toNat)
  case atStart => exact ⟨0, Nat.zero_le _, rfl, hO, hR, hG⟩
  case round =>
    clear hO hR hG
    obtain ⟨k, hk, rfl, hO, hR, hG⟩ := hrel
    by_cases hlt : k < l.length
    · have CR := opRead_yes hs (HPO.out k hk) hR (HOP.out k hlt)
      have htk := List.take_succ_eq_append_getElem hlt
      obtain ⟨m, hm⟩ : ∃ m, l[k] = m := ⟨_, rfl⟩
      rw [hm] at CR htk
      have HTK := Lib.hid htk
      have hsz := hG.size
      clear hm htk
      go_wp2_with fail
      refine CR.mono ?_
      clear CR hR
      rintro e w3 ⟨rfl, hR, hg3⟩
      replace hO := hO.kept hg3 (Or.inr (fun e => by have := (hO.lt b e).1; omega))
      replace hG := by_trans hG hg3
      have hb4 := below_alloc (Below.refl _ w3) (.cells #[.int .i64 m.C, .int .i64 m.D, .int .i64 m.I, .int .i64 m.M, .int .i64 m.K, .int .i64 m.U, .string m.s] 35)
      have hE : opE.Sl (w3.alloc (.cells #[.int .i64 m.C, .int .i64 m.D, .int .i64 m.I, .int .i64 m.M, .int .i64 m.K, .int .i64 m.U, .string m.s] 35)) (some ⟨w3.heap.size, 0, none⟩) [m] := (El.In.new (E := opE) w3 m _ rfl).sl
      replace hO := hO.below hb4
      replace hR := hR.below hb4
      replace hG := by_trans hG (by_below hb4 _)
      have hB := hG.size
      have hlt2 : (l.take k).length + 1 ≤ 100000 := by rw [List.length_take]; omega
      have HLT := Lib.hid hlt2
      clear hg3 hb4 hsz hlt2
      go_wp2_with (at_builtin; refine El.wpList_app opInn rfl _ _ rfl w.heap.size _ (l.take k) [m] rfl hO (some ⟨w3.heap.size, 0, none⟩) 1 1 rfl rfl hE (fun e => by cases e) HLT.out hB ?_; intro v' w5 hO5 hg5 _)
      replace hR := hR.keep hg5 (fun e => by have := (hO.lt b e.symm).1; omega)
      replace hG := by_own hG hg5 (fun k e => (hO.lt k e).1)
      go_wp2
      go_roundw
      case rel => exact ⟨k + 1, by omega, by go_num, by rw [HTK.out]; exact hO5, hR, hG⟩
      case measure => simp [intOf]; omega
    · obtain rfl : k = l.length := by omega
      rw [List.take_length] at hO
      obtain ⟨A, c, rfl, hS, h0, hc⟩ := hO.sl
      have HS := Lib.hid (⟨⟨hS, h0, hc⟩, hO.frs⟩ : SlV opE wr A c l ∧ Frs w.heap.size A)
      clear hS h0 hc hO
      go_wp2_with fail
      go_ret
      exact ⟨A, c, rfl, HS.out.1, HS.out.2, hR, hG⟩
end Go.Proofs.Ytoidondngoljaaa

/- The program's Read of a past, where one stands. -/
namespace Go.Proofs.Ytoidondngoljaaa
open Go.RowKit Tre Cod Pst Nam

set_option maxRecDepth 100000 in
set_option maxHeartbeats 2000000 in
theorem pPastRead_yes {w : World} {b p p1 p2 : Nat} {s : ByteArray} (V : Pv) (pos : Nat → Nat) (hs : s.size ≤ 1000000) (hp : p ≤ s.size) (hr : Rd 52 w b s p false) (hI : PInv V) (hl : V.ops.length ≤ 60)
    (hT : isTree s p false = some (V.base, p1)) (h1 : p1 ≤ s.size) (hC : isCount s p1 false 1099511627776 = some (V.t, p2)) (h2 : p2 ≤ s.size)
    (hcnt : isCount s p2 false 4096 = some ((V.ops.length : Int), pos 0)) (hop : ∀ k (h : k < V.ops.length), isOp s (pos k) false = some (V.ops[k], pos (k + 1))) (hpos : ∀ k, k ≤ V.ops.length → pos k ≤ s.size) :
    Calls Try.prog 29 #[.pointer (some ⟨b, 0, none⟩)] w fun e w' => ∃ y : Pw, e = .returned (.agg #[.slice y.bA y.base.length y.bc, .int .i64 y.t, .slice y.oA y.ops.length y.oc, .slice y.uA y.us.length y.uc, .slice y.wA y.now.length y.wc]) ∧ PastOk w' y ∧ y.v = V ∧ Rd 52 w' b s (pos V.ops.length) false ∧ w.grownBy w' (some b) := by
  have hsort := (treeB_facts hI.tree).2.1
  have hbl := tree_len hI.tree
  have hR := hI.right
  have hsz : ∀ m ∈ V.ops, m.s.size ≤ 9223372036854775807 := fun m hm => by have := opB_wide (hI.ok m hm); omega
  have hun := hI.un
  have hnw := hI.nw
  have hopr : OpsR V.ops V.t := hR.2.2.2.1
  clear hI hR
  obtain ⟨base, t, l, us, now⟩ := V
  simp only at hl hT hC hcnt hop hpos hsort hbl hsz hun hnw hopr
  have hbw := hr.lt
  have CF := fun (A : Option Addr) (c : Nat) (O : Option Addr) (oc : Nat) (wx : World) (hA : SlV plE wx A c base) (hO : opE.Sl wx O l) => mvFold_any A c base O oc l wx (by omega) hsort hA hO
  rw [← hnw, ← hun] at CF
  have HCF := Lib.hid CF
  have HRO := Lib.hid (fun (A : Option Addr) (c : Nat) (wx : World) (h : opE.Sl wx A l) => rightOps_any A c l t wx (by omega) hsz h true ⟨fun _ => hopr, fun _ => rfl⟩)
  have HCO := Lib.hid (fun (wx : World) (h : Rd 52 wx b s p2 false) => pReadOps_yes l pos hs h2 h hl hcnt hop hpos)
  have HCC := Lib.hid (fun (wx : World) (h : Rd 52 wx b s p1 false) => count_yes (most := 1099511627776) hs h1 h hC)
  have HCT := Lib.hid (fun (wx : World) (h : Rd 52 wx b s p false) => treeRead_yes hs hp h hT)
  clear CF hun hnw hcnt hop hpos hC hT hsz hopr hsort
  have hR0 := hr.below (below_alloc (Below.refl w.heap.size w) (.cells #[.slice none 0 0, .int .i64 0, .slice none 0 0, .slice none 0 0, .slice none 0 0] 29))
  have hP : pwE.In (w.alloc (.cells #[.slice none 0 0, .int .i64 0, .slice none 0 0, .slice none 0 0, .slice none 0 0] 29)) w.heap.size Pw.zero := El.In.new (E := pwE) w Pw.zero #[.slice none 0 0, .int .i64 0, .slice none 0 0, .slice none 0 0, .slice none 0 0] rfl
  have hG := by_below (below_alloc (Below.refl w.heap.size w) (.cells #[.slice none 0 0, .int .i64 0, .slice none 0 0, .slice none 0 0, .slice none 0 0] 29)) (some b)
  clear hr
  go_enter Try.func29, Try.ntmps29
  go_wp2_with fail
  have hbA : b < (w.alloc (.cells #[.slice none 0 0, .int .i64 0, .slice none 0 0, .slice none 0 0, .slice none 0 0] 29)).heap.size := by rw [alloc_size]; omega
  generalize w.alloc (.cells #[.slice none 0 0, .int .i64 0, .slice none 0 0, .slice none 0 0, .slice none 0 0] 29) = W0 at *
  obtain ⟨n2, h3⟩ : ∃ n, w.heap.size = n := ⟨_, rfl⟩
  rw [h3] at hP ⊢
  have hn2 : w.heap.size ≤ n2 := by omega
  have hne : n2 ≠ b := by omega
  have hne' : some n2 ≠ some b := fun e => hne (Option.some.inj e)
  clear h3
  refine (HCT.out W0 hR0).mono ?_
  rintro e w1 ⟨A1, c1, rfl, hS1, hF1, hR1, hG1⟩
  have hP1 := hP.keep hG1 hne'
  have hGa := by_trans hG hG1
  clear hR0 hP hG HCT
  go_wp2_with fail
  refine (HCC.out w1 hR1).mono ?_
  rintro e w2 ⟨rfl, hR2, hG2⟩
  have hP2 := hP1.keep hG2 hne'
  have hS2 := hS1.keep hF1 hG2 hbA
  have hGb := by_trans hGa hG2
  have hbs2 : b < w2.heap.size := Nat.lt_of_lt_of_le hbw hGb.size
  clear hP1 hS1 hGa hR1 HCC hG1 hG2
  go_wp2_with fail
  refine (HCO.out w2 hR2).mono ?_
  rintro e w3 ⟨A3, c3, rfl, hS3, hF3, hR3, hG3⟩
  have hP3 := hP2.keep hG3 hne'
  have hS2' := hS2.keep hF1 hG3 hbA
  have hGc := by_trans hGb hG3
  clear hP2 hS2 hGb hR2 HCO hG3
  obtain ⟨r0, r1, r2⟩ := hR3.cells
  clear r0 r1
  go_wp2_with fail
  clear r2
  refine (HRO.out A3 c3 w3 hS3.1).mono ?_
  rintro e w4 ⟨rfl, hb4⟩
  have hP4 := hP3.below hb4
  have hS4 := hS2'.below hb4
  have hS34 := hS3.below hb4
  have hR4 := hR3.below hb4
  have hGd := by_trans hGc (by_below hb4 _)
  clear hP3 hS2' hS3 hR3 hGc hb4 HRO
  go_wp2_with fail
  refine (HCF.out A1 c1 A3 c3 w4 hS4 hS34.1).mono ?_
  rintro e w5 ⟨A5, c5, U5, uc5, rfl, hS5, hU5, hf5, hfu5, hb5⟩
  have hP5 := hP4.below hb5
  have hS15 := hS4.below hb5
  have hS35 := hS34.below hb5
  have hR5 := hR4.below hb5
  have hGe := by_trans hGd (by_below hb5 _)
  have hOk : PastOk w5 ⟨A1, c1, base, t, A3, c3, l, U5, uc5, us, A5, c5, now⟩ := ⟨hS15, hS35, hU5, hS5⟩
  clear hP4 hS4 hS34 hR4 hGd hb5 HCF hS5 hU5 hf5 hfu5 hS15 hS35
  go_wp2_with (first | (refine El.store pwRow rfl _ _ rfl n2 ⟨A1, c1, base, t, A3, c3, l, U5, uc5, us, A5, c5, now⟩ #[.slice A1 base.length c1, .int .i64 t, .slice A3 l.length c3, .slice U5 us.length uc5, .slice A5 now.length c5] rfl rfl rfl Pw.zero hP5 ?_) | fail)
  refine El.ret1 pwRow (hP5.set ⟨A1, c1, base, t, A3, c3, l, U5, uc5, us, A5, c5, now⟩ #[.slice A1 base.length c1, .int .i64 t, .slice A3 l.length c3, .slice U5 us.length uc5, .slice A5 now.length c5] rfl) rfl rfl rfl #[.slice A1 base.length c1, .int .i64 t, .slice A3 l.length c3, .slice U5 us.length uc5, .slice A5 now.length c5] rfl ?_
  exact ⟨⟨A1, c1, base, t, A3, c3, l, U5, uc5, us, A5, c5, now⟩, rfl, hOk.off hP5 (by_row _ _ _), rfl, hR5.row n2 _ (fun e => hne e.symm), by_setRow hGe n2 _ hn2⟩
end Go.Proofs.Ytoidondngoljaaa
