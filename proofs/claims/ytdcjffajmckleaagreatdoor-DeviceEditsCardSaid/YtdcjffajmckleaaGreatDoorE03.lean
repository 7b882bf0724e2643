/- Texts laid one behind the other: Gr, Vh, Tn, Um, Vm, Ya, Yb, Ra, To, Uo, Ic, Eb, Fc, Qb, Za, Zb, Zc, Tc, Td, Tl, Tp, Yc, Yd, Ye, Rb, Rd, Wk, Wm, Wb, Wa. -/
import Derived.Test.YtdcjffajmckleaaGreatDoorE02
import Derived.Deep.RegionHeld3
import Derived.Lib.QuietBelow
import Derived.Lib.SmallJoins
import Derived.Deep.SlicePairs
import Derived.ChangeSlices
import Derived.ChangeShapes
import Derived.Lib.MinMax
import Derived.BigQuiet
import Derived.Deep.QuietTactic
import Derived.WalkKit
import Derived.Laws.IdiomStrings
/- A region that draws its order, whose last operation writes what others of it read: S need not hold behind that one. No function of the program in it. -/
namespace Go.Proofs.YtdcjffajmckleaaGreatDoor
open Go.RowKit

section
variable {P : Program} {ops : Array Oper} {Q : Exit → Act → World → Prop} {md : Region.Mode} {S : World → Prop} {n : Nat}

/-- Whatever order is picked from here on; S holds behind every operation till number n comes. -/
def anyG (P : Program) (md : Region.Mode) (ops : Array Oper) (Q : Exit → Act → World → Prop) (S : World → Prop) (n : Nat) : Nat → Array Bool → Act → World → Prop
  | 0, listed, a, w => Region.ready md ops listed = [] ∧ Q .normal a w
  | fuel + 1, listed, a, w =>
    (Region.ready md ops listed = [] → Q .normal a w) ∧
    ∀ i ∈ Region.ready md ops listed, wpOp P ops Q i (fun b v => ((listed.setIfInBounds i true).getD n true = false → S v) ∧ anyG P md ops Q S n fuel (listed.setIfInBounds i true) b v) a w
theorem anyG_any : ∀ (fuel : Nat) (listed : Array Bool) (a : Act) (w : World), anyG P md ops Q S n fuel listed a w → wpAny P md ops Q fuel listed a w
  | 0, _, _, _, h => h
  | fuel + 1, _, _, _, h => ⟨h.1, fun i hi => wpOp_mono (fun b v hb => anyG_any fuel _ b v hb.2) (h.2 i hi)⟩
theorem region_anyG {id : Nat} {a : Act} {w : World} (n : Nat) (hm : P.follows .mixedOrders = true) (h : anyG P .any ops Q S n ops.size (Array.replicate ops.size false) a w.drew) : (Code.region id ops true).wp P Q a w :=
  wp_region_any hm (anyG_any _ _ _ _ h)

/-- Number n waits for number i. -/
def waitsB (md : Region.Mode) (ops : Array Oper) (n i : Nat) : Bool := match ops[n]? with
  | none => false
  | some o => o.after.any fun e => Region.binds md e && e.on == i
theorem waits_spec {listed : Array Bool} {i : Nat} (hl : waitsB md ops n i = true) (hr : n ∈ Region.ready md ops listed) : listed.getD i false = true := by
  obtain ⟨_, o, ho, hall⟩ := mem_ready.1 hr
  unfold waitsB at hl
  rw [ho] at hl
  obtain ⟨e, he, hb⟩ := Array.any_eq_true'.1 hl
  rw [Bool.and_eq_true, beq_iff_eq] at hb
  have := hall e he hb.1
  rw [hb.2] at this; exact this
theorem getD_false {listed : Array Bool} {i : Nat} (h : listed.getD i true = false) : listed.getD i false = false := by
  rcases Nat.lt_or_ge i listed.size with h1 | h1
  · simp [h1] at h ⊢; exact h
  · simp [Array.getElem?_eq_none h1] at h
theorem getD_here (listed : Array Bool) (n : Nat) : (listed.setIfInBounds n true).getD n true = true := by
  rcases Nat.lt_or_ge n listed.size with h1 | h1
  · simp [h1]
  · have h2 : (listed.setIfInBounds n true).size ≤ n := by simpa using h1
    simp [Array.getElem?_eq_none h2]

theorem anyG_first {i : Nat} {oi : Oper} {v : Value} (hi : ops[i]? = some oi) (hin : i ≠ n) (hsel : ∀ (j : Nat) (o : Oper) cs b, ops[j]? = some o → o.op ≠ .select cs b)
    (hQ : ∀ c a w, Q (.panic c) (a.put oi.dst v) w → Q (.panic c) a w) (T : World → Prop) (hT : waitsB md ops n i = true ∨ ∀ w, T w) :
    ∀ (fuel : Nat) (listed : Array Bool) (a : Act) (w : World),
      (∀ j oj, ops[j]? = some oj → j ≠ i → listed.getD j true = false → (∀ e ∈ oj.after, Region.binds md e = true → e.on ≠ i) → oi.apart ops oj = true) →
      i ∈ Region.ready md ops listed → YieldsIf P ops T oi v a → T w → (listed.getD n true = false → S w) → ((∀ w, T w) ∨ (listed.getD n true = false ∧ ∀ w, S w → T w)) →
      anyG P md ops Q S n fuel (listed.setIfInBounds i true) (a.put oi.dst v) w → anyG P md ops Q S n (fuel + 1) listed a w := by
  intro fuel
  induction fuel with
  | zero =>
    intro listed a w _ hr hy hTw hS _ H
    refine ⟨fun h => (by rw [h] at hr; cases hr), fun j hj => ?_⟩
    by_cases hji : j = i
    · subst hji; exact hy.wpOp hi hTw ⟨fun h => hS (by rw [getD_set_ne true hin] at h; exact h), H⟩
    · have h0 := ready_mono hj hji
      rw [H.1] at h0
      cases h0
  | succ fuel ih =>
    intro listed a w hfree hr hy hTw hS hTT H
    refine ⟨fun h => (by rw [h] at hr; cases hr), fun j hj => ?_⟩
    by_cases hji : j = i
    · subst hji; exact hy.wpOp hi hTw ⟨fun h => hS (by rw [getD_set_ne true hin] at h; exact h), H⟩
    · have hunf := getD_false (mem_ready.1 hr).1
      have h1 := H.2 j (ready_mono hj hji)
      obtain ⟨hjun, oj, hoj, hall⟩ := mem_ready.1 hj
      have hnot : ∀ e ∈ oj.after, Region.binds md e = true → e.on ≠ i := fun e he hb heq => by
        have h2 := hall e he hb
        rw [heq, hunf] at h2; cases h2
      have h2 := wpOp_putIf hoj (hfree j oj hoj hji hjun hnot) (fun cs b => hsel i oi cs b hi) (fun cs b => hsel j oj cs b hoj) hQ hy h1
      refine wpOp_mono (fun b u h3 => ?_) h2
      have hSu : (listed.setIfInBounds j true).getD n true = false → S u := fun h => h3.2.1 (by
        rw [Array.setIfInBounds_comm _ _ (Ne.symm hji), getD_set_ne true hin]; exact h)
      have hTu : T u ∧ ((∀ w, T w) ∨ ((listed.setIfInBounds j true).getD n true = false ∧ ∀ w, S w → T w)) := by
        rcases hTT with hTT | ⟨hun, hST⟩
        · exact ⟨hTT u, Or.inl hTT⟩
        · by_cases hjn : j = n
          · rcases hT with hT | hT
            · subst hjn
              have h4 := waits_spec hT hj
              rw [hunf] at h4; cases h4
            · exact ⟨hT u, Or.inl hT⟩
          · have hn2 : (listed.setIfInBounds j true).getD n true = false := by rw [getD_set_ne true hjn]; exact hun
            exact ⟨hST u (hSu hn2), Or.inr ⟨hn2, hST⟩⟩
      refine ⟨hSu, ih (listed.setIfInBounds j true) b u (fun k ok hk hki hku hno => hfree k ok hk hki ?_ hno) (ready_mono hr (Ne.symm hji)) h3.1 hTu.1 hSu hTu.2 ?_⟩
      · by_cases hjk : j = k
        · subst hjk; exact hjun
        · rw [getD_set_ne true hjk] at hku; exact hku
      · rw [Array.setIfInBounds_comm _ _ hji]
        exact h3.2.2
/-- What yields in whatever world meets S, and for what number n waits. -/
theorem anyG_take {i : Nat} {oi : Oper} {v : Value} {fuel : Nat} {listed : Array Bool} {a : Act} {w : World} (hi : ops.toList[i]? = some oi)
    (hl : waitsB md ops n i = true) (hin : (i == n || listed.getD n true) = false) (hs : Region.noSelect ops = true) (hf : Region.free md ops listed i = true) (hr : (Region.ready md ops listed).contains i = true)
    (hQ : ∀ c a w, Q (.panic c) (a.put oi.dst v) w → Q (.panic c) a w) (hy : YieldsIf P ops S oi v a) (hS : S w)
    (h : anyG P md ops Q S n fuel (listed.setIfInBounds i true) (a.put oi.dst v) w) : anyG P md ops Q S n (fuel + 1) listed a w := by
  have hi : ops[i]? = some oi := by rw [← Array.getElem?_toList]; exact hi
  rw [Bool.or_eq_false_iff] at hin
  exact anyG_first hi (by simpa using hin.1) (Region.noSelect_spec hs) hQ S (Or.inl hl) fuel listed a w (Region.free_spec hi hf) (by simpa using hr) hy hS (fun _ => hS) (Or.inr ⟨hin.2, fun _ h => h⟩) h
/-- What yields in every world: behind number n, too. -/
theorem anyG_plain {i : Nat} {oi : Oper} {v : Value} {fuel : Nat} {listed : Array Bool} {a : Act} {w : World} (hi : ops.toList[i]? = some oi)
    (hin : (i == n) = false) (hs : Region.noSelect ops = true) (hf : Region.free md ops listed i = true) (hr : (Region.ready md ops listed).contains i = true)
    (hQ : ∀ c a w, Q (.panic c) (a.put oi.dst v) w → Q (.panic c) a w) (hy : Yields P ops oi v a) (hS : listed.getD n true = false → S w)
    (h : anyG P md ops Q S n fuel (listed.setIfInBounds i true) (a.put oi.dst v) w) : anyG P md ops Q S n (fuel + 1) listed a w := by
  have hi : ops[i]? = some oi := by rw [← Array.getElem?_toList]; exact hi
  exact anyG_first hi (by simpa using hin) (Region.noSelect_spec hs) hQ (fun _ => True) (Or.inr fun _ => trivial) fuel listed a w (Region.free_spec hi hf) (by simpa using hr) hy.yieldsIf trivial hS (Or.inl fun _ => trivial) h
theorem anyG_done {listed : Array Bool} {a : Act} {w : World} (hr : Region.ready md ops listed = []) (h : Q .normal a w) : ∀ fuel, anyG P md ops Q S n fuel listed a w
  | 0 => ⟨hr, h⟩
  | _ + 1 => ⟨fun _ => h, by rw [hr]; simp⟩
/-- One of these comes next. -/
def AllG (P : Program) (md : Region.Mode) (ops : Array Oper) (Q : Exit → Act → World → Prop) (S : World → Prop) (n fuel : Nat) (listed : Array Bool) (a : Act) (w : World) (rs : List Nat) : Prop :=
  ∀ i ∈ rs, wpOp P ops Q i (fun b v => ((listed.setIfInBounds i true).getD n true = false → S v) ∧ anyG P md ops Q S n fuel (listed.setIfInBounds i true) b v) a w
theorem anyG_step {rs : List Nat} {fuel : Nat} {listed : Array Bool} {a : Act} {w : World} (hr : Region.ready md ops listed = rs) (hne : rs ≠ []) (h : AllG P md ops Q S n fuel listed a w rs) : anyG P md ops Q S n (fuel + 1) listed a w :=
  ⟨fun h0 => absurd (hr ▸ h0) hne, hr ▸ h⟩
theorem AllG.nil {fuel : Nat} {listed : Array Bool} {a : Act} {w : World} : AllG P md ops Q S n fuel listed a w [] := fun _ h => by cases h
/-- An operation of the middle: S anew. -/
theorem AllG.cons {fuel : Nat} {listed : Array Bool} {a : Act} {w : World} {i : Nat} {o : Oper} {rs : List Nat} (ho : ops.toList[i]? = some o)
    (h : ∀ K : Act → World → Prop, RowKit.Hid (∀ b v, S v → anyG P md ops Q S n fuel (listed.setIfInBounds i true) b v → K b v) → if Region.wanted o (yielded ops a.tmps) = true then Oper.wp P o a w K Q else K (a.put o.dst undef) w)
    (hs : AllG P md ops Q S n fuel listed a w rs) : AllG P md ops Q S n fuel listed a w (i :: rs) := fun j hj => by
  rcases List.mem_cons.1 hj with rfl | hj
  · exact wpOp_step (by rw [← Array.getElem?_toList]; exact ho) (fun K hK => h K (Lib.hid fun b v hS hW => hK b v ⟨fun _ => hS, hW⟩))
  · exact hs j hj
/-- The last one: nothing is asked behind it. -/
theorem AllG.last {fuel : Nat} {listed : Array Bool} {a : Act} {w : World} {o : Oper} (ho : ops.toList[n]? = some o)
    (h : ∀ K : Act → World → Prop, RowKit.Hid (∀ b v, anyG P md ops Q S n fuel (listed.setIfInBounds n true) b v → K b v) → if Region.wanted o (yielded ops a.tmps) = true then Oper.wp P o a w K Q else K (a.put o.dst undef) w) :
    AllG P md ops Q S n fuel listed a w [n] := fun j hj => by
  rw [List.mem_singleton] at hj
  subst hj
  exact wpOp_step (by rw [← Array.getElem?_toList]; exact ho) (fun K hK => h K (Lib.hid fun b v hW => hK b v ⟨fun e => (by rw [getD_here] at e; cases e), hW⟩))
end
end Go.Proofs.YtdcjffajmckleaaGreatDoor

/- A past: what it is, where it lies; what is told of it by the document's answers. -/
namespace Go.Proofs.YtdcjffajmckleaaGreatDoor
open Go.RowKit Tre Cod Pst

/-- A past's lists. -/
structure Pv where
  base : List Pl
  t : Int
  ops : List Mv
  us : List Un
  now : List Pl
def Pv.zero : Pv := ⟨[], 0, [], [], []⟩
/-- So, and where its slices lie. -/
structure Pw where
  bA : Option Addr
  bc : Nat
  base : List Pl
  t : Int
  oA : Option Addr
  oc : Nat
  ops : List Mv
  uA : Option Addr
  uc : Nat
  us : List Un
  wA : Option Addr
  wc : Nat
  now : List Pl
def Pw.v (x : Pw) : Pv := ⟨x.base, x.t, x.ops, x.us, x.now⟩
def Pw.zero : Pw := ⟨none, 0, [], 0, none, 0, [], none, 0, [], none, 0, []⟩
def pwE : El Pw where
  e := 40
  k := 5
  c x := [.slice x.bA x.base.length x.bc, .int .i64 x.t, .slice x.oA x.ops.length x.oc, .slice x.uA x.us.length x.uc, .slice x.wA x.now.length x.wc]
  len _ := rfl
  one p u h := by
    simp only [List.mem_cons, List.not_mem_nil, or_false] at h
    rcases h with rfl | rfl | rfl | rfl | rfl <;> rfl
  pos := by decide
theorem pwRow : pwE.Row Tryz.prog := ⟨by kernel_rfl, _, Tryz.underlying40, rfl⟩
theorem pwIn5 {w : World} {b : Nat} {x : Pw} (h : pwE.In w b x) : w.cell? ⟨b, 0, none⟩ = some (.slice x.bA x.base.length x.bc) ∧ w.cell? ⟨b, 1, none⟩ = some (.int .i64 x.t) ∧ w.cell? ⟨b, 2, none⟩ = some (.slice x.oA x.ops.length x.oc) ∧ w.cell? ⟨b, 3, none⟩ = some (.slice x.uA x.us.length x.uc) ∧ w.cell? ⟨b, 4, none⟩ = some (.slice x.wA x.now.length x.wc) :=
  ⟨h.cell 0, h.cell 1, h.cell 2, h.cell 3, h.cell 4⟩
/-- Its slices hold its lists. -/
structure PastOk (w : World) (x : Pw) : Prop where
  b : SlV plE w x.bA x.bc x.base
  o : SlV opE w x.oA x.oc x.ops
  u : SlV unE w x.uA x.uc x.us
  w : SlV plE w x.wA x.wc x.now
theorem PastOk.below {W w : World} {x : Pw} (h : PastOk W x) (hb : Below W.heap.size W w) : PastOk w x := ⟨h.b.below hb, h.o.below hb, h.u.below hb, h.w.below hb⟩
theorem PastOk.zero (w : World) : PastOk w Pw.zero := ⟨SlV.nil _ _, SlV.nil _ _, SlV.nil _ _, SlV.nil _ _⟩

/-- With an operation more. -/
def addV (q : Pv) (m : Mv) : Pv × Bool :=
  if m.C ≤ q.t then (q, false) else if has Mv.C Mv.D q.ops m = true then (q, false) else
    ({ q with ops := insL Mv.C Mv.D q.ops m, us := (foldL q.base (mvs (insL Mv.C Mv.D q.ops m))).2, now := (foldL q.base (mvs (insL Mv.C Mv.D q.ops m))).1 }, true)
/-- Settled up to t. -/
def settleV (q : Pv) (t : Int) : Pv :=
  if t ≤ q.t then q else
    let b := (foldL q.base (mvs (q.ops.take (upto Mv.C q.ops t)))).1
    let o := q.ops.drop (upto Mv.C q.ops t)
    ⟨b, t, o, (foldL b (mvs o)).2, (foldL b (mvs o)).1⟩
def ownV (q : Pv) (d i : Int) : Nat := (q.ops.filter fun m => decide (m.D = d ∧ m.I = i)).length
theorem bef_iff (a b : Mv) : befB a.C a.D b.C b.D = decide (bef Mv.C Mv.D a b) := by
  unfold befB bef; rfl
theorem has_end {l : List Mv} {m : Mv} (h : pos Mv.C Mv.D l m = l.length) : has Mv.C Mv.D l m = false := by
  unfold has; rw [h, List.getElem?_eq_none (Nat.le_refl _)]
theorem has_at {l : List Mv} {m x : Mv} {k : Nat} (h : k = pos Mv.C Mv.D l m) (hk : k < l.length) (hx : l[k] = x) : has Mv.C Mv.D l m = decide (x.C = m.C ∧ x.D = m.D) := by
  unfold has; rw [← h, List.getElem?_eq_getElem hk, hx]; rfl
end Go.Proofs.YtdcjffajmckleaaGreatDoor

/- Places and trees as bytes; what may be a tree. -/
namespace Go.Proofs.YtdcjffajmckleaaGreatDoor
open Go.RowKit Nam Cod Tre

def isPlace (s : ByteArray) (p : Nat) (bad : Bool) : Option (Pl × Nat) :=
  (isNum s p bad).bind fun a => (isNum s a.2 false).bind fun b => (isText s b.2 false 16).bind fun c => some (⟨a.1, b.1, c.1⟩, c.2)
/-- So many places, from p on. -/
def isPlaces (s : ByteArray) : Nat → Nat → Option (List Pl × Nat)
  | 0, p => some ([], p)
  | n + 1, p => (isPlaces s n p).bind fun a => (isPlace s a.2 false).bind fun b => some (a.1 ++ [b.1], b.2)
def okPl (p : Pl) : Bool := decide (2 ≤ p.n ∧ p.n < 64 ∧ 0 ≤ p.u ∧ p.u < 64) && isName (L p.s)
def rising : List Pl → Bool
  | [] => true
  | [_] => true
  | p :: q :: l => decide (p.n < q.n) && rising (q :: l)
def treeB (l : List Pl) : Bool := l.all okPl && (rising l && l.all fun p => !above l p.n p.u)
def isTree (s : ByteArray) (p : Nat) (bad : Bool) : Option (List Pl × Nat) :=
  (isCount s p bad 64).bind fun a => (isPlaces s a.1.toNat a.2).bind fun b => if treeB b.1 = true then some b else none

def plBytes (p : Pl) : ByteArray := bytesOf p.n ++ bytesOf p.u ++ textOf p.s
def catL : List Pl → ByteArray
  | [] => ⟨#[]⟩
  | p :: l => plBytes p ++ catL l
def treeBytes (l : List Pl) : ByteArray := bytesOf l.length ++ catL l
/-- Numbers that a word holds; a text that isn't too long. -/
structure Fit (p : Pl) : Prop where
  n1 : -9223372036854775808 ≤ p.n
  n2 : p.n ≤ 9223372036854775807
  u1 : -9223372036854775808 ≤ p.u
  u2 : p.u ≤ 9223372036854775807
  s : p.s.size ≤ 16

theorem bempty (x : ByteArray) : x ++ (⟨#[]⟩ : ByteArray) = x := by apply L_inj; rw [L_app]; simp [L]
theorem empty_b (x : ByteArray) : (⟨#[]⟩ : ByteArray) ++ x = x := by apply L_inj; rw [L_app]; simp [L]
theorem catL_snoc (l : List Pl) (p : Pl) : catL (l ++ [p]) = catL l ++ plBytes p := by
  induction l with
  | nil => show plBytes p ++ ⟨#[]⟩ = ⟨#[]⟩ ++ plBytes p; rw [bempty, empty_b]
  | cons q l ih => show plBytes q ++ catL (l ++ [p]) = (plBytes q ++ catL l) ++ plBytes p; rw [ih, ByteArray.append_assoc]
theorem okPl_fit {p : Pl} (h : okPl p = true) : Fit p ∧ 2 ≤ p.n ∧ p.n < 64 ∧ 0 ≤ p.u ∧ p.u < 64 ∧ isName (L p.s) = true := by
  unfold okPl at h
  rw [Bool.and_eq_true, decide_eq_true_iff] at h
  have hl := isName_len h.2
  rw [L_len] at hl
  exact ⟨⟨by omega, by omega, by omega, by omega, hl.2⟩, h.1.1, h.1.2.1, h.1.2.2.1, h.1.2.2.2, h.2⟩
theorem plBytes_le {p : Pl} (h : Fit p) : (plBytes p).size ≤ 46 := by
  unfold plBytes textOf
  simp only [ByteArray.size_append]
  have z1 := bytesOf_le p.n h.n1 h.n2
  have z2 := bytesOf_le p.u h.u1 h.u2
  have hs := h.s
  have z3 := bytesOf_le p.s.size (by omega) (by omega)
  omega
theorem catL_le : ∀ (l : List Pl), (∀ p ∈ l, Fit p) → (catL l).size ≤ 46 * l.length
  | [], _ => by show (ByteArray.mk #[]).size ≤ _; exact Nat.zero_le _
  | p :: l, h => by
    have h1 := plBytes_le (h p (by simp))
    have h2 := catL_le l (fun q hq => h q (by simp [hq]))
    show (plBytes p ++ catL l).size ≤ _
    rw [ByteArray.size_append, List.length_cons]; omega

theorem rising_cons {p : Pl} : ∀ {l : List Pl}, rising (p :: l) = true → rising l = true ∧ ∀ q ∈ l, p.n < q.n
  | [], _ => ⟨rfl, fun q hq => by cases hq⟩
  | q :: l, h => by
    unfold rising at h
    rw [Bool.and_eq_true, decide_eq_true_iff] at h
    refine ⟨h.2, fun x hx => ?_⟩
    rcases List.mem_cons.1 hx with rfl | hx
    · exact h.1
    · have := (rising_cons h.2).2 x hx; omega
theorem rising_sorted : ∀ {l : List Pl}, rising l = true → Sorted l
  | [], _ => fun i j hi => by simp at hi
  | p :: l, h => fun i j hi hj hij => by
    obtain ⟨h1, h2⟩ := rising_cons h
    cases j with
    | zero => omega
    | succ j =>
      have hj' : j < l.length := by simpa using hj
      cases i with
      | zero => exact h2 _ (List.getElem_mem hj')
      | succ i => exact rising_sorted h1 i j (by simpa using hi) hj' (by omega)
theorem treeB_facts {l : List Pl} (h : treeB l = true) : (∀ p ∈ l, okPl p = true) ∧ Sorted l ∧ NoRing l := by
  unfold treeB at h
  simp only [Bool.and_eq_true, List.all_eq_true, Bool.not_eq_true'] at h
  exact ⟨h.1, rising_sorted h.2.1, h.2.2⟩
/-- Nodes below 64, rising: no more than 62. -/
theorem sorted_len {l : List Pl} (hs : Sorted l) (h : ∀ p ∈ l, 2 ≤ p.n ∧ p.n < 64) : l.length ≤ 62 := by
  have key : ∀ i (hi : i < l.length), (i : Int) + 2 ≤ l[i].n := by
    intro i
    induction i with
    | zero => intro hi; have := (h _ (List.getElem_mem hi)).1; omega
    | succ i ih => intro hi; have h1 := ih (by omega); have h2 := hs i (i + 1) (by omega) hi (by omega); omega
  rcases Nat.lt_or_ge 62 l.length with hlt | hge
  · have h1 := key 62 hlt
    have h2 := (h _ (List.getElem_mem hlt)).2
    omega
  · exact hge
end Go.Proofs.YtdcjffajmckleaaGreatDoor

/- A tree as it must be: what makes one, how long it is, what its numbers are. No call in it. -/
namespace Go.Proofs.YtdcjffajmckleaaGreatDoor
open Go.RowKit Tre Cod Nam

theorem sorted_rising : ∀ {l : List Pl}, Sorted l → rising l = true
  | [], _ => rfl
  | [_], _ => rfl
  | p :: q :: l, h => by
    unfold rising
    rw [Bool.and_eq_true, decide_eq_true_iff]
    exact ⟨h 0 1 (by simp) (by simp) (by omega), sorted_rising fun i j hi hj hij => h (i + 1) (j + 1) (by simpa using hi) (by simpa using hj) (by omega)⟩
theorem treeB_of {l : List Pl} (h1 : ∀ p ∈ l, okPl p = true) (h2 : Sorted l) (h3 : NoRing l) : treeB l = true := by
  unfold treeB
  simp only [Bool.and_eq_true, List.all_eq_true, Bool.not_eq_true']
  exact ⟨h1, sorted_rising h2, h3⟩
theorem tree_len {l : List Pl} (h : treeB l = true) : l.length ≤ 62 := by
  obtain ⟨h1, h2, _⟩ := treeB_facts h
  exact sorted_len h2 fun p hp => ⟨(okPl_fit (h1 p hp)).2.1, (okPl_fit (h1 p hp)).2.2.1⟩
theorem tree_fit {l : List Pl} (h : treeB l = true) : ∀ p ∈ l, Fit p := fun p hp => (okPl_fit ((treeB_facts h).1 p hp)).1
end Go.Proofs.YtdcjffajmckleaaGreatDoor

/- A past as it must be, and what stays so. No call in it. -/
namespace Go.Proofs.YtdcjffajmckleaaGreatDoor
open Go.RowKit Tre Cod Pst Nam

theorem ok_pl {m : Mv} (h : m.ok) : okPl (mvPl m) = true := by
  unfold Mv.ok opB mvB at h
  simp only [Bool.and_eq_true, decide_eq_true_iff] at h
  unfold okPl mvPl
  simp only [Bool.and_eq_true, decide_eq_true_iff]
  exact ⟨by omega, h.2.2.2.2⟩
theorem ok_mvs {o : List Mv} (h : ∀ m ∈ o, m.ok) : ∀ q ∈ mvs o, okPl q = true := fun q hq => by
  unfold mvs at hq
  obtain ⟨m, hm, rfl⟩ := List.mem_map.1 hq
  exact ok_pl (h m hm)
theorem fold_tree {l : List Pl} (h : treeB l = true) {o : List Mv} (ho : ∀ m ∈ o, m.ok) : treeB (foldL l (mvs o)).1 = true := by
  obtain ⟨h1, h2, h3⟩ := treeB_facts h
  exact treeB_of (foldL_mem h2 _ h1 (ok_mvs ho)) (foldL_sorted h2 _) (foldL_noRing h2 h3 _)
theorem mvs_app (a b : List Mv) : mvs (a ++ b) = mvs a ++ mvs b := by unfold mvs; rw [List.map_append]
structure PInv (q : Pv) : Prop where
  tree : treeB q.base = true
  t0 : 0 ≤ q.t
  t1 : q.t ≤ 1099511627776
  ok : ∀ m ∈ q.ops, m.ok
  gt : ∀ m ∈ q.ops, q.t < m.C
  ris : Ris Mv.C Mv.D q.ops
  un : q.us = (foldL q.base (mvs q.ops)).2
  nw : q.now = (foldL q.base (mvs q.ops)).1
theorem PInv.zero : PInv Pv.zero where
  tree := rfl
  t0 := Int.le_refl _
  t1 := by decide
  ok := fun m h => by cases h
  gt := fun m h => by cases h
  ris := List.Pairwise.nil
  un := rfl
  nw := rfl
theorem PInv.ntree {q : Pv} (h : PInv q) : treeB q.now = true := by rw [h.nw]; exact fold_tree h.tree h.ok
theorem PInv.ulen {q : Pv} (h : PInv q) : q.us.length = q.ops.length := by rw [h.un, foldL_len, mvs_len]
theorem addV_late' {q : Pv} {m : Mv} (h : m.C ≤ q.t) : addV q m = (q, false) := by unfold addV; rw [if_pos h]
theorem addV_same' {q : Pv} {m : Mv} (h : ¬ m.C ≤ q.t) (hh : has Mv.C Mv.D q.ops m = true) : addV q m = (q, false) := by unfold addV; rw [if_neg h, if_pos hh]
theorem addV_new' {q : Pv} {m : Mv} (h : ¬ m.C ≤ q.t) (hh : has Mv.C Mv.D q.ops m = false) : addV q m = ({ q with ops := insL Mv.C Mv.D q.ops m, us := (foldL q.base (mvs (insL Mv.C Mv.D q.ops m))).2, now := (foldL q.base (mvs (insL Mv.C Mv.D q.ops m))).1 }, true) := by
  unfold addV; rw [if_neg h, hh]; rfl
theorem PInv.add {q : Pv} (h : PInv q) {m : Mv} (hm : m.ok) : PInv (addV q m).1 := by
  by_cases h1 : m.C ≤ q.t
  · rw [addV_late' h1]; exact h
  · rcases h2 : has Mv.C Mv.D q.ops m with _ | _
    · rw [addV_new' h1 h2]
      refine ⟨h.tree, h.t0, h.t1, fun x hx => ?_, fun x hx => ?_, ris_ins h.ris h2, rfl, rfl⟩
      · rcases (mem_ins _ _ _).1 hx with rfl | hx
        · exact hm
        · exact h.ok x hx
      · rcases (mem_ins _ _ _).1 hx with rfl | hx
        · show q.t < _; omega
        · exact h.gt x hx
    · rw [addV_same' h1 h2]; exact h
theorem settleV_late' {q : Pv} {t : Int} (h : t ≤ q.t) : settleV q t = q := by unfold settleV; rw [if_pos h]
/-- What the program makes of it: the undos cut, the tree as it was. -/
theorem PInv.settle_eq {q : Pv} (h : PInv q) {t : Int} (ht : ¬ t ≤ q.t) :
    settleV q t = ⟨(foldL q.base (mvs (q.ops.take (upto Mv.C q.ops t)))).1, t, q.ops.drop (upto Mv.C q.ops t), q.us.drop (upto Mv.C q.ops t), q.now⟩ := by
  unfold settleV
  rw [if_neg ht]
  have e : mvs q.ops = mvs (q.ops.take (upto Mv.C q.ops t)) ++ mvs (q.ops.drop (upto Mv.C q.ops t)) := by rw [← mvs_app, List.take_append_drop]
  have hk := upto_le (c := Mv.C) q.ops t
  rw [h.un, h.nw]
  conv => rhs; rw [e, foldL_app]
  have hl : (foldL q.base (mvs (q.ops.take (upto Mv.C q.ops t)))).2.length = upto Mv.C q.ops t := by rw [foldL_len, mvs_len, List.length_take]; omega
  rw [List.drop_left' hl]
theorem PInv.settle {q : Pv} (h : PInv q) {t : Int} (ht : t ≤ 1099511627776) : PInv (settleV q t) := by
  by_cases h1 : t ≤ q.t
  · rw [settleV_late' h1]; exact h
  · have e : settleV q t = ⟨(foldL q.base (mvs (q.ops.take (upto Mv.C q.ops t)))).1, t, q.ops.drop (upto Mv.C q.ops t), (foldL (foldL q.base (mvs (q.ops.take (upto Mv.C q.ops t)))).1 (mvs (q.ops.drop (upto Mv.C q.ops t)))).2, (foldL (foldL q.base (mvs (q.ops.take (upto Mv.C q.ops t)))).1 (mvs (q.ops.drop (upto Mv.C q.ops t)))).1⟩ := by
      unfold settleV; rw [if_neg h1]
    rw [e]
    exact ⟨fold_tree h.tree fun m hm => h.ok m (List.mem_of_mem_take hm), by have := h.t0; show 0 ≤ t; omega, ht, fun m hm => h.ok m (List.mem_of_mem_drop hm), upto_drop h.ris t, h.ris.sublist (List.drop_sublist _ _), rfl, rfl⟩
theorem addV_len (q : Pv) (m : Mv) : (addV q m).1.ops.length ≤ q.ops.length + 1 := by
  unfold addV
  split
  · exact Nat.le_succ _
  · split
    · exact Nat.le_succ _
    · show (insL Mv.C Mv.D q.ops m).length ≤ _; rw [ins_len]; exact Nat.le_refl _
/-- The tree and the undos with m at its place: those ahead stay, the others are made anew upon the tree ahead of it. -/
theorem PInv.add_eq {q : Pv} (h : PInv q) (m : Mv) (k : Nat) (hk : k = pos Mv.C Mv.D q.ops m) :
    q.us.take k = (foldL q.base (mvs (q.ops.take k))).2 ∧
    q.us.drop k = (foldL (foldL q.base (mvs (q.ops.take k))).1 (mvs (q.ops.drop k))).2 ∧
    q.now = (foldL (foldL q.base (mvs (q.ops.take k))).1 (mvs (q.ops.drop k))).1 ∧
    (foldL q.base (mvs (insL Mv.C Mv.D q.ops m))).1 = (foldL (foldL q.base (mvs (q.ops.take k))).1 (mvs ([m] ++ q.ops.drop k))).1 ∧
    (foldL q.base (mvs (insL Mv.C Mv.D q.ops m))).2 = q.us.take k ++ (foldL (foldL q.base (mvs (q.ops.take k))).1 (mvs ([m] ++ q.ops.drop k))).2 ∧
    insL Mv.C Mv.D q.ops m = q.ops.take k ++ ([m] ++ q.ops.drop k) := by
  have hk1 : k ≤ q.ops.length := hk ▸ pos_le q.ops m
  have e : mvs q.ops = mvs (q.ops.take k) ++ mvs (q.ops.drop k) := by rw [← mvs_app, List.take_append_drop]
  have hl : (foldL q.base (mvs (q.ops.take k))).2.length = k := by rw [foldL_len, mvs_len, List.length_take]; omega
  have hins : insL Mv.C Mv.D q.ops m = q.ops.take k ++ ([m] ++ q.ops.drop k) := by unfold insL; rw [← hk, List.append_assoc]
  have hu : q.us.take k = (foldL q.base (mvs (q.ops.take k))).2 := by
    rw [h.un, e, foldL_app]; exact List.take_left' hl
  refine ⟨hu, ?_, ?_, ?_, ?_, hins⟩
  · rw [h.un]; conv => lhs; rw [e, foldL_app]
    exact List.drop_left' hl
  · rw [h.nw]; conv => lhs; rw [e, foldL_app]
  · rw [hins, mvs_app, foldL_app]
  · rw [hins, mvs_app, foldL_app, hu]
end Go.Proofs.YtdcjffajmckleaaGreatDoor

/- What is shown of a tree, as lists: who is shown, once, behind the one that it is below, by what name. No call in it. -/
namespace Go.Proofs.YtdcjffajmckleaaGreatDoor
open Go.RowKit Nam Cod Tre
open Go.Lib (decDigits)

/-- Of those below its Up that have its name, is it the least? -/
def firstB (t : List Pl) (p : Pl) : Bool := t.all fun q => !(decide (q.u = p.u) && decide (q.s = p.s) && decide (q.n < p.n))
/-- A name's twin, as bytes. -/
def twinOf (s : ByteArray) (n : Nat) : ByteArray := s ++ ⟨#[126]⟩ ++ ⟨(decDigits n).toArray⟩
def nameOf (t : List Pl) (p : Pl) : ByteArray := if firstB t p = true then p.s else twinOf p.s p.n.toNat
/-- A place, as it is shown: node, Up, shown name. -/
def seen (t : List Pl) (p : Pl) : Pl := ⟨p.n, p.u, nameOf t p⟩
/-- Those below a node, so many levels. -/
def belowL (t : List Pl) : Nat → Int → List Pl
  | 0, _ => []
  | f + 1, a => (t.filter fun p => decide (p.u = a)).flatMap fun p => seen t p :: belowL t f p.n
theorem belowL_succ (t : List Pl) (f : Nat) (a : Int) : belowL t (f + 1) a = (t.filter fun p => decide (p.u = a)).flatMap fun p => seen t p :: belowL t f p.n := rfl

/-- Just those whose way up comes to a are below a. -/
theorem mem_below {t : List Pl} (hs : Sorted t) (x : Pl) : ∀ (f : Nat) (a : Int), x ∈ belowL t f a ↔ ∃ p ∈ t, x = seen t p ∧ ∃ k, k < f ∧ up t k p.u = some a
  | 0, a => by
    constructor
    · intro h; cases h
    · rintro ⟨_, _, _, k, hk, _⟩; omega
  | f + 1, a => by
    rw [belowL_succ, List.mem_flatMap]
    constructor
    · rintro ⟨q, hq, hx⟩
      rw [List.mem_filter, decide_eq_true_iff] at hq
      rcases List.mem_cons.1 hx with rfl | hx
      · exact ⟨q, hq.1, rfl, 0, by omega, by rw [hq.2]; rfl⟩
      · obtain ⟨p, hp, e, k, hk, hu⟩ := (mem_below hs x f q.n).1 hx
        refine ⟨p, hp, e, k + 1, by omega, ?_⟩
        rw [up_add t k 1, hu, Option.bind_some]
        show (get t q.n).bind (fun p => up t 0 p.u) = some a
        rw [(get_iff hs).2 ⟨hq.1, rfl⟩, Option.bind_some, hq.2]; rfl
    · rintro ⟨p, hp, e, k, hk, hu⟩
      cases k with
      | zero =>
        have hpa : p.u = a := Option.some.inj hu
        exact ⟨p, by rw [List.mem_filter, decide_eq_true_iff]; exact ⟨hp, hpa⟩, by rw [e]; exact List.mem_cons_self⟩
      | succ k =>
        rw [up_add t k 1] at hu
        obtain ⟨b, hb, h1⟩ := Option.bind_eq_some_iff.1 hu
        have h1 : (get t b).bind (fun p => up t 0 p.u) = some a := h1
        obtain ⟨q, hq, h2⟩ := Option.bind_eq_some_iff.1 h1
        obtain ⟨hqt, hqn⟩ := (get_iff hs).1 hq
        have h2 : q.u = a := Option.some.inj h2
        refine ⟨q, by rw [List.mem_filter, decide_eq_true_iff]; exact ⟨hqt, h2⟩, List.mem_cons_of_mem _ ?_⟩
        exact (mem_below hs x f q.n).2 ⟨p, hp, e, k, by omega, by rw [hqn]; exact hb⟩

/-- A way up of so many steps is one. -/
theorem up_fun (t : List Pl) {k : Nat} {b a c : Int} (h1 : up t k b = some a) (h2 : up t k b = some c) : a = c := Option.some.inj (h1.symm.trans h2)
theorem up_later {t : List Pl} {i j : Nat} {b a c : Int} (hij : i ≤ j) (h1 : up t i b = some a) (h2 : up t j b = some c) : up t (j - i) a = some c := by
  have e : j = i + (j - i) := by omega
  rw [e, up_add, h1, Option.bind_some] at h2
  exact h2
theorem up_first {t : List Pl} (hs : Sorted t) {p : Pl} (hp : p ∈ t) (k : Nat) : up t (k + 1) p.n = up t k p.u := by
  show (get t p.n).bind (fun p => up t k p.u) = _
  rw [(get_iff hs).2 ⟨hp, rfl⟩]; rfl

/-- Two below one: none is below the other, and nothing is below both. -/
theorem apart_below {t : List Pl} (hs : Sorted t) (ha : Acyc t) {p q : Pl} (hp : p ∈ t) (hq : q ∈ t) (hu : p.u = q.u) {b : Int} {i j : Nat} (h1 : up t i b = some p.n) (h2 : up t j b = some q.n) : p = q := by
  rcases Nat.lt_trichotomy i j with h | h | h
  · have h3 := up_later (Nat.le_of_lt h) h1 h2
    obtain ⟨d, hd⟩ : ∃ d, j - i = d + 1 := ⟨j - i - 1, by omega⟩
    rw [hd, up_first hs hp, hu] at h3
    have h4 := up_first hs hq d
    rw [h3] at h4
    exact absurd h4 (ha (d + 1) q.n (by omega))
  · subst h
    exact sorted_one hs hp hq (up_fun t h1 h2)
  · have h3 := up_later (Nat.le_of_lt h) h2 h1
    obtain ⟨d, hd⟩ : ∃ d, i - j = d + 1 := ⟨i - j - 1, by omega⟩
    rw [hd, up_first hs hq, ← hu] at h3
    have h4 := up_first hs hp d
    rw [h3] at h4
    exact absurd h4 (ha (d + 1) p.n (by omega))

theorem sorted_nodup {t : List Pl} (hs : Sorted t) : t.Nodup := by
  have h := sorted_pw.1 hs
  exact h.imp fun hlt e => by rw [e] at hlt; omega
/-- Each node is shown once. -/
theorem below_nodup {t : List Pl} (hs : Sorted t) (ha : Acyc t) : ∀ (f : Nat) (a : Int), ((belowL t f a).map Pl.n).Nodup
  | 0, _ => List.nodup_nil
  | f + 1, a => by
    rw [belowL_succ]
    have hsub : ∀ p ∈ t.filter fun p => decide (p.u = a), p ∈ t ∧ p.u = a := fun p hp => by rw [List.mem_filter, decide_eq_true_iff] at hp; exact hp
    have hnd : (t.filter fun p => decide (p.u = a)).Nodup := (sorted_nodup hs).filter _
    generalize t.filter (fun p => decide (p.u = a)) = m at hsub hnd
    induction m with
    | nil => exact List.nodup_nil
    | cons q m ih =>
      rw [List.nodup_cons] at hnd
      have hq := hsub q (by simp)
      rw [List.flatMap_cons, List.map_append, List.nodup_append]
      refine ⟨?_, ih (fun p hp => hsub p (by simp [hp])) hnd.2, ?_⟩
      · rw [List.map_cons, List.nodup_cons]
        refine ⟨fun h => ?_, below_nodup hs ha f q.n⟩
        obtain ⟨x, hx, e⟩ := List.mem_map.1 h
        obtain ⟨p, hp, rfl, k, _, hu⟩ := (mem_below hs x f q.n).1 hx
        have e : p.n = q.n := e
        obtain rfl := sorted_one hs hp hq.1 e
        have h4 := up_first hs hp k
        rw [hu] at h4
        exact ha (k + 1) p.n (by omega) h4
      · intro x hx y hy e
        subst e
        -- x is at or below q, and at or below another
        have h1 : ∃ i, up t i x = some q.n := by
          rw [List.map_cons] at hx
          rcases List.mem_cons.1 hx with e | hx
          · exact ⟨0, by rw [e]; rfl⟩
          · obtain ⟨z, hz, rfl⟩ := List.mem_map.1 hx
            obtain ⟨p, hp, rfl, k, _, hu⟩ := (mem_below hs z f q.n).1 hz
            exact ⟨k + 1, (up_first hs hp k).trans hu⟩
        obtain ⟨z, hz, rfl⟩ := List.mem_map.1 hy
        obtain ⟨r, hr, hzr⟩ := List.mem_flatMap.1 hz
        have hr2 := hsub r (by simp [hr])
        have h2 : ∃ j, up t j z.n = some r.n := by
          rcases List.mem_cons.1 hzr with rfl | hzr
          · exact ⟨0, rfl⟩
          · obtain ⟨p, hp, rfl, k, _, hu⟩ := (mem_below hs z f r.n).1 hzr
            exact ⟨k + 1, (up_first hs hp k).trans hu⟩
        obtain ⟨i, h1⟩ := h1
        obtain ⟨j, h2⟩ := h2
        have := apart_below hs ha hq.1 hr2.1 (hq.2.trans hr2.2.symm) h1 h2
        subst this
        exact hnd.1 hr

/-- Each stands behind the one that it is below, or below a itself. -/
def Behind (a : Int) (l : List Pl) : Prop := ∀ i (h : i < l.length), l[i].u = a ∨ ∃ k, ∃ h2 : k < i, (l[k]'(by omega)).n = l[i].u
theorem Behind.nil (a : Int) : Behind a [] := fun i h => by simp at h
theorem Behind.cons {a : Int} {p : Pl} {m : List Pl} (hp : p.u = a) (h : Behind p.n m) : Behind a (p :: m) := by
  intro i hi
  cases i with
  | zero => exact Or.inl hp
  | succ i =>
    rw [List.getElem_cons_succ]
    rcases h i (by simpa using hi) with e | ⟨k, hk, e⟩
    · exact Or.inr ⟨0, by omega, by rw [List.getElem_cons_zero]; exact e.symm⟩
    · exact Or.inr ⟨k + 1, by omega, by rw [List.getElem_cons_succ]; exact e⟩
end Go.Proofs.YtdcjffajmckleaaGreatDoor

/- What is shown of a tree: its names; of node 0 and of the trash; a node put below the trash, and put back. No call in it. -/
namespace Go.Proofs.YtdcjffajmckleaaGreatDoor
open Go.RowKit Nam Cod Tre

/-- No way up to a is longer. -/
def Deep (t : List Pl) (f : Nat) (a : Int) : Prop := ∀ p ∈ t, ∀ k, up t k p.u = some a → k < f
theorem deep_all {t : List Pl} (hs : Sorted t) (hr : NoRing t) (a : Int) : Deep t t.length a := fun p hp k h => by
  have := up_bound hr ((up_first hs hp k).trans h)
  omega
theorem Deep.next {t : List Pl} (hs : Sorted t) {f : Nat} {a : Int} (h : Deep t (f + 1) a) {q : Pl} (hq : q ∈ t) (hu : q.u = a) : Deep t f q.n := fun p hp k hk => by
  have h1 : up t (k + 1) p.u = some a := by
    rw [up_add t k 1, hk, Option.bind_some, up_first hs hq 0, hu]; rfl
  have := h p hp (k + 1) h1
  omega
theorem Deep.zero {t : List Pl} {a : Int} (h : Deep t 0 a) : ∀ p ∈ t, p.u ≠ a := fun p hp e => by
  have := h p hp 0 (by rw [e]; rfl)
  omega

def showL (t : List Pl) : List Pl := belowL t t.length 0
def trashL (t : List Pl) : List Pl := belowL t t.length 1

structure TreeP (t : List Pl) : Prop where
  s : Sorted t
  r : NoRing t
  ok : ∀ p ∈ t, okPl p = true
theorem treeP {t : List Pl} (h : treeB t = true) : TreeP t := ⟨(treeB_facts h).2.1, (treeB_facts h).2.2, (treeB_facts h).1⟩
theorem TreeP.b {t : List Pl} (h : TreeP t) : treeB t = true := treeB_of h.ok h.s h.r
theorem TreeP.node {t : List Pl} (h : TreeP t) {p : Pl} (hp : p ∈ t) : 2 ≤ p.n ∧ p.n < 64 ∧ 0 ≤ p.u ∧ p.u < 64 ∧ isName (L p.s) = true := (okPl_fit (h.ok p hp)).2
theorem TreeP.none {t : List Pl} (h : TreeP t) {b : Int} (hb : b < 2) : get t b = none := by
  rcases hg : get t b with _ | p
  · rfl
  · obtain ⟨hp, e⟩ := (get_iff h.s).1 hg
    have := (h.node hp).1
    omega
theorem TreeP.stay {t : List Pl} (h : TreeP t) {b c : Int} (hb : b < 2) {k : Nat} (hu : up t k b = some c) : k = 0 ∧ c = b := by
  cases k with
  | zero => exact ⟨rfl, (Option.some.inj hu).symm⟩
  | succ k =>
    have hu : (get t b).bind (fun p => up t k p.u) = some c := hu
    rw [h.none hb] at hu; cases hu

/-- Who is below a (0 or 1): those above whom a is. -/
theorem TreeP.mem {t : List Pl} (h : TreeP t) {a : Int} (x : Pl) : x ∈ belowL t t.length a ↔ ∃ p ∈ t, x = seen t p ∧ ∃ k, up t (k + 1) p.n = some a := by
  rw [mem_below h.s]
  constructor
  · rintro ⟨p, hp, e, k, _, hu⟩
    exact ⟨p, hp, e, k, (up_first h.s hp k).trans hu⟩
  · rintro ⟨p, hp, e, k, hu⟩
    rw [up_first h.s hp k] at hu
    exact ⟨p, hp, e, k, deep_all h.s h.r a p hp k hu, hu⟩
theorem TreeP.above {t : List Pl} (h : TreeP t) {a : Int} (ha : a < 2) {p : Pl} (hp : p ∈ t) : above t a p.n = true ↔ p.n ∈ (belowL t t.length a).map Pl.n := by
  rw [above_iff h.r, List.mem_map]
  constructor
  · rintro ⟨k, hk⟩
    cases k with
    | zero =>
      have h1 : p.n = a := Option.some.inj hk
      have := (h.node hp).1
      omega
    | succ k => exact ⟨seen t p, (h.mem _).2 ⟨p, hp, rfl, k, hk⟩, rfl⟩
  · rintro ⟨x, hx, e⟩
    obtain ⟨q, hq, rfl, k, hk⟩ := (h.mem _).1 hx
    have e : q.n = p.n := e
    exact ⟨k + 1, by rw [← e]; exact hk⟩
theorem TreeP.nodup {t : List Pl} (h : TreeP t) (a : Int) : ((belowL t t.length a).map Pl.n).Nodup := below_nodup h.s (acyc_of h.r) _ _
/-- No node is below both. -/
theorem TreeP.apart {t : List Pl} (h : TreeP t) {n : Int} (h1 : n ∈ (showL t).map Pl.n) (h2 : n ∈ (trashL t).map Pl.n) : False := by
  obtain ⟨x, hx, rfl⟩ := List.mem_map.1 h1
  obtain ⟨y, hy, e⟩ := List.mem_map.1 h2
  obtain ⟨p, hp, rfl, i, hi⟩ := (h.mem _).1 hx
  obtain ⟨q, hq, rfl, j, hj⟩ := (h.mem _).1 hy
  have e : q.n = p.n := e
  rw [e] at hj
  rcases Nat.le_total i j with hij | hij
  · have := (h.stay (by decide) (up_later (by omega) hi hj)).2
    omega
  · have := (h.stay (by decide) (up_later (by omega) hj hi)).2
    omega
theorem TreeP.len {t : List Pl} (h : TreeP t) : (showL t).length + (trashL t).length ≤ t.length := by
  have h1 : ((showL t).map Pl.n ++ (trashL t).map Pl.n).Nodup := by
    rw [List.nodup_append]
    exact ⟨h.nodup 0, h.nodup 1, fun a ha b hb e => by subst e; exact h.apart ha hb⟩
  have h2 := pigeon _ (t.map Pl.n) h1 (fun x hx => by
    rcases List.mem_append.1 hx with hx | hx
    · obtain ⟨y, hy, rfl⟩ := List.mem_map.1 hx
      obtain ⟨p, hp, rfl, _⟩ := (h.mem _).1 hy
      exact List.mem_map.2 ⟨p, hp, rfl⟩
    · obtain ⟨y, hy, rfl⟩ := List.mem_map.1 hx
      obtain ⟨p, hp, rfl, _⟩ := (h.mem _).1 hy
      exact List.mem_map.2 ⟨p, hp, rfl⟩)
  simpa using h2

/-- Names below one are unlike. -/
theorem firstB_iff {t : List Pl} {p : Pl} : firstB t p = true ↔ ∀ q ∈ t, ¬ (q.u = p.u ∧ q.s = p.s ∧ q.n < p.n) := by
  unfold firstB
  rw [List.all_eq_true]
  exact ⟨fun h q hq k => by
    have := h q hq
    simp [k.1, k.2.1, k.2.2] at this, fun h q hq => by
    have := h q hq
    simp only [Bool.not_eq_true', Bool.and_eq_false_iff, decide_eq_false_iff_not]
    by_cases e1 : q.u = p.u
    · by_cases e2 : q.s = p.s
      · exact Or.inr fun e3 => this ⟨e1, e2, e3⟩
      · exact Or.inl (Or.inr e2)
    · exact Or.inl (Or.inl e1)⟩
theorem TreeP.back {t : List Pl} (h : TreeP t) {p : Pl} (hp : p ∈ t) : putL (putL t ⟨p.n, 1, p.s⟩) p = t := put_back (p := ⟨p.n, 1, p.s⟩) h.s ((get_iff h.s).2 ⟨hp, rfl⟩)
end Go.Proofs.YtdcjffajmckleaaGreatDoor

/- Devices, as values: what is edited, taken, left, shown. No call in it. -/
namespace Go.Proofs.YtdcjffajmckleaaGreatDoor
open Go.RowKit Nam Cod Tre Pst

/-- A device's state, as values; it has no parts. -/
structure Dv where
  node : Int
  boot : Int
  above : Int
  pos : Int
  q : Qu
  y : Pv
  l : List Cn
  inc : Int
  mode : Int
  clock : Int
  sent : Int
  late : Int
def newD (n : Int) : Dv := ⟨n, 1, 0, 0, newQu, Pv.zero, [], 1, 1, 0, 0, 0⟩
def leaveD (x : Dv) : Dv := { x with mode := 2, inc := min (x.inc + 1) 1099511627776, sent := 0 }
/-- May an operation have these? -/
def placeB (k u : Int) (s : ByteArray) : Bool := opB 1 0 1 1 k u s
def argD (ids : Int) (k u : Int) (s : ByteArray) : Bool := decide (k < ids) && (decide (u < ids) && placeB k u s)
def editO (x : Dv) (k u : Int) (s : ByteArray) : Mv := ⟨x.clock + 1, x.node, x.inc, x.sent + 1, k, u, s⟩
/-- An edit: the errors' numbers are api's. -/
def editD (quota ids : Int) (x : Dv) (k u : Int) (s : ByteArray) : Dv × Int :=
  if argD ids k u s = false then (x, 1)
  else if x.mode ≠ 1 then (x, 4)
  else if quota ≤ (ownV x.y x.node x.inc : Nat) ∨ quota ≤ (x.q.os.length : Nat) then (x, 3)
  else if (addV x.y (editO x k u s)).2 = false then (x, 5)
  else ({ x with y := (addV x.y (editO x k u s)).1, q := pushQ x.q (editO x k u s), clock := x.clock + 1, sent := x.sent + 1 }, 0)
/-- Behind the entry that comes next. -/
def followD (x : Dv) (e : En) : Dv :=
  if e.k = 2 ∧ e.d = x.node ∧ e.i = x.inc then leaveD { x with pos := x.pos + 1, l := tally x.l e }
  else if e.k ≠ 1 then { x with pos := x.pos + 1, l := tally x.l e }
  else if e.o.D = x.node ∧ e.o.I = x.inc then { x with pos := x.pos + 1, l := tally x.l e, clock := max x.clock e.o.C }
  else { x with pos := x.pos + 1, l := tally x.l e, clock := max x.clock e.o.C, y := (addV x.y e.o).1, late := if (addV x.y e.o).2 = true then x.late else x.late + 1 }
/-- Behind entries, the first of which is at place a. -/
def goD : Dv → Int → List En → Dv
  | x, _, [] => x
  | x, a, e :: l => goD (if x.mode = 1 ∧ a = x.pos + 1 then followD x e else x) (a + 1) l
/-- Behind a frame without gifts. -/
def takeD (up : Int) (x : Dv) (f : Fr) : Dv × Int :=
  if ¬ (f.b = x.node ∧ f.a = up) then (x, 1)
  else if f.boot < x.above then (x, 7)
  else
    let x1 := { x with above := f.boot, q := allowQ (ackQ x.q f.ack) f.grant }
    if x.mode ≠ 1 then (x1, 0)
    else if x.pos < f.s then (leaveD x1, 0)
    else (goD { x1 with y := settleV x.y f.t, clock := max x.clock (settleV x.y f.t).t } f.start f.es, 0)
def reportD (x : Dv) (beat : Int) : Rp := ⟨x.node, x.inc, x.boot, beat, x.mode, x.pos, x.clock, x.sent, 0⟩
def frameD (up batch : Int) (x : Dv) (beat : Int) : Fr := ⟨x.node, up, x.boot, x.q.f, x.pos, 1, 0, 0, 0, 0, outQ x.q batch, [reportD x beat], [], []⟩
def vectorD (x : Dv) : List Cn := if 0 < x.sent ∨ 1 < x.inc then tally x.l ⟨1, 0, 0, ⟨0, x.node, x.inc, x.sent, 0, 0, ⟨#[]⟩⟩⟩ else x.l
/-- A state as it comes: numbers far from where they wrap. -/
structure DvR (x : Dv) : Prop where
  node : 0 ≤ x.node ∧ x.node < 12
  boot : 0 ≤ x.boot ∧ x.boot ≤ 1099511627776
  above : 0 ≤ x.above ∧ x.above ≤ 1099511627776
  pos : 0 ≤ x.pos ∧ x.pos ≤ 4294967296
  qf : 0 ≤ x.q.f ∧ x.q.f ≤ 4294967296
  qg : 0 ≤ x.q.g ∧ x.q.g ≤ 1099511627776
  ql : x.q.os.length ≤ 60
  y : PInv x.y
  yl : x.y.ops.length ≤ 60
  yt : x.y.t ≤ 4294967296
  l : x.l.length ≤ 12 ∧ RisC x.l
  lw : ∀ c ∈ x.l, (0 ≤ c.d ∧ c.d < 12) ∧ (1 ≤ c.i ∧ c.i ≤ 1099511627776) ∧ 0 ≤ c.n ∧ c.n ≤ 1099511627776
  inc : 1 ≤ x.inc ∧ x.inc ≤ 4294967296
  mode : x.mode = 1 ∨ x.mode = 2
  clock : 0 ≤ x.clock ∧ x.clock ≤ 4294967296
  sent : 0 ≤ x.sent ∧ x.sent ≤ 4294967296
  late : 0 ≤ x.late ∧ x.late ≤ 4294967296
theorem newD_r {n : Int} (h : 0 ≤ n ∧ n < 12) : DvR (newD n) where
  node := h
  boot := by unfold newD; dsimp only; omega
  above := by unfold newD; dsimp only; omega
  pos := by unfold newD; dsimp only; omega
  qf := by unfold newD newQu; dsimp only; omega
  qg := by unfold newD newQu; dsimp only; omega
  ql := Nat.zero_le _
  y := PInv.zero
  yl := Nat.zero_le _
  yt := by show (0 : Int) ≤ 4294967296; omega
  l := ⟨Nat.zero_le _, List.Pairwise.nil⟩
  lw := fun c h => by cases h
  inc := by unfold newD; dsimp only; omega
  mode := Or.inl rfl
  clock := by unfold newD; dsimp only; omega
  sent := by unfold newD; dsimp only; omega
  late := by unfold newD; dsimp only; omega
theorem leaveD_r {x : Dv} (h : DvR x) (hi : x.inc < 4294967296) : DvR (leaveD x) where
  node := h.node
  boot := h.boot
  above := h.above
  pos := h.pos
  qf := h.qf
  qg := h.qg
  ql := h.ql
  y := h.y
  yl := h.yl
  yt := h.yt
  l := h.l
  lw := h.lw
  inc := by have := h.inc; show 1 ≤ min (x.inc + 1) 1099511627776 ∧ min (x.inc + 1) 1099511627776 ≤ 4294967296; omega
  mode := Or.inr rfl
  clock := h.clock
  sent := by show (0 : Int) ≤ 0 ∧ (0 : Int) ≤ 4294967296; omega
  late := h.late

/-- An operation behind all others is put behind them. -/
theorem pos_last {l : List Mv} {m : Mv} (h : ∀ x ∈ l, x.C < m.C) : pos Mv.C Mv.D l m = l.length :=
  (pos_eq (c := Mv.C) (d := Mv.D) (o := m) (Nat.le_refl _) (fun i hi _ => Or.inl (h _ (List.getElem_mem hi))) (fun hk => absurd hk (Nat.lt_irrefl _))).symm
theorem insL_last {l : List Mv} {m : Mv} (h : ∀ x ∈ l, x.C < m.C) : insL Mv.C Mv.D l m = l ++ [m] := by
  unfold insL
  rw [pos_last h, List.take_length, List.drop_length, List.append_nil]
theorem addV_last {q : Pv} {m : Mv} (ht : q.t < m.C) (h : ∀ x ∈ q.ops, x.C < m.C) : (addV q m).2 = true ∧ (addV q m).1.ops = q.ops ++ [m] ∧ (addV q m).1.t = q.t := by
  have h1 : has Mv.C Mv.D q.ops m = false := has_end (pos_last h)
  rw [addV_new' (by omega) h1]
  exact ⟨rfl, insL_last h, rfl⟩
theorem ownV_all {q : Pv} {d i : Int} (h : ∀ x ∈ q.ops, x.D = d ∧ x.I = i) : ownV q d i = q.ops.length := by
  unfold ownV
  rw [List.filter_eq_self.2 (fun x hx => by have := h x hx; simp [this])]
theorem opB_place {c d i m k u : Int} {s : ByteArray} (hc : 1 ≤ c ∧ c ≤ 1099511627776) (hd : 0 ≤ d ∧ d < 12) (hi : 1 ≤ i ∧ i ≤ 1099511627776) (hm : 1 ≤ m ∧ m ≤ 1099511627776) : opB c d i m k u s = placeB k u s := by
  have e1 : atB c d = true := decide_eq_true ⟨hc.1, hc.2, hd.1, hd.2⟩
  have e2 : cntB i = true := decide_eq_true hi
  have e3 : cntB m = true := decide_eq_true hm
  have f1 : atB 1 0 = true := by decide
  have f2 : cntB 1 = true := by decide
  unfold placeB opB
  rw [e1, e2, e3, f1, f2]
end Go.Proofs.YtdcjffajmckleaaGreatDoor

/- How the arguments of the laws are opened. -/
namespace Go.Proofs.YtdcjffajmckleaaGreatDoor
open Go.ChangeShapes Go.WideShapes Go.ChangeAt Go.RowKit Go.Deep Nam Cod Tre

theorem cells24 : Tryz.prog.cellsOf 50 = 3 := by kernel_rfl
/-- Its numbers are words, its text isn't too long for a machine. -/
def WidePl (p : Pl) : Prop := i64 p.n ∧ i64 p.u ∧ p.s.size ≤ maxLen
set_option maxRecDepth 100000 in
theorem read_pl {H : Type} {enc : TypeId × Value → H} {W : World} {base : Nat} {sp : Nat → Bool} {held : Bool} {fuel : Nat} {cs : List Value} {x : DataW H × List MemPlace}
    (h : DataW.trod enc Tryz.prog W base sp held fuel 50 cs = some x) : ∃ p : Pl, cs = [.int .i64 p.n, .int .i64 p.u, .string p.s] ∧ WidePl p := by
  obtain ⟨xs, n, _, _, hl, hlen, hf⟩ := DataW.trod_struct Tryz.underlying50 h
  have hl3 : cs.length = 3 := hl.trans cells24
  have hlx : xs.length = 3 := hlen
  match cs, hl3, xs, hlx with
  | [c0, c1, c2], _, [y0, y1, y2], _ =>
    have h0 := hf 0 _ rfl
    have h1 := hf 1 _ rfl
    have h2 := hf 2 _ rfl
    simp [cells3, cells9] at h0 h1 h2
    obtain ⟨n, e0, _, w0⟩ := DataW.trod_int Tryz.underlying3 h0
    obtain ⟨u, e1, _, w1⟩ := DataW.trod_int Tryz.underlying3 h1
    obtain ⟨s, e2, _, w2⟩ := DataW.trod_string Tryz.underlying9 h2
    simp at e0 e1 e2
    subst e0 e1 e2
    have b0 := bounds_i64 w0
    have b1 := bounds_i64 w1
    have j0 : i64 n := ⟨by omega, by omega⟩
    have j1 : i64 u := ⟨by omega, by omega⟩
    exact ⟨⟨n, u, s⟩, rfl, j0, j1, w2⟩
theorem add_plain (b o n : Nat) : (⟨b, o, none⟩ : Addr).add n = ⟨b, o + n, none⟩ := Addr.add_lit b o n
set_option maxRecDepth 100000 in
/-- A list of places among the arguments. -/
theorem open_tree {H : Type} {enc : TypeId × Value → H} {W : World} {base : Nat} {v : Value} {d : DataW H} {ps : List MemPlace}
    (hv : Value.okWide Tryz.prog W .any base 22 v) (h : DataW.Trod enc Tryz.prog W 0 (fun _ => true) true 22 v d ps) :
    ∃ (A : Option Addr) (cap : Nat) (l : List Pl), v = .slice A l.length cap ∧ Tr W A l ∧ l.length ≤ cap ∧ (A = none → cap = 0) ∧ ∀ p ∈ l, WidePl p := by
  obtain ⟨a0, len, cap, rfl, _⟩ := okWide_slice Tryz.underlying22 hv
  obtain ⟨fuel, hf⟩ := h
  rcases open_slice Tryz.underlying22 hf with ⟨hcs, hx⟩ | ⟨a, len', cap', m, n, D, Pls, hcs, _, hle, hm, hmm, hx, hi⟩
  · simp [Value.cells] at hcs
    obtain ⟨rfl, rfl, rfl⟩ := hcs
    exact ⟨none, 0, [], rfl, Tr.nil W none, Nat.le_refl _, fun _ => rfl, fun p hp => by cases hp⟩
  · simp [Value.cells] at hcs
    obtain ⟨rfl, rfl, rfl⟩ := hcs
    simp only [if_true] at hmm
    have hv : ∀ i, i < m → ∃ p : Pl, WidePl p ∧ W.cells? 0 (a.add (i * 3)) 3 = some [.int .i64 p.n, .int .i64 p.u, .string p.s] := by
      intro i him
      obtain ⟨cs', h1, h2⟩ := hi i him
      rw [cells24] at h1
      obtain ⟨p, rfl, hw⟩ := read_pl h2
      exact ⟨p, hw, h1⟩
    obtain ⟨f, hf2⟩ := choose_lt hv
    have hlen : ((List.range len).map f).length = len := by simp
    refine ⟨some a, cap, (List.range len).map f, by rw [hlen], fun h => ?_, by rw [hlen]; exact hle, (fun e => by cases e), fun p hp => ?_⟩
    · rw [hlen] at h
      obtain ⟨bb, off, spot⟩ := a
      have cell : ∀ i, i < len → ∀ j v, [Value.int .i64 (f i).n, .int .i64 (f i).u, .string (f i).s][j]? = some v → W.cell? (((⟨bb, off, spot⟩ : Addr).add (i * 3)).add j) = some v := by
        intro i hil j v hv
        obtain ⟨_, _, hcell⟩ := World.cells?_some (hf2 i (by omega)).2
        have hj : j < 3 := by have := (List.getElem?_eq_some_iff.1 hv).1; simpa using this
        have := hcell j hj
        rw [this]; exact hv
      have hspot : spot = none := by
        have := cell 0 h 0 _ rfl
        simpa [Addr.add] using World.cell?_spot this
      subst hspot
      refine ⟨bb, off, rfl, block_lt_of_cell (cell 0 h 0 _ rfl), fun i hil => ?_⟩
      have hil' : i < len := by rw [hlen] at hil; exact hil
      have he : ((List.range len).map f)[i] = f i := by simp
      rw [he]
      refine ⟨?_, ?_, ?_⟩
      · have := cell i hil' 0 _ rfl; rwa [add_plain, add_plain] at this
      · have := cell i hil' 1 _ rfl; rwa [add_plain, add_plain] at this
      · have := cell i hil' 2 _ rfl; rwa [add_plain, add_plain] at this
    · obtain ⟨i, hi2, rfl⟩ := List.mem_map.1 hp
      exact (hf2 i (by have := List.mem_range.1 hi2; omega)).1

theorem long_le {l : List Pl} (h : ∀ p ∈ l, WidePl p) : ∀ p ∈ l, p.s.size ≤ 9223372036854775807 := fun p hp => Nat.le_trans (h p hp).2.2 (by unfold maxLen; omega)
end Go.Proofs.YtdcjffajmckleaaGreatDoor

/- Slices among the arguments, opened, whatever their elements; bytes as elements. -/
namespace Go.Proofs.YtdcjffajmckleaaGreatDoor
open Go.ChangeShapes Go.WideShapes Go.ChangeAt Go.RowKit Go.Deep Nam Cod Tre
set_option maxRecDepth 100000 in
theorem open_u8 {H : Type} {enc : TypeId × Value → H} {W : World} {base : Nat} {sp : Nat → Bool} {v : Value} {d : DataW H} {ps : List MemPlace}
    (hv : Value.okWide Tryz.prog W .any base 5 v) (h : DataW.Trod enc Tryz.prog W 0 sp true 5 v d ps) : ∃ t : Int, v = .int .u8 t ∧ 0 ≤ t ∧ t ≤ 255 := by
  obtain ⟨a, rfl, _, _, wf⟩ := open_int Tryz.underlying5 hv h
  have hb := bounds_u8 wf
  exact ⟨a, rfl, by omega, by omega⟩
/-- A block that is a row of these. -/
theorem El.Sl.row {α : Type} {E : El α} (w : World) (l : List α) (cs : Array Value) (hc : cs = (E.cells l).toArray) : E.Sl (w.alloc (.cells cs E.e)) (some ⟨w.heap.size, 0, none⟩) l := fun _ => by
  subst hc
  refine ⟨w.heap.size, 0, rfl, by rw [alloc_size]; omega, fun i hi j u hu => ?_⟩
  have h := cell_of_row (w.alloc (.cells (E.cells l).toArray E.e)) w.heap.size (i * E.k + j) _ E.e (0, 0) (heap_alloc_new w _)
  rw [show 0 + i * E.k + j = i * E.k + j by omega, h]
  simpa using El.cells_at l i hi j u hu
end Go.Proofs.YtdcjffajmckleaaGreatDoor

/- Reports in memory; what the program's functions shall answer (ReportCalls); the document's Right, Newer, Print, Same. -/
namespace Go.Proofs.YtdcjffajmckleaaGreatDoor
open Go.RowKit Cod

def rpE : El Rp where
  e := 79
  k := 9
  c r := [.int .i64 r.d, .int .i64 r.i, .int .i64 r.b, .int .i64 r.t, .int .i64 r.m, .int .i64 r.p, .int .i64 r.c, .int .i64 r.s, .int .i64 r.k]
  len _ := rfl
  one p u h := by
    simp only [List.mem_cons, List.not_mem_nil, or_false] at h
    rcases h with rfl | rfl | rfl | rfl | rfl | rfl | rfl | rfl | rfl <;> rfl
  pos := by decide
theorem rpRow : rpE.Row Tryz.prog := ⟨by kernel_rfl, _, Tryz.underlying79, rfl⟩
end Go.Proofs.YtdcjffajmckleaaGreatDoor

/- Entries and counts in memory; what the program's functions shall answer (EntryCalls: proved for the real program in a text of its own); the document's Right and Print. -/
namespace Go.Proofs.YtdcjffajmckleaaGreatDoor
open Go.RowKit Nam Cod

def enE : El En where
  e := 60
  k := 10
  c x := [.int .i64 x.k, .int .i64 x.d, .int .i64 x.i, .int .i64 x.o.C, .int .i64 x.o.D, .int .i64 x.o.I, .int .i64 x.o.M, .int .i64 x.o.K, .int .i64 x.o.U, .string x.o.s]
  len _ := rfl
  one p u h := by
    simp only [List.mem_cons, List.not_mem_nil, or_false] at h
    rcases h with rfl | rfl | rfl | rfl | rfl | rfl | rfl | rfl | rfl | rfl <;> rfl
  pos := by decide
def cnE : El Cn where
  e := 73
  k := 3
  c x := [.int .i64 x.d, .int .i64 x.i, .int .i64 x.n]
  len _ := rfl
  one p u h := by
    simp only [List.mem_cons, List.not_mem_nil, or_false] at h
    rcases h with rfl | rfl | rfl <;> rfl
  pos := by decide
theorem enRow : enE.Row Tryz.prog := ⟨by kernel_rfl, _, Tryz.underlying60, rfl⟩
theorem cnInn : cnE.Inn Tryz.prog 41 := El.inn_of (z := .agg #[.int .i64 0, .int .i64 0, .int .i64 0]) (bytes := 24) Tryz.underlying41 (by kernel_rfl) rfl (by decide)
theorem enIn10 {w : World} {b : Nat} {x : En} (h : enE.In w b x) : w.cell? ⟨b, 0, none⟩ = some (.int .i64 x.k) ∧ w.cell? ⟨b, 1, none⟩ = some (.int .i64 x.d) ∧ w.cell? ⟨b, 2, none⟩ = some (.int .i64 x.i) ∧ w.cell? ⟨b, 3, none⟩ = some (.int .i64 x.o.C) ∧ w.cell? ⟨b, 4, none⟩ = some (.int .i64 x.o.D) ∧ w.cell? ⟨b, 5, none⟩ = some (.int .i64 x.o.I) ∧ w.cell? ⟨b, 6, none⟩ = some (.int .i64 x.o.M) ∧ w.cell? ⟨b, 7, none⟩ = some (.int .i64 x.o.K) ∧ w.cell? ⟨b, 8, none⟩ = some (.int .i64 x.o.U) ∧ w.cell? ⟨b, 9, none⟩ = some (.string x.o.s) :=
  ⟨h.cell 0, h.cell 1, h.cell 2, h.cell 3, h.cell 4, h.cell 5, h.cell 6, h.cell 7, h.cell 8, h.cell 9⟩
theorem cnAt3 {w : World} {b o : Nat} {x : Cn} (h : cnE.At w b o x) : w.cell? ⟨b, o, none⟩ = some (.int .i64 x.d) ∧ w.cell? ⟨b, o + 1, none⟩ = some (.int .i64 x.i) ∧ w.cell? ⟨b, o + 2, none⟩ = some (.int .i64 x.n) :=
  ⟨h 0 _ rfl, h 1 _ rfl, h 2 _ rfl⟩
theorem cnIn3 {w : World} {b : Nat} {x : Cn} (h : cnE.In w b x) : w.cell? ⟨b, 0, none⟩ = some (.int .i64 x.d) ∧ w.cell? ⟨b, 1, none⟩ = some (.int .i64 x.i) ∧ w.cell? ⟨b, 2, none⟩ = some (.int .i64 x.n) :=
  ⟨h.cell 0, h.cell 1, h.cell 2⟩
theorem bytesOf_le10 {n : Int} (h : i64 n) : (bytesOf n).size ≤ 10 := by rw [bytesOf_size]; exact enc_ten _ (fold_lt n h.1 h.2)
end Go.Proofs.YtdcjffajmckleaaGreatDoor

/- Gifts and frames in memory; what the program's functions shall answer (FrameCalls); the document's Same of lists, RightGift, PrintGift. -/
namespace Go.Proofs.YtdcjffajmckleaaGreatDoor
open Go.RowKit Nam Cod

def gfE : El Gf where
  e := 97
  k := 5
  c g := [.int .i64 g.d, .int .i64 g.i, .int .i64 g.c, .int .i64 g.t, .string g.s]
  len _ := rfl
  one p u h := by
    simp only [List.mem_cons, List.not_mem_nil, or_false] at h
    rcases h with rfl | rfl | rfl | rfl | rfl <;> rfl
  pos := by decide
structure Fw where
  oA : Option Addr
  oc : Nat
  rA : Option Addr
  rc : Nat
  eA : Option Addr
  ec : Nat
  gA : Option Addr
  gc : Nat
  x : Fr
def frE : El Fw where
  e := 65
  k := 14
  c y := [.int .i64 y.x.a, .int .i64 y.x.b, .int .i64 y.x.boot, .int .i64 y.x.first, .slice y.oA y.x.os.length y.oc, .int .i64 y.x.pos, .slice y.rA y.x.rs.length y.rc, .int .i64 y.x.start, .slice y.eA y.x.es.length y.ec, .int .i64 y.x.ack, .int .i64 y.x.grant, .int .i64 y.x.s, .int .i64 y.x.t, .slice y.gA y.x.gs.length y.gc]
  len _ := rfl
  one p u h := by
    simp only [List.mem_cons, List.not_mem_nil, or_false] at h
    rcases h with rfl | rfl | rfl | rfl | rfl | rfl | rfl | rfl | rfl | rfl | rfl | rfl | rfl | rfl <;> rfl
  pos := by decide
theorem frRow : frE.Row Tryz.prog := ⟨by kernel_rfl, _, Tryz.underlying65, rfl⟩
structure Fw.ok (y : Fw) (w : World) : Prop where
  o : SlV opE w y.oA y.oc y.x.os
  r : SlV rpE w y.rA y.rc y.x.rs
  e : SlV enE w y.eA y.ec y.x.es
  g : SlV gfE w y.gA y.gc y.x.gs
theorem Fw.ok.below {y : Fw} {W w : World} (h : y.ok W) (hb : Below W.heap.size W w) : y.ok w := ⟨SlV.below h.o hb, SlV.below h.r hb, SlV.below h.e hb, SlV.below h.g hb⟩
def zeroFw : Fw := ⟨none, 0, none, 0, none, 0, none, 0, zeroFr⟩
end Go.Proofs.YtdcjffajmckleaaGreatDoor

/- Queues in memory; what the program's functions shall answer (QueueCalls); the document's New, Allow, Same. -/
namespace Go.Proofs.YtdcjffajmckleaaGreatDoor
open Go.RowKit Nam Cod

structure Qw where
  A : Option Addr
  c : Nat
  x : Qu
def quE : El Qw where
  e := 33
  k := 3
  c y := [.int .i64 y.x.f, .int .i64 y.x.g, .slice y.A y.x.os.length y.c]
  len _ := rfl
  one p u h := by
    simp only [List.mem_cons, List.not_mem_nil, or_false] at h
    rcases h with rfl | rfl | rfl <;> rfl
  pos := by decide
theorem quRow : quE.Row Tryz.prog := ⟨by kernel_rfl, _, Tryz.underlying33, rfl⟩
theorem quIn3 {w : World} {b : Nat} {y : Qw} (h : quE.In w b y) : w.cell? ⟨b, 0, none⟩ = some (.int .i64 y.x.f) ∧ w.cell? ⟨b, 1, none⟩ = some (.int .i64 y.x.g) ∧ w.cell? ⟨b, 2, none⟩ = some (.slice y.A y.x.os.length y.c) :=
  ⟨h.cell 0, h.cell 1, h.cell 2⟩
def Qw.ok (y : Qw) (w : World) : Prop := SlV opE w y.A y.c y.x.os
theorem Qw.ok.below {y : Qw} {W w : World} (h : y.ok W) (hb : Below W.heap.size W w) : y.ok w := SlV.below h hb
def zeroQw : Qw := ⟨none, 0, nilQu⟩
def newQw : Qw := ⟨none, 0, newQu⟩
theorem qu_off {w : World} {A : Option Addr} {l : List Mv} {n : Nat} {z : Qw} (h : opE.Sl w A l) (hP : quE.In w n z) : 0 < l.length → ∀ a, A = some a → some a.block ≠ some n := fun h0 a e e2 => by
  obtain ⟨b, off, eb, _, hc⟩ := h h0
  rw [e] at eb
  cases eb
  have e2 := Option.some.inj e2
  dsimp only at e2
  subst e2
  have h1 := hc 0 h0 6 _ rfl
  rw [hP.cell, List.getElem?_eq_none (by rw [quE.len]; show 3 ≤ off + 0 * 7 + 6; omega)] at h1
  cases h1
theorem SlV.keepO {w w' : World} {A : Option Addr} {c : Nat} {l : List Mv} {row : Option Nat} (h : SlV opE w A c l) (hg : w.grownBy w' row) (hne : 0 < l.length → ∀ a, A = some a → some a.block ≠ row) : SlV opE w' A c l :=
  ⟨fun h0 => (h.1.keep hg (hne h0)) h0, h.2⟩
theorem two_quB (w : World) (a b : Array Value) (z : Qw) (hb : b = (quE.c z).toArray) : quE.In ((w.alloc (.cells a 33)).alloc (.cells b 33)) (w.heap.size + 1) z := by
  have := El.In.new (E := quE) (w.alloc (.cells a 33)) z b hb
  rw [alloc_size] at this; exact this
/-- A queue whose numbers stay far from where they wrap. -/
structure QuN (x : Qu) : Prop where
  f : -1000000000000000 ≤ x.f ∧ x.f ≤ 1000000000000000
  g : -1000000000000000 ≤ x.g ∧ x.g ≤ 1000000000000000
  l : x.os.length ≤ 50000
/-- What one holds lies in new memory, or where the other one's lies. -/
def Near (B : Nat) (y z : Qw) : Prop := 0 < z.x.os.length → ∀ a', z.A = some a' → B ≤ a'.block ∨ (0 < y.x.os.length ∧ ∃ a, y.A = some a ∧ a.block = a'.block)
theorem Near.mono {B B' : Nat} {y z : Qw} (h : Near B' y z) (hB : B ≤ B') : Near B y z := fun h0 a' e => by
  rcases h h0 a' e with h1 | h1
  · exact Or.inl (by omega)
  · exact Or.inr h1
end Go.Proofs.YtdcjffajmckleaaGreatDoor

/- A fleet's shape as a list of parents: kids, depth, kinds, who is below whom; what follows of a plan that may be. No call in it. -/
namespace Pln

/-- Of nodes from 1 on: those whose Up this is, rising. -/
def kidsN (u : List Int) (n : Int) : List Nat := (List.range u.length).filter fun i => decide (0 < i) && decide (u.getD i 0 = n)
def deepF (u : List Int) : Nat → Int → Nat
  | 0, _ => 0
  | f + 1, n => if 0 < n ∧ n < u.length ∧ u.getD n.toNat 0 < n then deepF u f (u.getD n.toNat 0) + 1 else 0
def deepL (u : List Int) (n : Int) : Nat := deepF u u.length n
def deepest (u : List Int) : Nat := (List.range u.length).foldl (fun (m i : Nat) => max m (deepL u (i : Int))) 0
def kindL (u : List Int) (n : Int) : Int := if n < 0 ∨ (u.length : Int) ≤ n then 0 else if n = 0 then 1 else if (kidsN u n).length = 0 then 3 else 2
def devsN (u : List Int) : List Nat := (List.range u.length).filter fun i => decide (kindL u i = 3)
structure Pn where
  u : List Int
  q : Int
  r : Int
  b : Int
  l : Int
  w : Int
  c : Int
  k : Int
  i : Int
/-- Each node's Up but node 0's is one ahead of it. -/
def Par (u : List Int) : Prop := ∀ i : Nat, 0 < i → i < u.length → 0 ≤ u.getD i 0 ∧ u.getD i 0 < i
structure Right (p : Pn) : Prop where
  n2 : 2 ≤ p.u.length
  n12 : p.u.length ≤ 12
  up0 : p.u.getD 0 0 = -1
  par : Par p.u
  deep : ∀ i : Nat, i < p.u.length → deepL p.u i ≤ 4
  kids : ∀ i : Nat, i < p.u.length → (kidsN p.u i).length ≤ 4
  devs : (devsN p.u).length ≤ 8
  q : 1 ≤ p.q ∧ p.q ≤ 8
  r : 1 ≤ p.r ∧ p.r ≤ 16
  b : 1 ≤ p.b ∧ p.b ≤ 8
  w : 1 ≤ p.w ∧ p.w ≤ 8
  c : 16 ≤ p.c ∧ p.c ≤ 256
  k : 1 ≤ p.k ∧ p.k ≤ 16
  i : 3 ≤ p.i ∧ p.i ≤ 64
  l : 2 * (deepest p.u : Int) * (p.w + 2) < p.l ∧ p.l ≤ 1000

theorem mem_kids {u : List Int} {n : Int} {j : Nat} : j ∈ kidsN u n ↔ 0 < j ∧ j < u.length ∧ u.getD j 0 = n := by
  unfold kidsN
  rw [List.mem_filter, List.mem_range, Bool.and_eq_true, decide_eq_true_iff, decide_eq_true_iff]
  exact ⟨fun ⟨a, b, c⟩ => ⟨b, a, c⟩, fun ⟨b, a, c⟩ => ⟨a, b, c⟩⟩
/-- The depth needs no more looks than the node's number. -/
theorem deepF_at {u : List Int} (hp : Par u) : ∀ (m f : Nat) (i : Nat), i ≤ m → i ≤ f → deepF u f i = deepF u i i
  | m, f, 0, _, _ => by
    cases f with
    | zero => rfl
    | succ f => unfold deepF; rw [if_neg (by omega)]
  | m, f, i + 1, hm, hf => by
    obtain ⟨g, rfl⟩ : ∃ g, f = g + 1 := ⟨f - 1, by omega⟩
    unfold deepF
    have et : ((i + 1 : Nat) : Int).toNat = i + 1 := by omega
    rw [et]
    by_cases h : 0 < ((i + 1 : Nat) : Int) ∧ ((i + 1 : Nat) : Int) < u.length ∧ u.getD (i + 1) 0 < ((i + 1 : Nat) : Int)
    · rw [if_pos h, if_pos h]
      obtain ⟨h1, h2⟩ := hp (i + 1) (by omega) (by omega)
      obtain ⟨j, hj⟩ : ∃ j : Nat, u.getD (i + 1) 0 = j := ⟨(u.getD (i + 1) 0).toNat, by omega⟩
      rw [hj]
      cases m with
      | zero => omega
      | succ m => rw [deepF_at hp m g j (by omega) (by omega), deepF_at hp m i j (by omega) (by omega)]
    · rw [if_neg h, if_neg h]
theorem deep_zero (u : List Int) : deepL u 0 = 0 := by
  unfold deepL
  cases u.length with
  | zero => rfl
  | succ f => unfold deepF; rw [if_neg (by omega)]
theorem deep_kid {u : List Int} (hp : Par u) {i j : Nat} (h0 : 0 < j) (hj : j < u.length) (hu : u.getD j 0 = i) : deepL u j = deepL u i + 1 := by
  obtain ⟨h1, h2⟩ := hp j h0 hj
  unfold deepL
  obtain ⟨f, hf⟩ : ∃ f, u.length = f + 1 := ⟨u.length - 1, by omega⟩
  have e1 := deepF_at hp u.length u.length i (by omega) (by omega)
  have e2 := deepF_at hp u.length f i (by omega) (by omega)
  rw [e1, ← e2, hf]
  conv => lhs; unfold deepF
  have et : ((j : Nat) : Int).toNat = j := by omega
  rw [et, hu, if_pos ⟨by omega, by omega, by omega⟩]
theorem foldl_max_le (g : Nat → Nat) : ∀ (l : List Nat) (m : Nat), m ≤ l.foldl (fun m i => max m (g i)) m ∧ ∀ i ∈ l, g i ≤ l.foldl (fun m i => max m (g i)) m
  | [], m => ⟨Nat.le_refl _, fun i h => by cases h⟩
  | a :: l, m => by
    obtain ⟨h1, h2⟩ := foldl_max_le g l (max m (g a))
    rw [List.foldl_cons]
    refine ⟨by omega, fun i hi => ?_⟩
    rcases List.mem_cons.1 hi with rfl | hi
    · omega
    · exact h2 i hi
theorem foldl_max_bd (g : Nat → Nat) (B : Nat) : ∀ (l : List Nat) (m : Nat), m ≤ B → (∀ i ∈ l, g i ≤ B) → l.foldl (fun m i => max m (g i)) m ≤ B
  | [], m, hm, _ => hm
  | a :: l, m, hm, h => foldl_max_bd g B l _ (by have := h a (by simp); show max m (g a) ≤ B; omega) (fun i hi => h i (by simp [hi]))
theorem deep_le {u : List Int} {i : Nat} (h : i < u.length) : deepL u i ≤ deepest u := (foldl_max_le (fun i : Nat => deepL u (i : Int)) (List.range u.length) 0).2 i (List.mem_range.2 h)
theorem deepest_le {u : List Int} {B : Nat} (h : ∀ i : Nat, i < u.length → deepL u i ≤ B) : deepest u ≤ B := foldl_max_bd (fun i : Nat => deepL u (i : Int)) B _ 0 (Nat.zero_le _) fun i hi => h i (List.mem_range.1 hi)

end Pln

/- What follows of a plan that may be: kinds, kids, one device more. No call in it. -/
namespace Pln

theorem Right.neg {p : Pn} (h : Right p) : p.u.getD 0 0 < 0 := by rw [h.up0]; decide
theorem kind_root {u : List Int} (h : 0 < u.length) : kindL u 0 = 1 := by
  unfold kindL; rw [if_neg (by omega), if_pos rfl]
theorem kind_of {u : List Int} {i : Nat} (h0 : 0 < i) (h : i < u.length) : kindL u i = if (kidsN u i).length = 0 then 3 else 2 := by
  unfold kindL; rw [if_neg (by omega), if_neg (by omega)]
/-- One node more below the root. -/
theorem more_get (u : List Int) (i : Nat) : (u ++ [0]).getD i 0 = u.getD i 0 := by
  rcases Nat.lt_trichotomy i u.length with h | h | h
  · simp [List.getElem?_append_left h]
  · subst h; simp
  · simp [List.getElem?_eq_none (show u.length ≤ i by omega), List.getElem?_eq_none (show (u ++ [0]).length ≤ i by rw [List.length_append, List.length_singleton]; omega)]
theorem more_len (u : List Int) : (u ++ [0]).length = u.length + 1 := by rw [List.length_append, List.length_singleton]
theorem more_par {u : List Int} (hp : Par u) (h : 0 < u.length) : Par (u ++ [0]) := fun i h0 hi => by
  rw [more_get]
  rw [more_len] at hi
  by_cases e : i < u.length
  · exact hp i h0 e
  · have : u.getD i 0 = 0 := by simp [List.getElem?_eq_none (show u.length ≤ i by omega)]
    rw [this]; omega
theorem more_kids {u : List Int} (h : 0 < u.length) (n : Int) : kidsN (u ++ [0]) n = kidsN u n ++ (if n = 0 then [u.length] else []) := by
  unfold kidsN
  rw [more_len, List.range_succ, List.filter_append]
  simp only [more_get]
  congr 1
  have hd : u.getD u.length 0 = 0 := by simp
  by_cases e : n = 0
  · subst e
    rw [if_pos rfl, List.filter_cons, hd]
    simp [h]
  · rw [if_neg e, List.filter_cons, hd]
    have : ¬ (0 : Int) = n := fun h => e h.symm
    simp [this]
theorem more_kids_no {u : List Int} (h : 0 < u.length) {n : Int} (hn : n ≠ 0) : kidsN (u ++ [0]) n = kidsN u n := by rw [more_kids h, if_neg hn, List.append_nil]
theorem more_kids_root {u : List Int} (h : 0 < u.length) : kidsN (u ++ [0]) 0 = kidsN u 0 ++ [u.length] := by rw [more_kids h, if_pos rfl]
theorem more_deep {u : List Int} (hp : Par u) {i : Nat} (h : i < u.length) : deepL (u ++ [0]) i = deepL u i := by
  have hp2 := more_par hp (by omega)
  unfold deepL
  rw [deepF_at hp2 (u.length + 1) _ i (by omega) (by rw [more_len]; omega), deepF_at hp u.length _ i (by omega) (by omega)]
  have : ∀ (f : Nat) (j : Nat), j < u.length → deepF (u ++ [0]) f j = deepF u f j := fun f => by
    induction f with
    | zero => intro j _; rfl
    | succ f ih =>
      intro j hj
      unfold deepF
      have et : ((j : Nat) : Int).toNat = j := by omega
      rw [et, more_get, more_len]
      by_cases h0 : 0 < j
      · obtain ⟨h1, h2⟩ := hp j h0 hj
        rw [if_pos ⟨by omega, by omega, by omega⟩, if_pos ⟨by omega, by omega, by omega⟩]
        obtain ⟨k, hk⟩ : ∃ k : Nat, u.getD j 0 = k := ⟨(u.getD j 0).toNat, by omega⟩
        rw [hk, ih k (by omega)]
      · rw [if_neg (by omega), if_neg (by omega)]
  exact this i i h
theorem more_deep_new {u : List Int} (hp : Par u) (h : 0 < u.length) : deepL (u ++ [0]) u.length = 1 := by
  have hp2 := more_par hp h
  have hd : u.getD u.length 0 = 0 := by simp
  have h1 := deep_kid hp2 (i := 0) (j := u.length) h (by rw [more_len]; omega) (by rw [more_get, hd]; rfl)
  rw [h1]
  have h2 : deepL (u ++ [0]) ((0 : Nat) : Int) = 0 := deep_zero _
  rw [h2]
theorem more_deepest {u : List Int} (hp : Par u) (h : 2 ≤ u.length) : deepest (u ++ [0]) = deepest u := by
  have h1 : 1 ≤ deepest u := by
    have h2 := deep_le (u := u) (i := 1) (by omega)
    have h3 := hp 1 (by omega) (by omega)
    have h4 := deep_kid hp (i := 0) (j := 1) (by omega) (by omega) (by omega)
    omega
  apply Nat.le_antisymm
  · refine deepest_le fun i hi => ?_
    rw [more_len] at hi
    by_cases e : i < u.length
    · rw [more_deep hp e]; exact deep_le e
    · obtain rfl : i = u.length := by omega
      rw [more_deep_new hp (by omega)]; exact h1
  · refine deepest_le fun i hi => ?_
    rw [← more_deep hp hi]; exact deep_le (by rw [more_len]; omega)
theorem more_kind {u : List Int} (h2 : 0 < u.length) {i : Nat} (h : i < u.length) : kindL (u ++ [0]) i = kindL u i := by
  by_cases h0 : i = 0
  · subst h0
    have h3 : kindL u ((0 : Nat) : Int) = 1 := kind_root (by omega)
    have h4 : kindL (u ++ [0]) ((0 : Nat) : Int) = 1 := kind_root (by rw [more_len]; omega)
    rw [h3, h4]
  · rw [kind_of (by omega) h, kind_of (by omega) (by rw [more_len]; omega), more_kids_no h2 (by omega)]
theorem more_kind_new {u : List Int} (hp : Par u) (h : 0 < u.length) : kindL (u ++ [0]) u.length = 3 := by
  rw [kind_of h (by rw [more_len]; omega), more_kids_no h (by omega)]
  rcases e : kidsN u (u.length : Int) with _ | ⟨j, l⟩
  · rfl
  · have hj : j ∈ kidsN u (u.length : Int) := by rw [e]; simp
    obtain ⟨h1, h3, h4⟩ := mem_kids.1 hj
    have := (hp j h1 h3).2
    omega
theorem more_devs {u : List Int} (hp : Par u) (h : 0 < u.length) : devsN (u ++ [0]) = devsN u ++ [u.length] := by
  unfold devsN
  rw [more_len, List.range_succ, List.filter_append]
  congr 1
  · exact List.filter_congr fun i hi => by rw [more_kind h (List.mem_range.1 hi)]
  · rw [List.filter_cons, more_kind_new hp h]; rfl
theorem Right.more {p : Pn} (h : Right p) : Right { p with u := p.u ++ [0] } ↔ p.u.length + 1 ≤ 12 ∧ (kidsN p.u 0).length < 4 ∧ (devsN p.u).length < 8 := by
  have h2 := h.n2
  constructor
  · intro g
    have g1 := g.n12
    have g2 := g.kids 0 (by show 0 < (p.u ++ [0]).length; rw [more_len]; omega)
    have g3 := g.devs
    simp only at g1 g2 g3
    rw [more_len] at g1
    rw [more_devs h.par (by omega), List.length_append, List.length_singleton] at g3
    have e0 : (((0 : Nat) : Int)) = 0 := rfl
    rw [e0, more_kids_root (by omega), List.length_append, List.length_singleton] at g2
    exact ⟨g1, by omega, by omega⟩
  · rintro ⟨g1, g2, g3⟩
    exact {
      n2 := by show 2 ≤ (p.u ++ [0]).length; rw [more_len]; omega
      n12 := by show (p.u ++ [0]).length ≤ 12; rw [more_len]; omega
      up0 := by show (p.u ++ [0]).getD 0 0 = -1; rw [more_get]; exact h.up0
      par := more_par h.par (by omega)
      deep := fun i hi => by
        have hi : i < (p.u ++ [0]).length := hi
        rw [more_len] at hi
        show deepL (p.u ++ [0]) i ≤ 4
        by_cases e : i < p.u.length
        · rw [more_deep h.par e]; exact h.deep i e
        · obtain rfl : i = p.u.length := by omega
          rw [more_deep_new h.par (by omega)]; decide
      kids := fun i hi => by
        have hi : i < (p.u ++ [0]).length := hi
        rw [more_len] at hi
        show (kidsN (p.u ++ [0]) i).length ≤ 4
        by_cases e : i = 0
        · subst e
          have e0 : (((0 : Nat) : Int)) = 0 := rfl
          rw [e0, more_kids_root (by omega), List.length_append, List.length_singleton]; omega
        · rw [more_kids_no (by omega) (by omega)]
          by_cases e2 : i < p.u.length
          · exact h.kids i e2
          · obtain rfl : i = p.u.length := by omega
            have h5 := more_kind_new h.par (show 0 < p.u.length by omega)
            rw [kind_of (by omega) (by rw [more_len]; omega), more_kids_no (by omega) (by omega)] at h5
            by_cases e3 : (kidsN p.u p.u.length).length = 0
            · omega
            · rw [if_neg e3] at h5; exact absurd h5 (by decide)
      devs := by
        show (devsN (p.u ++ [0])).length ≤ 8
        rw [more_devs h.par (by omega), List.length_append, List.length_singleton]; omega
      q := h.q
      r := h.r
      b := h.b
      w := h.w
      c := h.c
      k := h.k
      i := h.i
      l := by
        show 2 * (deepest (p.u ++ [0]) : Int) * (p.w + 2) < p.l ∧ p.l ≤ 1000
        rw [more_deepest h.par h2]; exact h.l }
end Pln

/- Plans as values; what the program's functions shall answer of plans that may be (PlanCalls: proved for the real program in a text of its own); the laws' awake. -/
namespace Go.Proofs.YtdcjffajmckleaaGreatDoor
open Go.RowKit Pln

/-- A plan, and where its slice lies. -/
structure Pnw where
  A : Option Addr
  c : Nat
  p : Pn
def inE : El Int where
  e := 3
  k := 1
  c x := [.int .i64 x]
  len _ := rfl
  one p u h := by
    simp only [List.mem_cons, List.not_mem_nil, or_false] at h
    subst h; rfl
  pos := by decide
def pnE : El Pnw where
  e := 26
  k := 9
  c x := [.slice x.A x.p.u.length x.c, .int .i64 x.p.q, .int .i64 x.p.r, .int .i64 x.p.b, .int .i64 x.p.l, .int .i64 x.p.w, .int .i64 x.p.c, .int .i64 x.p.k, .int .i64 x.p.i]
  len _ := rfl
  one p u h := by
    simp only [List.mem_cons, List.not_mem_nil, or_false] at h
    rcases h with rfl | rfl | rfl | rfl | rfl | rfl | rfl | rfl | rfl <;> rfl
  pos := by decide
theorem pnRow : pnE.Row Tryz.prog := ⟨by kernel_rfl, _, Tryz.underlying26, rfl⟩
def Pnw.zero : Pnw := ⟨none, 0, ⟨[], 0, 0, 0, 0, 0, 0, 0, 0⟩⟩
theorem pnIn9 {w : World} {b : Nat} {x : Pnw} (h : pnE.In w b x) : w.cell? ⟨b, 0, none⟩ = some (.slice x.A x.p.u.length x.c) ∧ w.cell? ⟨b, 1, none⟩ = some (.int .i64 x.p.q) ∧ w.cell? ⟨b, 2, none⟩ = some (.int .i64 x.p.r) ∧ w.cell? ⟨b, 3, none⟩ = some (.int .i64 x.p.b) ∧ w.cell? ⟨b, 4, none⟩ = some (.int .i64 x.p.l) ∧ w.cell? ⟨b, 5, none⟩ = some (.int .i64 x.p.w) ∧ w.cell? ⟨b, 6, none⟩ = some (.int .i64 x.p.c) ∧ w.cell? ⟨b, 7, none⟩ = some (.int .i64 x.p.k) ∧ w.cell? ⟨b, 8, none⟩ = some (.int .i64 x.p.i) :=
  ⟨h.cell 0, h.cell 1, h.cell 2, h.cell 3, h.cell 4, h.cell 5, h.cell 6, h.cell 7, h.cell 8⟩
def P0 : Pn := ⟨[-1, 0, 1, 1, 0], 2, 3, 2, 20, 2, 32, 4, 16⟩
def x0 (n : Nat) : Pnw := ⟨some ⟨n, 0, none⟩, 5, P0⟩
end Go.Proofs.YtdcjffajmckleaaGreatDoor

/- What may be a tree: of the program. -/
namespace Go.Proofs.YtdcjffajmckleaaGreatDoor
open Go.RowKit Tre Nam Cod

theorem okPl_five {n u : Int} {P : Prop} (h1 : ¬ 2 ≤ n → P) (h2 : 2 ≤ n → ¬ n < 64 → P) (h3 : 2 ≤ n → n < 64 → ¬ 0 ≤ u → P) (h4 : 2 ≤ n → n < 64 → 0 ≤ u → ¬ u < 64 → P) (h5 : 2 ≤ n → n < 64 → 0 ≤ u → u < 64 → P) : P := by
  by_cases a : 2 ≤ n
  · by_cases b : n < 64
    · by_cases c : 0 ≤ u
      · by_cases d : u < 64
        · exact h5 a b c d
        · exact h4 a b c d
      · exact h3 a b c
    · exact h2 a b
  · exact h1 a
theorem okPl_false {p : Pl} (h : ¬ (2 ≤ p.n ∧ p.n < 64 ∧ 0 ≤ p.u ∧ p.u < 64)) : okPl p = false := by
  unfold okPl; rw [decide_eq_false h]; rfl
theorem okPl_name {p : Pl} (h : 2 ≤ p.n ∧ p.n < 64 ∧ 0 ≤ p.u ∧ p.u < 64) : okPl p = isName (L p.s) := by
  unfold okPl; rw [decide_eq_true h]; rfl

theorem rightPlace_any (p : Pl) (w : World) (hs : p.s.size ≤ 9223372036854775807) :
    Calls Tryz.prog 131 #[.agg #[.int .i64 p.n, .int .i64 p.u, .string p.s]] w fun e w' => e = .returned (.bool (okPl p)) ∧ Below w.heap.size w w' := by
  have c := fun w => nmRight_any p.s w hs
  refine okPl_five (n := p.n) (u := p.u) ?_ ?_ ?_ ?_ ?_
  · intro h1
    rw [okPl_false (by omega)]
    go_enter Tryz.func131, Tryz.ntmps131
    go_wp2
    go_ret
    exact ⟨rfl, below_alloc (Below.refl _ _) _⟩
  · intro h1 h2
    rw [okPl_false (by omega)]
    go_enter Tryz.func131, Tryz.ntmps131
    go_wp2
    go_ret
    exact ⟨rfl, below_alloc (Below.refl _ _) _⟩
  · intro h1 h2 h3
    rw [okPl_false (by omega)]
    go_enter Tryz.func131, Tryz.ntmps131
    go_wp2
    go_ret
    exact ⟨rfl, below_alloc (Below.refl _ _) _⟩
  · intro h1 h2 h3 h4
    rw [okPl_false (by omega)]
    go_enter Tryz.func131, Tryz.ntmps131
    go_wp2
    go_ret
    exact ⟨rfl, below_alloc (Below.refl _ _) _⟩
  · intro h1 h2 h3 h4
    rw [okPl_name ⟨h1, h2, h3, h4⟩]
    generalize isName (L p.s) = x at *
    have C := Lib.hid c
    clear c
    go_enter Tryz.func131, Tryz.ntmps131
    go_wp2_with (go_at_call 78; (with_reducible refine (C.out _).mono ?_); rintro e w1 ⟨rfl, rfl⟩)
    go_ret
    exact ⟨rfl, below_alloc (Below.refl _ _) _⟩

/-- The places ahead of i may be, and rise. -/
def GoodTo (l : List Pl) (i : Nat) : Prop := ∀ k (h : k < l.length), k < i → okPl l[k] = true ∧ ∀ (h0 : 0 < k), (l[k - 1]'(by omega)).n < l[k].n
theorem goodTo_next {l : List Pl} {i : Nat} (h : GoodTo l i) (hi : i < l.length) (h1 : okPl l[i] = true) (h2 : ∀ (h0 : 0 < i), (l[i - 1]'(by omega)).n < l[i].n) : GoodTo l (i + 1) := by
  intro k hk hlt
  by_cases e : k = i
  · subst e; exact ⟨h1, h2⟩
  · exact h k hk (by omega)
theorem rising_of : ∀ {l : List Pl}, (∀ k (h : k < l.length) (h0 : 0 < k), (l[k - 1]'(by omega)).n < l[k].n) → rising l = true
  | [], _ => rfl
  | [_], _ => rfl
  | p :: q :: l, h => by
    unfold rising
    rw [Bool.and_eq_true, decide_eq_true_iff]
    refine ⟨h 1 (by simp) (by omega), rising_of (l := q :: l) fun k hk h0 => ?_⟩
    have := h (k + 1) (by simpa using hk) (by omega)
    obtain ⟨m, rfl⟩ : ∃ m, k = m + 1 := ⟨k - 1, by omega⟩
    simpa using this
def riseB (l : List Pl) : Bool := l.all okPl && rising l
theorem goodTo_all {l : List Pl} (h : GoodTo l l.length) : riseB l = true := by
  unfold riseB
  rw [Bool.and_eq_true, List.all_eq_true]
  refine ⟨fun p hp => ?_, rising_of fun k hk h0 => (h k hk hk).2 h0⟩
  obtain ⟨k, hk, rfl⟩ := List.getElem_of_mem hp
  exact (h k hk hk).1
theorem goodTo_back {l : List Pl} (h : riseB l = true) : (∀ k (h : k < l.length), okPl l[k] = true) ∧ Sorted l := by
  unfold riseB at h
  rw [Bool.and_eq_true, List.all_eq_true] at h
  exact ⟨fun k hk => h.1 _ (List.getElem_mem hk), rising_sorted h.2⟩
theorem goodTo_bad {l : List Pl} {i : Nat} (hi : i < l.length) (h : ¬ (okPl l[i] = true ∧ ∀ (h0 : 0 < i), (l[i - 1]'(by omega)).n < l[i].n)) : riseB l = false := by
  rcases e : riseB l with _ | _
  · rfl
  · obtain ⟨h1, h2⟩ := goodTo_back e
    exact absurd ⟨h1 i hi, fun h0 => h2 _ _ (by omega) hi (by omega)⟩ h

set_option maxHeartbeats 4000000 in
theorem rising_any (A : Option Addr) (cap : Nat) (l : List Pl) (w : World) (hl : l.length ≤ 1000) (hsz : ∀ p ∈ l, p.s.size ≤ 9223372036854775807) (hT : Tr w A l) :
    Calls Tryz.prog 118 #[.slice A l.length cap] w fun e w' => e = .returned (.bool (riseB l)) ∧ Below w.heap.size w w' := by
  go_enter Tryz.func118, Tryz.ntmps118
  go_wp2
  go_loopw [7] (fun x wr => ∃ k : Nat, k ≤ l.length ∧ x = .int .i64 k ∧ GoodTo l k ∧ Below w.heap.size w wr) (fun x _ => l.length - (intOf x).toNat)
  case atStart => exact ⟨0, Nat.zero_le _, rfl, fun k h hk => by omega, Below.refl _ _⟩
  case round =>
    obtain ⟨k, hk, rfl, hgd, hnx⟩ := hrel
    by_cases hlt : k < l.length
    · obtain ⟨bb, off, rfl, hbw, hc⟩ := hT (by omega)
      have hbr := Nat.lt_of_lt_of_le hbw hnx.size
      have hat := (hc k hlt).below hnx hbw
      obtain ⟨p, hp⟩ : ∃ p, l[k] = p := ⟨_, rfl⟩
      have c := fun w => rightPlace_any p w (hsz p (hp ▸ List.getElem_mem hlt))
      have hbad := goodTo_bad hlt
      have hnext := goodTo_next hgd hlt
      rw [hp] at hat hbad hnext
      have hprev : ∀ h0 : 0 < k, AtPl wr bb (off + (k - 1) * 3) (l[k - 1]'(by omega)) := fun h0 => (hc (k - 1) (by omega)).below hnx hbw
      obtain ⟨q0, q1, q2⟩ := hat
      have HG := Lib.hid hgd
      have HB := Lib.hid hbad
      have HN := Lib.hid hnext
      clear hgd hbad hnext hc hsz
      cases hok : okPl p
      · rw [hok] at c
        have C := Lib.hid c
        have hr : riseB l = false := HB.out (fun h => by rw [hok] at h; exact absurd h.1 (by simp))
        have HR := Lib.hid hr
        clear c hr hok hprev hp
        go_wp2
        have hO := PlIn.new wr p
        have hB0 := below_alloc hnx (.cells #[.int .i64 p.n, .int .i64 p.u, .string p.s] 50)
        generalize wr.alloc (.cells #[.int .i64 p.n, .int .i64 p.u, .string p.s] 50) = W at *
        obtain ⟨g0, g1, g2⟩ := hO.cells
        have k0 := cell_regrown g0
        have k1 := cell_regrown g1
        have k2 := cell_regrown g2
        clear g0 g1 g2 hO
        have d1 : ∀ d os, Calls Tryz.prog 131 #[.agg #[.int .i64 p.n, .int .i64 p.u, .string p.s]] (Sort.grow (redrawn W d) os) fun e w'' => e = .returned (.bool false) ∧ ∃ p : Regrown, w'' = Sort.grow (redrawn W p.d) p.os := fun d os => Calls.regrown_of (C.out _)
        refine wp_region_quiet_below (by kernel_rfl) (by kernel_rfl) ?_
        repeat (go_big_quiet_step ((with_reducible (exact d1 _ _))))
        refine wpQuiet_nil ?_
        intro _ hw'
        obtain ⟨⟨dq, osq⟩, hw''⟩ := hw'
        subst hw''
        go_wp2
        go_ret
        exact ⟨by rw [HR.out]; rfl, below_then hB0 (below_regrown W dq osq)⟩
      · rw [hok] at c
        have C := Lib.hid c
        clear c
        by_cases h0 : 0 < k
        · obtain ⟨t0, t1, t2⟩ := hprev h0
          obtain ⟨q, hq⟩ : ∃ q, l[k - 1]'(by omega) = q := ⟨_, rfl⟩
          rw [hq] at t0 t1 t2
          have hix : ((k : Int) - 1).toNat = k - 1 := by omega
          by_cases hc2 : q.n < p.n
          · have HQ : ∀ h0 : 0 < k, (l[k - 1]'(by omega)).n < p.n := fun _ => by rw [hq]; exact hc2
            have HQ := Lib.hid HQ
            clear hq hp hprev
            go_wp2
            have hO := PlIn.new wr p
            have hB0 := below_alloc hnx (.cells #[.int .i64 p.n, .int .i64 p.u, .string p.s] 50)
            have hw0 := below_alloc (Below.refl _ wr) (.cells #[.int .i64 p.n, .int .i64 p.u, .string p.s] 50)
            rw [← (bcell hw0).1 _ _ hbr] at t0
            clear hw0
            generalize wr.alloc (.cells #[.int .i64 p.n, .int .i64 p.u, .string p.s] 50) = W at *
            obtain ⟨g0, g1, g2⟩ := hO.cells
            have k0 := cell_regrown g0
            have k1 := cell_regrown g1
            have k2 := cell_regrown g2
            have kt0 := cell_regrown t0
            clear t0 t1 t2
            clear g0 g1 g2 hO
            have d1 : ∀ d os, Calls Tryz.prog 131 #[.agg #[.int .i64 p.n, .int .i64 p.u, .string p.s]] (Sort.grow (redrawn W d) os) fun e w'' => e = .returned (.bool true) ∧ ∃ p : Regrown, w'' = Sort.grow (redrawn W p.d) p.os := fun d os => Calls.regrown_of (C.out _)
            refine wp_region_quiet_below (by kernel_rfl) (by kernel_rfl) ?_
            repeat (go_big_quiet_step ((with_reducible (exact d1 _ _))))
            refine wpQuiet_nil ?_
            intro _ hw'
            obtain ⟨⟨dq, osq⟩, hw''⟩ := hw'
            subst hw''
            go_wp2
            go_roundw
            case rel => exact ⟨k + 1, by omega, by go_num, HN.out hok fun h0 => HQ.out h0, below_then hB0 (below_regrown W dq osq)⟩
            case measure => simp [intOf]; omega
          · have hr : riseB l = false := HB.out (fun h => by have := h.2 h0; rw [hq] at this; exact hc2 this)
            have HR := Lib.hid hr
            clear hr hq hp hprev
            go_wp2
            have hO := PlIn.new wr p
            have hB0 := below_alloc hnx (.cells #[.int .i64 p.n, .int .i64 p.u, .string p.s] 50)
            have hw0 := below_alloc (Below.refl _ wr) (.cells #[.int .i64 p.n, .int .i64 p.u, .string p.s] 50)
            rw [← (bcell hw0).1 _ _ hbr] at t0
            clear hw0
            generalize wr.alloc (.cells #[.int .i64 p.n, .int .i64 p.u, .string p.s] 50) = W at *
            obtain ⟨g0, g1, g2⟩ := hO.cells
            have k0 := cell_regrown g0
            have k1 := cell_regrown g1
            have k2 := cell_regrown g2
            have kt0 := cell_regrown t0
            clear t0 t1 t2
            clear g0 g1 g2 hO
            have d1 : ∀ d os, Calls Tryz.prog 131 #[.agg #[.int .i64 p.n, .int .i64 p.u, .string p.s]] (Sort.grow (redrawn W d) os) fun e w'' => e = .returned (.bool true) ∧ ∃ p : Regrown, w'' = Sort.grow (redrawn W p.d) p.os := fun d os => Calls.regrown_of (C.out _)
            refine wp_region_quiet_below (by kernel_rfl) (by kernel_rfl) ?_
            repeat (go_big_quiet_step ((with_reducible (exact d1 _ _))))
            refine wpQuiet_nil ?_
            intro _ hw'
            obtain ⟨⟨dq, osq⟩, hw''⟩ := hw'
            subst hw''
            go_wp2
            go_ret
            exact ⟨by rw [HR.out]; rfl, below_then hB0 (below_regrown W dq osq)⟩
        · have hd : decide ((0 : Int) < (k : Int)) = false := decide_eq_false (by omega)
          have HK := Lib.hid h0
          clear hprev hp
          go_wp2
          have hO := PlIn.new wr p
          have hB0 := below_alloc hnx (.cells #[.int .i64 p.n, .int .i64 p.u, .string p.s] 50)
          generalize wr.alloc (.cells #[.int .i64 p.n, .int .i64 p.u, .string p.s] 50) = W at *
          obtain ⟨g0, g1, g2⟩ := hO.cells
          have k0 := cell_regrown g0
          have k1 := cell_regrown g1
          have k2 := cell_regrown g2
          clear g0 g1 g2 hO
          have d1 : ∀ d os, Calls Tryz.prog 131 #[.agg #[.int .i64 p.n, .int .i64 p.u, .string p.s]] (Sort.grow (redrawn W d) os) fun e w'' => e = .returned (.bool true) ∧ ∃ p : Regrown, w'' = Sort.grow (redrawn W p.d) p.os := fun d os => Calls.regrown_of (C.out _)
          refine wp_region_quiet_below (by kernel_rfl) (by kernel_rfl) ?_
          repeat (go_big_quiet_step ((with_reducible (exact d1 _ _))))
          refine wpQuiet_nil ?_
          intro _ hw'
          obtain ⟨⟨dq, osq⟩, hw''⟩ := hw'
          subst hw''
          go_wp2
          go_roundw
          case rel => exact ⟨k + 1, by omega, by go_num, HN.out hok fun h0 => absurd h0 HK.out, below_then hB0 (below_regrown W dq osq)⟩
          case measure => simp [intOf]; omega
    · obtain rfl : k = l.length := by omega
      have HR := Lib.hid (goodTo_all hgd)
      clear hgd
      go_wp2
      go_ret
      exact ⟨by rw [HR.out]; rfl, hnx⟩
end Go.Proofs.YtdcjffajmckleaaGreatDoor

/- What may be a tree: Right of both. -/
namespace Go.Proofs.YtdcjffajmckleaaGreatDoor
open Go.RowKit Tre Nam Cod

def ringless (l : List Pl) : Bool := l.all fun p => !above l p.n p.u
theorem treeB_two (l : List Pl) : treeB l = (riseB l && ringless l) := by unfold treeB riseB ringless; rw [Bool.and_assoc]
def FreeTo (l : List Pl) (i : Nat) : Prop := ∀ k (h : k < l.length), k < i → above l l[k].n l[k].u = false
theorem free_next {l : List Pl} {i : Nat} (h : FreeTo l i) (hi : i < l.length) (h1 : above l l[i].n l[i].u = false) : FreeTo l (i + 1) := by
  intro k hk hlt
  by_cases e : k = i
  · subst e; exact h1
  · exact h k hk (by omega)
theorem free_all {l : List Pl} (h : FreeTo l l.length) : ringless l = true := by
  unfold ringless
  rw [List.all_eq_true]
  intro p hp
  obtain ⟨k, hk, rfl⟩ := List.getElem_of_mem hp
  rw [h k hk hk]; rfl
theorem free_bad {l : List Pl} {i : Nat} (hi : i < l.length) (h : above l l[i].n l[i].u = true) : ringless l = false := by
  rcases e : ringless l with _ | _
  · rfl
  · unfold ringless at e
    rw [List.all_eq_true] at e
    have := e _ (List.getElem_mem hi)
    rw [h] at this; exact this.symm

theorem noLoop_any (A : Option Addr) (cap : Nat) (l : List Pl) (w : World) (hl : l.length ≤ 1000) (hs : Sorted l) (hT : Tr w A l) :
    Calls Tryz.prog 119 #[.slice A l.length cap] w fun e w' => e = .returned (.bool (ringless l)) ∧ Below w.heap.size w w' := by
  have C := fun w a b (hT : Tr w A l) => above_any A cap l a b w hl hs hT
  go_enter Tryz.func119, Tryz.ntmps119
  go_wp2
  go_loopw [7] (fun x wr => ∃ k : Nat, k ≤ l.length ∧ x = .int .i64 k ∧ FreeTo l k ∧ Below w.heap.size w wr) (fun x _ => l.length - (intOf x).toNat)
  case atStart => exact ⟨0, Nat.zero_le _, rfl, fun k h hk => by omega, Below.refl _ _⟩
  case round =>
    obtain ⟨k, hk, rfl, hgd, hnx⟩ := hrel
    by_cases hlt : k < l.length
    · obtain ⟨bb, off, hAe, hbw, hc⟩ := hT (by omega)
      have hbr := Nat.lt_of_lt_of_le hbw hnx.size
      have hat := (hc k hlt).below hnx hbw
      have hbad := free_bad hlt
      have hnext := free_next hgd hlt
      obtain ⟨p, hp⟩ : ∃ p, l[k] = p := ⟨_, rfl⟩
      rw [hp] at hat hbad hnext
      obtain ⟨q0, q1, q2⟩ := hat
      have hTa := (hT.below hnx).below (below_alloc (Below.refl _ wr) (.cells #[.int .i64 p.n, .int .i64 p.u, .string p.s] 50))
      have C := C _ p.n p.u hTa
      have HB := Lib.hid hbad
      have HN := Lib.hid hnext
      clear hgd hbad hnext hc hp
      subst hAe
      cases hab : above l p.n p.u
      · rw [hab] at C
        have HN := Lib.hid (HN.out hab)
        clear hab
        go_wp2_with (go_at_call 104; (with_reducible refine C.mono ?_); rintro e w1 ⟨rfl, hb1⟩)
        go_roundw
        case rel => exact ⟨k + 1, by omega, by go_num, HN.out, below_then (below_alloc hnx _) hb1⟩
        case measure => simp [intOf]; omega
      · rw [hab] at C
        have HR := Lib.hid (HB.out hab)
        clear hab
        go_wp2_with (go_at_call 104; (with_reducible refine C.mono ?_); rintro e w1 ⟨rfl, hb1⟩)
        go_ret
        exact ⟨by rw [HR.out]; rfl, below_then (below_alloc hnx _) hb1⟩
    · obtain rfl : k = l.length := by omega
      have HR := Lib.hid (free_all hgd)
      clear hgd
      go_wp2
      go_ret
      exact ⟨by rw [HR.out]; rfl, hnx⟩

theorem right_any (A : Option Addr) (cap : Nat) (l : List Pl) (w : World) (hl : l.length ≤ 1000) (hsz : ∀ p ∈ l, p.s.size ≤ 9223372036854775807) (hT : Tr w A l) :
    Calls Tryz.prog 99 #[.slice A l.length cap] w fun e w' => e = .returned (.bool (treeB l)) ∧ Below w.heap.size w w' := by
  have C1 := rising_any A cap l w hl hsz hT
  rw [treeB_two]
  cases hr : riseB l
  · rw [hr] at C1
    have HC := Lib.hid C1
    clear C1
    go_enter Tryz.func99, Tryz.ntmps99
    go_wp2_with (go_at_call 118; (with_reducible refine HC.out.mono ?_); rintro e w1 ⟨rfl, hb1⟩)
    go_ret
    exact ⟨rfl, hb1⟩
  · rw [hr] at C1
    have C2 := fun w (hT : Tr w A l) => noLoop_any A cap l w hl (goodTo_back hr).2 hT
    generalize ringless l = x at *
    have HC := Lib.hid C1
    have HD := Lib.hid C2
    clear C1 C2
    go_enter Tryz.func99, Tryz.ntmps99
    go_wp2_with (first | (go_at_call 118; (with_reducible refine HC.out.mono ?_); rintro e w1 ⟨rfl, hb1⟩; have hT1 := hT.below hb1) | (go_at_call 119; (with_reducible refine (HD.out _ hT1).mono ?_); rintro e w2 ⟨rfl, hb2⟩))
    go_ret
    exact ⟨by simp, below_then hb1 hb2⟩
end Go.Proofs.YtdcjffajmckleaaGreatDoor

/- How a place, and a list of places, is read. -/
namespace Go.Proofs.YtdcjffajmckleaaGreatDoor
open Go.RowKit Tre Nam Cod


/-- A place read: what it is, where it stands behind it, and whether it went wrong. -/
def plStep (s : ByteArray) (p : Nat) (bad : Bool) (v : Pl) (q : Nat) (bad' : Bool) : Prop := (isPlace s p bad = some (v, q) ∧ bad' = false) ∨ (isPlace s p bad = none ∧ bad' = true)
theorem isPlace_bad (s : ByteArray) (p : Nat) : isPlace s p true = none := rfl

/-- So many places read, from p on. -/
def plsStep (s : ByteArray) (p k : Nat) (l : List Pl) (q : Nat) (bad : Bool) : Prop := (isPlaces s k p = some (l, q) ∧ bad = false) ∨ (isPlaces s k p = none ∧ bad = true)
theorem plsStep.zero (s : ByteArray) (p : Nat) : plsStep s p 0 [] p false := Or.inl ⟨rfl, rfl⟩
theorem plsStep.next {s : ByteArray} {p k q q' : Nat} {l : List Pl} {v : Pl} {bad bad' : Bool} (h : plsStep s p k l q bad) (h1 : plStep s q bad v q' bad') : plsStep s p (k + 1) (l ++ [v]) q' bad' := by
  rcases h with ⟨h, rfl⟩ | ⟨h, rfl⟩
  · rcases h1 with ⟨h1, rfl⟩ | ⟨h1, rfl⟩
    · left; refine ⟨?_, rfl⟩; unfold isPlaces; simp only [h, h1, Option.bind_some]
    · right; refine ⟨?_, rfl⟩; unfold isPlaces; simp only [h, h1, Option.bind_some, Option.bind_none]
  · rcases h1 with ⟨h1, _⟩ | ⟨_, rfl⟩
    · rw [isPlace_bad] at h1; cases h1
    · right; refine ⟨?_, rfl⟩; unfold isPlaces; simp only [h, Option.bind_none]
section
variable {w a : World} {b : Nat} {p : Pl} {s : ByteArray}
theorem PlIn.other (h : PlIn w b p) (n i : Nat) (v : Value) (hne : b ≠ n) : PlIn (w.setCell ⟨n, i, none⟩ v) b p :=
  (Below.heap_setCell w ⟨n, i, none⟩ v b hne).trans h
end
end Go.Proofs.YtdcjffajmckleaaGreatDoor

/- How a tree is read, by the program and by the document. -/
namespace Go.Proofs.YtdcjffajmckleaaGreatDoor
open Go.RowKit Tre Nam Cod

def cntStep (s : ByteArray) (p : Nat) (bad : Bool) (n q : Nat) (bad' : Bool) : Prop := (isCount s p bad 64 = some ((n : Int), q) ∧ bad' = false) ∨ (isCount s p bad 64 = none ∧ n = 0 ∧ bad' = true)
/-- How far the list is. -/
def wayStep (s : ByteArray) (p : Nat) (bad : Bool) (n k : Nat) (l : List Pl) (q : Nat) (bad' : Bool) : Prop :=
  (∃ q0, isCount s p bad 64 = some ((n : Int), q0) ∧ plsStep s q0 k l q bad') ∨ (isCount s p bad 64 = none ∧ n = 0 ∧ l = [] ∧ bad' = true)
theorem wayStep.start {s : ByteArray} {p n q : Nat} {bad bad' : Bool} (h : cntStep s p bad n q bad') : wayStep s p bad n 0 [] q bad' := by
  rcases h with ⟨h, rfl⟩ | ⟨h, hn, rfl⟩
  · exact Or.inl ⟨q, h, plsStep.zero s q⟩
  · exact Or.inr ⟨h, hn, rfl, rfl⟩
theorem wayStep.next {s : ByteArray} {p n k q q' : Nat} {bad b1 b2 : Bool} {l : List Pl} {v : Pl} (h : wayStep s p bad n k l q b1) (hk : k < n) (h1 : plStep s q b1 v q' b2) : wayStep s p bad n (k + 1) (l ++ [v]) q' b2 := by
  rcases h with ⟨q0, h, h2⟩ | ⟨h, hn, _⟩
  · exact Or.inl ⟨q0, h, h2.next h1⟩
  · omega
theorem wayStep.good {s : ByteArray} {p n q : Nat} {bad : Bool} {l : List Pl} (h : wayStep s p bad n n l q false) : isTree s p bad = if treeB l = true then some (l, q) else none := by
  unfold isTree
  rcases h with ⟨q0, h, h2⟩ | ⟨_, _, _, h⟩
  · rcases h2 with ⟨h2, _⟩ | ⟨_, h2⟩
    · simp only [h, Option.bind_some, Int.toNat_natCast, h2]
    · cases h2
  · cases h

end Go.Proofs.YtdcjffajmckleaaGreatDoor

/- What is shown, of the document: its elements; Twin; which of those that have one name is the least. -/
namespace Go.Proofs.YtdcjffajmckleaaGreatDoor
open Go.RowKit Tre Cod Nam
open Go.Lib (decDigits decDigits_one)

def seE : El Pl where
  e := 102
  k := 3
  c p := [.int .i64 p.n, .int .i64 p.u, .string p.s]
  len _ := rfl
  one p u h := by
    simp only [List.mem_cons, List.not_mem_nil, or_false] at h
    rcases h with rfl | rfl | rfl <;> rfl
  pos := by decide
theorem seInn : seE.Inn Tryz.prog 67 := El.inn_of (z := .agg #[.int .i64 0, .int .i64 0, .string ⟨#[]⟩]) (bytes := 32) Tryz.underlying67 (by kernel_rfl) rfl (by decide)
theorem seRow : seE.Row Tryz.prog := ⟨by kernel_rfl, _, Tryz.underlying102, rfl⟩
theorem plAt3 {w : World} {b o : Nat} {p : Pl} (h : plE.At w b o p) : w.cell? ⟨b, o, none⟩ = some (.int .i64 p.n) ∧ w.cell? ⟨b, o + 1, none⟩ = some (.int .i64 p.u) ∧ w.cell? ⟨b, o + 2, none⟩ = some (.string p.s) := ⟨h 0 _ rfl, h 1 _ rfl, h 2 _ rfl⟩
theorem dec_len (n : Nat) (h : n < 18446744073709551616) : (decDigits n).length ≤ 20 := by
  rw [Lib.decDigits_length]
  by_cases h0 : n < 1
  · rw [show n = 0 by omega, Lib.nDigits_small (by decide)]; decide
  · have h1 := (Lib.numDigits_eq n (by omega) h)
    have := h1.2
    rw [← h1.1]; split <;> omega
theorem dec_size (n : Nat) (h : n < 18446744073709551616) : (⟨(decDigits n).toArray⟩ : ByteArray).size ≤ 20 := dec_len n h
end Go.Proofs.YtdcjffajmckleaaGreatDoor

/- What is below a node, of the document: below. -/
namespace Go.Proofs.YtdcjffajmckleaaGreatDoor
open Go.RowKit Tre Cod Nam
def PlS (n : Nat) (p : Pl) (w : World) : Prop := w.cell? ⟨n, 0, none⟩ = some (.int .i64 p.n) ∧ w.cell? ⟨n, 1, none⟩ = some (.int .i64 p.u) ∧ w.cell? ⟨n, 2, none⟩ = some (.string p.s)
end Go.Proofs.YtdcjffajmckleaaGreatDoor

/- What is shown, of the document: below, Show, Trash, Same. -/
namespace Go.Proofs.YtdcjffajmckleaaGreatDoor
open Go.RowKit Tre Cod Nam

theorem TreeP.below_len {t : List Pl} (h : TreeP t) (f : Nat) (a : Int) : (belowL t f a).length ≤ t.length := by
  have h2 := pigeon _ (t.map Pl.n) (below_nodup h.s (acyc_of h.r) f a) (fun x hx => by
    obtain ⟨y, hy, rfl⟩ := List.mem_map.1 hx
    obtain ⟨p, hp, rfl, _⟩ := (mem_below h.s y f a).1 hy
    exact List.mem_map.2 ⟨p, hp, rfl⟩)
  simpa using h2
/-- What is shown; nothing of what is no tree. -/
def showV (t : List Pl) : List Pl := if treeB t = true then showL t else []
end Go.Proofs.YtdcjffajmckleaaGreatDoor

/- Devices' states in memory; what the program's functions shall answer (DeviceCalls). -/
namespace Go.Proofs.YtdcjffajmckleaaGreatDoor
open Go.RowKit Nam Cod Tre Pst Pln

/-- A device's state, and where its slices lie. -/
structure Dw where
  node : Int
  boot : Int
  above : Int
  pos : Int
  qA : Option Addr
  qc : Nat
  q : Qu
  y : Pw
  cA : Option Addr
  cc : Nat
  l : List Cn
  inc : Int
  mode : Int
  clock : Int
  sent : Int
  pA : Option Addr
  pc : Nat
  late : Int
def Dw.v (x : Dw) : Dv := ⟨x.node, x.boot, x.above, x.pos, x.q, x.y.v, x.l, x.inc, x.mode, x.clock, x.sent, x.late⟩
def Dw.zero : Dw := ⟨0, 0, 0, 0, none, 0, nilQu, Pw.zero, none, 0, [], 0, 0, 0, 0, none, 0, 0⟩
def dvE : El Dw where
  e := 44
  k := 26
  c x := [.int .i64 x.node, .int .i64 x.boot, .int .i64 x.above, .int .i64 x.pos, .int .i64 x.y.t, .int .i64 x.pos, .slice none 0 0, .int .i64 x.q.f, .int .i64 x.q.g, .slice x.qA x.q.os.length x.qc, .slice none 0 0, .slice none 0 0, .slice none 0 0, .slice none 0 0, .slice x.y.bA x.y.base.length x.y.bc, .int .i64 x.y.t, .slice x.y.oA x.y.ops.length x.y.oc, .slice x.y.uA x.y.us.length x.y.uc, .slice x.y.wA x.y.now.length x.y.wc, .slice x.cA x.l.length x.cc, .int .i64 x.inc, .int .i64 x.mode, .int .i64 x.clock, .int .i64 x.sent, .slice x.pA 0 x.pc, .int .i64 x.late]
  len _ := rfl
  one p u h := by
    simp only [List.mem_cons, List.not_mem_nil, or_false] at h
    rcases h with rfl | rfl | rfl | rfl | rfl | rfl | rfl | rfl | rfl | rfl | rfl | rfl | rfl | rfl | rfl | rfl | rfl | rfl | rfl | rfl | rfl | rfl | rfl | rfl | rfl | rfl <;> rfl
  pos := by decide
theorem dvRow : dvE.Row Tryz.prog := ⟨by kernel_rfl, _, Tryz.underlying44, rfl⟩
/-- Counts lie in a block of counts. -/
def CnT (w : World) (A : Option Addr) : Prop := ∀ a, A = some a → ∃ c, w.heap[a.block]? = some (.cells c 73 (0, 0))
theorem CnT.below {W w : World} {A : Option Addr} (h : CnT W A) (hb : Below W.heap.size W w) : CnT w A := fun a e => by
  obtain ⟨c, hc⟩ := h a e
  refine ⟨c, (hb.block _ ?_).trans hc⟩
  rcases Nat.lt_or_ge a.block W.heap.size with h1 | h1
  · exact h1
  · rw [Array.getElem?_eq_none h1] at hc; cases hc
theorem CnT.nil (w : World) : CnT w none := fun a e => by cases e
structure Dw.ok (x : Dw) (w : World) : Prop where
  p : PastOk w x.y
  q : SlV opE w x.qA x.qc x.q.os
  c : SlV cnE w x.cA x.cc x.l
  t : CnT w x.cA
theorem Dw.ok.below {x : Dw} {W w : World} (h : x.ok W) (hb : Below W.heap.size W w) : x.ok w := ⟨h.p.below hb, SlV.below h.q hb, SlV.below h.c hb, h.t.below hb⟩
theorem Dw.ok.zero (w : World) : Dw.zero.ok w := ⟨PastOk.zero w, SlV.nil _ _, SlV.nil _ _, CnT.nil w⟩
theorem dvE_cells (x : Dw) : ∀ v ∈ dvE.c x, (∃ k, v = .int .i64 k) ∨ ∃ a m c, v = .slice a m c := by
  intro v hv
  simp only [dvE, List.mem_cons, List.not_mem_nil, or_false] at hv
  rcases hv with rfl | rfl | rfl | rfl | rfl | rfl | rfl | rfl | rfl | rfl | rfl | rfl | rfl | rfl | rfl | rfl | rfl | rfl | rfl | rfl | rfl | rfl | rfl | rfl | rfl | rfl <;> first | exact Or.inl ⟨_, rfl⟩ | exact Or.inr ⟨_, _, _, rfl⟩
theorem dvE_cell {w : World} {n i : Nat} {v : Value} {x : Dw} (hZ : dvE.In w n x) (h : w.cell? ⟨n, i, none⟩ = some v) : (∃ k, v = .int .i64 k) ∨ ∃ a m c, v = .slice a m c := by
  rw [hZ.cell] at h
  exact dvE_cells x v (List.mem_of_getElem? h)
theorem SlV.keepRD {α : Type} {E : El α} {w w' : World} {A : Option Addr} {c : Nat} {l : List α} {b : Nat} (h : SlV E w A c l) (hno : ∀ off (h : 0 < l.length), ¬ E.At w b off l[0]) (hg : w.grownBy w' (some b)) : SlV E w' A c l := by
  refine ⟨fun h0 => ?_, h.2⟩
  obtain ⟨b1, off, e, hl, hc⟩ := h.1 h0
  have hne : b1 ≠ b := by
    rintro rfl
    exact hno _ h0 (hc 0 h0)
  exact ⟨b1, off, e, Nat.lt_of_lt_of_le hl hg.size, fun i hi => (hc i hi).grown hg (fun e => hne (Option.some.inj e))⟩
/-- A state's block is written: what another state's slices hold stays. -/
theorem Dw.ok.keepB {w w' : World} {x z : Dw} {n : Nat} (h : x.ok w) (hZ : dvE.In w n z) (hg : w.grownBy w' (some n)) : x.ok w' := by
  have hp : ∀ off y, ¬ plE.At w n off y := fun off y ha => by
    rcases dvE_cell hZ (ha 2 _ rfl) with ⟨_, h⟩ | ⟨_, _, _, h⟩ <;> cases h
  have ho : ∀ off y, ¬ opE.At w n off y := fun off y ha => by
    rcases dvE_cell hZ (ha 6 _ rfl) with ⟨_, h⟩ | ⟨_, _, _, h⟩ <;> cases h
  have hu : ∀ off y, ¬ unE.At w n off y := fun off y ha => by
    rcases dvE_cell hZ (ha 2 _ rfl) with ⟨_, h⟩ | ⟨_, _, _, h⟩ <;> cases h
  have hne : ∀ a, x.cA = some a → a.block ≠ n := fun a e he => by
    obtain ⟨c, hc⟩ := h.t a e
    have hZ' : w.heap[n]? = some (.cells (dvE.c z).toArray 44 (0, 0)) := hZ
    rw [he, hZ'] at hc
    injection hc with hc
    injection hc with _ hc _
    exact absurd hc (by decide)
  refine ⟨⟨h.p.b.keepRD (fun o _ => hp o _) hg, h.p.o.keepRD (fun o _ => ho o _) hg, h.p.u.keepRD (fun o _ => hu o _) hg, h.p.w.keepRD (fun o _ => hp o _) hg⟩, h.q.keepRD (fun o _ => ho o _) hg, ⟨h.c.1.keep hg (fun a e e2 => hne a e (Option.some.inj e2)), h.c.2⟩, fun a e => ?_⟩
  obtain ⟨c, hc⟩ := h.t a e
  refine ⟨c, (hg.block _ ?_ (fun e2 => hne a e (Option.some.inj e2))).trans hc⟩
  rcases Nat.lt_or_ge a.block w.heap.size with h1 | h1
  · exact h1
  · rw [Array.getElem?_eq_none h1] at hc; cases hc
def MergeE (F : Dw → Dw → Nat → Act) (R : Dw → Dw → Nat → World → Prop) : Exit → Act → World → Prop
  | .normal, a, w => ∃ x y n, a = F x y n ∧ R x y n w
  | _, _, _ => False
theorem wp_mergeE {P : Program} {c : Code} {Q : Exit → Act → World → Prop} {a : Act} {w : World} (R : Dw → Dw → Nat → World → Prop) {F : Dw → Dw → Nat → Act} (h : c.wp P (MergeE F R) a w) (k : ∀ x y n w, R x y n w → Q .normal (F x y n) w) : c.wp P Q a w :=
  Code.wp_mono (fun e a w h => by
    cases e with
    | normal => obtain ⟨x, y, n, rfl, hr⟩ := h; exact k x y n w hr
    | _ => exact h.elim) h
def MergeD (F : Dw → Nat → Act) (R : Dw → Nat → World → Prop) : Exit → Act → World → Prop
  | .normal, a, w => ∃ y n, a = F y n ∧ R y n w
  | _, _, _ => False
theorem wp_mergeD {P : Program} {c : Code} {Q : Exit → Act → World → Prop} {a : Act} {w : World} (R : Dw → Nat → World → Prop) {F : Dw → Nat → Act} (h : c.wp P (MergeD F R) a w) (k : ∀ y n w, R y n w → Q .normal (F y n) w) : c.wp P Q a w :=
  Code.wp_mono (fun e a w h => by
    cases e with
    | normal => obtain ⟨y, n, rfl, hr⟩ := h; exact k y n w hr
    | _ => exact h.elim) h
/-- A frame as it comes: numbers far from where they wrap, no gifts. -/
structure FrD (f : Fr) : Prop where
  n : ∀ n ∈ frL f, 0 ≤ n ∧ n ≤ 4294967296
  es : ∀ e ∈ f.es, entB e = true ∧ e.o.C ≤ 4294967296 ∧ e.o.s.size ≤ 1000
  l : f.os.length ≤ 64 ∧ f.rs.length ≤ 8 ∧ f.es.length ≤ 64
  gs : f.gs = []
structure PlD (p : Pn) (n : Int) (up : Int) : Prop where
  up : 0 < n ∧ p.u[n.toNat]? = some up ∧ 0 ≤ up ∧ up < 12
  l : p.u.length ≤ 12
  q : 0 ≤ p.q ∧ p.q ≤ 1000
  b : 0 ≤ p.b ∧ p.b ≤ 1000
  i : 0 ≤ p.i ∧ p.i ≤ 64
structure DeviceCalls : Prop where
  new : ∀ (n : Int) (w : World), 0 ≤ n ∧ n < 12 → Calls Tryz.prog 8 #[.int .i64 n] w fun e w' => ∃ x : Dw, e = .returned (.agg #[.int .i64 x.node, .int .i64 x.boot, .int .i64 x.above, .int .i64 x.pos, .int .i64 x.y.t, .int .i64 x.pos, .slice none 0 0, .int .i64 x.q.f, .int .i64 x.q.g, .slice x.qA x.q.os.length x.qc, .slice none 0 0, .slice none 0 0, .slice none 0 0, .slice none 0 0, .slice x.y.bA x.y.base.length x.y.bc, .int .i64 x.y.t, .slice x.y.oA x.y.ops.length x.y.oc, .slice x.y.uA x.y.us.length x.y.uc, .slice x.y.wA x.y.now.length x.y.wc, .slice x.cA x.l.length x.cc, .int .i64 x.inc, .int .i64 x.mode, .int .i64 x.clock, .int .i64 x.sent, .slice x.pA 0 x.pc, .int .i64 x.late]) ∧ x.ok w' ∧ x.v = newD n ∧ Below w.heap.size w w'
  edit : ∀ (p : Pnw) (x : Dw) (t : Pl) (w : World) (up : Int), PlD p.p x.node up → DvR x.v → i64 t.n → i64 t.u → t.s.size ≤ 9223372036854775807 → inE.Sl w p.A p.p.u → x.ok w → Calls Tryz.prog 9 #[.agg #[.slice p.A p.p.u.length p.c, .int .i64 p.p.q, .int .i64 p.p.r, .int .i64 p.p.b, .int .i64 p.p.l, .int .i64 p.p.w, .int .i64 p.p.c, .int .i64 p.p.k, .int .i64 p.p.i], .agg #[.int .i64 x.node, .int .i64 x.boot, .int .i64 x.above, .int .i64 x.pos, .int .i64 x.y.t, .int .i64 x.pos, .slice none 0 0, .int .i64 x.q.f, .int .i64 x.q.g, .slice x.qA x.q.os.length x.qc, .slice none 0 0, .slice none 0 0, .slice none 0 0, .slice none 0 0, .slice x.y.bA x.y.base.length x.y.bc, .int .i64 x.y.t, .slice x.y.oA x.y.ops.length x.y.oc, .slice x.y.uA x.y.us.length x.y.uc, .slice x.y.wA x.y.now.length x.y.wc, .slice x.cA x.l.length x.cc, .int .i64 x.inc, .int .i64 x.mode, .int .i64 x.clock, .int .i64 x.sent, .slice x.pA 0 x.pc, .int .i64 x.late], .agg #[.int .i64 t.n, .int .i64 t.u, .string t.s]] w fun e w' => ∃ (z : Dw) (n : Int), e = .returned (.tuple #[.agg #[.int .i64 z.node, .int .i64 z.boot, .int .i64 z.above, .int .i64 z.pos, .int .i64 z.y.t, .int .i64 z.pos, .slice none 0 0, .int .i64 z.q.f, .int .i64 z.q.g, .slice z.qA z.q.os.length z.qc, .slice none 0 0, .slice none 0 0, .slice none 0 0, .slice none 0 0, .slice z.y.bA z.y.base.length z.y.bc, .int .i64 z.y.t, .slice z.y.oA z.y.ops.length z.y.oc, .slice z.y.uA z.y.us.length z.y.uc, .slice z.y.wA z.y.now.length z.y.wc, .slice z.cA z.l.length z.cc, .int .i64 z.inc, .int .i64 z.mode, .int .i64 z.clock, .int .i64 z.sent, .slice z.pA 0 z.pc, .int .i64 z.late], .int .i64 n]) ∧ z.ok w' ∧ editD p.p.q p.p.i x.v t.n t.u t.s = (z.v, n) ∧ Below w.heap.size w w'
  leave : ∀ (x : Dw) (w : World), DvR x.v → x.ok w → Calls Tryz.prog 20 #[.agg #[.int .i64 x.node, .int .i64 x.boot, .int .i64 x.above, .int .i64 x.pos, .int .i64 x.y.t, .int .i64 x.pos, .slice none 0 0, .int .i64 x.q.f, .int .i64 x.q.g, .slice x.qA x.q.os.length x.qc, .slice none 0 0, .slice none 0 0, .slice none 0 0, .slice none 0 0, .slice x.y.bA x.y.base.length x.y.bc, .int .i64 x.y.t, .slice x.y.oA x.y.ops.length x.y.oc, .slice x.y.uA x.y.us.length x.y.uc, .slice x.y.wA x.y.now.length x.y.wc, .slice x.cA x.l.length x.cc, .int .i64 x.inc, .int .i64 x.mode, .int .i64 x.clock, .int .i64 x.sent, .slice x.pA 0 x.pc, .int .i64 x.late]] w fun e w' => ∃ z : Dw, e = .returned (.agg #[.int .i64 z.node, .int .i64 z.boot, .int .i64 z.above, .int .i64 z.pos, .int .i64 z.y.t, .int .i64 z.pos, .slice none 0 0, .int .i64 z.q.f, .int .i64 z.q.g, .slice z.qA z.q.os.length z.qc, .slice none 0 0, .slice none 0 0, .slice none 0 0, .slice none 0 0, .slice z.y.bA z.y.base.length z.y.bc, .int .i64 z.y.t, .slice z.y.oA z.y.ops.length z.y.oc, .slice z.y.uA z.y.us.length z.y.uc, .slice z.y.wA z.y.now.length z.y.wc, .slice z.cA z.l.length z.cc, .int .i64 z.inc, .int .i64 z.mode, .int .i64 z.clock, .int .i64 z.sent, .slice z.pA 0 z.pc, .int .i64 z.late]) ∧ z.ok w' ∧ z.v = leaveD x.v ∧ Below w.heap.size w w'
  take : ∀ (p : Pnw) (x : Dw) (f : Fw) (w : World) (up : Int), PlD p.p x.node up → DvR x.v → FrD f.x → inE.Sl w p.A p.p.u → x.ok w → f.ok w → Calls Tryz.prog 13 #[.agg #[.slice p.A p.p.u.length p.c, .int .i64 p.p.q, .int .i64 p.p.r, .int .i64 p.p.b, .int .i64 p.p.l, .int .i64 p.p.w, .int .i64 p.p.c, .int .i64 p.p.k, .int .i64 p.p.i], .agg #[.int .i64 x.node, .int .i64 x.boot, .int .i64 x.above, .int .i64 x.pos, .int .i64 x.y.t, .int .i64 x.pos, .slice none 0 0, .int .i64 x.q.f, .int .i64 x.q.g, .slice x.qA x.q.os.length x.qc, .slice none 0 0, .slice none 0 0, .slice none 0 0, .slice none 0 0, .slice x.y.bA x.y.base.length x.y.bc, .int .i64 x.y.t, .slice x.y.oA x.y.ops.length x.y.oc, .slice x.y.uA x.y.us.length x.y.uc, .slice x.y.wA x.y.now.length x.y.wc, .slice x.cA x.l.length x.cc, .int .i64 x.inc, .int .i64 x.mode, .int .i64 x.clock, .int .i64 x.sent, .slice x.pA 0 x.pc, .int .i64 x.late], .agg #[.int .i64 f.x.a, .int .i64 f.x.b, .int .i64 f.x.boot, .int .i64 f.x.first, .slice f.oA f.x.os.length f.oc, .int .i64 f.x.pos, .slice f.rA f.x.rs.length f.rc, .int .i64 f.x.start, .slice f.eA f.x.es.length f.ec, .int .i64 f.x.ack, .int .i64 f.x.grant, .int .i64 f.x.s, .int .i64 f.x.t, .slice f.gA f.x.gs.length f.gc]] w fun e w' => ∃ (z : Dw) (n : Int), e = .returned (.tuple #[.agg #[.int .i64 z.node, .int .i64 z.boot, .int .i64 z.above, .int .i64 z.pos, .int .i64 z.y.t, .int .i64 z.pos, .slice none 0 0, .int .i64 z.q.f, .int .i64 z.q.g, .slice z.qA z.q.os.length z.qc, .slice none 0 0, .slice none 0 0, .slice none 0 0, .slice none 0 0, .slice z.y.bA z.y.base.length z.y.bc, .int .i64 z.y.t, .slice z.y.oA z.y.ops.length z.y.oc, .slice z.y.uA z.y.us.length z.y.uc, .slice z.y.wA z.y.now.length z.y.wc, .slice z.cA z.l.length z.cc, .int .i64 z.inc, .int .i64 z.mode, .int .i64 z.clock, .int .i64 z.sent, .slice z.pA 0 z.pc, .int .i64 z.late], .int .i64 n]) ∧ z.ok w' ∧ takeD up x.v f.x = (z.v, n) ∧ Below w.heap.size w w'
  frame : ∀ (p : Pnw) (x : Dw) (beat : Int) (w : World) (up : Int), PlD p.p x.node up → DvR x.v → i64 beat → inE.Sl w p.A p.p.u → x.ok w → Calls Tryz.prog 19 #[.agg #[.slice p.A p.p.u.length p.c, .int .i64 p.p.q, .int .i64 p.p.r, .int .i64 p.p.b, .int .i64 p.p.l, .int .i64 p.p.w, .int .i64 p.p.c, .int .i64 p.p.k, .int .i64 p.p.i], .agg #[.int .i64 x.node, .int .i64 x.boot, .int .i64 x.above, .int .i64 x.pos, .int .i64 x.y.t, .int .i64 x.pos, .slice none 0 0, .int .i64 x.q.f, .int .i64 x.q.g, .slice x.qA x.q.os.length x.qc, .slice none 0 0, .slice none 0 0, .slice none 0 0, .slice none 0 0, .slice x.y.bA x.y.base.length x.y.bc, .int .i64 x.y.t, .slice x.y.oA x.y.ops.length x.y.oc, .slice x.y.uA x.y.us.length x.y.uc, .slice x.y.wA x.y.now.length x.y.wc, .slice x.cA x.l.length x.cc, .int .i64 x.inc, .int .i64 x.mode, .int .i64 x.clock, .int .i64 x.sent, .slice x.pA 0 x.pc, .int .i64 x.late], .int .i64 beat] w fun e w' => ∃ f : Fw, e = .returned (.agg #[.int .i64 f.x.a, .int .i64 f.x.b, .int .i64 f.x.boot, .int .i64 f.x.first, .slice f.oA f.x.os.length f.oc, .int .i64 f.x.pos, .slice f.rA f.x.rs.length f.rc, .int .i64 f.x.start, .slice f.eA f.x.es.length f.ec, .int .i64 f.x.ack, .int .i64 f.x.grant, .int .i64 f.x.s, .int .i64 f.x.t, .slice f.gA f.x.gs.length f.gc]) ∧ f.ok w' ∧ f.x = frameD up p.p.b x.v beat ∧ Below w.heap.size w w'
  vector : ∀ (x : Dw) (w : World), DvR x.v → x.ok w → Calls Tryz.prog 14 #[.agg #[.int .i64 x.node, .int .i64 x.boot, .int .i64 x.above, .int .i64 x.pos, .int .i64 x.y.t, .int .i64 x.pos, .slice none 0 0, .int .i64 x.q.f, .int .i64 x.q.g, .slice x.qA x.q.os.length x.qc, .slice none 0 0, .slice none 0 0, .slice none 0 0, .slice none 0 0, .slice x.y.bA x.y.base.length x.y.bc, .int .i64 x.y.t, .slice x.y.oA x.y.ops.length x.y.oc, .slice x.y.uA x.y.us.length x.y.uc, .slice x.y.wA x.y.now.length x.y.wc, .slice x.cA x.l.length x.cc, .int .i64 x.inc, .int .i64 x.mode, .int .i64 x.clock, .int .i64 x.sent, .slice x.pA 0 x.pc, .int .i64 x.late]] w fun e w' => ∃ (A : Option Addr) (c : Nat), e = .returned (.slice A (vectorD x.v).length c) ∧ SlV cnE w' A c (vectorD x.v) ∧ Below w.heap.size w w'
  read : ∀ (x : Dw) (w : World), DvR x.v → x.ok w → Calls Tryz.prog 15 #[.agg #[.int .i64 x.node, .int .i64 x.boot, .int .i64 x.above, .int .i64 x.pos, .int .i64 x.y.t, .int .i64 x.pos, .slice none 0 0, .int .i64 x.q.f, .int .i64 x.q.g, .slice x.qA x.q.os.length x.qc, .slice none 0 0, .slice none 0 0, .slice none 0 0, .slice none 0 0, .slice x.y.bA x.y.base.length x.y.bc, .int .i64 x.y.t, .slice x.y.oA x.y.ops.length x.y.oc, .slice x.y.uA x.y.us.length x.y.uc, .slice x.y.wA x.y.now.length x.y.wc, .slice x.cA x.l.length x.cc, .int .i64 x.inc, .int .i64 x.mode, .int .i64 x.clock, .int .i64 x.sent, .slice x.pA 0 x.pc, .int .i64 x.late]] w fun e w' => ∃ (A : Option Addr) (c : Nat) (l : List Pl) (b : Bool), e = .returned (.tuple #[.slice A l.length c, .bool b]) ∧ SlV seE w' A c l ∧ ((x.mode = 1 ∧ l = showV x.y.now ∧ b = true) ∨ (x.mode ≠ 1 ∧ l = [] ∧ b = false)) ∧ Below w.heap.size w w'
theorem dvIn26 {w : World} {b : Nat} {x : Dw} (h : dvE.In w b x) : w.cell? ⟨b, 0, none⟩ = some (.int .i64 x.node) ∧ w.cell? ⟨b, 1, none⟩ = some (.int .i64 x.boot) ∧ w.cell? ⟨b, 2, none⟩ = some (.int .i64 x.above) ∧ w.cell? ⟨b, 3, none⟩ = some (.int .i64 x.pos) ∧ w.cell? ⟨b, 4, none⟩ = some (.int .i64 x.y.t) ∧ w.cell? ⟨b, 5, none⟩ = some (.int .i64 x.pos) ∧ w.cell? ⟨b, 6, none⟩ = some (.slice none 0 0) ∧ w.cell? ⟨b, 7, none⟩ = some (.int .i64 x.q.f) ∧ w.cell? ⟨b, 8, none⟩ = some (.int .i64 x.q.g) ∧ w.cell? ⟨b, 9, none⟩ = some (.slice x.qA x.q.os.length x.qc) ∧ w.cell? ⟨b, 14, none⟩ = some (.slice x.y.bA x.y.base.length x.y.bc) ∧ w.cell? ⟨b, 15, none⟩ = some (.int .i64 x.y.t) ∧ w.cell? ⟨b, 16, none⟩ = some (.slice x.y.oA x.y.ops.length x.y.oc) ∧ w.cell? ⟨b, 17, none⟩ = some (.slice x.y.uA x.y.us.length x.y.uc) ∧ w.cell? ⟨b, 18, none⟩ = some (.slice x.y.wA x.y.now.length x.y.wc) ∧ w.cell? ⟨b, 19, none⟩ = some (.slice x.cA x.l.length x.cc) ∧ w.cell? ⟨b, 20, none⟩ = some (.int .i64 x.inc) ∧ w.cell? ⟨b, 21, none⟩ = some (.int .i64 x.mode) ∧ w.cell? ⟨b, 22, none⟩ = some (.int .i64 x.clock) ∧ w.cell? ⟨b, 23, none⟩ = some (.int .i64 x.sent) ∧ w.cell? ⟨b, 24, none⟩ = some (.slice x.pA 0 x.pc) ∧ w.cell? ⟨b, 25, none⟩ = some (.int .i64 x.late) :=
  ⟨h.cell 0, h.cell 1, h.cell 2, h.cell 3, h.cell 4, h.cell 5, h.cell 6, h.cell 7, h.cell 8, h.cell 9, h.cell 14, h.cell 15, h.cell 16, h.cell 17, h.cell 18, h.cell 19, h.cell 20, h.cell 21, h.cell 22, h.cell 23, h.cell 24, h.cell 25⟩
end Go.Proofs.YtdcjffajmckleaaGreatDoor

/- Devices, as values: of an edit, of an entry; the example's states. -/
namespace Go.Proofs.YtdcjffajmckleaaGreatDoor
open Go.RowKit Nam Cod Tre Pst Pln

theorem argD_ok {x : Dv} (h : DvR x) {ids k u : Int} {s : ByteArray} (ha : argD ids k u s = true) (hc : x.clock < 4294967296) (hs : x.sent < 4294967296) : (editO x k u s).ok := by
  have hp : placeB k u s = true := by
    unfold argD at ha
    simp only [Bool.and_eq_true] at ha
    exact ha.2.2
  have h1 := h.clock
  have h2 := h.sent
  have h3 := h.node
  have h4 := h.inc
  show opB (x.clock + 1) x.node x.inc (x.sent + 1) k u s = true
  rw [opB_place (by omega) h3 (by omega) (by omega)]
  exact hp
theorem editD_cases (quota ids : Int) (x : Dv) (k u : Int) (s : ByteArray) :
    ((editD quota ids x k u s).2 ≠ 0 ∧ (editD quota ids x k u s).1 = x) ∨
    (argD ids k u s = true ∧ x.mode = 1 ∧ (ownV x.y x.node x.inc : Int) < quota ∧ (x.q.os.length : Int) < quota ∧ (addV x.y (editO x k u s)).2 = true ∧ editD quota ids x k u s = ({ x with y := (addV x.y (editO x k u s)).1, q := pushQ x.q (editO x k u s), clock := x.clock + 1, sent := x.sent + 1 }, 0)) := by
  unfold editD
  by_cases h1 : argD ids k u s = false
  · rw [if_pos h1]; exact Or.inl ⟨by show (1 : Int) ≠ 0; decide, rfl⟩
  · rw [if_neg h1]
    by_cases h2 : x.mode ≠ 1
    · rw [if_pos h2]; exact Or.inl ⟨by show (4 : Int) ≠ 0; decide, rfl⟩
    · rw [if_neg h2]
      by_cases h3 : quota ≤ (ownV x.y x.node x.inc : Nat) ∨ quota ≤ (x.q.os.length : Nat)
      · rw [if_pos h3]; exact Or.inl ⟨by show (3 : Int) ≠ 0; decide, rfl⟩
      · rw [if_neg h3]
        by_cases h4 : (addV x.y (editO x k u s)).2 = false
        · rw [if_pos h4]; exact Or.inl ⟨by show (5 : Int) ≠ 0; decide, rfl⟩
        · rw [if_neg h4]
          refine Or.inr ⟨by simpa using h1, by omega, by omega, by omega, by simpa using h4, rfl⟩
theorem editD_r {quota ids : Int} {x : Dv} {k u : Int} {s : ByteArray} (h : DvR x) (hq : quota ≤ 50) (hy : x.y.ops.length < 60) (hc : x.clock < 4294967296) (hs : x.sent < 4294967296) : DvR (editD quota ids x k u s).1 := by
  rcases editD_cases quota ids x k u s with ⟨_, e⟩ | ⟨ha, hm, ho, hl, hadd, e⟩
  · rw [e]; exact h
  · rw [e]
    have h1 := h.clock
    have h2 := h.sent
    exact
      { node := h.node
        boot := h.boot
        above := h.above
        pos := h.pos
        qf := h.qf
        qg := h.qg
        ql := by show (x.q.os ++ [editO x k u s]).length ≤ 60; rw [List.length_append, List.length_singleton]; omega
        y := h.y.add (argD_ok h ha hc hs)
        yl := by have := addV_len x.y (editO x k u s); show (addV x.y (editO x k u s)).1.ops.length ≤ 60; omega
        yt := by
          show (addV x.y (editO x k u s)).1.t ≤ 4294967296
          have h3 := h.yt
          unfold addV
          split
          · exact h3
          · split <;> exact h3
        l := h.l
        lw := h.lw
        inc := h.inc
        mode := h.mode
        clock := by show 0 ≤ x.clock + 1 ∧ x.clock + 1 ≤ 4294967296; omega
        sent := by show 0 ≤ x.sent + 1 ∧ x.sent + 1 ≤ 4294967296; omega
        late := h.late }

/-- The example's states. -/
def sA : Dv := (editD 2 16 (newD 1) 2 0 ⟨#[97]⟩).1
def sB : Dv := (editD 2 16 sA 3 2 ⟨#[98]⟩).1
def fE : Fr := ⟨0, 1, 2, 0, 0, 1, 1, 5, 0, 0, [], [], [⟨2, 2, 1, zeroMv⟩], []⟩
def sC : Dv := (takeD 0 sB fE).1
def fF : Fr := ⟨0, 1, 1, 0, 0, 0, 0, 0, 0, 0, [], [], [], []⟩
theorem fE_d : FrD fE where
  n := by
    intro n hn
    simp only [frL, fE, List.mem_cons, List.not_mem_nil, or_false] at hn
    rcases hn with rfl | rfl | rfl | rfl | rfl | rfl | rfl | rfl | rfl | rfl <;> omega
  es := by
    intro e he
    have he : e ∈ [(⟨2, 2, 1, zeroMv⟩ : En)] := he
    rw [List.mem_singleton] at he
    subst he
    exact ⟨by kernel_rfl, by show (0 : Int) ≤ 4294967296; omega, by show 0 ≤ 1000; omega⟩
  l := ⟨by show 0 ≤ 64; omega, by show 0 ≤ 8; omega, by show 1 ≤ 64; omega⟩
  gs := rfl
theorem fF_d : FrD fF where
  n := by
    intro n hn
    simp only [frL, fF, List.mem_cons, List.not_mem_nil, or_false] at hn
    rcases hn with rfl | rfl | rfl | rfl | rfl | rfl | rfl | rfl | rfl | rfl <;> omega
  es := by intro e he; cases he
  l := ⟨by show 0 ≤ 64; omega, by show 0 ≤ 8; omega, by show 0 ≤ 64; omega⟩
  gs := rfl
theorem sA_is : editD 2 16 (newD 1) 2 0 ⟨#[97]⟩ = (sA, 0) := Prod.ext rfl (by kernel_rfl)
theorem sB_is : editD 2 16 sA 3 2 ⟨#[98]⟩ = (sB, 0) := Prod.ext rfl (by kernel_rfl)
theorem sB_busy : (editD 2 16 sB 4 0 ⟨#[99]⟩).2 = 3 := by kernel_rfl
theorem sB_arg : (editD 2 16 sB 4 4 ⟨#[99]⟩).2 = 1 := by kernel_rfl
theorem sC_is : takeD 0 sB fE = (sC, 0) := Prod.ext rfl (by kernel_rfl)
theorem sC_stale : (takeD 0 sC fF).2 = 7 := by kernel_rfl
theorem sC_shown : (showV sC.y.now).length = 2 := by kernel_rfl
theorem sC_mode : sC.mode = 1 := by kernel_rfl
theorem sC_frame : (frameD 0 2 sC 7).first = 2 ∧ (frameD 0 2 sC 7).os.length = 1 ∧ (frameD 0 2 sC 7).pos = 1 := ⟨by kernel_rfl, by kernel_rfl, by kernel_rfl⟩
theorem sC_vector : (vectorD sC).length = 1 := by kernel_rfl
theorem sC_away : (editD 2 16 (leaveD sC) 4 0 ⟨#[99]⟩).2 = 4 := by kernel_rfl
theorem sC_left : (leaveD sC).inc = 2 ∧ (leaveD sC).mode = 2 := ⟨by kernel_rfl, by kernel_rfl⟩
theorem sA_r : DvR sA := editD_r (newD_r (by omega)) (by omega) (by show 0 < 60; omega) (by show (0 : Int) < 4294967296; omega) (by show (0 : Int) < 4294967296; omega)
theorem sB_r : DvR sB := editD_r sA_r (by omega) (by rw [show sA.y.ops.length = 1 from by kernel_rfl]; omega) (by rw [show sA.clock = 1 from by kernel_rfl]; omega) (by rw [show sA.sent = 1 from by kernel_rfl]; omega)
theorem sC_r : DvR sC where
  node := by rw [show sC.node = 1 from by kernel_rfl]; omega
  boot := by rw [show sC.boot = 1 from by kernel_rfl]; omega
  above := by rw [show sC.above = 2 from by kernel_rfl]; omega
  pos := by rw [show sC.pos = 1 from by kernel_rfl]; omega
  qf := by rw [show sC.q.f = 2 from by kernel_rfl]; omega
  qg := by rw [show sC.q.g = 5 from by kernel_rfl]; omega
  ql := by rw [show sC.q.os.length = 1 from by kernel_rfl]; omega
  y := by
    have e : sC.y = sB.y := by kernel_rfl
    rw [e]; exact sB_r.y
  yl := by rw [show sC.y.ops.length = 2 from by kernel_rfl]; omega
  yt := by rw [show sC.y.t = 0 from by kernel_rfl]; omega
  l := by rw [show sC.l = [] from by kernel_rfl]; exact ⟨Nat.zero_le _, List.Pairwise.nil⟩
  lw := by rw [show sC.l = [] from by kernel_rfl]; intro c h; cases h
  inc := by rw [show sC.inc = 1 from by kernel_rfl]; omega
  mode := Or.inl sC_mode
  clock := by rw [show sC.clock = 2 from by kernel_rfl]; omega
  sent := by rw [show sC.sent = 2 from by kernel_rfl]; omega
  late := by rw [show sC.late = 0 from by kernel_rfl]; omega
end Go.Proofs.YtdcjffajmckleaaGreatDoor

/- Whether operations may be, rise, and come behind a counter: rightOps of the program. -/
namespace Go.Proofs.YtdcjffajmckleaaGreatDoor
open Go.RowKit Tre Cod Pst

/-- The first k may be, rise, and come behind t. -/
def OpsTo (l : List Mv) (t : Int) (k : Nat) : Prop := ∀ i (h : i < l.length), i < k → l[i].ok ∧ t < l[i].C ∧ ∀ (h0 : 0 < i), bef Mv.C Mv.D (l[i - 1]'(by omega)) l[i]
def OpsR (l : List Mv) (t : Int) : Prop := OpsTo l t l.length
theorem OpsTo.zero (l : List Mv) (t : Int) : OpsTo l t 0 := fun i h hi => by omega
theorem OpsTo.next {l : List Mv} {t : Int} {k : Nat} (h : OpsTo l t k) (hk : k < l.length) (h1 : l[k].ok) (h2 : t < l[k].C) (h3 : ∀ (h0 : 0 < k), bef Mv.C Mv.D (l[k - 1]'(by omega)) l[k]) : OpsTo l t (k + 1) := fun i hi hik => by
  by_cases e : i = k
  · subst e; exact ⟨h1, h2, h3⟩
  · exact h i hi (by omega)
theorem OpsR.at {l : List Mv} {t : Int} (h : OpsR l t) (k : Nat) (hk : k < l.length) : l[k].ok ∧ t < l[k].C ∧ ∀ (h0 : 0 < k), bef Mv.C Mv.D (l[k - 1]'(by omega)) l[k] := h k hk hk

end Go.Proofs.YtdcjffajmckleaaGreatDoor

/- Whether a past is one: Right of the program. -/
namespace Go.Proofs.YtdcjffajmckleaaGreatDoor
open Go.RowKit Tre Cod Pst Nam

def PastR (q : Pv) : Prop := treeB q.base = true ∧ 0 ≤ q.t ∧ q.t ≤ 1099511627776 ∧ OpsR q.ops q.t ∧ q.now = (foldL q.base (mvs q.ops)).1 ∧ q.us = (foldL q.base (mvs q.ops)).2
theorem PInv.right {q : Pv} (h : PInv q) : PastR q :=
  ⟨h.tree, h.t0, h.t1, fun i hi _ => ⟨h.ok _ (List.getElem_mem hi), h.gt _ (List.getElem_mem hi), fun h0 => ris_get h.ris (by omega) hi (by omega)⟩, h.nw, h.un⟩

end Go.Proofs.YtdcjffajmckleaaGreatDoor

/- The library's Search; where an operation of a moment stands; where the counters above a number begin. -/
namespace Go.Proofs.YtdcjffajmckleaaGreatDoor
open Go.RowKit Tre Cod Pst

set_option maxRecDepth 100000 in
theorem findAt_any (i : Nat) (A : Option Addr) (c : Nat) (l : List Mv) (C D : Int) (b1 b2 : Nat) (w : World) (h1 : w.cell? ⟨b1, 0, none⟩ = some (.slice A l.length c)) (h2 : w.cell? ⟨b2, 0, none⟩ = some (.int .i64 C)) (h3 : w.cell? ⟨b2, 1, none⟩ = some (.int .i64 D))
    (hT : opE.Sl w A l) (hi : i < l.length) (hl : l.length ≤ 1000) :
    Calls Tryz.prog 80 #[.int .i64 i, .pointer (some ⟨b1, 0, none⟩), .pointer (some ⟨b2, 0, none⟩)] w fun e w' => e = .returned (.bool (!befB l[i].C l[i].D C D)) ∧ Below w.heap.size w w' := by
  obtain ⟨b, off, rfl, hbw, hc⟩ := hT (by omega)
  have hat : opE.At w b (off + i * 7) _ := hc i hi
  obtain ⟨m, hm⟩ : ∃ m, l[i] = m := ⟨_, rfl⟩
  rw [hm] at hat ⊢
  obtain ⟨t0, t1, t2, t3, t4, t5, t6⟩ := opAt hat
  clear hc hat hm t2 t3 t4 t5 t6
  have HC := Lib.hid (fun w => before_any m.C m.D C D w)
  generalize befB m.C m.D C D = r at *
  have k1 := cell_regrown h1
  have k2 := cell_regrown h2
  have k3 := cell_regrown h3
  have k4 := cell_regrown t0
  have k5 := cell_regrown t1
  clear h1 h2 h3 t0 t1
  have d1 : ∀ d os, Calls Tryz.prog 81 #[.agg #[.int .i64 m.C, .int .i64 m.D], .agg #[.int .i64 C, .int .i64 D]] (Sort.grow (redrawn w d) os) fun e w'' => e = .returned (.bool r) ∧ ∃ p : Regrown, w'' = Sort.grow (redrawn w p.d) p.os := fun d os => Calls.regrown_of (HC.out _)
  go_enter Tryz.func80, Tryz.ntmps80
  go_wp2_with fail
  refine wp_region_quiet_below (by kernel_rfl) (by kernel_rfl) ?_
  repeat (go_big_quiet_step ((with_reducible (first | exact d1 _ _))))
  refine wpQuiet_nil ?_
  intro _ hw'
  obtain ⟨⟨dq, osq⟩, hw''⟩ := hw'
  subst hw''
  have hq := below_regrown w dq osq
  generalize Sort.grow (redrawn w dq) osq = W1 at *
  go_wp2_with fail
  go_ret
  exact ⟨by cases r <;> rfl, hq⟩

set_option maxRecDepth 100000 in
theorem upOne_any (i : Nat) (x : Pw) (s : Int) (b1 b2 : Nat) (w : World) (hP : pwE.In w b1 x) (h2 : w.cell? ⟨b2, 0, none⟩ = some (.int .i64 s))
    (hT : opE.Sl w x.oA x.ops) (hi : i < x.ops.length) (hl : x.ops.length ≤ 1000) :
    Calls Tryz.prog 95 #[.int .i64 i, .pointer (some ⟨b1, 0, none⟩), .pointer (some ⟨b2, 0, none⟩)] w fun e w' => e = .returned (.bool (decide (s < x.ops[i].C))) ∧ Below w.heap.size w w' := by
  obtain ⟨bA, bc, base, t, oA, oc, ops, uA, uc, us, wA, wc, now⟩ := x
  simp only at hT hi hl ⊢
  obtain ⟨b, off, rfl, hbw, hc⟩ := hT (by omega)
  have hat : opE.At w b (off + i * 7) _ := hc i hi
  obtain ⟨m, hm⟩ : ∃ m, ops[i] = m := ⟨_, rfl⟩
  rw [hm] at hat ⊢
  obtain ⟨t0, t1, t2, t3, t4, t5, t6⟩ := opAt hat
  obtain ⟨p0, p1, p2, p3, p4⟩ := pwIn5 hP
  clear hc hat hm t1 t2 t3 t4 t5 t6 p0 p1 p3 p4
  go_enter Tryz.func95, Tryz.ntmps95
  go_wp2
  go_region
  all_goals go_wp2
  all_goals go_ret
  all_goals exact ⟨rfl, (Below.refl _ _).drew⟩

theorem find_pos {l : List Mv} (hr : Ris Mv.C Mv.D l) {m : Mv} {i : Nat} (hi : i ≤ l.length) (hlo : ∀ k (h : k < l.length), k < i → befB l[k].C l[k].D m.C m.D = true) (hhi : ∀ k (h : k < l.length), i ≤ k → befB l[k].C l[k].D m.C m.D = false) : i = pos Mv.C Mv.D l m :=
  pos_eq hi (fun k h hk => by have := hlo k h hk; rw [bef_iff] at this; exact of_decide_eq_true this) (fun h => by have := hhi i h (Nat.le_refl _); rw [bef_iff] at this; exact of_decide_eq_false this)

set_option maxRecDepth 100000 in
theorem search1_any (n : Nat) (b1 b2 : Nat) (p : Nat → Bool) (w : World) (hn : n ≤ 1000) (hm : ∀ i j, i ≤ j → j < n → p i = true → p j = true)
    (HF : ∀ (i : Nat) (w' : World), i < n → Below w.heap.size w w' → Calls Tryz.prog 80 #[.int .i64 i, .pointer (some ⟨b1, 0, none⟩), .pointer (some ⟨b2, 0, none⟩)] w' fun e w'' => e = .returned (.bool (p i)) ∧ Below w'.heap.size w' w'') :
    Calls Tryz.prog 79 #[.int .i64 n, .func (.func 80) #[] #[.pointer (some ⟨b1, 0, none⟩), .pointer (some ⟨b2, 0, none⟩)]] w fun e w' => ∃ k : Nat, e = .returned (.int .i64 k) ∧ k ≤ n ∧ (∀ i, i < k → p i = false) ∧ (∀ i, k ≤ i → i < n → p i = true) ∧ Below w.heap.size w w' := by
  go_enter Tryz.func79, Tryz.ntmps79
  go_wp2
  go_loopw [5, 6] (fun x y wr => ∃ i j : Nat, i ≤ j ∧ j ≤ n ∧ x = .int .i64 i ∧ y = .int .i64 j ∧ (∀ k, k < i → p k = false) ∧ (∀ k, j ≤ k → k < n → p k = true) ∧ Below w.heap.size w wr) (fun x y _ => (intOf y).toNat - (intOf x).toNat)
  case atStart => exact ⟨0, n, Nat.zero_le _, Nat.le_refl _, rfl, rfl, fun k hk => by omega, fun k hk h => by omega, Below.refl _ _⟩
  case round =>
    obtain ⟨i, j, hij, hj, rfl, rfl, hlo, hhi, hnx⟩ := hrel
    by_cases hlt : i < j
    · have hc0 := HF ((i + j) / 2) wr (by omega) hnx
      rw [show (((i + j) / 2 : Nat) : Int) = ((i : Int) + (j : Int)) / 2 by omega] at hc0
      have HC := Lib.hid hc0
      clear hc0
      cases hpk : p ((i + j) / 2)
      · rw [hpk] at HC
        go_wp2_with (go_at_call 80; (with_reducible refine (HC.out).mono ?_); rintro e w1 ⟨rfl, hb1⟩)
        go_roundw
        case rel =>
          refine ⟨(i + j) / 2 + 1, j, by omega, hj, by go_num, rfl, fun k hk => ?_, hhi, below_then hnx hb1⟩
          by_cases hpj : p k = true
          · have := hm k ((i + j) / 2) (by omega) (by omega) hpj
            rw [hpk] at this; cases this
          · simpa using hpj
        case measure => simp [intOf]; omega
      · rw [hpk] at HC
        go_wp2_with (go_at_call 80; (with_reducible refine (HC.out).mono ?_); rintro e w1 ⟨rfl, hb1⟩)
        go_roundw
        case rel =>
          refine ⟨i, (i + j) / 2, by omega, by omega, rfl, by go_num, hlo, fun k hk h => ?_, below_then hnx hb1⟩
          exact hm _ k hk h hpk
        case measure => simp [intOf]; omega
    · obtain rfl : i = j := by omega
      go_wp2
      go_ret
      exact ⟨i, rfl, hj, hlo, hhi, hnx⟩
set_option maxRecDepth 100000 in
theorem search2_any (n : Nat) (b1 b2 : Nat) (p : Nat → Bool) (w : World) (hn : n ≤ 1000) (hm : ∀ i j, i ≤ j → j < n → p i = true → p j = true)
    (HF : ∀ (i : Nat) (w' : World), i < n → Below w.heap.size w w' → Calls Tryz.prog 95 #[.int .i64 i, .pointer (some ⟨b1, 0, none⟩), .pointer (some ⟨b2, 0, none⟩)] w' fun e w'' => e = .returned (.bool (p i)) ∧ Below w'.heap.size w' w'') :
    Calls Tryz.prog 79 #[.int .i64 n, .func (.func 95) #[] #[.pointer (some ⟨b1, 0, none⟩), .pointer (some ⟨b2, 0, none⟩)]] w fun e w' => ∃ k : Nat, e = .returned (.int .i64 k) ∧ k ≤ n ∧ (∀ i, i < k → p i = false) ∧ (∀ i, k ≤ i → i < n → p i = true) ∧ Below w.heap.size w w' := by
  go_enter Tryz.func79, Tryz.ntmps79
  go_wp2
  go_loopw [5, 6] (fun x y wr => ∃ i j : Nat, i ≤ j ∧ j ≤ n ∧ x = .int .i64 i ∧ y = .int .i64 j ∧ (∀ k, k < i → p k = false) ∧ (∀ k, j ≤ k → k < n → p k = true) ∧ Below w.heap.size w wr) (fun x y _ => (intOf y).toNat - (intOf x).toNat)
  case atStart => exact ⟨0, n, Nat.zero_le _, Nat.le_refl _, rfl, rfl, fun k hk => by omega, fun k hk h => by omega, Below.refl _ _⟩
  case round =>
    obtain ⟨i, j, hij, hj, rfl, rfl, hlo, hhi, hnx⟩ := hrel
    by_cases hlt : i < j
    · have hc0 := HF ((i + j) / 2) wr (by omega) hnx
      rw [show (((i + j) / 2 : Nat) : Int) = ((i : Int) + (j : Int)) / 2 by omega] at hc0
      have HC := Lib.hid hc0
      clear hc0
      cases hpk : p ((i + j) / 2)
      · rw [hpk] at HC
        go_wp2_with (go_at_call 95; (with_reducible refine (HC.out).mono ?_); rintro e w1 ⟨rfl, hb1⟩)
        go_roundw
        case rel =>
          refine ⟨(i + j) / 2 + 1, j, by omega, hj, by go_num, rfl, fun k hk => ?_, hhi, below_then hnx hb1⟩
          by_cases hpj : p k = true
          · have := hm k ((i + j) / 2) (by omega) (by omega) hpj
            rw [hpk] at this; cases this
          · simpa using hpj
        case measure => simp [intOf]; omega
      · rw [hpk] at HC
        go_wp2_with (go_at_call 95; (with_reducible refine (HC.out).mono ?_); rintro e w1 ⟨rfl, hb1⟩)
        go_roundw
        case rel =>
          refine ⟨i, (i + j) / 2, by omega, by omega, rfl, by go_num, hlo, fun k hk h => ?_, below_then hnx hb1⟩
          exact hm _ k hk h hpk
        case measure => simp [intOf]; omega
    · obtain rfl : i = j := by omega
      go_wp2
      go_ret
      exact ⟨i, rfl, hj, hlo, hhi, hnx⟩
end Go.Proofs.YtdcjffajmckleaaGreatDoor

/- Of the library, at operations and undos: Clone, Grow, Concat. -/
namespace Go.Proofs.YtdcjffajmckleaaGreatDoor
open Go.RowKit Tre Cod

def catE {α : Type} (F : Nat → List α) : Nat → List α
  | 0 => []
  | k + 1 => catE F k ++ F k
theorem catE_le {α : Type} (F : Nat → List α) (k : Nat) : ∀ n, k ≤ n → (catE F k).length ≤ (catE F n).length
  | 0, h => by obtain rfl : k = 0 := by omega
               exact Nat.le_refl _
  | n + 1, h => by
    by_cases e : k = n + 1
    · subst e; exact Nat.le_refl _
    · have := catE_le F k n (by omega)
      rw [catE, List.length_append]; omega

set_option maxRecDepth 100000 in
theorem cloneOp_any (A : Option Addr) (c : Nat) (l : List Mv) (w : World) (hl : l.length ≤ 50000) (hT : SlV opE w A c l) :
    Calls Tryz.prog 59 #[.slice A l.length c] w fun e w' => ∃ A' c', e = .returned (.slice A' l.length c') ∧ SlV opE w' A' c' l ∧ Frs w.heap.size A' ∧ Below w.heap.size w w' := by
  obtain ⟨hT, hz, hlc⟩ := hT
  have q : ∀ (w : World) (a : Option Addr) (n c n' c' : Nat), (binOp .eql 31 (.slice a n c) (.slice none n' c')).run Tryz.prog w = .ok (.bool a.isNone) w := fun w a n c n' c' => Lib.run_eql_slice_nil w _ _ a n c n' c' Tryz.underlying31
  cases A with
  | none =>
    obtain rfl := hT.none_nil
    obtain rfl := hz rfl
    go_enter Tryz.func59, Tryz.ntmps59
    go_wp2
    go_ret
    exact ⟨none, 0, rfl, SlV.nil _ _, frs_nil _, Below.refl _ _⟩
  | some a =>
    go_enter Tryz.func59, Tryz.ntmps59
    have hE := El.Own.empty (E := opE) w w.heap.size (Nat.le_refl _)
    have hb0 := below_alloc (Below.refl w.heap.size w) (.cells #[] 55)
    go_wp2_with (at_builtin; refine El.wpList_app opInn rfl _ _ rfl w.heap.size _ [] l rfl hE (some a) _ c rfl rfl (hT.below hb0) (fun e => by cases e) (by simp; omega) (by simp) ?_; intro v' w2 hown hg _)
    obtain ⟨A', c', rfl, hS⟩ := SlV.own hown
    go_wp2
    go_ret
    exact ⟨A', c', rfl, hS, hown.frs, below_own hb0 hg (hE.rows)⟩

theorem infoOp : (Tryz.prog.info? 55).map (fun i => (i.zero, i.size, i.bytes)) = some (some (.agg #[.int .i64 0, .int .i64 0, .int .i64 0, .int .i64 0, .int .i64 0, .int .i64 0, .string ⟨#[]⟩]), 7, 64) := by kernel_rfl
set_option maxRecDepth 100000 in
theorem growOp_any (B n : Nat) (w : World) (hn : n ≤ 1000) (hB : B ≤ w.heap.size) :
    Calls Tryz.prog 83 #[.slice none 0 0, .int .i64 n] w fun e w' => ∃ v, e = .returned v ∧ opE.Own w' B v [] ∧ Below w.heap.size w w' := by
  by_cases h0 : n = 0
  · subst h0
    go_enter Tryz.func83, Tryz.ntmps83
    go_wp2
    go_ret
    exact ⟨_, rfl, El.Own.nil _ B, Below.refl _ _⟩
  · obtain ⟨i, hi, hz, hz1, hz2⟩ := info_parts infoOp
    have hr := fun ty => Lib.run_append_nil_zeros (P := Tryz.prog) w 31 3 ty 55 i _ .i64 .i64 Tryz.underlying31 Tryz.underlying3 hi hz n (by omega) (by omega) (by omega) (by rw [hz2]; omega)
    have hg1 : n ≤ grownCap w n 0 55 := grownCap_ge w n 0 _
    have hg2 : grownCap w n 0 55 ≤ maxLen := grownCap_le_maxLen w n 0 55 (by unfold maxLen; omega)
    have hown : opE.Own (w.drew.alloc (.cells (Builtin.zeroCells (Value.agg #[.int .i64 0, .int .i64 0, .int .i64 0, .int .i64 0, .int .i64 0, .int .i64 0, .string ⟨#[]⟩]).cells n ++ Builtin.zeroCells (Value.agg #[.int .i64 0, .int .i64 0, .int .i64 0, .int .i64 0, .int .i64 0, .int .i64 0, .string ⟨#[]⟩]).cells (grownCap w n 0 55 - n)) 55)) B (.slice (some ⟨w.heap.size, 0, none⟩) 0 (grownCap w n 0 55)) [] := by
      refine World.ownsRow_made w.drew _ (grownCap w n 0 55) hB hg2 ?_
      rw [Array.size_append, size_zeroCells, size_zeroCells]
      show n * 7 + (grownCap w n 0 55 - n) * 7 = _ * 7
      omega
    have hnx : Below w.heap.size w (w.drew.alloc (.cells (Builtin.zeroCells (Value.agg #[.int .i64 0, .int .i64 0, .int .i64 0, .int .i64 0, .int .i64 0, .int .i64 0, .string ⟨#[]⟩]).cells n ++ Builtin.zeroCells (Value.agg #[.int .i64 0, .int .i64 0, .int .i64 0, .int .i64 0, .int .i64 0, .int .i64 0, .string ⟨#[]⟩]).cells (grownCap w n 0 55 - n)) 55)) := below_alloc (Below.refl _ w).drew _
    generalize grownCap w n 0 55 = cap at *
    generalize w.drew.alloc (.cells (Builtin.zeroCells (Value.agg #[.int .i64 0, .int .i64 0, .int .i64 0, .int .i64 0, .int .i64 0, .int .i64 0, .string ⟨#[]⟩]).cells n ++ Builtin.zeroCells (Value.agg #[.int .i64 0, .int .i64 0, .int .i64 0, .int .i64 0, .int .i64 0, .int .i64 0, .string ⟨#[]⟩]).cells (cap - n)) 55) = W at *
    go_enter Tryz.func83, Tryz.ntmps83
    go_wp2_with (at_builtin; refine Lib.wpList_append_run _ rfl _ _ 31 3 rfl _ _ rfl rfl _ _ (hr _) ?_)
    go_wp2
    go_ret
    exact ⟨_, rfl, hown, hnx⟩

set_option maxRecDepth 100000 in
theorem concatOp_any (sb : Nat) (F : Nat → List Mv) (A : Nat → Option Addr) (C : Nat → Nat) (w : World) (hcell : ∀ j, j < 3 → w.cell? ⟨sb, j, none⟩ = some (.slice (A j) (F j).length (C j)))
    (hT : ∀ j, j < 3 → opE.Sl w (A j) (F j)) (hc : ∀ j, j < 3 → A j = none → C j = 0) (hl : (catE F 3).length ≤ 1000) (hsb : sb < w.heap.size) :
    Calls Tryz.prog 51 #[.slice (some ⟨sb, 0, none⟩) 3 3] w fun e w' => ∃ A' cap', e = .returned (.slice A' (catE F 3).length cap') ∧ SlV opE w' A' cap' (catE F 3) ∧ Frs w.heap.size A' ∧ Below w.heap.size w w' := by
  have CG := fun n hn => growOp_any w.heap.size n w hn (Nat.le_refl _)
  have hle := fun k h => catE_le F k 3 h
  have HCL := Lib.hid hcell
  have HTT := Lib.hid hT
  have HCC := Lib.hid hc
  clear hcell hT hc
  go_enter Tryz.func51, Tryz.ntmps51
  go_wp2
  go_loop [3, 11] (fun x y => ∃ k : Nat, k ≤ 3 ∧ y = .int .i64 k ∧ x = .int .i64 (catE F k).length) (fun _ y => 3 - (intOf y).toNat)
  case atStart => exact ⟨0, Nat.zero_le _, rfl, rfl⟩
  case round =>
    obtain ⟨k, hk, rfl, rfl⟩ := hrel
    by_cases hlt : k < 3
    · have h1 := HCL.out k hlt
      have h2 := hle (k + 1) hlt
      have h3 : (catE F (k + 1)).length = (catE F k).length + (F k).length := by rw [catE, List.length_append]
      have H3 := Lib.hid h3
      have h4 : (catE F k).length + (F k).length ≤ 1000 := by omega
      generalize (catE F k).length = n at *
      generalize (F k).length = m at *
      clear h3
      go_wp2
      go_round
      case rel => exact ⟨k + 1, by omega, by go_num, by rw [H3.out]; go_num⟩
      case measure => simp [intOf]; omega
    · obtain rfl : k = 3 := by omega
      have CG := CG _ hl
      go_wp2_with fail
      refine CG.mono ?_
      rintro e w1 ⟨v, rfl, hown, hb1⟩
      clear CG
      go_wp2
      go_loopw [6, 27] (fun x y wr => ∃ (k : Nat) (v : Value), k ≤ 3 ∧ y = .int .i64 k ∧ x = v ∧ opE.Own wr w.heap.size v (catE F k) ∧ Below w.heap.size w wr) (fun _ y _ => 3 - (intOf y).toNat)
      case atStart => exact ⟨0, v, Nat.zero_le _, rfl, rfl, hown, hb1⟩
      case round =>
        clear hown hb1
        obtain ⟨k, v, hk, rfl, rfl, hown, hnx⟩ := hrel
        by_cases hlt : k < 3
        · have h1 := HCL.out k hlt
          rw [← (bcell hnx).1 _ _ hsb] at h1
          have h2 := hle (k + 1) hlt
          have h3 : (catE F (k + 1)).length = (catE F k).length + (F k).length := by rw [catE, List.length_append]
          have hTk := (HTT.out k hlt).below hnx
          have hck := HCC.out k hlt
          have hB := hnx.size
          go_wp2_with (at_builtin; refine El.wpList_app opInn rfl _ _ rfl w.heap.size _ (catE F k) (F k) rfl hown (A k) _ (C k) rfl rfl hTk hck (by omega) hB ?_; intro v' w2 hown2 hg2 _)
          go_roundw
          case rel => exact ⟨k + 1, v', by omega, by go_num, rfl, hown2, hnx.grown hg2 hB (fun j hj => (hown).rows j hj)⟩
          case measure => simp [intOf]; omega
        · obtain rfl : k = 3 := by omega
          obtain ⟨A', cap', rfl, hS⟩ := SlV.own hown
          go_wp2
          go_ret
          exact ⟨A', cap', rfl, hS, hown.frs, hnx⟩
set_option maxRecDepth 100000 in
theorem cloneUn_any (A : Option Addr) (c : Nat) (l : List Un) (w : World) (hl : l.length ≤ 50000) (hT : SlV unE w A c l) :
    Calls Tryz.prog 82 #[.slice A l.length c] w fun e w' => ∃ A' c', e = .returned (.slice A' l.length c') ∧ SlV unE w' A' c' l ∧ Frs w.heap.size A' ∧ Below w.heap.size w w' := by
  obtain ⟨hT, hz, hlc⟩ := hT
  have q : ∀ (w : World) (a : Option Addr) (n c n' c' : Nat), (binOp .eql 38 (.slice a n c) (.slice none n' c')).run Tryz.prog w = .ok (.bool a.isNone) w := fun w a n c n' c' => Lib.run_eql_slice_nil w _ _ a n c n' c' Tryz.underlying38
  cases A with
  | none =>
    obtain rfl := hT.none_nil
    obtain rfl := hz rfl
    go_enter Tryz.func82, Tryz.ntmps82
    go_wp2
    go_ret
    exact ⟨none, 0, rfl, SlV.nil _ _, frs_nil _, Below.refl _ _⟩
  | some a =>
    go_enter Tryz.func82, Tryz.ntmps82
    have hE := El.Own.empty (E := unE) w w.heap.size (Nat.le_refl _)
    have hb0 := below_alloc (Below.refl w.heap.size w) (.cells #[] 118)
    go_wp2_with (at_builtin; refine El.wpList_app unInn rfl _ _ rfl w.heap.size _ [] l rfl hE (some a) _ c rfl rfl (hT.below hb0) (fun e => by cases e) (by simp; omega) (by simp) ?_; intro v' w2 hown hg _)
    obtain ⟨A', c', rfl, hS⟩ := SlV.own hown
    go_wp2
    go_ret
    exact ⟨A', c', rfl, hS, hown.frs, below_own hb0 hg (hE.rows)⟩

theorem infoUn : (Tryz.prog.info? 118).map (fun i => (i.zero, i.size, i.bytes)) = some (some (.agg #[.int .i64 0, .int .i64 0, .string ⟨#[]⟩, .bool false, .bool false]), 5, 40) := by kernel_rfl
set_option maxRecDepth 100000 in
theorem growUn_any (B n : Nat) (w : World) (hn : n ≤ 1000) (hB : B ≤ w.heap.size) :
    Calls Tryz.prog 87 #[.slice none 0 0, .int .i64 n] w fun e w' => ∃ v, e = .returned v ∧ unE.Own w' B v [] ∧ Below w.heap.size w w' := by
  by_cases h0 : n = 0
  · subst h0
    go_enter Tryz.func87, Tryz.ntmps87
    go_wp2
    go_ret
    exact ⟨_, rfl, El.Own.nil _ B, Below.refl _ _⟩
  · obtain ⟨i, hi, hz, hz1, hz2⟩ := info_parts infoUn
    have hr := fun ty => Lib.run_append_nil_zeros (P := Tryz.prog) w 38 3 ty 118 i _ .i64 .i64 Tryz.underlying38 Tryz.underlying3 hi hz n (by omega) (by omega) (by omega) (by rw [hz2]; omega)
    have hg1 : n ≤ grownCap w n 0 118 := grownCap_ge w n 0 _
    have hg2 : grownCap w n 0 118 ≤ maxLen := grownCap_le_maxLen w n 0 118 (by unfold maxLen; omega)
    have hown : unE.Own (w.drew.alloc (.cells (Builtin.zeroCells (Value.agg #[.int .i64 0, .int .i64 0, .string ⟨#[]⟩, .bool false, .bool false]).cells n ++ Builtin.zeroCells (Value.agg #[.int .i64 0, .int .i64 0, .string ⟨#[]⟩, .bool false, .bool false]).cells (grownCap w n 0 118 - n)) 118)) B (.slice (some ⟨w.heap.size, 0, none⟩) 0 (grownCap w n 0 118)) [] := by
      refine World.ownsRow_made w.drew _ (grownCap w n 0 118) hB hg2 ?_
      rw [Array.size_append, size_zeroCells, size_zeroCells]
      show n * 5 + (grownCap w n 0 118 - n) * 5 = _ * 5
      omega
    have hnx : Below w.heap.size w (w.drew.alloc (.cells (Builtin.zeroCells (Value.agg #[.int .i64 0, .int .i64 0, .string ⟨#[]⟩, .bool false, .bool false]).cells n ++ Builtin.zeroCells (Value.agg #[.int .i64 0, .int .i64 0, .string ⟨#[]⟩, .bool false, .bool false]).cells (grownCap w n 0 118 - n)) 118)) := below_alloc (Below.refl _ w).drew _
    generalize grownCap w n 0 118 = cap at *
    generalize w.drew.alloc (.cells (Builtin.zeroCells (Value.agg #[.int .i64 0, .int .i64 0, .string ⟨#[]⟩, .bool false, .bool false]).cells n ++ Builtin.zeroCells (Value.agg #[.int .i64 0, .int .i64 0, .string ⟨#[]⟩, .bool false, .bool false]).cells (cap - n)) 118) = W at *
    go_enter Tryz.func87, Tryz.ntmps87
    go_wp2_with (at_builtin; refine Lib.wpList_append_run _ rfl _ _ 38 3 rfl _ _ rfl rfl _ _ (hr _) ?_)
    go_wp2
    go_ret
    exact ⟨_, rfl, hown, hnx⟩

set_option maxRecDepth 100000 in
theorem concatUn_any (sb : Nat) (F : Nat → List Un) (A : Nat → Option Addr) (C : Nat → Nat) (w : World) (hcell : ∀ j, j < 2 → w.cell? ⟨sb, j, none⟩ = some (.slice (A j) (F j).length (C j)))
    (hT : ∀ j, j < 2 → unE.Sl w (A j) (F j)) (hc : ∀ j, j < 2 → A j = none → C j = 0) (hl : (catE F 2).length ≤ 1000) (hsb : sb < w.heap.size) :
    Calls Tryz.prog 55 #[.slice (some ⟨sb, 0, none⟩) 2 2] w fun e w' => ∃ A' cap', e = .returned (.slice A' (catE F 2).length cap') ∧ SlV unE w' A' cap' (catE F 2) ∧ Frs w.heap.size A' ∧ Below w.heap.size w w' := by
  have CG := fun n hn => growUn_any w.heap.size n w hn (Nat.le_refl _)
  have hle := fun k h => catE_le F k 2 h
  have HCL := Lib.hid hcell
  have HTT := Lib.hid hT
  have HCC := Lib.hid hc
  clear hcell hT hc
  go_enter Tryz.func55, Tryz.ntmps55
  go_wp2
  go_loop [3, 11] (fun x y => ∃ k : Nat, k ≤ 2 ∧ y = .int .i64 k ∧ x = .int .i64 (catE F k).length) (fun _ y => 2 - (intOf y).toNat)
  case atStart => exact ⟨0, Nat.zero_le _, rfl, rfl⟩
  case round =>
    obtain ⟨k, hk, rfl, rfl⟩ := hrel
    by_cases hlt : k < 2
    · have h1 := HCL.out k hlt
      have h2 := hle (k + 1) hlt
      have h3 : (catE F (k + 1)).length = (catE F k).length + (F k).length := by rw [catE, List.length_append]
      have H3 := Lib.hid h3
      have h4 : (catE F k).length + (F k).length ≤ 1000 := by omega
      generalize (catE F k).length = n at *
      generalize (F k).length = m at *
      clear h3
      go_wp2
      go_round
      case rel => exact ⟨k + 1, by omega, by go_num, by rw [H3.out]; go_num⟩
      case measure => simp [intOf]; omega
    · obtain rfl : k = 2 := by omega
      have CG := CG _ hl
      go_wp2_with fail
      refine CG.mono ?_
      rintro e w1 ⟨v, rfl, hown, hb1⟩
      clear CG
      go_wp2
      go_loopw [6, 27] (fun x y wr => ∃ (k : Nat) (v : Value), k ≤ 2 ∧ y = .int .i64 k ∧ x = v ∧ unE.Own wr w.heap.size v (catE F k) ∧ Below w.heap.size w wr) (fun _ y _ => 2 - (intOf y).toNat)
      case atStart => exact ⟨0, v, Nat.zero_le _, rfl, rfl, hown, hb1⟩
      case round =>
        clear hown hb1
        obtain ⟨k, v, hk, rfl, rfl, hown, hnx⟩ := hrel
        by_cases hlt : k < 2
        · have h1 := HCL.out k hlt
          rw [← (bcell hnx).1 _ _ hsb] at h1
          have h2 := hle (k + 1) hlt
          have h3 : (catE F (k + 1)).length = (catE F k).length + (F k).length := by rw [catE, List.length_append]
          have hTk := (HTT.out k hlt).below hnx
          have hck := HCC.out k hlt
          have hB := hnx.size
          go_wp2_with (at_builtin; refine El.wpList_app unInn rfl _ _ rfl w.heap.size _ (catE F k) (F k) rfl hown (A k) _ (C k) rfl rfl hTk hck (by omega) hB ?_; intro v' w2 hown2 hg2 _)
          go_roundw
          case rel => exact ⟨k + 1, v', by omega, by go_num, rfl, hown2, hnx.grown hg2 hB (fun j hj => (hown).rows j hj)⟩
          case measure => simp [intOf]; omega
        · obtain rfl : k = 2 := by omega
          obtain ⟨A', cap', rfl, hS⟩ := SlV.own hown
          go_wp2
          go_ret
          exact ⟨A', cap', rfl, hS, hown.frs, hnx⟩
end Go.Proofs.YtdcjffajmckleaaGreatDoor
