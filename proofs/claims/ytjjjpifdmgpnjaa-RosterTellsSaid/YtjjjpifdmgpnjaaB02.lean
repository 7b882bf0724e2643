/- Texts laid one behind the other: Tn, Frm, Ar, To, Ge, Uo, Gr, Gf, Th, Ti, Tj, Tt, Sf, Sa, Sb, Sc, Sd, Na, Oa, Ob, Od, Oe, Mm, Va, Ic, Za. -/
import Derived.Test.YtjjjpifdmgpnjaaB01
import Derived.Test.YtjjjpifdmgpnjaaRows
import Derived.WalkKit
import Derived.ProofKit
import Derived.OpenShut
import Derived.ChangeSame
import Derived.Carry
import Derived.Lib.QuietBelow
import Derived.Lib.SmallJoins
import Derived.Deep.SlicePairs
import Derived.ChangeSlices
import Derived.ChangeShapes
import Derived.Maps.AppendAt
import Derived.Laws.OwnMore
import Derived.Lib.AppendZeros
import Derived.Laws.ResultCell
import Derived.Laws.CopyOwn
import Derived.Deep.RegionHeld3
import Derived.Laws.CopyRow
import Derived.StillTailTactics
import Derived.Lib.Builder
import Derived.Laws.FloatArith
import Derived.WalkLawsBesides
import Derived.Lib.Hide
import Derived.KernelRfl
import Derived.Handy
import Derived.BigQuiet
import Derived.Deep.QuietTactic
import Derived.Lib.SliceRun
import Derived.Lib.MinMax
/- Places and trees as bytes; what may be a tree. -/
namespace Go.Proofs.Ytjjjpifdmgpnjaa
open Go.RowKit Nam Cod Tre

def isPlace (s : ByteArray) (p : Nat) (bad : Bool) : Option (Pl × Nat) :=
  (isNum s p bad).bind fun a => (isNum s a.2 false).bind fun b => (isText s b.2 false 16).bind fun c => some (⟨a.1, b.1, c.1⟩, c.2)
/-- So many places, from p on. -/
def isPlaces (s : ByteArray) : Nat → Nat → Option (List Pl × Nat)
  | 0, p => some ([], p)
  | n + 1, p => (isPlaces s n p).bind fun a => (isPlace s a.2 false).bind fun b => some (a.1 ++ [b.1], b.2)
def okPl (p : Pl) : Bool := decide (2 ≤ p.n ∧ p.n < 64 ∧ 0 ≤ p.u ∧ p.u < 64) && isName (L p.s)
def rising : List Pl → Bool
  | [] => true
  | [_] => true
  | p :: q :: l => decide (p.n < q.n) && rising (q :: l)
def treeB (l : List Pl) : Bool := l.all okPl && (rising l && l.all fun p => !above l p.n p.u)
def isTree (s : ByteArray) (p : Nat) (bad : Bool) : Option (List Pl × Nat) :=
  (isCount s p bad 64).bind fun a => (isPlaces s a.1.toNat a.2).bind fun b => if treeB b.1 = true then some b else none

def plBytes (p : Pl) : ByteArray := bytesOf p.n ++ bytesOf p.u ++ textOf p.s
def catL : List Pl → ByteArray
  | [] => ⟨#[]⟩
  | p :: l => plBytes p ++ catL l
def treeBytes (l : List Pl) : ByteArray := bytesOf l.length ++ catL l
/-- Numbers that a word holds; a text that isn't too long. -/
structure Fit (p : Pl) : Prop where
  n1 : -9223372036854775808 ≤ p.n
  n2 : p.n ≤ 9223372036854775807
  u1 : -9223372036854775808 ≤ p.u
  u2 : p.u ≤ 9223372036854775807
  s : p.s.size ≤ 16

theorem bempty (x : ByteArray) : x ++ (⟨#[]⟩ : ByteArray) = x := by apply L_inj; rw [L_app]; simp [L]
theorem empty_b (x : ByteArray) : (⟨#[]⟩ : ByteArray) ++ x = x := by apply L_inj; rw [L_app]; simp [L]
theorem catL_snoc (l : List Pl) (p : Pl) : catL (l ++ [p]) = catL l ++ plBytes p := by
  induction l with
  | nil => show plBytes p ++ ⟨#[]⟩ = ⟨#[]⟩ ++ plBytes p; rw [bempty, empty_b]
  | cons q l ih => show plBytes q ++ catL (l ++ [p]) = (plBytes q ++ catL l) ++ plBytes p; rw [ih, ByteArray.append_assoc]
theorem catL_app (l m : List Pl) : catL (l ++ m) = catL l ++ catL m := by
  induction l with
  | nil => exact (empty_b _).symm
  | cons q l ih => show plBytes q ++ catL (l ++ m) = (plBytes q ++ catL l) ++ catL m; rw [ih, ByteArray.append_assoc]
theorem okPl_fit {p : Pl} (h : okPl p = true) : Fit p ∧ 2 ≤ p.n ∧ p.n < 64 ∧ 0 ≤ p.u ∧ p.u < 64 ∧ isName (L p.s) = true := by
  unfold okPl at h
  rw [Bool.and_eq_true, decide_eq_true_iff] at h
  have hl := isName_len h.2
  rw [L_len] at hl
  exact ⟨⟨by omega, by omega, by omega, by omega, hl.2⟩, h.1.1, h.1.2.1, h.1.2.2.1, h.1.2.2.2, h.2⟩
theorem plBytes_le {p : Pl} (h : Fit p) : (plBytes p).size ≤ 46 := by
  unfold plBytes textOf
  simp only [ByteArray.size_append]
  have z1 := bytesOf_le p.n h.n1 h.n2
  have z2 := bytesOf_le p.u h.u1 h.u2
  have hs := h.s
  have z3 := bytesOf_le p.s.size (by omega) (by omega)
  omega
theorem catL_le : ∀ (l : List Pl), (∀ p ∈ l, Fit p) → (catL l).size ≤ 46 * l.length
  | [], _ => by show (ByteArray.mk #[]).size ≤ _; exact Nat.zero_le _
  | p :: l, h => by
    have h1 := plBytes_le (h p (by simp))
    have h2 := catL_le l (fun q hq => h q (by simp [hq]))
    show (plBytes p ++ catL l).size ≤ _
    rw [ByteArray.size_append, List.length_cons]; omega

theorem place_there (A Z : ByteArray) (p : Pl) (h : Fit p) : isPlace (A ++ (plBytes p ++ Z)) A.size false = some (p, A.size + (plBytes p).size) := by
  have h1 := num_there A (bytesOf p.u ++ textOf p.s ++ Z) p.n h.n1 h.n2
  have h2 := num_there (A ++ bytesOf p.n) (textOf p.s ++ Z) p.u h.u1 h.u2
  have h3 := text_there (A ++ bytesOf p.n ++ bytesOf p.u) p.s Z 16 (by have := h.s; omega) (by have := h.s; omega)
  have e : A ++ (plBytes p ++ Z) = A ++ (bytesOf p.n ++ (bytesOf p.u ++ textOf p.s ++ Z)) := by unfold plBytes; simp only [ByteArray.append_assoc]
  have e2 : A ++ (plBytes p ++ Z) = A ++ bytesOf p.n ++ (bytesOf p.u ++ (textOf p.s ++ Z)) := by unfold plBytes; simp only [ByteArray.append_assoc]
  have e3 : A ++ (plBytes p ++ Z) = A ++ bytesOf p.n ++ bytesOf p.u ++ (textOf p.s ++ Z) := by unfold plBytes; simp only [ByteArray.append_assoc]
  rw [← e] at h1
  rw [← e2, ByteArray.size_append] at h2
  rw [← e3, ByteArray.size_append, ByteArray.size_append] at h3
  unfold isPlace
  simp only [h1, h2, h3, Option.bind_some]
  unfold plBytes
  simp only [ByteArray.size_append, Nat.add_assoc]
theorem places_there (A Z : ByteArray) (l : List Pl) (h : ∀ p ∈ l, Fit p) : ∀ k, k ≤ l.length → isPlaces (A ++ (catL l ++ Z)) k A.size = some (l.take k, A.size + (catL (l.take k)).size)
  | 0, _ => by unfold isPlaces; simp [catL]; rfl
  | k + 1, hk => by
    have hlt : k < l.length := hk
    have e : catL l ++ Z = catL (l.take k) ++ (plBytes l[k] ++ (catL (l.drop (k + 1)) ++ Z)) := by
      have : l = l.take k ++ (l[k] :: l.drop (k + 1)) := by rw [← List.drop_eq_getElem_cons hlt, List.take_append_drop]
      conv => lhs; rw [this, catL_app]
      show catL (l.take k) ++ (plBytes l[k] ++ catL (l.drop (k + 1))) ++ Z = _
      simp only [ByteArray.append_assoc]
    have hp := place_there (A ++ catL (l.take k)) (catL (l.drop (k + 1)) ++ Z) l[k] (h _ (List.getElem_mem hlt))
    rw [ByteArray.append_assoc, ← e, ByteArray.size_append] at hp
    unfold isPlaces
    rw [places_there A Z l h k (by omega), Option.bind_some]
    simp only [hp, Option.bind_some]
    rw [List.take_succ_eq_append_getElem hlt, catL_snoc, ByteArray.size_append, Nat.add_assoc]
theorem tree_there (A Z : ByteArray) (l : List Pl) (h : treeB l = true) (hl : l.length ≤ 64) : isTree (A ++ (treeBytes l ++ Z)) A.size false = some (l, A.size + (treeBytes l).size) := by
  have hf : ∀ p ∈ l, Fit p := fun p hp => by
    unfold treeB at h
    rw [Bool.and_eq_true, List.all_eq_true] at h
    exact (okPl_fit (h.1 p hp)).1
  have h1 := count_there A (catL l ++ Z) l.length 64 (by omega) (by omega) (by omega)
  have e : A ++ (treeBytes l ++ Z) = A ++ (bytesOf l.length ++ (catL l ++ Z)) := by unfold treeBytes; rw [ByteArray.append_assoc]
  have h2 := places_there (A ++ bytesOf l.length) Z l hf l.length (Nat.le_refl _)
  rw [ByteArray.append_assoc, ← e, ByteArray.size_append, List.take_length] at h2
  rw [← e] at h1
  unfold isTree
  simp only [h1, Option.bind_some, Int.toNat_natCast, h2, h, if_true]
  unfold treeBytes
  rw [ByteArray.size_append, Nat.add_assoc]
theorem rising_cons {p : Pl} : ∀ {l : List Pl}, rising (p :: l) = true → rising l = true ∧ ∀ q ∈ l, p.n < q.n
  | [], _ => ⟨rfl, fun q hq => by cases hq⟩
  | q :: l, h => by
    unfold rising at h
    rw [Bool.and_eq_true, decide_eq_true_iff] at h
    refine ⟨h.2, fun x hx => ?_⟩
    rcases List.mem_cons.1 hx with rfl | hx
    · exact h.1
    · have := (rising_cons h.2).2 x hx; omega
theorem rising_sorted : ∀ {l : List Pl}, rising l = true → Sorted l
  | [], _ => fun i j hi => by simp at hi
  | p :: l, h => fun i j hi hj hij => by
    obtain ⟨h1, h2⟩ := rising_cons h
    cases j with
    | zero => omega
    | succ j =>
      have hj' : j < l.length := by simpa using hj
      cases i with
      | zero => exact h2 _ (List.getElem_mem hj')
      | succ i => exact rising_sorted h1 i j (by simpa using hi) hj' (by omega)
theorem treeB_facts {l : List Pl} (h : treeB l = true) : (∀ p ∈ l, okPl p = true) ∧ Sorted l ∧ NoRing l := by
  unfold treeB at h
  simp only [Bool.and_eq_true, List.all_eq_true, Bool.not_eq_true'] at h
  exact ⟨h.1, rising_sorted h.2.1, h.2.2⟩
/-- Nodes below 64, rising: no more than 62. -/
theorem sorted_len {l : List Pl} (hs : Sorted l) (h : ∀ p ∈ l, 2 ≤ p.n ∧ p.n < 64) : l.length ≤ 62 := by
  have key : ∀ i (hi : i < l.length), (i : Int) + 2 ≤ l[i].n := by
    intro i
    induction i with
    | zero => intro hi; have := (h _ (List.getElem_mem hi)).1; omega
    | succ i ih => intro hi; have h1 := ih (by omega); have h2 := hs i (i + 1) (by omega) hi (by omega); omega
  rcases Nat.lt_or_ge 62 l.length with hlt | hge
  · have h1 := key 62 hlt
    have h2 := (h _ (List.getElem_mem hlt)).2
    omega
  · exact hge
end Go.Proofs.Ytjjjpifdmgpnjaa

/- The frame of a law that reads its arguments, makes memory of its own, and answers true: its row's end, out of 'Below' alone. -/
namespace Go.Proofs.Ytjjjpifdmgpnjaa.Frm
open Go.ChangeShapes Go.WideShapes Go.ChangeAt Go.RowKit

section
variable {H : Type} {enc : TypeId × Value → H} {P : Program}

/-- Each type of a list can be read, and is a row of the table. -/
def rowed (P : Program) (ts : List TypeId) : Bool := ts.all fun t => P.readableRec t && decide (t < P.types.size)

theorem trodAll_below (hl : laidOutB P = true) {W W' : World} (hb : Below W.heap.size W W') (sp : Nat → Bool) :
    ∀ {ts : List TypeId} {vs : List Value} {ds : List (DataW H)} {ps : List MemPlace}, rowed P ts = true → DataW.TrodAll enc P W 0 (fun _ => true) true ts vs ds ps → (∀ p ∈ ps, p.block < W.heap.size) → (∀ p ∈ ps, sp p.block = true) →
      DataW.TrodAll enc P W' 0 sp true ts vs ds ps
  | [], [], [], _, _, h, _, _ => h
  | [], [], _ :: _, _, _, h, _, _ => h.elim
  | [], _ :: _, _, _, _, h, _, _ => h.elim
  | _ :: _, [], _, _, _, h, _, _ => h.elim
  | _ :: _, _ :: _, [], _, _, h, _, _ => h.elim
  | t :: ts, v :: vs, d :: ds, ps, hr, h, hlt, hsp => by
    obtain ⟨p, q, h1, h2, rfl⟩ := h
    simp only [rowed, List.all_cons, Bool.and_eq_true, decide_eq_true_iff] at hr
    refine ⟨p, q, ?_, trodAll_below hl hb sp (by simpa [rowed] using hr.2) h2 (fun x hx => hlt x (by simp [hx])) (fun x hx => hsp x (by simp [hx])), rfl⟩
    exact WideElems.Trod_stays hl hr.1.1 hr.1.2 h1 (fun x hx => hb.same (hlt x (by simp [hx]))) (fun x hx => hsp x (by simp [hx]))

/-- THE ROW's END: what was there has not turned, the answer is true, the arguments read as they did. -/
theorem law_post {f : Func} {s : ChangeSpec} {apart fresh handsOn again : Bool} {W W' : World} {args : Array Value} {ds gs : List (DataW H)} {before : List MemPlace} {tb : TypeId}
    (hl : laidOutB P = true) (hrow : rowed P f.params.toList = true) (hres : f.resultTypes = #[tb]) (hbool : P.underlying tb = some .bool) (hvars : s.vars = [])
    (hspec : s.fn H ds = { results := [.lit (.bool true)], args := ds })
    (hW : DataW.Whole enc P f.params.toList s.vars apart W args.toList ds gs before) (hb : Below W.heap.size W W') :
    s.post enc P f apart fresh handsOn again W args (.bool true) W' := by
  have hlt : ∀ p ∈ before, p.block < W.heap.size := fun p hp => hW.lt p hp
  have hold : ∀ p ∈ before, (fun b => decide (b < W.heap.size)) p.block = true := fun p hp => by simpa using hlt p hp
  obtain ⟨p, q, hA, hV, hpq, hfz, hnd⟩ := hW
  have hgs : gs = [] ∧ q = [] := by rw [hvars] at hV; exact trodVars_none hV
  obtain ⟨rfl, rfl⟩ := hgs
  rw [List.append_nil] at hpq
  subst hpq
  have hs2 : (s.fn H (ds ++ [])).results = [.lit (.bool true)] := by rw [List.append_nil, hspec]
  have hs3 : (s.fn H (ds ++ [])).args = ds := by rw [List.append_nil, hspec]
  have hs4 : (s.fn H (ds ++ [])).vars = [] := by rw [List.append_nil, hspec]
  have hargs : ∀ sp : Nat → Bool, (∀ p ∈ before, sp p.block = true) → DataW.TrodAll enc P W' 0 sp true f.params.toList args.toList (s.fn H (ds ++ [])).args before := by
    intro sp hsp
    rw [hs3]
    exact trodAll_below hl hb sp hrow hA hlt hsp
  have hR : ∀ (b : Nat) (sp : Nat → Bool) (hd : Bool), DataW.TrodAll enc P W' b sp hd f.resultTypes.toList ((Value.bool true).resultList f.resultTypes.size) (s.fn H (ds ++ [])).results [] := by
    intro b sp hd
    rw [hs2, hres]
    exact trodAll_mk1 (shut_bool hbool true)
  have hvr : ∀ sp : Nat → Bool, DataW.TrodVars enc P W' sp s.vars (s.fn H (ds ++ [])).vars [] := by
    intro sp; rw [hs4, hvars]; rfl
  have hW0 : DataW.Whole enc P f.params.toList s.vars apart W args.toList ds [] before := ⟨before, [], hA, hV, by simp, hfz, hnd⟩
  refine ⟨ds, [], before, [], before, [], hW0, hR _ _ _, hargs _ hold, hvr _, World.keptBut_mono (fun p hp => ⟨hp, by simpa using hp⟩) (hb.frame (· ∈ before)), fun _ => ?_⟩
  refine ⟨ok_one hres rfl (okWide_bool_mk hbool true), _, _, ([] ++ before) ++ [], ⟨[] ++ before, [], trodAll_append (hargs _ (fun _ _ => rfl)) (hR _ _ _), hvr _, rfl, ?_, ?_⟩, ?_⟩
  · intro b off hp
    have hin : MemPlace.cell b off ∈ before := by simpa using hp
    rw [hb.frozen (hlt _ hin)]
    exact hfz b off hin
  · intro ha
    simpa using hnd ha
  · intro p hp _
    simpa using hp

end
end Go.Proofs.Ytjjjpifdmgpnjaa.Frm

/- How words and texts among the arguments of the laws are opened. -/
namespace Go.Proofs.Ytjjjpifdmgpnjaa
open Go.ChangeShapes Go.WideShapes Go.ChangeAt Go.RowKit Go.Deep

theorem own : ownKnob Try.prog.godebug = none := by kernel_rfl
theorem cells3 : Try.prog.cellsOf 3 = 1 := by kernel_rfl
theorem cells4 : Try.prog.cellsOf 4 = 1 := by kernel_rfl
theorem cells5 : Try.prog.cellsOf 5 = 1 := by kernel_rfl
theorem cells9 : Try.prog.cellsOf 9 = 1 := by kernel_rfl

set_option maxRecDepth 100000 in
theorem open_str {H : Type} {enc : TypeId × Value → H} {W : World} {base : Nat} {sp : Nat → Bool} {v : Value} {d : DataW H} {ps : List MemPlace}
    (hv : Value.okWide Try.prog W .any base 9 v) (h : DataW.Trod enc Try.prog W 0 sp true 9 v d ps) : ∃ s : ByteArray, v = .string s ∧ s.size ≤ maxLen := by
  obtain ⟨s, rfl, _, _, hs⟩ := ChangeMaps.open_string Try.underlying9 hv h
  exact ⟨s, rfl, hs⟩

set_option maxRecDepth 100000 in
theorem open_i64 {H : Type} {enc : TypeId × Value → H} {W : World} {base : Nat} {sp : Nat → Bool} {v : Value} {d : DataW H} {ps : List MemPlace}
    (hv : Value.okWide Try.prog W .any base 3 v) (h : DataW.Trod enc Try.prog W 0 sp true 3 v d ps) : ∃ n : Int, v = .int .i64 n ∧ i64 n := by
  obtain ⟨a, rfl, _, _, wf⟩ := open_int Try.underlying3 hv h
  have hb := bounds_i64 wf
  exact ⟨a, rfl, by omega, by omega⟩

end Go.Proofs.Ytjjjpifdmgpnjaa

/- How the arguments of the laws are opened. -/
namespace Go.Proofs.Ytjjjpifdmgpnjaa
open Go.ChangeShapes Go.WideShapes Go.ChangeAt Go.RowKit Go.Deep Nam Cod Tre

/-- Its numbers are words, its text isn't too long for a machine. -/
def WidePl (p : Pl) : Prop := i64 p.n ∧ i64 p.u ∧ p.s.size ≤ maxLen
theorem add_plain (b o n : Nat) : (⟨b, o, none⟩ : Addr).add n = ⟨b, o + n, none⟩ := Addr.add_lit b o n
theorem long_le {l : List Pl} (h : ∀ p ∈ l, WidePl p) : ∀ p ∈ l, p.s.size ≤ 9223372036854775807 := fun p hp => Nat.le_trans (h p hp).2.2 (by unfold maxLen; omega)
end Go.Proofs.Ytjjjpifdmgpnjaa

/- Rows and slices of structs, whatever the struct: what lies where, what is cut out, what append makes. No function of the program in it. -/
namespace Go.Proofs.Ytjjjpifdmgpnjaa
open Go.RowKit

/-- A kind of element: its type, how many cells it has, and which. -/
structure El (α : Type) where
  e : TypeId
  k : Nat
  c : α → List Value
  len : ∀ x, (c x).length = k
  one : ∀ x, ∀ u ∈ c x, u.oneCell' = true
  pos : 0 < k
section
variable {α : Type} (E : El α)
/-- From the cell o of block b on x lies. -/
def El.At (w : World) (b o : Nat) (x : α) : Prop := ∀ j u, (E.c x)[j]? = some u → w.cell? ⟨b, o + j, none⟩ = some u
/-- The slice at A holds these. -/
def El.Sl (w : World) (A : Option Addr) (l : List α) : Prop :=
  0 < l.length → ∃ b off, A = some ⟨b, off, none⟩ ∧ b < w.heap.size ∧ ∀ i (h : i < l.length), E.At w b (off + i * E.k) l[i]
/-- So, in a block ahead of B. -/
def El.SlB (B : Nat) (w : World) (A : Option Addr) (l : List α) : Prop :=
  0 < l.length → ∃ b off, A = some ⟨b, off, none⟩ ∧ b < B ∧ ∀ i (h : i < l.length), E.At w b (off + i * E.k) l[i]
/-- Block b is x's own. -/
def El.In (w : World) (b : Nat) (x : α) : Prop := w.heap[b]? = some (.cells (E.c x).toArray E.e (0, 0))
variable {E}
section
variable {W w w' : World} {b o B : Nat} {x : α} {A : Option Addr} {l : List α} {row : Option Nat}
theorem El.At.below (h : E.At W b o x) (hb : Below W.heap.size W w) (hl : b < W.heap.size) : E.At w b o x := fun j u hu => by rw [(bcell hb).1 _ _ hl]; exact h j u hu
theorem El.At.grown (h : E.At w b o x) (hg : w.grownBy w' row) (hne : some b ≠ row) : E.At w' b o x := fun j u hu => hg.cell (h j u hu) hne
theorem El.Sl.below (h : E.Sl W A l) (hb : Below W.heap.size W w) : E.Sl w A l := fun h0 => by
  obtain ⟨b, off, e, hl, hc⟩ := h h0
  exact ⟨b, off, e, Nat.lt_of_lt_of_le hl hb.size, fun i hi => (hc i hi).below hb hl⟩
theorem El.Sl.nil (w : World) (A : Option Addr) : E.Sl w A [] := fun h => by simp at h
theorem El.Sl.none_nil (h : E.Sl w none l) : l = [] := by
  rcases Nat.eq_zero_or_pos l.length with h0 | h0
  · exact List.eq_nil_of_length_eq_zero h0
  · obtain ⟨_, _, e, _⟩ := h h0; cases e
theorem El.Sl.take (h : E.Sl w A l) (n : Nat) : E.Sl w A (l.take n) := fun h0 => by
  have hk : (l.take n).length ≤ l.length := by rw [List.length_take]; omega
  obtain ⟨b, off, e, hb, hc⟩ := h (by omega)
  exact ⟨b, off, e, hb, fun i hi => by rw [List.getElem_take]; exact hc i (by omega)⟩
theorem El.Sl.drop {A3 : Option Addr} {cap tz : Nat} (h : E.Sl w A l) (hcap : l.length ≤ cap) (he : (if cap = tz then A else Option.map (fun x => x.add (tz * E.k)) A) = A3) : E.Sl w A3 (l.drop tz) := fun h0 => by
  rw [List.length_drop] at h0
  obtain ⟨b, off, e, hb, hc⟩ := h (by omega)
  rw [if_neg (by omega), e] at he
  refine ⟨b, off + tz * E.k, by rw [← he]; simp [Addr.add_lit], hb, fun i hi => ?_⟩
  rw [List.length_drop] at hi
  rw [List.getElem_drop, Nat.add_assoc, ← Nat.add_mul]
  exact hc _ (by omega)
theorem El.drop_none {A3 : Option Addr} {cap tz n : Nat} (hn : A = none → cap = 0) (he : (if cap = tz then A else Option.map (fun x => x.add n) A) = A3) (h : A3 = none) : cap - tz = 0 := by
  by_cases e : cap = tz
  · omega
  · rw [if_neg e, h, Option.map_eq_none_iff] at he
    have := hn he; omega
theorem El.SlB.of (h : E.Sl w A l) (hB : w.heap.size ≤ B) : E.SlB B w A l := fun h0 => by
  obtain ⟨b, off, e, hl, hc⟩ := h h0
  exact ⟨b, off, e, by omega, hc⟩
theorem El.SlB.sl (h : E.SlB B w A l) (hB : B ≤ w.heap.size) : E.Sl w A l := fun h0 => by
  obtain ⟨b, off, e, hl, hc⟩ := h h0
  exact ⟨b, off, e, by omega, hc⟩
theorem El.SlB.keep (h : E.SlB B w A l) (hg : w.grownBy w' row) (hrow : ∀ n, row = some n → B ≤ n) : E.SlB B w' A l := fun h0 => by
  obtain ⟨b, off, e, hl, hc⟩ := h h0
  exact ⟨b, off, e, hl, fun i hi => (hc i hi).grown hg (fun e => by have := hrow b e.symm; omega)⟩
theorem El.Sl.keep1 {a : Addr} (h : E.Sl w (some a) l) (hg : w.grownBy w' row) (hne : some a.block ≠ row) : E.Sl w' (some a) l := fun h0 => by
  obtain ⟨b, off, e, hl, hc⟩ := h h0
  cases e
  exact ⟨b, off, rfl, Nat.lt_of_lt_of_le hl hg.size, fun i hi => (hc i hi).grown hg hne⟩
theorem El.Sl.keep (h : E.Sl w A l) (hg : w.grownBy w' row) (hne : ∀ a, A = some a → some a.block ≠ row) : E.Sl w' A l := fun h0 => by
  obtain ⟨b, off, e, hl, hc⟩ := h h0
  exact ⟨b, off, e, Nat.lt_of_lt_of_le hl hg.size, fun i hi => (hc i hi).grown hg (hne _ e)⟩

theorem El.In.lt (h : E.In w b x) : b < w.heap.size := by
  rcases Nat.lt_or_ge b w.heap.size with hlt | hge
  · exact hlt
  · unfold El.In at h; rw [Array.getElem?_eq_none hge] at h; cases h
theorem El.In.cell (h : E.In w b x) (j : Nat) : w.cell? ⟨b, j, none⟩ = (E.c x)[j]? := by
  have := cell_of_row w b j _ E.e (0, 0) h
  rw [this]; simp
theorem El.In.at (h : E.In w b x) : E.At w b 0 x := fun j u hu => by rw [Nat.zero_add, h.cell]; exact hu
theorem El.In.frozen (h : E.In w b x) (i : Nat) : w.frozen? ⟨b, i, none⟩ = false := by
  unfold El.In at h
  simp [World.frozen?, h]
theorem El.In.new (w : World) (x : α) (cs : Array Value) (hc : cs = (E.c x).toArray) : E.In (w.alloc (.cells cs E.e)) w.heap.size x := by subst hc; exact heap_alloc_new w _
theorem El.In.below (h : E.In w b x) (hg : Below w.heap.size w w') : E.In w' b x := (hg.block b h.lt).trans h
theorem El.In.keep (h : E.In w b x) (hg : w.grownBy w' row) (hne : some b ≠ row) : E.In w' b x := (hg.block b h.lt hne).trans h
theorem El.In.alloc (h : E.In w b x) (o : Obj) : E.In (w.alloc o) b x := h.below (below_alloc (Below.refl _ _) o)
theorem El.In.set (h : E.In w b x) (y : α) (cs : Array Value) (hc : cs = (E.c y).toArray) : E.In (w.setRow b cs) b y := by subst hc; exact setRow_heap _ _ _ _ _ _ h
theorem El.In.put (h : E.In w b x) (y : α) (j : Nat) (u : Value) (hy : E.c y = (E.c x).set j u) : E.In (w.setCell ⟨b, j, none⟩ u) b y := by
  unfold El.In at h ⊢
  rw [hy]
  simp [World.setCell, Array.getElem?_modify, h]
theorem El.In.other (h : E.In w b x) (n i : Nat) (v : Value) (hne : b ≠ n) : E.In (w.setCell ⟨n, i, none⟩ v) b x :=
  (Below.heap_setCell w ⟨n, i, none⟩ v b hne).trans h
theorem El.In.rowN (h : E.In w b x) (n : Nat) (cs : Array Value) (hne : b ≠ n) : E.In (w.setRow n cs) b x := (setRow_other w n b cs hne).trans h
theorem El.In.sl (h : E.In w b x) : E.Sl w (some ⟨b, 0, none⟩) [x] := fun _ =>
  ⟨b, 0, rfl, h.lt, fun i hi => by
    obtain rfl : i = 0 := by simpa using hi
    rw [Nat.zero_mul]; exact h.at⟩
end

variable (E)
/-- The cells of a list. -/
def El.cells : List α → List Value
  | [] => []
  | x :: l => E.c x ++ El.cells l
variable {E}
theorem El.cells_len : ∀ l : List α, (E.cells l).length = l.length * E.k
  | [] => by simp [El.cells]
  | x :: l => by rw [El.cells, List.length_append, E.len, El.cells_len l, List.length_cons, Nat.succ_mul, Nat.add_comm]
theorem El.cells_app : ∀ l r : List α, E.cells (l ++ r) = E.cells l ++ E.cells r
  | [], r => rfl
  | x :: l, r => by rw [List.cons_append, El.cells, El.cells, El.cells_app l r, List.append_assoc]
theorem El.cells_one : ∀ l : List α, ∀ u ∈ E.cells l, u.oneCell' = true
  | [], u, h => by cases h
  | x :: l, u, h => by
    rcases List.mem_append.1 h with h | h
    · exact E.one x u h
    · exact El.cells_one l u h
theorem El.cells_at : ∀ (l : List α) (i : Nat) (h : i < l.length) (j : Nat) (u : Value), (E.c l[i])[j]? = some u → (E.cells l)[i * E.k + j]? = some u
  | x :: l, 0, _, j, u, hu => by
    rw [Nat.zero_mul, Nat.zero_add, El.cells, List.getElem?_append_left]
    · exact hu
    · have := (List.getElem?_eq_some_iff.1 hu).1; exact this
  | x :: l, i + 1, h, j, u, hu => by
    have := El.cells_at l i (by simpa using h) j u hu
    rw [El.cells, List.getElem?_append_right (by rw [E.len, Nat.succ_mul]; omega), E.len, Nat.succ_mul]
    rw [show i * E.k + E.k + j - E.k = i * E.k + j by omega]; exact this
theorem El.cells_get : ∀ (l : List α) (n : Nat) (u : Value), (E.cells l)[n]? = some u → ∃ i, ∃ h : i < l.length, ∃ j, n = i * E.k + j ∧ (E.c l[i])[j]? = some u
  | [], n, u, h => by simp [El.cells] at h
  | x :: l, n, u, h => by
    rw [El.cells] at h
    by_cases hn : n < E.k
    · rw [List.getElem?_append_left (by rw [E.len]; exact hn)] at h
      exact ⟨0, by simp, n, by rw [Nat.zero_mul, Nat.zero_add], h⟩
    · rw [List.getElem?_append_right (by rw [E.len]; omega), E.len] at h
      obtain ⟨i, hi, j, e, hu⟩ := El.cells_get l (n - E.k) u h
      exact ⟨i + 1, by simpa using hi, j, by rw [Nat.succ_mul]; omega, hu⟩
theorem El.Sl.cells {w : World} {a : Addr} {l : List α} (h : E.Sl w (some a) l) : ∀ j u, (E.cells l)[j]? = some u → w.cell? (a.add j) = some u := by
  intro n u hu
  obtain ⟨i, hi, j, rfl, hc⟩ := El.cells_get l n u hu
  obtain ⟨b, off, e, _, hat⟩ := h (by omega)
  obtain rfl := Option.some.inj e
  rw [Addr.add_lit, ← Nat.add_assoc]
  exact hat i hi j u hc

variable (E)
/-- The slice v holds these, in a row that the call has made. -/
def El.Own (w : World) (B : Nat) (v : Value) (l : List α) : Prop := w.ownsRow B E.e E.k v l.length (E.cells l)
variable {E}
section
variable {w w' : World} {B : Nat} {v : Value} {l : List α} {row : Option Nat}
theorem El.Own.nil (w : World) (B : Nat) : E.Own w B (.slice none 0 0) [] := World.ownsRow_nil w B E.e E.k
theorem El.Own.kept (h : E.Own w B v l) (hg : w.grownBy w' row) (hne : v.ownBlock = none ∨ v.ownBlock ≠ row) : E.Own w' B v l := World.ownsRow.kept h hg hne
theorem El.Own.below (h : E.Own w B v l) (hb : Below w.heap.size w w') : E.Own w' B v l :=
  World.ownsRow.kept h (row := none) ⟨hb.os, hb.tape, hb.output, hb.size, fun k hk _ => hb.block k hk⟩ (by cases hv : v.ownBlock <;> simp)
theorem El.Own.lt (h : E.Own w B v l) : ∀ n, v.ownBlock = some n → B ≤ n ∧ n < w.heap.size := World.ownsRow.lt h
theorem El.Own.rows (h : E.Own w B v l) : ∀ n, v.ownBlock = some n → B ≤ n := fun n e => (World.ownsRow.lt h n e).1
theorem El.Own.sl (h : E.Own w B v l) : ∃ A cap, v = .slice A l.length cap ∧ E.Sl w A l ∧ (A = none → cap = 0) ∧ l.length ≤ cap := by
  have hc := fun g (hg : v.ownBlock = some g) => World.ownsRow.cells h hg
  have hlt := World.ownsRow.lt h
  unfold El.Own at h
  rcases h.2 with ⟨rfl, h0⟩ | ⟨g, cap, cur, rfl, _, _, hnc, _⟩
  · have : l = [] := List.eq_nil_of_length_eq_zero h0
    subst this
    exact ⟨none, 0, rfl, El.Sl.nil w none, fun _ => rfl, Nat.le_refl _⟩
  · refine ⟨some ⟨g, 0, none⟩, cap, rfl, fun _ => ⟨g, 0, rfl, (hlt g rfl).2, fun i hi j u hu => ?_⟩, (fun e => by cases e), hnc⟩
    have := hc g rfl _ _ (El.cells_at l i hi j u hu)
    rw [Addr.add_lit, ← Nat.add_assoc] at this; exact this
theorem El.Own.empty (w : World) (B : Nat) (hB : B ≤ w.heap.size) : E.Own (w.alloc (.cells #[] E.e)) B (.slice (some ⟨w.heap.size, 0, none⟩) 0 0) [] :=
  World.ownsRow_made w #[] 0 hB (by unfold maxLen; omega) (Nat.zero_mul _).symm
end

/-- What a program says of the kind: its slices' type, and the type's zero. -/
structure El.Inn (E : El α) (P : Program) (st : TypeId) : Prop where
  und : P.underlying st = some (.slice E.e)
  info : ∃ i z, P.info? E.e = some i ∧ i.zero = some z ∧ i.size = E.k ∧ i.bytes ≤ 1000 ∧ z.cells.size = E.k
theorem El.inn_of {P : Program} {st : TypeId} {z : Value} {bytes : Nat} (hu : P.underlying st = some (.slice E.e)) (h : (P.info? E.e).map (fun i => (i.zero, i.size, i.bytes)) = some (some z, E.k, bytes)) (hz : z.cells.size = E.k) (hb : bytes ≤ 1000) : E.Inn P st := by
  obtain ⟨i, hi, hz0, hz1, hz2⟩ := info_parts h
  exact ⟨hu, i, z, hi, hz0, hz1, by rw [hz2]; exact hb, hz⟩
variable {P : Program} {st : TypeId}
theorem El.run_app (I : E.Inn P st) (w : World) (ty : TypeId) (B : Nat) (v : Value) (l r : List α) (hown : E.Own w B v l) (A : Option Addr) (m c : Nat) (hm : r.length = m) (hT : E.Sl w A r) (hc : A = none → c = 0) (hl : l.length + r.length ≤ 100000) (hB : B ≤ w.heap.size) :
    ∃ v' w', (Builtin.append_ #[st, st] ty #[v, .slice A m c]).run P w = .ok v' w' ∧ E.Own w' B v' (l ++ r) ∧ w.grownBy w' v.ownBlock ∧ (v'.ownBlock = v.ownBlock ∨ v'.ownBlock = some w.heap.size) := by
  subst hm
  obtain ⟨hu, i, z, hi, hz, hsz, hby, hzs⟩ := I
  cases A with
  | none =>
    obtain rfl := hT.none_nil
    obtain rfl := hc rfl
    refine ⟨v, w, run_append_owned_none (P := P) (w := w) B st ty E.e i E.k hu hi v l.length (E.cells l) hown, ?_, ⟨rfl, rfl, rfl, Nat.le_refl _, fun _ _ _ => rfl⟩, Or.inl rfl⟩
    rw [List.append_nil]; exact hown
  | some a =>
    have hb : (l.length + r.length) * i.bytes ≤ 100000 * 1000 := Nat.mul_le_mul hl hby
    obtain ⟨v', w', h1, h2, h3, _, h5⟩ := run_append_own_at (P := P) w B st ty E.e i z E.k i.bytes hu hi hz hsz rfl hzs E.pos v l.length (E.cells l) hown a r.length c (E.cells r) (El.cells_len r) hT.cells (El.cells_one r) (by unfold maxLen; omega) (by omega) hB
    refine ⟨v', w', h1, ?_, h3, h5⟩
    unfold El.Own
    rw [List.length_append, El.cells_app]; exact h2
theorem El.wp_app (I : E.Inn P st) {o : Oper} {a : Act} {w : World} {K : Act → World → Prop} {Q : Exit → Act → World → Prop} (s x : Operand)
    (ho : o.op = .call { callee := .builtin .append, args := #[s, x], argTypes := #[st, st] }) (B : Nat) (v : Value) (l r : List α) (hs : a.eval s = v) (hown : E.Own w B v l) (A : Option Addr) (m c : Nat) (hx : a.eval x = .slice A m c)
    (hm : r.length = m) (hT : E.Sl w A r) (hc : A = none → c = 0) (hl : l.length + r.length ≤ 100000) (hB : B ≤ w.heap.size)
    (h : ∀ v' w', E.Own w' B v' (l ++ r) → w.grownBy w' v.ownBlock → (v'.ownBlock = v.ownBlock ∨ v'.ownBlock = some w.heap.size) → K (a.put o.dst v') w') : o.wp P a w K Q := by
  obtain ⟨v', w', hr, h2, h3, h4⟩ := El.run_app I w o.type B v l r hown A m c hm hT hc hl hB
  unfold Oper.wp execOp
  simp only [ho, resolve, invoke, builtin, Sem.run_bind, Sem.run_pure, Result.andThen_ok, List.map_toArray, List.map_cons, List.map_nil, hs, hx, hr]
  exact h v' w' h2 h3 h4
theorem El.wpList_app (I : E.Inn P st) {ops : Array Oper} {rest : List Oper} {o : Oper} {a : Act} {w : World} {Q : Exit → Act → World → Prop} (hgd : o.guard = none) (s x : Operand)
    (ho : o.op = .call { callee := .builtin .append, args := #[s, x], argTypes := #[st, st] }) (B : Nat) (v : Value) (l r : List α) (hs : a.eval s = v) (hown : E.Own w B v l) (A : Option Addr) (m c : Nat) (hx : a.eval x = .slice A m c)
    (hm : r.length = m) (hT : E.Sl w A r) (hc : A = none → c = 0) (hl : l.length + r.length ≤ 100000) (hB : B ≤ w.heap.size)
    (h : ∀ v' w', E.Own w' B v' (l ++ r) → w.grownBy w' v.ownBlock → (v'.ownBlock = v.ownBlock ∨ v'.ownBlock = some w.heap.size) → wpList P ops Q rest (a.put o.dst v') w') : wpList P ops Q (o :: rest) a w :=
  wpList_plain hgd fun _ hK => El.wp_app I s x ho B v l r hs hown A m c hx hm hT hc hl hB fun v' w' h2 h3 h4 => hK _ _ (h v' w' h2 h3 h4)
theorem El.step_app (I : E.Inn P st) {ops : Array Oper} {o : Oper} {a : Act} {w : World} {K : Act → World → Prop} {Q : Exit → Act → World → Prop} {F : Prop} (hgd : o.guard = none) (s x : Operand)
    (ho : o.op = .call { callee := .builtin .append, args := #[s, x], argTypes := #[st, st] }) (B : Nat) (v : Value) (l r : List α) (hs : a.eval s = v) (hown : E.Own w B v l) (A : Option Addr) (m c : Nat) (hx : a.eval x = .slice A m c)
    (hm : r.length = m) (hT : E.Sl w A r) (hc : A = none → c = 0) (hl : l.length + r.length ≤ 100000) (hB : B ≤ w.heap.size)
    (h : ∀ v' w', E.Own w' B v' (l ++ r) → w.grownBy w' v.ownBlock → (v'.ownBlock = v.ownBlock ∨ v'.ownBlock = some w.heap.size) → K (a.put o.dst v') w') :
    if Region.wanted o (yielded ops a.tmps) = true then Oper.wp P o a w K Q else F := by
  rw [if_pos (by simp [Region.wanted, hgd])]
  exact El.wp_app I s x ho B v l r hs hown A m c hx hm hT hc hl hB h

/-- What a program says of the kind as a struct. -/
def isRow : TypeDesc → Bool
  | .struct _ => true
  | .array _ _ => true
  | _ => false
structure El.Row (E : El α) (P : Program) : Prop where
  size : (P.info? E.e).map (·.size) = some E.k
  desc : ∃ d, P.underlying E.e = some d ∧ isRow d = true
theorem El.run_load (R : El.Row E P) {w : World} {b off : Nat} {x : α} (h : E.At w b off x) : (loadVar E.e ⟨b, off, none⟩).run P w = .ok (.agg (E.c x).toArray) w := by
  obtain ⟨d, hu, hd⟩ := R.desc
  have hs0 := R.size
  have hl : (loadCells ⟨b, off, none⟩ (E.c x).length).run P w = .ok (E.c x).toArray w :=
    run_loadCells_list (P := P) w ⟨b, off, none⟩ (E.c x) (fun j v hv => by rw [Addr.add_lit]; exact h j v hv)
  cases hq : P.info? E.e with
  | none => simp [hq] at hs0
  | some i =>
    have hs : i.size = (E.c x).length := by rw [E.len]; simpa [hq] using hs0
    have hagg : (isAgg E.e).run P w = .ok true w := by
      unfold isAgg
      rw [Sem.run_bind, run_underlying hu w]
      cases d <;> simp_all [isRow]
    simp [loadVar, Sem.run_bind, hagg, sizeOf, typeInfo, hq, hs, hl]
theorem El.wp_load (R : El.Row E P) {o : Oper} {a : Act} {w : World} {K : Act → World → Prop} {Q : Exit → Act → World → Prop} (x : Operand) (ho : o.op = .load E.e x)
    (b off : Nat) (hx : a.eval x = .pointer (some ⟨b, off, none⟩)) (p : α) (hg : E.At w b off p) (cs : Array Value) (hc : cs = (E.c p).toArray)
    (h : K (a.put o.dst (.agg cs)) w) : o.wp P a w K Q := by
  subst hc
  unfold Oper.wp execOp
  simp only [ho, hx, Instr.loadAt, Instr.sureAddr, Sem.run_bind, Sem.run_pure, Result.andThen_ok, El.run_load R hg]
  exact h
theorem El.load (R : El.Row E P) {ops : Array Oper} {rest : List Oper} {o : Oper} {a : Act} {w : World} {Q : Exit → Act → World → Prop} (hgd : o.guard = none) (x : Operand) (ho : o.op = .load E.e x)
    (b off : Nat) (hx : a.eval x = .pointer (some ⟨b, off, none⟩)) (p : α) (hg : E.At w b off p) (cs : Array Value) (hc : cs = (E.c p).toArray)
    (h : wpList P ops Q rest (a.put o.dst (.agg cs)) w) : wpList P ops Q (o :: rest) a w :=
  wpList_plain hgd fun _ hK => El.wp_load R x ho b off hx p hg cs hc (hK _ _ h)
theorem El.store (R : El.Row E P) {ops : Array Oper} {rest : List Oper} {o : Oper} {a : Act} {w : World} {Q : Exit → Act → World → Prop} (hgd : o.guard = none) (x y : Operand) (ho : o.op = .store E.e x y)
    (b : Nat) (q : α) (cs : Array Value) (hc : cs = (E.c q).toArray) (hx : a.eval x = .pointer (some ⟨b, 0, none⟩)) (hy : a.eval y = .agg cs)
    (p : α) (hg : E.In w b p)
    (h : wpList P ops Q rest (a.put o.dst undef) (w.setRow b cs)) : wpList P ops Q (o :: rest) a w := by
  subst hc
  exact wpList_store_row hgd E.e x y ho b _ hx hy E.e _ hg (by simpa [E.len] using R.size) (by simp [E.len]) (by simpa using E.one q) h
theorem El.step_store (R : El.Row E P) {ops : Array Oper} {o : Oper} {a : Act} {w : World} {K : Act → World → Prop} {Q : Exit → Act → World → Prop} {F : Prop} (hgd : o.guard = none) (x y : Operand) (ho : o.op = .store E.e x y)
    (b : Nat) (q : α) (cs : Array Value) (hc : cs = (E.c q).toArray) (hx : a.eval x = .pointer (some ⟨b, 0, none⟩)) (hy : a.eval y = .agg cs)
    (p : α) (hg : E.In w b p)
    (h : K (a.put o.dst undef) (w.setRow b cs)) : if Region.wanted o (yielded ops a.tmps) = true then Oper.wp P o a w K Q else F := by
  rw [if_pos (by simp [Region.wanted, hgd])]
  subst hc
  exact wp_store_row E.e x y ho b _ hx hy E.e _ hg (by simpa [E.len] using R.size) (by simp [E.len]) (by simpa using E.one q) h
theorem El.step_load (R : El.Row E P) {ops : Array Oper} {o : Oper} {a : Act} {w : World} {K : Act → World → Prop} {Q : Exit → Act → World → Prop} {F : Prop} (hgd : o.guard = none) (x : Operand) (ho : o.op = .load E.e x)
    (b off : Nat) (hx : a.eval x = .pointer (some ⟨b, off, none⟩)) (p : α) (hg : E.At w b off p) (cs : Array Value) (hc : cs = (E.c p).toArray)
    (h : K (a.put o.dst (.agg cs)) w) : if Region.wanted o (yielded ops a.tmps) = true then Oper.wp P o a w K Q else F := by
  rw [if_pos (by simp [Region.wanted, hgd])]
  exact El.wp_load R x ho b off hx p hg cs hc h
/-- One result, a struct of a block. -/
theorem El.ret1 (R : El.Row E P) {fn : Func} {K : Ending → World → Prop} {a : Act} {w : World} {b : Nat} {t : Tmp} {p : α} (h : E.In w b p) (hr : fn.results = #[.cell t E.e]) (hp : a.tmps.getD t undef = .pointer (some ⟨b, 0, none⟩)) (hd : a.defers = [])
    (cs : Array Value) (hc : cs = (E.c p).toArray) (hR : K (.returned (.agg cs)) w) : bodyPost P fn K .ret a w := by
  subst hc
  have hp' : a.tmps[t]?.getD undef = .pointer (some ⟨b, 0, none⟩) := by simpa using hp
  refine bodyPost_ret (v := .agg (E.c p).toArray) ?_ hd hR
  simp [results, hr, hp', asAddr, El.run_load R h.at]
/-- Two results, a struct of a block and a word. -/
theorem El.ret2 (R : El.Row E P) {fn : Func} {K : Ending → World → Prop} {a : Act} {w : World} {b : Nat} {t u : Tmp} {v : Value} {p : α} (h : E.In w b p) (hr : fn.results = #[.cell t E.e, .tmp u]) (hp : a.tmps.getD t undef = .pointer (some ⟨b, 0, none⟩)) (hv : a.tmps.getD u undef = v) (hd : a.defers = [])
    (cs : Array Value) (hc : cs = (E.c p).toArray) (hR : K (.returned (.tuple #[.agg cs, v])) w) : bodyPost P fn K .ret a w := by
  subst hc
  refine bodyPost_ret (v := .tuple #[.agg (E.c p).toArray, v]) ?_ hd hR
  rw [results_cell_tmp hr, hp, hv]
  simp only [asAddr, Sem.run_pure, Result.andThen, El.run_load R h.at]
/-- Two results, a word and a struct of a block. -/
theorem El.ret3 (R : El.Row E P) {fn : Func} {K : Ending → World → Prop} {a : Act} {w : World} {b : Nat} {t u : Tmp} {v : Value} {p : α} (h : E.In w b p) (hr : fn.results = #[.tmp u, .cell t E.e]) (hp : a.tmps.getD t undef = .pointer (some ⟨b, 0, none⟩)) (hv : a.tmps.getD u undef = v) (hd : a.defers = [])
    (cs : Array Value) (hc : cs = (E.c p).toArray) (hR : K (.returned (.tuple #[v, .agg cs])) w) : bodyPost P fn K .ret a w := by
  subst hc
  refine bodyPost_ret (v := .tuple #[v, .agg (E.c p).toArray]) ?_ hd hR
  have hp' : a.tmps[t]?.getD undef = .pointer (some ⟨b, 0, none⟩) := by simpa using hp
  have hv' : a.tmps[u]?.getD undef = v := by simpa using hv
  simp [results, hr, hp', hv', asAddr, El.run_load R h.at]
end
end Go.Proofs.Ytjjjpifdmgpnjaa

/- Slices among the arguments, opened, whatever their elements; bytes as elements. -/
namespace Go.Proofs.Ytjjjpifdmgpnjaa
open Go.ChangeShapes Go.WideShapes Go.ChangeAt Go.RowKit Go.Deep Nam Cod Tre

def byE : El Int where
  e := 5
  k := 1
  c x := [.int .u8 x]
  len _ := rfl
  one p u h := by
    simp only [List.mem_cons, List.not_mem_nil, or_false] at h
    subst h; rfl
  pos := by decide
set_option maxRecDepth 100000 in
theorem open_list {α : Type} (E : El α) (Q : α → Prop) {st : TypeId} (hu : Try.prog.underlying st = some (.slice E.e)) (hk : Try.prog.cellsOf E.e = E.k) [Inhabited α] {H : Type} {enc : TypeId × Value → H} {W : World} {base : Nat} {v : Value} {d : DataW H} {ps : List MemPlace}
    (hrd : ∀ {fuel : Nat} {cs : List Value} {x : DataW H × List MemPlace}, DataW.trod enc Try.prog W 0 (fun _ => true) true fuel E.e cs = some x → ∃ a, cs = E.c a ∧ Q a)
    (hv : Value.okWide Try.prog W .any base st v) (h : DataW.Trod enc Try.prog W 0 (fun _ => true) true st v d ps) :
    ∃ (A : Option Addr) (cap : Nat) (l : List α), v = .slice A l.length cap ∧ E.Sl W A l ∧ l.length ≤ cap ∧ (A = none → cap = 0) ∧ ∀ p ∈ l, Q p := by
  obtain ⟨a0, len, cap, rfl, _⟩ := okWide_slice hu hv
  obtain ⟨fuel, hf⟩ := h
  rcases open_slice hu hf with ⟨hcs, hx⟩ | ⟨a, len', cap', m, n, D, Pls, hcs, _, hle, hm, hmm, hx, hi⟩
  · simp [Value.cells] at hcs
    obtain ⟨rfl, rfl, rfl⟩ := hcs
    exact ⟨none, 0, [], rfl, El.Sl.nil W none, Nat.le_refl _, fun _ => rfl, fun p hp => by cases hp⟩
  · simp [Value.cells] at hcs
    obtain ⟨rfl, rfl, rfl⟩ := hcs
    simp only [if_true] at hmm
    have hv : ∀ i, i < m → ∃ p : α, Q p ∧ W.cells? 0 (a.add (i * E.k)) E.k = some (E.c p) := by
      intro i him
      obtain ⟨cs', h1, h2⟩ := hi i him
      rw [hk] at h1
      obtain ⟨p, rfl, hw⟩ := hrd h2
      exact ⟨p, hw, h1⟩
    obtain ⟨f, hf2⟩ := choose_lt hv
    have hlen : ((List.range len).map f).length = len := by simp
    refine ⟨some a, cap, (List.range len).map f, by rw [hlen], fun h => ?_, by rw [hlen]; exact hle, (fun e => by cases e), fun p hp => ?_⟩
    · rw [hlen] at h
      obtain ⟨bb, off, spot⟩ := a
      have cell : ∀ i, i < len → ∀ j v, (E.c (f i))[j]? = some v → W.cell? (((⟨bb, off, spot⟩ : Addr).add (i * E.k)).add j) = some v := by
        intro i hil j v hv
        obtain ⟨_, _, hcell⟩ := World.cells?_some (hf2 i (by omega)).2
        have hj : j < E.k := by have := (List.getElem?_eq_some_iff.1 hv).1; rw [E.len] at this; exact this
        have := hcell j hj
        rw [this]; exact hv
      have h00 : ∃ v, (E.c (f 0))[0]? = some v := ⟨(E.c (f 0))[0]'(by rw [E.len]; exact E.pos), List.getElem?_eq_getElem _⟩
      obtain ⟨v0, hv0⟩ := h00
      have hspot : spot = none := by
        have := cell 0 h 0 _ hv0
        simpa [Addr.add] using World.cell?_spot this
      subst hspot
      refine ⟨bb, off, rfl, (by have h9 := block_lt_of_cell (cell 0 h 0 _ hv0); rw [add_plain, add_plain] at h9; exact h9), fun i hil => ?_⟩
      have hil' : i < len := by rw [hlen] at hil; exact hil
      have he : ((List.range len).map f)[i] = f i := by simp
      rw [he]
      intro j u hu
      have := cell i hil' j u hu
      rwa [add_plain, add_plain] at this
    · obtain ⟨i, hi2, rfl⟩ := List.mem_map.1 hp
      exact (hf2 i (by have := List.mem_range.1 hi2; omega)).1

set_option maxRecDepth 100000 in
theorem open_bytes {H : Type} {enc : TypeId × Value → H} {W : World} {base : Nat} {v : Value} {d : DataW H} {ps : List MemPlace}
    (hv : Value.okWide Try.prog W .any base 53 v) (h : DataW.Trod enc Try.prog W 0 (fun _ => true) true 53 v d ps) :
    ∃ (A : Option Addr) (cap : Nat) (l : List Int), v = .slice A l.length cap ∧ byE.Sl W A l ∧ l.length ≤ cap ∧ (A = none → cap = 0) ∧ ∀ t ∈ l, 0 ≤ t ∧ t ≤ 255 :=
  open_list byE (fun t => 0 ≤ t ∧ t ≤ 255) Try.underlying53 cells5 (fun h => by
    obtain ⟨x, e, _, wf⟩ := DataW.trod_int Try.underlying5 h
    have hb := bounds_u8 wf
    exact ⟨x, e, by omega, by omega⟩) hv h
set_option maxRecDepth 100000 in
theorem open_u8 {H : Type} {enc : TypeId × Value → H} {W : World} {base : Nat} {sp : Nat → Bool} {v : Value} {d : DataW H} {ps : List MemPlace}
    (hv : Value.okWide Try.prog W .any base 5 v) (h : DataW.Trod enc Try.prog W 0 sp true 5 v d ps) : ∃ t : Int, v = .int .u8 t ∧ 0 ≤ t ∧ t ≤ 255 := by
  obtain ⟨a, rfl, _, _, wf⟩ := open_int Try.underlying5 hv h
  have hb := bounds_u8 wf
  exact ⟨a, rfl, by omega, by omega⟩
/-- A block that is a row of these. -/
theorem El.Sl.row {α : Type} {E : El α} (w : World) (l : List α) (cs : Array Value) (hc : cs = (E.cells l).toArray) : E.Sl (w.alloc (.cells cs E.e)) (some ⟨w.heap.size, 0, none⟩) l := fun _ => by
  subst hc
  refine ⟨w.heap.size, 0, rfl, by rw [alloc_size]; omega, fun i hi j u hu => ?_⟩
  have h := cell_of_row (w.alloc (.cells (E.cells l).toArray E.e)) w.heap.size (i * E.k + j) _ E.e (0, 0) (heap_alloc_new w _)
  rw [show 0 + i * E.k + j = i * E.k + j by omega, h]
  simpa using El.cells_at l i hi j u hu
set_option maxRecDepth 100000 in
/-- A slice among the cells of an argument. -/
theorem open_cells {α : Type} (E : El α) (Q : α → Prop) {st : TypeId} (hu : Try.prog.underlying st = some (.slice E.e)) (hk : Try.prog.cellsOf E.e = E.k) [Inhabited α] {H : Type} {enc : TypeId × Value → H} {W : World} {fuel : Nat} {cs : List Value} {x : DataW H × List MemPlace}
    (hrd : ∀ {fuel : Nat} {cs : List Value} {x : DataW H × List MemPlace}, DataW.trod enc Try.prog W 0 (fun _ => true) true fuel E.e cs = some x → ∃ a, cs = E.c a ∧ Q a)
    (hf : DataW.trod enc Try.prog W 0 (fun _ => true) true fuel st cs = some x) :
    ∃ (A : Option Addr) (cap : Nat) (l : List α), cs = [.slice A l.length cap] ∧ (E.Sl W A l ∧ (A = none → cap = 0) ∧ l.length ≤ cap) ∧ ∀ p ∈ l, Q p := by
  rcases open_slice hu hf with ⟨hcs, hx⟩ | ⟨a, len, cap, m, n, D, Pls, hcs, _, hle, hm, hmm, hx, hi⟩
  · exact ⟨none, 0, [], hcs, ⟨El.Sl.nil W none, fun _ => rfl, Nat.le_refl _⟩, fun p hp => by cases hp⟩
  · simp only [if_true] at hmm
    have hv : ∀ i, i < m → ∃ p : α, Q p ∧ W.cells? 0 (a.add (i * E.k)) E.k = some (E.c p) := by
      intro i him
      obtain ⟨cs', h1, h2⟩ := hi i him
      rw [hk] at h1
      obtain ⟨p, rfl, hw⟩ := hrd h2
      exact ⟨p, hw, h1⟩
    obtain ⟨f, hf2⟩ := choose_lt hv
    have hlen : ((List.range len).map f).length = len := by simp
    refine ⟨some a, cap, (List.range len).map f, by rw [hlen]; exact hcs, ⟨fun h => ?_, (fun e => by cases e), by rw [hlen]; exact hle⟩, fun p hp => ?_⟩
    · rw [hlen] at h
      obtain ⟨bb, off, spot⟩ := a
      have cell : ∀ i, i < len → ∀ j v, (E.c (f i))[j]? = some v → W.cell? (((⟨bb, off, spot⟩ : Addr).add (i * E.k)).add j) = some v := by
        intro i hil j v hv
        obtain ⟨_, _, hcell⟩ := World.cells?_some (hf2 i (by omega)).2
        have hj : j < E.k := by have := (List.getElem?_eq_some_iff.1 hv).1; rw [E.len] at this; exact this
        have := hcell j hj
        rw [this]; exact hv
      have h00 : ∃ v, (E.c (f 0))[0]? = some v := ⟨(E.c (f 0))[0]'(by rw [E.len]; exact E.pos), List.getElem?_eq_getElem _⟩
      obtain ⟨v0, hv0⟩ := h00
      have hspot : spot = none := by
        have := cell 0 h 0 _ hv0
        simpa [Addr.add] using World.cell?_spot this
      subst hspot
      refine ⟨bb, off, rfl, (by have h9 := block_lt_of_cell (cell 0 h 0 _ hv0); rw [add_plain, add_plain] at h9; exact h9), fun i hil => ?_⟩
      have hil' : i < len := by rw [hlen] at hil; exact hil
      have he : ((List.range len).map f)[i] = f i := by simp
      rw [he]
      intro j u hu
      have := cell i hil' j u hu
      rwa [add_plain, add_plain] at this
    · obtain ⟨i, hi2, rfl⟩ := List.mem_map.1 hp
      exact (hf2 i (by have := List.mem_range.1 hi2; omega)).1
end Go.Proofs.Ytjjjpifdmgpnjaa

/- A region that draws its order, whose last operation writes what others of it read: S need not hold behind that one. No function of the program in it. -/
namespace Go.Proofs.Ytjjjpifdmgpnjaa
open Go.RowKit

section
variable {P : Program} {ops : Array Oper} {Q : Exit → Act → World → Prop} {md : Region.Mode} {S : World → Prop} {n : Nat}

/-- Whatever order is picked from here on; S holds behind every operation till number n comes. -/
def anyG (P : Program) (md : Region.Mode) (ops : Array Oper) (Q : Exit → Act → World → Prop) (S : World → Prop) (n : Nat) : Nat → Array Bool → Act → World → Prop
  | 0, listed, a, w => Region.ready md ops listed = [] ∧ Q .normal a w
  | fuel + 1, listed, a, w =>
    (Region.ready md ops listed = [] → Q .normal a w) ∧
    ∀ i ∈ Region.ready md ops listed, wpOp P ops Q i (fun b v => ((listed.setIfInBounds i true).getD n true = false → S v) ∧ anyG P md ops Q S n fuel (listed.setIfInBounds i true) b v) a w
theorem anyG_any : ∀ (fuel : Nat) (listed : Array Bool) (a : Act) (w : World), anyG P md ops Q S n fuel listed a w → wpAny P md ops Q fuel listed a w
  | 0, _, _, _, h => h
  | fuel + 1, _, _, _, h => ⟨h.1, fun i hi => wpOp_mono (fun b v hb => anyG_any fuel _ b v hb.2) (h.2 i hi)⟩
theorem region_anyG {id : Nat} {a : Act} {w : World} (n : Nat) (hm : P.follows .mixedOrders = true) (h : anyG P .any ops Q S n ops.size (Array.replicate ops.size false) a w.drew) : (Code.region id ops true).wp P Q a w :=
  wp_region_any hm (anyG_any _ _ _ _ h)

/-- Number n waits for number i. -/
def waitsB (md : Region.Mode) (ops : Array Oper) (n i : Nat) : Bool := match ops[n]? with
  | none => false
  | some o => o.after.any fun e => Region.binds md e && e.on == i
theorem waits_spec {listed : Array Bool} {i : Nat} (hl : waitsB md ops n i = true) (hr : n ∈ Region.ready md ops listed) : listed.getD i false = true := by
  obtain ⟨_, o, ho, hall⟩ := mem_ready.1 hr
  unfold waitsB at hl
  rw [ho] at hl
  obtain ⟨e, he, hb⟩ := Array.any_eq_true'.1 hl
  rw [Bool.and_eq_true, beq_iff_eq] at hb
  have := hall e he hb.1
  rw [hb.2] at this; exact this
theorem getD_false {listed : Array Bool} {i : Nat} (h : listed.getD i true = false) : listed.getD i false = false := by
  rcases Nat.lt_or_ge i listed.size with h1 | h1
  · simp [h1] at h ⊢; exact h
  · simp [Array.getElem?_eq_none h1] at h
theorem getD_here (listed : Array Bool) (n : Nat) : (listed.setIfInBounds n true).getD n true = true := by
  rcases Nat.lt_or_ge n listed.size with h1 | h1
  · simp [h1]
  · have h2 : (listed.setIfInBounds n true).size ≤ n := by simpa using h1
    simp [Array.getElem?_eq_none h2]

theorem anyG_first {i : Nat} {oi : Oper} {v : Value} (hi : ops[i]? = some oi) (hin : i ≠ n) (hsel : ∀ (j : Nat) (o : Oper) cs b, ops[j]? = some o → o.op ≠ .select cs b)
    (hQ : ∀ c a w, Q (.panic c) (a.put oi.dst v) w → Q (.panic c) a w) (T : World → Prop) (hT : waitsB md ops n i = true ∨ ∀ w, T w) :
    ∀ (fuel : Nat) (listed : Array Bool) (a : Act) (w : World),
      (∀ j oj, ops[j]? = some oj → j ≠ i → listed.getD j true = false → (∀ e ∈ oj.after, Region.binds md e = true → e.on ≠ i) → oi.apart ops oj = true) →
      i ∈ Region.ready md ops listed → YieldsIf P ops T oi v a → T w → (listed.getD n true = false → S w) → ((∀ w, T w) ∨ (listed.getD n true = false ∧ ∀ w, S w → T w)) →
      anyG P md ops Q S n fuel (listed.setIfInBounds i true) (a.put oi.dst v) w → anyG P md ops Q S n (fuel + 1) listed a w := by
  intro fuel
  induction fuel with
  | zero =>
    intro listed a w _ hr hy hTw hS _ H
    refine ⟨fun h => (by rw [h] at hr; cases hr), fun j hj => ?_⟩
    by_cases hji : j = i
    · subst hji; exact hy.wpOp hi hTw ⟨fun h => hS (by rw [getD_set_ne true hin] at h; exact h), H⟩
    · have h0 := ready_mono hj hji
      rw [H.1] at h0
      cases h0
  | succ fuel ih =>
    intro listed a w hfree hr hy hTw hS hTT H
    refine ⟨fun h => (by rw [h] at hr; cases hr), fun j hj => ?_⟩
    by_cases hji : j = i
    · subst hji; exact hy.wpOp hi hTw ⟨fun h => hS (by rw [getD_set_ne true hin] at h; exact h), H⟩
    · have hunf := getD_false (mem_ready.1 hr).1
      have h1 := H.2 j (ready_mono hj hji)
      obtain ⟨hjun, oj, hoj, hall⟩ := mem_ready.1 hj
      have hnot : ∀ e ∈ oj.after, Region.binds md e = true → e.on ≠ i := fun e he hb heq => by
        have h2 := hall e he hb
        rw [heq, hunf] at h2; cases h2
      have h2 := wpOp_putIf hoj (hfree j oj hoj hji hjun hnot) (fun cs b => hsel i oi cs b hi) (fun cs b => hsel j oj cs b hoj) hQ hy h1
      refine wpOp_mono (fun b u h3 => ?_) h2
      have hSu : (listed.setIfInBounds j true).getD n true = false → S u := fun h => h3.2.1 (by
        rw [Array.setIfInBounds_comm _ _ (Ne.symm hji), getD_set_ne true hin]; exact h)
      have hTu : T u ∧ ((∀ w, T w) ∨ ((listed.setIfInBounds j true).getD n true = false ∧ ∀ w, S w → T w)) := by
        rcases hTT with hTT | ⟨hun, hST⟩
        · exact ⟨hTT u, Or.inl hTT⟩
        · by_cases hjn : j = n
          · rcases hT with hT | hT
            · subst hjn
              have h4 := waits_spec hT hj
              rw [hunf] at h4; cases h4
            · exact ⟨hT u, Or.inl hT⟩
          · have hn2 : (listed.setIfInBounds j true).getD n true = false := by rw [getD_set_ne true hjn]; exact hun
            exact ⟨hST u (hSu hn2), Or.inr ⟨hn2, hST⟩⟩
      refine ⟨hSu, ih (listed.setIfInBounds j true) b u (fun k ok hk hki hku hno => hfree k ok hk hki ?_ hno) (ready_mono hr (Ne.symm hji)) h3.1 hTu.1 hSu hTu.2 ?_⟩
      · by_cases hjk : j = k
        · subst hjk; exact hjun
        · rw [getD_set_ne true hjk] at hku; exact hku
      · rw [Array.setIfInBounds_comm _ _ hji]
        exact h3.2.2
/-- What yields in whatever world meets S, and for what number n waits. -/
theorem anyG_take {i : Nat} {oi : Oper} {v : Value} {fuel : Nat} {listed : Array Bool} {a : Act} {w : World} (hi : ops.toList[i]? = some oi)
    (hl : waitsB md ops n i = true) (hin : (i == n || listed.getD n true) = false) (hs : Region.noSelect ops = true) (hf : Region.free md ops listed i = true) (hr : (Region.ready md ops listed).contains i = true)
    (hQ : ∀ c a w, Q (.panic c) (a.put oi.dst v) w → Q (.panic c) a w) (hy : YieldsIf P ops S oi v a) (hS : S w)
    (h : anyG P md ops Q S n fuel (listed.setIfInBounds i true) (a.put oi.dst v) w) : anyG P md ops Q S n (fuel + 1) listed a w := by
  have hi : ops[i]? = some oi := by rw [← Array.getElem?_toList]; exact hi
  rw [Bool.or_eq_false_iff] at hin
  exact anyG_first hi (by simpa using hin.1) (Region.noSelect_spec hs) hQ S (Or.inl hl) fuel listed a w (Region.free_spec hi hf) (by simpa using hr) hy hS (fun _ => hS) (Or.inr ⟨hin.2, fun _ h => h⟩) h
/-- What yields in every world: behind number n, too. -/
theorem anyG_plain {i : Nat} {oi : Oper} {v : Value} {fuel : Nat} {listed : Array Bool} {a : Act} {w : World} (hi : ops.toList[i]? = some oi)
    (hin : (i == n) = false) (hs : Region.noSelect ops = true) (hf : Region.free md ops listed i = true) (hr : (Region.ready md ops listed).contains i = true)
    (hQ : ∀ c a w, Q (.panic c) (a.put oi.dst v) w → Q (.panic c) a w) (hy : Yields P ops oi v a) (hS : listed.getD n true = false → S w)
    (h : anyG P md ops Q S n fuel (listed.setIfInBounds i true) (a.put oi.dst v) w) : anyG P md ops Q S n (fuel + 1) listed a w := by
  have hi : ops[i]? = some oi := by rw [← Array.getElem?_toList]; exact hi
  exact anyG_first hi (by simpa using hin) (Region.noSelect_spec hs) hQ (fun _ => True) (Or.inr fun _ => trivial) fuel listed a w (Region.free_spec hi hf) (by simpa using hr) hy.yieldsIf trivial hS (Or.inl fun _ => trivial) h
theorem anyG_done {listed : Array Bool} {a : Act} {w : World} (hr : Region.ready md ops listed = []) (h : Q .normal a w) : ∀ fuel, anyG P md ops Q S n fuel listed a w
  | 0 => ⟨hr, h⟩
  | _ + 1 => ⟨fun _ => h, by rw [hr]; simp⟩
/-- One of these comes next. -/
def AllG (P : Program) (md : Region.Mode) (ops : Array Oper) (Q : Exit → Act → World → Prop) (S : World → Prop) (n fuel : Nat) (listed : Array Bool) (a : Act) (w : World) (rs : List Nat) : Prop :=
  ∀ i ∈ rs, wpOp P ops Q i (fun b v => ((listed.setIfInBounds i true).getD n true = false → S v) ∧ anyG P md ops Q S n fuel (listed.setIfInBounds i true) b v) a w
theorem anyG_step {rs : List Nat} {fuel : Nat} {listed : Array Bool} {a : Act} {w : World} (hr : Region.ready md ops listed = rs) (hne : rs ≠ []) (h : AllG P md ops Q S n fuel listed a w rs) : anyG P md ops Q S n (fuel + 1) listed a w :=
  ⟨fun h0 => absurd (hr ▸ h0) hne, hr ▸ h⟩
theorem AllG.nil {fuel : Nat} {listed : Array Bool} {a : Act} {w : World} : AllG P md ops Q S n fuel listed a w [] := fun _ h => by cases h
/-- An operation of the middle: S anew. -/
theorem AllG.cons {fuel : Nat} {listed : Array Bool} {a : Act} {w : World} {i : Nat} {o : Oper} {rs : List Nat} (ho : ops.toList[i]? = some o)
    (h : ∀ K : Act → World → Prop, RowKit.Hid (∀ b v, S v → anyG P md ops Q S n fuel (listed.setIfInBounds i true) b v → K b v) → if Region.wanted o (yielded ops a.tmps) = true then Oper.wp P o a w K Q else K (a.put o.dst undef) w)
    (hs : AllG P md ops Q S n fuel listed a w rs) : AllG P md ops Q S n fuel listed a w (i :: rs) := fun j hj => by
  rcases List.mem_cons.1 hj with rfl | hj
  · exact wpOp_step (by rw [← Array.getElem?_toList]; exact ho) (fun K hK => h K (Lib.hid fun b v hS hW => hK b v ⟨fun _ => hS, hW⟩))
  · exact hs j hj
/-- The last one: nothing is asked behind it. -/
theorem AllG.last {fuel : Nat} {listed : Array Bool} {a : Act} {w : World} {o : Oper} (ho : ops.toList[n]? = some o)
    (h : ∀ K : Act → World → Prop, RowKit.Hid (∀ b v, anyG P md ops Q S n fuel (listed.setIfInBounds n true) b v → K b v) → if Region.wanted o (yielded ops a.tmps) = true then Oper.wp P o a w K Q else K (a.put o.dst undef) w) :
    AllG P md ops Q S n fuel listed a w [n] := fun j hj => by
  rw [List.mem_singleton] at hj
  subst hj
  exact wpOp_step (by rw [← Array.getElem?_toList]; exact ho) (fun K hK => h K (Lib.hid fun b v hW => hK b v ⟨fun e => (by rw [getD_here] at e; cases e), hW⟩))
end
end Go.Proofs.Ytjjjpifdmgpnjaa

/- Rows of structs, whatever the struct: made, written at a place, built of one. No function of the program in it. -/
namespace Go.Proofs.Ytjjjpifdmgpnjaa
open Go.RowKit

section
variable {α : Type} {E : El α}
theorem El.cells_take (l : List α) (i : Nat) (h : i ≤ l.length) : E.cells (l.take i) = (E.cells l).take (i * E.k) := by
  have e : E.cells l = E.cells (l.take i) ++ E.cells (l.drop i) := by rw [← El.cells_app, List.take_append_drop]
  have hl : (E.cells (l.take i)).length = i * E.k := by rw [El.cells_len, List.length_take, Nat.min_eq_left h]
  rw [e]; exact (List.take_left' hl).symm
theorem El.cells_drop (l : List α) (i : Nat) (h : i ≤ l.length) : E.cells (l.drop i) = (E.cells l).drop (i * E.k) := by
  have e : E.cells l = E.cells (l.take i) ++ E.cells (l.drop i) := by rw [← El.cells_app, List.take_append_drop]
  have hl : (E.cells (l.take i)).length = i * E.k := by rw [El.cells_len, List.length_take, Nat.min_eq_left h]
  rw [e]; exact (List.drop_left' hl).symm
theorem El.cells_set (l : List α) (i : Nat) (h : i < l.length) (x : α) : E.cells (l.set i x) = (E.cells l).take (i * E.k) ++ E.c x ++ (E.cells l).drop (i * E.k + E.k) := by
  rw [List.set_eq_take_append_cons_drop, if_pos h, El.cells_app, El.cells, El.cells_take l i (by omega), El.cells_drop l (i + 1) h, Nat.succ_mul, List.append_assoc]
theorem El.cells_rep (x : α) : ∀ n, (E.cells (List.replicate n x)).length = n * E.k := fun n => by rw [El.cells_len, List.length_replicate]
theorem El.made (x : α) (z : Array Value) (hz : z.toList = E.c x) (n : Nat) : (madeCells z (n * E.k)).toList = E.cells (List.replicate n x) := by
  have hzs : z.size = E.k := by rw [← Array.length_toList, hz, E.len]
  have hpos := E.pos
  apply List.ext_getElem?
  intro m
  by_cases hm : m < n * E.k
  · have h1 : m / E.k < n := Nat.div_lt_of_lt_mul (by rw [Nat.mul_comm]; exact hm)
    have h2 : m % E.k < E.k := Nat.mod_lt _ hpos
    have hu : (E.c x)[m % E.k]? = some ((E.c x)[m % E.k]'(by rw [E.len]; exact h2)) := List.getElem?_eq_getElem _
    have h3 := El.cells_at (E := E) (List.replicate n x) (m / E.k) (by simpa using h1) (m % E.k) _ (by rw [List.getElem_replicate]; exact hu)
    rw [Nat.mul_comm, Nat.div_add_mod] at h3
    rw [h3]
    simp only [madeCells, Array.getElem?_toList, Array.getElem?_map, Array.getElem?_range, hm, if_true, Option.map_some, hzs]
    congr 1
    simp only [← hz, Array.getElem_toList]
    exact getElem!_pos z _ (by omega)
  · rw [List.getElem?_eq_none (by rw [Array.length_toList, size_madeCells]; omega), List.getElem?_eq_none (by rw [El.cells_rep]; omega)]

variable {P : Program} {st : TypeId}
/-- make([]T, n). -/
theorem El.wp_make (I : E.Inn P st) (x : α) (hx : ∃ i z, P.info? E.e = some i ∧ i.zero = some z ∧ z.cells.toList = E.c x) {o : Oper} {a : Act} {w : World} {K : Act → World → Prop} {Q : Exit → Act → World → Prop} (lx cx : Operand)
    (ho : o.op = .makeSlice st lx cx) (B n c : Nat) (hl : a.eval lx = .int .i64 n) (hc : a.eval cx = .int .i64 c) (hn : c ≤ 100000) (hnc : n ≤ c) (hB : B ≤ w.heap.size)
    (h : ∀ w', E.Own w' B (.slice (some ⟨w.heap.size, 0, none⟩) n c) (List.replicate n x) → w.grownBy w' none → w.heap.size < w'.heap.size → K (a.put o.dst (.slice (some ⟨w.heap.size, 0, none⟩) n c)) w') : o.wp P a w K Q := by
  obtain ⟨hu, i, z, hi, hz, hsz, hby, hzs⟩ := I
  obtain ⟨i', z', hi', hz', hzc⟩ := hx
  rw [hi] at hi'; cases hi'
  rw [hz] at hz'; cases hz'
  have hb : i.bytes * c ≤ 1000 * 100000 := Nat.mul_le_mul hby hn
  have hb' : (i.bytes : Int) * (c : Int) ≤ 281474976710656 := by
    have h : ((i.bytes * c : Nat) : Int) ≤ 281474976710656 := by omega
    rwa [Int.natCast_mul] at h
  have hr := run_make (P := P) w st E.e i z hu hi hz .i64 .i64 n c (by omega) (by omega) hb' (by omega)
  simp only [Int.toNat_natCast] at hr
  unfold Oper.wp execOp
  simp only [ho, hl, hc, Sem.run_bind, Sem.run_pure, Result.andThen_ok, hr]
  refine h _ ⟨by rw [List.length_replicate, El.cells_rep], .inr ⟨w.heap.size, c, _, ?_, hB, heap_alloc_new w _, ?_, by unfold maxLen; omega, ?_, ?_⟩⟩ (World.grownBy_alloc w _ none) (by simp)
  · rw [List.length_replicate]
  · rw [List.length_replicate]; exact hnc
  · rw [size_madeCells, hsz]
  · rw [hsz, El.made x z.cells hzc c, List.length_replicate, ← El.cells_rep (E := E) x n]
    obtain ⟨d, rfl⟩ : ∃ d, c = n + d := ⟨c - n, by omega⟩
    rw [← List.replicate_append_replicate, El.cells_app]
    exact List.take_left
theorem El.wpList_make (I : E.Inn P st) (x : α) (hx : ∃ i z, P.info? E.e = some i ∧ i.zero = some z ∧ z.cells.toList = E.c x) {ops : Array Oper} {rest : List Oper} {o : Oper} {a : Act} {w : World} {Q : Exit → Act → World → Prop} (hgd : o.guard = none) (lx cx : Operand)
    (ho : o.op = .makeSlice st lx cx) (B n c : Nat) (hl : a.eval lx = .int .i64 n) (hc : a.eval cx = .int .i64 c) (hn : c ≤ 100000) (hnc : n ≤ c) (hB : B ≤ w.heap.size)
    (h : ∀ w', E.Own w' B (.slice (some ⟨w.heap.size, 0, none⟩) n c) (List.replicate n x) → w.grownBy w' none → w.heap.size < w'.heap.size → wpList P ops Q rest (a.put o.dst (.slice (some ⟨w.heap.size, 0, none⟩) n c)) w') : wpList P ops Q (o :: rest) a w :=
  wpList_plain hgd fun _ hK => El.wp_make I x hx lx cx ho B n c hl hc hn hnc hB fun w' h1 h2 h3 => hK _ _ (h w' h1 h2 h3)

/-- s[i] = x, in a row of the call's own. -/
theorem El.wp_setAt (R : El.Row E P) {o : Oper} {a : Act} {w : World} {K : Act → World → Prop} {Q : Exit → Act → World → Prop} (x y : Operand) (ho : o.op = .store E.e x y)
    (B g cap i : Nat) (l : List α) (q : α) (hown : E.Own w B (.slice (some ⟨g, 0, none⟩) l.length cap) l) (hi : i < l.length) (cs : Array Value) (hcs : cs = (E.c q).toArray) (hx : a.eval x = .pointer (some ⟨g, i * E.k, none⟩)) (hy : a.eval y = .agg cs)
    (h : ∀ w', E.Own w' B (.slice (some ⟨g, 0, none⟩) l.length cap) (l.set i q) → w.grownBy w' (some g) → w'.heap.size = w.heap.size → K (a.put o.dst undef) w') : o.wp P a w K Q := by
  subst hcs
  unfold El.Own at hown
  rcases hown.2 with ⟨h', _⟩ | ⟨g', cap', cur, h', hb, hg, hnc, hcm, hcsz, htake⟩
  · simp at h'
  · simp only [Value.slice.injEq, Option.some.injEq, Addr.mk.injEq, and_true, true_and] at h'
    obtain ⟨rfl, rfl⟩ := h'
    have hlen := hown.1
    have hik : i * E.k + E.k ≤ l.length * E.k := by rw [← Nat.succ_mul]; exact Nat.mul_le_mul_right _ hi
    have hck : l.length * E.k ≤ cap * E.k := Nat.mul_le_mul_right _ hnc
    have hs := run_storeCells_at (P := P) g (i * E.k) E.e (E.c q) 0 cur w hg (by rw [E.len]; omega) (E.one q)
    have hsz : ((E.c q).toArray).size = E.k := by simp [E.len]
    have hv : (storeVar E.e ⟨g, i * E.k, none⟩ (.agg (E.c q).toArray)).run P w = .ok () (w.setRow g (cur.toList.take (i * E.k) ++ E.c q ++ cur.toList.drop (i * E.k + E.k)).toArray) := by
      have hR := R.size
      cases hq : P.info? E.e with
      | none => simp [hq] at hR
      | some inf =>
        have hinf : inf.size = E.k := by simpa [hq] using hR
        simp only [Nat.add_zero, E.len] at hs
        simp [storeVar, sizeOf, typeInfo, hq, Value.cells, hinf, E.len, hs]
    unfold Oper.wp execOp
    simp only [ho, hx, hy, Instr.storeAt, Instr.sureAddr, Sem.run_bind, Sem.run_pure, Result.andThen_ok, hv]
    refine h _ ⟨by rw [List.length_set, El.cells_len, List.length_set], .inr ⟨g, cap, _, by rw [List.length_set], hb, setRow_heap w g cur _ E.e (0, 0) hg, by rw [List.length_set]; exact hnc, hcm, ?_, ?_⟩⟩ ⟨rfl, rfl, rfl, by simp, fun k _ hk => setRow_other w g k _ (fun e => hk (by simp [e]))⟩ (by simp)
    · simp only [List.size_toArray, List.length_append, List.length_take, List.length_drop, Array.length_toList, E.len]; omega
    · rw [List.length_set, El.cells_set l i hi q, ← htake]
      have hcl : cur.toList.length = cap * E.k := by rw [Array.length_toList, hcsz]
      generalize cur.toList = C at *
      simp only [List.toList_toArray]
      rw [List.take_take, Nat.min_eq_left (by omega), List.drop_take]
      have e1 : (C.take (i * E.k)).length = i * E.k := by rw [List.length_take]; omega
      have e2 : (C.take (i * E.k) ++ E.c q).length = i * E.k + E.k := by rw [List.length_append, e1, E.len]
      rw [List.take_append (l₁ := C.take (i * E.k) ++ E.c q), e2, List.take_of_length_le (by omega : (C.take (i * E.k) ++ E.c q).length ≤ l.length * E.k)]
theorem El.wpList_setAt (R : El.Row E P) {ops : Array Oper} {rest : List Oper} {o : Oper} {a : Act} {w : World} {Q : Exit → Act → World → Prop} (hgd : o.guard = none) (x y : Operand) (ho : o.op = .store E.e x y)
    (B g cap i : Nat) (l : List α) (q : α) (hown : E.Own w B (.slice (some ⟨g, 0, none⟩) l.length cap) l) (hi : i < l.length) (cs : Array Value) (hcs : cs = (E.c q).toArray) (hx : a.eval x = .pointer (some ⟨g, i * E.k, none⟩)) (hy : a.eval y = .agg cs)
    (h : ∀ w', E.Own w' B (.slice (some ⟨g, 0, none⟩) l.length cap) (l.set i q) → w.grownBy w' (some g) → w'.heap.size = w.heap.size → wpList P ops Q rest (a.put o.dst undef) w') : wpList P ops Q (o :: rest) a w :=
  wpList_plain hgd fun _ hK => El.wp_setAt R x y ho B g cap i l q hown hi cs hcs hx hy fun w' h1 h2 h3 => hK _ _ (h w' h1 h2 h3)
end
end Go.Proofs.Ytjjjpifdmgpnjaa

/- A list of places of the call's own: what append makes of it. Grow and Concat of the library. -/
namespace Go.Proofs.Ytjjjpifdmgpnjaa
open Go.RowKit Tre

def plCells : List Pl → List Value
  | [] => []
  | p :: l => .int .i64 p.n :: .int .i64 p.u :: .string p.s :: plCells l
theorem plCells_len : ∀ l, (plCells l).length = l.length * 3
  | [] => rfl
  | p :: l => by simp only [plCells, List.length_cons, plCells_len l]; omega
theorem plCells_app : ∀ l r, plCells (l ++ r) = plCells l ++ plCells r
  | [], r => rfl
  | p :: l, r => by simp only [plCells, List.cons_append, plCells_app l r]
theorem plCells_one : ∀ (l : List Pl), ∀ u ∈ plCells l, u.oneCell' = true
  | [], u, h => by cases h
  | p :: l, u, h => by
    simp only [plCells, List.mem_cons] at h
    rcases h with rfl | rfl | rfl | h
    · rfl
    · rfl
    · rfl
    · exact plCells_one l u h
theorem plCells_at : ∀ (l : List Pl) (i : Nat) (h : i < l.length), (plCells l)[i * 3]? = some (.int .i64 l[i].n) ∧ (plCells l)[i * 3 + 1]? = some (.int .i64 l[i].u) ∧ (plCells l)[i * 3 + 2]? = some (.string l[i].s)
  | p :: l, 0, _ => ⟨rfl, rfl, rfl⟩
  | p :: l, i + 1, h => by
    have := plCells_at l i (by simpa using h)
    rw [show (i + 1) * 3 = i * 3 + 3 by omega]
    exact this
theorem plCells_get : ∀ (l : List Pl) (j : Nat) (u : Value), (plCells l)[j]? = some u → ∃ i, ∃ h : i < l.length, (j = i * 3 ∧ u = .int .i64 l[i].n) ∨ (j = i * 3 + 1 ∧ u = .int .i64 l[i].u) ∨ (j = i * 3 + 2 ∧ u = .string l[i].s)
  | [], j, u, h => by simp [plCells] at h
  | p :: l, 0, u, h => ⟨0, by simp, Or.inl ⟨rfl, by simpa [plCells] using h.symm⟩⟩
  | p :: l, 1, u, h => ⟨0, by simp, Or.inr (Or.inl ⟨rfl, by simpa [plCells] using h.symm⟩)⟩
  | p :: l, 2, u, h => ⟨0, by simp, Or.inr (Or.inr ⟨rfl, by simpa [plCells] using h.symm⟩)⟩
  | p :: l, j + 3, u, h => by
    obtain ⟨i, hi, hc⟩ := plCells_get l j u h
    refine ⟨i + 1, by simpa using hi, ?_⟩
    rcases hc with ⟨e, hu⟩ | ⟨e, hu⟩ | ⟨e, hu⟩
    · exact Or.inl ⟨by omega, by simpa using hu⟩
    · exact Or.inr (Or.inl ⟨by omega, by simpa using hu⟩)
    · exact Or.inr (Or.inr ⟨by omega, by simpa using hu⟩)

theorem add_lit (b o j : Nat) : (⟨b, o, none⟩ : Addr).add j = ⟨b, o + j, none⟩ := Addr.add_lit b o j
/-- It lies from B on. -/
def Frs (B : Nat) (A : Option Addr) : Prop := ∀ a, A = some a → B ≤ a.block
theorem Frs.mono {B B' : Nat} {A : Option Addr} (h : Frs B A) (hB : B' ≤ B) : Frs B' A := fun a e => Nat.le_trans hB (h a e)
theorem Tr.cells {w : World} {a : Addr} {l : List Pl} (h : Tr w (some a) l) : ∀ j u, (plCells l)[j]? = some u → w.cell? (a.add j) = some u := by
  intro j u hu
  obtain ⟨i, hi, hc⟩ := plCells_get l j u hu
  obtain ⟨b, off, e, _, hat⟩ := h (by omega)
  obtain rfl := Option.some.inj e
  obtain ⟨a0, a1, a2⟩ := hat i hi
  rw [add_lit]
  rcases hc with ⟨rfl, rfl⟩ | ⟨rfl, rfl⟩ | ⟨rfl, rfl⟩
  · exact a0
  · exact a1
  · exact a2
theorem Tr.none_nil {w : World} {l : List Pl} (h : Tr w none l) : l = [] := by
  rcases Nat.eq_zero_or_pos l.length with h0 | h0
  · exact List.eq_nil_of_length_eq_zero h0
  · obtain ⟨_, _, e, _⟩ := h h0; cases e

end Go.Proofs.Ytjjjpifdmgpnjaa

/- Concat of the library; Put and Drop of the program. -/
namespace Go.Proofs.Ytjjjpifdmgpnjaa
open Go.RowKit Tre

def catP (F : Nat → List Pl) : Nat → List Pl
  | 0 => []
  | k + 1 => catP F k ++ F k
theorem catP_le (F : Nat → List Pl) (k : Nat) : ∀ n, k ≤ n → (catP F k).length ≤ (catP F n).length
  | 0, h => by obtain rfl : k = 0 := by omega
               exact Nat.le_refl _
  | n + 1, h => by
    by_cases e : k = n + 1
    · subst e; exact Nat.le_refl _
    · have := catP_le F k n (by omega)
      rw [catP, List.length_append]; omega

end Go.Proofs.Ytjjjpifdmgpnjaa

/- Put and Drop of the program. -/
namespace Go.Proofs.Ytjjjpifdmgpnjaa
open Go.RowKit Tre

theorem behind_le (l : List Pl) (b : Int) : idx l b ≤ behind l b ∧ behind l b ≤ l.length := by
  unfold behind
  have h := idx_le l b
  split
  · rename_i hi
    rcases hg : Tre.get l b with _ | p
    · rw [hg] at hi; cases hi
    · obtain ⟨_, _, h1, _⟩ := get_some hg; omega
  · omega

def partsF (l : List Pl) (ix tz : Nat) (m : List Pl) : Nat → List Pl
  | 0 => l.take ix
  | 1 => m
  | _ => l.drop tz
theorem parts_cat (l : List Pl) (ix tz : Nat) (m : List Pl) : catP (partsF l ix tz m) 3 = (l.take ix ++ m) ++ l.drop tz := by
  show ((([] ++ l.take ix) ++ m) ++ l.drop tz) = _
  rw [List.nil_append]

theorem Tr.take {w : World} {A : Option Addr} {l : List Pl} (h : Tr w A l) (k : Nat) : Tr w A (l.take k) := fun h0 => by
  have hk : (l.take k).length ≤ l.length := by rw [List.length_take]; omega
  obtain ⟨b, off, e, hb, hc⟩ := h (by omega)
  exact ⟨b, off, e, hb, fun i hi => by rw [List.getElem_take]; exact hc i (by omega)⟩
theorem Tr.drop {w : World} {A A3 : Option Addr} {l : List Pl} {cap tz : Nat} (h : Tr w A l) (hcap : l.length ≤ cap) (he : (if cap = tz then A else Option.map (fun x => x.add (tz * 3)) A) = A3) : Tr w A3 (l.drop tz) := fun h0 => by
  rw [List.length_drop] at h0
  obtain ⟨b, off, e, hb, hc⟩ := h (by omega)
  rw [if_neg (by omega), e] at he
  refine ⟨b, off + tz * 3, by rw [← he]; simp [add_lit], hb, fun i hi => ?_⟩
  rw [List.length_drop] at hi
  rw [List.getElem_drop, show off + tz * 3 + i * 3 = off + (tz + i) * 3 by omega]
  exact hc _ (by omega)
theorem drop_none {A A3 : Option Addr} {cap tz : Nat} (hn : A = none → cap = 0) (he : (if cap = tz then A else Option.map (fun x => x.add (tz * 3)) A) = A3) (h : A3 = none) : cap - tz = 0 := by
  by_cases e : cap = tz
  · omega
  · rw [if_neg e, h, Option.map_eq_none_iff] at he
    have := hn he; omega

end Go.Proofs.Ytjjjpifdmgpnjaa

/- Put and Drop of the document. -/
namespace Go.Proofs.Ytjjjpifdmgpnjaa
open Go.RowKit Tre

/-- The slice at A holds these places, in a block ahead of B. -/
def TrB (B : Nat) (w : World) (A : Option Addr) (l : List Pl) : Prop :=
  0 < l.length → ∃ b off, A = some ⟨b, off, none⟩ ∧ b < B ∧ ∀ i (h : i < l.length), AtPl w b (off + i * 3) l[i]
theorem TrB.of {B : Nat} {w : World} {A : Option Addr} {l : List Pl} (h : Tr w A l) (hB : w.heap.size ≤ B) : TrB B w A l := fun h0 => by
  obtain ⟨b, off, e, hl, hc⟩ := h h0
  exact ⟨b, off, e, by omega, hc⟩
theorem TrB.tr {B : Nat} {w : World} {A : Option Addr} {l : List Pl} (h : TrB B w A l) (hB : B ≤ w.heap.size) : Tr w A l := fun h0 => by
  obtain ⟨b, off, e, hl, hc⟩ := h h0
  exact ⟨b, off, e, by omega, hc⟩
theorem AtPl.grown {w w' : World} {b o : Nat} {p : Pl} {row : Option Nat} (h : AtPl w b o p) (hg : w.grownBy w' row) (hne : some b ≠ row) : AtPl w' b o p :=
  ⟨hg.cell h.1 hne, hg.cell h.2.1 hne, hg.cell h.2.2 hne⟩
theorem TrB.keep {B : Nat} {w w' : World} {A : Option Addr} {l : List Pl} {row : Option Nat} (h : TrB B w A l) (hg : w.grownBy w' row) (hrow : ∀ k, row = some k → B ≤ k) : TrB B w' A l := fun h0 => by
  obtain ⟨b, off, e, hl, hc⟩ := h h0
  exact ⟨b, off, e, hl, fun i hi => (hc i hi).grown hg (fun e => by have := hrow b e.symm; omega)⟩
theorem TrB.alloc {B : Nat} {w : World} {A : Option Addr} {l : List Pl} (h : TrB B w A l) (hB : B ≤ w.heap.size) (o : Obj) : TrB B (w.alloc o) A l :=
  h.keep (World.grownBy_alloc w o none) (fun k e => by cases e)
theorem Tr.keep1 {w w' : World} {a : Addr} {l : List Pl} {row : Option Nat} (h : Tr w (some a) l) (hg : w.grownBy w' row) (hne : some a.block ≠ row) : Tr w' (some a) l := fun h0 => by
  obtain ⟨b, off, e, hl, hc⟩ := h h0
  cases e
  exact ⟨b, off, rfl, Nat.lt_of_lt_of_le hl hg.size, fun i hi => (hc i hi).grown hg hne⟩

theorem dropL_none {l : List Pl} {b : Int} (h : (Tre.get l b).isSome = false) : dropL l b = l := by
  unfold dropL placedL behind
  rw [h, List.append_nil]
  exact List.take_append_drop _ _

end Go.Proofs.Ytjjjpifdmgpnjaa

/- Floats that hold whole numbers: their words read back as these numbers; sums, differences, comparisons and conversions of them are those of the numbers. Conditions: the numbers are below 2^53. -/
namespace Go.Proofs.Ytjjjpifdmgpnjaa.Flo
open Ieee

theorem shl (m k : Nat) : m <<< k = m * 2 ^ k := Nat.shiftLeft_eq m k

theorem signed_eq (s : Bool) (m k : Nat) : signed s m k = (if s then -1 else 1) * ((m : Int) * 2 ^ k) := by
  unfold signed
  cases s <;> simp [shl]

theorem signed_add (s : Bool) (m a k : Nat) : signed s m (a + k) = signed s m a * 2 ^ k := by
  rw [signed_eq, signed_eq, Int.pow_add, ← Int.mul_assoc (m : Int), ← Int.mul_assoc]

theorem cmp_scale (a b : Int) (k : Nat) : compare (a * 2 ^ k) (b * 2 ^ k) = compare a b := by
  have h : (0 : Int) < 2 ^ k := Int.pow_pos (by decide)
  have h1 : a * 2 ^ k < b * 2 ^ k ↔ a < b := Int.mul_lt_mul_right h
  have h2 : a * 2 ^ k = b * 2 ^ k ↔ a = b := Int.mul_eq_mul_right_iff (by omega)
  simp only [compare, compareOfLessAndEq, h1, h2]

theorem dbl_frac : double.fractionBits = 52 := rfl
theorem dbl_least : double.leastPlace = -1074 := by decide
theorem dbl_bin : double.binade = 4503599627370496 := by decide
theorem dbl_inf : double.infRung = 9218868437227405312 := by decide
theorem dbl_sign : double.signWeight = 9223372036854775808 := by decide

theorem read_word (neg : Bool) (r : Nat) (h : r < 9218868437227405312) : double.read (double.word neg r) =
    if r < 4503599627370496 then .number neg r (-1074)
    else .number neg (4503599627370496 + r % 4503599627370496) (-1074 + ((r / 4503599627370496 - 1 : Nat) : Int)) := by
  have e1 : (double.word neg r) % 9223372036854775808 = r := by
    unfold Format.word; rw [dbl_sign]; split <;> omega
  have e2 : ((double.word neg r) / 9223372036854775808 % 2 == 1) = neg := by
    unfold Format.word; rw [dbl_sign]
    cases neg
    · have : r / 9223372036854775808 = 0 := by omega
      simp [this]
    · have : (9223372036854775808 + r) / 9223372036854775808 = 1 := by omega
      simp [this]
  unfold Format.read
  simp only [dbl_sign, dbl_bin, dbl_inf, dbl_least, e1, e2, h, if_true]

theorem log2_mul_pow (c k : Nat) (h : 0 < c) : (c * 2 ^ k).log2 = c.log2 + k := by
  have hp : 0 < 2 ^ k := Nat.two_pow_pos k
  have hc : c ≠ 0 := by omega
  have hne : c * 2 ^ k ≠ 0 := Nat.mul_ne_zero hc (by omega)
  apply (Nat.log2_eq_iff hne).2
  have a := Nat.log2_self_le hc
  have b := Nat.lt_log2_self (n := c)
  constructor
  · rw [Nat.pow_add]; exact Nat.mul_le_mul_right _ a
  · rw [Nat.add_right_comm, Nat.pow_add]; exact (Nat.mul_lt_mul_right hp).2 b

/-- A cut that drops nothing but noughts. -/
theorem cut_even (neg : Bool) (c k d : Nat) (hd : d ≤ k) (hc : 0 < c) : Toward.even.cut neg (c * 2 ^ k) d = c * 2 ^ (k - d) := by
  have hl := log2_mul_pow c k hc
  have hm : min d ((c * 2 ^ k).log2 + 2) = d := by rw [hl]; omega
  have hk : c * 2 ^ k = (c * 2 ^ (k - d)) * 2 ^ d := by rw [Nat.mul_assoc, ← Nat.pow_add]; congr 2; omega
  have hp : 0 < 2 ^ d := Nat.two_pow_pos d
  unfold Toward.cut
  simp only [hm, shl, Nat.one_mul]
  rw [hk, Nat.mul_mod_left, Nat.mul_div_cancel _ hp]
  simp

theorem nearest_scale (neg : Bool) (c k : Nat) (place : Int) (hc : 0 < c) (hb : c < 2 ^ 53) (hp : -1074 ≤ place + k) :
    double.nearest neg (c * 2 ^ k) place =
      double.word neg (min ((max (place + k + c.log2 - 52) (-1074) + 1074).toNat * 4503599627370496 + c * 2 ^ (place + k - max (place + k + c.log2 - 52) (-1074)).toNat) 9218868437227405312) := by
  have hne : ¬ c * 2 ^ k = 0 := by have := Nat.two_pow_pos k; exact Nat.mul_ne_zero (by omega) (by omega)
  have hlc : c.log2 ≤ 52 := by
    have := (Nat.log2_lt (n := c) (k := 53) (by omega)).2 hb; omega
  unfold Format.nearest
  rw [if_neg hne]
  simp only [log2_mul_pow c k hc, dbl_frac, dbl_least, dbl_bin, dbl_inf]
  have e : place + ((c.log2 + k : Nat) : Int) - ((52 : Nat) : Int) = place + k + c.log2 - 52 := by omega
  rw [e]
  generalize hL : max (place + k + c.log2 - 52) (-1074) = last
  have hle : last ≤ place + k := by omega
  by_cases hpl : last ≤ place
  · have e0 : (last - place).toNat = 0 := by omega
    have e1 : (place + k - last).toNat = k + (place - last).toNat := by omega
    rw [e0, shl, Nat.mul_assoc, ← Nat.pow_add, cut_even neg c _ 0 (by omega) hc, e1, Nat.sub_zero, Int.sub_neg]
  · have e0 : (place - last).toNat = 0 := by omega
    have e1 : (place + k - last).toNat = k - (last - place).toNat := by omega
    rw [e0, shl, Nat.pow_zero, Nat.mul_one, cut_even neg c k _ (by omega) hc, e1, Int.sub_neg]

theorem pow_up (c d : Nat) (hc : c < 2 ^ (c.log2 + 1)) (h : c.log2 + d ≤ 52) : c * 2 ^ d < 9007199254740992 := by
  have h1 : c * 2 ^ d < 2 ^ (c.log2 + 1) * 2 ^ d := (Nat.mul_lt_mul_right (Nat.two_pow_pos _)).2 hc
  rw [← Nat.pow_add] at h1
  have h2 : 2 ^ (c.log2 + 1 + d) ≤ 2 ^ 53 := Nat.pow_le_pow_right (by decide) (by omega)
  exact Nat.lt_of_lt_of_le h1 h2

theorem pow_lo (c d : Nat) (hc : 2 ^ c.log2 ≤ c) (h : 52 ≤ c.log2 + d) : 4503599627370496 ≤ c * 2 ^ d := by
  have h1 : 2 ^ c.log2 * 2 ^ d ≤ c * 2 ^ d := Nat.mul_le_mul_right _ hc
  rw [← Nat.pow_add] at h1
  have h2 : 2 ^ 52 ≤ 2 ^ (c.log2 + d) := Nat.pow_le_pow_right (by decide) h
  exact Nat.le_trans h2 h1

theorem read_rung (neg : Bool) (q K : Nat) (hq : q ≤ 2000) (up : K < 9007199254740992) (lo : q = 0 ∨ 4503599627370496 ≤ K) :
    ∃ m e, double.read (double.word neg (min (q * 4503599627370496 + K) 9218868437227405312)) = .number neg m e ∧ -1074 ≤ e ∧ e ≤ -1074 + q ∧ m * 2 ^ (e + 1074).toNat = K * 2 ^ q := by
  have hmin : min (q * 4503599627370496 + K) 9218868437227405312 = q * 4503599627370496 + K := Nat.min_eq_left (by omega)
  rw [hmin, read_word neg _ (by omega)]
  by_cases hk : q * 4503599627370496 + K < 4503599627370496
  · rw [if_pos hk]
    have h0 : q = 0 := by omega
    have h1 : q * 4503599627370496 + K = K := by omega
    rw [h1]
    exact ⟨K, -1074, rfl, Int.le_refl _, by omega, by rw [h0]; rfl⟩
  · rw [if_neg hk]
    have e2 : 4503599627370496 + (q * 4503599627370496 + K) % 4503599627370496 = K := by omega
    have e1 : (q * 4503599627370496 + K) / 4503599627370496 - 1 = q := by omega
    rw [e1, e2]
    exact ⟨K, -1074 + q, rfl, by omega, Int.le_refl _, by rw [show ((-1074 : Int) + q + 1074).toNat = q by omega]⟩

theorem read_nearest (neg : Bool) (c k : Nat) (place : Int) (hc : 0 < c) (hb : c < 2 ^ 53) (hp : -1074 ≤ place + k) (hu : place + k ≤ 900) :
    ∃ m e, double.read (double.nearest neg (c * 2 ^ k) place) = .number neg m e ∧ -1074 ≤ e ∧ e ≤ max (place + k + c.log2 - 52) (-1074) ∧ m * 2 ^ (e + 1074).toNat = c * 2 ^ (place + k + 1074).toNat := by
  rw [nearest_scale neg c k place hc hb hp]
  have hlc : c.log2 ≤ 52 := by
    have := (Nat.log2_lt (n := c) (k := 53) (by omega)).2 hb; omega
  generalize place + k = P at *
  have hc0 : c ≠ 0 := by omega
  have a := Nat.log2_self_le hc0
  have b := Nat.lt_log2_self (n := c)
  generalize hL : max (P + c.log2 - 52) (-1074) = last
  obtain ⟨q, hq⟩ : ∃ q : Nat, last = -1074 + q := ⟨(last + 1074).toNat, by omega⟩
  have hq4 : (last + 1074).toNat = q := by omega
  rw [hq4]
  obtain ⟨m, e, h1, h2, h3, h4⟩ := read_rung neg q (c * 2 ^ (P - last).toNat) (by omega) (pow_up c _ b (by omega))
    (by by_cases h : q = 0
        · exact Or.inl h
        · exact Or.inr (pow_lo c _ a (by omega)))
  refine ⟨m, e, h1, h2, by omega, ?_⟩
  rw [h4, Nat.mul_assoc, ← Nat.pow_add]
  congr 2; omega

/-- One, in units of 2^-1074. -/
def U : Int := 2 ^ 1074
theorem U_split (g : Int) (h0 : g ≤ 0) (h1 : -1074 ≤ g) : U = 2 ^ (-g).toNat * 2 ^ (g + 1074).toNat := by
  unfold U; rw [← Int.pow_add]; congr 1; omega
theorem U_pos : 0 < U := Int.pow_pos (by decide)
theorem cmp_U (a b : Int) : compare (a * U) (b * U) = compare a b := cmp_scale a b 1074
theorem nat_pow (n k : Nat) : ((n * 2 ^ k : Nat) : Int) = n * 2 ^ k := by rw [Int.natCast_mul, Int.natCast_pow]; rfl
theorem U_nat (n : Nat) : ((n * 2 ^ 1074 : Nat) : Int) = n * U := nat_pow n 1074
theorem mul_pow_add (m k b : Nat) : (m : Int) * 2 ^ (k + b) = ((m * 2 ^ k : Nat) : Int) * 2 ^ b := by rw [nat_pow, Int.pow_add, Int.mul_assoc]
theorem U_mul (m k : Nat) : (m : Int) * 2 ^ (k + 1074) = ((m * 2 ^ k : Nat) : Int) * U := mul_pow_add m k 1074
attribute [irreducible] U

/-- The word x is the float of the whole number n. -/
def IsInt (x : Nat) (n : Int) : Prop := ∃ s m e, double.read x = .number s m e ∧ -1074 ≤ e ∧ e ≤ 0 ∧ signed s m (e + 1074).toNat = n * U

/-- The word x is a number of value v, in units of 2^-1074. -/
def Val (x : Nat) (v : Int) : Prop := ∃ s m e, double.read x = .number s m e ∧ -1074 ≤ e ∧ signed s m (e + 1074).toNat = v

theorem IsInt.val {x : Nat} {n : Int} (h : IsInt x n) : Val x (n * U) := by
  obtain ⟨s, m, e, h1, h2, _, h4⟩ := h; exact ⟨s, m, e, h1, h2, h4⟩

theorem order_val {x y : Nat} {a b : Int} (hx : Val x a) (hy : Val y b) : double.order x y = some (compare a b) := by
  obtain ⟨s, m, i, h1, h2, rfl⟩ := hx
  obtain ⟨t, n, j, k1, k2, rfl⟩ := hy
  unfold Format.order
  rw [h1, k1]
  simp only [Datum.order]
  have e1 : (i + 1074).toNat = (i - min i j).toNat + (min i j + 1074).toNat := by omega
  have e2 : (j + 1074).toNat = (j - min i j).toNat + (min i j + 1074).toNat := by omega
  rw [e1, e2, signed_add, signed_add, cmp_scale]

theorem order_int {x y : Nat} {a b : Int} (hx : IsInt x a) (hy : IsInt y b) : double.order x y = some (compare a b) := by
  rw [order_val hx.val hy.val, cmp_U]

theorem isInt_nearest (neg : Bool) (c k : Nat) (place : Int) (hb : c < 2 ^ 53) (hp : place + k = 0) (hz : c = 0 → neg = neg) :
    IsInt (double.nearest neg (c * 2 ^ k) place) (if neg then -(c : Int) else c) := by
  by_cases hc : c = 0
  · subst hc
    have : double.nearest neg (0 * 2 ^ k) place = double.word neg 0 := by unfold Format.nearest; simp
    rw [this]
    refine ⟨neg, 0, -1074, ?_, by omega, by omega, ?_⟩
    · rw [read_word neg 0 (by decide)]; simp
    · rw [signed_eq]; cases neg <;> simp
  · obtain ⟨m, e, h1, h2, h3, h4⟩ := read_nearest neg c k place (by omega) hb (by omega) (by omega)
    have hlc : c.log2 ≤ 52 := by
      have := (Nat.log2_lt (n := c) (k := 53) hc).2 hb; omega
    refine ⟨neg, m, e, h1, h2, by omega, ?_⟩
    rw [hp, show ((0 : Int) + 1074).toNat = 1074 by rfl] at h4
    have h5 : (m : Int) * 2 ^ (e + 1074).toNat = c * U := by rw [← U_nat, ← h4, Int.natCast_mul, Int.natCast_pow]; rfl
    rw [signed_eq, h5]
    cases neg
    · simp
    · simp [Int.neg_mul]

theorem isInt_ofInt (n : Int) (h : n.natAbs < 2 ^ 53) : IsInt (floatOfInt .f64 n) n := by
  have := isInt_nearest (decide (n < 0)) n.natAbs 0 0 h rfl (fun _ => rfl)
  rw [Nat.pow_zero, Nat.mul_one] at this
  have e : (if decide (n < 0) = true then -(n.natAbs : Int) else n.natAbs) = n := by
    by_cases hn : n < 0
    · simp only [hn, decide_true, if_true]; omega
    · simp only [hn, decide_false]; simp; omega
  rw [e] at this
  exact this

theorem signed_zero (s : Bool) (m k : Nat) : (signed s m k).natAbs = m * 2 ^ k := by
  rw [signed_eq]; cases s <;> simp [Int.natAbs_mul, Int.natAbs_pow]

/-- The sum of two data of whole numbers, written, is the sum's float. -/
theorem isInt_sum {s t : Bool} {m n : Nat} {i j : Int} {a b : Int} (hi : -1074 ≤ i) (hi0 : i ≤ 0) (hj : -1074 ≤ j) (hj0 : j ≤ 0)
    (ha : signed s m (i + 1074).toNat = a * U) (hb : signed t n (j + 1074).toNat = b * U) (hab : (a + b).natAbs < 2 ^ 53) :
    ∃ d, (Datum.number s m i).sum (.number t n j) = some d ∧ IsInt (double.write d) (a + b) := by
  refine ⟨_, rfl, ?_⟩
  simp only [Format.write]
  have e1 : (i + 1074).toNat = (i - min i j).toNat + (min i j + 1074).toNat := by omega
  have e2 : (j + 1074).toNat = (j - min i j).toNat + (min i j + 1074).toNat := by omega
  rw [e1, signed_add] at ha
  rw [e2, signed_add] at hb
  generalize hA : signed s m (i - min i j).toNat = A at *
  generalize hB : signed t n (j - min i j).toNat = B at *
  generalize hg : min i j = g at *
  have hg0 : g ≤ 0 := by omega
  have hg1 : -1074 ≤ g := by omega
  have hU := U_split g hg0 hg1
  have hp : (0 : Int) < 2 ^ (g + 1074).toNat := Int.pow_pos (by decide)
  have hs : A + B = (a + b) * 2 ^ (-g).toNat := by
    apply Int.eq_of_mul_eq_mul_right (a := 2 ^ (g + 1074).toNat) (by omega)
    rw [Int.add_mul, ha, hb, Int.mul_assoc, ← hU, Int.add_mul]
  have hn : (A + B).natAbs = (a + b).natAbs * 2 ^ (-g).toNat := by
    rw [hs, Int.natAbs_mul, Int.natAbs_pow]; rfl
  have hq : (0 : Int) < 2 ^ (-g).toNat := Int.pow_pos (by decide)
  have hlt : A + B < 0 ↔ a + b < 0 := by
    rw [hs]
    constructor
    · intro h
      rcases Int.lt_or_le (a + b) 0 with h' | h'
      · exact h'
      · have := Int.mul_nonneg h' (Int.le_of_lt hq); omega
    · intro h; exact Int.mul_neg_of_neg_of_pos h hq
  have hz : A + B = 0 ↔ a + b = 0 := by
    rw [hs]; constructor
    · intro h; rcases Int.mul_eq_zero.1 h with h' | h'
      · exact h'
      · omega
    · intro h; rw [h]; simp
  rw [hn]
  by_cases h0 : a + b = 0
  · have := isInt_nearest (if A + B = 0 then s && t else decide (A + B < 0)) (a + b).natAbs (-g).toNat g hab (by omega) (fun _ => rfl)
    have e : (if (if A + B = 0 then s && t else decide (A + B < 0)) = true then -((a + b).natAbs : Int) else (a + b).natAbs) = a + b := by
      have : ((a + b).natAbs : Int) = 0 := by omega
      rw [this, h0]; simp
    rw [e] at this
    exact this
  · have hz' : ¬ A + B = 0 := fun h => h0 (hz.1 h)
    rw [if_neg hz']
    have := isInt_nearest (decide (A + B < 0)) (a + b).natAbs (-g).toNat g hab (by omega) (fun _ => rfl)
    have e : (if decide (A + B < 0) = true then -((a + b).natAbs : Int) else (a + b).natAbs) = a + b := by
      by_cases h : a + b < 0
      · have h' := hlt.2 h
        simp only [h', decide_true, if_true]; omega
      · have h' : ¬ A + B < 0 := fun x => h (hlt.1 x)
        simp only [h', decide_false]; simp; omega
    rw [e] at this
    exact this

theorem add_int {x y : Nat} {a b : Int} (hx : IsInt x a) (hy : IsInt y b) (hab : (a + b).natAbs < 2 ^ 53) :
    ∃ r, floatBits .add .f64 x y = some r ∧ IsInt r (a + b) := by
  obtain ⟨s, m, i, h1, h2, h3, h4⟩ := hx
  obtain ⟨t, n, j, k1, k2, k3, k4⟩ := hy
  obtain ⟨d, hd, hi⟩ := isInt_sum h2 h3 k2 k3 h4 k4 hab
  refine ⟨double.write d, ?_, hi⟩
  show ((double.read x).sum (double.read y)).map double.write = _
  rw [h1, k1, hd]; rfl

theorem sub_int {x y : Nat} {a b : Int} (hx : IsInt x a) (hy : IsInt y b) (hab : (a - b).natAbs < 2 ^ 53) :
    ∃ r, floatBits .sub .f64 x y = some r ∧ IsInt r (a - b) := by
  obtain ⟨s, m, i, h1, h2, h3, h4⟩ := hx
  obtain ⟨t, n, j, k1, k2, k3, k4⟩ := hy
  have k5 : signed (!t) n (j + 1074).toNat = (-b) * U := by
    rw [signed_eq] at k4 ⊢
    rw [Int.neg_mul, ← k4]; cases t <;> simp
  obtain ⟨d, hd, hi⟩ := isInt_sum h2 h3 k2 k3 h4 k5 (by rw [← Int.sub_eq_add_neg]; exact hab)
  refine ⟨double.write d, ?_, by rw [Int.sub_eq_add_neg]; exact hi⟩
  show ((double.read x).sum (double.read y).opposite).map double.write = _
  rw [h1, k1]
  show ((Datum.number s m i).sum (Datum.number (!t) n j)).map double.write = _
  rw [hd]; rfl

/-- What a float compares with a whole number as not below and not above is a number. -/
theorem val_of_bounds {x lo hi : Nat} {a b : Int} (hlo : IsInt lo a) (hhi : IsInt hi b)
    (h1 : double.order lo x = some .lt ∨ double.order lo x = some .eq) (h2 : double.order x hi = some .lt ∨ double.order x hi = some .eq) :
    ∃ v, Val x v ∧ a * U ≤ v ∧ v ≤ b * U := by
  have hnum : ∃ s m e, double.read x = .number s m e ∧ -1074 ≤ e := by
    obtain ⟨s, m, i, l1, _, _, _⟩ := hlo
    obtain ⟨t, n, j, k1, _, _, _⟩ := hhi
    unfold Format.order at h1 h2
    rw [l1] at h1
    rw [k1] at h2
    have hread : double.read x = double.read x := rfl
    cases hr : double.read x with
    | number s m e =>
      refine ⟨s, m, e, rfl, ?_⟩
      unfold Format.read at hr
      simp only [dbl_least] at hr
      split at hr
      · cases hr; omega
      · split at hr
        · cases hr; omega
        · split at hr <;> cases hr
    | infinity sg =>
      rw [hr] at h1 h2
      cases sg <;> simp [Datum.order] at h1 h2
    | nan sg f =>
      rw [hr] at h1 h2
      simp [Datum.order] at h1
  obtain ⟨s, m, e, hr, he⟩ := hnum
  have hv : Val x (signed s m (e + 1074).toNat) := ⟨s, m, e, hr, he, rfl⟩
  refine ⟨_, hv, ?_, ?_⟩
  · rw [order_val hlo.val hv] at h1
    simp only [Option.some.injEq] at h1
    rcases h1 with h | h
    · exact Int.le_of_lt (Int.compare_eq_lt.1 h)
    · exact Int.le_of_eq (Int.compare_eq_eq.1 h)
  · rw [order_val hv hhi.val] at h2
    simp only [Option.some.injEq] at h2
    rcases h2 with h | h
    · exact Int.le_of_lt (Int.compare_eq_lt.1 h)
    · exact Int.le_of_eq (Int.compare_eq_eq.1 h)

theorem cut_zero (s : Bool) (n d : Nat) : Toward.zero.cut s n d = n / 2 ^ d := by
  unfold Toward.cut
  simp only [shl, Nat.one_mul, Bool.toNat_false, Nat.add_zero]
  by_cases h : d ≤ n.log2 + 2
  · rw [Nat.min_eq_left h]
  · rw [Nat.min_eq_right (by omega)]
    have h1 : n < 2 ^ (n.log2 + 1) := Nat.lt_log2_self
    have h2 : 2 ^ (n.log2 + 1) ≤ 2 ^ (n.log2 + 2) := Nat.pow_le_pow_right (by decide) (by omega)
    have h3 : 2 ^ (n.log2 + 2) ≤ 2 ^ d := Nat.pow_le_pow_right (by decide) (by omega)
    rw [Nat.div_eq_of_lt (Nat.lt_of_lt_of_le h1 h2), Nat.div_eq_of_lt (Nat.lt_of_lt_of_le h1 (Nat.le_trans h2 h3))]

theorem div_bounds (m d k : Nat) : ((m / 2 ^ d : Nat) : Int) * (2 ^ d * 2 ^ k) ≤ (m : Int) * 2 ^ k ∧ (m : Int) * 2 ^ k < (((m / 2 ^ d : Nat) : Int) + 1) * (2 ^ d * 2 ^ k) := by
  have hp : 0 < 2 ^ d := Nat.two_pow_pos d
  have h1 : m / 2 ^ d * 2 ^ d ≤ m := Nat.div_mul_le_self m (2 ^ d)
  have h2 : m < (m / 2 ^ d + 1) * 2 ^ d := by
    have := Nat.lt_div_mul_add (a := m) hp
    rw [Nat.add_mul, Nat.one_mul]; exact this
  have k0 : (0 : Int) < 2 ^ k := Int.pow_pos (by decide)
  have h1' : ((m / 2 ^ d : Nat) : Int) * 2 ^ d ≤ m := by rw [← nat_pow]; exact Int.ofNat_le.2 h1
  have h2' : (m : Int) < (((m / 2 ^ d : Nat) : Int) + 1) * 2 ^ d := by
    have : ((m / 2 ^ d + 1 : Nat) : Int) = ((m / 2 ^ d : Nat) : Int) + 1 := rfl
    rw [← this, ← nat_pow]; exact Int.ofNat_lt.2 h2
  rw [← Int.mul_assoc, ← Int.mul_assoc]
  exact ⟨Int.mul_le_mul_of_nonneg_right h1' (Int.le_of_lt k0), Int.mul_lt_mul_of_pos_right h2' k0⟩

/-- A number that is not below nought, cut towards nought. -/
theorem toInt_val {x : Nat} {v : Int} (hx : Val x v) (h0 : 0 ≤ v) : ∃ n : Nat, (double.read x).toInt .zero = some (n : Int) ∧ (n : Int) * U ≤ v ∧ v < ((n : Int) + 1) * U := by
  obtain ⟨s, m, e, h1, h2, h3⟩ := hx
  rw [h1]
  simp only [Datum.toInt, Datum.integral, shl, cut_zero]
  have hs : s = false ∨ m = 0 := by
    cases s
    · exact Or.inl rfl
    · right
      rw [signed_eq] at h3
      have hp : (0 : Int) < 2 ^ (e + 1074).toNat := Int.pow_pos (by decide)
      rcases Nat.eq_zero_or_pos m with h | h
      · exact h
      · have : (0 : Int) < (m : Int) * 2 ^ (e + 1074).toNat := Int.mul_pos (by omega) hp
        simp only [if_true] at h3
        omega
  have hv : v = (m : Int) * 2 ^ (e + 1074).toNat := by
    rw [← h3, signed_eq]
    rcases hs with h | h
    · rw [h]; simp
    · rw [h]; simp
  by_cases he : 0 ≤ e
  · refine ⟨m * 2 ^ e.toNat, ?_, ?_⟩
    · have e0 : (-e).toNat = 0 := by omega
      rw [e0, Nat.pow_zero, Nat.div_one, signed_eq]
      rcases hs with h | h
      · rw [h]; simp
      · rw [h]; simp
    · have : v = ((m * 2 ^ e.toNat : Nat) : Int) * U := by
        rw [hv, ← U_mul]; congr 2; omega
      rw [this]
      have := U_pos
      exact ⟨Int.le_refl _, Int.mul_lt_mul_of_pos_right (by omega) this⟩
  · have e0 : e.toNat = 0 := by omega
    refine ⟨m / 2 ^ (-e).toNat, ?_, ?_⟩
    · rw [e0, Nat.pow_zero, Nat.mul_one, signed_eq]
      rcases hs with h | h
      · rw [h]; simp
      · rw [h]; simp
    · rw [hv, U_split e (by omega) h2]
      exact div_bounds m (-e).toNat (e + 1074).toNat

theorem lt_of_mulU {a b : Int} (h : a * U < b * U) : a < b := Int.lt_of_mul_lt_mul_right h (Int.le_of_lt U_pos)
theorem le_of_mulU {a b : Int} (h : a * U ≤ b * U) : a ≤ b := Int.le_of_mul_le_mul_right h U_pos
theorem eq_of_mulU {a b : Int} (h : a * U = b * U) : a = b := Int.eq_of_mul_eq_mul_right (by have := U_pos; omega) h

theorem toIntVal_of {x : Nat} {v b : Int} (hx : Val x v) (h0 : 0 ≤ v) (h1 : v ≤ b * U) (hb : b < 4611686018427387904) :
    ∃ n : Int, floatToIntVal .f64 x .i64 = some n ∧ 0 ≤ n ∧ n ≤ b ∧ n * U ≤ v ∧ v < (n + 1) * U := by
  obtain ⟨n, h2, h3, h4⟩ := toInt_val hx h0
  have hn : (n : Int) ≤ b := le_of_mulU (Int.le_trans h3 h1)
  refine ⟨n, ?_, by omega, hn, h3, h4⟩
  have h5 : (FloatKind.f64.decode x).toInt .zero = some (n : Int) := h2
  have h6 : IntKind.i64.min = -9223372036854775808 := by decide
  have h7 : IntKind.i64.max = 9223372036854775807 := by decide
  unfold floatToIntVal
  rw [h5]
  simp only [h6, h7]
  rw [if_pos (by omega)]

end Go.Proofs.Ytjjjpifdmgpnjaa.Flo

/- What each function of the stamp layer, and of the document's answer for it, gives. -/
namespace Go.Proofs.Ytjjjpifdmgpnjaa
open Go.RowKit

def rightB (C D : Int) : Bool := decide (0 ≤ C ∧ C ≤ 1099511627776 ∧ 0 ≤ D ∧ D < 12)
theorem rightB_of {C D : Int} {b : Bool} (h : b = true ↔ (0 ≤ C ∧ C ≤ 1099511627776 ∧ 0 ≤ D ∧ D < 12)) : Value.bool b = .bool (rightB C D) := by
  unfold rightB; congr 1; rw [Bool.eq_iff_iff, h, decide_eq_true_iff]




/-- The number of a moment. -/
def numOf (C D : Int) : Value := .complex .f64 (floatOfInt .f64 C) (floatOfInt .f64 D)

/-- x is not below nought and not above m. -/
def leB (x y : Nat) : Bool := FloatKind.f64.format.order x y == some .lt || FloatKind.f64.format.order x y == some .eq
def wiB (x m : Nat) : Bool := leB 0 x && leB x m

end Go.Proofs.Ytjjjpifdmgpnjaa

/- What From, Next and Before give. -/
namespace Go.Proofs.Ytjjjpifdmgpnjaa
open Go.RowKit

/-- A moment of that number. -/
structure IsM (re im : Nat) (C D : Int) : Prop where
  vr : Flo.Val re (C * Flo.U)
  vi : Flo.Val im (D * Flo.U)
  ok : rightB C D = true

theorem rightB_iff {C D : Int} : rightB C D = true ↔ (0 ≤ C ∧ C ≤ 1099511627776 ∧ 0 ≤ D ∧ D < 12) := by unfold rightB; exact decide_eq_true_iff

theorem isInt_c0 : Flo.IsInt 0 0 := Flo.isInt_ofInt 0 (by decide)
theorem isInt_max : Flo.IsInt 4787326403894837248 1099511627776 := Flo.isInt_ofInt 1099511627776 (by decide)
theorem isInt_11 : Flo.IsInt 4622382067542392832 11 := Flo.isInt_ofInt 11 (by decide)
theorem isInt_12 : Flo.IsInt 4622945017495814144 12 := Flo.isInt_ofInt 12 (by decide)

theorem leB_int {x y : Nat} {a b : Int} (hx : Flo.Val x a) (hy : Flo.Val y b) : leB x y = decide (a ≤ b) := by
  have h : FloatKind.f64.format.order x y = some (compare a b) := Flo.order_val hx hy
  unfold leB
  rw [h]
  rcases Int.lt_trichotomy a b with h1 | h1 | h1
  · rw [Int.compare_eq_lt.2 h1]; simp; omega
  · rw [Int.compare_eq_eq.2 h1]; simp; omega
  · rw [Int.compare_eq_gt.2 h1]; simp; omega

theorem leB_or {x y : Nat} (h : leB x y = true) : Ieee.double.order x y = some .lt ∨ Ieee.double.order x y = some .eq := by
  unfold leB at h
  simp only [Bool.or_eq_true, beq_iff_eq] at h
  exact h

/-- A float that lies between nought and a whole number. -/
theorem wi_val {x m : Nat} {b : Int} (hm : Flo.IsInt m b) (h : wiB x m = true) : ∃ v, Flo.Val x v ∧ 0 ≤ v ∧ v ≤ b * Flo.U := by
  unfold wiB at h
  simp only [Bool.and_eq_true] at h
  obtain ⟨v, h1, h2, h3⟩ := Flo.val_of_bounds isInt_c0 hm (leB_or h.1) (leB_or h.2)
  exact ⟨v, h1, by omega, h3⟩

theorem wi_of {x m : Nat} {a b : Int} (hm : Flo.IsInt m b) (hx : Flo.Val x (a * Flo.U)) (h0 : 0 ≤ a) (h1 : a ≤ b) : wiB x m = true := by
  unfold wiB
  have hU := Flo.U_pos
  rw [leB_int isInt_c0.val hx, leB_int hx hm.val, Bool.and_eq_true, decide_eq_true_iff, decide_eq_true_iff]
  exact ⟨Int.mul_le_mul_of_nonneg_right h0 (by omega), Int.mul_le_mul_of_nonneg_right h1 (by omega)⟩

theorem order_eq {x y : Nat} {a b : Int} (hx : Flo.Val x a) (hy : Flo.Val y b) : FloatKind.f64.format.order x y = some .eq ↔ a = b := by
  have h : FloatKind.f64.format.order x y = some (compare a b) := Flo.order_val hx hy
  rw [h, Option.some.injEq]
  exact Int.compare_eq_eq

theorem trunc_exact {x : Nat} {a b : Int} (hx : Flo.Val x (a * Flo.U)) (h0 : 0 ≤ a) (h1 : a ≤ b) (hb : b < 4611686018427387904) : floatToIntVal .f64 x .i64 = some a := by
  have hU := Flo.U_pos
  obtain ⟨n, h2, _, _, h5, h6⟩ := Flo.toIntVal_of hx (Int.mul_nonneg h0 (by omega)) (Int.mul_le_mul_of_nonneg_right h1 (by omega)) hb
  have a1 := Flo.le_of_mulU h5
  have a2 := Flo.lt_of_mulU h6
  rw [h2]; congr 1; omega

theorem val_fun {x : Nat} {a b : Int} (h : Flo.Val x a) (k : Flo.Val x b) : a = b := by
  obtain ⟨s, m, e, h1, h2, h3⟩ := h
  obtain ⟨t, n, f, k1, k2, k3⟩ := k
  rw [h1] at k1
  cases k1
  rw [← h3, ← k3]

end Go.Proofs.Ytjjjpifdmgpnjaa

/- What Next and Before give, and the document's answers. -/
namespace Go.Proofs.Ytjjjpifdmgpnjaa
open Go.RowKit

theorem isInt_one : Flo.IsInt 4607182418800017408 1 := Flo.isInt_ofInt 1 (by decide)

theorem is_next (C D : Int) (re im : Nat) (h : rightB C D = true) (h2 : C < 1099511627776) (hs : cSumBits .add .f64 (floatOfInt .f64 C) (floatOfInt .f64 D) 4607182418800017408 0 = some (re, im)) : IsM re im (C + 1) D := by
  have hr := rightB_iff.1 h
  obtain ⟨a, a1, a2⟩ := Flo.add_int (Flo.isInt_ofInt C (by omega)) isInt_one (by omega)
  obtain ⟨b, b1, b2⟩ := Flo.add_int (Flo.isInt_ofInt D (by omega)) isInt_c0 (by omega)
  simp only [cSumBits, a1, b1, Option.bind_some, Option.some.injEq, Prod.mk.injEq] at hs
  obtain ⟨rfl, rfl⟩ := hs
  rw [Int.add_zero] at b2
  exact ⟨a2.val, b2.val, rightB_iff.2 (by omega)⟩

theorem none_next (C D : Int) (re im : Nat) (h : rightB C D = true) (h2 : ¬ C < 1099511627776) (hs : cSumBits .add .f64 (floatOfInt .f64 C) (floatOfInt .f64 D) 4607182418800017408 0 = some (re, im)) (A B : Int) : ¬ IsM re im A B := by
  have hr := rightB_iff.1 h
  obtain ⟨a, a1, a2⟩ := Flo.add_int (Flo.isInt_ofInt C (by omega)) isInt_one (by omega)
  obtain ⟨b, b1, b2⟩ := Flo.add_int (Flo.isInt_ofInt D (by omega)) isInt_c0 (by omega)
  simp only [cSumBits, a1, b1, Option.bind_some, Option.some.injEq, Prod.mk.injEq] at hs
  obtain ⟨rfl, rfl⟩ := hs
  rintro ⟨h3, h4, h5⟩
  have := Flo.eq_of_mulU (val_fun h3 a2.val)
  have := rightB_iff.1 h5
  omega

theorem has_next (C D : Int) (h : rightB C D = true) : ∃ re im, cSumBits .add .f64 (floatOfInt .f64 C) (floatOfInt .f64 D) 4607182418800017408 0 = some (re, im) := by
  have hr := rightB_iff.1 h
  obtain ⟨a, a1, a2⟩ := Flo.add_int (Flo.isInt_ofInt C (by omega)) isInt_one (by omega)
  obtain ⟨b, b1, b2⟩ := Flo.add_int (Flo.isInt_ofInt D (by omega)) isInt_c0 (by omega)
  exact ⟨a, b, by simp only [cSumBits, a1, b1, Option.bind_some]⟩

/-- The answer of Next, and the document's: some (c + 1, dev), or none. -/
def nextC (C D : Int) : Int := if rightB C D && decide (C < 1099511627776) then C + 1 else 0
def nextD (C D : Int) : Int := if rightB C D && decide (C < 1099511627776) then D else 0
def nextB (C D : Int) : Bool := rightB C D && decide (C < 1099511627776)

end Go.Proofs.Ytjjjpifdmgpnjaa

/- What Before gives, and the document's answers. -/
namespace Go.Proofs.Ytjjjpifdmgpnjaa
open Go.RowKit

def befB (A B C D : Int) : Bool := decide (A < C ∨ A = C ∧ B < D)
theorem befB_of {A B C D : Int} {b : Bool} (h : b = true ↔ (A < C ∨ A = C ∧ B < D)) : Value.bool b = .bool (befB A B C D) := by
  unfold befB; congr 1; rw [Bool.eq_iff_iff, h, decide_eq_true_iff]

end Go.Proofs.Ytjjjpifdmgpnjaa

/- What Right gives, of the program and of the document. -/
namespace Go.Proofs.Ytjjjpifdmgpnjaa
open Go.RowKit Nam




theorem name_bad {s : ByteArray} (i : Nat) (hi : i < s.size) (h : ¬ (33 ≤ s[i].toNat ∧ s[i].toNat ≤ 125 ∧ s[i].toNat ≠ 47)) : isName (L s) = false :=
  isName_bad i (by rw [L_len]; exact hi) h
theorem name_short {s : ByteArray} (h : ¬ (1 ≤ s.size ∧ s.size ≤ 16)) : isName (L s) = false := isName_short (by rw [L_len]; exact h)
theorem name_of {s : ByteArray} (h1 : 1 ≤ s.size ∧ s.size ≤ 16) (h2 : ∀ i (h : i < s.size), 33 ≤ s[i].toNat ∧ s[i].toNat ≤ 125 ∧ s[i].toNat ≠ 47) : isName (L s) = true := by
  refine isName_of (by rw [L_len]; exact h1) fun b hb => ?_
  obtain ⟨i, hi, rfl⟩ := List.getElem_of_mem hb
  rw [L_len] at hi
  exact decide_eq_true (h2 i hi)

def good (s : ByteArray) (k : Nat) : Prop := ∀ i (h : i < s.size), i < k → 33 ≤ s[i].toNat ∧ s[i].toNat ≤ 125 ∧ s[i].toNat ≠ 47
theorem good_next {s : ByteArray} {k : Nat} (h : good s k) (hk : k < s.size) (hb : 33 ≤ s[k].toNat ∧ s[k].toNat ≤ 125 ∧ s[k].toNat ≠ 47) : good s (k + 1) := by
  intro i hi hik
  by_cases e : i = k
  · subst e; exact hb
  · exact h i hi (by omega)

end Go.Proofs.Ytjjjpifdmgpnjaa

/- What Right gives, of the program and of the document: layer op. -/
namespace Go.Proofs.Ytjjjpifdmgpnjaa
open Go.RowKit Nam

def atB (C D : Int) : Bool := decide (1 ≤ C ∧ C ≤ 1099511627776 ∧ 0 ≤ D ∧ D < 12)
def cntB (n : Int) : Bool := decide (1 ≤ n ∧ n ≤ 1099511627776)
def mvB (K U : Int) : Bool := decide (2 ≤ K ∧ K < 64 ∧ 0 ≤ U ∧ U < 64 ∧ K ≠ U)
def opB (C D I M K U : Int) (s : ByteArray) : Bool := atB C D && (cntB I && (cntB M && (mvB K U && isName (L s))))
theorem bool_of {p : Prop} [Decidable p] {b : Bool} (h : b = true ↔ p) : Value.bool b = .bool (decide p) := by
  congr 1; rw [Bool.eq_iff_iff, h, decide_eq_true_iff]
theorem atB_right {C D : Int} (h : rightB C D = true) : atB C D = decide (1 ≤ C) := by
  have := rightB_iff.1 h
  unfold atB; rw [Bool.eq_iff_iff, decide_eq_true_iff, decide_eq_true_iff]; omega
theorem atB_wrong {C D : Int} (h : rightB C D = false) : atB C D = false := by
  unfold rightB at h; unfold atB; rw [decide_eq_false_iff_not] at h ⊢; omega

theorem opB_wrong {C D I M K U : Int} {s : ByteArray} (h : rightB C D = false) : opB C D I M K U s = false := by
  unfold opB; rw [atB_wrong h]; rfl
theorem opB_out {C D I M K U : Int} {s : ByteArray} (h : ¬ (1 ≤ C ∧ 1 ≤ I ∧ I ≤ 1099511627776 ∧ 1 ≤ M ∧ M ≤ 1099511627776 ∧ 2 ≤ K ∧ K < 64 ∧ 0 ≤ U ∧ U < 64 ∧ K ≠ U)) : opB C D I M K U s = false := by
  unfold opB atB cntB mvB
  rw [Bool.eq_false_iff]; intro e
  simp only [Bool.and_eq_true, decide_eq_true_iff] at e
  omega
theorem opB_in {C D I M K U : Int} {s : ByteArray} (h0 : rightB C D = true) (h : 1 ≤ C ∧ 1 ≤ I ∧ I ≤ 1099511627776 ∧ 1 ≤ M ∧ M ≤ 1099511627776 ∧ 2 ≤ K ∧ K < 64 ∧ 0 ≤ U ∧ U < 64 ∧ K ≠ U) : opB C D I M K U s = isName (L s) := by
  have h0 := rightB_iff.1 h0
  unfold opB atB cntB mvB
  rw [decide_eq_true (by omega), decide_eq_true (by omega), decide_eq_true (by omega), decide_eq_true (by omega)]; simp

end Go.Proofs.Ytjjjpifdmgpnjaa

/- What Print gives, of the program and of the document: layer op. -/
namespace Go.Proofs.Ytjjjpifdmgpnjaa
open Go.RowKit Cod

structure Wide (C D I M K U : Int) : Prop where
  c : i64 C
  d : i64 D
  i : i64 I
  m : i64 M
  k : i64 K
  u : i64 U
def printOf (C D I M K U : Int) (s : ByteArray) : ByteArray := bytesOf C ++ bytesOf D ++ bytesOf I ++ bytesOf M ++ bytesOf K ++ bytesOf U ++ textOf s

section
variable {w w' : World} {b : Nat} {C D I M K U : Int} {s : ByteArray}
end

theorem text_le (s : ByteArray) (hs : s.size ≤ 1000000) : (textOf s).size ≤ 1000010 := by
  unfold textOf; rw [ByteArray.size_append]
  have := bytesOf_le s.size (by omega) (by omega)
  omega

end Go.Proofs.Ytjjjpifdmgpnjaa

/- An operation in a block: stored, loaded, handed back whole. -/
namespace Go.Proofs.Ytjjjpifdmgpnjaa
open Go.RowKit Cod

def opCells (C D I M K U : Int) (s : ByteArray) : Array Value := #[.int .i64 C, .int .i64 D, .int .i64 I, .int .i64 M, .int .i64 K, .int .i64 U, .string s]
end Go.Proofs.Ytjjjpifdmgpnjaa

/- What Read gives, of the program and of the document: layer op. -/
namespace Go.Proofs.Ytjjjpifdmgpnjaa
open Go.RowKit Nam Cod

structure Mv where
  C : Int
  D : Int
  I : Int
  M : Int
  K : Int
  U : Int
  s : ByteArray
def zeroMv : Mv := ⟨0, 0, 0, 0, 0, 0, ⟨#[]⟩⟩
def isOp (s : ByteArray) (p : Nat) (bad : Bool) : Option (Mv × Nat) :=
  (isNum s p bad).bind fun a => (isNum s a.2 false).bind fun b => (isNum s b.2 false).bind fun c => (isNum s c.2 false).bind fun d => (isNum s d.2 false).bind fun e => (isNum s e.2 false).bind fun f => (isText s f.2 false 16).bind fun g =>
    if opB a.1 b.1 c.1 d.1 e.1 f.1 g.1 = true then some (⟨a.1, b.1, c.1, d.1, e.1, f.1, g.1⟩, g.2) else none
def opStep (s : ByteArray) (p : Nat) (bad : Bool) (o : Mv) (q : Nat) (bad' : Bool) : Prop := (isOp s p bad = some (o, q) ∧ bad' = false) ∨ (isOp s p bad = none ∧ o = zeroMv ∧ bad' = true)

/-- The seven steps, one behind the other. -/
structure Steps7 (s : ByteArray) (p : Nat) (bad : Bool) (C D I M K U : Int) (t : ByteArray) (q7 : Nat) (b7 : Bool) : Prop where
  all : ∃ q1 q2 q3 q4 q5 q6 b1 b2 b3 b4 b5 b6, numStep s p bad C q1 b1 ∧ numStep s q1 b1 D q2 b2 ∧ numStep s q2 b2 I q3 b3 ∧ numStep s q3 b3 M q4 b4 ∧ numStep s q4 b4 K q5 b5 ∧ numStep s q5 b5 U q6 b6 ∧ textStep s q6 b6 t q7 b7
theorem Steps7.good {s : ByteArray} {p : Nat} {bad : Bool} {C D I M K U : Int} {t : ByteArray} {q7 : Nat} (h : Steps7 s p bad C D I M K U t q7 false) : isOp s p bad = if opB C D I M K U t = true then some (⟨C, D, I, M, K, U, t⟩, q7) else none := by
  obtain ⟨q1, q2, q3, q4, q5, q6, b1, b2, b3, b4, b5, b6, h1, h2, h3, h4, h5, h6, h7⟩ := h.all
  obtain ⟨e7, g7⟩ := h7.good
  subst e7
  obtain ⟨e6, g6⟩ := h6.good
  subst e6
  obtain ⟨e5, g5⟩ := h5.good
  subst e5
  obtain ⟨e4, g4⟩ := h4.good
  subst e4
  obtain ⟨e3, g3⟩ := h3.good
  subst e3
  obtain ⟨e2, g2⟩ := h2.good
  subst e2
  have g1 := h1.back
  unfold isOp
  simp only [g1, g2, g3, g4, g5, g6, g7, Option.bind_some]
theorem Steps7.ill {s : ByteArray} {p : Nat} {bad : Bool} {C D I M K U : Int} {t : ByteArray} {q7 : Nat} (h : Steps7 s p bad C D I M K U t q7 true) : isOp s p bad = none := by
  obtain ⟨q1, q2, q3, q4, q5, q6, b1, b2, b3, b4, b5, b6, h1, h2, h3, h4, h5, h6, h7⟩ := h.all
  unfold isOp
  cases b1
  · have h1 := h1.back
    cases b2
    · have h2 := h2.back
      cases b3
      · have h3 := h3.back
        cases b4
        · have h4 := h4.back
          cases b5
          · have h5 := h5.back
            cases b6
            · have h6 := h6.back
              have h7 := h7.ill
              simp only [h1, h2, h3, h4, h5, h6, h7, Option.bind_some, Option.bind_none]
            · have h6 := h6.ill
              simp only [h1, h2, h3, h4, h5, h6, Option.bind_some, Option.bind_none]
          · have h5 := h5.ill
            simp only [h1, h2, h3, h4, h5, Option.bind_some, Option.bind_none]
        · have h4 := h4.ill
          simp only [h1, h2, h3, h4, Option.bind_some, Option.bind_none]
      · have h3 := h3.ill
        simp only [h1, h2, h3, Option.bind_some, Option.bind_none]
    · have h2 := h2.ill
      simp only [h1, h2, Option.bind_some, Option.bind_none]
  · have h1 := h1.ill
    simp only [h1, Option.bind_none]

section
variable {w a : World} {b : Nat} {C D I M K U : Int} {s : ByteArray}
end

end Go.Proofs.Ytjjjpifdmgpnjaa

/- Trees as sorted lists: what put, drop and a move make of them. No program in it. -/
namespace Tre

theorem sorted_pw {l : List Pl} : Sorted l ↔ l.Pairwise (fun p q => p.n < q.n) := by
  rw [List.pairwise_iff_getElem]
  exact ⟨fun h i j hi hj hij => h i j hi hj hij, fun h i j hi hj hij => h i j hi hj hij⟩
theorem get_iff {l : List Pl} (hs : Sorted l) {b : Int} {p : Pl} : get l b = some p ↔ p ∈ l ∧ p.n = b := by
  constructor
  · intro h
    obtain ⟨h1, h2, _⟩ := get_some h
    exact ⟨h1, h2⟩
  · rintro ⟨h, rfl⟩
    obtain ⟨i, hi, rfl⟩ := List.getElem_of_mem h
    exact get_self hs i hi
theorem sorted_one {l : List Pl} (hs : Sorted l) {p q : Pl} (hp : p ∈ l) (hq : q ∈ l) (h : p.n = q.n) : p = q := by
  have h1 := (get_iff hs).2 ⟨hp, h⟩
  have h2 := (get_iff hs).2 ⟨hq, rfl⟩
  rw [h1] at h2
  exact Option.some.inj h2
theorem sorted_ext : ∀ {l m : List Pl}, Sorted l → Sorted m → (∀ q, q ∈ l ↔ q ∈ m) → l = m
  | [], [], _, _, _ => rfl
  | [], q :: m, _, _, h => absurd ((h q).2 (by simp)) (by simp)
  | p :: l, [], _, _, h => absurd ((h p).1 (by simp)) (by simp)
  | p :: l, q :: m, hl, hm, h => by
    have hl' := List.pairwise_cons.1 (sorted_pw.1 hl)
    have hm' := List.pairwise_cons.1 (sorted_pw.1 hm)
    have e : p = q := by
      rcases List.mem_cons.1 ((h p).1 (by simp)) with e | e
      · exact e
      · rcases List.mem_cons.1 ((h q).2 (by simp)) with e2 | e2
        · exact e2.symm
        · have a := hm'.1 p e
          have b := hl'.1 q e2
          omega
    subst e
    congr 1
    refine sorted_ext (sorted_pw.2 hl'.2) (sorted_pw.2 hm'.2) fun r => ⟨fun hr => ?_, fun hr => ?_⟩
    · rcases List.mem_cons.1 ((h r).1 (by simp [hr])) with e | e
      · subst e; have := hl'.1 r hr; omega
      · exact e
    · rcases List.mem_cons.1 ((h r).2 (by simp [hr])) with e | e
      · subst e; have := hm'.1 r hr; omega
      · exact e
theorem sorted_ext_get {l m : List Pl} (hl : Sorted l) (hm : Sorted m) (h : ∀ b, get l b = get m b) : l = m :=
  sorted_ext hl hm fun q => by
    constructor
    · intro hq
      exact ((get_iff hm).1 ((h q.n).symm.trans ((get_iff hl).2 ⟨hq, rfl⟩))).1
    · intro hq
      exact ((get_iff hl).1 ((h q.n).trans ((get_iff hm).2 ⟨hq, rfl⟩))).1

theorem take_before (l : List Pl) (b : Int) : ∀ q ∈ l.take (idx l b), q.n < b := fun q hq => by
  obtain ⟨i, hi, rfl⟩ := List.getElem_of_mem hq
  rw [List.length_take] at hi
  rw [List.getElem_take]
  exact idx_before l b i (by omega) (by omega)
theorem drop_behind {l : List Pl} (hs : Sorted l) (b : Int) : ∀ q ∈ l.drop (behind l b), b < q.n := fun q hq => by
  obtain ⟨i, hi, rfl⟩ := List.getElem_of_mem hq
  rw [List.length_drop] at hi
  rw [List.getElem_drop]
  have hto : behind l b = if (get l b).isSome then idx l b + 1 else idx l b := rfl
  generalize behind l b = tz at *
  rcases hg : get l b with _ | p
  · rw [hg] at hto
    obtain rfl : tz = idx l b := by simpa using hto
    have hl : idx l b < l.length := by omega
    have h1 := idx_at l b hl
    have h2 : ¬ l[idx l b].n = b := fun e => by rw [get_of hl e] at hg; cases hg
    by_cases e : i = 0
    · subst e; simp only [Nat.add_zero]; omega
    · have := hs (idx l b) (idx l b + i) hl (by omega) (by omega)
      omega
  · obtain ⟨_, hn, hl, he⟩ := get_some hg
    rw [hg] at hto
    obtain rfl : tz = idx l b + 1 := by simpa using hto
    have := hs (idx l b) (idx l b + 1 + i) hl (by omega) (by omega)
    rw [he] at this
    omega
theorem mem_sides {l : List Pl} (hs : Sorted l) (b : Int) (q : Pl) : (q ∈ l.take (idx l b) ∨ q ∈ l.drop (behind l b)) ↔ (q ∈ l ∧ q.n ≠ b) := by
  constructor
  · rintro (h | h)
    · have := take_before l b q h
      exact ⟨List.mem_of_mem_take h, by omega⟩
    · have := drop_behind hs b q h
      exact ⟨List.mem_of_mem_drop h, by omega⟩
  · rintro ⟨h, hn⟩
    obtain ⟨i, hi, rfl⟩ := List.getElem_of_mem h
    by_cases h1 : i < idx l b
    · exact Or.inl (List.mem_take_iff_getElem.2 ⟨i, by omega, rfl⟩)
    · right
      have hb : behind l b ≤ i := by
        unfold behind
        rcases hg : get l b with _ | p
        · simp; omega
        · obtain ⟨_, hp, hl, he⟩ := get_some hg
          simp
          by_cases e : i = idx l b
          · subst e; rw [he] at hn; exact absurd hp hn
          · omega
      exact List.mem_drop_iff_getElem.2 ⟨i - behind l b, by omega, by congr 1; omega⟩
theorem sorted_placed {l : List Pl} (hs : Sorted l) (b : Int) (m : List Pl) (hm : ∀ q ∈ m, q.n = b) (h1 : m.length ≤ 1) : Sorted (placedL l b m) := by
  have hp := sorted_pw.1 hs
  refine sorted_pw.2 ?_
  unfold placedL
  have hmp : m.Pairwise (fun p q => p.n < q.n) := by
    match m, h1 with
    | [], _ => exact List.Pairwise.nil
    | [q], _ => exact List.pairwise_singleton _ _
  rw [List.pairwise_append, List.pairwise_append]
  refine ⟨⟨hp.sublist (List.take_sublist _ _), hmp, fun p hp q hq => ?_⟩, hp.sublist (List.drop_sublist _ _), fun p hp q hq => ?_⟩
  · have := take_before l b p hp
    have := hm q hq
    omega
  · have h2 := drop_behind hs b q hq
    rcases List.mem_append.1 hp with h | h
    · have := take_before l b p h; omega
    · have := hm p h; omega
theorem sorted_put {l : List Pl} (hs : Sorted l) (p : Pl) : Sorted (putL l p) := sorted_placed hs p.n [p] (fun q hq => by rw [List.mem_singleton] at hq; rw [hq]) (Nat.le_refl _)
theorem sorted_drop {l : List Pl} (hs : Sorted l) (b : Int) : Sorted (dropL l b) := sorted_placed hs b [] (fun q hq => by cases hq) (Nat.zero_le _)
theorem mem_put {l : List Pl} (hs : Sorted l) (p q : Pl) : q ∈ putL l p ↔ (q = p ∨ (q ∈ l ∧ q.n ≠ p.n)) := by
  unfold putL placedL
  rw [List.mem_append, List.mem_append, List.mem_singleton, ← mem_sides hs p.n q]
  constructor
  · rintro ((h | h) | h)
    · exact Or.inr (Or.inl h)
    · exact Or.inl h
    · exact Or.inr (Or.inr h)
  · rintro (h | h | h)
    · exact Or.inl (Or.inr h)
    · exact Or.inl (Or.inl h)
    · exact Or.inr h
theorem mem_drop {l : List Pl} (hs : Sorted l) (b : Int) (q : Pl) : q ∈ dropL l b ↔ (q ∈ l ∧ q.n ≠ b) := by
  unfold dropL placedL
  rw [List.append_nil, List.mem_append, mem_sides hs b q]
theorem get_put {l : List Pl} (hs : Sorted l) (p : Pl) (b : Int) : get (putL l p) b = if b = p.n then some p else get l b := by
  have hp := sorted_put hs p
  by_cases e : b = p.n
  · rw [if_pos e]
    exact (get_iff hp).2 ⟨(mem_put hs p p).2 (Or.inl rfl), e.symm⟩
  · rw [if_neg e]
    rcases h : get l b with _ | q
    · rcases h2 : get (putL l p) b with _ | r
      · rfl
      · obtain ⟨hm, hn⟩ := (get_iff hp).1 h2
        rcases (mem_put hs p r).1 hm with e2 | ⟨h3, _⟩
        · subst e2; exact absurd hn.symm e
        · rw [(get_iff hs).2 ⟨h3, hn⟩] at h; cases h
    · obtain ⟨hm, hn⟩ := (get_iff hs).1 h
      exact (get_iff hp).2 ⟨(mem_put hs p q).2 (Or.inr ⟨hm, by omega⟩), hn⟩
theorem get_drop {l : List Pl} (hs : Sorted l) (a b : Int) : get (dropL l a) b = if b = a then none else get l b := by
  have hp := sorted_drop hs a
  rcases h2 : get (dropL l a) b with _ | r
  · by_cases e : b = a
    · rw [if_pos e]
    · rw [if_neg e]
      rcases h : get l b with _ | q
      · rfl
      · obtain ⟨hm, hn⟩ := (get_iff hs).1 h
        rw [(get_iff hp).2 ⟨(mem_drop hs a q).2 ⟨hm, by omega⟩, hn⟩] at h2; cases h2
  · obtain ⟨hm, hn⟩ := (get_iff hp).1 h2
    obtain ⟨h3, h4⟩ := (mem_drop hs a r).1 hm
    rw [if_neg (by omega), (get_iff hs).2 ⟨h3, hn⟩]
theorem put_back {l : List Pl} (hs : Sorted l) {p q : Pl} (hq : get l p.n = some q) : putL (putL l p) q = l := by
  obtain ⟨_, hn⟩ := (get_iff hs).1 hq
  refine sorted_ext_get (sorted_put (sorted_put hs p) q) hs fun b => ?_
  rw [get_put (sorted_put hs p), get_put hs]
  by_cases e : b = q.n
  · rw [if_pos e, e, hn, hq]
  · rw [if_neg e, if_neg (by omega)]
theorem drop_put {l : List Pl} (hs : Sorted l) {p : Pl} (hq : get l p.n = none) : dropL (putL l p) p.n = l := by
  refine sorted_ext_get (sorted_drop (sorted_put hs p) _) hs fun b => ?_
  rw [get_drop (sorted_put hs p), get_put hs]
  by_cases e : b = p.n
  · rw [if_pos e, e, hq]
  · rw [if_neg e, if_neg e]

/-- No way leads from a node to itself. -/
def Acyc (l : List Pl) : Prop := ∀ k b, 0 < k → ¬ up l k b = some b
theorem acyc_of {l : List Pl} (hr : NoRing l) : Acyc l := fun k b hk h => by
  have h1 := up_loop h (l.length + 1)
  have h2 := up_bound hr h1
  have : l.length + 1 ≤ k * (l.length + 1) := Nat.le_mul_of_pos_left _ hk
  omega
theorem noRing_of {l : List Pl} (hs : Sorted l) (ha : Acyc l) : NoRing l := fun p hp => by
  rcases h : above l p.n p.u with _ | _
  · rfl
  · unfold above at h
    obtain ⟨k, _, hk⟩ := (abv_iff l p.n _ p.u).1 h
    refine absurd ?_ (ha (k + 1) p.n (Nat.succ_pos k))
    rw [up, (get_iff hs).2 ⟨hp, rfl⟩]
    exact hk
theorem least {P : Nat → Prop} : ∀ j, P j → ∃ j, P j ∧ ∀ i, i < j → ¬ P i := by
  intro j
  induction j using Nat.strongRecOn with
  | ind j ih =>
    intro hj
    by_cases h : ∃ i, i < j ∧ P i
    · obtain ⟨i, hi, hp⟩ := h
      exact ih i hi hp
    · exact ⟨j, hj, fun i hi hp => h ⟨i, hi, hp⟩⟩
/-- A way that doesn't come by K is one of the other tree, too. -/
theorem up_avoid {l m : List Pl} {K : Int} (hg : ∀ b, ¬ b = K → get m b = get l b) : ∀ (j : Nat) (c : Int), (∀ i, i < j → ¬ up m i c = some K) → up m j c = up l j c
  | 0, c, _ => rfl
  | j + 1, c, h => by
    have hc : ¬ c = K := fun e => h 0 (Nat.succ_pos j) (by rw [e]; rfl)
    rw [up, up, hg c hc]
    rcases hq : get l c with _ | q
    · rfl
    · rw [Option.bind_some, Option.bind_some]
      refine up_avoid hg j q.u fun i hi e => h (i + 1) (by omega) ?_
      rw [up, hg c hc, hq, Option.bind_some]; exact e
theorem put_noRing {l : List Pl} (hs : Sorted l) (hr : NoRing l) {p : Pl} (hu : above l p.n p.u = false) : NoRing (putL l p) := by
  have hp := sorted_put hs p
  refine noRing_of hp fun k b hk h => ?_
  have hg : ∀ c, ¬ c = p.n → get (putL l p) c = get l c := fun c hc => by rw [get_put hs, if_neg hc]
  by_cases hv : ∃ i, i < k ∧ up (putL l p) i b = some p.n
  · obtain ⟨i, hi, hb⟩ := hv
    have h1 : up (putL l p) (k - i) p.n = some b := by
      have : up (putL l p) (i + (k - i)) b = some b := by rw [show i + (k - i) = k by omega]; exact h
      rw [up_add, hb, Option.bind_some] at this
      exact this
    have h2 : up (putL l p) ((k - i) + i) p.n = some p.n := by rw [up_add, h1, Option.bind_some]; exact hb
    obtain ⟨m, hm⟩ : ∃ m, (k - i) + i = m + 1 := ⟨k - 1, by omega⟩
    rw [hm, up, get_put hs, if_pos rfl, Option.bind_some] at h2
    obtain ⟨j, hj, hl⟩ := least (P := fun j => up (putL l p) j p.u = some p.n) m h2
    have h3 := up_avoid hg j p.u hl
    rw [hj] at h3
    have h4 := (above_iff hr).2 ⟨j, h3.symm⟩
    rw [hu] at h4; cases h4
  · have h3 := up_avoid hg k b (fun i hi e => hv ⟨i, hi, e⟩)
    rw [h] at h3
    exact acyc_of hr k b hk h3.symm

/-- What undoes a move: what was, whether it had a place, whether it did anything. -/
structure Un where
  was : Pl
  had : Bool
  did : Bool
def noUn : Un := ⟨zero, false, false⟩
/-- A tree behind a move of p's node to p. -/
def doL (l : List Pl) (p : Pl) : List Pl × Un := if above l p.n p.u = true then (l, noUn) else (putL l p, ⟨(get l p.n).getD zero, (get l p.n).isSome, true⟩)
def backL (l : List Pl) (b : Int) (u : Un) : List Pl := if u.did = true then (if u.had = true then putL l u.was else dropL l b) else l
theorem back_do {l : List Pl} (hs : Sorted l) (p : Pl) : backL (doL l p).1 p.n (doL l p).2 = l := by
  unfold doL
  by_cases h : above l p.n p.u = true
  · rw [if_pos h]; rfl
  · rw [if_neg h]
    unfold backL
    rw [if_pos rfl]
    rcases hg : get l p.n with _ | q
    · simp only [Option.isSome_none, Bool.false_eq_true, if_false]
      exact drop_put hs hg
    · simp only [Option.isSome_some, if_true, Option.getD_some]
      exact put_back hs hg
theorem do_sorted {l : List Pl} (hs : Sorted l) (p : Pl) : Sorted (doL l p).1 := by
  unfold doL
  split
  · exact hs
  · exact sorted_put hs p
theorem do_noRing {l : List Pl} (hs : Sorted l) (hr : NoRing l) (p : Pl) : NoRing (doL l p).1 := by
  unfold doL
  by_cases h : above l p.n p.u = true
  · rw [if_pos h]; exact hr
  · rw [if_neg h]; exact put_noRing hs hr (by simpa using h)
theorem do_mem {l : List Pl} (hs : Sorted l) (p : Pl) {P : Pl → Prop} (hl : ∀ q ∈ l, P q) (hp : P p) : ∀ q ∈ (doL l p).1, P q := by
  unfold doL
  split
  · exact hl
  · intro q hq
    rcases (mem_put hs p q).1 hq with rfl | ⟨h, _⟩
    · exact hp
    · exact hl q h

/-- A tree behind moves, one by one, and what undoes each. -/
def foldL (l : List Pl) : List Pl → List Pl × List Un
  | [] => (l, [])
  | p :: ps => ((foldL (doL l p).1 ps).1, (doL l p).2 :: (foldL (doL l p).1 ps).2)
theorem foldL_app (l : List Pl) : ∀ (a b : List Pl), foldL l (a ++ b) = ((foldL (foldL l a).1 b).1, (foldL l a).2 ++ (foldL (foldL l a).1 b).2)
  | [], b => rfl
  | p :: a, b => by
    show foldL l (p :: (a ++ b)) = _
    rw [foldL, foldL_app (doL l p).1 a b]
    rfl
theorem foldL_len (l : List Pl) : ∀ (a : List Pl), (foldL l a).2.length = a.length := by
  intro a
  induction a generalizing l with
  | nil => rfl
  | cons p a ih => show ((doL l p).2 :: _).length = _; rw [List.length_cons, ih, List.length_cons]
theorem foldL_snoc (l a : List Pl) (p : Pl) : foldL l (a ++ [p]) = ((doL (foldL l a).1 p).1, (foldL l a).2 ++ [(doL (foldL l a).1 p).2]) := foldL_app l a [p]
theorem foldL_sorted {l : List Pl} (hs : Sorted l) (a : List Pl) : Sorted (foldL l a).1 := by
  induction a generalizing l with
  | nil => exact hs
  | cons p a ih => exact ih (do_sorted hs p)
theorem foldL_noRing {l : List Pl} (hs : Sorted l) (hr : NoRing l) (a : List Pl) : NoRing (foldL l a).1 := by
  induction a generalizing l with
  | nil => exact hr
  | cons p a ih => exact ih (do_sorted hs p) (do_noRing hs hr p)
theorem foldL_mem {l : List Pl} (hs : Sorted l) {P : Pl → Prop} (a : List Pl) (hl : ∀ q ∈ l, P q) (ha : ∀ q ∈ a, P q) : ∀ q ∈ (foldL l a).1, P q := by
  induction a generalizing l with
  | nil => exact hl
  | cons p a ih => exact ih (do_sorted hs p) (do_mem hs p hl (ha p (by simp))) (fun q hq => ha q (by simp [hq]))
/-- The last move undone. -/
theorem foldL_back {l : List Pl} (hs : Sorted l) (a : List Pl) (p : Pl) : backL (foldL l (a ++ [p])).1 p.n (doL (foldL l a).1 p).2 = (foldL l a).1 := by
  rw [foldL_snoc]; exact back_do (foldL_sorted hs a) p
theorem foldL_take (l a : List Pl) (j : Nat) (h : j < a.length) : foldL l (a.take (j + 1)) = ((doL (foldL l (a.take j)).1 a[j]).1, (foldL l (a.take j)).2 ++ [(doL (foldL l (a.take j)).1 a[j]).2]) := by
  rw [List.take_succ_eq_append_getElem h, foldL_snoc]
/-- What undoes the move at j. -/
theorem foldL_un : ∀ (l a : List Pl) (j : Nat) (h : j < a.length), (foldL l a).2[j]? = some (doL (foldL l (a.take j)).1 a[j]).2
  | l, p :: a, 0, _ => rfl
  | l, p :: a, j + 1, h => foldL_un (doL l p).1 a j (by simpa using h)
theorem foldL_undo {l : List Pl} (hs : Sorted l) (a : List Pl) (j : Nat) (h : j < a.length) : backL (foldL l (a.take (j + 1))).1 a[j].n (doL (foldL l (a.take j)).1 a[j]).2 = (foldL l (a.take j)).1 := by
  rw [foldL_take l a j h]; exact back_do (foldL_sorted hs _) _
theorem foldL_take_un (l a : List Pl) (k : Nat) (h : k ≤ a.length) : (foldL l (a.take k)).2 = (foldL l a).2.take k := by
  have e : a = a.take k ++ a.drop k := (List.take_append_drop k a).symm
  have h1 : (foldL l a).2 = (foldL l (a.take k)).2 ++ (foldL (foldL l (a.take k)).1 (a.drop k)).2 := by
    conv => lhs; rw [e, foldL_app]
  have h2 : (foldL l (a.take k)).2.length = k := by rw [foldL_len, List.length_take]; omega
  rw [h1]
  exact (List.take_left' h2).symm
end Tre

/- Places, operations and undos as elements; Clone of the library; Do and Back of both. -/
namespace Go.Proofs.Ytjjjpifdmgpnjaa
open Go.RowKit Tre Cod

/-- A slice of the whole: what it says, and that it holds the list. -/
def SlV {α : Type} (E : El α) (w : World) (A : Option Addr) (c : Nat) (l : List α) : Prop := E.Sl w A l ∧ (A = none → c = 0) ∧ l.length ≤ c
theorem SlV.below {α : Type} {E : El α} {W w : World} {A : Option Addr} {c : Nat} {l : List α} (h : SlV E W A c l) (hb : Below W.heap.size W w) : SlV E w A c l := ⟨h.1.below hb, h.2⟩
theorem SlV.nil {α : Type} (E : El α) (w : World) : SlV E w none 0 [] := ⟨El.Sl.nil w none, fun _ => rfl, Nat.le_refl _⟩
theorem frs_nil (B : Nat) : Frs B none := fun a e => by cases e
theorem frs_of {B b : Nat} {A : Option Addr} (h : Frs B A) (hb : b < B) : ∀ a, A = some a → some a.block ≠ some b := fun a e e2 => by
  have := h a e; have := Option.some.inj e2; omega
theorem El.Own.frs {α : Type} {E : El α} {w : World} {B n c : Nat} {A : Option Addr} {l : List α} (h : E.Own w B (.slice A n c) l) : Frs B A := fun a e => (World.ownsRow.lt h a.block (by rw [e]; rfl)).1
/-- A block ahead of it is written: it stays. -/
theorem SlV.keep {α : Type} {E : El α} {w w' : World} {A : Option Addr} {c B b : Nat} {l : List α} (h : SlV E w A c l) (hf : Frs B A) (hg : w.grownBy w' (some b)) (hb : b < B) : SlV E w' A c l :=
  ⟨h.1.keep hg (fun a e e2 => by have := hf a e; have := Option.some.inj e2; omega), h.2⟩
theorem by_row (w : World) (b : Nat) (cs : Array Value) : w.grownBy (w.setRow b cs) (some b) := ⟨rfl, rfl, rfl, by simp, fun k _ hk => setRow_other w b k cs (fun e => hk (by rw [e]))⟩
theorem by_cell (w : World) (b i : Nat) (v : Value) : w.grownBy (w.setCell ⟨b, i, none⟩ v) (some b) := ⟨rfl, rfl, rfl, by simp, fun k _ hk => heap_setCell_other w ⟨b, i, none⟩ k v (fun e => hk (by rw [e]))⟩
theorem by_cell2 {w w' : World} {b : Nat} (h : w.grownBy w' (some b)) (i : Nat) (v : Value) : w.grownBy (w'.setCell ⟨b, i, none⟩ v) (some b) := by
  have hg := by_cell w' b i v
  exact ⟨hg.os.trans h.os, hg.tape.trans h.tape, hg.output.trans h.output, Nat.le_trans h.size hg.size, fun k hk hne => (hg.block k (Nat.lt_of_lt_of_le hk h.size) hne).trans (h.block k hk hne)⟩
theorem SlV.own {α : Type} {E : El α} {w : World} {B : Nat} {v : Value} {l : List α} (h : E.Own w B v l) : ∃ A c, v = .slice A l.length c ∧ SlV E w A c l :=
  let ⟨A, c, e, h1, h2, h3⟩ := h.sl
  ⟨A, c, e, h1, h2, h3⟩
def mvPl (m : Mv) : Pl := ⟨m.K, m.U, m.s⟩
def unV (u : Un) : Value := .agg #[.int .i64 u.was.n, .int .i64 u.was.u, .string u.was.s, .bool u.had, .bool u.did]
def mvV (m : Mv) : Value := .agg #[.int .i64 m.C, .int .i64 m.D, .int .i64 m.I, .int .i64 m.M, .int .i64 m.K, .int .i64 m.U, .string m.s]
def plV (p : Pl) : Value := .agg #[.int .i64 p.n, .int .i64 p.u, .string p.s]

theorem below_own {w w1 w2 : World} {row : Option Nat} (h : Below w.heap.size w w1) (hg : w1.grownBy w2 row) (hrow : ∀ n, row = some n → w.heap.size ≤ n) : Below w.heap.size w w2 := h.grown hg h.size hrow

end Go.Proofs.Ytjjjpifdmgpnjaa

/- Reports in memory; what the program's functions shall answer (ReportCalls); the document's Right, Newer, Print, Same. -/
namespace Go.Proofs.Ytjjjpifdmgpnjaa
open Go.RowKit Cod

def rpE : El Rp where
  e := 37
  k := 9
  c r := [.int .i64 r.d, .int .i64 r.i, .int .i64 r.b, .int .i64 r.t, .int .i64 r.m, .int .i64 r.p, .int .i64 r.c, .int .i64 r.s, .int .i64 r.k]
  len _ := rfl
  one p u h := by
    simp only [List.mem_cons, List.not_mem_nil, or_false] at h
    rcases h with rfl | rfl | rfl | rfl | rfl | rfl | rfl | rfl | rfl <;> rfl
  pos := by decide
theorem rpRow : rpE.Row Try.prog := ⟨by kernel_rfl, _, Try.underlying37, rfl⟩
theorem rpIn9 {w : World} {b : Nat} {r : Rp} (h : rpE.In w b r) : w.cell? ⟨b, 0, none⟩ = some (.int .i64 r.d) ∧ w.cell? ⟨b, 1, none⟩ = some (.int .i64 r.i) ∧ w.cell? ⟨b, 2, none⟩ = some (.int .i64 r.b) ∧ w.cell? ⟨b, 3, none⟩ = some (.int .i64 r.t) ∧ w.cell? ⟨b, 4, none⟩ = some (.int .i64 r.m) ∧ w.cell? ⟨b, 5, none⟩ = some (.int .i64 r.p) ∧ w.cell? ⟨b, 6, none⟩ = some (.int .i64 r.c) ∧ w.cell? ⟨b, 7, none⟩ = some (.int .i64 r.s) ∧ w.cell? ⟨b, 8, none⟩ = some (.int .i64 r.k) :=
  ⟨h.cell 0, h.cell 1, h.cell 2, h.cell 3, h.cell 4, h.cell 5, h.cell 6, h.cell 7, h.cell 8⟩
theorem rpAt9 {w : World} {b o : Nat} {r : Rp} (h : rpE.At w b o r) : w.cell? ⟨b, o, none⟩ = some (.int .i64 r.d) ∧ w.cell? ⟨b, o + 1, none⟩ = some (.int .i64 r.i) ∧ w.cell? ⟨b, o + 2, none⟩ = some (.int .i64 r.b) ∧ w.cell? ⟨b, o + 3, none⟩ = some (.int .i64 r.t) ∧ w.cell? ⟨b, o + 4, none⟩ = some (.int .i64 r.m) ∧ w.cell? ⟨b, o + 5, none⟩ = some (.int .i64 r.p) ∧ w.cell? ⟨b, o + 6, none⟩ = some (.int .i64 r.c) ∧ w.cell? ⟨b, o + 7, none⟩ = some (.int .i64 r.s) ∧ w.cell? ⟨b, o + 8, none⟩ = some (.int .i64 r.k) :=
  ⟨h 0 _ rfl, h 1 _ rfl, h 2 _ rfl, h 3 _ rfl, h 4 _ rfl, h 5 _ rfl, h 6 _ rfl, h 7 _ rfl, h 8 _ rfl⟩
def RpW (r : Rp) : Prop := ∀ n ∈ rpL r, i64 n
def rpStep (s : ByteArray) (p : Nat) (bad : Bool) (x : Rp) (q : Nat) (bad' : Bool) : Prop := (isRp s p bad = some (x, q) ∧ bad' = false) ∨ (isRp s p bad = none ∧ x = zeroRp ∧ bad' = true)
def rp7 (r : Rp) : List Int := [r.i, r.b, r.t, r.p, r.c, r.s, r.k]
def headB (r : Rp) : Bool := decide (0 ≤ r.d ∧ r.d < 12 ∧ 1 ≤ r.i ∧ (r.m = 1 ∨ r.m = 2))
theorem rpB_eq (r : Rp) : rpB r = (headB r && (rp7 r).all cnt0) := by
  unfold rpB headB rp7
  simp [List.all_cons]
theorem rpB_out {r : Rp} {k : Nat} (h : k < 7) (hn : cnt0 ((rp7 r).getD k 0) = false) : rpB r = false := by
  rw [rpB_eq]
  have h1 : (rp7 r).all cnt0 = false := by
    rw [Bool.eq_false_iff]; intro ha
    rw [List.all_eq_true] at ha
    have := ha ((rp7 r).getD k 0) (by
      rw [List.getD_eq_getElem?_getD, List.getElem?_eq_getElem (by simpa [rp7] using h)]
      exact List.getElem_mem _)
    rw [hn] at this; cases this
  rw [h1, Bool.and_false]
theorem rpB_in {r : Rp} (h : ∀ k, k < 7 → cnt0 ((rp7 r).getD k 0) = true) : rpB r = headB r := by
  rw [rpB_eq]
  have h1 : (rp7 r).all cnt0 = true := by
    rw [List.all_eq_true]
    intro n hn
    obtain ⟨k, hk, rfl⟩ := List.getElem_of_mem hn
    have h2 : k < 7 := by simpa [rp7] using hk
    have := h k h2
    rw [List.getD_eq_getElem?_getD, List.getElem?_eq_getElem hk] at this
    exact this
  rw [h1, Bool.and_true]
theorem idx7 (r : Rp) (w : World) : ∀ k, k < 7 → (Instr.index 69 (.agg #[.int .i64 r.i, .int .i64 r.b, .int .i64 r.t, .int .i64 r.p, .int .i64 r.c, .int .i64 r.s, .int .i64 r.k]) (.int .i64 (k : Nat))).run Try.prog w = .ok (.int .i64 ((rp7 r).getD k 0)) w
  | 0, _ => by kernel_rfl
  | 1, _ => by kernel_rfl
  | 2, _ => by kernel_rfl
  | 3, _ => by kernel_rfl
  | 4, _ => by kernel_rfl
  | 5, _ => by kernel_rfl
  | 6, _ => by kernel_rfl
  | k + 7, h => absurd h (by omega)
theorem idx9 (r : Rp) (w : World) : ∀ k, k < 9 → (Instr.index 73 (.agg #[.int .i64 r.d, .int .i64 r.i, .int .i64 r.b, .int .i64 r.t, .int .i64 r.m, .int .i64 r.p, .int .i64 r.c, .int .i64 r.s, .int .i64 r.k]) (.int .i64 (k : Nat))).run Try.prog w = .ok (.int .i64 ((rpL r).getD k 0)) w
  | 0, _ => by kernel_rfl
  | 1, _ => by kernel_rfl
  | 2, _ => by kernel_rfl
  | 3, _ => by kernel_rfl
  | 4, _ => by kernel_rfl
  | 5, _ => by kernel_rfl
  | 6, _ => by kernel_rfl
  | 7, _ => by kernel_rfl
  | 8, _ => by kernel_rfl
  | k + 9, h => absurd h (by omega)
end Go.Proofs.Ytjjjpifdmgpnjaa

/- A fleet's shape as a list of parents: kids, depth, kinds, who is below whom; what follows of a plan that may be. No call in it. -/
namespace Pln

/-- Of nodes from 1 on: those whose Up this is, rising. -/
def kidsN (u : List Int) (n : Int) : List Nat := (List.range u.length).filter fun i => decide (0 < i) && decide (u.getD i 0 = n)
def deepF (u : List Int) : Nat → Int → Nat
  | 0, _ => 0
  | f + 1, n => if 0 < n ∧ n < u.length ∧ u.getD n.toNat 0 < n then deepF u f (u.getD n.toNat 0) + 1 else 0
def deepL (u : List Int) (n : Int) : Nat := deepF u u.length n
def deepest (u : List Int) : Nat := (List.range u.length).foldl (fun (m i : Nat) => max m (deepL u (i : Int))) 0
def kindL (u : List Int) (n : Int) : Int := if n < 0 ∨ (u.length : Int) ≤ n then 0 else if n = 0 then 1 else if (kidsN u n).length = 0 then 3 else 2
def devsN (u : List Int) : List Nat := (List.range u.length).filter fun i => decide (kindL u i = 3)
def belowF (u : List Int) : Nat → Int → Int → Bool
  | 0, _, _ => false
  | f + 1, n, top => if 0 ≤ n ∧ n < u.length then if n = top then true else if n ≤ u.getD n.toNat 0 then false else belowF u f (u.getD n.toNat 0) top else false
def belowU (u : List Int) (n top : Int) : Bool := belowF u (u.length + 1) n top

structure Pn where
  u : List Int
  q : Int
  r : Int
  b : Int
  l : Int
  w : Int
  c : Int
  k : Int
  i : Int
/-- Each node's Up but node 0's is one ahead of it. -/
def Par (u : List Int) : Prop := ∀ i : Nat, 0 < i → i < u.length → 0 ≤ u.getD i 0 ∧ u.getD i 0 < i
structure Right (p : Pn) : Prop where
  n2 : 2 ≤ p.u.length
  n12 : p.u.length ≤ 12
  up0 : p.u.getD 0 0 = -1
  par : Par p.u
  deep : ∀ i : Nat, i < p.u.length → deepL p.u i ≤ 4
  kids : ∀ i : Nat, i < p.u.length → (kidsN p.u i).length ≤ 4
  devs : (devsN p.u).length ≤ 8
  q : 1 ≤ p.q ∧ p.q ≤ 8
  r : 1 ≤ p.r ∧ p.r ≤ 16
  b : 1 ≤ p.b ∧ p.b ≤ 8
  w : 1 ≤ p.w ∧ p.w ≤ 8
  c : 16 ≤ p.c ∧ p.c ≤ 256
  k : 1 ≤ p.k ∧ p.k ≤ 16
  i : 3 ≤ p.i ∧ p.i ≤ 64
  l : 2 * (deepest p.u : Int) * (p.w + 2) < p.l ∧ p.l ≤ 1000

theorem mem_kids {u : List Int} {n : Int} {j : Nat} : j ∈ kidsN u n ↔ 0 < j ∧ j < u.length ∧ u.getD j 0 = n := by
  unfold kidsN
  rw [List.mem_filter, List.mem_range, Bool.and_eq_true, decide_eq_true_iff, decide_eq_true_iff]
  exact ⟨fun ⟨a, b, c⟩ => ⟨b, a, c⟩, fun ⟨b, a, c⟩ => ⟨a, b, c⟩⟩
theorem kids_nodup (u : List Int) (n : Int) : (kidsN u n).Nodup := List.nodup_range.filter _
theorem devs_nodup (u : List Int) : (devsN u).Nodup := List.nodup_range.filter _
theorem mem_devs {u : List Int} {j : Nat} : j ∈ devsN u ↔ j < u.length ∧ kindL u j = 3 := by
  unfold devsN
  rw [List.mem_filter, List.mem_range, decide_eq_true_iff]

/-- The depth needs no more looks than the node's number. -/
theorem deepF_at {u : List Int} (hp : Par u) : ∀ (m f : Nat) (i : Nat), i ≤ m → i ≤ f → deepF u f i = deepF u i i
  | m, f, 0, _, _ => by
    cases f with
    | zero => rfl
    | succ f => unfold deepF; rw [if_neg (by omega)]
  | m, f, i + 1, hm, hf => by
    obtain ⟨g, rfl⟩ : ∃ g, f = g + 1 := ⟨f - 1, by omega⟩
    unfold deepF
    have et : ((i + 1 : Nat) : Int).toNat = i + 1 := by omega
    rw [et]
    by_cases h : 0 < ((i + 1 : Nat) : Int) ∧ ((i + 1 : Nat) : Int) < u.length ∧ u.getD (i + 1) 0 < ((i + 1 : Nat) : Int)
    · rw [if_pos h, if_pos h]
      obtain ⟨h1, h2⟩ := hp (i + 1) (by omega) (by omega)
      obtain ⟨j, hj⟩ : ∃ j : Nat, u.getD (i + 1) 0 = j := ⟨(u.getD (i + 1) 0).toNat, by omega⟩
      rw [hj]
      cases m with
      | zero => omega
      | succ m => rw [deepF_at hp m g j (by omega) (by omega), deepF_at hp m i j (by omega) (by omega)]
    · rw [if_neg h, if_neg h]
theorem deep_zero (u : List Int) : deepL u 0 = 0 := by
  unfold deepL
  cases u.length with
  | zero => rfl
  | succ f => unfold deepF; rw [if_neg (by omega)]
theorem deep_kid {u : List Int} (hp : Par u) {i j : Nat} (h0 : 0 < j) (hj : j < u.length) (hu : u.getD j 0 = i) : deepL u j = deepL u i + 1 := by
  obtain ⟨h1, h2⟩ := hp j h0 hj
  unfold deepL
  obtain ⟨f, hf⟩ : ∃ f, u.length = f + 1 := ⟨u.length - 1, by omega⟩
  have e1 := deepF_at hp u.length u.length i (by omega) (by omega)
  have e2 := deepF_at hp u.length f i (by omega) (by omega)
  rw [e1, ← e2, hf]
  conv => lhs; unfold deepF
  have et : ((j : Nat) : Int).toNat = j := by omega
  rw [et, hu, if_pos ⟨by omega, by omega, by omega⟩]
theorem foldl_max_le (g : Nat → Nat) : ∀ (l : List Nat) (m : Nat), m ≤ l.foldl (fun m i => max m (g i)) m ∧ ∀ i ∈ l, g i ≤ l.foldl (fun m i => max m (g i)) m
  | [], m => ⟨Nat.le_refl _, fun i h => by cases h⟩
  | a :: l, m => by
    obtain ⟨h1, h2⟩ := foldl_max_le g l (max m (g a))
    rw [List.foldl_cons]
    refine ⟨by omega, fun i hi => ?_⟩
    rcases List.mem_cons.1 hi with rfl | hi
    · omega
    · exact h2 i hi
theorem foldl_max_bd (g : Nat → Nat) (B : Nat) : ∀ (l : List Nat) (m : Nat), m ≤ B → (∀ i ∈ l, g i ≤ B) → l.foldl (fun m i => max m (g i)) m ≤ B
  | [], m, hm, _ => hm
  | a :: l, m, hm, h => foldl_max_bd g B l _ (by have := h a (by simp); show max m (g a) ≤ B; omega) (fun i hi => h i (by simp [hi]))
theorem deep_le {u : List Int} {i : Nat} (h : i < u.length) : deepL u i ≤ deepest u := (foldl_max_le (fun i : Nat => deepL u (i : Int)) (List.range u.length) 0).2 i (List.mem_range.2 h)
theorem deepest_le {u : List Int} {B : Nat} (h : ∀ i : Nat, i < u.length → deepL u i ≤ B) : deepest u ≤ B := foldl_max_bd (fun i : Nat => deepL u (i : Int)) B _ 0 (Nat.zero_le _) fun i hi => h i (List.mem_range.1 hi)

/-- Who is below whom, by so many looks as the node's number. -/
theorem belowF_at {u : List Int} (hp : Par u) (h0 : u.getD 0 0 < 0) (top : Int) : ∀ (m f : Nat) (i : Nat), i ≤ m → i < f → belowF u f i top = belowF u (i + 1) i top
  | m, f, i, hm, hf => by
    obtain ⟨g, rfl⟩ : ∃ g, f = g + 1 := ⟨f - 1, by omega⟩
    unfold belowF
    have et : ((i : Nat) : Int).toNat = i := by omega
    rw [et]
    by_cases h : 0 ≤ (i : Int) ∧ (i : Int) < u.length
    · rw [if_pos h, if_pos h]
      by_cases ht : (i : Int) = top
      · rw [if_pos ht, if_pos ht]
      · rw [if_neg ht, if_neg ht]
        by_cases hu : (i : Int) ≤ u.getD i 0
        · rw [if_pos hu, if_pos hu]
        · rw [if_neg hu, if_neg hu]
          by_cases hi : i = 0
          · subst hi
            have hneg : ∀ f, belowF u f (u.getD 0 0) top = false := fun f => by
              cases f with
              | zero => rfl
              | succ f => unfold belowF; rw [if_neg (by omega)]
            rw [hneg, hneg]
          · obtain ⟨h1, h2⟩ := hp i (by omega) (by omega)
            obtain ⟨j, hj⟩ : ∃ j : Nat, u.getD i 0 = j := ⟨(u.getD i 0).toNat, by omega⟩
            rw [hj]
            cases m with
            | zero => omega
            | succ m => rw [belowF_at hp h0 top m g j (by omega) (by omega), belowF_at hp h0 top m i j (by omega) (by omega)]
    · rw [if_neg h, if_neg h]
theorem below_self {u : List Int} {i : Nat} (h : i < u.length) : belowU u i i = true := by
  unfold belowU belowF
  rw [if_pos ⟨by omega, by omega⟩, if_pos rfl]
theorem below_up {u : List Int} (hp : Par u) (h0 : u.getD 0 0 < 0) {j : Nat} (hj0 : 0 < j) (hj : j < u.length) {top : Int} (hne : (j : Int) ≠ top) : belowU u j top = belowU u (u.getD j 0) top := by
  obtain ⟨h1, h2⟩ := hp j hj0 hj
  unfold belowU
  obtain ⟨i, hi⟩ : ∃ i : Nat, u.getD j 0 = i := ⟨(u.getD j 0).toNat, by omega⟩
  rw [hi, belowF_at hp h0 top u.length (u.length + 1) i (by omega) (by omega), ← belowF_at hp h0 top u.length u.length i (by omega) (by omega)]
  conv => lhs; unfold belowF
  have et : ((j : Nat) : Int).toNat = j := by omega
  rw [et, hi, if_pos ⟨by omega, by omega⟩, if_neg hne, if_neg (by omega)]
theorem below_root {u : List Int} (hp : Par u) (h0 : u.getD 0 0 < 0) : ∀ (m j : Nat), j ≤ m → j < u.length → belowU u j 0 = true
  | m, 0, _, h => below_self h
  | m, j + 1, hm, h => by
    rw [below_up hp h0 (by omega) h (by omega)]
    obtain ⟨h1, h2⟩ := hp (j + 1) (by omega) h
    obtain ⟨i, hi⟩ : ∃ i : Nat, u.getD (j + 1) 0 = i := ⟨(u.getD (j + 1) 0).toNat, by omega⟩
    rw [hi]
    cases m with
    | zero => omega
    | succ m => exact below_root hp h0 m i (by omega) (by omega)
/-- Nobody is below one behind it. -/
theorem below_no {u : List Int} (hp : Par u) (h0 : u.getD 0 0 < 0) : ∀ (m i : Nat) (top : Nat), i ≤ m → i < u.length → i < top → belowU u i top = false
  | m, 0, top, _, h, ht => by
    unfold belowU belowF
    have e0 : ((0 : Nat) : Int).toNat = 0 := rfl
    rw [if_pos ⟨by omega, by omega⟩, if_neg (by omega), e0]
    rw [if_neg (by omega)]
    obtain ⟨f, hf⟩ : ∃ f, u.length = f + 1 := ⟨u.length - 1, by omega⟩
    rw [hf]
    unfold belowF
    rw [if_neg (by omega)]
  | m, i + 1, top, hm, h, ht => by
    rw [below_up hp h0 (by omega) h (by omega)]
    obtain ⟨h1, h2⟩ := hp (i + 1) (by omega) h
    obtain ⟨j, hj⟩ : ∃ j : Nat, u.getD (i + 1) 0 = j := ⟨(u.getD (i + 1) 0).toNat, by omega⟩
    rw [hj]
    cases m with
    | zero => omega
    | succ m => exact below_no hp h0 m j top (by omega) (by omega) (by omega)
theorem below_kid {u : List Int} (hp : Par u) (h0 : u.getD 0 0 < 0) {i j : Nat} (hj0 : 0 < j) (hj : j < u.length) (hu : u.getD j 0 = i) : belowU u j i = true := by
  obtain ⟨h1, h2⟩ := hp j hj0 hj
  rw [below_up hp h0 hj0 hj (by omega), hu]
  exact below_self (by omega)
end Pln
