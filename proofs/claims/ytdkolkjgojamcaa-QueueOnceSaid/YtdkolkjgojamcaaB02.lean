/- Texts laid one behind the other: Ck, Og, Frm, Ar, Oo, Oi, Ea, Qa, Ge, Gf, Tm, Ta, Tb, Th, Ti, Tj, Tt, Mm, Va, Vb, Vc, Vd, Ve, Vf, Vg. -/
import Derived.Test.YtdkolkjgojamcaaB01
import Derived.Test.YtdkolkjgojamcaaRows
import Derived.WalkKit
import Derived.ProofKit
import Derived.OpenShut
import Derived.ChangeSame
import Derived.Carry
import Derived.Lib.QuietBelow
import Derived.Lib.SmallJoins
import Derived.Deep.SlicePairs
import Derived.ChangeSlices
import Derived.ChangeShapes
import Derived.Maps.AppendAt
import Derived.Laws.OwnMore
import Derived.Lib.AppendZeros
import Derived.Laws.ResultCell
import Derived.Laws.CopyOwn
import Derived.Laws.CopyRow
import Derived.BigQuiet
import Derived.Deep.QuietTactic
import Derived.StillTailTactics
import Derived.Lib.Builder
import Derived.Deep.RegionHeld3
import Derived.Lib.SliceRun
/- Numbers, a text and a bool, one behind the other: what stands where. -/
namespace Go.Proofs.Ytdkolkjgojamcaa
open Go.RowKit Cod

theorem drop_of (A R : ByteArray) : (A ++ R).data.toList.drop A.size = R.data.toList := by
  rw [dl_app, ← dl_len A]; exact List.drop_left' rfl

theorem num_there (A Z : ByteArray) (n : Int) (h1 : -9223372036854775808 ≤ n) (h2 : n ≤ 9223372036854775807) : isNum (A ++ (bytesOf n ++ Z)) A.size false = some (n, A.size + (bytesOf n).size) := by
  unfold isNum
  rw [drop_of, dl_app, bytesOf_list, rd_enc n h1 h2, bytesOf_size]
  rfl

theorem count_there (A Z : ByteArray) (n most : Int) (h0 : 0 ≤ n) (h1 : n ≤ most) (h2 : n ≤ 9223372036854775807) : isCount (A ++ (bytesOf n ++ Z)) A.size false most = some (n, A.size + (bytesOf n).size) := by
  unfold isCount
  rw [num_there A Z n (by omega) h2]
  exact if_pos ⟨h0, h1⟩

theorem ext_there (A s Z : ByteArray) : (A ++ (s ++ Z)).extract A.size (A.size + s.size) = s := by
  apply dl_inj
  rw [ByteArray.data_extract, Array.toList_extract, List.extract_eq_take_drop, drop_of, dl_app]
  rw [Nat.add_sub_cancel_left, ← dl_len s]
  exact List.take_left' rfl

theorem text_there (A s Z : ByteArray) (most : Int) (h : (s.size : Int) ≤ most) (hs : s.size ≤ 1000000) : isText (A ++ (textOf s ++ Z)) A.size false most = some (s, A.size + (textOf s).size) := by
  unfold textOf isText
  rw [ByteArray.append_assoc, count_there A _ s.size most (by omega) h (by omega)]
  have e : A ++ (bytesOf s.size ++ (s ++ Z)) = (A ++ bytesOf s.size) ++ (s ++ Z) := by rw [ByteArray.append_assoc]
  have e2 : A.size + (bytesOf s.size).size = (A ++ bytesOf s.size).size := by rw [ByteArray.size_append]
  simp only [Int.toNat_natCast]
  have e3 : (s ++ Z).size = s.size + Z.size := ByteArray.size_append
  rw [if_pos (by rw [e, ByteArray.size_append, e2, e3]; omega), e2, e, ext_there, ByteArray.size_append, ByteArray.size_append, Nat.add_assoc]

theorem bool_there (A Z : ByteArray) (b : Bool) : isBool (A ++ (bitOf b ++ Z)) A.size false = some (b, A.size + (bitOf b).size) := by
  unfold isBool bitOf
  cases b
  · rw [count_there A Z _ 1 (by decide) (by decide) (by decide)]; rfl
  · rw [count_there A Z _ 1 (by decide) (by decide) (by decide)]; rfl

/-- The first k numbers, one behind the other. -/
def catF (f : Nat → Int) : Nat → ByteArray
  | 0 => ⟨#[]⟩
  | k + 1 => catF f k ++ bytesOf (f k)
def posF (f : Nat → Int) (k : Nat) : Nat := (catF f k).size
theorem pos_succ (f : Nat → Int) (k : Nat) : posF f (k + 1) = posF f k + (bytesOf (f k)).size := by
  unfold posF; rw [catF, ByteArray.size_append]

def Fits (f : Nat → Int) (n : Nat) : Prop := ∀ j, j < n → -9223372036854775808 ≤ f j ∧ f j ≤ 9223372036854775807
theorem cat_le (f : Nat → Int) (n : Nat) (h : Fits f n) : ∀ k, k ≤ n → (catF f k).size ≤ 10 * k
  | 0, _ => Nat.le_refl 0
  | k + 1, hk => by
    have h1 := cat_le f n h k (by omega)
    have h2 := h k (by omega)
    have h3 := bytesOf_le (f k) h2.1 h2.2
    rw [catF, ByteArray.size_append]; omega
theorem cat_rest (f : Nat → Int) (k : Nat) : ∀ n, k ≤ n → ∃ R, catF f n = catF f k ++ R
  | 0, h => by
    obtain rfl : k = 0 := by omega
    exact ⟨⟨#[]⟩, dl_inj (by rw [dl_app]; exact (List.append_nil _).symm)⟩
  | n + 1, h => by
    by_cases e : k = n + 1
    · subst e
      exact ⟨⟨#[]⟩, dl_inj (by rw [dl_app]; exact (List.append_nil _).symm)⟩
    · obtain ⟨R, hR⟩ := cat_rest f k n (by omega)
      exact ⟨R ++ bytesOf (f n), by rw [catF, hR, ByteArray.append_assoc]⟩

theorem cat_num (f : Nat → Int) (k n : Nat) (h : k < n) (hf : Fits f n) (Z : ByteArray) : isNum (catF f n ++ Z) (posF f k) false = some (f k, posF f (k + 1)) := by
  obtain ⟨R, hR⟩ := cat_rest f (k + 1) n (by omega)
  have hb := hf k h
  rw [hR, catF, ByteArray.append_assoc, ByteArray.append_assoc, pos_succ]
  exact num_there (catF f k) (R ++ Z) (f k) hb.1 hb.2

/-- All that stands behind each other, and what comes of it. -/
theorem tail_text (A s : ByteArray) (b : Bool) (hs : s.size ≤ 2000) : isText (A ++ textOf s ++ bitOf b) A.size false 2000 = some (s, A.size + (textOf s).size) := by
  rw [ByteArray.append_assoc]; exact text_there A s (bitOf b) 2000 (by omega) (by omega)
theorem tail_bool (A s : ByteArray) (b : Bool) : isBool (A ++ textOf s ++ bitOf b) (A.size + (textOf s).size) false = some (b, (A ++ textOf s ++ bitOf b).size) := by
  have h := bool_there (A ++ textOf s) ⟨#[]⟩ b
  have e : bitOf b ++ ⟨#[]⟩ = bitOf b := dl_inj (by rw [dl_app]; exact List.append_nil _)
  rw [e, ByteArray.size_append] at h
  rw [h, ByteArray.size_append, ByteArray.size_append]

theorem bit_size' (c : Bool) : (bitOf c).size = 1 := by
  unfold bitOf
  rw [bytesOf_size]
  cases c
  · rw [show fold (if false then 1 else 0) = 0 from rfl, enc_small (by decide)]; rfl
  · rw [show fold (if true then 1 else 0) = 2 from rfl, enc_small (by decide)]; rfl

end Go.Proofs.Ytdkolkjgojamcaa

/- An operation's bytes are read as it was; what is read has just these bytes; the document's examples hold. -/
namespace Go.Proofs.Ytdkolkjgojamcaa
open Go.RowKit Nam Cod

theorem opB_wide {C D I M K U : Int} {s : ByteArray} (h : opB C D I M K U s = true) : Wide C D I M K U ∧ 1 ≤ C ∧ s.size ≤ 16 ∧ 1 ≤ s.size := by
  unfold opB atB cntB mvB at h
  simp only [Bool.and_eq_true, decide_eq_true_iff] at h
  have hl := isName_len h.2.2.2.2
  rw [L_len] at hl
  exact ⟨⟨⟨by omega, by omega⟩, ⟨by omega, by omega⟩, ⟨by omega, by omega⟩, ⟨by omega, by omega⟩, ⟨by omega, by omega⟩, ⟨by omega, by omega⟩⟩, by omega, by omega, by omega⟩

theorem num_at (X A Z : ByteArray) (n : Int) (p : Nat) (hX : X = A ++ (bytesOf n ++ Z)) (hp : p = A.size) (h : i64 n) : isNum X p false = some (n, p + (bytesOf n).size) := by
  subst hX hp; exact num_there A Z n h.1 h.2

theorem op_there (A Z : ByteArray) (C D I M K U : Int) (s : ByteArray) (h : opB C D I M K U s = true) :
    isOp (A ++ (printOf C D I M K U s ++ Z)) A.size false = some (⟨C, D, I, M, K, U, s⟩, A.size + (printOf C D I M K U s).size) := by
  obtain ⟨⟨c, d, i, m, k, u⟩, _, hs, _⟩ := opB_wide h
  unfold printOf
  have assoc : ∀ x y z : ByteArray, x ++ y ++ z = x ++ (y ++ z) := fun x y z => ByteArray.append_assoc
  have h1 := num_at (A ++ (bytesOf C ++ bytesOf D ++ bytesOf I ++ bytesOf M ++ bytesOf K ++ bytesOf U ++ textOf s ++ Z)) A (bytesOf D ++ bytesOf I ++ bytesOf M ++ bytesOf K ++ bytesOf U ++ textOf s ++ Z) C A.size (by simp only [assoc]) rfl c
  have h2 := num_at (A ++ (bytesOf C ++ bytesOf D ++ bytesOf I ++ bytesOf M ++ bytesOf K ++ bytesOf U ++ textOf s ++ Z)) (A ++ bytesOf C) (bytesOf I ++ bytesOf M ++ bytesOf K ++ bytesOf U ++ textOf s ++ Z) D (A.size + (bytesOf C).size) (by simp only [assoc]) (by rw [ByteArray.size_append]) d
  have h3 := num_at (A ++ (bytesOf C ++ bytesOf D ++ bytesOf I ++ bytesOf M ++ bytesOf K ++ bytesOf U ++ textOf s ++ Z)) (A ++ bytesOf C ++ bytesOf D) (bytesOf M ++ bytesOf K ++ bytesOf U ++ textOf s ++ Z) I (A.size + (bytesOf C).size + (bytesOf D).size) (by simp only [assoc]) (by simp only [ByteArray.size_append]) i
  have h4 := num_at (A ++ (bytesOf C ++ bytesOf D ++ bytesOf I ++ bytesOf M ++ bytesOf K ++ bytesOf U ++ textOf s ++ Z)) (A ++ bytesOf C ++ bytesOf D ++ bytesOf I) (bytesOf K ++ bytesOf U ++ textOf s ++ Z) M (A.size + (bytesOf C).size + (bytesOf D).size + (bytesOf I).size) (by simp only [assoc]) (by simp only [ByteArray.size_append]) m
  have h5 := num_at (A ++ (bytesOf C ++ bytesOf D ++ bytesOf I ++ bytesOf M ++ bytesOf K ++ bytesOf U ++ textOf s ++ Z)) (A ++ bytesOf C ++ bytesOf D ++ bytesOf I ++ bytesOf M) (bytesOf U ++ textOf s ++ Z) K (A.size + (bytesOf C).size + (bytesOf D).size + (bytesOf I).size + (bytesOf M).size) (by simp only [assoc]) (by simp only [ByteArray.size_append]) k
  have h6 := num_at (A ++ (bytesOf C ++ bytesOf D ++ bytesOf I ++ bytesOf M ++ bytesOf K ++ bytesOf U ++ textOf s ++ Z)) (A ++ bytesOf C ++ bytesOf D ++ bytesOf I ++ bytesOf M ++ bytesOf K) (textOf s ++ Z) U (A.size + (bytesOf C).size + (bytesOf D).size + (bytesOf I).size + (bytesOf M).size + (bytesOf K).size) (by simp only [assoc]) (by simp only [ByteArray.size_append]) u
  have h7 := text_there (A ++ bytesOf C ++ bytesOf D ++ bytesOf I ++ bytesOf M ++ bytesOf K ++ bytesOf U) s Z 16 (by omega) (by omega)
  rw [show A ++ bytesOf C ++ bytesOf D ++ bytesOf I ++ bytesOf M ++ bytesOf K ++ bytesOf U ++ (textOf s ++ Z) = A ++ (bytesOf C ++ bytesOf D ++ bytesOf I ++ bytesOf M ++ bytesOf K ++ bytesOf U ++ textOf s ++ Z) by simp only [assoc],
    show (A ++ bytesOf C ++ bytesOf D ++ bytesOf I ++ bytesOf M ++ bytesOf K ++ bytesOf U).size = A.size + (bytesOf C).size + (bytesOf D).size + (bytesOf I).size + (bytesOf M).size + (bytesOf K).size + (bytesOf U).size by simp only [ByteArray.size_append]] at h7
  unfold isOp
  simp only [h1, h2, h3, h4, h5, h6, h7, Option.bind_some, h, if_true]
  simp only [ByteArray.size_append, Nat.add_assoc]

theorem num_bytes {s : ByteArray} {p : Nat} {bad : Bool} {n : Int} {q : Nat} (h : isNum s p bad = some (n, q)) : (L s).drop p = L (bytesOf n) ++ (L s).drop q := by
  obtain ⟨_, ⟨m, hr, rfl⟩, _⟩ := isNum_some h
  have h1 := (rd_some hr).1
  show s.data.toList.drop p = enc (fold n) ++ s.data.toList.drop (p + m)
  rw [← h1, ← List.drop_drop, List.take_append_drop]
theorem text_bytes {s : ByteArray} {p : Nat} {bad : Bool} {m : Int} {t : ByteArray} {q : Nat} (h : isText s p bad m = some (t, q)) : (L s).drop p = L (textOf t) ++ (L s).drop q := by
  obtain ⟨n, q0, h1, h2, rfl, rfl⟩ := isText_some h
  have hz : (s.extract q0 (q0 + n)).size = n := by rw [ByteArray.size_extract]; omega
  unfold textOf
  rw [num_bytes (isCount_some h1).1, L_app, hz, List.append_assoc]
  congr 1
  have e : L (s.extract q0 (q0 + n)) = ((L s).drop q0).take n := by
    unfold L
    simp [ByteArray.data_extract, List.extract_eq_take_drop]
  rw [e, ← List.drop_drop, List.take_append_drop]
theorem op_bytes {s : ByteArray} {p : Nat} {bad : Bool} {o : Mv} {q : Nat} (h : isOp s p bad = some (o, q)) : opB o.C o.D o.I o.M o.K o.U o.s = true ∧ (L s).drop p = L (printOf o.C o.D o.I o.M o.K o.U o.s) ++ (L s).drop q := by
  unfold isOp at h
  simp only [Option.bind_eq_some_iff] at h
  obtain ⟨⟨a1, p1⟩, h1, ⟨a2, p2⟩, h2, ⟨a3, p3⟩, h3, ⟨a4, p4⟩, h4, ⟨a5, p5⟩, h5, ⟨a6, p6⟩, h6, ⟨a7, p7⟩, h7, h8⟩ := h
  simp only at h1 h2 h3 h4 h5 h6 h7 h8
  by_cases hb : opB a1 a2 a3 a4 a5 a6 a7 = true
  · rw [if_pos hb] at h8
    cases h8
    refine ⟨hb, ?_⟩
    unfold printOf
    simp only [L_app, List.append_assoc]
    rw [num_bytes h1, num_bytes h2, num_bytes h3, num_bytes h4, num_bytes h5, num_bytes h6, text_bytes h7]
  · rw [if_neg hb] at h8; cases h8
theorem parse_bytes {s : ByteArray} {o : Mv} (h : parseOf s = some o) : opB o.C o.D o.I o.M o.K o.U o.s = true ∧ printOf o.C o.D o.I o.M o.K o.U o.s = s := by
  unfold parseOf at h
  simp only [Option.bind_eq_some_iff] at h
  obtain ⟨⟨o', q⟩, h1, h2⟩ := h
  simp only at h2
  by_cases hq : q = s.size
  · rw [if_pos hq] at h2
    cases h2
    obtain ⟨hb, hl⟩ := op_bytes h1
    refine ⟨hb, L_inj ?_⟩
    rw [hq, List.drop_zero, List.drop_eq_nil_of_le (by rw [L_len]; exact Nat.le_refl _), List.append_nil] at hl
    exact hl.symm
  · rw [if_neg hq] at h2; cases h2
theorem op_self {C D I M K U : Int} {s : ByteArray} (h : opB C D I M K U s = true) : isOp (printOf C D I M K U s) 0 false = some (⟨C, D, I, M, K, U, s⟩, (printOf C D I M K U s).size) := by
  have := op_there ⟨#[]⟩ ⟨#[]⟩ C D I M K U s h
  have e : (⟨#[]⟩ : ByteArray) ++ (printOf C D I M K U s ++ ⟨#[]⟩) = printOf C D I M K U s := by apply L_inj; rw [L_app, L_app]; simp [L]
  rw [e, show (ByteArray.mk #[]).size = 0 from rfl, Nat.zero_add] at this
  exact this
theorem parse_self {C D I M K U : Int} {s : ByteArray} (h : opB C D I M K U s = true) : parseOf (printOf C D I M K U s) = some ⟨C, D, I, M, K, U, s⟩ := by
  unfold parseOf; rw [op_self h]; simp
theorem print_inj {C D I M K U C' D' I' M' K' U' : Int} {s s' : ByteArray} (h : opB C D I M K U s = true) (h' : opB C' D' I' M' K' U' s' = true) (e : printOf C D I M K U s = printOf C' D' I' M' K' U' s') :
    C = C' ∧ D = D' ∧ I = I' ∧ M = M' ∧ K = K' ∧ U = U' ∧ s = s' := by
  have a := parse_self h
  rw [e, parse_self h'] at a
  cases a
  exact ⟨rfl, rfl, rfl, rfl, rfl, rfl, rfl⟩

theorem right_ex : opB 3 1 1 2 5 0 ⟨#[97]⟩ = true := by decide +kernel
theorem enc_6 : enc 6 = [6] := by rw [enc_small (by decide)]; rfl
theorem enc_2 : enc 2 = [2] := by rw [enc_small (by decide)]; rfl
theorem enc_4 : enc 4 = [4] := by rw [enc_small (by decide)]; rfl
theorem enc_10 : enc 10 = [10] := by rw [enc_small (by decide)]; rfl
theorem enc_0 : enc 0 = [0] := by rw [enc_small (by decide)]; rfl
theorem print_ex : printOf 3 1 1 2 5 0 ⟨#[97]⟩ = ⟨#[6, 2, 2, 4, 10, 0, 2, 97]⟩ := by
  apply L_inj
  unfold printOf textOf
  simp only [L_app]
  have l3 : L (bytesOf 3) = [6] := enc_6
  have l1 : L (bytesOf 1) = [2] := enc_2
  have l2 : L (bytesOf 2) = [4] := enc_4
  have l5 : L (bytesOf 5) = [10] := enc_10
  have l0 : L (bytesOf 0) = [0] := enc_0
  have lz : L (bytesOf ((ByteArray.mk #[97]).size : Int)) = [2] := enc_2
  rw [l3, l1, l2, l5, l0, lz]; rfl
theorem parse_ex : parseOf ⟨#[6, 2, 2, 4, 10, 0, 2, 97]⟩ = some ⟨3, 1, 1, 2, 5, 0, ⟨#[97]⟩⟩ := by rw [← print_ex]; exact parse_self right_ex
end Go.Proofs.Ytdkolkjgojamcaa

/- The frame of a law that reads its arguments, makes memory of its own, and answers true: its row's end, out of 'Below' alone. -/
namespace Go.Proofs.Ytdkolkjgojamcaa.Frm
open Go.ChangeShapes Go.WideShapes Go.ChangeAt Go.RowKit

section
variable {H : Type} {enc : TypeId × Value → H} {P : Program}

/-- Each type of a list can be read, and is a row of the table. -/
def rowed (P : Program) (ts : List TypeId) : Bool := ts.all fun t => P.readableRec t && decide (t < P.types.size)

theorem trodAll_below (hl : laidOutB P = true) {W W' : World} (hb : Below W.heap.size W W') (sp : Nat → Bool) :
    ∀ {ts : List TypeId} {vs : List Value} {ds : List (DataW H)} {ps : List MemPlace}, rowed P ts = true → DataW.TrodAll enc P W 0 (fun _ => true) true ts vs ds ps → (∀ p ∈ ps, p.block < W.heap.size) → (∀ p ∈ ps, sp p.block = true) →
      DataW.TrodAll enc P W' 0 sp true ts vs ds ps
  | [], [], [], _, _, h, _, _ => h
  | [], [], _ :: _, _, _, h, _, _ => h.elim
  | [], _ :: _, _, _, _, h, _, _ => h.elim
  | _ :: _, [], _, _, _, h, _, _ => h.elim
  | _ :: _, _ :: _, [], _, _, h, _, _ => h.elim
  | t :: ts, v :: vs, d :: ds, ps, hr, h, hlt, hsp => by
    obtain ⟨p, q, h1, h2, rfl⟩ := h
    simp only [rowed, List.all_cons, Bool.and_eq_true, decide_eq_true_iff] at hr
    refine ⟨p, q, ?_, trodAll_below hl hb sp (by simpa [rowed] using hr.2) h2 (fun x hx => hlt x (by simp [hx])) (fun x hx => hsp x (by simp [hx])), rfl⟩
    exact WideElems.Trod_stays hl hr.1.1 hr.1.2 h1 (fun x hx => hb.same (hlt x (by simp [hx]))) (fun x hx => hsp x (by simp [hx]))

/-- THE ROW's END: what was there has not turned, the answer is true, the arguments read as they did. -/
theorem law_post {f : Func} {s : ChangeSpec} {apart fresh handsOn again : Bool} {W W' : World} {args : Array Value} {ds gs : List (DataW H)} {before : List MemPlace} {tb : TypeId}
    (hl : laidOutB P = true) (hrow : rowed P f.params.toList = true) (hres : f.resultTypes = #[tb]) (hbool : P.underlying tb = some .bool) (hvars : s.vars = [])
    (hspec : s.fn H ds = { results := [.lit (.bool true)], args := ds })
    (hW : DataW.Whole enc P f.params.toList s.vars apart W args.toList ds gs before) (hb : Below W.heap.size W W') :
    s.post enc P f apart fresh handsOn again W args (.bool true) W' := by
  have hlt : ∀ p ∈ before, p.block < W.heap.size := fun p hp => hW.lt p hp
  have hold : ∀ p ∈ before, (fun b => decide (b < W.heap.size)) p.block = true := fun p hp => by simpa using hlt p hp
  obtain ⟨p, q, hA, hV, hpq, hfz, hnd⟩ := hW
  have hgs : gs = [] ∧ q = [] := by rw [hvars] at hV; exact trodVars_none hV
  obtain ⟨rfl, rfl⟩ := hgs
  rw [List.append_nil] at hpq
  subst hpq
  have hs2 : (s.fn H (ds ++ [])).results = [.lit (.bool true)] := by rw [List.append_nil, hspec]
  have hs3 : (s.fn H (ds ++ [])).args = ds := by rw [List.append_nil, hspec]
  have hs4 : (s.fn H (ds ++ [])).vars = [] := by rw [List.append_nil, hspec]
  have hargs : ∀ sp : Nat → Bool, (∀ p ∈ before, sp p.block = true) → DataW.TrodAll enc P W' 0 sp true f.params.toList args.toList (s.fn H (ds ++ [])).args before := by
    intro sp hsp
    rw [hs3]
    exact trodAll_below hl hb sp hrow hA hlt hsp
  have hR : ∀ (b : Nat) (sp : Nat → Bool) (hd : Bool), DataW.TrodAll enc P W' b sp hd f.resultTypes.toList ((Value.bool true).resultList f.resultTypes.size) (s.fn H (ds ++ [])).results [] := by
    intro b sp hd
    rw [hs2, hres]
    exact trodAll_mk1 (shut_bool hbool true)
  have hvr : ∀ sp : Nat → Bool, DataW.TrodVars enc P W' sp s.vars (s.fn H (ds ++ [])).vars [] := by
    intro sp; rw [hs4, hvars]; rfl
  have hW0 : DataW.Whole enc P f.params.toList s.vars apart W args.toList ds [] before := ⟨before, [], hA, hV, by simp, hfz, hnd⟩
  refine ⟨ds, [], before, [], before, [], hW0, hR _ _ _, hargs _ hold, hvr _, World.keptBut_mono (fun p hp => ⟨hp, by simpa using hp⟩) (hb.frame (· ∈ before)), fun _ => ?_⟩
  refine ⟨ok_one hres rfl (okWide_bool_mk hbool true), _, _, ([] ++ before) ++ [], ⟨[] ++ before, [], trodAll_append (hargs _ (fun _ _ => rfl)) (hR _ _ _), hvr _, rfl, ?_, ?_⟩, ?_⟩
  · intro b off hp
    have hin : MemPlace.cell b off ∈ before := by simpa using hp
    rw [hb.frozen (hlt _ hin)]
    exact hfz b off hin
  · intro ha
    simpa using hnd ha
  · intro p hp _
    simpa using hp

end
end Go.Proofs.Ytdkolkjgojamcaa.Frm

/- How words and texts among the arguments of the laws are opened. -/
namespace Go.Proofs.Ytdkolkjgojamcaa
open Go.ChangeShapes Go.WideShapes Go.ChangeAt Go.RowKit Go.Deep

theorem own : ownKnob Try.prog.godebug = none := by kernel_rfl
theorem cells3 : Try.prog.cellsOf 3 = 1 := by kernel_rfl
theorem cells4 : Try.prog.cellsOf 4 = 1 := by kernel_rfl
theorem cells5 : Try.prog.cellsOf 5 = 1 := by kernel_rfl
theorem cells9 : Try.prog.cellsOf 9 = 1 := by kernel_rfl

set_option maxRecDepth 100000 in
theorem open_str {H : Type} {enc : TypeId × Value → H} {W : World} {base : Nat} {sp : Nat → Bool} {v : Value} {d : DataW H} {ps : List MemPlace}
    (hv : Value.okWide Try.prog W .any base 9 v) (h : DataW.Trod enc Try.prog W 0 sp true 9 v d ps) : ∃ s : ByteArray, v = .string s ∧ s.size ≤ maxLen := by
  obtain ⟨s, rfl, _, _, hs⟩ := ChangeMaps.open_string Try.underlying9 hv h
  exact ⟨s, rfl, hs⟩

set_option maxRecDepth 100000 in
theorem open_i64 {H : Type} {enc : TypeId × Value → H} {W : World} {base : Nat} {sp : Nat → Bool} {v : Value} {d : DataW H} {ps : List MemPlace}
    (hv : Value.okWide Try.prog W .any base 3 v) (h : DataW.Trod enc Try.prog W 0 sp true 3 v d ps) : ∃ n : Int, v = .int .i64 n ∧ i64 n := by
  obtain ⟨a, rfl, _, _, wf⟩ := open_int Try.underlying3 hv h
  have hb := bounds_i64 wf
  exact ⟨a, rfl, by omega, by omega⟩

end Go.Proofs.Ytdkolkjgojamcaa

/- How the arguments of the laws are opened. -/
namespace Go.Proofs.Ytdkolkjgojamcaa
open Go.ChangeShapes Go.WideShapes Go.ChangeAt Go.RowKit Go.Deep Nam Cod

theorem cells25 : Try.prog.cellsOf 35 = 7 := by kernel_rfl
theorem cells23 : Try.prog.cellsOf 33 = 2 := by kernel_rfl

set_option maxRecDepth 100000 in
/-- Seven cells that read as an operation. -/
theorem read_op {H : Type} {enc : TypeId × Value → H} {W : World} {base : Nat} {sp : Nat → Bool} {held : Bool} {fuel : Nat} {cs : List Value} {x : DataW H × List MemPlace}
    (h : DataW.trod enc Try.prog W base sp held fuel 35 cs = some x) : ∃ (C D I M K U : Int) (s : ByteArray), cs = [.int .i64 C, .int .i64 D, .int .i64 I, .int .i64 M, .int .i64 K, .int .i64 U, .string s] ∧ Wide C D I M K U ∧ s.size ≤ maxLen := by
  obtain ⟨xs, n, _, _, hl, hlen, hf⟩ := DataW.trod_struct Try.underlying35 h
  have hl7 : cs.length = 7 := hl.trans cells25
  have hl6 : xs.length = 6 := hlen
  match cs, hl7, xs, hl6 with
  | [c0, c1, c2, c3, c4, c5, c6], _, [y0, y1, y2, y3, y4, y5], _ =>
    have h0 := hf 0 _ rfl
    have h1 := hf 1 _ rfl
    have h2 := hf 2 _ rfl
    have h3 := hf 3 _ rfl
    have h4 := hf 4 _ rfl
    have h5 := hf 5 _ rfl
    simp [cells23, cells3, cells9] at h0 h1 h2 h3 h4 h5
    obtain ⟨zs, n', _, _, _, hlen2, hg⟩ := DataW.trod_struct Try.underlying33 h0
    have hl2 : zs.length = 2 := hlen2
    match zs, hl2 with
    | [z0, z1], _ =>
      have g0 := hg 0 _ rfl
      have g1 := hg 1 _ rfl
      simp [cells3] at g0 g1
      obtain ⟨C, e0, _, w0⟩ := DataW.trod_int Try.underlying3 g0
      obtain ⟨D, e1, _, w1⟩ := DataW.trod_int Try.underlying3 g1
      obtain ⟨I, e2, _, w2⟩ := DataW.trod_int Try.underlying3 h1
      obtain ⟨M, e3, _, w3⟩ := DataW.trod_int Try.underlying3 h2
      obtain ⟨K, e4, _, w4⟩ := DataW.trod_int Try.underlying3 h3
      obtain ⟨U, e5, _, w5⟩ := DataW.trod_int Try.underlying3 h4
      obtain ⟨s, e6, _, w6⟩ := DataW.trod_string Try.underlying9 h5
      simp at e0 e1 e2 e3 e4 e5 e6
      subst e0 e1 e2 e3 e4 e5 e6
      have b0 := bounds_i64 w0
      have b1 := bounds_i64 w1
      have b2 := bounds_i64 w2
      have b3 := bounds_i64 w3
      have b4 := bounds_i64 w4
      have b5 := bounds_i64 w5
      exact ⟨C, D, I, M, K, U, s, rfl, ⟨⟨by omega, by omega⟩, ⟨by omega, by omega⟩, ⟨by omega, by omega⟩, ⟨by omega, by omega⟩, ⟨by omega, by omega⟩, ⟨by omega, by omega⟩⟩, w6⟩

set_option maxRecDepth 100000 in
theorem open_op {H : Type} {enc : TypeId × Value → H} {W : World} {base : Nat} {sp : Nat → Bool} {v : Value} {d : DataW H} {ps : List MemPlace}
    (hv : Value.okWide Try.prog W .any base 35 v) (h : DataW.Trod enc Try.prog W 0 sp true 35 v d ps) : ∃ (C D I M K U : Int) (s : ByteArray), v = .agg #[.int .i64 C, .int .i64 D, .int .i64 I, .int .i64 M, .int .i64 K, .int .i64 U, .string s] ∧ Wide C D I M K U ∧ s.size ≤ maxLen := by
  obtain ⟨cs, rfl, _⟩ := okWide_struct Try.underlying35 hv
  obtain ⟨fuel, hf⟩ := h
  obtain ⟨C, D, I, M, K, U, s, e, hw, hs⟩ := read_op hf
  refine ⟨C, D, I, M, K, U, s, ?_, hw, hs⟩
  obtain ⟨l⟩ := cs
  simp [Value.cells] at e
  rw [e]
end Go.Proofs.Ytdkolkjgojamcaa

/- Operations, one behind the other: what stands where. -/
namespace Go.Proofs.Ytdkolkjgojamcaa
open Go.RowKit Nam Cod

instance : Inhabited Mv := ⟨zeroMv⟩
def Mv.ok (m : Mv) : Prop := opB m.C m.D m.I m.M m.K m.U m.s = true
def Mv.bytes (m : Mv) : ByteArray := printOf m.C m.D m.I m.M m.K m.U m.s
def catO (f : Nat → Mv) : Nat → ByteArray
  | 0 => ⟨#[]⟩
  | k + 1 => catO f k ++ (f k).bytes
def posO (f : Nat → Mv) (k : Nat) : Nat := (catO f k).size
def okO (f : Nat → Mv) (n : Nat) : Prop := ∀ j, j < n → (f j).ok
theorem okO_next {f : Nat → Mv} {k : Nat} (h : okO f k) (hk : (f k).ok) : okO f (k + 1) := by
  intro j hj
  by_cases e : j = k
  · subst e; exact hk
  · exact h j (by omega)
theorem bytes_le {m : Mv} (h : m.ok) : m.bytes.size ≤ 86 := by
  obtain ⟨⟨c, d, i, n, k, u⟩, _, hs, _⟩ := opB_wide h
  unfold Mv.bytes printOf textOf
  simp only [ByteArray.size_append]
  have z1 := bytesOf_le m.C c.1 c.2
  have z2 := bytesOf_le m.D d.1 d.2
  have z3 := bytesOf_le m.I i.1 i.2
  have z4 := bytesOf_le m.M n.1 n.2
  have z5 := bytesOf_le m.K k.1 k.2
  have z6 := bytesOf_le m.U u.1 u.2
  have z7 := bytesOf_le m.s.size (by omega) (by omega)
  omega
theorem catO_le (f : Nat → Mv) : ∀ k, okO f k → (catO f k).size ≤ 86 * k
  | 0, _ => by show (ByteArray.mk #[]).size ≤ _; exact Nat.zero_le _
  | k + 1, h => by
    have h1 := catO_le f k (fun j hj => h j (by omega))
    have h2 := bytes_le (h k (by omega))
    unfold catO; rw [ByteArray.size_append]; omega
theorem catO_rest (f : Nat → Mv) (k : Nat) : ∀ n, k ≤ n → ∃ R, catO f n = catO f k ++ R
  | 0, h => ⟨⟨#[]⟩, by obtain rfl : k = 0 := by omega
                       apply L_inj; rw [L_app]; simp [L, catO]⟩
  | n + 1, h => by
    by_cases e : k = n + 1
    · subst e; exact ⟨⟨#[]⟩, by apply L_inj; rw [L_app]; simp [L]⟩
    · obtain ⟨R, hR⟩ := catO_rest f k n (by omega)
      exact ⟨R ++ (f n).bytes, by rw [catO, hR, ByteArray.append_assoc]⟩
theorem catO_op (f : Nat → Mv) (k n : Nat) (h : k < n) (hf : okO f n) (Z : ByteArray) : isOp (catO f n ++ Z) (posO f k) false = some (f k, posO f (k + 1)) := by
  obtain ⟨R, hR⟩ := catO_rest f (k + 1) n h
  have hk := hf k h
  have t := op_there (catO f k) (R ++ Z) (f k).C (f k).D (f k).I (f k).M (f k).K (f k).U (f k).s hk
  have e : catO f n ++ Z = catO f k ++ (printOf (f k).C (f k).D (f k).I (f k).M (f k).K (f k).U (f k).s ++ (R ++ Z)) := by
    rw [hR, catO, ByteArray.append_assoc, ByteArray.append_assoc]; rfl
  rw [e]
  unfold posO
  rw [t]
  show _ = some (f k, (catO f k ++ (f k).bytes).size)
  rw [ByteArray.size_append]; rfl

/-- From the cell o of block b on an operation lies. -/
def AtOp (w : World) (b o : Nat) (m : Mv) : Prop :=
  w.cell? ⟨b, o, none⟩ = some (.int .i64 m.C) ∧ w.cell? ⟨b, o + 1, none⟩ = some (.int .i64 m.D) ∧ w.cell? ⟨b, o + 2, none⟩ = some (.int .i64 m.I) ∧ w.cell? ⟨b, o + 3, none⟩ = some (.int .i64 m.M) ∧ w.cell? ⟨b, o + 4, none⟩ = some (.int .i64 m.K) ∧ w.cell? ⟨b, o + 5, none⟩ = some (.int .i64 m.U) ∧ w.cell? ⟨b, o + 6, none⟩ = some (.string m.s)
theorem AtOp.below {W w : World} {b o : Nat} {m : Mv} (h : AtOp W b o m) (hb : Below W.heap.size W w) (hl : b < W.heap.size) : AtOp w b o m := by
  unfold AtOp at h ⊢
  rw [(bcell hb).1 _ _ hl, (bcell hb).1 _ _ hl, (bcell hb).1 _ _ hl, (bcell hb).1 _ _ hl, (bcell hb).1 _ _ hl, (bcell hb).1 _ _ hl, (bcell hb).1 _ _ hl]; exact h
/-- The slice A holds the operations f 0, f 1 .. -/
def Ops (w : World) (A : Option Addr) (len : Nat) (f : Nat → Mv) : Prop :=
  0 < len → ∃ b off, A = some ⟨b, off, none⟩ ∧ b < w.heap.size ∧ ∀ i, i < len → AtOp w b (off + i * 7) (f i)

theorem opRead_yes {w : World} {b p : Nat} {s : ByteArray} {bad : Bool} {o : Mv} {q : Nat} (hs : s.size ≤ 1000000) (hp : p ≤ s.size) (hr : Rd 46 w b s p bad) (h : isOp s p bad = some (o, q)) :
    Calls Try.prog 47 #[.pointer (some ⟨b, 0, none⟩)] w fun e w' => e = .returned (.agg #[.int .i64 o.C, .int .i64 o.D, .int .i64 o.I, .int .i64 o.M, .int .i64 o.K, .int .i64 o.U, .string o.s]) ∧ Rd 46 w' b s q false ∧ w.grownBy w' (some b) := by
  refine (opRead_uni hs hp hr).mono ?_
  rintro e w' ⟨o', q', bad', rfl, hr', hq, hg, st⟩
  rcases st with ⟨h', rfl⟩ | ⟨h', _⟩
  · rw [h] at h'; cases h'
    exact ⟨rfl, hr', hg⟩
  · rw [h] at h'; cases h'
end Go.Proofs.Ytdkolkjgojamcaa

/- Entries as values: which may be, their bytes, what is read of bytes, what counts come to behind them. No call in it. -/
namespace Go.Proofs.Ytdkolkjgojamcaa
open Go.RowKit Nam Cod

structure En where
  k : Int
  d : Int
  i : Int
  o : Mv
def zeroB (o : Mv) : Bool := decide (o.C = 0 ∧ o.D = 0 ∧ o.I = 0 ∧ o.M = 0 ∧ o.K = 0 ∧ o.U = 0 ∧ o.s = ⟨#[]⟩)
theorem zeroB_iff {o : Mv} : zeroB o = true ↔ o = zeroMv := by
  unfold zeroB zeroMv
  rw [decide_eq_true_iff]
  obtain ⟨C, D, I, M, K, U, s⟩ := o
  simp
def okB (o : Mv) : Bool := opB o.C o.D o.I o.M o.K o.U o.s
def lifeB (d i : Int) : Bool := decide (0 ≤ d ∧ d < 12 ∧ 1 ≤ i ∧ i ≤ 1099511627776)
def entB (e : En) : Bool := if e.k = 1 then decide (e.d = 0 ∧ e.i = 0) && okB e.o else if e.k = 2 ∨ e.k = 3 then lifeB e.d e.i && zeroB e.o else false
def entBytes (e : En) : ByteArray := if e.k = 1 then bytesOf e.k ++ e.o.bytes else bytesOf e.k ++ bytesOf e.d ++ bytesOf e.i
def zeroEn : En := ⟨0, 0, 0, zeroMv⟩
def isEnt (s : ByteArray) (p : Nat) (bad : Bool) : Option (En × Nat) :=
  (isNum s p bad).bind fun a => if a.1 = 1 then (isOp s a.2 false).bind fun b => some (⟨1, 0, 0, b.1⟩, b.2) else
    (isNum s a.2 false).bind fun b => (isNum s b.2 false).bind fun c => if entB ⟨a.1, b.1, c.1, zeroMv⟩ = true then some (⟨a.1, b.1, c.1, zeroMv⟩, c.2) else none
def parseEnt (s : ByteArray) : Option En := (isEnt s 0 false).bind fun x => if x.2 = s.size then some x.1 else none

theorem entB_op {o : Mv} (h : okB o = true) : entB ⟨1, 0, 0, o⟩ = true := by
  unfold entB; simp [h]
theorem entB_one {e : En} (h : entB e = true) (h1 : e.k = 1) : e.d = 0 ∧ e.i = 0 ∧ okB e.o = true := by
  unfold entB at h
  rw [if_pos h1, Bool.and_eq_true, decide_eq_true_iff] at h
  exact ⟨h.1.1, h.1.2, h.2⟩
theorem entB_two {e : En} (h : entB e = true) (h1 : ¬ e.k = 1) : (e.k = 2 ∨ e.k = 3) ∧ (0 ≤ e.d ∧ e.d < 12 ∧ 1 ≤ e.i ∧ e.i ≤ 1099511627776) ∧ e.o = zeroMv := by
  unfold entB at h
  rw [if_neg h1] at h
  by_cases h2 : e.k = 2 ∨ e.k = 3
  · rw [if_pos h2, Bool.and_eq_true] at h
    unfold lifeB at h
    rw [decide_eq_true_iff, zeroB_iff] at h
    exact ⟨h2, h.1, h.2⟩
  · rw [if_neg h2] at h; cases h
theorem i64_of {n : Int} (h : -1099511627776 ≤ n ∧ n ≤ 1099511627776) : i64 n := by unfold i64; omega
theorem op_there' (A Z : ByteArray) {o : Mv} (h : okB o = true) : isOp (A ++ (o.bytes ++ Z)) A.size false = some (o, A.size + o.bytes.size) := by
  obtain ⟨C, D, I, M, K, U, s⟩ := o
  exact op_there A Z C D I M K U s h
theorem ent_there (A Z : ByteArray) (e : En) (h : entB e = true) : isEnt (A ++ (entBytes e ++ Z)) A.size false = some (e, A.size + (entBytes e).size) := by
  by_cases h1 : e.k = 1
  · obtain ⟨h2, h3, h4⟩ := entB_one h h1
    obtain ⟨k, d, i, o⟩ := e
    dsimp only at h1 h2 h3 h4
    subst h1 h2 h3
    have hE : entBytes ⟨1, 0, 0, o⟩ = bytesOf 1 ++ o.bytes := rfl
    rw [hE]
    have hN := num_at (A ++ (bytesOf 1 ++ o.bytes ++ Z)) A (o.bytes ++ Z) 1 A.size (by rw [ByteArray.append_assoc]) rfl (i64_of (by omega))
    have hO := op_there' (A ++ bytesOf 1) Z h4
    rw [show A ++ bytesOf 1 ++ (o.bytes ++ Z) = A ++ (bytesOf 1 ++ o.bytes ++ Z) by rw [ByteArray.append_assoc, ByteArray.append_assoc], ByteArray.size_append] at hO
    unfold isEnt
    rw [hN, Option.bind_some, if_pos rfl, hO, Option.bind_some, ByteArray.size_append, Nat.add_assoc]
  · obtain ⟨h2, h3, h4⟩ := entB_two h h1
    obtain ⟨k, d, i, o⟩ := e
    dsimp only at h1 h2 h3 h4
    subst h4
    have hE : entBytes ⟨k, d, i, zeroMv⟩ = bytesOf k ++ bytesOf d ++ bytesOf i := by unfold entBytes; rw [if_neg h1]
    rw [hE]
    have hN := num_at (A ++ (bytesOf k ++ bytesOf d ++ bytesOf i ++ Z)) A (bytesOf d ++ (bytesOf i ++ Z)) k A.size (by simp only [ByteArray.append_assoc]) rfl (i64_of (by omega))
    have hD := num_at (A ++ (bytesOf k ++ bytesOf d ++ bytesOf i ++ Z)) (A ++ bytesOf k) (bytesOf i ++ Z) d (A.size + (bytesOf k).size) (by simp only [ByteArray.append_assoc]) (by rw [ByteArray.size_append]) (i64_of (by omega))
    have hI := num_at (A ++ (bytesOf k ++ bytesOf d ++ bytesOf i ++ Z)) (A ++ bytesOf k ++ bytesOf d) Z i (A.size + (bytesOf k).size + (bytesOf d).size) (by simp only [ByteArray.append_assoc]) (by rw [ByteArray.size_append, ByteArray.size_append]) (i64_of (by omega))
    unfold isEnt
    rw [hN, Option.bind_some, if_neg h1, hD, Option.bind_some, hI, Option.bind_some, if_pos h, ByteArray.size_append, ByteArray.size_append]
    simp only [Nat.add_assoc]
theorem ent_bytes {s : ByteArray} {p : Nat} {bad : Bool} {e : En} {q : Nat} (h : isEnt s p bad = some (e, q)) : entB e = true ∧ (L s).drop p = L (entBytes e) ++ (L s).drop q := by
  unfold isEnt at h
  cases ha : isNum s p bad with
  | none => rw [ha] at h; cases h
  | some a =>
    obtain ⟨k, qk⟩ := a
    rw [ha, Option.bind_some] at h
    have h1 := num_bytes ha
    dsimp only at h
    by_cases hk : k = 1
    · rw [if_pos hk] at h
      cases hb : isOp s qk false with
      | none => rw [hb] at h; cases h
      | some b =>
        obtain ⟨o, qo⟩ := b
        rw [hb, Option.bind_some] at h
        injection h with h
        injection h with h2 h3
        subst h2 h3
        obtain ⟨g1, g2⟩ := op_bytes hb
        refine ⟨entB_op g1, ?_⟩
        have hE : entBytes ⟨1, 0, 0, o⟩ = bytesOf 1 ++ o.bytes := rfl
        rw [h1, g2, hE, L_app, List.append_assoc, hk]; rfl
    · rw [if_neg hk] at h
      cases hb : isNum s qk false with
      | none => rw [hb] at h; cases h
      | some b =>
        obtain ⟨d, qd⟩ := b
        rw [hb, Option.bind_some] at h
        dsimp only at h
        cases hc : isNum s qd false with
        | none => rw [hc] at h; cases h
        | some c =>
          obtain ⟨i, qi⟩ := c
          rw [hc, Option.bind_some] at h
          dsimp only at h
          by_cases hB : entB ⟨k, d, i, zeroMv⟩ = true
          · rw [if_pos hB] at h
            injection h with h
            injection h with h2 h3
            subst h2 h3
            refine ⟨hB, ?_⟩
            have hE : entBytes ⟨k, d, i, zeroMv⟩ = bytesOf k ++ bytesOf d ++ bytesOf i := by unfold entBytes; rw [if_neg hk]
            rw [h1, num_bytes hb, num_bytes hc, hE, L_app, L_app, List.append_assoc, List.append_assoc]
          · rw [if_neg hB] at h; cases h
theorem eparse_bytes {s : ByteArray} {e : En} (h : parseEnt s = some e) : entB e = true ∧ entBytes e = s := by
  unfold parseEnt at h
  cases ha : isEnt s 0 false with
  | none => rw [ha] at h; cases h
  | some a =>
    obtain ⟨x, q⟩ := a
    rw [ha, Option.bind_some] at h
    dsimp only at h
    by_cases hq : q = s.size
    · rw [if_pos hq] at h
      injection h with h
      subst h
      obtain ⟨g1, g2⟩ := ent_bytes ha
      refine ⟨g1, ?_⟩
      rw [List.drop_zero, hq, List.drop_eq_nil_of_le (by rw [L_len]; exact Nat.le_refl _), List.append_nil] at g2
      exact (L_inj g2).symm
    · rw [if_neg hq] at h; cases h
theorem ent_self {e : En} (h : entB e = true) : isEnt (entBytes e) 0 false = some (e, (entBytes e).size) := by
  have := ent_there ⟨#[]⟩ ⟨#[]⟩ e h
  have e0 : (⟨#[]⟩ : ByteArray) ++ (entBytes e ++ ⟨#[]⟩) = entBytes e := L_inj (by rw [L_app, L_app]; simp [L])
  rw [e0, show (⟨#[]⟩ : ByteArray).size = 0 from rfl, Nat.zero_add] at this
  exact this
theorem eparse_self {e : En} (h : entB e = true) : parseEnt (entBytes e) = some e := by
  unfold parseEnt
  rw [ent_self h, Option.bind_some, if_pos rfl]
theorem eprint_inj {a b : En} (ha : entB a = true) (hb : entB b = true) (h : entBytes a = entBytes b) : a = b := by
  have h1 := eparse_self ha
  rw [h, eparse_self hb] at h1
  injection h1 with h1
  exact h1.symm
theorem ent_le {e : En} (h : entB e = true) : (entBytes e).size ≤ 96 := by
  unfold entBytes
  have hb : ∀ n, i64 n → (bytesOf n).size ≤ 10 := fun n hn => by
    rw [bytesOf_size]; exact enc_ten _ (fold_lt n hn.1 hn.2)
  by_cases h1 : e.k = 1
  · rw [if_pos h1, ByteArray.size_append]
    have h2 := bytes_le (m := e.o) (entB_one h h1).2.2
    have h3 := hb e.k (i64_of (by omega))
    omega
  · obtain ⟨h2, h3, _⟩ := entB_two h h1
    rw [if_neg h1, ByteArray.size_append, ByteArray.size_append]
    have g1 := hb e.k (i64_of (by omega))
    have g2 := hb e.d (i64_of (by omega))
    have g3 := hb e.i (i64_of (by omega))
    omega

/-- Entries one behind the other. -/
def ecat : List En → ByteArray
  | [] => ⟨#[]⟩
  | e :: l => entBytes e ++ ecat l
theorem ecat_app : ∀ l m : List En, ecat (l ++ m) = ecat l ++ ecat m
  | [], m => L_inj (by show L (ecat m) = L (⟨#[]⟩ ++ ecat m); rw [L_app]; simp [L])
  | e :: l, m => by rw [List.cons_append, ecat, ecat, ecat_app l m, ByteArray.append_assoc]
theorem ecat_one (e : En) : ecat [e] = entBytes e := L_inj (by show L (entBytes e ++ ⟨#[]⟩) = _; rw [L_app]; simp [L])
theorem ecat_next (l : List En) (k : Nat) (h : k < l.length) : ecat (l.take (k + 1)) = ecat (l.take k) ++ entBytes l[k] := by
  rw [List.take_succ_eq_append_getElem h, ecat_app, ecat_one]
theorem ecat_le : ∀ l : List En, (∀ e ∈ l, entB e = true) → (ecat l).size ≤ 96 * l.length
  | [], _ => Nat.zero_le _
  | e :: l, h => by
    have h1 := ent_le (h e (by simp))
    have h2 := ecat_le l (fun x hx => h x (by simp [hx]))
    rw [ecat, ByteArray.size_append, List.length_cons]; omega
theorem ecat_at (l : List En) (k : Nat) (h : k < l.length) (hok : entB l[k] = true) : isEnt (ecat l) (ecat (l.take k)).size false = some (l[k], (ecat (l.take (k + 1))).size) := by
  have h1 : ecat l = ecat (l.take k) ++ (entBytes l[k] ++ ecat (l.drop (k + 1))) := by
    have h2 : l = l.take k ++ l[k] :: l.drop (k + 1) := by
      rw [List.getElem_cons_drop, List.take_append_drop]
    conv => lhs; rw [h2, ecat_app, ecat]
  have h3 := ent_there (ecat (l.take k)) (ecat (l.drop (k + 1))) l[k] hok
  rw [← h1] at h3
  rw [h3, ecat_next l k h, ByteArray.size_append]
theorem ecat_pos (l : List En) (k : Nat) : (ecat (l.take k)).size ≤ (ecat l).size := by
  conv => rhs; rw [← List.take_append_drop k l, ecat_app, ByteArray.size_append]
  omega

/-- Counts. -/
structure Cn where
  d : Int
  i : Int
  n : Int
deriving DecidableEq
def cntOf (e : En) : Option Cn := if e.k = 1 then some ⟨e.o.D, e.o.I, e.o.M⟩ else if e.k = 3 then some ⟨e.d, e.i, 0⟩ else none
/-- Where a device's count stands, or would stand. -/
def cutC (l : List Cn) (d : Int) : Nat := match l with
  | [] => 0
  | x :: r => if x.d < d then cutC r d + 1 else 0
theorem cutC_le : ∀ (l : List Cn) (d : Int), cutC l d ≤ l.length
  | [], _ => Nat.le_refl _
  | x :: r, d => by
    unfold cutC
    have := cutC_le r d
    split
    · rw [List.length_cons]; omega
    · omega
theorem cutC_lt : ∀ (l : List Cn) (d : Int) (j : Nat) (h : j < l.length), j < cutC l d → l[j].d < d
  | x :: r, d, j, h, hj => by
    unfold cutC at hj
    split at hj
    · cases j with
      | zero => assumption
      | succ j => exact cutC_lt r d j (by simpa using h) (by omega)
    · omega
theorem cutC_ge : ∀ (l : List Cn) (d : Int) (h : cutC l d < l.length), d ≤ l[cutC l d].d
  | x :: r, d, h => by
    by_cases e : x.d < d
    · have hc : cutC (x :: r) d = cutC r d + 1 := by
        conv => lhs; unfold cutC
        rw [if_pos e]
      rw [hc] at h
      have := cutC_ge r d (by simpa using h)
      simp only [hc, List.getElem_cons_succ]
      exact this
    · have hc : cutC (x :: r) d = 0 := by
        conv => lhs; unfold cutC
        rw [if_neg e]
      simp only [hc, List.getElem_cons_zero]
      omega
/-- How many stand there of the device: none or one. -/
def hereC (l : List Cn) (d : Int) : Nat := if h : cutC l d < l.length then (if l[cutC l d].d = d then 1 else 0) else 0
def putC (l : List Cn) (c : Cn) : List Cn := l.take (cutC l c.d) ++ c :: l.drop (cutC l c.d + hereC l c.d)
def tally (l : List Cn) (e : En) : List Cn := match cntOf e with
  | some c => putC l c
  | none => l
def RisC (l : List Cn) : Prop := l.Pairwise fun a b => a.d < b.d
theorem putC_len (l : List Cn) (c : Cn) : (putC l c).length ≤ l.length + 1 := by
  unfold putC
  have := cutC_le l c.d
  rw [List.length_append, List.length_cons, List.length_take, List.length_drop]; omega
theorem tally_len (l : List Cn) (e : En) : (tally l e).length ≤ l.length + 1 := by
  unfold tally
  cases cntOf e with
  | none => exact Nat.le_succ _
  | some c => exact putC_len l c
theorem take_lt {l : List Cn} {d : Int} {x : Cn} (h : x ∈ l.take (cutC l d)) : x.d < d := by
  obtain ⟨j, hj, rfl⟩ := List.getElem_of_mem h
  rw [List.length_take] at hj
  rw [List.getElem_take]
  exact cutC_lt l d j (by omega) (by omega)
theorem drop_gt {l : List Cn} (hr : RisC l) {d : Int} {x : Cn} (h : x ∈ l.drop (cutC l d + hereC l d)) : d < x.d := by
  obtain ⟨j, hj, rfl⟩ := List.getElem_of_mem h
  rw [List.length_drop] at hj
  rw [List.getElem_drop]
  have hc := cutC_le l d
  have hlt : cutC l d < l.length := by omega
  have hge := cutC_ge l d hlt
  have hpw := List.pairwise_iff_getElem.1 hr
  unfold hereC at hj ⊢
  simp only [dif_pos hlt] at hj ⊢
  by_cases e : l[cutC l d].d = d
  · simp only [if_pos e] at hj ⊢
    have := hpw (cutC l d) (cutC l d + 1 + j) hlt (by omega) (by omega)
    omega
  · simp only [if_neg e] at hj ⊢
    by_cases hj0 : j = 0
    · subst hj0
      simp only [Nat.add_zero] at *
      omega
    · have := hpw (cutC l d) (cutC l d + 0 + j) hlt (by omega) (by omega)
      omega
theorem putC_ris {l : List Cn} (hr : RisC l) (c : Cn) : RisC (putC l c) := by
  unfold RisC putC
  rw [List.pairwise_append, List.pairwise_cons]
  refine ⟨hr.sublist (List.take_sublist _ _), ⟨fun x hx => drop_gt hr hx, hr.sublist (List.drop_sublist _ _)⟩, fun x hx y hy => ?_⟩
  have h1 := take_lt hx
  rcases List.mem_cons.1 hy with rfl | hy
  · exact h1
  · have := drop_gt hr hy; omega
theorem tally_ris {l : List Cn} (hr : RisC l) (e : En) : RisC (tally l e) := by
  unfold tally
  cases cntOf e with
  | none => exact hr
  | some c => exact putC_ris hr c
theorem mem_putC {l : List Cn} (hr : RisC l) {c x : Cn} (h : x ∈ putC l c) : x = c ∨ x ∈ l ∧ x.d ≠ c.d := by
  unfold putC at h
  rcases List.mem_append.1 h with h | h
  · exact Or.inr ⟨List.mem_of_mem_take h, by have := take_lt h; omega⟩
  · rcases List.mem_cons.1 h with h | h
    · exact Or.inl h
    · exact Or.inr ⟨List.mem_of_mem_drop h, by have := drop_gt hr h; omega⟩
/-- The counts behind entries; and what the last one of a device says. -/
def tallies (l : List En) : List Cn := l.foldl tally []
def zeroCn : Cn := ⟨0, 0, 0⟩
def wantStep (d : Int) (w : Cn) (e : En) : Cn := match cntOf e with
  | some c => if c.d = d then c else w
  | none => w
def wantOf (l : List En) (d : Int) : Cn := l.foldl (wantStep d) zeroCn
theorem tallies_next (l : List En) (k : Nat) (h : k < l.length) : tallies (l.take (k + 1)) = tally (tallies (l.take k)) l[k] := by
  unfold tallies
  rw [List.take_succ_eq_append_getElem h, List.foldl_append]; rfl
theorem wantOf_next (l : List En) (k : Nat) (h : k < l.length) (d : Int) : wantOf (l.take (k + 1)) d = wantStep d (wantOf (l.take k) d) l[k] := by
  unfold wantOf
  rw [List.take_succ_eq_append_getElem h, List.foldl_append]; rfl
theorem tallies_inv (l : List En) : ∀ k, k ≤ l.length → RisC (tallies (l.take k)) ∧ (tallies (l.take k)).length ≤ k ∧ ∀ x ∈ tallies (l.take k), wantOf (l.take k) x.d = x
  | 0, _ => ⟨by rw [List.take_zero]; exact List.Pairwise.nil, by rw [List.take_zero]; exact Nat.le_refl _, fun x hx => by rw [List.take_zero] at hx; cases hx⟩
  | k + 1, h => by
    obtain ⟨h1, h2, h3⟩ := tallies_inv l k (by omega)
    rw [tallies_next l k (by omega)]
    refine ⟨tally_ris h1 _, by have := tally_len (tallies (l.take k)) (l[k]'(by omega)); omega, fun x hx => ?_⟩
    rw [wantOf_next l k (by omega)]
    unfold tally at hx
    unfold wantStep
    cases hc : cntOf (l[k]'(by omega)) with
    | none => rw [hc] at hx; exact h3 x hx
    | some c =>
      rw [hc] at hx
      dsimp only at hx ⊢
      rcases mem_putC h1 hx with rfl | ⟨hm, hne⟩
      · rw [if_pos rfl]
      · rw [if_neg (fun e => hne e.symm)]; exact h3 x hm
end Go.Proofs.Ytdkolkjgojamcaa

/- Queues of operations as values: what is pushed, acknowledged, allowed, sent, told, read. No call in it. -/
namespace Go.Proofs.Ytdkolkjgojamcaa
open Go.RowKit Nam Cod

structure Qu where
  f : Int
  g : Int
  os : List Mv
def newQu : Qu := ⟨1, 0, []⟩
def nilQu : Qu := ⟨0, 0, []⟩
def pushQ (x : Qu) (o : Mv) : Qu := ⟨x.f, x.g, x.os ++ [o]⟩
def ackQ (x : Qu) (a : Int) : Qu := if a < x.f then x else ⟨x.f + min (a - x.f + 1) x.os.length, x.g, x.os.drop (min (a - x.f + 1) x.os.length).toNat⟩
def allowQ (x : Qu) (g : Int) : Qu := ⟨x.f, max x.g g, x.os⟩
def outQ (x : Qu) (most : Int) : List Mv := x.os.take (min most (x.g - x.f + 1)).toNat
def okL (l : List Mv) : Prop := ∀ o ∈ l, okB o = true
def opsBytes : List Mv → ByteArray
  | [] => ⟨#[]⟩
  | o :: l => o.bytes ++ opsBytes l
def quBytes (x : Qu) : ByteArray := bytesOf x.f ++ bytesOf x.g ++ bytesOf x.os.length ++ opsBytes x.os
structure QuR (x : Qu) : Prop where
  f1 : 1 ≤ x.f
  fm : x.f ≤ 1099511627776
  g0 : 0 ≤ x.g
  gm : x.g ≤ 1099511627776
  ok : okL x.os
theorem opsBytes_next (l : List Mv) (k : Nat) (h : k < l.length) : opsBytes (l.take (k + 1)) = opsBytes (l.take k) ++ l[k].bytes := by
  induction l generalizing k with
  | nil => exact absurd h (Nat.not_lt_zero _)
  | cons a l ih =>
    cases k with
    | zero =>
      show opsBytes [a] = opsBytes [] ++ a.bytes
      apply L_inj
      show L (a.bytes ++ ⟨#[]⟩) = L (⟨#[]⟩ ++ a.bytes)
      rw [L_app, L_app]; simp [L]
    | succ k =>
      rw [List.length_cons] at h
      rw [List.take_succ_cons, List.take_succ_cons, opsBytes, opsBytes, ih k (by omega), ByteArray.append_assoc]
      rfl
theorem opsBytes_le : ∀ l : List Mv, (∀ o ∈ l, o.bytes.size ≤ 1000070) → (opsBytes l).size ≤ 1000070 * l.length
  | [], _ => Nat.zero_le _
  | o :: l, h => by
    have h1 := h o (by simp)
    have h2 := opsBytes_le l (fun x hx => h x (by simp [hx]))
    rw [opsBytes, ByteArray.size_append, List.length_cons]; omega
theorem opsBytes_ok : ∀ l : List Mv, okL l → (opsBytes l).size ≤ 86 * l.length
  | [], _ => Nat.zero_le _
  | o :: l, h => by
    have h1 := bytes_le (m := o) (h o (by simp))
    have h2 := opsBytes_ok l (fun x hx => h x (by simp [hx]))
    rw [opsBytes, ByteArray.size_append, List.length_cons]; omega

theorem ackQ_len (x : Qu) (a : Int) : (ackQ x a).os.length ≤ x.os.length := by
  unfold ackQ
  split
  · exact Nat.le_refl _
  · dsimp only; rw [List.length_drop]; omega
theorem ackQ_R {x : Qu} (h : QuR x) (a : Int) (hm : x.f + x.os.length ≤ 1099511627776) : QuR (ackQ x a) := by
  have h1 := h.f1
  have h2 := h.fm
  unfold ackQ
  by_cases c : a < x.f
  · rw [if_pos c]; exact h
  · rw [if_neg c]
    exact ⟨by dsimp only; omega, by dsimp only; omega, h.g0, h.gm, fun o ho => h.ok o (List.mem_of_mem_drop ho)⟩
theorem ackQ_zero {x : Qu} (h : 1 ≤ x.f) : ackQ x 0 = x := by unfold ackQ; rw [if_pos (by omega)]
/-- What is acknowledged in two goes is acknowledged. -/
theorem ackQ_two (x : Qu) {a b : Int} (h : a ≤ b) : ackQ (ackQ x a) b = ackQ x b := by
  unfold ackQ
  by_cases c : a < x.f
  · rw [if_pos c]
  · rw [if_neg c, if_neg (show ¬ b < x.f by omega)]
    dsimp only
    rw [List.length_drop]
    by_cases c2 : b < x.f + min (a - x.f + 1) x.os.length
    · rw [if_pos c2]
      have e1 : min (a - x.f + 1) (x.os.length : Int) = min (b - x.f + 1) x.os.length := by omega
      rw [e1]
    · rw [if_neg c2, List.drop_drop]
      congr 1
      · omega
      · congr 1; omega
/-- An acknowledgement that came changes nothing. -/
theorem ackQ_old (x : Qu) {a b : Int} (h : a ≤ b) : ackQ (ackQ x b) a = ackQ x b := by
  obtain ⟨f, g, os⟩ := x
  unfold ackQ
  dsimp only
  by_cases c : b < f
  · rw [if_pos c]
    dsimp only
    rw [if_pos (by omega)]
  · rw [if_neg c]
    dsimp only
    rw [List.length_drop]
    by_cases c2 : a < f + min (b - f + 1) os.length
    · rw [if_pos c2]
    · rw [if_neg c2]
      have e1 : min (a - (f + min (b - f + 1) (os.length : Int)) + 1) (((os.length - (min (b - f + 1) (os.length : Int)).toNat : Nat)) : Int) = 0 := by omega
      rw [e1]
      simp

/-- Read from bytes. -/
def isOps (s : ByteArray) : Nat → Nat → Option (List Mv × Nat)
  | 0, p => some ([], p)
  | n + 1, p => (isOp s p false).bind fun a => (isOps s n a.2).bind fun b => some (a.1 :: b.1, b.2)
def isQu (s : ByteArray) (p : Nat) (bad : Bool) : Option (Qu × Nat) :=
  (isNum s p bad).bind fun a => (isNum s a.2 false).bind fun b => (isCount s b.2 false 4096).bind fun c => (isOps s c.1.toNat c.2).bind fun d =>
    if 1 ≤ a.1 ∧ a.1 ≤ 1099511627776 ∧ 0 ≤ b.1 ∧ b.1 ≤ 1099511627776 then some (⟨a.1, b.1, d.1⟩, d.2) else none
theorem isOps_next (s : ByteArray) : ∀ (k p : Nat), isOps s (k + 1) p = (isOps s k p).bind fun a => (isOp s a.2 false).bind fun e => some (a.1 ++ [e.1], e.2)
  | 0, p => by
    rw [isOps, isOps, Option.bind_some]
    cases isOp s p false with
    | none => rfl
    | some a => rfl
  | k + 1, p => by
    rw [isOps]
    cases h : isOp s p false with
    | none => rw [isOps, h]; rfl
    | some a =>
      rw [Option.bind_some, isOps_next s k a.2, isOps, h, Option.bind_some]
      cases isOps s k a.2 with
      | none => rfl
      | some b =>
        simp only [Option.bind_some]
        cases isOp s b.2 false with
        | none => rfl
        | some c => rfl
theorem isOps_none (s : ByteArray) (p k : Nat) (h : isOps s k p = none) : ∀ d, isOps s (k + d) p = none
  | 0 => h
  | d + 1 => by rw [← Nat.add_assoc, isOps_next, isOps_none s p k h d]; rfl
theorem ops_there : ∀ (l : List Mv) (A Z : ByteArray), okL l → isOps (A ++ (opsBytes l ++ Z)) l.length A.size = some (l, A.size + (opsBytes l).size)
  | [], A, Z, _ => rfl
  | o :: l, A, Z, h => by
    rw [List.length_cons, isOps, opsBytes]
    have h1 := op_there' A (opsBytes l ++ Z) (o := o) (h o (by simp))
    rw [show A ++ (o.bytes ++ opsBytes l ++ Z) = A ++ (o.bytes ++ (opsBytes l ++ Z)) by simp only [ByteArray.append_assoc], h1, Option.bind_some]
    have h2 := ops_there l (A ++ o.bytes) Z (fun y hy => h y (by simp [hy]))
    rw [ByteArray.append_assoc, ByteArray.size_append] at h2
    dsimp only
    rw [h2, Option.bind_some, ByteArray.size_append, Nat.add_assoc]
theorem ops_bytes : ∀ (n : Nat) (s : ByteArray) (p : Nat) (l : List Mv) (q : Nat), isOps s n p = some (l, q) → l.length = n ∧ okL l ∧ (L s).drop p = L (opsBytes l) ++ (L s).drop q
  | 0, s, p, l, q, h => by
    injection h with h
    injection h with h1 h2
    subst h1 h2
    exact ⟨rfl, (fun e he => by cases he), rfl⟩
  | n + 1, s, p, l, q, h => by
    rw [isOps] at h
    cases ha : isOp s p false with
    | none => rw [ha] at h; cases h
    | some a =>
      obtain ⟨e, qe⟩ := a
      rw [ha, Option.bind_some] at h
      dsimp only at h
      cases hb : isOps s n qe with
      | none => rw [hb] at h; cases h
      | some b =>
        obtain ⟨r, qr⟩ := b
        rw [hb, Option.bind_some] at h
        injection h with h
        injection h with h1 h2
        subst h1 h2
        obtain ⟨g1, g2⟩ := op_bytes ha
        obtain ⟨g3, g4, g5⟩ := ops_bytes n s qe r _ hb
        refine ⟨by rw [List.length_cons, g3], fun y hy => ?_, ?_⟩
        · rcases List.mem_cons.1 hy with rfl | hy
          · exact g1
          · exact g4 y hy
        · rw [g2, g5, opsBytes, L_app, List.append_assoc]; rfl
theorem isQu_some {s : ByteArray} {p : Nat} {bad : Bool} {x : Qu} {q : Nat} (h : isQu s p bad = some (x, q)) : ∃ q1 q2 q3, isNum s p bad = some (x.f, q1) ∧ isNum s q1 false = some (x.g, q2) ∧ isCount s q2 false 4096 = some ((x.os.length : Int), q3) ∧ isOps s x.os.length q3 = some (x.os, q) ∧ QuR x := by
  unfold isQu at h
  cases ha : isNum s p bad with
  | none => rw [ha] at h; cases h
  | some a =>
    obtain ⟨a, qa⟩ := a
    rw [ha, Option.bind_some] at h
    dsimp only at h
    cases hb : isNum s qa false with
    | none => rw [hb] at h; cases h
    | some b =>
      obtain ⟨b, qb⟩ := b
      rw [hb, Option.bind_some] at h
      dsimp only at h
      cases hc : isCount s qb false 4096 with
      | none => rw [hc] at h; cases h
      | some c =>
        obtain ⟨c, qc⟩ := c
        rw [hc, Option.bind_some] at h
        dsimp only at h
        cases hd : isOps s c.toNat qc with
        | none => rw [hd] at h; cases h
        | some d =>
          obtain ⟨l, qd⟩ := d
          rw [hd, Option.bind_some] at h
          dsimp only at h
          by_cases hl : 1 ≤ a ∧ a ≤ 1099511627776 ∧ 0 ≤ b ∧ b ≤ 1099511627776
          · rw [if_pos hl] at h
            injection h with h
            injection h with h1 h2
            subst h1 h2
            obtain ⟨g1, g2, _⟩ := ops_bytes _ _ _ _ _ hd
            obtain ⟨_, g3, g4⟩ := isCount_some hc
            have e1 : c = (l.length : Int) := by omega
            subst e1
            exact ⟨qa, qb, qc, rfl, hb, hc, hd, hl.1, hl.2.1, hl.2.2.1, hl.2.2.2, g2⟩
          · rw [if_neg hl] at h; cases h
theorem qu_of {s : ByteArray} {p : Nat} {bad : Bool} {a b c : Int} {q1 q2 q3 q : Nat} {l : List Mv} (h1 : isNum s p bad = some (a, q1)) (h2 : isNum s q1 false = some (b, q2)) (h3 : isCount s q2 false 4096 = some (c, q3)) (h4 : isOps s c.toNat q3 = some (l, q)) : isQu s p bad = if 1 ≤ a ∧ a ≤ 1099511627776 ∧ 0 ≤ b ∧ b ≤ 1099511627776 then some (⟨a, b, l⟩, q) else none := by
  unfold isQu
  rw [h1, Option.bind_some]
  dsimp only
  rw [h2, Option.bind_some]
  dsimp only
  rw [h3, Option.bind_some]
  dsimp only
  rw [h4, Option.bind_some]
theorem qu_bytes {s : ByteArray} {p : Nat} {bad : Bool} {x : Qu} {q : Nat} (h : isQu s p bad = some (x, q)) : QuR x ∧ x.os.length ≤ 4096 ∧ (L s).drop p = L (quBytes x) ++ (L s).drop q := by
  obtain ⟨q1, q2, q3, h1, h2, h3, h4, h5⟩ := isQu_some h
  obtain ⟨h6, _, h7⟩ := isCount_some h3
  obtain ⟨_, _, h8⟩ := ops_bytes _ _ _ _ _ h4
  refine ⟨h5, by omega, ?_⟩
  unfold quBytes
  rw [num_bytes h1, num_bytes h2, num_bytes h6, h8]
  simp only [L_app, List.append_assoc]
theorem qu_self {x : Qu} (h : QuR x) (hl : x.os.length ≤ 4096) : isQu (quBytes x) 0 false = some (x, (quBytes x).size) := by
  obtain ⟨a, b, l⟩ := x
  obtain ⟨h0, h1, h2, h3, h4⟩ := h
  dsimp only at h0 h1 h2 h3 h4 hl
  have hE : quBytes ⟨a, b, l⟩ = bytesOf a ++ bytesOf b ++ bytesOf l.length ++ opsBytes l := rfl
  have e0 : ∀ B : ByteArray, (⟨#[]⟩ : ByteArray) ++ B = B := fun B => L_inj (by rw [L_app]; simp [L])
  have e1 : ∀ B : ByteArray, B ++ (⟨#[]⟩ : ByteArray) = B := fun B => L_inj (by rw [L_app]; simp [L])
  have hA := num_at (quBytes ⟨a, b, l⟩) ⟨#[]⟩ (bytesOf b ++ bytesOf l.length ++ opsBytes l) a 0 (by rw [hE, e0]; simp only [ByteArray.append_assoc]) rfl (i64_of (by omega))
  have hB := num_at (quBytes ⟨a, b, l⟩) (bytesOf a) (bytesOf l.length ++ opsBytes l) b (0 + (bytesOf a).size) (by rw [hE]; simp only [ByteArray.append_assoc]) (by omega) (i64_of (by omega))
  have hC := count_there (bytesOf a ++ bytesOf b) (opsBytes l) l.length 4096 (by omega) (by omega) (by omega)
  have hD := ops_there l (bytesOf a ++ bytesOf b ++ bytesOf l.length) ⟨#[]⟩ h4
  rw [e1, ← hE] at hD
  rw [show bytesOf a ++ bytesOf b ++ (bytesOf (l.length : Int) ++ opsBytes l) = quBytes ⟨a, b, l⟩ by rw [hE]; simp only [ByteArray.append_assoc]] at hC
  rw [qu_of hA hB (by rw [show 0 + (bytesOf a).size + (bytesOf b).size = (bytesOf a ++ bytesOf b).size by rw [ByteArray.size_append]; omega]; exact hC) (by rw [show (bytesOf a ++ bytesOf b).size + (bytesOf (l.length : Int)).size = (bytesOf a ++ bytesOf b ++ bytesOf (l.length : Int)).size by rw [ByteArray.size_append (a := bytesOf a ++ bytesOf b)]]; exact hD), if_pos ⟨h0, h1, h2, h3⟩, hE]
  simp only [ByteArray.size_append]

/-- Steps. -/
def someO (n : Int) : Mv := ⟨1 + n, 0, 1, 1 + n, 2 + n % 9, 0, ⟨#[97]⟩⟩
structure Ad where
  k : Int
  n : Int
def stepQ (x : Qu) (c : Ad) (i : Int) : Qu := if c.k = 0 then pushQ x (someO i) else if c.k = 1 then ackQ x c.n else if c.k = 2 then allowQ x c.n else x
def fineA (c : Ad) : Prop := -549755813888 ≤ c.n ∧ c.n ≤ 549755813888
def playQ : List Ad → Int → Qu → Qu
  | [], _, x => x
  | c :: l, i, x => playQ l (i + 1) (stepQ x c i)
def qAt (l : List Ad) (k : Nat) : Qu := playQ (l.take k) 0 newQu
theorem playQ_app : ∀ (l : List Ad) (c : Ad) (i : Int) (x : Qu), playQ (l ++ [c]) i x = stepQ (playQ l i x) c (i + l.length)
  | [], c, i, x => by simp [playQ]
  | a :: l, c, i, x => by
    rw [List.cons_append, playQ, playQ_app l c (i + 1), playQ, List.length_cons]
    have h1 : i + 1 + (l.length : Int) = i + ((l.length + 1 : Nat) : Int) := by omega
    rw [h1]
theorem qAt_next (l : List Ad) (k : Nat) (h : k < l.length) : qAt l (k + 1) = stepQ (qAt l k) l[k] k := by
  unfold qAt
  rw [List.take_succ_eq_append_getElem h, playQ_app, List.length_take, Nat.min_eq_left (by omega), Int.zero_add]
theorem someO_ok {n : Int} (h0 : 0 ≤ n) (h1 : n ≤ 1000) : okB (someO n) = true := by
  have hn : isName (L ⟨#[97]⟩) = true := by decide +kernel
  have h2 : 0 ≤ n % 9 ∧ n % 9 < 9 := by omega
  unfold okB someO
  dsimp only
  rw [opB_in (rightB_iff.2 ⟨by omega, by omega, by omega, by omega⟩) ⟨by omega, by omega, by omega, by omega, by omega, by omega, by omega, by omega, by omega, by omega⟩]
  exact hn
end Go.Proofs.Ytdkolkjgojamcaa

/- Rows and slices of structs, whatever the struct: what lies where, what is cut out, what append makes. No function of the program in it. -/
namespace Go.Proofs.Ytdkolkjgojamcaa
open Go.RowKit

/-- A kind of element: its type, how many cells it has, and which. -/
structure El (α : Type) where
  e : TypeId
  k : Nat
  c : α → List Value
  len : ∀ x, (c x).length = k
  one : ∀ x, ∀ u ∈ c x, u.oneCell' = true
  pos : 0 < k
section
variable {α : Type} (E : El α)
/-- From the cell o of block b on x lies. -/
def El.At (w : World) (b o : Nat) (x : α) : Prop := ∀ j u, (E.c x)[j]? = some u → w.cell? ⟨b, o + j, none⟩ = some u
/-- The slice at A holds these. -/
def El.Sl (w : World) (A : Option Addr) (l : List α) : Prop :=
  0 < l.length → ∃ b off, A = some ⟨b, off, none⟩ ∧ b < w.heap.size ∧ ∀ i (h : i < l.length), E.At w b (off + i * E.k) l[i]
/-- So, in a block ahead of B. -/
def El.SlB (B : Nat) (w : World) (A : Option Addr) (l : List α) : Prop :=
  0 < l.length → ∃ b off, A = some ⟨b, off, none⟩ ∧ b < B ∧ ∀ i (h : i < l.length), E.At w b (off + i * E.k) l[i]
/-- Block b is x's own. -/
def El.In (w : World) (b : Nat) (x : α) : Prop := w.heap[b]? = some (.cells (E.c x).toArray E.e (0, 0))
variable {E}
section
variable {W w w' : World} {b o B : Nat} {x : α} {A : Option Addr} {l : List α} {row : Option Nat}
theorem El.At.below (h : E.At W b o x) (hb : Below W.heap.size W w) (hl : b < W.heap.size) : E.At w b o x := fun j u hu => by rw [(bcell hb).1 _ _ hl]; exact h j u hu
theorem El.At.grown (h : E.At w b o x) (hg : w.grownBy w' row) (hne : some b ≠ row) : E.At w' b o x := fun j u hu => hg.cell (h j u hu) hne
theorem El.Sl.below (h : E.Sl W A l) (hb : Below W.heap.size W w) : E.Sl w A l := fun h0 => by
  obtain ⟨b, off, e, hl, hc⟩ := h h0
  exact ⟨b, off, e, Nat.lt_of_lt_of_le hl hb.size, fun i hi => (hc i hi).below hb hl⟩
theorem El.Sl.nil (w : World) (A : Option Addr) : E.Sl w A [] := fun h => by simp at h
theorem El.Sl.none_nil (h : E.Sl w none l) : l = [] := by
  rcases Nat.eq_zero_or_pos l.length with h0 | h0
  · exact List.eq_nil_of_length_eq_zero h0
  · obtain ⟨_, _, e, _⟩ := h h0; cases e
theorem El.Sl.take (h : E.Sl w A l) (n : Nat) : E.Sl w A (l.take n) := fun h0 => by
  have hk : (l.take n).length ≤ l.length := by rw [List.length_take]; omega
  obtain ⟨b, off, e, hb, hc⟩ := h (by omega)
  exact ⟨b, off, e, hb, fun i hi => by rw [List.getElem_take]; exact hc i (by omega)⟩
theorem El.Sl.drop {A3 : Option Addr} {cap to : Nat} (h : E.Sl w A l) (hcap : l.length ≤ cap) (he : (if cap = to then A else Option.map (fun x => x.add (to * E.k)) A) = A3) : E.Sl w A3 (l.drop to) := fun h0 => by
  rw [List.length_drop] at h0
  obtain ⟨b, off, e, hb, hc⟩ := h (by omega)
  rw [if_neg (by omega), e] at he
  refine ⟨b, off + to * E.k, by rw [← he]; simp [Addr.add_lit], hb, fun i hi => ?_⟩
  rw [List.length_drop] at hi
  rw [List.getElem_drop, Nat.add_assoc, ← Nat.add_mul]
  exact hc _ (by omega)
theorem El.drop_none {A3 : Option Addr} {cap to n : Nat} (hn : A = none → cap = 0) (he : (if cap = to then A else Option.map (fun x => x.add n) A) = A3) (h : A3 = none) : cap - to = 0 := by
  by_cases e : cap = to
  · omega
  · rw [if_neg e, h, Option.map_eq_none_iff] at he
    have := hn he; omega
theorem El.SlB.of (h : E.Sl w A l) (hB : w.heap.size ≤ B) : E.SlB B w A l := fun h0 => by
  obtain ⟨b, off, e, hl, hc⟩ := h h0
  exact ⟨b, off, e, by omega, hc⟩
theorem El.SlB.sl (h : E.SlB B w A l) (hB : B ≤ w.heap.size) : E.Sl w A l := fun h0 => by
  obtain ⟨b, off, e, hl, hc⟩ := h h0
  exact ⟨b, off, e, by omega, hc⟩
theorem El.SlB.keep (h : E.SlB B w A l) (hg : w.grownBy w' row) (hrow : ∀ n, row = some n → B ≤ n) : E.SlB B w' A l := fun h0 => by
  obtain ⟨b, off, e, hl, hc⟩ := h h0
  exact ⟨b, off, e, hl, fun i hi => (hc i hi).grown hg (fun e => by have := hrow b e.symm; omega)⟩
theorem El.Sl.keep1 {a : Addr} (h : E.Sl w (some a) l) (hg : w.grownBy w' row) (hne : some a.block ≠ row) : E.Sl w' (some a) l := fun h0 => by
  obtain ⟨b, off, e, hl, hc⟩ := h h0
  cases e
  exact ⟨b, off, rfl, Nat.lt_of_lt_of_le hl hg.size, fun i hi => (hc i hi).grown hg hne⟩
theorem El.Sl.keep (h : E.Sl w A l) (hg : w.grownBy w' row) (hne : ∀ a, A = some a → some a.block ≠ row) : E.Sl w' A l := fun h0 => by
  obtain ⟨b, off, e, hl, hc⟩ := h h0
  exact ⟨b, off, e, Nat.lt_of_lt_of_le hl hg.size, fun i hi => (hc i hi).grown hg (hne _ e)⟩

theorem El.In.lt (h : E.In w b x) : b < w.heap.size := by
  rcases Nat.lt_or_ge b w.heap.size with hlt | hge
  · exact hlt
  · unfold El.In at h; rw [Array.getElem?_eq_none hge] at h; cases h
theorem El.In.cell (h : E.In w b x) (j : Nat) : w.cell? ⟨b, j, none⟩ = (E.c x)[j]? := by
  have := cell_of_row w b j _ E.e (0, 0) h
  rw [this]; simp
theorem El.In.at (h : E.In w b x) : E.At w b 0 x := fun j u hu => by rw [Nat.zero_add, h.cell]; exact hu
theorem El.In.frozen (h : E.In w b x) (i : Nat) : w.frozen? ⟨b, i, none⟩ = false := by
  unfold El.In at h
  simp [World.frozen?, h]
theorem El.In.new (w : World) (x : α) (cs : Array Value) (hc : cs = (E.c x).toArray) : E.In (w.alloc (.cells cs E.e)) w.heap.size x := by subst hc; exact heap_alloc_new w _
theorem El.In.below (h : E.In w b x) (hg : Below w.heap.size w w') : E.In w' b x := (hg.block b h.lt).trans h
theorem El.In.keep (h : E.In w b x) (hg : w.grownBy w' row) (hne : some b ≠ row) : E.In w' b x := (hg.block b h.lt hne).trans h
theorem El.In.alloc (h : E.In w b x) (o : Obj) : E.In (w.alloc o) b x := h.below (below_alloc (Below.refl _ _) o)
theorem El.In.set (h : E.In w b x) (y : α) (cs : Array Value) (hc : cs = (E.c y).toArray) : E.In (w.setRow b cs) b y := by subst hc; exact setRow_heap _ _ _ _ _ _ h
theorem El.In.put (h : E.In w b x) (y : α) (j : Nat) (u : Value) (hy : E.c y = (E.c x).set j u) : E.In (w.setCell ⟨b, j, none⟩ u) b y := by
  unfold El.In at h ⊢
  rw [hy]
  simp [World.setCell, Array.getElem?_modify, h]
theorem El.In.other (h : E.In w b x) (n i : Nat) (v : Value) (hne : b ≠ n) : E.In (w.setCell ⟨n, i, none⟩ v) b x :=
  (Below.heap_setCell w ⟨n, i, none⟩ v b hne).trans h
theorem El.In.rowN (h : E.In w b x) (n : Nat) (cs : Array Value) (hne : b ≠ n) : E.In (w.setRow n cs) b x := (setRow_other w n b cs hne).trans h
theorem El.In.sl (h : E.In w b x) : E.Sl w (some ⟨b, 0, none⟩) [x] := fun _ =>
  ⟨b, 0, rfl, h.lt, fun i hi => by
    obtain rfl : i = 0 := by simpa using hi
    rw [Nat.zero_mul]; exact h.at⟩
end

variable (E)
/-- The cells of a list. -/
def El.cells : List α → List Value
  | [] => []
  | x :: l => E.c x ++ El.cells l
variable {E}
theorem El.cells_len : ∀ l : List α, (E.cells l).length = l.length * E.k
  | [] => by simp [El.cells]
  | x :: l => by rw [El.cells, List.length_append, E.len, El.cells_len l, List.length_cons, Nat.succ_mul, Nat.add_comm]
theorem El.cells_app : ∀ l r : List α, E.cells (l ++ r) = E.cells l ++ E.cells r
  | [], r => rfl
  | x :: l, r => by rw [List.cons_append, El.cells, El.cells, El.cells_app l r, List.append_assoc]
theorem El.cells_one : ∀ l : List α, ∀ u ∈ E.cells l, u.oneCell' = true
  | [], u, h => by cases h
  | x :: l, u, h => by
    rcases List.mem_append.1 h with h | h
    · exact E.one x u h
    · exact El.cells_one l u h
theorem El.cells_at : ∀ (l : List α) (i : Nat) (h : i < l.length) (j : Nat) (u : Value), (E.c l[i])[j]? = some u → (E.cells l)[i * E.k + j]? = some u
  | x :: l, 0, _, j, u, hu => by
    rw [Nat.zero_mul, Nat.zero_add, El.cells, List.getElem?_append_left]
    · exact hu
    · have := (List.getElem?_eq_some_iff.1 hu).1; exact this
  | x :: l, i + 1, h, j, u, hu => by
    have := El.cells_at l i (by simpa using h) j u hu
    rw [El.cells, List.getElem?_append_right (by rw [E.len, Nat.succ_mul]; omega), E.len, Nat.succ_mul]
    rw [show i * E.k + E.k + j - E.k = i * E.k + j by omega]; exact this
theorem El.cells_get : ∀ (l : List α) (n : Nat) (u : Value), (E.cells l)[n]? = some u → ∃ i, ∃ h : i < l.length, ∃ j, n = i * E.k + j ∧ (E.c l[i])[j]? = some u
  | [], n, u, h => by simp [El.cells] at h
  | x :: l, n, u, h => by
    rw [El.cells] at h
    by_cases hn : n < E.k
    · rw [List.getElem?_append_left (by rw [E.len]; exact hn)] at h
      exact ⟨0, by simp, n, by rw [Nat.zero_mul, Nat.zero_add], h⟩
    · rw [List.getElem?_append_right (by rw [E.len]; omega), E.len] at h
      obtain ⟨i, hi, j, e, hu⟩ := El.cells_get l (n - E.k) u h
      exact ⟨i + 1, by simpa using hi, j, by rw [Nat.succ_mul]; omega, hu⟩
theorem El.Sl.cells {w : World} {a : Addr} {l : List α} (h : E.Sl w (some a) l) : ∀ j u, (E.cells l)[j]? = some u → w.cell? (a.add j) = some u := by
  intro n u hu
  obtain ⟨i, hi, j, rfl, hc⟩ := El.cells_get l n u hu
  obtain ⟨b, off, e, _, hat⟩ := h (by omega)
  obtain rfl := Option.some.inj e
  rw [Addr.add_lit, ← Nat.add_assoc]
  exact hat i hi j u hc

variable (E)
/-- The slice v holds these, in a row that the call has made. -/
def El.Own (w : World) (B : Nat) (v : Value) (l : List α) : Prop := w.ownsRow B E.e E.k v l.length (E.cells l)
variable {E}
section
variable {w w' : World} {B : Nat} {v : Value} {l : List α} {row : Option Nat}
theorem El.Own.nil (w : World) (B : Nat) : E.Own w B (.slice none 0 0) [] := World.ownsRow_nil w B E.e E.k
theorem El.Own.kept (h : E.Own w B v l) (hg : w.grownBy w' row) (hne : v.ownBlock = none ∨ v.ownBlock ≠ row) : E.Own w' B v l := World.ownsRow.kept h hg hne
theorem El.Own.below (h : E.Own w B v l) (hb : Below w.heap.size w w') : E.Own w' B v l :=
  World.ownsRow.kept h (row := none) ⟨hb.os, hb.tape, hb.output, hb.size, fun k hk _ => hb.block k hk⟩ (by cases hv : v.ownBlock <;> simp)
theorem El.Own.lt (h : E.Own w B v l) : ∀ n, v.ownBlock = some n → B ≤ n ∧ n < w.heap.size := World.ownsRow.lt h
theorem El.Own.rows (h : E.Own w B v l) : ∀ n, v.ownBlock = some n → B ≤ n := fun n e => (World.ownsRow.lt h n e).1
theorem El.Own.sl (h : E.Own w B v l) : ∃ A cap, v = .slice A l.length cap ∧ E.Sl w A l ∧ (A = none → cap = 0) ∧ l.length ≤ cap := by
  have hc := fun g (hg : v.ownBlock = some g) => World.ownsRow.cells h hg
  have hlt := World.ownsRow.lt h
  unfold El.Own at h
  rcases h.2 with ⟨rfl, h0⟩ | ⟨g, cap, cur, rfl, _, _, hnc, _⟩
  · have : l = [] := List.eq_nil_of_length_eq_zero h0
    subst this
    exact ⟨none, 0, rfl, El.Sl.nil w none, fun _ => rfl, Nat.le_refl _⟩
  · refine ⟨some ⟨g, 0, none⟩, cap, rfl, fun _ => ⟨g, 0, rfl, (hlt g rfl).2, fun i hi j u hu => ?_⟩, (fun e => by cases e), hnc⟩
    have := hc g rfl _ _ (El.cells_at l i hi j u hu)
    rw [Addr.add_lit, ← Nat.add_assoc] at this; exact this
theorem El.Own.empty (w : World) (B : Nat) (hB : B ≤ w.heap.size) : E.Own (w.alloc (.cells #[] E.e)) B (.slice (some ⟨w.heap.size, 0, none⟩) 0 0) [] :=
  World.ownsRow_made w #[] 0 hB (by unfold maxLen; omega) (Nat.zero_mul _).symm
end

/-- What a program says of the kind: its slices' type, and the type's zero. -/
structure El.Inn (E : El α) (P : Program) (st : TypeId) : Prop where
  und : P.underlying st = some (.slice E.e)
  info : ∃ i z, P.info? E.e = some i ∧ i.zero = some z ∧ i.size = E.k ∧ i.bytes ≤ 1000 ∧ z.cells.size = E.k
theorem El.inn_of {P : Program} {st : TypeId} {z : Value} {bytes : Nat} (hu : P.underlying st = some (.slice E.e)) (h : (P.info? E.e).map (fun i => (i.zero, i.size, i.bytes)) = some (some z, E.k, bytes)) (hz : z.cells.size = E.k) (hb : bytes ≤ 1000) : E.Inn P st := by
  obtain ⟨i, hi, hz0, hz1, hz2⟩ := info_parts h
  exact ⟨hu, i, z, hi, hz0, hz1, by rw [hz2]; exact hb, hz⟩
variable {P : Program} {st : TypeId}
theorem El.run_app (I : E.Inn P st) (w : World) (ty : TypeId) (B : Nat) (v : Value) (l r : List α) (hown : E.Own w B v l) (A : Option Addr) (m c : Nat) (hm : r.length = m) (hT : E.Sl w A r) (hc : A = none → c = 0) (hl : l.length + r.length ≤ 100000) (hB : B ≤ w.heap.size) :
    ∃ v' w', (Builtin.append_ #[st, st] ty #[v, .slice A m c]).run P w = .ok v' w' ∧ E.Own w' B v' (l ++ r) ∧ w.grownBy w' v.ownBlock ∧ (v'.ownBlock = v.ownBlock ∨ v'.ownBlock = some w.heap.size) := by
  subst hm
  obtain ⟨hu, i, z, hi, hz, hsz, hby, hzs⟩ := I
  cases A with
  | none =>
    obtain rfl := hT.none_nil
    obtain rfl := hc rfl
    refine ⟨v, w, run_append_owned_none (P := P) (w := w) B st ty E.e i E.k hu hi v l.length (E.cells l) hown, ?_, ⟨rfl, rfl, rfl, Nat.le_refl _, fun _ _ _ => rfl⟩, Or.inl rfl⟩
    rw [List.append_nil]; exact hown
  | some a =>
    have hb : (l.length + r.length) * i.bytes ≤ 100000 * 1000 := Nat.mul_le_mul hl hby
    obtain ⟨v', w', h1, h2, h3, _, h5⟩ := run_append_own_at (P := P) w B st ty E.e i z E.k i.bytes hu hi hz hsz rfl hzs E.pos v l.length (E.cells l) hown a r.length c (E.cells r) (El.cells_len r) hT.cells (El.cells_one r) (by unfold maxLen; omega) (by omega) hB
    refine ⟨v', w', h1, ?_, h3, h5⟩
    unfold El.Own
    rw [List.length_append, El.cells_app]; exact h2
theorem El.wp_app (I : E.Inn P st) {o : Oper} {a : Act} {w : World} {K : Act → World → Prop} {Q : Exit → Act → World → Prop} (s x : Operand)
    (ho : o.op = .call { callee := .builtin .append, args := #[s, x], argTypes := #[st, st] }) (B : Nat) (v : Value) (l r : List α) (hs : a.eval s = v) (hown : E.Own w B v l) (A : Option Addr) (m c : Nat) (hx : a.eval x = .slice A m c)
    (hm : r.length = m) (hT : E.Sl w A r) (hc : A = none → c = 0) (hl : l.length + r.length ≤ 100000) (hB : B ≤ w.heap.size)
    (h : ∀ v' w', E.Own w' B v' (l ++ r) → w.grownBy w' v.ownBlock → (v'.ownBlock = v.ownBlock ∨ v'.ownBlock = some w.heap.size) → K (a.put o.dst v') w') : o.wp P a w K Q := by
  obtain ⟨v', w', hr, h2, h3, h4⟩ := El.run_app I w o.type B v l r hown A m c hm hT hc hl hB
  unfold Oper.wp execOp
  simp only [ho, resolve, invoke, builtin, Sem.run_bind, Sem.run_pure, Result.andThen_ok, List.map_toArray, List.map_cons, List.map_nil, hs, hx, hr]
  exact h v' w' h2 h3 h4
theorem El.wpList_app (I : E.Inn P st) {ops : Array Oper} {rest : List Oper} {o : Oper} {a : Act} {w : World} {Q : Exit → Act → World → Prop} (hgd : o.guard = none) (s x : Operand)
    (ho : o.op = .call { callee := .builtin .append, args := #[s, x], argTypes := #[st, st] }) (B : Nat) (v : Value) (l r : List α) (hs : a.eval s = v) (hown : E.Own w B v l) (A : Option Addr) (m c : Nat) (hx : a.eval x = .slice A m c)
    (hm : r.length = m) (hT : E.Sl w A r) (hc : A = none → c = 0) (hl : l.length + r.length ≤ 100000) (hB : B ≤ w.heap.size)
    (h : ∀ v' w', E.Own w' B v' (l ++ r) → w.grownBy w' v.ownBlock → (v'.ownBlock = v.ownBlock ∨ v'.ownBlock = some w.heap.size) → wpList P ops Q rest (a.put o.dst v') w') : wpList P ops Q (o :: rest) a w :=
  wpList_plain hgd fun _ hK => El.wp_app I s x ho B v l r hs hown A m c hx hm hT hc hl hB fun v' w' h2 h3 h4 => hK _ _ (h v' w' h2 h3 h4)
theorem El.step_app (I : E.Inn P st) {ops : Array Oper} {o : Oper} {a : Act} {w : World} {K : Act → World → Prop} {Q : Exit → Act → World → Prop} {F : Prop} (hgd : o.guard = none) (s x : Operand)
    (ho : o.op = .call { callee := .builtin .append, args := #[s, x], argTypes := #[st, st] }) (B : Nat) (v : Value) (l r : List α) (hs : a.eval s = v) (hown : E.Own w B v l) (A : Option Addr) (m c : Nat) (hx : a.eval x = .slice A m c)
    (hm : r.length = m) (hT : E.Sl w A r) (hc : A = none → c = 0) (hl : l.length + r.length ≤ 100000) (hB : B ≤ w.heap.size)
    (h : ∀ v' w', E.Own w' B v' (l ++ r) → w.grownBy w' v.ownBlock → (v'.ownBlock = v.ownBlock ∨ v'.ownBlock = some w.heap.size) → K (a.put o.dst v') w') :
    if Region.wanted o (yielded ops a.tmps) = true then Oper.wp P o a w K Q else F := by
  rw [if_pos (by simp [Region.wanted, hgd])]
  exact El.wp_app I s x ho B v l r hs hown A m c hx hm hT hc hl hB h

/-- What a program says of the kind as a struct. -/
def isRow : TypeDesc → Bool
  | .struct _ => true
  | .array _ _ => true
  | _ => false
structure El.Row (E : El α) (P : Program) : Prop where
  size : (P.info? E.e).map (·.size) = some E.k
  desc : ∃ d, P.underlying E.e = some d ∧ isRow d = true
theorem El.run_load (R : El.Row E P) {w : World} {b off : Nat} {x : α} (h : E.At w b off x) : (loadVar E.e ⟨b, off, none⟩).run P w = .ok (.agg (E.c x).toArray) w := by
  obtain ⟨d, hu, hd⟩ := R.desc
  have hs0 := R.size
  have hl : (loadCells ⟨b, off, none⟩ (E.c x).length).run P w = .ok (E.c x).toArray w :=
    run_loadCells_list (P := P) w ⟨b, off, none⟩ (E.c x) (fun j v hv => by rw [Addr.add_lit]; exact h j v hv)
  cases hq : P.info? E.e with
  | none => simp [hq] at hs0
  | some i =>
    have hs : i.size = (E.c x).length := by rw [E.len]; simpa [hq] using hs0
    have hagg : (isAgg E.e).run P w = .ok true w := by
      unfold isAgg
      rw [Sem.run_bind, run_underlying hu w]
      cases d <;> simp_all [isRow]
    simp [loadVar, Sem.run_bind, hagg, sizeOf, typeInfo, hq, hs, hl]
theorem El.wp_load (R : El.Row E P) {o : Oper} {a : Act} {w : World} {K : Act → World → Prop} {Q : Exit → Act → World → Prop} (x : Operand) (ho : o.op = .load E.e x)
    (b off : Nat) (hx : a.eval x = .pointer (some ⟨b, off, none⟩)) (p : α) (hg : E.At w b off p) (cs : Array Value) (hc : cs = (E.c p).toArray)
    (h : K (a.put o.dst (.agg cs)) w) : o.wp P a w K Q := by
  subst hc
  unfold Oper.wp execOp
  simp only [ho, hx, Instr.loadAt, Instr.sureAddr, Sem.run_bind, Sem.run_pure, Result.andThen_ok, El.run_load R hg]
  exact h
theorem El.load (R : El.Row E P) {ops : Array Oper} {rest : List Oper} {o : Oper} {a : Act} {w : World} {Q : Exit → Act → World → Prop} (hgd : o.guard = none) (x : Operand) (ho : o.op = .load E.e x)
    (b off : Nat) (hx : a.eval x = .pointer (some ⟨b, off, none⟩)) (p : α) (hg : E.At w b off p) (cs : Array Value) (hc : cs = (E.c p).toArray)
    (h : wpList P ops Q rest (a.put o.dst (.agg cs)) w) : wpList P ops Q (o :: rest) a w :=
  wpList_plain hgd fun _ hK => El.wp_load R x ho b off hx p hg cs hc (hK _ _ h)
theorem El.store (R : El.Row E P) {ops : Array Oper} {rest : List Oper} {o : Oper} {a : Act} {w : World} {Q : Exit → Act → World → Prop} (hgd : o.guard = none) (x y : Operand) (ho : o.op = .store E.e x y)
    (b : Nat) (q : α) (cs : Array Value) (hc : cs = (E.c q).toArray) (hx : a.eval x = .pointer (some ⟨b, 0, none⟩)) (hy : a.eval y = .agg cs)
    (p : α) (hg : E.In w b p)
    (h : wpList P ops Q rest (a.put o.dst undef) (w.setRow b cs)) : wpList P ops Q (o :: rest) a w := by
  subst hc
  exact wpList_store_row hgd E.e x y ho b _ hx hy E.e _ hg (by simpa [E.len] using R.size) (by simp [E.len]) (by simpa using E.one q) h
theorem El.step_store (R : El.Row E P) {ops : Array Oper} {o : Oper} {a : Act} {w : World} {K : Act → World → Prop} {Q : Exit → Act → World → Prop} {F : Prop} (hgd : o.guard = none) (x y : Operand) (ho : o.op = .store E.e x y)
    (b : Nat) (q : α) (cs : Array Value) (hc : cs = (E.c q).toArray) (hx : a.eval x = .pointer (some ⟨b, 0, none⟩)) (hy : a.eval y = .agg cs)
    (p : α) (hg : E.In w b p)
    (h : K (a.put o.dst undef) (w.setRow b cs)) : if Region.wanted o (yielded ops a.tmps) = true then Oper.wp P o a w K Q else F := by
  rw [if_pos (by simp [Region.wanted, hgd])]
  subst hc
  exact wp_store_row E.e x y ho b _ hx hy E.e _ hg (by simpa [E.len] using R.size) (by simp [E.len]) (by simpa using E.one q) h
theorem El.step_load (R : El.Row E P) {ops : Array Oper} {o : Oper} {a : Act} {w : World} {K : Act → World → Prop} {Q : Exit → Act → World → Prop} {F : Prop} (hgd : o.guard = none) (x : Operand) (ho : o.op = .load E.e x)
    (b off : Nat) (hx : a.eval x = .pointer (some ⟨b, off, none⟩)) (p : α) (hg : E.At w b off p) (cs : Array Value) (hc : cs = (E.c p).toArray)
    (h : K (a.put o.dst (.agg cs)) w) : if Region.wanted o (yielded ops a.tmps) = true then Oper.wp P o a w K Q else F := by
  rw [if_pos (by simp [Region.wanted, hgd])]
  exact El.wp_load R x ho b off hx p hg cs hc h
/-- One result, a struct of a block. -/
theorem El.ret1 (R : El.Row E P) {fn : Func} {K : Ending → World → Prop} {a : Act} {w : World} {b : Nat} {t : Tmp} {p : α} (h : E.In w b p) (hr : fn.results = #[.cell t E.e]) (hp : a.tmps.getD t undef = .pointer (some ⟨b, 0, none⟩)) (hd : a.defers = [])
    (cs : Array Value) (hc : cs = (E.c p).toArray) (hR : K (.returned (.agg cs)) w) : bodyPost P fn K .ret a w := by
  subst hc
  have hp' : a.tmps[t]?.getD undef = .pointer (some ⟨b, 0, none⟩) := by simpa using hp
  refine bodyPost_ret (v := .agg (E.c p).toArray) ?_ hd hR
  simp [results, hr, hp', asAddr, El.run_load R h.at]
/-- Two results, a struct of a block and a word. -/
theorem El.ret2 (R : El.Row E P) {fn : Func} {K : Ending → World → Prop} {a : Act} {w : World} {b : Nat} {t u : Tmp} {v : Value} {p : α} (h : E.In w b p) (hr : fn.results = #[.cell t E.e, .tmp u]) (hp : a.tmps.getD t undef = .pointer (some ⟨b, 0, none⟩)) (hv : a.tmps.getD u undef = v) (hd : a.defers = [])
    (cs : Array Value) (hc : cs = (E.c p).toArray) (hR : K (.returned (.tuple #[.agg cs, v])) w) : bodyPost P fn K .ret a w := by
  subst hc
  refine bodyPost_ret (v := .tuple #[.agg (E.c p).toArray, v]) ?_ hd hR
  rw [results_cell_tmp hr, hp, hv]
  simp only [asAddr, Sem.run_pure, Result.andThen, El.run_load R h.at]
/-- Two results, a word and a struct of a block. -/
theorem El.ret3 (R : El.Row E P) {fn : Func} {K : Ending → World → Prop} {a : Act} {w : World} {b : Nat} {t u : Tmp} {v : Value} {p : α} (h : E.In w b p) (hr : fn.results = #[.tmp u, .cell t E.e]) (hp : a.tmps.getD t undef = .pointer (some ⟨b, 0, none⟩)) (hv : a.tmps.getD u undef = v) (hd : a.defers = [])
    (cs : Array Value) (hc : cs = (E.c p).toArray) (hR : K (.returned (.tuple #[v, .agg cs])) w) : bodyPost P fn K .ret a w := by
  subst hc
  refine bodyPost_ret (v := .tuple #[v, .agg (E.c p).toArray]) ?_ hd hR
  have hp' : a.tmps[t]?.getD undef = .pointer (some ⟨b, 0, none⟩) := by simpa using hp
  have hv' : a.tmps[u]?.getD undef = v := by simpa using hv
  simp [results, hr, hp', hv', asAddr, El.run_load R h.at]
end
end Go.Proofs.Ytdkolkjgojamcaa

/- Rows of structs, whatever the struct: made, written at a place, built of one. No function of the program in it. -/
namespace Go.Proofs.Ytdkolkjgojamcaa
open Go.RowKit

section
variable {α : Type} {E : El α}
theorem El.cells_take (l : List α) (i : Nat) (h : i ≤ l.length) : E.cells (l.take i) = (E.cells l).take (i * E.k) := by
  have e : E.cells l = E.cells (l.take i) ++ E.cells (l.drop i) := by rw [← El.cells_app, List.take_append_drop]
  have hl : (E.cells (l.take i)).length = i * E.k := by rw [El.cells_len, List.length_take, Nat.min_eq_left h]
  rw [e]; exact (List.take_left' hl).symm
theorem El.cells_drop (l : List α) (i : Nat) (h : i ≤ l.length) : E.cells (l.drop i) = (E.cells l).drop (i * E.k) := by
  have e : E.cells l = E.cells (l.take i) ++ E.cells (l.drop i) := by rw [← El.cells_app, List.take_append_drop]
  have hl : (E.cells (l.take i)).length = i * E.k := by rw [El.cells_len, List.length_take, Nat.min_eq_left h]
  rw [e]; exact (List.drop_left' hl).symm
theorem El.cells_set (l : List α) (i : Nat) (h : i < l.length) (x : α) : E.cells (l.set i x) = (E.cells l).take (i * E.k) ++ E.c x ++ (E.cells l).drop (i * E.k + E.k) := by
  rw [List.set_eq_take_append_cons_drop, if_pos h, El.cells_app, El.cells, El.cells_take l i (by omega), El.cells_drop l (i + 1) h, Nat.succ_mul, List.append_assoc]
theorem El.cells_rep (x : α) : ∀ n, (E.cells (List.replicate n x)).length = n * E.k := fun n => by rw [El.cells_len, List.length_replicate]
theorem El.made (x : α) (z : Array Value) (hz : z.toList = E.c x) (n : Nat) : (madeCells z (n * E.k)).toList = E.cells (List.replicate n x) := by
  have hzs : z.size = E.k := by rw [← Array.length_toList, hz, E.len]
  have hpos := E.pos
  apply List.ext_getElem?
  intro m
  by_cases hm : m < n * E.k
  · have h1 : m / E.k < n := Nat.div_lt_of_lt_mul (by rw [Nat.mul_comm]; exact hm)
    have h2 : m % E.k < E.k := Nat.mod_lt _ hpos
    have hu : (E.c x)[m % E.k]? = some ((E.c x)[m % E.k]'(by rw [E.len]; exact h2)) := List.getElem?_eq_getElem _
    have h3 := El.cells_at (E := E) (List.replicate n x) (m / E.k) (by simpa using h1) (m % E.k) _ (by rw [List.getElem_replicate]; exact hu)
    rw [Nat.mul_comm, Nat.div_add_mod] at h3
    rw [h3]
    simp only [madeCells, Array.getElem?_toList, Array.getElem?_map, Array.getElem?_range, hm, if_true, Option.map_some, hzs]
    congr 1
    simp only [← hz, Array.getElem_toList]
    exact getElem!_pos z _ (by omega)
  · rw [List.getElem?_eq_none (by rw [Array.length_toList, size_madeCells]; omega), List.getElem?_eq_none (by rw [El.cells_rep]; omega)]

variable {P : Program} {st : TypeId}
/-- make([]T, n). -/
theorem El.wp_make (I : E.Inn P st) (x : α) (hx : ∃ i z, P.info? E.e = some i ∧ i.zero = some z ∧ z.cells.toList = E.c x) {o : Oper} {a : Act} {w : World} {K : Act → World → Prop} {Q : Exit → Act → World → Prop} (lx cx : Operand)
    (ho : o.op = .makeSlice st lx cx) (B n c : Nat) (hl : a.eval lx = .int .i64 n) (hc : a.eval cx = .int .i64 c) (hn : c ≤ 100000) (hnc : n ≤ c) (hB : B ≤ w.heap.size)
    (h : ∀ w', E.Own w' B (.slice (some ⟨w.heap.size, 0, none⟩) n c) (List.replicate n x) → w.grownBy w' none → w.heap.size < w'.heap.size → K (a.put o.dst (.slice (some ⟨w.heap.size, 0, none⟩) n c)) w') : o.wp P a w K Q := by
  obtain ⟨hu, i, z, hi, hz, hsz, hby, hzs⟩ := I
  obtain ⟨i', z', hi', hz', hzc⟩ := hx
  rw [hi] at hi'; cases hi'
  rw [hz] at hz'; cases hz'
  have hb : i.bytes * c ≤ 1000 * 100000 := Nat.mul_le_mul hby hn
  have hb' : (i.bytes : Int) * (c : Int) ≤ 281474976710656 := by
    have h : ((i.bytes * c : Nat) : Int) ≤ 281474976710656 := by omega
    rwa [Int.natCast_mul] at h
  have hr := run_make (P := P) w st E.e i z hu hi hz .i64 .i64 n c (by omega) (by omega) hb' (by omega)
  simp only [Int.toNat_natCast] at hr
  unfold Oper.wp execOp
  simp only [ho, hl, hc, Sem.run_bind, Sem.run_pure, Result.andThen_ok, hr]
  refine h _ ⟨by rw [List.length_replicate, El.cells_rep], .inr ⟨w.heap.size, c, _, ?_, hB, heap_alloc_new w _, ?_, by unfold maxLen; omega, ?_, ?_⟩⟩ (World.grownBy_alloc w _ none) (by simp)
  · rw [List.length_replicate]
  · rw [List.length_replicate]; exact hnc
  · rw [size_madeCells, hsz]
  · rw [hsz, El.made x z.cells hzc c, List.length_replicate, ← El.cells_rep (E := E) x n]
    obtain ⟨d, rfl⟩ : ∃ d, c = n + d := ⟨c - n, by omega⟩
    rw [← List.replicate_append_replicate, El.cells_app]
    exact List.take_left
theorem El.wpList_make (I : E.Inn P st) (x : α) (hx : ∃ i z, P.info? E.e = some i ∧ i.zero = some z ∧ z.cells.toList = E.c x) {ops : Array Oper} {rest : List Oper} {o : Oper} {a : Act} {w : World} {Q : Exit → Act → World → Prop} (hgd : o.guard = none) (lx cx : Operand)
    (ho : o.op = .makeSlice st lx cx) (B n c : Nat) (hl : a.eval lx = .int .i64 n) (hc : a.eval cx = .int .i64 c) (hn : c ≤ 100000) (hnc : n ≤ c) (hB : B ≤ w.heap.size)
    (h : ∀ w', E.Own w' B (.slice (some ⟨w.heap.size, 0, none⟩) n c) (List.replicate n x) → w.grownBy w' none → w.heap.size < w'.heap.size → wpList P ops Q rest (a.put o.dst (.slice (some ⟨w.heap.size, 0, none⟩) n c)) w') : wpList P ops Q (o :: rest) a w :=
  wpList_plain hgd fun _ hK => El.wp_make I x hx lx cx ho B n c hl hc hn hnc hB fun w' h1 h2 h3 => hK _ _ (h w' h1 h2 h3)

/-- s[i] = x, in a row of the call's own. -/
theorem El.wp_setAt (R : El.Row E P) {o : Oper} {a : Act} {w : World} {K : Act → World → Prop} {Q : Exit → Act → World → Prop} (x y : Operand) (ho : o.op = .store E.e x y)
    (B g cap i : Nat) (l : List α) (q : α) (hown : E.Own w B (.slice (some ⟨g, 0, none⟩) l.length cap) l) (hi : i < l.length) (cs : Array Value) (hcs : cs = (E.c q).toArray) (hx : a.eval x = .pointer (some ⟨g, i * E.k, none⟩)) (hy : a.eval y = .agg cs)
    (h : ∀ w', E.Own w' B (.slice (some ⟨g, 0, none⟩) l.length cap) (l.set i q) → w.grownBy w' (some g) → w'.heap.size = w.heap.size → K (a.put o.dst undef) w') : o.wp P a w K Q := by
  subst hcs
  unfold El.Own at hown
  rcases hown.2 with ⟨h', _⟩ | ⟨g', cap', cur, h', hb, hg, hnc, hcm, hcsz, htake⟩
  · simp at h'
  · simp only [Value.slice.injEq, Option.some.injEq, Addr.mk.injEq, and_true, true_and] at h'
    obtain ⟨rfl, rfl⟩ := h'
    have hlen := hown.1
    have hik : i * E.k + E.k ≤ l.length * E.k := by rw [← Nat.succ_mul]; exact Nat.mul_le_mul_right _ hi
    have hck : l.length * E.k ≤ cap * E.k := Nat.mul_le_mul_right _ hnc
    have hs := run_storeCells_at (P := P) g (i * E.k) E.e (E.c q) 0 cur w hg (by rw [E.len]; omega) (E.one q)
    have hsz : ((E.c q).toArray).size = E.k := by simp [E.len]
    have hv : (storeVar E.e ⟨g, i * E.k, none⟩ (.agg (E.c q).toArray)).run P w = .ok () (w.setRow g (cur.toList.take (i * E.k) ++ E.c q ++ cur.toList.drop (i * E.k + E.k)).toArray) := by
      have hR := R.size
      cases hq : P.info? E.e with
      | none => simp [hq] at hR
      | some inf =>
        have hinf : inf.size = E.k := by simpa [hq] using hR
        simp only [Nat.add_zero, E.len] at hs
        simp [storeVar, sizeOf, typeInfo, hq, Value.cells, hinf, E.len, hs]
    unfold Oper.wp execOp
    simp only [ho, hx, hy, Instr.storeAt, Instr.sureAddr, Sem.run_bind, Sem.run_pure, Result.andThen_ok, hv]
    refine h _ ⟨by rw [List.length_set, El.cells_len, List.length_set], .inr ⟨g, cap, _, by rw [List.length_set], hb, setRow_heap w g cur _ E.e (0, 0) hg, by rw [List.length_set]; exact hnc, hcm, ?_, ?_⟩⟩ ⟨rfl, rfl, rfl, by simp, fun k _ hk => setRow_other w g k _ (fun e => hk (by simp [e]))⟩ (by simp)
    · simp only [List.size_toArray, List.length_append, List.length_take, List.length_drop, Array.length_toList, E.len]; omega
    · rw [List.length_set, El.cells_set l i hi q, ← htake]
      have hcl : cur.toList.length = cap * E.k := by rw [Array.length_toList, hcsz]
      generalize cur.toList = C at *
      simp only [List.toList_toArray]
      rw [List.take_take, Nat.min_eq_left (by omega), List.drop_take]
      have e1 : (C.take (i * E.k)).length = i * E.k := by rw [List.length_take]; omega
      have e2 : (C.take (i * E.k) ++ E.c q).length = i * E.k + E.k := by rw [List.length_append, e1, E.len]
      rw [List.take_append (l₁ := C.take (i * E.k) ++ E.c q), e2, List.take_of_length_le (by omega : (C.take (i * E.k) ++ E.c q).length ≤ l.length * E.k)]
theorem El.wpList_setAt (R : El.Row E P) {ops : Array Oper} {rest : List Oper} {o : Oper} {a : Act} {w : World} {Q : Exit → Act → World → Prop} (hgd : o.guard = none) (x y : Operand) (ho : o.op = .store E.e x y)
    (B g cap i : Nat) (l : List α) (q : α) (hown : E.Own w B (.slice (some ⟨g, 0, none⟩) l.length cap) l) (hi : i < l.length) (cs : Array Value) (hcs : cs = (E.c q).toArray) (hx : a.eval x = .pointer (some ⟨g, i * E.k, none⟩)) (hy : a.eval y = .agg cs)
    (h : ∀ w', E.Own w' B (.slice (some ⟨g, 0, none⟩) l.length cap) (l.set i q) → w.grownBy w' (some g) → w'.heap.size = w.heap.size → wpList P ops Q rest (a.put o.dst undef) w') : wpList P ops Q (o :: rest) a w :=
  wpList_plain hgd fun _ hK => El.wp_setAt R x y ho B g cap i l q hown hi cs hcs hx hy fun w' h1 h2 h3 => hK _ _ (h w' h1 h2 h3)
end
end Go.Proofs.Ytdkolkjgojamcaa

/- Trees as lists of places: where a node stands, who is above whom. No program in it. -/
namespace Tre

structure Pl where
  n : Int
  u : Int
  s : ByteArray
def zero : Pl := ⟨0, 0, ⟨#[]⟩⟩
instance : Inhabited Pl := ⟨zero⟩

/-- How many stand ahead of node b. -/
def idx (l : List Pl) (b : Int) : Nat := (l.takeWhile fun p => decide (p.n < b)).length
def Sorted (l : List Pl) : Prop := ∀ i j (hi : i < l.length) (hj : j < l.length), i < j → l[i].n < l[j].n

theorem idx_nil (b : Int) : idx [] b = 0 := rfl
theorem idx_cons_lt {p : Pl} {l : List Pl} {b : Int} (h : p.n < b) : idx (p :: l) b = idx l b + 1 := by
  unfold idx; rw [List.takeWhile_cons_of_pos (by simpa using h)]; rfl
theorem idx_cons_ge {p : Pl} {l : List Pl} {b : Int} (h : ¬ p.n < b) : idx (p :: l) b = 0 := by
  unfold idx; rw [List.takeWhile_cons_of_neg (by simpa using h)]; rfl
theorem idx_le (l : List Pl) (b : Int) : idx l b ≤ l.length := by
  induction l with
  | nil => exact Nat.le_refl _
  | cons p l ih =>
    by_cases h : p.n < b
    · rw [idx_cons_lt h]; simpa using ih
    · rw [idx_cons_ge h]; exact Nat.zero_le _
theorem idx_before : ∀ (l : List Pl) (b : Int) (i : Nat) (h : i < l.length), i < idx l b → l[i].n < b
  | p :: l, b, i, h, hi => by
    by_cases hp : p.n < b
    · rw [idx_cons_lt hp] at hi
      cases i with
      | zero => exact hp
      | succ i => exact idx_before l b i (by simpa using h) (by omega)
    · rw [idx_cons_ge hp] at hi; omega
theorem idx_at : ∀ (l : List Pl) (b : Int) (h : idx l b < l.length), b ≤ l[idx l b].n
  | p :: l, b, h => by
    by_cases hp : p.n < b
    · have e := idx_cons_lt (l := l) hp
      simp only [e, List.getElem_cons_succ]
      exact idx_at l b (by rw [e] at h; simpa using h)
    · have e := idx_cons_ge (l := l) hp
      simp only [e, List.getElem_cons_zero]; omega
/-- Where all ahead are below b, and all from there on aren't. -/
theorem idx_eq {l : List Pl} {b : Int} {k : Nat} (hk : k ≤ l.length) (h1 : ∀ i (h : i < l.length), i < k → l[i].n < b) (h2 : ∀ (h : k < l.length), b ≤ l[k].n) : k = idx l b := by
  rcases Nat.lt_trichotomy k (idx l b) with h | h | h
  · have hl : k < l.length := Nat.lt_of_lt_of_le h (idx_le l b)
    have := idx_before l b k hl h
    have := h2 hl
    omega
  · exact h
  · have hl : idx l b < l.length := Nat.lt_of_lt_of_le h hk
    have := h1 _ hl h
    have := idx_at l b hl
    omega
theorem idx_self {l : List Pl} (hs : Sorted l) (i : Nat) (h : i < l.length) : idx l l[i].n = i :=
  (idx_eq (Nat.le_of_lt h) (fun j hj hji => hs j i hj h hji) (fun _ => by omega)).symm

/-- A node's place. -/
def get (l : List Pl) (b : Int) : Option Pl := (l[idx l b]?).bind fun p => if p.n = b then some p else none
theorem get_some {l : List Pl} {b : Int} {p : Pl} (h : get l b = some p) : p ∈ l ∧ p.n = b ∧ ∃ h : idx l b < l.length, l[idx l b] = p := by
  unfold get at h
  rw [Option.bind_eq_some_iff] at h
  obtain ⟨q, h1, h2⟩ := h
  by_cases e : q.n = b
  · rw [if_pos e] at h2; cases h2
    obtain ⟨hl, he⟩ := List.getElem?_eq_some_iff.1 h1
    exact ⟨List.mem_of_getElem? h1, e, hl, he⟩
  · rw [if_neg e] at h2; cases h2
theorem get_of {l : List Pl} {b : Int} (h : idx l b < l.length) (e : l[idx l b].n = b) : get l b = some l[idx l b] := by
  unfold get; rw [List.getElem?_eq_getElem h, Option.bind_some, if_pos e]
theorem get_none_end {l : List Pl} {b : Int} (h : ¬ idx l b < l.length) : get l b = none := by
  unfold get; rw [List.getElem?_eq_none (by omega)]; rfl
theorem get_none_other {l : List Pl} {b : Int} (h : idx l b < l.length) (e : ¬ l[idx l b].n = b) : get l b = none := by
  unfold get; rw [List.getElem?_eq_getElem h, Option.bind_some, if_neg e]
theorem get_self {l : List Pl} (hs : Sorted l) (i : Nat) (h : i < l.length) : get l l[i].n = some l[i] := by
  have e := idx_self hs i h
  unfold get; rw [e, List.getElem?_eq_getElem h, Option.bind_some, if_pos rfl]

/-- k steps up. -/
def up (l : List Pl) : Nat → Int → Option Int
  | 0, b => some b
  | k + 1, b => (get l b).bind fun p => up l k p.u
theorem up_add (l : List Pl) : ∀ (m k : Nat) (b : Int), up l (m + k) b = (up l m b).bind (up l k)
  | 0, k, b => by rw [Nat.zero_add]; rfl
  | m + 1, k, b => by
    rw [Nat.succ_add]
    show (get l b).bind (fun p => up l (m + k) p.u) = ((get l b).bind fun p => up l m p.u).bind (up l k)
    rw [Option.bind_assoc]
    congr 1; funext p; exact up_add l m k p.u
/-- At or above, by so many looks. -/
def abv (l : List Pl) : Nat → Int → Int → Bool
  | 0, _, _ => false
  | f + 1, a, b => if a = b then true else match get l b with
    | none => false
    | some p => abv l f a p.u
theorem abv_iff (l : List Pl) (a : Int) : ∀ (f : Nat) (b : Int), abv l f a b = true ↔ ∃ k, k < f ∧ up l k b = some a
  | 0, b => by
    constructor
    · intro h; cases h
    · rintro ⟨k, h, _⟩; omega
  | f + 1, b => by
    unfold abv
    by_cases e : a = b
    · rw [if_pos e]
      exact ⟨fun _ => ⟨0, by omega, by rw [e]; rfl⟩, fun _ => rfl⟩
    · rw [if_neg e]
      rcases hg : get l b with _ | p
      · constructor
        · intro h; cases h
        · rintro ⟨k, hk, hu⟩
          cases k with
          | zero => exact absurd (Option.some.inj hu).symm e
          | succ k => rw [up, hg] at hu; cases hu
      · constructor
        · intro h
          obtain ⟨k, hk, hu⟩ := (abv_iff l a f p.u).1 h
          exact ⟨k + 1, by omega, by rw [up, hg]; exact hu⟩
        · rintro ⟨k, hk, hu⟩
          cases k with
          | zero => exact absurd (Option.some.inj hu).symm e
          | succ k =>
            rw [up, hg] at hu
            exact (abv_iff l a f p.u).2 ⟨k, by omega, hu⟩
def above (l : List Pl) (a b : Int) : Bool := abv l (l.length + 1) a b
/-- No place is at or above its own Up. -/
def NoRing (l : List Pl) : Prop := ∀ p ∈ l, above l p.n p.u = false

theorem pigeon {α : Type} [DecidableEq α] : ∀ (l m : List α), l.Nodup → (∀ x ∈ l, x ∈ m) → l.length ≤ m.length
  | [], _, _, _ => Nat.zero_le _
  | x :: l, m, hn, hs => by
    have hx : x ∈ m := hs x (by simp)
    have hn' := List.nodup_cons.1 hn
    have h := pigeon l (m.erase x) hn'.2 (fun y hy => by
      have hne : y ≠ x := fun e => hn'.1 (e ▸ hy)
      exact (List.mem_erase_of_ne hne).2 (hs y (by simp [hy])))
    rw [List.length_erase_of_mem hx] at h
    have : 0 < m.length := List.length_pos_of_mem hx
    simp only [List.length_cons]; omega

/-- A way up has no more steps than there are places. -/
theorem up_bound {l : List Pl} (hr : NoRing l) {k : Nat} {a b : Int} (h : up l k b = some a) : k ≤ l.length := by
  rcases Nat.lt_or_ge l.length k with hlt | hge
  · exfalso
    -- every step up to k stands
    have stand : ∀ i, i ≤ k → ∃ x, up l i b = some x := fun i hi => by
      have e : k = i + (k - i) := by omega
      rw [e, up_add] at h
      rcases hx : up l i b with _ | x
      · rw [hx] at h; cases h
      · exact ⟨x, rfl⟩
    have place : ∀ i x, i < k → up l i b = some x → ∃ p, get l x = some p ∧ up l (i + 1) b = some p.u := fun i x hi hx => by
      obtain ⟨y, hy⟩ := stand (i + 1) hi
      have hy' := hy
      rw [up_add, hx, Option.bind_some] at hy'
      rcases hg : get l x with _ | p
      · rw [up, hg] at hy'; cases hy'
      · rw [up, hg] at hy'
        exact ⟨p, rfl, by rw [hy]; exact hy'.symm⟩
    let s : Nat → Int := fun i => (up l i b).getD 0
    have hs : ∀ i, i ≤ k → up l i b = some (s i) := fun i hi => by
      obtain ⟨x, hx⟩ := stand i hi
      show up l i b = some ((up l i b).getD 0)
      rw [hx]; rfl
    have unlike : ∀ i j, i < j → j ≤ l.length → s i ≠ s j := fun i j hij hj e => by
      have hi := hs i (by omega)
      have hj' := hs j (by omega)
      obtain ⟨p, hp, hu⟩ := place i _ (by omega) hi
      have hj2 := hj'
      rw [show j = (i + 1) + (j - i - 1) by omega, up_add, hu, Option.bind_some] at hj2
      obtain ⟨hm, hn, _⟩ := get_some hp
      have hf := hr p hm
      have ht : above l p.n p.u = true := (abv_iff l p.n _ p.u).2 ⟨j - i - 1, by omega, by
        rw [hj2, hn, e]
        have : (i + 1) + (j - i - 1) = j := by omega
        rw [this]⟩
      rw [hf] at ht; cases ht
    have nd : ((List.range (l.length + 1)).map s).Nodup := by
      rw [List.nodup_iff_pairwise_ne, List.pairwise_map]
      exact List.Pairwise.imp_of_mem (fun {i j} hi hj hij => unlike i j hij (by have := List.mem_range.1 hj; omega)) List.pairwise_lt_range
    have sub : ∀ x ∈ (List.range (l.length + 1)).map s, x ∈ l.map (·.n) := fun x hx => by
      obtain ⟨i, hi, rfl⟩ := List.mem_map.1 hx
      have hi := List.mem_range.1 hi
      obtain ⟨p, hp, _⟩ := place i _ (by omega) (hs i (by omega))
      obtain ⟨hm, hn, _⟩ := get_some hp
      exact List.mem_map.2 ⟨p, hm, hn⟩
    have := pigeon _ _ nd sub
    simp at this
    omega
  · exact hge
theorem above_iff {l : List Pl} (hr : NoRing l) {a b : Int} : above l a b = true ↔ ∃ k, up l k b = some a := by
  unfold above
  rw [abv_iff]
  exact ⟨fun ⟨k, _, h⟩ => ⟨k, h⟩, fun ⟨k, h⟩ => ⟨k, by have := up_bound hr h; omega, h⟩⟩
theorem above_trans {l : List Pl} (hr : NoRing l) {a b c : Int} (h1 : above l a b = true) (h2 : above l b c = true) : above l a c = true := by
  obtain ⟨k, hk⟩ := (above_iff hr).1 h1
  obtain ⟨m, hm⟩ := (above_iff hr).1 h2
  exact (above_iff hr).2 ⟨m + k, by rw [up_add, hm, Option.bind_some, hk]⟩
theorem up_loop {l : List Pl} {k : Nat} {b : Int} (h : up l k b = some b) : ∀ m, up l (k * m) b = some b
  | 0 => rfl
  | m + 1 => by rw [Nat.mul_succ, up_add, up_loop h m, Option.bind_some, h]
theorem above_anti {l : List Pl} (hr : NoRing l) {a b : Int} (h1 : above l a b = true) (h2 : above l b a = true) : a = b := by
  obtain ⟨k, hk⟩ := (above_iff hr).1 h1
  obtain ⟨m, hm⟩ := (above_iff hr).1 h2
  have h : up l (k + m) b = some b := by rw [up_add, hk, Option.bind_some, hm]
  rcases Nat.eq_zero_or_pos (k + m) with h0 | h0
  · obtain rfl : k = 0 := by omega
    exact (Option.some.inj hk).symm
  · have := up_bound hr (up_loop h (l.length + 1))
    have : l.length + 1 ≤ (k + m) * (l.length + 1) := Nat.le_mul_of_pos_left _ h0
    omega
theorem above_self (l : List Pl) (a : Int) : above l a a = true := by unfold above abv; rw [if_pos rfl]

/-- Where what stands behind node b's place begins. -/
def behind (l : List Pl) (b : Int) : Nat := if (get l b).isSome then idx l b + 1 else idx l b
def placedL (l : List Pl) (b : Int) (m : List Pl) : List Pl := (l.take (idx l b) ++ m) ++ l.drop (behind l b)
def putL (l : List Pl) (p : Pl) : List Pl := placedL l p.n [p]
def dropL (l : List Pl) (b : Int) : List Pl := placedL l b []
end Tre

/- A place in a block, a list of places in a slice; Find of the program. -/
namespace Go.Proofs.Ytdkolkjgojamcaa
open Go.RowKit Tre

/-- From the cell o of block b on a place lies. -/
def AtPl (w : World) (b o : Nat) (p : Pl) : Prop :=
  w.cell? ⟨b, o, none⟩ = some (.int .i64 p.n) ∧ w.cell? ⟨b, o + 1, none⟩ = some (.int .i64 p.u) ∧ w.cell? ⟨b, o + 2, none⟩ = some (.string p.s)
theorem AtPl.below {W w : World} {b o : Nat} {p : Pl} (h : AtPl W b o p) (hb : Below W.heap.size W w) (hl : b < W.heap.size) : AtPl w b o p := by
  unfold AtPl at h ⊢
  rw [(bcell hb).1 _ _ hl, (bcell hb).1 _ _ hl, (bcell hb).1 _ _ hl]; exact h
/-- The slice at A holds these places. -/
def Tr (w : World) (A : Option Addr) (l : List Pl) : Prop :=
  0 < l.length → ∃ b off, A = some ⟨b, off, none⟩ ∧ b < w.heap.size ∧ ∀ i (h : i < l.length), AtPl w b (off + i * 3) l[i]
theorem Tr.below {W w : World} {A : Option Addr} {l : List Pl} (h : Tr W A l) (hb : Below W.heap.size W w) : Tr w A l := fun h0 => by
  obtain ⟨b, off, e, hl, hc⟩ := h h0
  exact ⟨b, off, e, Nat.lt_of_lt_of_le hl hb.size, fun i hi => (hc i hi).below hb hl⟩
theorem Tr.nil (w : World) (A : Option Addr) : Tr w A [] := fun h => by simp at h

def cmp3 (a b : Int) : Int := if a < b then -1 else if b < a then 1 else 0
end Go.Proofs.Ytdkolkjgojamcaa

/- Find of the document; Get and Above of both. -/
namespace Go.Proofs.Ytdkolkjgojamcaa
open Go.RowKit Tre

section
variable {w w' : World} {b : Nat} {p : Pl}
theorem below_setRow {W w : World} (h : Below W.heap.size W w) {n : Nat} (hn : W.heap.size ≤ n) (cs : Array Value) : Below W.heap.size W (w.setRow n cs) :=
  ⟨h.os, h.tape, h.output, by simpa [World.setRow] using h.size, fun k hk => (setRow_other w n k cs (by omega)).trans (h.block k hk)⟩
end
theorem find_end {l : List Pl} {b : Int} {i : Nat} {x : Bool} (h : i = idx l b) (k : (Tre.get l b).isSome = x) : Ending.returned (.tuple #[.int .i64 i, .bool x]) = Ending.returned (.tuple #[.int .i64 (idx l b), .bool (Tre.get l b).isSome]) := by rw [k, ← h]

theorem isSome_get {l : List Pl} {b : Int} {p : Pl} (hp : (Tre.get l b).getD zero = p) (hi : (Tre.get l b).isSome = true) : Tre.get l b = some p ∧ ∃ h : idx l b < l.length, l[idx l b] = p := by
  rcases h : Tre.get l b with _ | q
  · rw [h] at hi; cases hi
  · rw [h] at hp
    obtain rfl : q = p := hp
    exact ⟨rfl, (get_some h).2.2⟩
theorem none_get {l : List Pl} {b : Int} {p : Pl} (hp : (Tre.get l b).getD zero = p) (hi : (Tre.get l b).isSome = false) : p = zero := by
  rw [← hp]
  rcases h : Tre.get l b with _ | q
  · rfl
  · rw [h] at hi; cases hi

end Go.Proofs.Ytdkolkjgojamcaa

/- A list of places of the call's own: what append makes of it. Grow and Concat of the library. -/
namespace Go.Proofs.Ytdkolkjgojamcaa
open Go.RowKit Tre

def plCells : List Pl → List Value
  | [] => []
  | p :: l => .int .i64 p.n :: .int .i64 p.u :: .string p.s :: plCells l
theorem plCells_len : ∀ l, (plCells l).length = l.length * 3
  | [] => rfl
  | p :: l => by simp only [plCells, List.length_cons, plCells_len l]; omega
theorem plCells_app : ∀ l r, plCells (l ++ r) = plCells l ++ plCells r
  | [], r => rfl
  | p :: l, r => by simp only [plCells, List.cons_append, plCells_app l r]
theorem plCells_one : ∀ (l : List Pl), ∀ u ∈ plCells l, u.oneCell' = true
  | [], u, h => by cases h
  | p :: l, u, h => by
    simp only [plCells, List.mem_cons] at h
    rcases h with rfl | rfl | rfl | h
    · rfl
    · rfl
    · rfl
    · exact plCells_one l u h
theorem plCells_at : ∀ (l : List Pl) (i : Nat) (h : i < l.length), (plCells l)[i * 3]? = some (.int .i64 l[i].n) ∧ (plCells l)[i * 3 + 1]? = some (.int .i64 l[i].u) ∧ (plCells l)[i * 3 + 2]? = some (.string l[i].s)
  | p :: l, 0, _ => ⟨rfl, rfl, rfl⟩
  | p :: l, i + 1, h => by
    have := plCells_at l i (by simpa using h)
    rw [show (i + 1) * 3 = i * 3 + 3 by omega]
    exact this
theorem plCells_get : ∀ (l : List Pl) (j : Nat) (u : Value), (plCells l)[j]? = some u → ∃ i, ∃ h : i < l.length, (j = i * 3 ∧ u = .int .i64 l[i].n) ∨ (j = i * 3 + 1 ∧ u = .int .i64 l[i].u) ∨ (j = i * 3 + 2 ∧ u = .string l[i].s)
  | [], j, u, h => by simp [plCells] at h
  | p :: l, 0, u, h => ⟨0, by simp, Or.inl ⟨rfl, by simpa [plCells] using h.symm⟩⟩
  | p :: l, 1, u, h => ⟨0, by simp, Or.inr (Or.inl ⟨rfl, by simpa [plCells] using h.symm⟩)⟩
  | p :: l, 2, u, h => ⟨0, by simp, Or.inr (Or.inr ⟨rfl, by simpa [plCells] using h.symm⟩)⟩
  | p :: l, j + 3, u, h => by
    obtain ⟨i, hi, hc⟩ := plCells_get l j u h
    refine ⟨i + 1, by simpa using hi, ?_⟩
    rcases hc with ⟨e, hu⟩ | ⟨e, hu⟩ | ⟨e, hu⟩
    · exact Or.inl ⟨by omega, by simpa using hu⟩
    · exact Or.inr (Or.inl ⟨by omega, by simpa using hu⟩)
    · exact Or.inr (Or.inr ⟨by omega, by simpa using hu⟩)

theorem add_lit (b o j : Nat) : (⟨b, o, none⟩ : Addr).add j = ⟨b, o + j, none⟩ := Addr.add_lit b o j
/-- It lies from B on. -/
def Frs (B : Nat) (A : Option Addr) : Prop := ∀ a, A = some a → B ≤ a.block
theorem Frs.mono {B B' : Nat} {A : Option Addr} (h : Frs B A) (hB : B' ≤ B) : Frs B' A := fun a e => Nat.le_trans hB (h a e)
theorem Tr.cells {w : World} {a : Addr} {l : List Pl} (h : Tr w (some a) l) : ∀ j u, (plCells l)[j]? = some u → w.cell? (a.add j) = some u := by
  intro j u hu
  obtain ⟨i, hi, hc⟩ := plCells_get l j u hu
  obtain ⟨b, off, e, _, hat⟩ := h (by omega)
  obtain rfl := Option.some.inj e
  obtain ⟨a0, a1, a2⟩ := hat i hi
  rw [add_lit]
  rcases hc with ⟨rfl, rfl⟩ | ⟨rfl, rfl⟩ | ⟨rfl, rfl⟩
  · exact a0
  · exact a1
  · exact a2
theorem Tr.none_nil {w : World} {l : List Pl} (h : Tr w none l) : l = [] := by
  rcases Nat.eq_zero_or_pos l.length with h0 | h0
  · exact List.eq_nil_of_length_eq_zero h0
  · obtain ⟨_, _, e, _⟩ := h h0; cases e

end Go.Proofs.Ytdkolkjgojamcaa

/- Concat of the library; Put and Drop of the program. -/
namespace Go.Proofs.Ytdkolkjgojamcaa
open Go.RowKit Tre

def catP (F : Nat → List Pl) : Nat → List Pl
  | 0 => []
  | k + 1 => catP F k ++ F k
theorem catP_le (F : Nat → List Pl) (k : Nat) : ∀ n, k ≤ n → (catP F k).length ≤ (catP F n).length
  | 0, h => by obtain rfl : k = 0 := by omega
               exact Nat.le_refl _
  | n + 1, h => by
    by_cases e : k = n + 1
    · subst e; exact Nat.le_refl _
    · have := catP_le F k n (by omega)
      rw [catP, List.length_append]; omega

end Go.Proofs.Ytdkolkjgojamcaa

/- Put and Drop of the program. -/
namespace Go.Proofs.Ytdkolkjgojamcaa
open Go.RowKit Tre

theorem behind_le (l : List Pl) (b : Int) : idx l b ≤ behind l b ∧ behind l b ≤ l.length := by
  unfold behind
  have h := idx_le l b
  split
  · rename_i hi
    rcases hg : Tre.get l b with _ | p
    · rw [hg] at hi; cases hi
    · obtain ⟨_, _, h1, _⟩ := get_some hg; omega
  · omega

def partsF (l : List Pl) (ix to : Nat) (m : List Pl) : Nat → List Pl
  | 0 => l.take ix
  | 1 => m
  | _ => l.drop to
theorem parts_cat (l : List Pl) (ix to : Nat) (m : List Pl) : catP (partsF l ix to m) 3 = (l.take ix ++ m) ++ l.drop to := by
  show ((([] ++ l.take ix) ++ m) ++ l.drop to) = _
  rw [List.nil_append]

theorem Tr.take {w : World} {A : Option Addr} {l : List Pl} (h : Tr w A l) (k : Nat) : Tr w A (l.take k) := fun h0 => by
  have hk : (l.take k).length ≤ l.length := by rw [List.length_take]; omega
  obtain ⟨b, off, e, hb, hc⟩ := h (by omega)
  exact ⟨b, off, e, hb, fun i hi => by rw [List.getElem_take]; exact hc i (by omega)⟩
theorem Tr.drop {w : World} {A A3 : Option Addr} {l : List Pl} {cap to : Nat} (h : Tr w A l) (hcap : l.length ≤ cap) (he : (if cap = to then A else Option.map (fun x => x.add (to * 3)) A) = A3) : Tr w A3 (l.drop to) := fun h0 => by
  rw [List.length_drop] at h0
  obtain ⟨b, off, e, hb, hc⟩ := h (by omega)
  rw [if_neg (by omega), e] at he
  refine ⟨b, off + to * 3, by rw [← he]; simp [add_lit], hb, fun i hi => ?_⟩
  rw [List.length_drop] at hi
  rw [List.getElem_drop, show off + to * 3 + i * 3 = off + (to + i) * 3 by omega]
  exact hc _ (by omega)
theorem drop_none {A A3 : Option Addr} {cap to : Nat} (hn : A = none → cap = 0) (he : (if cap = to then A else Option.map (fun x => x.add (to * 3)) A) = A3) (h : A3 = none) : cap - to = 0 := by
  by_cases e : cap = to
  · omega
  · rw [if_neg e, h, Option.map_eq_none_iff] at he
    have := hn he; omega

end Go.Proofs.Ytdkolkjgojamcaa

/- Put and Drop of the document. -/
namespace Go.Proofs.Ytdkolkjgojamcaa
open Go.RowKit Tre

/-- The slice at A holds these places, in a block ahead of B. -/
def TrB (B : Nat) (w : World) (A : Option Addr) (l : List Pl) : Prop :=
  0 < l.length → ∃ b off, A = some ⟨b, off, none⟩ ∧ b < B ∧ ∀ i (h : i < l.length), AtPl w b (off + i * 3) l[i]
theorem TrB.of {B : Nat} {w : World} {A : Option Addr} {l : List Pl} (h : Tr w A l) (hB : w.heap.size ≤ B) : TrB B w A l := fun h0 => by
  obtain ⟨b, off, e, hl, hc⟩ := h h0
  exact ⟨b, off, e, by omega, hc⟩
theorem TrB.tr {B : Nat} {w : World} {A : Option Addr} {l : List Pl} (h : TrB B w A l) (hB : B ≤ w.heap.size) : Tr w A l := fun h0 => by
  obtain ⟨b, off, e, hl, hc⟩ := h h0
  exact ⟨b, off, e, by omega, hc⟩
theorem AtPl.grown {w w' : World} {b o : Nat} {p : Pl} {row : Option Nat} (h : AtPl w b o p) (hg : w.grownBy w' row) (hne : some b ≠ row) : AtPl w' b o p :=
  ⟨hg.cell h.1 hne, hg.cell h.2.1 hne, hg.cell h.2.2 hne⟩
theorem TrB.keep {B : Nat} {w w' : World} {A : Option Addr} {l : List Pl} {row : Option Nat} (h : TrB B w A l) (hg : w.grownBy w' row) (hrow : ∀ k, row = some k → B ≤ k) : TrB B w' A l := fun h0 => by
  obtain ⟨b, off, e, hl, hc⟩ := h h0
  exact ⟨b, off, e, hl, fun i hi => (hc i hi).grown hg (fun e => by have := hrow b e.symm; omega)⟩
theorem TrB.alloc {B : Nat} {w : World} {A : Option Addr} {l : List Pl} (h : TrB B w A l) (hB : B ≤ w.heap.size) (o : Obj) : TrB B (w.alloc o) A l :=
  h.keep (World.grownBy_alloc w o none) (fun k e => by cases e)
theorem Tr.keep1 {w w' : World} {a : Addr} {l : List Pl} {row : Option Nat} (h : Tr w (some a) l) (hg : w.grownBy w' row) (hne : some a.block ≠ row) : Tr w' (some a) l := fun h0 => by
  obtain ⟨b, off, e, hl, hc⟩ := h h0
  cases e
  exact ⟨b, off, rfl, Nat.lt_of_lt_of_le hl hg.size, fun i hi => (hc i hi).grown hg hne⟩

theorem dropL_none {l : List Pl} {b : Int} (h : (Tre.get l b).isSome = false) : dropL l b = l := by
  unfold dropL placedL behind
  rw [h, List.append_nil]
  exact List.take_append_drop _ _

end Go.Proofs.Ytdkolkjgojamcaa

/- Trees as sorted lists: what put, drop and a move make of them. No program in it. -/
namespace Tre

theorem sorted_pw {l : List Pl} : Sorted l ↔ l.Pairwise (fun p q => p.n < q.n) := by
  rw [List.pairwise_iff_getElem]
  exact ⟨fun h i j hi hj hij => h i j hi hj hij, fun h i j hi hj hij => h i j hi hj hij⟩
theorem get_iff {l : List Pl} (hs : Sorted l) {b : Int} {p : Pl} : get l b = some p ↔ p ∈ l ∧ p.n = b := by
  constructor
  · intro h
    obtain ⟨h1, h2, _⟩ := get_some h
    exact ⟨h1, h2⟩
  · rintro ⟨h, rfl⟩
    obtain ⟨i, hi, rfl⟩ := List.getElem_of_mem h
    exact get_self hs i hi
theorem sorted_one {l : List Pl} (hs : Sorted l) {p q : Pl} (hp : p ∈ l) (hq : q ∈ l) (h : p.n = q.n) : p = q := by
  have h1 := (get_iff hs).2 ⟨hp, h⟩
  have h2 := (get_iff hs).2 ⟨hq, rfl⟩
  rw [h1] at h2
  exact Option.some.inj h2
theorem sorted_ext : ∀ {l m : List Pl}, Sorted l → Sorted m → (∀ q, q ∈ l ↔ q ∈ m) → l = m
  | [], [], _, _, _ => rfl
  | [], q :: m, _, _, h => absurd ((h q).2 (by simp)) (by simp)
  | p :: l, [], _, _, h => absurd ((h p).1 (by simp)) (by simp)
  | p :: l, q :: m, hl, hm, h => by
    have hl' := List.pairwise_cons.1 (sorted_pw.1 hl)
    have hm' := List.pairwise_cons.1 (sorted_pw.1 hm)
    have e : p = q := by
      rcases List.mem_cons.1 ((h p).1 (by simp)) with e | e
      · exact e
      · rcases List.mem_cons.1 ((h q).2 (by simp)) with e2 | e2
        · exact e2.symm
        · have a := hm'.1 p e
          have b := hl'.1 q e2
          omega
    subst e
    congr 1
    refine sorted_ext (sorted_pw.2 hl'.2) (sorted_pw.2 hm'.2) fun r => ⟨fun hr => ?_, fun hr => ?_⟩
    · rcases List.mem_cons.1 ((h r).1 (by simp [hr])) with e | e
      · subst e; have := hl'.1 r hr; omega
      · exact e
    · rcases List.mem_cons.1 ((h r).2 (by simp [hr])) with e | e
      · subst e; have := hm'.1 r hr; omega
      · exact e
theorem sorted_ext_get {l m : List Pl} (hl : Sorted l) (hm : Sorted m) (h : ∀ b, get l b = get m b) : l = m :=
  sorted_ext hl hm fun q => by
    constructor
    · intro hq
      exact ((get_iff hm).1 ((h q.n).symm.trans ((get_iff hl).2 ⟨hq, rfl⟩))).1
    · intro hq
      exact ((get_iff hl).1 ((h q.n).trans ((get_iff hm).2 ⟨hq, rfl⟩))).1

theorem take_before (l : List Pl) (b : Int) : ∀ q ∈ l.take (idx l b), q.n < b := fun q hq => by
  obtain ⟨i, hi, rfl⟩ := List.getElem_of_mem hq
  rw [List.length_take] at hi
  rw [List.getElem_take]
  exact idx_before l b i (by omega) (by omega)
theorem drop_behind {l : List Pl} (hs : Sorted l) (b : Int) : ∀ q ∈ l.drop (behind l b), b < q.n := fun q hq => by
  obtain ⟨i, hi, rfl⟩ := List.getElem_of_mem hq
  rw [List.length_drop] at hi
  rw [List.getElem_drop]
  have hto : behind l b = if (get l b).isSome then idx l b + 1 else idx l b := rfl
  generalize behind l b = to at *
  rcases hg : get l b with _ | p
  · rw [hg] at hto
    obtain rfl : to = idx l b := by simpa using hto
    have hl : idx l b < l.length := by omega
    have h1 := idx_at l b hl
    have h2 : ¬ l[idx l b].n = b := fun e => by rw [get_of hl e] at hg; cases hg
    by_cases e : i = 0
    · subst e; simp only [Nat.add_zero]; omega
    · have := hs (idx l b) (idx l b + i) hl (by omega) (by omega)
      omega
  · obtain ⟨_, hn, hl, he⟩ := get_some hg
    rw [hg] at hto
    obtain rfl : to = idx l b + 1 := by simpa using hto
    have := hs (idx l b) (idx l b + 1 + i) hl (by omega) (by omega)
    rw [he] at this
    omega
theorem mem_sides {l : List Pl} (hs : Sorted l) (b : Int) (q : Pl) : (q ∈ l.take (idx l b) ∨ q ∈ l.drop (behind l b)) ↔ (q ∈ l ∧ q.n ≠ b) := by
  constructor
  · rintro (h | h)
    · have := take_before l b q h
      exact ⟨List.mem_of_mem_take h, by omega⟩
    · have := drop_behind hs b q h
      exact ⟨List.mem_of_mem_drop h, by omega⟩
  · rintro ⟨h, hn⟩
    obtain ⟨i, hi, rfl⟩ := List.getElem_of_mem h
    by_cases h1 : i < idx l b
    · exact Or.inl (List.mem_take_iff_getElem.2 ⟨i, by omega, rfl⟩)
    · right
      have hb : behind l b ≤ i := by
        unfold behind
        rcases hg : get l b with _ | p
        · simp; omega
        · obtain ⟨_, hp, hl, he⟩ := get_some hg
          simp
          by_cases e : i = idx l b
          · subst e; rw [he] at hn; exact absurd hp hn
          · omega
      exact List.mem_drop_iff_getElem.2 ⟨i - behind l b, by omega, by congr 1; omega⟩
theorem sorted_placed {l : List Pl} (hs : Sorted l) (b : Int) (m : List Pl) (hm : ∀ q ∈ m, q.n = b) (h1 : m.length ≤ 1) : Sorted (placedL l b m) := by
  have hp := sorted_pw.1 hs
  refine sorted_pw.2 ?_
  unfold placedL
  have hmp : m.Pairwise (fun p q => p.n < q.n) := by
    match m, h1 with
    | [], _ => exact List.Pairwise.nil
    | [q], _ => exact List.pairwise_singleton _ _
  rw [List.pairwise_append, List.pairwise_append]
  refine ⟨⟨hp.sublist (List.take_sublist _ _), hmp, fun p hp q hq => ?_⟩, hp.sublist (List.drop_sublist _ _), fun p hp q hq => ?_⟩
  · have := take_before l b p hp
    have := hm q hq
    omega
  · have h2 := drop_behind hs b q hq
    rcases List.mem_append.1 hp with h | h
    · have := take_before l b p h; omega
    · have := hm p h; omega
theorem sorted_put {l : List Pl} (hs : Sorted l) (p : Pl) : Sorted (putL l p) := sorted_placed hs p.n [p] (fun q hq => by rw [List.mem_singleton] at hq; rw [hq]) (Nat.le_refl _)
theorem sorted_drop {l : List Pl} (hs : Sorted l) (b : Int) : Sorted (dropL l b) := sorted_placed hs b [] (fun q hq => by cases hq) (Nat.zero_le _)
theorem mem_put {l : List Pl} (hs : Sorted l) (p q : Pl) : q ∈ putL l p ↔ (q = p ∨ (q ∈ l ∧ q.n ≠ p.n)) := by
  unfold putL placedL
  rw [List.mem_append, List.mem_append, List.mem_singleton, ← mem_sides hs p.n q]
  constructor
  · rintro ((h | h) | h)
    · exact Or.inr (Or.inl h)
    · exact Or.inl h
    · exact Or.inr (Or.inr h)
  · rintro (h | h | h)
    · exact Or.inl (Or.inr h)
    · exact Or.inl (Or.inl h)
    · exact Or.inr h
theorem mem_drop {l : List Pl} (hs : Sorted l) (b : Int) (q : Pl) : q ∈ dropL l b ↔ (q ∈ l ∧ q.n ≠ b) := by
  unfold dropL placedL
  rw [List.append_nil, List.mem_append, mem_sides hs b q]
theorem get_put {l : List Pl} (hs : Sorted l) (p : Pl) (b : Int) : get (putL l p) b = if b = p.n then some p else get l b := by
  have hp := sorted_put hs p
  by_cases e : b = p.n
  · rw [if_pos e]
    exact (get_iff hp).2 ⟨(mem_put hs p p).2 (Or.inl rfl), e.symm⟩
  · rw [if_neg e]
    rcases h : get l b with _ | q
    · rcases h2 : get (putL l p) b with _ | r
      · rfl
      · obtain ⟨hm, hn⟩ := (get_iff hp).1 h2
        rcases (mem_put hs p r).1 hm with e2 | ⟨h3, _⟩
        · subst e2; exact absurd hn.symm e
        · rw [(get_iff hs).2 ⟨h3, hn⟩] at h; cases h
    · obtain ⟨hm, hn⟩ := (get_iff hs).1 h
      exact (get_iff hp).2 ⟨(mem_put hs p q).2 (Or.inr ⟨hm, by omega⟩), hn⟩
theorem get_drop {l : List Pl} (hs : Sorted l) (a b : Int) : get (dropL l a) b = if b = a then none else get l b := by
  have hp := sorted_drop hs a
  rcases h2 : get (dropL l a) b with _ | r
  · by_cases e : b = a
    · rw [if_pos e]
    · rw [if_neg e]
      rcases h : get l b with _ | q
      · rfl
      · obtain ⟨hm, hn⟩ := (get_iff hs).1 h
        rw [(get_iff hp).2 ⟨(mem_drop hs a q).2 ⟨hm, by omega⟩, hn⟩] at h2; cases h2
  · obtain ⟨hm, hn⟩ := (get_iff hp).1 h2
    obtain ⟨h3, h4⟩ := (mem_drop hs a r).1 hm
    rw [if_neg (by omega), (get_iff hs).2 ⟨h3, hn⟩]
theorem put_back {l : List Pl} (hs : Sorted l) {p q : Pl} (hq : get l p.n = some q) : putL (putL l p) q = l := by
  obtain ⟨_, hn⟩ := (get_iff hs).1 hq
  refine sorted_ext_get (sorted_put (sorted_put hs p) q) hs fun b => ?_
  rw [get_put (sorted_put hs p), get_put hs]
  by_cases e : b = q.n
  · rw [if_pos e, e, hn, hq]
  · rw [if_neg e, if_neg (by omega)]
theorem drop_put {l : List Pl} (hs : Sorted l) {p : Pl} (hq : get l p.n = none) : dropL (putL l p) p.n = l := by
  refine sorted_ext_get (sorted_drop (sorted_put hs p) _) hs fun b => ?_
  rw [get_drop (sorted_put hs p), get_put hs]
  by_cases e : b = p.n
  · rw [if_pos e, e, hq]
  · rw [if_neg e, if_neg e]

/-- No way leads from a node to itself. -/
def Acyc (l : List Pl) : Prop := ∀ k b, 0 < k → ¬ up l k b = some b
theorem acyc_of {l : List Pl} (hr : NoRing l) : Acyc l := fun k b hk h => by
  have h1 := up_loop h (l.length + 1)
  have h2 := up_bound hr h1
  have : l.length + 1 ≤ k * (l.length + 1) := Nat.le_mul_of_pos_left _ hk
  omega
theorem noRing_of {l : List Pl} (hs : Sorted l) (ha : Acyc l) : NoRing l := fun p hp => by
  rcases h : above l p.n p.u with _ | _
  · rfl
  · unfold above at h
    obtain ⟨k, _, hk⟩ := (abv_iff l p.n _ p.u).1 h
    refine absurd ?_ (ha (k + 1) p.n (Nat.succ_pos k))
    rw [up, (get_iff hs).2 ⟨hp, rfl⟩]
    exact hk
theorem least {P : Nat → Prop} : ∀ j, P j → ∃ j, P j ∧ ∀ i, i < j → ¬ P i := by
  intro j
  induction j using Nat.strongRecOn with
  | ind j ih =>
    intro hj
    by_cases h : ∃ i, i < j ∧ P i
    · obtain ⟨i, hi, hp⟩ := h
      exact ih i hi hp
    · exact ⟨j, hj, fun i hi hp => h ⟨i, hi, hp⟩⟩
/-- A way that doesn't come by K is one of the other tree, too. -/
theorem up_avoid {l m : List Pl} {K : Int} (hg : ∀ b, ¬ b = K → get m b = get l b) : ∀ (j : Nat) (c : Int), (∀ i, i < j → ¬ up m i c = some K) → up m j c = up l j c
  | 0, c, _ => rfl
  | j + 1, c, h => by
    have hc : ¬ c = K := fun e => h 0 (Nat.succ_pos j) (by rw [e]; rfl)
    rw [up, up, hg c hc]
    rcases hq : get l c with _ | q
    · rfl
    · rw [Option.bind_some, Option.bind_some]
      refine up_avoid hg j q.u fun i hi e => h (i + 1) (by omega) ?_
      rw [up, hg c hc, hq, Option.bind_some]; exact e
theorem put_noRing {l : List Pl} (hs : Sorted l) (hr : NoRing l) {p : Pl} (hu : above l p.n p.u = false) : NoRing (putL l p) := by
  have hp := sorted_put hs p
  refine noRing_of hp fun k b hk h => ?_
  have hg : ∀ c, ¬ c = p.n → get (putL l p) c = get l c := fun c hc => by rw [get_put hs, if_neg hc]
  by_cases hv : ∃ i, i < k ∧ up (putL l p) i b = some p.n
  · obtain ⟨i, hi, hb⟩ := hv
    have h1 : up (putL l p) (k - i) p.n = some b := by
      have : up (putL l p) (i + (k - i)) b = some b := by rw [show i + (k - i) = k by omega]; exact h
      rw [up_add, hb, Option.bind_some] at this
      exact this
    have h2 : up (putL l p) ((k - i) + i) p.n = some p.n := by rw [up_add, h1, Option.bind_some]; exact hb
    obtain ⟨m, hm⟩ : ∃ m, (k - i) + i = m + 1 := ⟨k - 1, by omega⟩
    rw [hm, up, get_put hs, if_pos rfl, Option.bind_some] at h2
    obtain ⟨j, hj, hl⟩ := least (P := fun j => up (putL l p) j p.u = some p.n) m h2
    have h3 := up_avoid hg j p.u hl
    rw [hj] at h3
    have h4 := (above_iff hr).2 ⟨j, h3.symm⟩
    rw [hu] at h4; cases h4
  · have h3 := up_avoid hg k b (fun i hi e => hv ⟨i, hi, e⟩)
    rw [h] at h3
    exact acyc_of hr k b hk h3.symm

/-- What undoes a move: what was, whether it had a place, whether it did anything. -/
structure Un where
  was : Pl
  had : Bool
  did : Bool
def noUn : Un := ⟨zero, false, false⟩
/-- A tree behind a move of p's node to p. -/
def doL (l : List Pl) (p : Pl) : List Pl × Un := if above l p.n p.u = true then (l, noUn) else (putL l p, ⟨(get l p.n).getD zero, (get l p.n).isSome, true⟩)
def backL (l : List Pl) (b : Int) (u : Un) : List Pl := if u.did = true then (if u.had = true then putL l u.was else dropL l b) else l
theorem back_do {l : List Pl} (hs : Sorted l) (p : Pl) : backL (doL l p).1 p.n (doL l p).2 = l := by
  unfold doL
  by_cases h : above l p.n p.u = true
  · rw [if_pos h]; rfl
  · rw [if_neg h]
    unfold backL
    rw [if_pos rfl]
    rcases hg : get l p.n with _ | q
    · simp only [Option.isSome_none, Bool.false_eq_true, if_false]
      exact drop_put hs hg
    · simp only [Option.isSome_some, if_true, Option.getD_some]
      exact put_back hs hg
theorem do_sorted {l : List Pl} (hs : Sorted l) (p : Pl) : Sorted (doL l p).1 := by
  unfold doL
  split
  · exact hs
  · exact sorted_put hs p
theorem do_noRing {l : List Pl} (hs : Sorted l) (hr : NoRing l) (p : Pl) : NoRing (doL l p).1 := by
  unfold doL
  by_cases h : above l p.n p.u = true
  · rw [if_pos h]; exact hr
  · rw [if_neg h]; exact put_noRing hs hr (by simpa using h)
theorem do_mem {l : List Pl} (hs : Sorted l) (p : Pl) {P : Pl → Prop} (hl : ∀ q ∈ l, P q) (hp : P p) : ∀ q ∈ (doL l p).1, P q := by
  unfold doL
  split
  · exact hl
  · intro q hq
    rcases (mem_put hs p q).1 hq with rfl | ⟨h, _⟩
    · exact hp
    · exact hl q h

/-- A tree behind moves, one by one, and what undoes each. -/
def foldL (l : List Pl) : List Pl → List Pl × List Un
  | [] => (l, [])
  | p :: ps => ((foldL (doL l p).1 ps).1, (doL l p).2 :: (foldL (doL l p).1 ps).2)
theorem foldL_app (l : List Pl) : ∀ (a b : List Pl), foldL l (a ++ b) = ((foldL (foldL l a).1 b).1, (foldL l a).2 ++ (foldL (foldL l a).1 b).2)
  | [], b => rfl
  | p :: a, b => by
    show foldL l (p :: (a ++ b)) = _
    rw [foldL, foldL_app (doL l p).1 a b]
    rfl
theorem foldL_len (l : List Pl) : ∀ (a : List Pl), (foldL l a).2.length = a.length := by
  intro a
  induction a generalizing l with
  | nil => rfl
  | cons p a ih => show ((doL l p).2 :: _).length = _; rw [List.length_cons, ih, List.length_cons]
theorem foldL_snoc (l a : List Pl) (p : Pl) : foldL l (a ++ [p]) = ((doL (foldL l a).1 p).1, (foldL l a).2 ++ [(doL (foldL l a).1 p).2]) := foldL_app l a [p]
theorem foldL_sorted {l : List Pl} (hs : Sorted l) (a : List Pl) : Sorted (foldL l a).1 := by
  induction a generalizing l with
  | nil => exact hs
  | cons p a ih => exact ih (do_sorted hs p)
theorem foldL_noRing {l : List Pl} (hs : Sorted l) (hr : NoRing l) (a : List Pl) : NoRing (foldL l a).1 := by
  induction a generalizing l with
  | nil => exact hr
  | cons p a ih => exact ih (do_sorted hs p) (do_noRing hs hr p)
theorem foldL_mem {l : List Pl} (hs : Sorted l) {P : Pl → Prop} (a : List Pl) (hl : ∀ q ∈ l, P q) (ha : ∀ q ∈ a, P q) : ∀ q ∈ (foldL l a).1, P q := by
  induction a generalizing l with
  | nil => exact hl
  | cons p a ih => exact ih (do_sorted hs p) (do_mem hs p hl (ha p (by simp))) (fun q hq => ha q (by simp [hq]))
/-- The last move undone. -/
theorem foldL_back {l : List Pl} (hs : Sorted l) (a : List Pl) (p : Pl) : backL (foldL l (a ++ [p])).1 p.n (doL (foldL l a).1 p).2 = (foldL l a).1 := by
  rw [foldL_snoc]; exact back_do (foldL_sorted hs a) p
theorem foldL_take (l a : List Pl) (j : Nat) (h : j < a.length) : foldL l (a.take (j + 1)) = ((doL (foldL l (a.take j)).1 a[j]).1, (foldL l (a.take j)).2 ++ [(doL (foldL l (a.take j)).1 a[j]).2]) := by
  rw [List.take_succ_eq_append_getElem h, foldL_snoc]
/-- What undoes the move at j. -/
theorem foldL_un : ∀ (l a : List Pl) (j : Nat) (h : j < a.length), (foldL l a).2[j]? = some (doL (foldL l (a.take j)).1 a[j]).2
  | l, p :: a, 0, _ => rfl
  | l, p :: a, j + 1, h => foldL_un (doL l p).1 a j (by simpa using h)
theorem foldL_undo {l : List Pl} (hs : Sorted l) (a : List Pl) (j : Nat) (h : j < a.length) : backL (foldL l (a.take (j + 1))).1 a[j].n (doL (foldL l (a.take j)).1 a[j]).2 = (foldL l (a.take j)).1 := by
  rw [foldL_take l a j h]; exact back_do (foldL_sorted hs _) _
theorem foldL_take_un (l a : List Pl) (k : Nat) (h : k ≤ a.length) : (foldL l (a.take k)).2 = (foldL l a).2.take k := by
  have e : a = a.take k ++ a.drop k := (List.take_append_drop k a).symm
  have h1 : (foldL l a).2 = (foldL l (a.take k)).2 ++ (foldL (foldL l (a.take k)).1 (a.drop k)).2 := by
    conv => lhs; rw [e, foldL_app]
  have h2 : (foldL l (a.take k)).2.length = k := by rw [foldL_len, List.length_take]; omega
  rw [h1]
  exact (List.take_left' h2).symm
end Tre

/- Places, operations and undos as elements; Clone of the library; Do and Back of both. -/
namespace Go.Proofs.Ytdkolkjgojamcaa
open Go.RowKit Tre Cod

def opE : El Mv where
  e := 35
  k := 7
  c m := [.int .i64 m.C, .int .i64 m.D, .int .i64 m.I, .int .i64 m.M, .int .i64 m.K, .int .i64 m.U, .string m.s]
  len _ := rfl
  one p u h := by
    simp only [List.mem_cons, List.not_mem_nil, or_false] at h
    rcases h with rfl | rfl | rfl | rfl | rfl | rfl | rfl <;> rfl
  pos := by decide
theorem opInn : opE.Inn Try.prog 24 := El.inn_of (z := .agg #[.int .i64 0, .int .i64 0, .int .i64 0, .int .i64 0, .int .i64 0, .int .i64 0, .string ⟨#[]⟩]) (bytes := 64) Try.underlying24 (by kernel_rfl) rfl (by decide)
theorem opRow : opE.Row Try.prog := ⟨by kernel_rfl, _, Try.underlying35, rfl⟩
theorem opAt {w : World} {b o : Nat} {m : Mv} (h : opE.At w b o m) : w.cell? ⟨b, o, none⟩ = some (.int .i64 m.C) ∧ w.cell? ⟨b, o + 1, none⟩ = some (.int .i64 m.D) ∧ w.cell? ⟨b, o + 2, none⟩ = some (.int .i64 m.I) ∧ w.cell? ⟨b, o + 3, none⟩ = some (.int .i64 m.M) ∧ w.cell? ⟨b, o + 4, none⟩ = some (.int .i64 m.K) ∧ w.cell? ⟨b, o + 5, none⟩ = some (.int .i64 m.U) ∧ w.cell? ⟨b, o + 6, none⟩ = some (.string m.s) :=
  ⟨h 0 _ rfl, h 1 _ rfl, h 2 _ rfl, h 3 _ rfl, h 4 _ rfl, h 5 _ rfl, h 6 _ rfl⟩
theorem opIn7 {w : World} {b : Nat} {m : Mv} (h : opE.In w b m) : w.cell? ⟨b, 0, none⟩ = some (.int .i64 m.C) ∧ w.cell? ⟨b, 1, none⟩ = some (.int .i64 m.D) ∧ w.cell? ⟨b, 2, none⟩ = some (.int .i64 m.I) ∧ w.cell? ⟨b, 3, none⟩ = some (.int .i64 m.M) ∧ w.cell? ⟨b, 4, none⟩ = some (.int .i64 m.K) ∧ w.cell? ⟨b, 5, none⟩ = some (.int .i64 m.U) ∧ w.cell? ⟨b, 6, none⟩ = some (.string m.s) :=
  ⟨h.cell 0, h.cell 1, h.cell 2, h.cell 3, h.cell 4, h.cell 5, h.cell 6⟩
/-- A slice of the whole: what it says, and that it holds the list. -/
def SlV {α : Type} (E : El α) (w : World) (A : Option Addr) (c : Nat) (l : List α) : Prop := E.Sl w A l ∧ (A = none → c = 0) ∧ l.length ≤ c
theorem SlV.below {α : Type} {E : El α} {W w : World} {A : Option Addr} {c : Nat} {l : List α} (h : SlV E W A c l) (hb : Below W.heap.size W w) : SlV E w A c l := ⟨h.1.below hb, h.2⟩
theorem SlV.nil {α : Type} (E : El α) (w : World) : SlV E w none 0 [] := ⟨El.Sl.nil w none, fun _ => rfl, Nat.le_refl _⟩
theorem frs_nil (B : Nat) : Frs B none := fun a e => by cases e
theorem frs_of {B b : Nat} {A : Option Addr} (h : Frs B A) (hb : b < B) : ∀ a, A = some a → some a.block ≠ some b := fun a e e2 => by
  have := h a e; have := Option.some.inj e2; omega
theorem El.Own.frs {α : Type} {E : El α} {w : World} {B n c : Nat} {A : Option Addr} {l : List α} (h : E.Own w B (.slice A n c) l) : Frs B A := fun a e => (World.ownsRow.lt h a.block (by rw [e]; rfl)).1
/-- A block ahead of it is written: it stays. -/
theorem SlV.keep {α : Type} {E : El α} {w w' : World} {A : Option Addr} {c B b : Nat} {l : List α} (h : SlV E w A c l) (hf : Frs B A) (hg : w.grownBy w' (some b)) (hb : b < B) : SlV E w' A c l :=
  ⟨h.1.keep hg (fun a e e2 => by have := hf a e; have := Option.some.inj e2; omega), h.2⟩
theorem by_row (w : World) (b : Nat) (cs : Array Value) : w.grownBy (w.setRow b cs) (some b) := ⟨rfl, rfl, rfl, by simp, fun k _ hk => setRow_other w b k cs (fun e => hk (by rw [e]))⟩
theorem by_cell (w : World) (b i : Nat) (v : Value) : w.grownBy (w.setCell ⟨b, i, none⟩ v) (some b) := ⟨rfl, rfl, rfl, by simp, fun k _ hk => heap_setCell_other w ⟨b, i, none⟩ k v (fun e => hk (by rw [e]))⟩
theorem by_cell2 {w w' : World} {b : Nat} (h : w.grownBy w' (some b)) (i : Nat) (v : Value) : w.grownBy (w'.setCell ⟨b, i, none⟩ v) (some b) := by
  have hg := by_cell w' b i v
  exact ⟨hg.os.trans h.os, hg.tape.trans h.tape, hg.output.trans h.output, Nat.le_trans h.size hg.size, fun k hk hne => (hg.block k (Nat.lt_of_lt_of_le hk h.size) hne).trans (h.block k hk hne)⟩
theorem SlV.own {α : Type} {E : El α} {w : World} {B : Nat} {v : Value} {l : List α} (h : E.Own w B v l) : ∃ A c, v = .slice A l.length c ∧ SlV E w A c l :=
  let ⟨A, c, e, h1, h2, h3⟩ := h.sl
  ⟨A, c, e, h1, h2, h3⟩
def mvPl (m : Mv) : Pl := ⟨m.K, m.U, m.s⟩
def unV (u : Un) : Value := .agg #[.int .i64 u.was.n, .int .i64 u.was.u, .string u.was.s, .bool u.had, .bool u.did]
def mvV (m : Mv) : Value := .agg #[.int .i64 m.C, .int .i64 m.D, .int .i64 m.I, .int .i64 m.M, .int .i64 m.K, .int .i64 m.U, .string m.s]
def plV (p : Pl) : Value := .agg #[.int .i64 p.n, .int .i64 p.u, .string p.s]

theorem below_own {w w1 w2 : World} {row : Option Nat} (h : Below w.heap.size w w1) (hg : w1.grownBy w2 row) (hrow : ∀ n, row = some n → w.heap.size ≤ n) : Below w.heap.size w w2 := h.grown hg h.size hrow

end Go.Proofs.Ytdkolkjgojamcaa

/- Do and Back of the program. -/
namespace Go.Proofs.Ytdkolkjgojamcaa
open Go.RowKit Tre Cod

theorem plV_get (l : List Pl) (b : Int) : ∃ p is, (Tre.get l b).getD zero = p ∧ (Tre.get l b).isSome = is := ⟨_, _, rfl, rfl⟩
end Go.Proofs.Ytdkolkjgojamcaa

/- Fold of the program; the document's Do and Fold. -/
namespace Go.Proofs.Ytdkolkjgojamcaa
open Go.RowKit Tre Cod

theorem putL_len (l : List Pl) (p : Pl) : (putL l p).length ≤ l.length + 1 := by
  unfold putL placedL
  have := behind_le l p.n
  rw [List.length_append, List.length_append, List.length_take, List.length_drop, List.length_singleton]; omega
theorem dropL_len (l : List Pl) (b : Int) : (dropL l b).length ≤ l.length := by
  unfold dropL placedL
  have := behind_le l b
  rw [List.append_nil, List.length_append, List.length_take, List.length_drop]; omega
theorem doL_len (l : List Pl) (p : Pl) : (doL l p).1.length ≤ l.length + 1 := by
  unfold doL
  split
  · exact Nat.le_succ _
  · exact putL_len l p
theorem foldL_len1 (l : List Pl) (a : List Pl) : (foldL l a).1.length ≤ l.length + a.length := by
  induction a generalizing l with
  | nil => exact Nat.le_refl _
  | cons p a ih =>
    have h1 := ih (doL l p).1
    have h2 := doL_len l p
    show (foldL (doL l p).1 a).1.length ≤ _
    rw [List.length_cons]; omega
/-- The moves of operations. -/
def mvs (o : List Mv) : List Pl := o.map mvPl
theorem mvs_len (o : List Mv) : (mvs o).length = o.length := List.length_map ..
theorem mvs_take (o : List Mv) (k : Nat) : (mvs o).take k = mvs (o.take k) := by unfold mvs; rw [List.map_take]
/-- Behind k of the operations. -/
def fold1 (l : List Pl) (o : List Mv) (k : Nat) : List Pl := (foldL l (mvs (o.take k))).1
def fold2 (l : List Pl) (o : List Mv) (k : Nat) : List Un := (foldL l (mvs (o.take k))).2
theorem fold1_all (l : List Pl) (o : List Mv) : fold1 l o o.length = (foldL l (mvs o)).1 := by unfold fold1; rw [List.take_length]
theorem fold2_all (l : List Pl) (o : List Mv) : fold2 l o o.length = (foldL l (mvs o)).2 := by unfold fold2; rw [List.take_length]
theorem fold1_zero (l : List Pl) (o : List Mv) : fold1 l o 0 = l := rfl
theorem fold2_zero (l : List Pl) (o : List Mv) : fold2 l o 0 = [] := rfl
theorem fold_next (l : List Pl) (o : List Mv) (k : Nat) (h : k < o.length) : fold1 l o (k + 1) = (doL (fold1 l o k) (mvPl o[k])).1 ∧ fold2 l o (k + 1) = fold2 l o k ++ [(doL (fold1 l o k) (mvPl o[k])).2] := by
  unfold fold1 fold2
  rw [← mvs_take, ← mvs_take, foldL_take l (mvs o) k (by rw [mvs_len]; exact h)]
  have e : (mvs o)[k]'(by rw [mvs_len]; exact h) = mvPl o[k] := by unfold mvs; rw [List.getElem_map]
  rw [e]
  exact ⟨rfl, rfl⟩
theorem fold1_len (l : List Pl) (o : List Mv) (k : Nat) : (fold1 l o k).length ≤ l.length + k := by
  have h := foldL_len1 l (mvs (o.take k))
  rw [mvs_len, List.length_take] at h
  unfold fold1; omega
theorem fold2_len (l : List Pl) (o : List Mv) (k : Nat) (h : k ≤ o.length) : (fold2 l o k).length = k := by
  unfold fold2
  rw [foldL_len, mvs_len, List.length_take]; omega
theorem fold1_sorted {l : List Pl} (hs : Sorted l) (o : List Mv) (k : Nat) : Sorted (fold1 l o k) := foldL_sorted hs _
/-- The undos so far, and the rest as it was made. -/
theorem un_set (us : List Un) (n k : Nat) (u : Un) (hk : us.length = k) (hn : k < n) : (us ++ List.replicate (n - k) noUn).set k u = (us ++ [u]) ++ List.replicate (n - (k + 1)) noUn := by
  obtain ⟨d, rfl⟩ : ∃ d, n = k + (d + 1) := ⟨n - k - 1, by omega⟩
  rw [show k + (d + 1) - k = d + 1 by omega, show k + (d + 1) - (k + 1) = d by omega, List.replicate_succ, ← hk, List.set_append_right _ _ (Nat.le_refl _), Nat.sub_self, List.set_cons_zero, List.append_assoc]
  rfl
end Go.Proofs.Ytdkolkjgojamcaa

/- The document's Do and Fold. -/
namespace Go.Proofs.Ytdkolkjgojamcaa
open Go.RowKit Tre Cod

end Go.Proofs.Ytdkolkjgojamcaa

/- The document's Fold. -/
namespace Go.Proofs.Ytdkolkjgojamcaa
open Go.RowKit Tre Cod

end Go.Proofs.Ytdkolkjgojamcaa

/- The same places, operations, undos: the document's answers. -/
namespace Go.Proofs.Ytdkolkjgojamcaa
open Go.RowKit Tre Cod

theorem pl_unlike {p q : Pl} (h : ¬ p = q) : ((p.n == q.n) = false) ∨ (p.n = q.n ∧ (p.u == q.u) = false) ∨ (p.n = q.n ∧ p.u = q.u ∧ (p.s.toList == q.s.toList) = false) := by
  by_cases h0 : p.n = q.n
  rotate_left
  · left; exact beq_eq_false_iff_ne.2 h0
  by_cases h1 : p.u = q.u
  rotate_left
  · right; left; exact ⟨h0, beq_eq_false_iff_ne.2 h1⟩
  by_cases h2 : p.s = q.s
  · exfalso; apply h
    obtain ⟨a, b, c⟩ := p; obtain ⟨a', b', c'⟩ := q; simp only at h0 h1 h2; rw [h0, h1, h2]
  · right; right; exact ⟨h0, h1, ne_beq h2⟩
theorem mv_unlike {p q : Mv} (h : ¬ p = q) : ((p.C == q.C) = false) ∨ (p.C = q.C ∧ (p.D == q.D) = false) ∨ (p.C = q.C ∧ p.D = q.D ∧ (p.I == q.I) = false) ∨ (p.C = q.C ∧ p.D = q.D ∧ p.I = q.I ∧ (p.M == q.M) = false) ∨ (p.C = q.C ∧ p.D = q.D ∧ p.I = q.I ∧ p.M = q.M ∧ (p.K == q.K) = false) ∨ (p.C = q.C ∧ p.D = q.D ∧ p.I = q.I ∧ p.M = q.M ∧ p.K = q.K ∧ (p.U == q.U) = false) ∨ (p.C = q.C ∧ p.D = q.D ∧ p.I = q.I ∧ p.M = q.M ∧ p.K = q.K ∧ p.U = q.U ∧ (p.s.toList == q.s.toList) = false) := by
  by_cases h0 : p.C = q.C
  rotate_left
  · left; exact beq_eq_false_iff_ne.2 h0
  by_cases h1 : p.D = q.D
  rotate_left
  · right; left; exact ⟨h0, beq_eq_false_iff_ne.2 h1⟩
  by_cases h2 : p.I = q.I
  rotate_left
  · right; right; left; exact ⟨h0, h1, beq_eq_false_iff_ne.2 h2⟩
  by_cases h3 : p.M = q.M
  rotate_left
  · right; right; right; left; exact ⟨h0, h1, h2, beq_eq_false_iff_ne.2 h3⟩
  by_cases h4 : p.K = q.K
  rotate_left
  · right; right; right; right; left; exact ⟨h0, h1, h2, h3, beq_eq_false_iff_ne.2 h4⟩
  by_cases h5 : p.U = q.U
  rotate_left
  · right; right; right; right; right; left; exact ⟨h0, h1, h2, h3, h4, beq_eq_false_iff_ne.2 h5⟩
  by_cases h6 : p.s = q.s
  · exfalso; apply h
    obtain ⟨a, b, c, d, e, f, g⟩ := p; obtain ⟨a', b', c', d', e', f', g'⟩ := q; simp only at h0 h1 h2 h3 h4 h5 h6; rw [h0, h1, h2, h3, h4, h5, h6]
  · right; right; right; right; right; right; exact ⟨h0, h1, h2, h3, h4, h5, ne_beq h6⟩
theorem un_unlike {p q : Un} (h : ¬ p = q) : ((p.was.n == q.was.n) = false) ∨ (p.was.n = q.was.n ∧ (p.was.u == q.was.u) = false) ∨ (p.was.n = q.was.n ∧ p.was.u = q.was.u ∧ (p.was.s.toList == q.was.s.toList) = false) ∨ (p.was.n = q.was.n ∧ p.was.u = q.was.u ∧ p.was.s = q.was.s ∧ (p.had == q.had) = false) ∨ (p.was.n = q.was.n ∧ p.was.u = q.was.u ∧ p.was.s = q.was.s ∧ p.had = q.had ∧ (p.did == q.did) = false) := by
  by_cases h0 : p.was.n = q.was.n
  rotate_left
  · left; exact beq_eq_false_iff_ne.2 h0
  by_cases h1 : p.was.u = q.was.u
  rotate_left
  · right; left; exact ⟨h0, beq_eq_false_iff_ne.2 h1⟩
  by_cases h2 : p.was.s = q.was.s
  rotate_left
  · right; right; left; exact ⟨h0, h1, ne_beq h2⟩
  by_cases h3 : p.had = q.had
  rotate_left
  · right; right; right; left; exact ⟨h0, h1, h2, beq_eq_false_iff_ne.2 h3⟩
  by_cases h4 : p.did = q.did
  · exfalso; apply h
    obtain ⟨⟨a, b, c⟩, d, e⟩ := p; obtain ⟨⟨a', b', c'⟩, d', e'⟩ := q; simp only at h0 h1 h2 h3 h4; rw [h0, h1, h2, h3, h4]
  · right; right; right; right; exact ⟨h0, h1, h2, h3, beq_eq_false_iff_ne.2 h4⟩
end Go.Proofs.Ytdkolkjgojamcaa

/- The same operations and undos: the document's answers. -/
namespace Go.Proofs.Ytdkolkjgojamcaa
open Go.RowKit Tre Cod

set_option maxRecDepth 100000 in
set_option maxHeartbeats 4000000 in
theorem sameOp_any (A1 A2 : Option Addr) (c1 c2 : Nat) (l m : List Mv) (w : World) (hl : l.length ≤ 50000) (hm : m.length ≤ 50000) (h1 : opE.Sl w A1 l) (h2 : opE.Sl w A2 m) :
    Calls Try.prog 16 #[.slice A1 l.length c1, .slice A2 m.length c2] w fun e w' => ∃ b, e = .returned (.bool b) ∧ (b = true ↔ l = m) ∧ Below w.heap.size w w' := by
  by_cases hlen : l.length = m.length
  · rw [← hlen]
    have HL := Lib.hid hlen
    clear hlen
    go_enter Try.func16, Try.ntmps16
    go_wp2
    go_loopw [5] (fun x wr => ∃ k : Nat, k ≤ l.length ∧ x = .int .i64 k ∧ (∀ j (hj : j < k) (ha : j < l.length) (hb : j < m.length), l[j] = m[j]) ∧ Below w.heap.size w wr) (fun x _ => l.length - (intOf x).toNat)
    case atStart => exact ⟨0, Nat.zero_le _, rfl, fun j hj => by omega, Below.refl _ _⟩
    case round =>
      obtain ⟨k, hk, rfl, hall, hnx⟩ := hrel
      by_cases hlt : k < l.length
      · obtain ⟨b1, o1, hA1, hw1, hc1⟩ := h1 (by omega)
        have hlt2 : k < m.length := by have := HL.out; omega
        obtain ⟨b2, o2, hA2, hw2, hc2⟩ := h2 (by omega)
        have hat : opE.At wr b1 (o1 + k * 7) l[k] := (hc1 k hlt).below hnx hw1
        have hat2 : opE.At wr b2 (o2 + k * 7) m[k] := (hc2 k hlt2).below hnx hw2
        obtain ⟨p, hp⟩ : ∃ p, l[k] = p := ⟨_, rfl⟩
        obtain ⟨q, hq⟩ : ∃ q, m[k] = q := ⟨_, rfl⟩
        rw [hp] at hat
        rw [hq] at hat2
        have HP := Lib.hid hp
        have HQ := Lib.hid hq
        have HA := Lib.hid hall
        obtain ⟨q0, q1, q2, q3, q4, q5, q6⟩ := opAt hat
        obtain ⟨r0, r1, r2, r3, r4, r5, r6⟩ := opAt hat2
        clear hc1 hc2 hp hq h1 h2 hall hat hat2
        subst hA1 hA2
        by_cases hpq : p = q
        · have HE := Lib.hid hpq
          subst hpq
          go_wp2
          go_quiet (fail)
          go_wp2
          go_roundw
          case rel =>
            refine ⟨k + 1, by omega, by go_num, fun j hj ha hb => ?_, below_drew hnx _⟩
            by_cases e : j = k
            · subst e; rw [HP.out, HQ.out]
            · exact HA.out j (by omega) ha hb
          case measure => simp [intOf]; omega
        · have HN := Lib.hid hpq
          rcases mv_unlike hpq with hu | ⟨a0, hu⟩ | ⟨a0, a1, hu⟩ | ⟨a0, a1, a2, hu⟩ | ⟨a0, a1, a2, a3, hu⟩ | ⟨a0, a1, a2, a3, a4, hu⟩ | ⟨a0, a1, a2, a3, a4, a5, hu⟩
          all_goals
            clear hpq
            go_wp2
            go_quiet (fail)
            go_wp2
            go_ret
            refine ⟨false, rfl, ⟨fun h => (by cases h), fun h => ?_⟩, below_drew hnx _⟩
            subst h
            exact absurd (HP.out.symm.trans HQ.out) HN.out
      · obtain rfl : k = l.length := by omega
        have HA := Lib.hid hall
        clear hall
        go_wp2
        go_ret
        exact ⟨true, rfl, ⟨fun _ => List.ext_getElem HL.out fun j ha hb => HA.out j ha ha hb, fun _ => rfl⟩, hnx⟩
  · have HL := Lib.hid hlen
    have hne : ¬ m.length = l.length := fun e => hlen e.symm
    go_enter Try.func16, Try.ntmps16
    go_wp2
    go_ret
    exact ⟨false, rfl, ⟨fun h => (by cases h), fun h => absurd (congrArg List.length h) HL.out⟩, Below.refl _ _⟩
end Go.Proofs.Ytdkolkjgojamcaa
