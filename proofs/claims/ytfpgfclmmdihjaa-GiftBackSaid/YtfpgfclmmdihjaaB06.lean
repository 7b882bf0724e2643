/- Texts laid one behind the other: Fb, Ic, Id, Eb, Fc, Pb, Pf, Xb, Pi, Pj, Xc. -/
import Derived.Test.YtfpgfclmmdihjaaB05
import Derived.Deep.RegionHeld3
import Derived.Lib.MinMax
import Derived.Lib.QuietBelow
import Derived.BigQuiet
import Derived.Deep.QuietTactic
import Derived.Deep.CutRange
/- Frames' bytes: there and back; what is cut or of which a byte is another one is none's. No call in it. -/
namespace Go.Proofs.Ytfpgfclmmdihjaa.Crk
open Go.RowKit Crc

theorem isSeal_of {t : ByteArray} (h : opC t = t.size) : isSeal t = true ∧ 8 + num t = t.size := by
  unfold opC at h
  by_cases g : isSeal t = true
  · rw [if_pos g] at h; exact ⟨g, by omega⟩
  · rw [if_neg g] at h; omega
theorem seal_of {t : ByteArray} (h : opC t = t.size) : sealOf (opT t) = t := by
  obtain ⟨g, h1⟩ := isSeal_of h
  rw [(opened_was t g).1, h1, ByteArray.extract_zero_size]
theorem fourL_inj {a b : Nat} (ha : a < 4294967296) (hb : b < 4294967296) (h : fourL a = fourL b) : a = b := by
  have h1 := numL_four a [] ha
  have h2 := numL_four b [] hb
  rw [h] at h1
  omega
/-- One byte is another one: it isn't open any more. -/
theorem turned_none (s t : ByteArray) (k : Nat) (m : UInt8) (hs : s.size < 4294967296) (hk : k < 8 + s.size) (hm : m ≠ 0) (h : L t = (L (sealOf s)).set k ((L (sealOf s)).getD k 0 ^^^ m)) : opC t ≠ t.size := by
  intro ho
  have hw := seal_of ho
  obtain ⟨u, hu⟩ : ∃ u, opT t = u := ⟨_, rfl⟩
  rw [hu] at hw
  have hsz : t.size = 8 + s.size := by
    have h2 := congrArg List.length h
    rw [List.length_set, L_len, L_len, seal_size] at h2
    exact h2
  have hus : u.size = s.size := by
    have h2 := seal_size u
    rw [hw] at h2
    omega
  rw [← hw, L_seal, L_seal, hus] at h
  have hx : ∀ (l : List UInt8) (j : Nat), (l.set j (l.getD j 0 ^^^ m)) = l → j < l.length → False := fun l j e hj => by
    have h1 : (l.set j (l.getD j 0 ^^^ m))[j]? = l[j]? := by rw [e]
    rw [List.getElem?_set_self hj, List.getD_eq_getElem?_getD, List.getElem?_eq_getElem hj] at h1
    simp only [Option.getD_some, Option.some.injEq] at h1
    apply hm
    have h2 : l[j] ^^^ (l[j] ^^^ m) = l[j] ^^^ l[j] := by rw [h1]
    rw [← UInt8.xor_assoc, UInt8.xor_self, UInt8.zero_xor] at h2
    exact h2
  have hgd : ∀ (A B : List UInt8) (j : Nat), A.length ≤ j → (A ++ B).set j ((A ++ B).getD j 0 ^^^ m) = A ++ B.set (j - A.length) (B.getD (j - A.length) 0 ^^^ m) := fun A B j hj => by
    rw [List.set_append_right j _ hj, List.getD_eq_getElem?_getD, List.getElem?_append_right hj, ← List.getD_eq_getElem?_getD]
  have hgl : ∀ (A B : List UInt8) (j : Nat), j < A.length → (A ++ B).set j ((A ++ B).getD j 0 ^^^ m) = A.set j (A.getD j 0 ^^^ m) ++ B := fun A B j hj => by
    rw [List.set_append_left j _ hj, List.getD_eq_getElem?_getD, List.getElem?_append_left hj, ← List.getD_eq_getElem?_getD]
  by_cases c1 : k < 4
  · rw [hgl _ _ k (by rw [fourL_len]; exact c1)] at h
    have h2 := (List.append_inj h (by rw [List.length_set])).1
    exact hx _ k h2.symm (by rw [fourL_len]; exact c1)
  · rw [hgd _ _ k (by rw [fourL_len]; omega)] at h
    have h2 := List.append_cancel_left h
    rw [fourL_len] at h2
    by_cases c2 : k < 8
    · rw [hgl _ _ (k - 4) (by rw [fourL_len]; omega)] at h2
      obtain ⟨h3, h4⟩ := List.append_inj h2 (by rw [List.length_set]; rfl)
      have h5 : sumB u = sumB s := sumB_L h4
      rw [h5] at h3
      exact hx _ (k - 4) h3.symm (by rw [fourL_len]; omega)
    · rw [hgd _ _ (k - 4) (by rw [fourL_len]; omega), fourL_len] at h2
      obtain ⟨h3, h4⟩ := List.append_inj h2 (by rw [fourL_len, fourL_len])
      have h5 : sumB u = sumB s := fourL_inj (sumB_lt u) (sumB_lt s) h3
      have hj : k - 4 - 4 < (L s).length := by rw [L_len]; omega
      obtain ⟨j, hjk⟩ : ∃ j, k - 4 - 4 = j := ⟨_, rfl⟩
      rw [hjk] at h4 hj
      have h6 : L s = (L s).take j ++ ([(L s)[j]] ++ (L s).drop (j + 1)) := by
        rw [List.singleton_append, List.getElem_cons_drop, List.take_append_drop]
      have h7 : L u = (L s).take j ++ (List.zipWith (· ^^^ ·) [(L s)[j]] [m] ++ (L s).drop (j + 1)) := by
        rw [h4, List.getD_eq_getElem?_getD, List.getElem?_eq_getElem hj, List.set_eq_take_append_cons_drop, if_pos hj]
        rfl
      have h8 : sumOf (L u) = sumOf (L s) := by
        have h9 : (sumOf (L u)).toNat = (sumOf (L s)).toNat := h5
        exact BitVec.eq_of_toNat_eq h9
      rw [h7] at h8
      have h10 : sumOf (L s) = sumOf ((L s).take j ++ ([(L s)[j]] ++ (L s).drop (j + 1))) := by rw [← h6]
      rw [h10] at h8
      exact hm (sum_turned _ [(L s)[j]] [m] _ rfl (by simp) h8 m (by simp))
end Go.Proofs.Ytfpgfclmmdihjaa.Crk
namespace Go.Proofs.Ytfpgfclmmdihjaa
open Go.RowKit Nam Cod

theorem frL_i64 {f : Fr} (h : FrR f) : ∀ n ∈ frL f, i64 n := fun n hn => by
  have h1 := fun n hn => h.six n hn
  have h2 := h.e
  unfold fr6 at h1
  unfold frL at hn
  simp only [List.mem_cons, List.not_mem_nil, or_false, forall_eq_or_imp, forall_eq] at hn h1
  unfold Go.Proofs.Ytfpgfclmmdihjaa.i64
  rcases hn with rfl | rfl | rfl | rfl | rfl | rfl | rfl | rfl | rfl | rfl <;> omega
theorem body_self {f : Fr} (h : FrR f) : isBody (bodyF f) = some f := by
  obtain ⟨Z, hZ⟩ : ∃ Z : ByteArray, Z = ⟨#[]⟩ := ⟨_, rfl⟩
  have hZ0 : ∀ x : ByteArray, x ++ Z = x := fun x => by rw [hZ]; exact L_inj (by rw [L_app]; simp [L])
  have he := h.e
  obtain ⟨X, hX⟩ : ∃ X, bodyF f = X := ⟨_, rfl⟩
  have hXs : catN (frL f) ++ (opK.part f.os ++ (rpK.part f.rs ++ (enK.part f.es ++ gfK.part f.gs))) = X := hX
  have h1 := nums_there (frL f) Z (opK.part f.os ++ (rpK.part f.rs ++ (enK.part f.es ++ gfK.part f.gs))) (frL_i64 h)
  have hZl : ∀ x : ByteArray, Z ++ x = x := fun x => by rw [hZ]; exact L_inj (by rw [L_app]; simp [L])
  have hZs : Z.size = 0 := by rw [hZ]; rfl
  rw [hZl, hXs, hZs, Nat.zero_add] at h1
  have h2 := opK.part_there 64 (by decide) f.os (catN (frL f)) (rpK.part f.rs ++ (enK.part f.es ++ gfK.part f.gs)) (by omega) h.os
  rw [hXs] at h2
  have h3 := rpK.part_there 8 (by decide) f.rs (catN (frL f) ++ opK.part f.os) (enK.part f.es ++ gfK.part f.gs) (by omega) h.rs
  rw [ByteArray.append_assoc, hXs, ByteArray.size_append] at h3
  have h4 := enK.part_there 64 (by decide) f.es (catN (frL f) ++ opK.part f.os ++ rpK.part f.rs) (gfK.part f.gs) (by omega) h.es
  rw [ByteArray.append_assoc, ByteArray.append_assoc, hXs, ByteArray.size_append, ByteArray.size_append] at h4
  have h5 := gfK.part_there 8 (by decide) f.gs (catN (frL f) ++ opK.part f.os ++ rpK.part f.rs ++ enK.part f.es) Z (by omega) h.gs
  rw [hZ0, ByteArray.append_assoc, ByteArray.append_assoc, ByteArray.append_assoc, hXs, ByteArray.size_append, ByteArray.size_append, ByteArray.size_append] at h5
  have hsz : X.size = (catN (frL f)).size + (opK.part f.os).size + (rpK.part f.rs).size + (enK.part f.es).size + (gfK.part f.gs).size := by
    rw [← hXs]; simp only [ByteArray.size_append]; omega
  rw [hX]
  unfold isBody
  rw [show (10 : Nat) = (frL f).length from rfl, h1, Option.bind_some]
  dsimp only
  rw [h2, Option.bind_some]
  dsimp only
  rw [h3, Option.bind_some]
  dsimp only
  rw [h4, Option.bind_some]
  dsimp only
  rw [h5, Option.bind_some]
  dsimp only
  rw [ofFr_self, if_pos ⟨hsz.symm, frB_iff.2 h⟩]
theorem isBody_some {t : ByteArray} {f : Fr} (h : isBody t = some f) : ∃ l q0 q1 q2 q3, isNums t 10 0 = some (l, q0) ∧ opK.isPart 64 t q0 false = some (f.os, q1) ∧ rpK.isPart 8 t q1 false = some (f.rs, q2) ∧ enK.isPart 64 t q2 false = some (f.es, q3) ∧ gfK.isPart 8 t q3 false = some (f.gs, t.size) ∧ f = ofFr l f.os f.rs f.es f.gs ∧ frB f = true := by
  unfold isBody at h
  cases ha : isNums t 10 0 with
  | none => rw [ha] at h; cases h
  | some a =>
    obtain ⟨a, qa⟩ := a
    rw [ha, Option.bind_some] at h
    dsimp only at h
    cases hb : opK.isPart 64 t qa false with
    | none => rw [hb] at h; cases h
    | some b =>
      obtain ⟨b, qb⟩ := b
      rw [hb, Option.bind_some] at h
      dsimp only at h
      cases hc : rpK.isPart 8 t qb false with
      | none => rw [hc] at h; cases h
      | some c =>
        obtain ⟨c, qc⟩ := c
        rw [hc, Option.bind_some] at h
        dsimp only at h
        cases hd : enK.isPart 64 t qc false with
        | none => rw [hd] at h; cases h
        | some d =>
          obtain ⟨d, qd⟩ := d
          rw [hd, Option.bind_some] at h
          dsimp only at h
          cases he : gfK.isPart 8 t qd false with
          | none => rw [he] at h; cases h
          | some e =>
            obtain ⟨e, qe⟩ := e
            rw [he, Option.bind_some] at h
            dsimp only at h
            by_cases hg : qe = t.size ∧ frB (ofFr a b c d e) = true
            · rw [if_pos hg] at h
              have h := Option.some.inj h
              subst h
              obtain ⟨rfl, hg⟩ := hg
              exact ⟨a, qa, qb, qc, qd, rfl, hb, hc, hd, he, rfl, hg⟩
            · rw [if_neg hg] at h; cases h
theorem body_bytes {t : ByteArray} {f : Fr} (h : isBody t = some f) : FrR f ∧ bodyF f = t := by
  obtain ⟨l, q0, q1, q2, q3, h0, h1, h2, h3, h4, h5, h6⟩ := isBody_some h
  refine ⟨frB_iff.1 h6, ?_⟩
  obtain ⟨g1, g2⟩ := nums_bytes _ _ _ _ _ h0
  obtain ⟨_, _, g3⟩ := opK.part_bytes h1
  obtain ⟨_, _, g4⟩ := rpK.part_bytes h2
  obtain ⟨_, _, g5⟩ := enK.part_bytes h3
  obtain ⟨_, _, g6⟩ := gfK.part_bytes h4
  have hl : frL f = l := by rw [h5]; exact frL_of g1 _ _ _ _
  apply L_inj
  rw [g3, g4, g5, g6, List.drop_zero] at g2
  have hn : (L t).drop t.size = [] := List.drop_eq_nil_of_le (by simp [L])
  rw [hn, List.append_nil] at g2
  unfold bodyF
  rw [hl, L_app, L_app, L_app, L_app, g2]
theorem bodyF_le {f : Fr} (h : FrR f) : (bodyF f).size ≤ 20000 := by
  have he := h.e
  have c10 : ∀ n : Nat, n ≤ 1000 → (bytesOf (n : Int)).size ≤ 10 := fun n hn => by rw [bytesOf_size]; exact enc_ten _ (fold_lt (n : Int) (by omega) (by omega))
  have h0 := catN_le (frL f) (frL_i64 h)
  rw [show (frL f).length = 10 from rfl] at h0
  have h1 := opK.cat_le 86 f.os (fun x hx => bytes_le (m := x) (h.os x hx))
  have h2 := rpK.cat_le 90 f.rs (fun x hx => by
    have := catN_le (rpL x) (rpB_iff.1 (h.rs x hx)).i64
    rw [show (rpL x).length = 9 from rfl] at this
    exact this)
  have h3 := enK.cat_le 96 f.es (fun x hx => ent_le (h.es x hx))
  have h4 := gfK.cat_le 310 f.gs (fun x hx => by
    have hg := h.gs x hx
    unfold gfB at hg
    rw [decide_eq_true_iff] at hg
    show (gfBytes x).size ≤ 310
    unfold gfBytes textOf
    have k1 : (bytesOf x.d).size ≤ 10 := by rw [bytesOf_size]; exact enc_ten _ (fold_lt _ (by omega) (by omega))
    have k2 : (bytesOf x.i).size ≤ 10 := by rw [bytesOf_size]; exact enc_ten _ (fold_lt _ (by omega) (by omega))
    have k3 : (bytesOf x.c).size ≤ 10 := by rw [bytesOf_size]; exact enc_ten _ (fold_lt _ (by omega) (by omega))
    have k4 : (bytesOf x.t).size ≤ 10 := by rw [bytesOf_size]; exact enc_ten _ (fold_lt _ (by omega) (by omega))
    have k5 := c10 x.s.size (by omega)
    simp only [ByteArray.size_append]
    omega)
  have b1 := c10 f.os.length (by omega)
  have b2 := c10 f.rs.length (by omega)
  have b3 := c10 f.es.length (by omega)
  have b4 := c10 f.gs.length (by omega)
  unfold bodyF Kd.part
  simp only [ByteArray.size_append]
  omega
theorem fparse_self {f : Fr} (h : FrR f) : parseF (frBytes f) = some f := by
  have hb := bodyF_le h
  obtain ⟨h1, h2⟩ := Crk.seal_opens' (bodyF f) (by omega)
  have h3 := Crk.seal_size (bodyF f)
  unfold parseF frBytes
  rw [h1, h2, h3, if_pos ⟨by omega, by omega⟩]
  exact body_self h
theorem fparse_bytes {s : ByteArray} {f : Fr} (h : parseF s = some f) : FrR f ∧ frBytes f = s := by
  unfold parseF at h
  by_cases c : Crk.opC s = s.size ∧ s.size ≤ 65536
  · rw [if_pos c] at h
    obtain ⟨h1, h2⟩ := body_bytes h
    exact ⟨h1, by unfold frBytes; rw [h2]; exact Crk.seal_of c.1⟩
  · rw [if_neg c] at h; cases h
theorem fprint_inj {a b : Fr} (ha : FrR a) (hb : FrR b) (h : frBytes a = frBytes b) : a = b := by
  have h1 := fparse_self ha
  rw [h, fparse_self hb] at h1
  exact (Option.some.inj h1).symm
/-- Bytes that are cut. -/
theorem fparse_cut (t : ByteArray) (k : Nat) (hs : t.size < 4294967296) (hk : k < 8 + t.size) : parseF ((Crk.sealOf t).extract 0 k) = none := by
  unfold parseF
  rw [Crk.cut_shut t k hs hk, if_neg (by omega)]
/-- A byte is another one. -/
theorem fparse_turned (s t : ByteArray) (k : Nat) (m : UInt8) (hs : s.size < 4294967296) (hk : k < 8 + s.size) (hm : m ≠ 0) (h : t.data.toList = (Crk.sealOf s).data.toList.set k ((Crk.sealOf s).data.toList.getD k 0 ^^^ m)) : parseF t = none := by
  unfold parseF
  rw [if_neg fun c => Crk.turned_none s t k m hs hk hm h c.1]
end Go.Proofs.Ytfpgfclmmdihjaa

/- Reports in memory; what the program's functions shall answer (ReportCalls); the document's Right, Newer, Print, Same. -/
namespace Go.Proofs.Ytfpgfclmmdihjaa
open Go.RowKit Cod

def rpE : El Rp where
  e := 56
  k := 9
  c r := [.int .i64 r.d, .int .i64 r.i, .int .i64 r.b, .int .i64 r.t, .int .i64 r.m, .int .i64 r.p, .int .i64 r.c, .int .i64 r.s, .int .i64 r.k]
  len _ := rfl
  one p u h := by
    simp only [List.mem_cons, List.not_mem_nil, or_false] at h
    rcases h with rfl | rfl | rfl | rfl | rfl | rfl | rfl | rfl | rfl <;> rfl
  pos := by decide
theorem rpRow : rpE.Row Try.prog := ⟨by kernel_rfl, _, Try.underlying56, rfl⟩
theorem rpInn : rpE.Inn Try.prog 34 := El.inn_of (z := .agg #[.int .i64 0, .int .i64 0, .int .i64 0, .int .i64 0, .int .i64 0, .int .i64 0, .int .i64 0, .int .i64 0, .int .i64 0]) (bytes := 72) Try.underlying34 (by kernel_rfl) rfl (by decide)
theorem rpIn9 {w : World} {b : Nat} {r : Rp} (h : rpE.In w b r) : w.cell? ⟨b, 0, none⟩ = some (.int .i64 r.d) ∧ w.cell? ⟨b, 1, none⟩ = some (.int .i64 r.i) ∧ w.cell? ⟨b, 2, none⟩ = some (.int .i64 r.b) ∧ w.cell? ⟨b, 3, none⟩ = some (.int .i64 r.t) ∧ w.cell? ⟨b, 4, none⟩ = some (.int .i64 r.m) ∧ w.cell? ⟨b, 5, none⟩ = some (.int .i64 r.p) ∧ w.cell? ⟨b, 6, none⟩ = some (.int .i64 r.c) ∧ w.cell? ⟨b, 7, none⟩ = some (.int .i64 r.s) ∧ w.cell? ⟨b, 8, none⟩ = some (.int .i64 r.k) :=
  ⟨h.cell 0, h.cell 1, h.cell 2, h.cell 3, h.cell 4, h.cell 5, h.cell 6, h.cell 7, h.cell 8⟩
theorem rpAt9 {w : World} {b o : Nat} {r : Rp} (h : rpE.At w b o r) : w.cell? ⟨b, o, none⟩ = some (.int .i64 r.d) ∧ w.cell? ⟨b, o + 1, none⟩ = some (.int .i64 r.i) ∧ w.cell? ⟨b, o + 2, none⟩ = some (.int .i64 r.b) ∧ w.cell? ⟨b, o + 3, none⟩ = some (.int .i64 r.t) ∧ w.cell? ⟨b, o + 4, none⟩ = some (.int .i64 r.m) ∧ w.cell? ⟨b, o + 5, none⟩ = some (.int .i64 r.p) ∧ w.cell? ⟨b, o + 6, none⟩ = some (.int .i64 r.c) ∧ w.cell? ⟨b, o + 7, none⟩ = some (.int .i64 r.s) ∧ w.cell? ⟨b, o + 8, none⟩ = some (.int .i64 r.k) :=
  ⟨h 0 _ rfl, h 1 _ rfl, h 2 _ rfl, h 3 _ rfl, h 4 _ rfl, h 5 _ rfl, h 6 _ rfl, h 7 _ rfl, h 8 _ rfl⟩
theorem rpIdxH {A : Option Addr} {b off len cap k : Nat} (hA : A = some ⟨b, off, none⟩) (h : k < len) : ∀ w, (Instr.indexAt 34 (.slice A len cap) (.int .i64 k)).run Try.prog w = .ok (.pointer (some ⟨b, off + k * 9, none⟩)) w := fun w => by
  subst hA
  have h2 : (k : Int) < (len : Int) := by omega
  go_simp
def RpW (r : Rp) : Prop := ∀ n ∈ rpL r, i64 n
def rpStep (s : ByteArray) (p : Nat) (bad : Bool) (x : Rp) (q : Nat) (bad' : Bool) : Prop := (isRp s p bad = some (x, q) ∧ bad' = false) ∨ (isRp s p bad = none ∧ x = zeroRp ∧ bad' = true)
def rp7 (r : Rp) : List Int := [r.i, r.b, r.t, r.p, r.c, r.s, r.k]
def headB (r : Rp) : Bool := decide (0 ≤ r.d ∧ r.d < 12 ∧ 1 ≤ r.i ∧ (r.m = 1 ∨ r.m = 2))
theorem rpB_eq (r : Rp) : rpB r = (headB r && (rp7 r).all cnt0) := by
  unfold rpB headB rp7
  simp [List.all_cons]
theorem rpB_out {r : Rp} {k : Nat} (h : k < 7) (hn : cnt0 ((rp7 r).getD k 0) = false) : rpB r = false := by
  rw [rpB_eq]
  have h1 : (rp7 r).all cnt0 = false := by
    rw [Bool.eq_false_iff]; intro ha
    rw [List.all_eq_true] at ha
    have := ha ((rp7 r).getD k 0) (by
      rw [List.getD_eq_getElem?_getD, List.getElem?_eq_getElem (by simpa [rp7] using h)]
      exact List.getElem_mem _)
    rw [hn] at this; cases this
  rw [h1, Bool.and_false]
theorem rpB_in {r : Rp} (h : ∀ k, k < 7 → cnt0 ((rp7 r).getD k 0) = true) : rpB r = headB r := by
  rw [rpB_eq]
  have h1 : (rp7 r).all cnt0 = true := by
    rw [List.all_eq_true]
    intro n hn
    obtain ⟨k, hk, rfl⟩ := List.getElem_of_mem hn
    have h2 : k < 7 := by simpa [rp7] using hk
    have := h k h2
    rw [List.getD_eq_getElem?_getD, List.getElem?_eq_getElem hk] at this
    exact this
  rw [h1, Bool.and_true]
end Go.Proofs.Ytfpgfclmmdihjaa

/- The document's Right, Print, Same of reports. -/
namespace Go.Proofs.Ytfpgfclmmdihjaa
open Go.RowKit Cod

def rpEq (a b : Rp) : Bool := decide (a.d = b.d ∧ a.i = b.i ∧ a.b = b.b ∧ a.t = b.t ∧ a.m = b.m ∧ a.p = b.p ∧ a.c = b.c ∧ a.s = b.s ∧ a.k = b.k)
theorem rpEq_iff {a b : Rp} : rpEq a b = true ↔ a = b := by
  unfold rpEq
  rw [decide_eq_true_iff]
  obtain ⟨_, _, _, _, _, _, _, _, _⟩ := a
  obtain ⟨_, _, _, _, _, _, _, _, _⟩ := b
  simp
set_option maxRecDepth 100000 in
set_option maxHeartbeats 4000000 in
theorem run_eqRp (a b : Rp) (w : World) : (Op.equalIn 10000 56 (.agg #[.int .i64 a.d, .int .i64 a.i, .int .i64 a.b, .int .i64 a.t, .int .i64 a.m, .int .i64 a.p, .int .i64 a.c, .int .i64 a.s, .int .i64 a.k]) (.agg #[.int .i64 b.d, .int .i64 b.i, .int .i64 b.b, .int .i64 b.t, .int .i64 b.m, .int .i64 b.p, .int .i64 b.c, .int .i64 b.s, .int .i64 b.k])).run Try.prog w = .ok (rpEq a b) w := by
  obtain ⟨a1, a2, a3, a4, a5, a6, a7, a8, a9⟩ := a
  obtain ⟨b1, b2, b3, b4, b5, b6, b7, b8, b9⟩ := b
  dsimp only
  by_cases h : a1 = b1 ∧ a2 = b2 ∧ a3 = b3 ∧ a4 = b4 ∧ a5 = b5 ∧ a6 = b6 ∧ a7 = b7 ∧ a8 = b8 ∧ a9 = b9
  · have hm : rpEq ⟨a1, a2, a3, a4, a5, a6, a7, a8, a9⟩ ⟨b1, b2, b3, b4, b5, b6, b7, b8, b9⟩ = true := decide_eq_true h
    rw [hm]
    obtain ⟨rfl, rfl, rfl, rfl, rfl, rfl, rfl, rfl, rfl⟩ := h
    clear hm
    go_simp
  · have hm : rpEq ⟨a1, a2, a3, a4, a5, a6, a7, a8, a9⟩ ⟨b1, b2, b3, b4, b5, b6, b7, b8, b9⟩ = false := decide_eq_false h
    rw [hm]
    clear hm
    go_simp
    exact fun h1 h2 h3 h4 h5 h6 h7 h8 h9 => h ⟨h1, h2, h3, h4, h5, h6, h7, h8, h9⟩

theorem rp9_i64 {r : Rp} (h : RpW r) {k : Nat} (hk : k < 9) : i64 ((rpL r).getD k 0) := by
  rw [List.getD_eq_getElem?_getD, List.getElem?_eq_getElem (by simpa [rpL] using hk)]
  exact h _ (List.getElem_mem _)
theorem rp9_next (r : Rp) {k : Nat} (hk : k < 9) : catN ((rpL r).take (k + 1)) = catN ((rpL r).take k) ++ bytesOf ((rpL r).getD k 0) := by
  have hl : k < (rpL r).length := by simpa [rpL] using hk
  rw [catN_next _ k hl, List.getD_eq_getElem?_getD, List.getElem?_eq_getElem hl]; rfl
end Go.Proofs.Ytfpgfclmmdihjaa

/- Entries and counts in memory; what the program's functions shall answer (EntryCalls: proved for the real program in a text of its own); the document's Right and Print. -/
namespace Go.Proofs.Ytfpgfclmmdihjaa
open Go.RowKit Nam Cod

def enE : El En where
  e := 50
  k := 10
  c x := [.int .i64 x.k, .int .i64 x.d, .int .i64 x.i, .int .i64 x.o.C, .int .i64 x.o.D, .int .i64 x.o.I, .int .i64 x.o.M, .int .i64 x.o.K, .int .i64 x.o.U, .string x.o.s]
  len _ := rfl
  one p u h := by
    simp only [List.mem_cons, List.not_mem_nil, or_false] at h
    rcases h with rfl | rfl | rfl | rfl | rfl | rfl | rfl | rfl | rfl | rfl <;> rfl
  pos := by decide
def cnE : El Cn where
  e := 69
  k := 3
  c x := [.int .i64 x.d, .int .i64 x.i, .int .i64 x.n]
  len _ := rfl
  one p u h := by
    simp only [List.mem_cons, List.not_mem_nil, or_false] at h
    rcases h with rfl | rfl | rfl <;> rfl
  pos := by decide
theorem enRow : enE.Row Try.prog := ⟨by kernel_rfl, _, Try.underlying50, rfl⟩
theorem cnRow : cnE.Row Try.prog := ⟨by kernel_rfl, _, Try.underlying69, rfl⟩
theorem enInn : enE.Inn Try.prog 42 := El.inn_of (z := .agg #[.int .i64 0, .int .i64 0, .int .i64 0, .int .i64 0, .int .i64 0, .int .i64 0, .int .i64 0, .int .i64 0, .int .i64 0, .string ⟨#[]⟩]) (bytes := 88) Try.underlying42 (by kernel_rfl) rfl (by decide)
theorem cnInn : cnE.Inn Try.prog 28 := El.inn_of (z := .agg #[.int .i64 0, .int .i64 0, .int .i64 0]) (bytes := 24) Try.underlying28 (by kernel_rfl) rfl (by decide)
theorem enIn10 {w : World} {b : Nat} {x : En} (h : enE.In w b x) : w.cell? ⟨b, 0, none⟩ = some (.int .i64 x.k) ∧ w.cell? ⟨b, 1, none⟩ = some (.int .i64 x.d) ∧ w.cell? ⟨b, 2, none⟩ = some (.int .i64 x.i) ∧ w.cell? ⟨b, 3, none⟩ = some (.int .i64 x.o.C) ∧ w.cell? ⟨b, 4, none⟩ = some (.int .i64 x.o.D) ∧ w.cell? ⟨b, 5, none⟩ = some (.int .i64 x.o.I) ∧ w.cell? ⟨b, 6, none⟩ = some (.int .i64 x.o.M) ∧ w.cell? ⟨b, 7, none⟩ = some (.int .i64 x.o.K) ∧ w.cell? ⟨b, 8, none⟩ = some (.int .i64 x.o.U) ∧ w.cell? ⟨b, 9, none⟩ = some (.string x.o.s) :=
  ⟨h.cell 0, h.cell 1, h.cell 2, h.cell 3, h.cell 4, h.cell 5, h.cell 6, h.cell 7, h.cell 8, h.cell 9⟩
theorem cnAt3 {w : World} {b o : Nat} {x : Cn} (h : cnE.At w b o x) : w.cell? ⟨b, o, none⟩ = some (.int .i64 x.d) ∧ w.cell? ⟨b, o + 1, none⟩ = some (.int .i64 x.i) ∧ w.cell? ⟨b, o + 2, none⟩ = some (.int .i64 x.n) :=
  ⟨h 0 _ rfl, h 1 _ rfl, h 2 _ rfl⟩
theorem cnIn3 {w : World} {b : Nat} {x : Cn} (h : cnE.In w b x) : w.cell? ⟨b, 0, none⟩ = some (.int .i64 x.d) ∧ w.cell? ⟨b, 1, none⟩ = some (.int .i64 x.i) ∧ w.cell? ⟨b, 2, none⟩ = some (.int .i64 x.n) :=
  ⟨h.cell 0, h.cell 1, h.cell 2⟩
/-- An entry's numbers fit. -/
structure EnW (e : En) : Prop where
  k : i64 e.k
  d : i64 e.d
  i : i64 e.i
  o : Wide e.o.C e.o.D e.o.I e.o.M e.o.K e.o.U
def entStep (s : ByteArray) (p : Nat) (bad : Bool) (x : En) (q : Nat) (bad' : Bool) : Prop := (isEnt s p bad = some (x, q) ∧ bad' = false) ∨ (isEnt s p bad = none ∧ x = zeroEn ∧ bad' = true)
theorem opRef_mv (m : Mv) (w : World) (hs : m.s.size ≤ 9223372036854775807) :
    Calls Try.prog 30 #[.agg #[.int .i64 m.C, .int .i64 m.D, .int .i64 m.I, .int .i64 m.M, .int .i64 m.K, .int .i64 m.U, .string m.s]] w fun e w' => e = .returned (.bool (okB m)) ∧ Below w.heap.size w w' := opRefRight_any m.C m.D m.I m.M m.K m.U m.s w hs
theorem opRefP_mv (m : Mv) (w : World) (hw : Wide m.C m.D m.I m.M m.K m.U) (hs : m.s.size ≤ 1000000) :
    Calls Try.prog 62 #[.agg #[.int .i64 m.C, .int .i64 m.D, .int .i64 m.I, .int .i64 m.M, .int .i64 m.K, .int .i64 m.U, .string m.s]] w fun e w' => e = .returned (.string m.bytes) ∧ Below w.heap.size w w' := opRefPrint_any m.C m.D m.I m.M m.K m.U m.s w hw hs


theorem toList_iff {a b : ByteArray} : a.toList = b.toList ↔ a = b := ⟨fun h => by
  by_cases e : a = b
  · exact e
  · exact absurd h (ne_list e), fun h => by rw [h]⟩
/-- Are these two operations, entries, counts the same? -/
def mvEq (C D I M K U : Int) (s : ByteArray) (C' D' I' M' K' U' : Int) (s' : ByteArray) : Bool := decide (C = C' ∧ D = D' ∧ I = I' ∧ M = M' ∧ K = K' ∧ U = U' ∧ s = s')
def enEq (k d i C D I M K U : Int) (s : ByteArray) (k' d' i' C' D' I' M' K' U' : Int) (s' : ByteArray) : Bool := decide (k = k' ∧ d = d' ∧ i = i' ∧ C = C' ∧ D = D' ∧ I = I' ∧ M = M' ∧ K = K' ∧ U = U' ∧ s = s')
def cnEq (d i n d' i' n' : Int) : Bool := decide (d = d' ∧ i = i' ∧ n = n')
theorem mvEq_iff {x y : Mv} : mvEq x.C x.D x.I x.M x.K x.U x.s y.C y.D y.I y.M y.K y.U y.s = true ↔ x = y := by
  unfold mvEq
  rw [decide_eq_true_iff]
  obtain ⟨C, D, I, M, K, U, s⟩ := x
  obtain ⟨C', D', I', M', K', U', s'⟩ := y
  simp
theorem enEq_iff {x y : En} : enEq x.k x.d x.i x.o.C x.o.D x.o.I x.o.M x.o.K x.o.U x.o.s y.k y.d y.i y.o.C y.o.D y.o.I y.o.M y.o.K y.o.U y.o.s = true ↔ x = y := by
  unfold enEq
  rw [decide_eq_true_iff]
  obtain ⟨k, d, i, C, D, I, M, K, U, s⟩ := x
  obtain ⟨k', d', i', C', D', I', M', K', U', s'⟩ := y
  simp
theorem cnEq_iff {x y : Cn} : cnEq x.d x.i x.n y.d y.i y.n = true ↔ x = y := by
  unfold cnEq
  rw [decide_eq_true_iff]
  obtain ⟨d, i, n⟩ := x
  obtain ⟨d', i', n'⟩ := y
  simp
set_option maxRecDepth 100000 in
set_option maxHeartbeats 4000000 in
theorem run_eqMv (w : World) (C D I M K U C' D' I' M' K' U' : Int) (s s' : ByteArray) : (Op.equalIn 10000 48 (.agg #[.int .i64 C, .int .i64 D, .int .i64 I, .int .i64 M, .int .i64 K, .int .i64 U, .string s]) (.agg #[.int .i64 C', .int .i64 D', .int .i64 I', .int .i64 M', .int .i64 K', .int .i64 U', .string s'])).run Try.prog w = .ok (mvEq C D I M K U s C' D' I' M' K' U' s') w := by
  by_cases h : C = C' ∧ D = D' ∧ I = I' ∧ M = M' ∧ K = K' ∧ U = U' ∧ s = s'
  · have hm : mvEq C D I M K U s C' D' I' M' K' U' s' = true := decide_eq_true h
    rw [hm]
    obtain ⟨rfl, rfl, rfl, rfl, rfl, rfl, rfl⟩ := h
    clear hm
    go_simp
  · have hm : mvEq C D I M K U s C' D' I' M' K' U' s' = false := decide_eq_false h
    rw [hm]
    clear hm
    go_simp
    exact fun h1 h2 h3 h4 h5 h6 h7 => h ⟨h1, h2, h3, h4, h5, h6, toList_iff.1 h7⟩
set_option maxRecDepth 100000 in
set_option maxHeartbeats 4000000 in
theorem run_eqEn (w : World) (k d i C D I M K U k' d' i' C' D' I' M' K' U' : Int) (s s' : ByteArray) : (Op.equalIn 10000 50 (.agg #[.int .i64 k, .int .i64 d, .int .i64 i, .int .i64 C, .int .i64 D, .int .i64 I, .int .i64 M, .int .i64 K, .int .i64 U, .string s]) (.agg #[.int .i64 k', .int .i64 d', .int .i64 i', .int .i64 C', .int .i64 D', .int .i64 I', .int .i64 M', .int .i64 K', .int .i64 U', .string s'])).run Try.prog w = .ok (enEq k d i C D I M K U s k' d' i' C' D' I' M' K' U' s') w := by
  by_cases h : k = k' ∧ d = d' ∧ i = i' ∧ C = C' ∧ D = D' ∧ I = I' ∧ M = M' ∧ K = K' ∧ U = U' ∧ s = s'
  · have hm : enEq k d i C D I M K U s k' d' i' C' D' I' M' K' U' s' = true := decide_eq_true h
    rw [hm]
    obtain ⟨rfl, rfl, rfl, rfl, rfl, rfl, rfl, rfl, rfl, rfl⟩ := h
    clear hm
    go_simp
  · have hm : enEq k d i C D I M K U s k' d' i' C' D' I' M' K' U' s' = false := decide_eq_false h
    rw [hm]
    clear hm
    go_simp
    exact fun g1 g2 g3 h1 h2 h3 h4 h5 h6 h7 => h ⟨g1, g2, g3, h1, h2, h3, h4, h5, h6, toList_iff.1 h7⟩
theorem run_eqCn (w : World) (d i n d' i' n' : Int) : (Op.equalIn 10000 69 (.agg #[.int .i64 d, .int .i64 i, .int .i64 n]) (.agg #[.int .i64 d', .int .i64 i', .int .i64 n'])).run Try.prog w = .ok (cnEq d i n d' i' n') w := by
  by_cases h : d = d' ∧ i = i' ∧ n = n'
  · have hm : cnEq d i n d' i' n' = true := decide_eq_true h
    rw [hm]
    obtain ⟨rfl, rfl, rfl⟩ := h
    clear hm
    go_simp
  · have hm : cnEq d i n d' i' n' = false := decide_eq_false h
    rw [hm]
    clear hm
    go_simp
    exact fun h1 h2 h3 => h ⟨h1, h2, h3⟩

set_option maxRecDepth 100000 in
set_option maxHeartbeats 2000000 in
theorem refEntRight_any (e : En) (w : World) (hs : e.o.s.size ≤ 9223372036854775807) : Calls Try.prog 19 #[.agg #[.int .i64 e.k, .int .i64 e.d, .int .i64 e.i, .int .i64 e.o.C, .int .i64 e.o.D, .int .i64 e.o.I, .int .i64 e.o.M, .int .i64 e.o.K, .int .i64 e.o.U, .string e.o.s]] w fun r w' => r = .returned (.bool (entB e)) ∧ Below w.heap.size w w' := by
  obtain ⟨k, d, i, o⟩ := e
  dsimp only at hs ⊢
  have C1 := Lib.hid (fun wx => opRef_mv o wx hs)
  by_cases h1 : k = 1
  · subst h1
    have hB := below_alloc (Below.refl w.heap.size w) (.cells #[.int .i64 (⟨1, d, i, o⟩ : En).k, .int .i64 (⟨1, d, i, o⟩ : En).d, .int .i64 (⟨1, d, i, o⟩ : En).i, .int .i64 (⟨1, d, i, o⟩ : En).o.C, .int .i64 (⟨1, d, i, o⟩ : En).o.D, .int .i64 (⟨1, d, i, o⟩ : En).o.I, .int .i64 (⟨1, d, i, o⟩ : En).o.M, .int .i64 (⟨1, d, i, o⟩ : En).o.K, .int .i64 (⟨1, d, i, o⟩ : En).o.U, .string (⟨1, d, i, o⟩ : En).o.s] 50)
    dsimp only at hB
    by_cases h2 : d = 0 ∧ i = 0
    · obtain ⟨rfl, rfl⟩ := h2
      have hv : entB ⟨1, 0, 0, o⟩ = okB o := by
        unfold entB
        rw [if_pos rfl, decide_eq_true ⟨rfl, rfl⟩, Bool.true_and]
      rw [hv]
      generalize okB o = bo at *
      clear hv
      go_enter Try.func19, Try.ntmps19
      go_wp2_with fail
      refine (C1.out _).mono ?_
      rintro r w1 ⟨rfl, hb1⟩
      replace hB := hB.trans (hb1.mono hB.size)
      go_wp2_with fail
      go_ret
      exact ⟨rfl, hB⟩
    · have hv : entB ⟨1, d, i, o⟩ = false := by
        unfold entB
        rw [if_pos rfl, decide_eq_false h2, Bool.false_and]
      rw [hv]
      clear hv
      by_cases h3 : d = 0
      · subst h3
        have e2 : (i == 0) = false := beq_eq_false_iff_ne.2 (fun h => h2 ⟨rfl, h⟩)
        clear h2
        go_enter Try.func19, Try.ntmps19
        go_wp2_with fail
        go_ret
        exact ⟨rfl, hB⟩
      · have e1 : (d == 0) = false := beq_eq_false_iff_ne.2 h3
        clear h2 h3
        go_enter Try.func19, Try.ntmps19
        go_wp2_with fail
        go_ret
        exact ⟨rfl, hB⟩
  · have hB := below_alloc (Below.refl w.heap.size w) (.cells #[.int .i64 (⟨k, d, i, o⟩ : En).k, .int .i64 (⟨k, d, i, o⟩ : En).d, .int .i64 (⟨k, d, i, o⟩ : En).i, .int .i64 (⟨k, d, i, o⟩ : En).o.C, .int .i64 (⟨k, d, i, o⟩ : En).o.D, .int .i64 (⟨k, d, i, o⟩ : En).o.I, .int .i64 (⟨k, d, i, o⟩ : En).o.M, .int .i64 (⟨k, d, i, o⟩ : En).o.K, .int .i64 (⟨k, d, i, o⟩ : En).o.U, .string (⟨k, d, i, o⟩ : En).o.s] 50)
    dsimp only at hB
    have e1 : (k == 1) = false := beq_eq_false_iff_ne.2 h1
    by_cases h2 : k = 2 ∨ k = 3
    · have hv : entB ⟨k, d, i, o⟩ = (lifeB d i && zeroB o) := by
        unfold entB
        rw [if_neg h1, if_pos h2]
      rw [hv]
      have q := run_eqMv
      have HZ := Lib.hid (show mvEq o.C o.D o.I o.M o.K o.U o.s 0 0 0 0 0 0 ⟨#[]⟩ = zeroB o from rfl)
      clear hv h1 C1
      by_cases h3 : 0 ≤ d ∧ d < 12 ∧ 1 ≤ i ∧ i ≤ 1099511627776
      · have hl : lifeB d i = true := decide_eq_true h3
        rw [hl, Bool.true_and]
        obtain ⟨h4, h5, h6, h7⟩ := h3
        clear hl
        rcases h2 with rfl | rfl
        · go_enter Try.func19, Try.ntmps19
          go_wp2_with fail
          go_ret
          exact ⟨by rw [HZ.out]; rfl, hB⟩
        · go_enter Try.func19, Try.ntmps19
          go_wp2_with fail
          go_ret
          exact ⟨by rw [HZ.out]; rfl, hB⟩
      · have hl : lifeB d i = false := decide_eq_false h3
        rw [hl, Bool.false_and]
        clear hl
        rcases (show d < 0 ∨ (0 ≤ d ∧ 12 ≤ d) ∨ (0 ≤ d ∧ d < 12 ∧ i < 1) ∨ (0 ≤ d ∧ d < 12 ∧ 1 ≤ i ∧ 1099511627776 < i) by omega) with h4 | ⟨h4, h5⟩ | ⟨h4, h5, h6⟩ | ⟨h4, h5, h6, h7⟩
        all_goals
          clear h3
          rcases h2 with rfl | rfl
          all_goals
            go_enter Try.func19, Try.ntmps19
            go_wp2_with fail
            go_ret
            exact ⟨rfl, hB⟩
    · have hv : entB ⟨k, d, i, o⟩ = false := by
        unfold entB
        rw [if_neg h1, if_neg h2]
      rw [hv]
      have e2 : (k == 2) = false := beq_eq_false_iff_ne.2 (fun h => h2 (Or.inl h))
      have e3 : (k == 3) = false := beq_eq_false_iff_ne.2 (fun h => h2 (Or.inr h))
      clear h1 h2 hv
      go_enter Try.func19, Try.ntmps19
      go_wp2_with fail
      go_ret
      exact ⟨rfl, hB⟩

theorem bytesOf_le10 {n : Int} (h : i64 n) : (bytesOf n).size ≤ 10 := by rw [bytesOf_size]; exact enc_ten _ (fold_lt n h.1 h.2)
theorem mvBytes_le {o : Mv} (h : Wide o.C o.D o.I o.M o.K o.U) (hs : o.s.size ≤ 1000000) : o.bytes.size ≤ 1000070 := by
  obtain ⟨h1, h2, h3, h4, h5, h6⟩ := h
  have g1 := bytesOf_le10 (n := o.C) ⟨h1.1, h1.2⟩
  have g2 := bytesOf_le10 (n := o.D) ⟨h2.1, h2.2⟩
  have g3 := bytesOf_le10 (n := o.I) ⟨h3.1, h3.2⟩
  have g4 := bytesOf_le10 (n := o.M) ⟨h4.1, h4.2⟩
  have g5 := bytesOf_le10 (n := o.K) ⟨h5.1, h5.2⟩
  have g6 := bytesOf_le10 (n := o.U) ⟨h6.1, h6.2⟩
  have g7 := text_le o.s hs
  unfold Mv.bytes printOf
  simp only [ByteArray.size_append]
  omega
end Go.Proofs.Ytfpgfclmmdihjaa

/- Gifts and frames in memory; what the program's functions shall answer (FrameCalls); the document's Same of lists, RightGift, PrintGift. -/
namespace Go.Proofs.Ytfpgfclmmdihjaa
open Go.RowKit Nam Cod

def gfE : El Gf where
  e := 37
  k := 5
  c g := [.int .i64 g.d, .int .i64 g.i, .int .i64 g.c, .int .i64 g.t, .string g.s]
  len _ := rfl
  one p u h := by
    simp only [List.mem_cons, List.not_mem_nil, or_false] at h
    rcases h with rfl | rfl | rfl | rfl | rfl <;> rfl
  pos := by decide
theorem gfRow : gfE.Row Try.prog := ⟨by kernel_rfl, _, Try.underlying37, rfl⟩
theorem gfInn : gfE.Inn Try.prog 33 := El.inn_of (z := .agg #[.int .i64 0, .int .i64 0, .int .i64 0, .int .i64 0, .string ⟨#[]⟩]) (bytes := 48) Try.underlying33 (by kernel_rfl) rfl (by decide)
theorem gfIn5 {w : World} {b : Nat} {g : Gf} (h : gfE.In w b g) : w.cell? ⟨b, 0, none⟩ = some (.int .i64 g.d) ∧ w.cell? ⟨b, 1, none⟩ = some (.int .i64 g.i) ∧ w.cell? ⟨b, 2, none⟩ = some (.int .i64 g.c) ∧ w.cell? ⟨b, 3, none⟩ = some (.int .i64 g.t) ∧ w.cell? ⟨b, 4, none⟩ = some (.string g.s) := ⟨h.cell 0, h.cell 1, h.cell 2, h.cell 3, h.cell 4⟩
theorem gfAt5 {w : World} {b o : Nat} {g : Gf} (h : gfE.At w b o g) : w.cell? ⟨b, o, none⟩ = some (.int .i64 g.d) ∧ w.cell? ⟨b, o + 1, none⟩ = some (.int .i64 g.i) ∧ w.cell? ⟨b, o + 2, none⟩ = some (.int .i64 g.c) ∧ w.cell? ⟨b, o + 3, none⟩ = some (.int .i64 g.t) ∧ w.cell? ⟨b, o + 4, none⟩ = some (.string g.s) := ⟨h 0 _ rfl, h 1 _ rfl, h 2 _ rfl, h 3 _ rfl, h 4 _ rfl⟩
theorem gfIdxH {A : Option Addr} {b off len cap k : Nat} (hA : A = some ⟨b, off, none⟩) (h : k < len) : ∀ w, (Instr.indexAt 33 (.slice A len cap) (.int .i64 k)).run Try.prog w = .ok (.pointer (some ⟨b, off + k * 5, none⟩)) w := fun w => by
  subst hA
  have h2 : (k : Int) < (len : Int) := by omega
  go_simp
structure Fw where
  oA : Option Addr
  oc : Nat
  rA : Option Addr
  rc : Nat
  eA : Option Addr
  ec : Nat
  gA : Option Addr
  gc : Nat
  x : Fr
structure Fw.ok (y : Fw) (w : World) : Prop where
  o : SlV opE w y.oA y.oc y.x.os
  r : SlV rpE w y.rA y.rc y.x.rs
  e : SlV enE w y.eA y.ec y.x.es
  g : SlV gfE w y.gA y.gc y.x.gs
theorem Fw.ok.below {y : Fw} {W w : World} (h : y.ok W) (hb : Below W.heap.size W w) : y.ok w := ⟨SlV.below h.o hb, SlV.below h.r hb, SlV.below h.e hb, SlV.below h.g hb⟩
def zeroFw : Fw := ⟨none, 0, none, 0, none, 0, none, 0, zeroFr⟩
def GfW (g : Gf) : Prop := i64 g.d ∧ i64 g.i ∧ i64 g.c ∧ i64 g.t ∧ g.s.size ≤ 1000000
structure FrW (x : Fr) : Prop where
  n : ∀ n ∈ frL x, i64 n
  os : ∀ o ∈ x.os, Wide o.C o.D o.I o.M o.K o.U ∧ o.s.size ≤ 1000000
  rs : ∀ r ∈ x.rs, RpW r
  es : ∀ e ∈ x.es, EnW e ∧ e.o.s.size ≤ 1000000
  gs : ∀ g ∈ x.gs, GfW g
  l : x.os.length ≤ 300 ∧ x.rs.length ≤ 300 ∧ x.es.length ≤ 300 ∧ x.gs.length ≤ 300
  z : (bodyF x).size ≤ 1000000
def gfStep (s : ByteArray) (p : Nat) (bad : Bool) (x : Gf) (q : Nat) (bad' : Bool) : Prop := (isGf s p bad = some (x, q) ∧ bad' = false) ∨ (isGf s p bad = none ∧ x = zeroGf ∧ bad' = true)
def gfEq (a b : Gf) : Bool := decide (a.d = b.d ∧ a.i = b.i ∧ a.c = b.c ∧ a.t = b.t ∧ a.s = b.s)
theorem gfEq_iff {a b : Gf} : gfEq a b = true ↔ a = b := by
  unfold gfEq
  rw [decide_eq_true_iff]
  obtain ⟨_, _, _, _, _⟩ := a
  obtain ⟨_, _, _, _, _⟩ := b
  simp
set_option maxRecDepth 100000 in
set_option maxHeartbeats 4000000 in
theorem run_eqGf (a b : Gf) (w : World) : (Op.equalIn 10000 37 (.agg #[.int .i64 a.d, .int .i64 a.i, .int .i64 a.c, .int .i64 a.t, .string a.s]) (.agg #[.int .i64 b.d, .int .i64 b.i, .int .i64 b.c, .int .i64 b.t, .string b.s])).run Try.prog w = .ok (gfEq a b) w := by
  obtain ⟨a1, a2, a3, a4, a5⟩ := a
  obtain ⟨b1, b2, b3, b4, b5⟩ := b
  dsimp only
  by_cases h : a1 = b1 ∧ a2 = b2 ∧ a3 = b3 ∧ a4 = b4 ∧ a5 = b5
  · have hm : gfEq ⟨a1, a2, a3, a4, a5⟩ ⟨b1, b2, b3, b4, b5⟩ = true := decide_eq_true h
    rw [hm]
    obtain ⟨rfl, rfl, rfl, rfl, rfl⟩ := h
    clear hm
    go_simp
  · have hm : gfEq ⟨a1, a2, a3, a4, a5⟩ ⟨b1, b2, b3, b4, b5⟩ = false := decide_eq_false h
    rw [hm]
    clear hm
    go_simp
    exact fun h1 h2 h3 h4 h5 => h ⟨h1, h2, h3, h4, toList_iff.1 h5⟩

theorem enAtF {w : World} {b o : Nat} {x : En} (h : enE.At w b o x) : w.cell? ⟨b, o, none⟩ = some (.int .i64 x.k) ∧ w.cell? ⟨b, o + 1, none⟩ = some (.int .i64 x.d) ∧ w.cell? ⟨b, o + 2, none⟩ = some (.int .i64 x.i) ∧ w.cell? ⟨b, o + 3, none⟩ = some (.int .i64 x.o.C) ∧ w.cell? ⟨b, o + 4, none⟩ = some (.int .i64 x.o.D) ∧ w.cell? ⟨b, o + 5, none⟩ = some (.int .i64 x.o.I) ∧ w.cell? ⟨b, o + 6, none⟩ = some (.int .i64 x.o.M) ∧ w.cell? ⟨b, o + 7, none⟩ = some (.int .i64 x.o.K) ∧ w.cell? ⟨b, o + 8, none⟩ = some (.int .i64 x.o.U) ∧ w.cell? ⟨b, o + 9, none⟩ = some (.string x.o.s) := ⟨h 0 _ rfl, h 1 _ rfl, h 2 _ rfl, h 3 _ rfl, h 4 _ rfl, h 5 _ rfl, h 6 _ rfl, h 7 _ rfl, h 8 _ rfl, h 9 _ rfl⟩
def enEq2 (a b : En) : Bool := enEq a.k a.d a.i a.o.C a.o.D a.o.I a.o.M a.o.K a.o.U a.o.s b.k b.d b.i b.o.C b.o.D b.o.I b.o.M b.o.K b.o.U b.o.s
theorem enEq2_iff {a b : En} : enEq2 a b = true ↔ a = b := enEq_iff
theorem run_eqEn2 (a b : En) (w : World) : (Op.equalIn 10000 50 (.agg #[.int .i64 a.k, .int .i64 a.d, .int .i64 a.i, .int .i64 a.o.C, .int .i64 a.o.D, .int .i64 a.o.I, .int .i64 a.o.M, .int .i64 a.o.K, .int .i64 a.o.U, .string a.o.s]) (.agg #[.int .i64 b.k, .int .i64 b.d, .int .i64 b.i, .int .i64 b.o.C, .int .i64 b.o.D, .int .i64 b.o.I, .int .i64 b.o.M, .int .i64 b.o.K, .int .i64 b.o.U, .string b.o.s])).run Try.prog w = .ok (enEq2 a b) w := run_eqEn w _ _ _ _ _ _ _ _ _ _ _ _ _ _ _ _ _ _ _ _
set_option maxRecDepth 100000 in
set_option maxHeartbeats 4000000 in
theorem sameGf_iff (A1 A2 : Option Addr) (c1 c2 : Nat) (l m : List Gf) (w : World) (hl : l.length ≤ 50000) (hm : m.length ≤ 50000) (h1 : gfE.Sl w A1 l) (h2 : gfE.Sl w A2 m) :
    Calls Try.prog 14 #[.slice A1 l.length c1, .slice A2 m.length c2] w fun e w' => ∃ b, e = .returned (.bool b) ∧ (b = true ↔ l = m) ∧ Below w.heap.size w w' := by
  by_cases hlen : l.length = m.length
  · rw [← hlen]
    have HL := Lib.hid hlen
    clear hlen
    go_enter Try.func14, Try.ntmps14
    go_wp2
    go_loopw [5] (fun x wr => ∃ k : Nat, k ≤ l.length ∧ x = .int .i64 k ∧ (∀ j (hj : j < k) (ha : j < l.length) (hb : j < m.length), l[j] = m[j]) ∧ Below w.heap.size w wr) (fun x _ => l.length - (intOf x).toNat)
    case atStart => exact ⟨0, Nat.zero_le _, rfl, fun j hj => by omega, Below.refl _ _⟩
    case round =>
      obtain ⟨k, hk, rfl, hall, hnx⟩ := hrel
      by_cases hlt : k < l.length
      · obtain ⟨b1, o1, hA1, hw1, hc1⟩ := h1 (by omega)
        have hlt2 : k < m.length := by have := HL.out; omega
        obtain ⟨b2, o2, hA2, hw2, hc2⟩ := h2 (by omega)
        have hat : gfE.At wr b1 (o1 + k * 5) l[k] := (hc1 k hlt).below hnx hw1
        have hat2 : gfE.At wr b2 (o2 + k * 5) m[k] := (hc2 k hlt2).below hnx hw2
        obtain ⟨p, hp⟩ : ∃ p, l[k] = p := ⟨_, rfl⟩
        obtain ⟨q, hq⟩ : ∃ q, m[k] = q := ⟨_, rfl⟩
        rw [hp] at hat
        rw [hq] at hat2
        have HP := Lib.hid hp
        have HQ := Lib.hid hq
        have HA := Lib.hid hall
        obtain ⟨s0, s1, s2, s3, s4⟩ := gfAt5 hat
        obtain ⟨t0, t1, t2, t3, t4⟩ := gfAt5 hat2
        clear hc1 hc2 hp hq h1 h2 hall hat hat2
        subst hA1 hA2
        have hrun := fun w => run_eqGf p q w
        have hiff := @gfEq_iff p q
        cases heq : gfEq p q with
        | true =>
          have HE := Lib.hid (hiff.1 heq)
          rw [heq] at hrun
          clear hiff heq
          go_wp2
          go_quiet (fail)
          go_wp2
          go_roundw
          case rel =>
            refine ⟨k + 1, by omega, by go_num, fun j hj ha hb => ?_, below_drew hnx _⟩
            by_cases e : j = k
            · subst e; rw [HP.out, HQ.out]; exact HE.out
            · exact HA.out j (by omega) ha hb
          case measure => simp [intOf]; omega
        | false =>
          have HN := Lib.hid (show ¬ p = q from fun e => by rw [hiff.2 e] at heq; cases heq)
          rw [heq] at hrun
          clear hiff heq
          go_wp2
          go_quiet (fail)
          go_wp2
          go_ret
          refine ⟨false, rfl, ⟨fun h => (by cases h), fun h => ?_⟩, below_drew hnx _⟩
          subst h
          exact absurd (HP.out.symm.trans HQ.out) HN.out
      · obtain rfl : k = l.length := by omega
        have HE := Lib.hid (show l = m from List.ext_getElem HL.out fun j h1 h2 => hall j h1 h1 h2)
        clear hall
        go_wp2
        go_ret
        exact ⟨true, rfl, ⟨fun _ => HE.out, fun _ => rfl⟩, hnx⟩
  · have hd : ((l.length : Int) == (m.length : Int)) = false := by rw [beq_eq_false_iff_ne]; omega
    go_enter Try.func14, Try.ntmps14
    go_wp2
    go_ret
    exact ⟨false, rfl, ⟨fun h => (by cases h), fun h => absurd (by rw [h]) hlen⟩, Below.refl _ _⟩
end Go.Proofs.Ytfpgfclmmdihjaa

/- Gifts and states in memory; what the program's functions shall answer (GiftCalls); the document's Newer, Wanted. -/
namespace Go.Proofs.Ytfpgfclmmdihjaa
open Go.RowKit Nam Cod Tre Pst

/-- A state as Thaw makes it: all but its stream's place, its clock, its past and its counts is zero. -/
structure Sw where
  pos : Int
  clock : Int
  y : Pw
  cA : Option Addr
  cc : Nat
  l : List Cn
def Sw.v (x : Sw) : Sn := ⟨x.pos, x.clock, x.y.v, x.l⟩
def Sw.zero : Sw := ⟨0, 0, Pw.zero, none, 0, []⟩
def stE : El Sw where
  e := 65
  k := 26
  c x := [.int .i64 0, .int .i64 0, .int .i64 0, .int .i64 x.pos, .int .i64 x.y.t, .int .i64 x.pos, .slice none 0 0, .int .i64 0, .int .i64 0, .slice none 0 0, .slice none 0 0, .slice none 0 0, .slice none 0 0, .slice none 0 0, .slice x.y.bA x.y.base.length x.y.bc, .int .i64 x.y.t, .slice x.y.oA x.y.ops.length x.y.oc, .slice x.y.uA x.y.us.length x.y.uc, .slice x.y.wA x.y.now.length x.y.wc, .slice x.cA x.l.length x.cc, .int .i64 0, .int .i64 0, .int .i64 x.clock, .int .i64 0, .slice none 0 0, .int .i64 0]
  len _ := rfl
  one p u h := by
    simp only [List.mem_cons, List.not_mem_nil, or_false] at h
    rcases h with rfl | rfl | rfl | rfl | rfl | rfl | rfl | rfl | rfl | rfl | rfl | rfl | rfl | rfl | rfl | rfl | rfl | rfl | rfl | rfl | rfl | rfl | rfl | rfl | rfl | rfl <;> rfl
  pos := by decide
theorem stRow : stE.Row Try.prog := ⟨by kernel_rfl, _, Try.underlying65, rfl⟩
structure Sw.ok (x : Sw) (w : World) : Prop where
  p : PastOk w x.y
  c : SlV cnE w x.cA x.cc x.l
theorem Sw.ok.below {x : Sw} {W w : World} (h : x.ok W) (hb : Below W.heap.size W w) : x.ok w := ⟨h.p.below hb, SlV.below h.c hb⟩
theorem Sw.ok.zero (w : World) : Sw.zero.ok w := ⟨PastOk.zero w, SlV.nil _ _⟩
def CnW (c : Cn) : Prop := i64 c.d ∧ i64 c.i ∧ i64 c.n
def cnsStep (s : ByteArray) (p : Nat) (bad : Bool) (l : List Cn) (q : Nat) (bad' : Bool) : Prop := (isCns s p bad = some (l, q) ∧ bad' = false) ∨ (isCns s p bad = none ∧ l = [] ∧ bad' = true)
structure GiftCalls : Prop where
  freeze : ∀ (pos clock : Int) (y : Pw) (A : Option Addr) (c : Nat) (l : List Cn) (w : World), i64 pos → i64 clock → PInv y.v → y.ops.length ≤ 60 → PastOk w y → l.length ≤ 1000 → (∀ c ∈ l, CnW c) → SlV cnE w A c l → Calls Try.prog 10 #[.int .i64 pos, .int .i64 clock, .agg #[.slice y.bA y.base.length y.bc, .int .i64 y.t, .slice y.oA y.ops.length y.oc, .slice y.uA y.us.length y.uc, .slice y.wA y.now.length y.wc], .slice A l.length c] w fun e w' => e = .returned (.string (snBytes ⟨pos, clock, y.v, l⟩)) ∧ Below w.heap.size w w'
  counts : ∀ (w : World) (b p : Nat) (s : ByteArray) (bad : Bool), s.size ≤ 1000000 → p ≤ s.size → Rd 75 w b s p bad → Calls Try.prog 25 #[.pointer (some ⟨b, 0, none⟩)] w fun e w' => ∃ (A : Option Addr) (c : Nat) (l : List Cn) (q : Nat) (bad' : Bool), e = .returned (.slice A l.length c) ∧ SlV cnE w' A c l ∧ Rd 75 w' b s q bad' ∧ q ≤ s.size ∧ w.grownBy w' (some b) ∧ cnsStep s p bad l q bad'
  thaw : ∀ (s : ByteArray) (w : World), s.size ≤ 1000000 → (∀ V q, isSnapP s = some (V, q) → V.ops.length ≤ 800) → Calls Try.prog 23 #[.string s] w fun e w' => ∃ (x : Sw) (b : Bool), e = .returned (.tuple #[.agg #[.int .i64 0, .int .i64 0, .int .i64 0, .int .i64 x.pos, .int .i64 x.y.t, .int .i64 x.pos, .slice none 0 0, .int .i64 0, .int .i64 0, .slice none 0 0, .slice none 0 0, .slice none 0 0, .slice none 0 0, .slice none 0 0, .slice x.y.bA x.y.base.length x.y.bc, .int .i64 x.y.t, .slice x.y.oA x.y.ops.length x.y.oc, .slice x.y.uA x.y.us.length x.y.uc, .slice x.y.wA x.y.now.length x.y.wc, .slice x.cA x.l.length x.cc, .int .i64 0, .int .i64 0, .int .i64 x.clock, .int .i64 0, .slice none 0 0, .int .i64 0], .bool b]) ∧ x.ok w' ∧ Below w.heap.size w w' ∧ ((isSnap s = some x.v ∧ b = true) ∨ (isSnap s = none ∧ x = Sw.zero ∧ b = false))
  chunks : ∀ (s : ByteArray) (z : Int) (w : World), s.size ≤ 1000000 → i64 z → z ≤ 1099511627776 → Calls Try.prog 21 #[.string s, .int .i64 z] w fun e w' => e = .returned (.int .i64 (chunksV s.size z)) ∧ Below w.heap.size w w'
  cut : ∀ (s : ByteArray) (z i : Int) (r : Rp) (w : World), s.size ≤ 1000000 → i64 z → z ≤ 1099511627776 → i64 i → Calls Try.prog 22 #[.string s, .int .i64 z, .int .i64 i, .agg #[.int .i64 r.d, .int .i64 r.i, .int .i64 r.b, .int .i64 r.t, .int .i64 r.m, .int .i64 r.p, .int .i64 r.c, .int .i64 r.s, .int .i64 r.k]] w fun e w' => ∃ (g : Gf) (b : Bool), cutV s z i r = (g, b) ∧ e = .returned (.tuple #[.agg #[.int .i64 g.d, .int .i64 g.i, .int .i64 g.c, .int .i64 g.t, .string g.s], .bool b]) ∧ Below w.heap.size w w'
  newer : ∀ (a b : Gf) (w : World), Calls Try.prog 17 #[.agg #[.int .i64 a.d, .int .i64 a.i, .int .i64 a.c, .int .i64 a.t, .string a.s], .agg #[.int .i64 b.d, .int .i64 b.i, .int .i64 b.c, .int .i64 b.t, .string b.s]] w fun e w' => e = .returned (.bool (newG a b)) ∧ Below w.heap.size w w'
  merge : ∀ (A : Option Addr) (c : Nat) (l : List Gf) (g : Gf) (w : World), l.length ≤ 1000 → SlV gfE w A c l → Calls Try.prog 12 #[.slice A l.length c, .agg #[.int .i64 g.d, .int .i64 g.i, .int .i64 g.c, .int .i64 g.t, .string g.s]] w fun e w' => ∃ (A' : Option Addr) (c' : Nat), e = .returned (.slice A' (mergeG l g).length c') ∧ SlV gfE w' A' c' (mergeG l g) ∧ Below w.heap.size w w'
  wanted : ∀ (g : Gf) (A : Option Addr) (c : Nat) (l : List Rp) (w : World), l.length ≤ 1000 → SlV rpE w A c l → Calls Try.prog 15 #[.agg #[.int .i64 g.d, .int .i64 g.i, .int .i64 g.c, .int .i64 g.t, .string g.s], .slice A l.length c] w fun e w' => e = .returned (.bool (wantedG g l)) ∧ Below w.heap.size w w'

set_option maxRecDepth 100000 in
set_option maxHeartbeats 2000000 in
theorem refNewerG_any (a b : Gf) (w : World) : Calls Try.prog 18 #[.agg #[.int .i64 a.d, .int .i64 a.i, .int .i64 a.c, .int .i64 a.t, .string a.s], .agg #[.int .i64 b.d, .int .i64 b.i, .int .i64 b.c, .int .i64 b.t, .string b.s]] w fun e w' => e = .returned (.bool (newG a b)) ∧ Below w.heap.size w w' := by
  have hP : gfE.In ((w.alloc (.cells #[.int .i64 a.d, .int .i64 a.i, .int .i64 a.c, .int .i64 a.t, .string a.s] 37)).alloc (.cells #[.int .i64 b.d, .int .i64 b.i, .int .i64 b.c, .int .i64 b.t, .string b.s] 37)) w.heap.size a := (El.In.new (E := gfE) w a _ rfl).alloc _
  have hQ : gfE.In ((w.alloc (.cells #[.int .i64 a.d, .int .i64 a.i, .int .i64 a.c, .int .i64 a.t, .string a.s] 37)).alloc (.cells #[.int .i64 b.d, .int .i64 b.i, .int .i64 b.c, .int .i64 b.t, .string b.s] 37)) (w.heap.size + 1) b := by
    have h := El.In.new (E := gfE) (w.alloc (.cells #[.int .i64 a.d, .int .i64 a.i, .int .i64 a.c, .int .i64 a.t, .string a.s] 37)) b _ rfl
    rw [alloc_size] at h; exact h
  have hB := below_alloc (below_alloc (Below.refl w.heap.size w) (.cells #[.int .i64 a.d, .int .i64 a.i, .int .i64 a.c, .int .i64 a.t, .string a.s] 37)) (.cells #[.int .i64 b.d, .int .i64 b.i, .int .i64 b.c, .int .i64 b.t, .string b.s] 37)
  obtain ⟨_, p1, p2, p3, _⟩ := gfIn5 hP
  obtain ⟨_, q1, q2, q3, _⟩ := gfIn5 hQ
  clear hP hQ
  cases h1 : decide (b.i < a.i) with
  | true =>
    have hv : newG a b = true := by unfold newG; rw [h1]; rfl
    rw [hv]
    clear hv
    go_enter Try.func18, Try.ntmps18
    go_upto_region 1 with fail
    generalize (w.alloc (.cells #[.int .i64 a.d, .int .i64 a.i, .int .i64 a.c, .int .i64 a.t, .string a.s] 37)).alloc (.cells #[.int .i64 b.d, .int .i64 b.i, .int .i64 b.c, .int .i64 b.t, .string b.s] 37) = W at *
    generalize w.heap.size + 1 = n2 at *
    go_wp2_with fail
    go_ret
    exact ⟨rfl, hB⟩
  | false =>
    cases h2 : decide (a.i = b.i) with
    | false =>
      have hv : newG a b = false := by unfold newG; rw [h1, h2]; rfl
      have e2 : (a.i == b.i) = false := h2
      rw [hv]
      clear hv
      go_enter Try.func18, Try.ntmps18
      go_upto_region 1 with fail
      generalize (w.alloc (.cells #[.int .i64 a.d, .int .i64 a.i, .int .i64 a.c, .int .i64 a.t, .string a.s] 37)).alloc (.cells #[.int .i64 b.d, .int .i64 b.i, .int .i64 b.c, .int .i64 b.t, .string b.s] 37) = W at *
      generalize w.heap.size + 1 = n2 at *
      go_wp2_with fail
      go_ret
      exact ⟨rfl, hB⟩
    | true =>
      have e2 : (a.i == b.i) = true := h2
      cases h3 : decide (a.t = 0) with
      | true =>
        have hv : newG a b = true := by unfold newG; rw [h1, h2, h3]; rfl
        have e3 : (a.t == 0) = true := h3
        rw [hv]
        clear hv
        go_enter Try.func18, Try.ntmps18
        go_upto_region 1 with fail
        generalize (w.alloc (.cells #[.int .i64 a.d, .int .i64 a.i, .int .i64 a.c, .int .i64 a.t, .string a.s] 37)).alloc (.cells #[.int .i64 b.d, .int .i64 b.i, .int .i64 b.c, .int .i64 b.t, .string b.s] 37) = W at *
        generalize w.heap.size + 1 = n2 at *
        go_wp2_with fail
        go_ret
        exact ⟨rfl, hB⟩
      | false =>
        have e3 : (a.t == 0) = false := h3
        by_cases h4 : b.t = 0
        · have hv : newG a b = false := by unfold newG; rw [h1, h2, h3, decide_eq_false (show ¬ b.t ≠ 0 from fun h => h h4)]; rfl
          have e4 : (b.t == 0) = true := beq_iff_eq.2 h4
          have e5 : (b.t != 0) = false := by simp [h4]
          have e6 : decide (b.t = 0) = true := decide_eq_true h4
          have e7 : decide (¬ b.t = 0) = false := by simp [h4]
          clear h4
          rw [hv]
          clear hv
          go_enter Try.func18, Try.ntmps18
          go_upto_region 1 with fail
          generalize (w.alloc (.cells #[.int .i64 a.d, .int .i64 a.i, .int .i64 a.c, .int .i64 a.t, .string a.s] 37)).alloc (.cells #[.int .i64 b.d, .int .i64 b.i, .int .i64 b.c, .int .i64 b.t, .string b.s] 37) = W at *
          generalize w.heap.size + 1 = n2 at *
          go_wp2_with fail
          go_ret
          exact ⟨rfl, hB⟩
        · have hv : newG a b = decide (b.c ≤ a.c) := by unfold newG; rw [h1, h2, h3, decide_eq_true (show b.t ≠ 0 from h4)]; rfl
          have e4 : (b.t == 0) = false := beq_eq_false_iff_ne.2 h4
          have e5 : (b.t != 0) = true := by simp [h4]
          have e6 : decide (b.t = 0) = false := decide_eq_false h4
          have e7 : decide (¬ b.t = 0) = true := by simp [h4]
          clear h4
          rw [hv]
          clear hv
          go_enter Try.func18, Try.ntmps18
          go_upto_region 1 with fail
          generalize (w.alloc (.cells #[.int .i64 a.d, .int .i64 a.i, .int .i64 a.c, .int .i64 a.t, .string a.s] 37)).alloc (.cells #[.int .i64 b.d, .int .i64 b.i, .int .i64 b.c, .int .i64 b.t, .string b.s] 37) = W at *
          generalize w.heap.size + 1 = n2 at *
          go_wp2_with fail
          go_ret
          exact ⟨rfl, hB⟩

/-- The parts of outG, each as the walk tells it. -/
theorem any_take {α : Type} (f : α → Bool) (l : List α) (k : Nat) (h : k < l.length) : (l.take (k + 1)).any f = ((l.take k).any f || f l[k]) := by
  rw [List.take_succ_eq_append_getElem h, List.any_append]; simp
set_option maxRecDepth 100000 in
set_option maxHeartbeats 4000000 in
theorem refWantedG_any (g : Gf) (A : Option Addr) (c : Nat) (l : List Rp) (w : World) (hl : l.length ≤ 1000) (hT : rpE.Sl w A l) : Calls Try.prog 16 #[.agg #[.int .i64 g.d, .int .i64 g.i, .int .i64 g.c, .int .i64 g.t, .string g.s], .slice A l.length c] w fun e w' => e = .returned (.bool (wantedG g l)) ∧ Below w.heap.size w w' := by
  have hP : gfE.In (w.alloc (.cells #[.int .i64 g.d, .int .i64 g.i, .int .i64 g.c, .int .i64 g.t, .string g.s] 37)) w.heap.size g := El.In.new (E := gfE) w g _ rfl
  have hB := below_alloc (Below.refl w.heap.size w) (.cells #[.int .i64 g.d, .int .i64 g.i, .int .i64 g.c, .int .i64 g.t, .string g.s] 37)
  have HT := Lib.hid hT
  have HK0 := Lib.hid (show (l.take 0).any (outG g) = false by rw [List.take_zero]; rfl)
  clear hT
  go_enter Try.func16, Try.ntmps16
  go_wp2_with fail
  generalize w.alloc (.cells #[.int .i64 g.d, .int .i64 g.i, .int .i64 g.c, .int .i64 g.t, .string g.s] 37) = W at *
  obtain ⟨n1, hn1⟩ : ∃ n, w.heap.size = n := ⟨_, rfl⟩
  rw [hn1] at hP ⊢
  clear hn1
  go_loopw [5] (fun y wr => ∃ k : Nat, k ≤ l.length ∧ y = .int .i64 k ∧ Hid ((l.take k).any (outG g) = false) ∧ gfE.In wr n1 g ∧ Below w.heap.size w wr) (fun y _ => l.length - (intOf y).toNat)
  case atStart => exact ⟨0, Nat.zero_le _, rfl, HK0, hP, hB⟩
  case round =>
    clear HK0 hP hB
    obtain ⟨k, hk, rfl, HK, hP, hB⟩ := hrel
    by_cases hkl : k < l.length
    · obtain ⟨b, off, eA, hbw, hc⟩ := HT.out (by omega)
      have hx := rpIdxH (cap := c) eA hkl
      have hat : rpE.At wr b (off + k * 9) l[k] := (hc k hkl).below hB hbw
      have HNX := Lib.hid (any_take (outG g) l k hkl)
      have HM := Lib.hid (List.getElem_mem hkl)
      generalize l[k] = x at *
      have hlt := hP.lt
      have hE : rpE.In (wr.alloc (.cells #[.int .i64 x.d, .int .i64 x.i, .int .i64 x.b, .int .i64 x.t, .int .i64 x.m, .int .i64 x.p, .int .i64 x.c, .int .i64 x.s, .int .i64 x.k] 56)) wr.heap.size x := El.In.new (E := rpE) wr x _ rfl
      have hal := below_alloc (Below.refl wr.heap.size wr) (.cells #[.int .i64 x.d, .int .i64 x.i, .int .i64 x.b, .int .i64 x.t, .int .i64 x.m, .int .i64 x.p, .int .i64 x.c, .int .i64 x.s, .int .i64 x.k] 56)
      replace hB := below_then hB hal
      replace hP := hP.below hal
      clear hal hc eA
      go_upto_region 5 with (first | (refine El.load rpRow rfl _ rfl b (off + k * 9) rfl x hat #[.int .i64 x.d, .int .i64 x.i, .int .i64 x.b, .int .i64 x.t, .int .i64 x.m, .int .i64 x.p, .int .i64 x.c, .int .i64 x.s, .int .i64 x.k] rfl ?_) | fail)
      clear hat hx hbw
      generalize wr.alloc (.cells #[.int .i64 x.d, .int .i64 x.i, .int .i64 x.b, .int .i64 x.t, .int .i64 x.m, .int .i64 x.p, .int .i64 x.c, .int .i64 x.s, .int .i64 x.k] 56) = V at *
      generalize wr.heap.size = n at *
      obtain ⟨s0, s1, _, _, s4, _, _, _, s8⟩ := rpIn9 hE
      obtain ⟨p0, p1, p2, p3, _⟩ := gfIn5 hP
      have hO : outG g x = (decide (x.d = g.d) && (decide (g.i < x.i) || (decide (x.i = g.i) && (decide (x.m = 1) || (decide (g.t ≠ 0) && decide (g.c < x.k)))))) := rfl
      cases h1 : decide (x.d = g.d) with
      | false =>
        have e1 : (x.d == g.d) = false := h1
        have HO := Lib.hid (show outG g x = false by rw [hO, h1]; rfl)
        clear hO
        have HNV := Lib.hid (show (l.take (k + 1)).any (outG g) = false by rw [HNX.out, HK.out, HO.out]; rfl)
        clear hE
        go_wp2_with fail
        exact ⟨⟨k + 1, by omega, by go_num, HNV, hP, hB⟩, by simp [intOf]; omega⟩
      | true =>
        have e1 : (x.d == g.d) = true := h1
        cases h2 : decide (g.i < x.i) with
        | true =>
          have HO := Lib.hid (show outG g x = true by rw [hO, h1, h2]; rfl)
          clear hO
          have HV := Lib.hid (show wantedG g l = false by
            have h : l.any (outG g) = true := List.any_eq_true.2 ⟨x, HM.out, HO.out⟩
            unfold wantedG; rw [h]; rfl)
          clear hE
          go_wp2_with fail
          go_ret
          exact ⟨by rw [HV.out]; rfl, hB⟩
        | false =>
          cases h3 : decide (x.i = g.i) with
          | false =>
            have e3 : (x.i == g.i) = false := h3
            have HO := Lib.hid (show outG g x = false by rw [hO, h1, h2, h3]; rfl)
            clear hO
            have HNV := Lib.hid (show (l.take (k + 1)).any (outG g) = false by rw [HNX.out, HK.out, HO.out]; rfl)
            clear hE
            go_wp2_with fail
            exact ⟨⟨k + 1, by omega, by go_num, HNV, hP, hB⟩, by simp [intOf]; omega⟩
          | true =>
            have e3 : (x.i == g.i) = true := h3
            cases h4 : decide (x.m = 1) with
            | true =>
              have e4 : (x.m == 1) = true := h4
              have HO := Lib.hid (show outG g x = true by rw [hO, h1, h2, h3, h4]; rfl)
              clear hO
              have HV := Lib.hid (show wantedG g l = false by
                have h : l.any (outG g) = true := List.any_eq_true.2 ⟨x, HM.out, HO.out⟩
                unfold wantedG; rw [h]; rfl)
              clear hE
              go_wp2_with fail
              go_ret
              exact ⟨by rw [HV.out]; rfl, hB⟩
            | false =>
              have e4 : (x.m == 1) = false := h4
              by_cases h5 : g.t = 0
              · have HO := Lib.hid (show outG g x = false by rw [hO, h1, h2, h3, h4, decide_eq_false (show ¬ g.t ≠ 0 from fun h => h h5)]; rfl)
                have f1 : (g.t == 0) = true := beq_iff_eq.2 h5
                have f2 : (g.t != 0) = false := by simp [h5]
                have f3 : decide (g.t = 0) = true := decide_eq_true h5
                have f4 : decide (¬ g.t = 0) = false := by simp [h5]
                clear h5 hO
                have HNV := Lib.hid (show (l.take (k + 1)).any (outG g) = false by rw [HNX.out, HK.out, HO.out]; rfl)
                clear hE
                go_wp2_with fail
                exact ⟨⟨k + 1, by omega, by go_num, HNV, hP, hB⟩, by simp [intOf]; omega⟩
              · have f1 : (g.t == 0) = false := beq_eq_false_iff_ne.2 h5
                have f2 : (g.t != 0) = true := by simp [h5]
                have f3 : decide (g.t = 0) = false := decide_eq_false h5
                have f4 : decide (¬ g.t = 0) = true := by simp [h5]
                have HN5 := Lib.hid (show g.t ≠ 0 from h5)
                clear h5
                cases h6 : decide (g.c < x.k) with
                | true =>
                  have HO := Lib.hid (show outG g x = true by rw [hO, h1, h2, h3, h4, decide_eq_true HN5.out, h6]; rfl)
                  clear hO
                  have HV := Lib.hid (show wantedG g l = false by
                    have h : l.any (outG g) = true := List.any_eq_true.2 ⟨x, HM.out, HO.out⟩
                    unfold wantedG; rw [h]; rfl)
                  clear hE
                  go_wp2_with fail
                  go_ret
                  exact ⟨by rw [HV.out]; rfl, hB⟩
                | false =>
                  have HO := Lib.hid (show outG g x = false by rw [hO, h1, h2, h3, h4, decide_eq_true HN5.out, h6]; rfl)
                  clear hO
                  have HNV := Lib.hid (show (l.take (k + 1)).any (outG g) = false by rw [HNX.out, HK.out, HO.out]; rfl)
                  clear hE
                  go_wp2_with fail
                  exact ⟨⟨k + 1, by omega, by go_num, HNV, hP, hB⟩, by simp [intOf]; omega⟩
    · obtain rfl : k = l.length := by omega
      have HV := Lib.hid (show wantedG g l = true by have h := HK.out; rw [List.take_length] at h; unfold wantedG; rw [h]; rfl)
      go_wp2_with fail
      go_ret
      exact ⟨by rw [HV.out]; rfl, hB⟩
end Go.Proofs.Ytfpgfclmmdihjaa

/- The document's examples of layer 17, given the program's calls. -/
namespace Go.Proofs.Ytfpgfclmmdihjaa
open Go.RowKit Nam Cod Tre Pst

def P3 : Pv := ⟨[], 3, [], [], []⟩
def Y3 : Pw := ⟨none, 0, [], 3, none, 0, [], none, 0, [], none, 0, []⟩
theorem P3_inv : PInv P3 where
  tree := rfl
  t0 := by decide
  t1 := by decide
  ok := fun m h => by cases h
  gt := fun m h => by cases h
  ris := List.Pairwise.nil
  un := rfl
  nw := rfl
def c112 : Cn := ⟨1, 1, 2⟩
def sn79 : Sn := ⟨7, 9, P3, [c112]⟩
theorem sn79_is : isSnap (snBytes sn79) = some sn79 := snap_is sn79 P3_inv (by decide) ⟨by decide, by decide⟩ ⟨by decide, by decide⟩ (by decide) (by decide) (by decide)
theorem sn79_more : isSnap (snBytes sn79 ++ ⟨#[120]⟩) = none := snap_more sn79 ⟨#[120]⟩ (by decide) P3_inv (by decide) (by unfold i64; decide) (by unfold i64; decide) (by decide) (by decide) (by decide)
theorem sn79_few (Z : ByteArray) : ∀ V q, isSnapP (snBytes sn79 ++ Z) = some (V, q) → V.ops.length ≤ 800 := snap_few sn79 Z P3_inv (by decide) (by unfold i64; decide) (by unfold i64; decide)
theorem sn79_few0 : ∀ V q, isSnapP (snBytes sn79) = some (V, q) → V.ops.length ≤ 800 := by
  have h := sn79_few ⟨#[]⟩
  rw [show snBytes sn79 ++ ⟨#[]⟩ = snBytes sn79 from L_inj (by rw [L_app]; simp [L])] at h
  exact h
theorem sn79_le : (snBytes sn79).size ≤ 200000 := by
  have h1 := tree_bytes P3_inv.tree
  have b1 := bytesOf_le10 (n := 7) (by unfold i64; decide)
  have b2 := bytesOf_le10 (n := 9) (by unfold i64; decide)
  have b3 := bytesOf_le10 (n := 3) (by unfold i64; decide)
  have b4 := bytesOf_le10 (n := 0) (by unfold i64; decide)
  have b5 := bytesOf_le10 (n := 1) (by unfold i64; decide)
  have b6 := bytesOf_le10 (n := 2) (by unfold i64; decide)
  have e1 : (pastBytes P3).size = (treeBytes P3.base).size + (bytesOf 3).size + (bytesOf 0).size := by
    unfold pastBytes headV
    simp only [ByteArray.size_append]
    show _ + _ + _ + (ByteArray.mk #[]).size = _
    rfl
  have e2 : (cnK.part [c112]).size = (bytesOf 1).size + ((bytesOf 1).size + (bytesOf 1).size + (bytesOf 2).size) := by
    unfold Kd.part
    simp only [ByteArray.size_append]
    show _ + (cnBytes c112 ++ ⟨#[]⟩).size = _
    rw [ByteArray.size_append]
    unfold cnBytes
    simp only [ByteArray.size_append]
    rfl
  have e3 : (snBytes sn79).size = (bytesOf 7).size + (bytesOf 9).size + (pastBytes P3).size + (cnK.part [c112]).size := by
    unfold snBytes; simp only [ByteArray.size_append]; rfl
  omega
def g342 : Gf := ⟨3, 4, 2, 3, ⟨#[101]⟩⟩
def g341 : Gf := ⟨3, 4, 1, 3, ⟨#[]⟩⟩
def rp34 (i m k : Int) : Rp := ⟨3, i, 0, 0, m, 0, 0, 0, k⟩
theorem cut_yes : cutV ⟨#[97, 98, 99, 100, 101]⟩ 2 2 (rp34 4 0 0) = (g342, true) := by
  have e : (ByteArray.mk #[97, 98, 99, 100, 101]).extract 4 5 = ⟨#[101]⟩ := by decide +kernel
  unfold cutV g342
  rw [if_pos (by decide), ← e]
  rfl
theorem cut_no : cutV ⟨#[97, 98, 99, 100, 101]⟩ 2 3 zeroRp = (zeroGf, false) := rfl
theorem merge_ex : mergeG (mergeG [] g342) g341 = [g342] := rfl
theorem wanted_no : wantedG g342 [rp34 5 0 0] = false := rfl
theorem wanted_yes : wantedG g342 [rp34 4 2 2] = true := rfl
theorem slOne {α : Type} {E : El α} (w : World) (x : α) (cs : Array Value) (hc : cs = (E.c x).toArray) : SlV E (w.alloc (.cells cs E.e)) (some ⟨w.heap.size, 0, none⟩) 1 [x] :=
  ⟨(El.In.new (E := E) w x _ hc).sl, (fun e => by cases e), Nat.le_refl _⟩
theorem st_zero : (Try.prog.info? 65).map (·.zero) = some (some (.agg #[.int .i64 0, .int .i64 0, .int .i64 0, .int .i64 0, .int .i64 0, .int .i64 0, .slice none 0 0, .int .i64 0, .int .i64 0, .slice none 0 0, .slice none 0 0, .slice none 0 0, .slice none 0 0, .slice none 0 0, .slice none 0 0, .int .i64 0, .slice none 0 0, .slice none 0 0, .slice none 0 0, .slice none 0 0, .int .i64 0, .int .i64 0, .int .i64 0, .int .i64 0, .slice none 0 0, .int .i64 0])) := by kernel_rfl
/-- A state laid, in one step. -/
theorem wpList_alloc_st {ops : Array Oper} {rest : List Oper} {o : Oper} {a : Act} {w : World} {Q : Exit → Act → World → Prop} (hgd : o.guard = none) (ho : o.op = .alloc 65)
    (h : wpList Try.prog ops Q rest (a.put o.dst (.pointer (some ⟨w.heap.size, 0, none⟩))) (w.alloc (.cells #[.int .i64 0, .int .i64 0, .int .i64 0, .int .i64 0, .int .i64 0, .int .i64 0, .slice none 0 0, .int .i64 0, .int .i64 0, .slice none 0 0, .slice none 0 0, .slice none 0 0, .slice none 0 0, .slice none 0 0, .slice none 0 0, .int .i64 0, .slice none 0 0, .slice none 0 0, .slice none 0 0, .slice none 0 0, .int .i64 0, .int .i64 0, .int .i64 0, .int .i64 0, .slice none 0 0, .int .i64 0] 65))) : wpList Try.prog ops Q (o :: rest) a w :=
  wpList_plain hgd fun _ hK => by
    have hR := st_zero
    cases hq : Try.prog.info? 65 with
    | none => simp [hq] at hR
    | some inf =>
      have hinf : inf.zero = some (.agg #[.int .i64 0, .int .i64 0, .int .i64 0, .int .i64 0, .int .i64 0, .int .i64 0, .slice none 0 0, .int .i64 0, .int .i64 0, .slice none 0 0, .slice none 0 0, .slice none 0 0, .slice none 0 0, .slice none 0 0, .slice none 0 0, .int .i64 0, .slice none 0 0, .slice none 0 0, .slice none 0 0, .slice none 0 0, .int .i64 0, .int .i64 0, .int .i64 0, .int .i64 0, .slice none 0 0, .int .i64 0]) := by simpa [hq] using hR
      have hv : (Instr.alloc 65 true (.tuple #[])).run Try.prog w = .ok (.pointer (some ⟨w.heap.size, 0, none⟩)) (w.alloc (.cells #[.int .i64 0, .int .i64 0, .int .i64 0, .int .i64 0, .int .i64 0, .int .i64 0, .slice none 0 0, .int .i64 0, .int .i64 0, .slice none 0 0, .slice none 0 0, .slice none 0 0, .slice none 0 0, .slice none 0 0, .slice none 0 0, .int .i64 0, .slice none 0 0, .slice none 0 0, .slice none 0 0, .slice none 0 0, .int .i64 0, .int .i64 0, .int .i64 0, .int .i64 0, .slice none 0 0, .int .i64 0] 65)) := by
        simp [Instr.alloc, zeroValue, typeInfo, hq, hinf, newVar, newRow, newObj, Value.cells]
        rfl
      unfold Oper.wp execOp
      simp only [ho, hv, Sem.run_bind, Sem.run_pure, Result.andThen_ok]
      exact hK _ _ h
set_option maxRecDepth 100000 in
set_option maxHeartbeats 8000000 in
theorem awake17_any (H : GiftCalls) (w : World) : Calls Try.prog 9 #[] w fun e w' => e = .returned (.bool true) ∧ Below w.heap.size w w' := by
  have hc1 : SlV cnE (w.alloc (.cells #[.int .i64 1, .int .i64 1, .int .i64 2] 69)) (some ⟨w.heap.size, 0, none⟩) 1 [c112] := slOne w c112 _ rfl
  have hB := below_alloc (Below.refl w.heap.size w) (.cells #[.int .i64 1, .int .i64 1, .int .i64 2] 69)
  have C0 := Lib.hid (show Calls Try.prog 10 #[.int .i64 7, .int .i64 9, .agg #[.slice none 0 0, .int .i64 3, .slice none 0 0, .slice none 0 0, .slice none 0 0], .slice (some ⟨w.heap.size, 0, none⟩) 1 1] (w.alloc (.cells #[.int .i64 1, .int .i64 1, .int .i64 2] 69)) fun e w' => e = .returned (.string (snBytes sn79)) ∧ Below (w.alloc (.cells #[.int .i64 1, .int .i64 1, .int .i64 2] 69)).heap.size (w.alloc (.cells #[.int .i64 1, .int .i64 1, .int .i64 2] 69)) w' from
    H.freeze 7 9 Y3 (some ⟨w.heap.size, 0, none⟩) 1 [c112] _ (by unfold i64; decide) (by unfold i64; decide) P3_inv (by decide) ⟨SlV.nil _ _, SlV.nil _ _, SlV.nil _ _, SlV.nil _ _⟩ (by decide) (by
      intro c hc
      rw [List.mem_singleton] at hc
      subst hc
      unfold CnW i64; decide) hc1)
  have hX1 := sn79_is
  have hX2 := sn79_more
  have hX3 := sn79_le
  have hX4 := Lib.hid (sn79_few ⟨#[120]⟩)
  have hX5 := Lib.hid sn79_few0
  generalize snBytes sn79 = X at *
  have C1 := Lib.hid (fun wx => H.thaw X wx (by omega) hX5.out)
  have C2 := Lib.hid (fun wx => H.thaw (X ++ ⟨#[120]⟩) wx (by rw [ByteArray.size_append]; show X.size + 1 ≤ _; omega) hX4.out)
  have hy : ¬ 9223372036854775807 < X.size + 1 := by omega
  clear hc1
  go_enter Try.func9, Try.ntmps9
  go_wp2_with fail
  refine C0.out.mono ?_
  rintro e w1 ⟨rfl, hb1⟩
  replace hB := below_then hB hb1
  clear hb1 C0
  go_wp2_with fail
  refine (C1.out _).mono ?_
  rintro e w2 ⟨x, bx, rfl, _, hb2, hx⟩
  replace hB := below_then hB hb2
  rw [hX1] at hx
  obtain ⟨hxe, hbx⟩ : some sn79 = some x.v ∧ bx = true := by
    rcases hx with ⟨h1, h2⟩ | ⟨h1, _, _⟩
    · exact ⟨h1, h2⟩
    · cases h1
  subst hbx
  clear hx
  injection hxe with hx
  have HX0 := Lib.hid (show x.pos = 7 from (congrArg Sn.pos hx).symm)
  have HX1 := Lib.hid (show x.clock = 9 from (congrArg Sn.clock hx).symm)
  have HX2 := Lib.hid (show x.y.t = 3 from (congrArg (fun s => s.p.t) hx).symm)
  have HX3 := Lib.hid (show x.l.length = 1 from congrArg List.length (congrArg Sn.l hx).symm)
  clear hx hX1 C1 hb2
  have hZ : stE.In (w2.alloc (.cells #[.int .i64 0, .int .i64 0, .int .i64 0, .int .i64 0, .int .i64 0, .int .i64 0, .slice none 0 0, .int .i64 0, .int .i64 0, .slice none 0 0, .slice none 0 0, .slice none 0 0, .slice none 0 0, .slice none 0 0, .slice none 0 0, .int .i64 0, .slice none 0 0, .slice none 0 0, .slice none 0 0, .slice none 0 0, .int .i64 0, .int .i64 0, .int .i64 0, .int .i64 0, .slice none 0 0, .int .i64 0] 65)) w2.heap.size Sw.zero := El.In.new (E := stE) w2 Sw.zero _ rfl
  have hal := below_alloc (Below.refl w2.heap.size w2) (.cells #[.int .i64 0, .int .i64 0, .int .i64 0, .int .i64 0, .int .i64 0, .int .i64 0, .slice none 0 0, .int .i64 0, .int .i64 0, .slice none 0 0, .slice none 0 0, .slice none 0 0, .slice none 0 0, .slice none 0 0, .slice none 0 0, .int .i64 0, .slice none 0 0, .slice none 0 0, .slice none 0 0, .slice none 0 0, .int .i64 0, .int .i64 0, .int .i64 0, .int .i64 0, .slice none 0 0, .int .i64 0] 65)
  have hw2 := hB.size
  replace hB := below_then hB hal
  clear hal
  go_upto_region 3 with (first | (refine wpList_alloc_st rfl rfl ?_) | (refine El.store stRow rfl _ _ rfl w2.heap.size x #[.int .i64 0, .int .i64 0, .int .i64 0, .int .i64 x.pos, .int .i64 x.y.t, .int .i64 x.pos, .slice none 0 0, .int .i64 0, .int .i64 0, .slice none 0 0, .slice none 0 0, .slice none 0 0, .slice none 0 0, .slice none 0 0, .slice x.y.bA x.y.base.length x.y.bc, .int .i64 x.y.t, .slice x.y.oA x.y.ops.length x.y.oc, .slice x.y.uA x.y.us.length x.y.uc, .slice x.y.wA x.y.now.length x.y.wc, .slice x.cA x.l.length x.cc, .int .i64 0, .int .i64 0, .int .i64 x.clock, .int .i64 0, .slice none 0 0, .int .i64 0] rfl rfl rfl Sw.zero hZ ?_) | fail)
  have hE : stE.In ((w2.alloc (.cells #[.int .i64 0, .int .i64 0, .int .i64 0, .int .i64 0, .int .i64 0, .int .i64 0, .slice none 0 0, .int .i64 0, .int .i64 0, .slice none 0 0, .slice none 0 0, .slice none 0 0, .slice none 0 0, .slice none 0 0, .slice none 0 0, .int .i64 0, .slice none 0 0, .slice none 0 0, .slice none 0 0, .slice none 0 0, .int .i64 0, .int .i64 0, .int .i64 0, .int .i64 0, .slice none 0 0, .int .i64 0] 65)).setRow w2.heap.size #[.int .i64 0, .int .i64 0, .int .i64 0, .int .i64 x.pos, .int .i64 x.y.t, .int .i64 x.pos, .slice none 0 0, .int .i64 0, .int .i64 0, .slice none 0 0, .slice none 0 0, .slice none 0 0, .slice none 0 0, .slice none 0 0, .slice x.y.bA x.y.base.length x.y.bc, .int .i64 x.y.t, .slice x.y.oA x.y.ops.length x.y.oc, .slice x.y.uA x.y.us.length x.y.uc, .slice x.y.wA x.y.now.length x.y.wc, .slice x.cA x.l.length x.cc, .int .i64 0, .int .i64 0, .int .i64 x.clock, .int .i64 0, .slice none 0 0, .int .i64 0]) w2.heap.size x := hZ.set x _ rfl
  replace hB := below_setRow hB hw2 #[.int .i64 0, .int .i64 0, .int .i64 0, .int .i64 x.pos, .int .i64 x.y.t, .int .i64 x.pos, .slice none 0 0, .int .i64 0, .int .i64 0, .slice none 0 0, .slice none 0 0, .slice none 0 0, .slice none 0 0, .slice none 0 0, .slice x.y.bA x.y.base.length x.y.bc, .int .i64 x.y.t, .slice x.y.oA x.y.ops.length x.y.oc, .slice x.y.uA x.y.us.length x.y.uc, .slice x.y.wA x.y.now.length x.y.wc, .slice x.cA x.l.length x.cc, .int .i64 0, .int .i64 0, .int .i64 x.clock, .int .i64 0, .slice none 0 0, .int .i64 0]
  clear hZ
  generalize (w2.alloc (.cells #[.int .i64 0, .int .i64 0, .int .i64 0, .int .i64 0, .int .i64 0, .int .i64 0, .slice none 0 0, .int .i64 0, .int .i64 0, .slice none 0 0, .slice none 0 0, .slice none 0 0, .slice none 0 0, .slice none 0 0, .slice none 0 0, .int .i64 0, .slice none 0 0, .slice none 0 0, .slice none 0 0, .slice none 0 0, .int .i64 0, .int .i64 0, .int .i64 0, .int .i64 0, .slice none 0 0, .int .i64 0] 65)).setRow w2.heap.size #[.int .i64 0, .int .i64 0, .int .i64 0, .int .i64 x.pos, .int .i64 x.y.t, .int .i64 x.pos, .slice none 0 0, .int .i64 0, .int .i64 0, .slice none 0 0, .slice none 0 0, .slice none 0 0, .slice none 0 0, .slice none 0 0, .slice x.y.bA x.y.base.length x.y.bc, .int .i64 x.y.t, .slice x.y.oA x.y.ops.length x.y.oc, .slice x.y.uA x.y.us.length x.y.uc, .slice x.y.wA x.y.now.length x.y.wc, .slice x.cA x.l.length x.cc, .int .i64 0, .int .i64 0, .int .i64 x.clock, .int .i64 0, .slice none 0 0, .int .i64 0] = V3 at *
  generalize w2.heap.size = n2 at *
  go_wp2_with fail
  refine (C2.out _).mono ?_
  rintro e w3 ⟨x2, b2, rfl, _, hb3, hx⟩
  replace hE := hE.below hb3
  replace hB := below_then hB hb3
  have hbx : b2 = false := by
    rw [hX2] at hx
    rcases hx with ⟨h1, _⟩ | ⟨_, _, h2⟩
    · cases h1
    · exact h2
  subst hbx
  clear hx hX2 C2 hb3
  have hZ : stE.In (w3.alloc (.cells #[.int .i64 0, .int .i64 0, .int .i64 0, .int .i64 0, .int .i64 0, .int .i64 0, .slice none 0 0, .int .i64 0, .int .i64 0, .slice none 0 0, .slice none 0 0, .slice none 0 0, .slice none 0 0, .slice none 0 0, .slice none 0 0, .int .i64 0, .slice none 0 0, .slice none 0 0, .slice none 0 0, .slice none 0 0, .int .i64 0, .int .i64 0, .int .i64 0, .int .i64 0, .slice none 0 0, .int .i64 0] 65)) w3.heap.size Sw.zero := El.In.new (E := stE) w3 Sw.zero _ rfl
  have hal := below_alloc (Below.refl w3.heap.size w3) (.cells #[.int .i64 0, .int .i64 0, .int .i64 0, .int .i64 0, .int .i64 0, .int .i64 0, .slice none 0 0, .int .i64 0, .int .i64 0, .slice none 0 0, .slice none 0 0, .slice none 0 0, .slice none 0 0, .slice none 0 0, .slice none 0 0, .int .i64 0, .slice none 0 0, .slice none 0 0, .slice none 0 0, .slice none 0 0, .int .i64 0, .int .i64 0, .int .i64 0, .int .i64 0, .slice none 0 0, .int .i64 0] 65)
  have hw3 := hB.size
  have hne : n2 ≠ w3.heap.size := by have := hE.lt; omega
  replace hE := hE.below hal
  replace hB := below_then hB hal
  clear hal
  go_upto_region 4 with (first | (refine wpList_alloc_st rfl rfl ?_) | (refine El.store stRow rfl _ _ rfl w3.heap.size x2 #[.int .i64 0, .int .i64 0, .int .i64 0, .int .i64 x2.pos, .int .i64 x2.y.t, .int .i64 x2.pos, .slice none 0 0, .int .i64 0, .int .i64 0, .slice none 0 0, .slice none 0 0, .slice none 0 0, .slice none 0 0, .slice none 0 0, .slice x2.y.bA x2.y.base.length x2.y.bc, .int .i64 x2.y.t, .slice x2.y.oA x2.y.ops.length x2.y.oc, .slice x2.y.uA x2.y.us.length x2.y.uc, .slice x2.y.wA x2.y.now.length x2.y.wc, .slice x2.cA x2.l.length x2.cc, .int .i64 0, .int .i64 0, .int .i64 x2.clock, .int .i64 0, .slice none 0 0, .int .i64 0] rfl rfl rfl Sw.zero hZ ?_) | fail)
  replace hE := hE.rowN w3.heap.size #[.int .i64 0, .int .i64 0, .int .i64 0, .int .i64 x2.pos, .int .i64 x2.y.t, .int .i64 x2.pos, .slice none 0 0, .int .i64 0, .int .i64 0, .slice none 0 0, .slice none 0 0, .slice none 0 0, .slice none 0 0, .slice none 0 0, .slice x2.y.bA x2.y.base.length x2.y.bc, .int .i64 x2.y.t, .slice x2.y.oA x2.y.ops.length x2.y.oc, .slice x2.y.uA x2.y.us.length x2.y.uc, .slice x2.y.wA x2.y.now.length x2.y.wc, .slice x2.cA x2.l.length x2.cc, .int .i64 0, .int .i64 0, .int .i64 x2.clock, .int .i64 0, .slice none 0 0, .int .i64 0] hne
  replace hB := below_setRow hB hw3 #[.int .i64 0, .int .i64 0, .int .i64 0, .int .i64 x2.pos, .int .i64 x2.y.t, .int .i64 x2.pos, .slice none 0 0, .int .i64 0, .int .i64 0, .slice none 0 0, .slice none 0 0, .slice none 0 0, .slice none 0 0, .slice none 0 0, .slice x2.y.bA x2.y.base.length x2.y.bc, .int .i64 x2.y.t, .slice x2.y.oA x2.y.ops.length x2.y.oc, .slice x2.y.uA x2.y.us.length x2.y.uc, .slice x2.y.wA x2.y.now.length x2.y.wc, .slice x2.cA x2.l.length x2.cc, .int .i64 0, .int .i64 0, .int .i64 x2.clock, .int .i64 0, .slice none 0 0, .int .i64 0]
  clear hZ hne
  generalize (w3.alloc (.cells #[.int .i64 0, .int .i64 0, .int .i64 0, .int .i64 0, .int .i64 0, .int .i64 0, .slice none 0 0, .int .i64 0, .int .i64 0, .slice none 0 0, .slice none 0 0, .slice none 0 0, .slice none 0 0, .slice none 0 0, .slice none 0 0, .int .i64 0, .slice none 0 0, .slice none 0 0, .slice none 0 0, .slice none 0 0, .int .i64 0, .int .i64 0, .int .i64 0, .int .i64 0, .slice none 0 0, .int .i64 0] 65)).setRow w3.heap.size #[.int .i64 0, .int .i64 0, .int .i64 0, .int .i64 x2.pos, .int .i64 x2.y.t, .int .i64 x2.pos, .slice none 0 0, .int .i64 0, .int .i64 0, .slice none 0 0, .slice none 0 0, .slice none 0 0, .slice none 0 0, .slice none 0 0, .slice x2.y.bA x2.y.base.length x2.y.bc, .int .i64 x2.y.t, .slice x2.y.oA x2.y.ops.length x2.y.oc, .slice x2.y.uA x2.y.us.length x2.y.uc, .slice x2.y.wA x2.y.now.length x2.y.wc, .slice x2.cA x2.l.length x2.cc, .int .i64 0, .int .i64 0, .int .i64 x2.clock, .int .i64 0, .slice none 0 0, .int .i64 0] = V4 at *
  generalize w3.heap.size = n4 at *
  have C3 := Lib.hid (fun wx => (show Calls Try.prog 22 #[.string ⟨#[97, 98, 99, 100, 101]⟩, .int .i64 2, .int .i64 2, .agg #[.int .i64 3, .int .i64 4, .int .i64 0, .int .i64 0, .int .i64 0, .int .i64 0, .int .i64 0, .int .i64 0, .int .i64 0]] wx fun e w' => e = .returned (.tuple #[.agg #[.int .i64 3, .int .i64 4, .int .i64 2, .int .i64 3, .string ⟨#[101]⟩], .bool true]) ∧ Below wx.heap.size wx w' from
    (H.cut ⟨#[97, 98, 99, 100, 101]⟩ 2 2 (rp34 4 0 0) wx (by decide) (by unfold i64; decide) (by decide) (by unfold i64; decide)).mono (by
      rintro e w' ⟨g, b, he, rfl, hb⟩
      rw [cut_yes] at he
      injection he with e1 e2
      subst e1 e2
      exact ⟨rfl, hb⟩)))
  have C4 := Lib.hid (fun wx => (show Calls Try.prog 22 #[.string ⟨#[97, 98, 99, 100, 101]⟩, .int .i64 2, .int .i64 3, .agg #[.int .i64 0, .int .i64 0, .int .i64 0, .int .i64 0, .int .i64 0, .int .i64 0, .int .i64 0, .int .i64 0, .int .i64 0]] wx fun e w' => e = .returned (.tuple #[.agg #[.int .i64 0, .int .i64 0, .int .i64 0, .int .i64 0, .string ⟨#[]⟩], .bool false]) ∧ Below wx.heap.size wx w' from
    (H.cut ⟨#[97, 98, 99, 100, 101]⟩ 2 3 zeroRp wx (by decide) (by unfold i64; decide) (by decide) (by unfold i64; decide)).mono (by
      rintro e w' ⟨g, b, he, rfl, hb⟩
      rw [cut_no] at he
      injection he with e1 e2
      subst e1 e2
      exact ⟨rfl, hb⟩)))
  go_wp2_with fail
  refine (C3.out _).mono ?_
  rintro e w5 ⟨rfl, hb5⟩
  replace hE := hE.below hb5
  replace hB := below_then hB hb5
  clear hb5 C3
  have hK : gfE.In (w5.alloc (.cells #[.int .i64 3, .int .i64 4, .int .i64 2, .int .i64 3, .string ⟨#[101]⟩] 37)) w5.heap.size g342 := El.In.new (E := gfE) w5 g342 _ rfl
  have hal := below_alloc (Below.refl w5.heap.size w5) (.cells #[.int .i64 3, .int .i64 4, .int .i64 2, .int .i64 3, .string ⟨#[101]⟩] 37)
  replace hE := hE.below hal
  replace hB := below_then hB hal
  clear hal
  go_upto_region 5 with fail
  generalize w5.alloc (.cells #[.int .i64 3, .int .i64 4, .int .i64 2, .int .i64 3, .string ⟨#[101]⟩] 37) = V6 at *
  generalize w5.heap.size = n6 at *
  go_wp2_with fail
  refine (C4.out _).mono ?_
  rintro e w7 ⟨rfl, hb7⟩
  replace hE := hE.below hb7
  replace hK := hK.below hb7
  replace hB := below_then hB hb7
  clear hb7 C4
  have hal := below_alloc (Below.refl w7.heap.size w7) (.cells #[.int .i64 0, .int .i64 0, .int .i64 0, .int .i64 0, .string ⟨#[]⟩] 37)
  replace hE := hE.below hal
  replace hK := hK.below hal
  replace hB := below_then hB hal
  clear hal
  go_upto_region 6 with fail
  generalize w7.alloc (.cells #[.int .i64 0, .int .i64 0, .int .i64 0, .int .i64 0, .string ⟨#[]⟩] 37) = V8 at *
  generalize w7.heap.size = n8 at *
  have M1 := Lib.hid (fun wx => (show Calls Try.prog 12 #[.slice none 0 0, .agg #[.int .i64 3, .int .i64 4, .int .i64 2, .int .i64 3, .string ⟨#[101]⟩]] wx fun e w' => ∃ (A : Option Addr) (c : Nat), e = .returned (.slice A 1 c) ∧ SlV gfE w' A c [g342] ∧ Below wx.heap.size wx w' from H.merge none 0 [] g342 wx (by decide) (SlV.nil _ _)))
  have M2 := Lib.hid (fun wx A c (h : SlV gfE wx A c [g342]) => (show Calls Try.prog 12 #[.slice A 1 c, .agg #[.int .i64 3, .int .i64 4, .int .i64 1, .int .i64 3, .string ⟨#[]⟩]] wx fun e w' => ∃ (A : Option Addr) (c : Nat), e = .returned (.slice A 1 c) ∧ SlV gfE w' A c [g342] ∧ Below wx.heap.size wx w' from H.merge A c [g342] g341 wx (by decide) h))
  have C5 := Lib.hid (fun wx => (show Calls Try.prog 21 #[.string ⟨#[]⟩, .int .i64 5] wx fun e w' => e = .returned (.int .i64 1) ∧ Below wx.heap.size wx w' from H.chunks ⟨#[]⟩ 5 wx (by decide) (by unfold i64; decide) (by decide)))
  have C6 := Lib.hid (fun wx => (show Calls Try.prog 15 #[.agg #[.int .i64 3, .int .i64 4, .int .i64 2, .int .i64 3, .string ⟨#[101]⟩], .slice (some ⟨wx.heap.size, 0, none⟩) 1 1] (wx.alloc (.cells #[.int .i64 3, .int .i64 5, .int .i64 0, .int .i64 0, .int .i64 0, .int .i64 0, .int .i64 0, .int .i64 0, .int .i64 0] 56)) fun e w' => e = .returned (.bool false) ∧ Below wx.heap.size wx w' from
    (H.wanted g342 (some ⟨wx.heap.size, 0, none⟩) 1 [rp34 5 0 0] _ (by decide) (slOne wx (rp34 5 0 0) _ rfl)).mono (by
      rintro e w' ⟨rfl, hb⟩
      exact ⟨rfl, below_then (below_alloc (Below.refl _ _) _) hb⟩)))
  have C7 := Lib.hid (fun wx => (show Calls Try.prog 15 #[.agg #[.int .i64 3, .int .i64 4, .int .i64 2, .int .i64 3, .string ⟨#[101]⟩], .slice (some ⟨wx.heap.size, 0, none⟩) 1 1] (wx.alloc (.cells #[.int .i64 3, .int .i64 4, .int .i64 0, .int .i64 0, .int .i64 2, .int .i64 0, .int .i64 0, .int .i64 0, .int .i64 2] 56)) fun e w' => e = .returned (.bool true) ∧ Below wx.heap.size wx w' from
    (H.wanted g342 (some ⟨wx.heap.size, 0, none⟩) 1 [rp34 4 2 2] _ (by decide) (slOne wx (rp34 4 2 2) _ rfl)).mono (by
      rintro e w' ⟨rfl, hb⟩
      exact ⟨rfl, below_then (below_alloc (Below.refl _ _) _) hb⟩)))
  go_wp2_with (first | (refine El.load gfRow rfl _ rfl n6 0 rfl g342 hK.at #[.int .i64 3, .int .i64 4, .int .i64 2, .int .i64 3, .string ⟨#[101]⟩] rfl ?_) | fail)
  refine (M1.out _).mono ?_
  rintro e w9 ⟨A9, c9, rfl, hS9, hb9⟩
  replace hE := hE.below hb9
  replace hK := hK.below hb9
  replace hB := below_then hB hb9
  clear hb9 M1
  go_wp2_with fail
  refine (M2.out _ _ _ hS9).mono ?_
  rintro e w10 ⟨A, c, rfl, hS, hb10⟩
  replace hE := hE.below hb10
  replace hK := hK.below hb10
  replace hB := below_then hB hb10
  clear hb10 M2 hS9
  have s5 : w10.cell? ⟨n2, 5, none⟩ = some (.int .i64 7) := by rw [← HX0.out]; exact hE.cell 5
  have s22 : w10.cell? ⟨n2, 22, none⟩ = some (.int .i64 9) := by rw [← HX1.out]; exact hE.cell 22
  have s15 : w10.cell? ⟨n2, 15, none⟩ = some (.int .i64 3) := by rw [← HX2.out]; exact hE.cell 15
  have s19 : w10.cell? ⟨n2, 19, none⟩ = some (.slice x.cA 1 x.cc) := by have h := hE.cell 19; have e := HX3.out; simp only [stE, List.getElem?_cons_succ, List.getElem?_cons_zero] at h; rw [e] at h; exact h
  have k3 : w10.cell? ⟨n6, 3, none⟩ = some (.int .i64 3) := hK.cell 3
  have k4 : w10.cell? ⟨n6, 4, none⟩ = some (.string ⟨#[101]⟩) := hK.cell 4
  clear hE
  obtain ⟨b, off, rfl, hbw, hc⟩ := hS.1 (by decide)
  have q2 : w10.cell? ⟨b, off + 2, none⟩ = some (.int .i64 2) := by have h := (gfAt5 (hc 0 (by decide))).2.2.1; exact (by simpa using h : w10.cell? ⟨b, off + 2, none⟩ = some (.int .i64 g342.c))
  have hq : ∀ w, (Instr.indexAt 33 (.slice (some ⟨b, off, none⟩) 1 c) (.int .i64 0)).run Try.prog w = .ok (.pointer (some ⟨b, off, none⟩)) w := fun w => by
    have h := gfIdxH (A := some ⟨b, off, none⟩) (cap := c) (len := 1) (k := 0) rfl (by decide) w
    simpa using h
  clear hc
  go_upto_region 7 with fail
  simp only [List.append_eq, List.cons_append, List.nil_append]
  go_wp2_with fail
  refine (C5.out _).mono ?_
  rintro e w11 ⟨rfl, hb11⟩
  replace hK := hK.below hb11
  replace hB := below_then hB hb11
  replace q2 := ((bcell hb11).1 b (off + 2) hbw).trans q2
  clear hb11 C5 k3 k4 s5 s22 s15 s19 hS
  have k0 : w11.cell? ⟨n6, 0, none⟩ = some (.int .i64 3) := hK.cell 0
  have k1 : w11.cell? ⟨n6, 1, none⟩ = some (.int .i64 4) := hK.cell 1
  have k2 : w11.cell? ⟨n6, 2, none⟩ = some (.int .i64 2) := hK.cell 2
  have k3 : w11.cell? ⟨n6, 3, none⟩ = some (.int .i64 3) := hK.cell 3
  have k4 : w11.cell? ⟨n6, 4, none⟩ = some (.string ⟨#[101]⟩) := hK.cell 4
  go_wp2_with fail
  refine (C6.out _).mono ?_
  clear k0 k1 k2 k3 k4 q2 C6
  rintro e w12 ⟨rfl, hb12⟩
  replace hK := hK.below hb12
  replace hB := below_then hB hb12
  clear hb12
  have k0 : w12.cell? ⟨n6, 0, none⟩ = some (.int .i64 3) := hK.cell 0
  have k1 : w12.cell? ⟨n6, 1, none⟩ = some (.int .i64 4) := hK.cell 1
  have k2 : w12.cell? ⟨n6, 2, none⟩ = some (.int .i64 2) := hK.cell 2
  have k3 : w12.cell? ⟨n6, 3, none⟩ = some (.int .i64 3) := hK.cell 3
  have k4 : w12.cell? ⟨n6, 4, none⟩ = some (.string ⟨#[101]⟩) := hK.cell 4
  go_wp2_with fail
  refine (C7.out _).mono ?_
  clear k0 k1 k2 k3 k4 C7 hK
  rintro e w13 ⟨rfl, hb13⟩
  replace hB := below_then hB hb13
  go_wp2_with fail
  go_ret
  exact ⟨rfl, hB⟩
end Go.Proofs.Ytfpgfclmmdihjaa

/- Whether a past is one: the document's answer. -/
namespace Go.Proofs.Ytfpgfclmmdihjaa
open Go.RowKit Tre Cod Pst Nam

set_option maxRecDepth 100000 in
set_option maxHeartbeats 8000000 in
theorem refPastRight_any (x : Pw) (w : World) (hx : PastOk w x) (hl1 : x.base.length ≤ 200) (hl2 : x.ops.length ≤ 200) (hl3 : x.us.length ≤ 200) (hl4 : x.now.length ≤ 200) (hsb : ∀ p ∈ x.base, p.s.size ≤ 9223372036854775807) (hso : ∀ m ∈ x.ops, m.s.size ≤ 9223372036854775807) (bv : Bool) (hbv : bv = true ↔ PastR x.v) :
    Calls Try.prog 8 #[.agg #[.slice x.bA x.base.length x.bc, .int .i64 x.t, .slice x.oA x.ops.length x.oc, .slice x.uA x.us.length x.uc, .slice x.wA x.now.length x.wc]] w fun e w' => e = .returned (.bool bv) ∧ Below w.heap.size w w' := by
  obtain ⟨bA, bc, base, t, oA, oc, ops, uA, uc, us, wA, wc, now⟩ := x
  simp only at hl1 hl2 hl3 hl4 hsb hso
  have HV := Lib.hid hbv
  clear hbv
  have hP : pwE.In (w.alloc (.cells #[.slice bA base.length bc, .int .i64 t, .slice oA ops.length oc, .slice uA us.length uc, .slice wA now.length wc] 27)) w.heap.size (⟨bA, bc, base, t, oA, oc, ops, uA, uc, us, wA, wc, now⟩ : Pw) := El.In.new (E := pwE) w (⟨bA, bc, base, t, oA, oc, ops, uA, uc, us, wA, wc, now⟩ : Pw) _ rfl
  have hB := below_alloc (Below.refl w.heap.size w) (.cells #[.slice bA base.length bc, .int .i64 t, .slice oA ops.length oc, .slice uA us.length uc, .slice wA now.length wc] 27)
  have hx1 := hx.below hB
  clear hx
  by_cases h1 : 0 ≤ t ∧ t ≤ 1099511627776
  · obtain ⟨h1, h2⟩ := h1
    have CT := refRight_any bA bc base (w.alloc (.cells #[.slice bA base.length bc, .int .i64 t, .slice oA ops.length oc, .slice uA us.length uc, .slice wA now.length wc] 27)) (by omega) hsb (plSl.1 hx1.b.1)
    go_enter Try.func8, Try.ntmps8
    go_wp2_with fail
    generalize w.alloc (.cells #[.slice bA base.length bc, .int .i64 t, .slice oA ops.length oc, .slice uA us.length uc, .slice wA now.length wc] 27) = W at *
    obtain ⟨n0, h0⟩ : ∃ n, w.heap.size = n := ⟨_, rfl⟩
    rw [h0] at hP ⊢
    clear h0
    cases ht : treeB base
    · have HNO := Lib.hid (show ¬ PastR (⟨bA, bc, base, t, oA, oc, ops, uA, uc, us, wA, wc, now⟩ : Pw).v from fun h => by have := h.1; simp only [Pw.v] at this; rw [ht] at this; cases this)
      rw [ht] at CT
      refine CT.mono ?_
      rintro e W1 ⟨rfl, hb1⟩
      replace hB := hB.trans (hb1.mono (by have := hB.size; omega))
      go_wp2_with fail
      go_ret
      exact ⟨by rw [false_of_not HV.out HNO.out]; rfl, hB⟩
    · rw [ht] at CT
      refine CT.mono ?_
      rintro e W1 ⟨rfl, hb1⟩
      replace hB := hB.trans (hb1.mono (by have := hB.size; omega))
      replace hP := hP.below hb1
      replace hx1 := hx1.below hb1
      clear CT hb1
      go_wp2_with fail
      go_loopw [3] (fun yi wr => ∃ k : Nat, k ≤ ops.length ∧ yi = .int .i64 k ∧ OpsTo ops t k ∧ pwE.In wr n0 (⟨bA, bc, base, t, oA, oc, ops, uA, uc, us, wA, wc, now⟩ : Pw) ∧ PastOk wr (⟨bA, bc, base, t, oA, oc, ops, uA, uc, us, wA, wc, now⟩ : Pw) ∧ Below w.heap.size w wr) (fun yi _ => ops.length - (intOf yi).toNat)
      case atStart => exact ⟨0, Nat.zero_le _, rfl, OpsTo.zero ops t, hP, hx1, hB⟩
      case round =>
        clear hP hx1 hB
        obtain ⟨k, hk, rfl, hto, hP, hx1, hB⟩ := hrel
        have p1 := (pwIn5 hP).2.1
        have p2 := (pwIn5 hP).2.2.1
        simp only at p1 p2
        by_cases hkl : k < ops.length
        · obtain ⟨b, off, hoA, hbw, hc⟩ := hx1.o.1 (show 0 < ops.length by omega)
          simp only at hoA hc
          have hat : opE.At wr b (off + k * 7) ops[k] := hc k hkl
          have hprev : ∀ (h0 : 0 < k), opE.At wr b (off + (k - 1) * 7) (ops[k - 1]'(by omega)) := fun h0 => hc (k - 1) (show k - 1 < ops.length by omega)
          have hms : ops[k].s.size ≤ 9223372036854775807 := hso _ (List.getElem_mem _)
          have HNK := Lib.hid (fun (h : OpsR ops t) => h.at k hkl)
          have HT := Lib.hid hto
          obtain ⟨mk, hmk⟩ : ∃ mk, ops[k] = mk := ⟨_, rfl⟩
          rw [hmk] at hat hms HNK
          subst hoA
          obtain ⟨o0, o1, o2, o3, o4, o5, o6⟩ := opAt hat
          have k0 := cell_regrown o0
          have k1 := cell_regrown o1
          have k2 := cell_regrown o2
          have k3 := cell_regrown o3
          have k4 := cell_regrown o4
          have k5 := cell_regrown o5
          have k6 := cell_regrown o6
          have k9 := cell_regrown p1
          have k10 := cell_regrown p2
          obtain ⟨r, hr⟩ : ∃ r, opB mk.C mk.D mk.I mk.M mk.K mk.U mk.s = r := ⟨_, rfl⟩
          have CR := fun w => opRefRight_any mk.C mk.D mk.I mk.M mk.K mk.U mk.s w hms
          rw [hr] at CR
          have HCR := Lib.hid CR
          have HR := Lib.hid hr
          have d1 : ∀ d os, Calls Try.prog 30 #[.agg #[.int .i64 mk.C, .int .i64 mk.D, .int .i64 mk.I, .int .i64 mk.M, .int .i64 mk.K, .int .i64 mk.U, .string mk.s]] (Sort.grow (redrawn wr d) os) fun e w'' => e = .returned (.bool r) ∧ ∃ p : Regrown, w'' = Sort.grow (redrawn wr p.d) p.os := fun d os => Calls.regrown_of (HCR.out _)
          have d2 : ∀ d os, Calls Try.prog 30 #[.agg #[.int .i64 mk.C, .int .i64 mk.D, .int .i64 mk.I, .int .i64 mk.M, .int .i64 mk.K, .int .i64 mk.U, .string mk.s]] (Sort.grow (redrawn wr d) os) fun e w'' => e = .returned (.bool r) ∧ ∃ p : Regrown, w'' = Sort.grow (redrawn wr p.d) p.os := d1
          have HMK := Lib.hid hmk
          have HPV := Lib.hid hprev
          clear o0 o1 o2 o3 o4 o5 o6 CR hr hat hprev hc hmk hto HCR
          cases r
          · have HNO := Lib.hid (show ¬ PastR (Pw.v (⟨bA, bc, base, t, some ⟨b, off, none⟩, oc, ops, uA, uc, us, wA, wc, now⟩ : Pw)) from fun h => by have := (HNK.out h.2.2.2.1).1; unfold Mv.ok at this; rw [HR.out] at this; cases this)
            go_wp2_with fail
            refine wp_region_quiet_below (by kernel_rfl) (by kernel_rfl) ?_
            repeat (go_big_quiet_step ((with_reducible (first | exact d1 _ _ | exact d2 _ _))))
            refine wpQuiet_nil ?_
            intro _ hw'
            obtain ⟨⟨dq, osq⟩, hw''⟩ := hw'
            subst hw''
            have hq := below_regrown wr dq osq
            replace hP := hP.below hq
            replace hx1 := hx1.below hq
            replace hB := hB.trans (hq.mono hB.size)
            generalize Sort.grow (redrawn wr dq) osq = W1 at *
            go_wp2_with fail
            go_ret
            exact ⟨by rw [false_of_not HV.out HNO.out]; rfl, hB⟩
          · have HOK := Lib.hid (show mk.ok from HR.out)
            by_cases htc : t < mk.C
            · have HTC := Lib.hid htc
              have hdc : decide (mk.C ≤ t) = false := decide_eq_false (by omega)
              by_cases h0 : k = 0
              · subst h0
                simp only [Nat.zero_mul, Nat.add_zero] at k0 k1 k2 k3 k4 k5 k6
                go_wp2_with fail
                refine wp_region_quiet_below (by kernel_rfl) (by kernel_rfl) ?_
                repeat (go_big_quiet_step ((with_reducible (first | exact d1 _ _ | exact d2 _ _))))
                refine wpQuiet_nil ?_
                intro _ hw'
                obtain ⟨⟨dq, osq⟩, hw''⟩ := hw'
                subst hw''
                have hq := below_regrown wr dq osq
                replace hP := hP.below hq
                replace hx1 := hx1.below hq
                replace hB := hB.trans (hq.mono hB.size)
                generalize Sort.grow (redrawn wr dq) osq = W1 at *
                go_wp2_with fail
                exact ⟨⟨0 + 1, by omega, by go_num, HT.out.next hkl (by rw [HMK.out]; exact HOK.out) (by rw [HMK.out]; exact HTC.out) (by intro h0; omega), hP, hx1, hB⟩, by simp [intOf]; omega⟩
              · obtain ⟨j, rfl⟩ : ∃ j, k = j + 1 := ⟨k - 1, by omega⟩
                have hpv := HPV.out (by omega)
                simp only [Nat.add_sub_cancel] at hpv
                obtain ⟨pv, hpve⟩ : ∃ pv, ops[j]'(by omega) = pv := ⟨_, rfl⟩
                rw [hpve] at hpv
                obtain ⟨t0, t1, t2, t3, t4, t5, t6⟩ := opAt hpv
                have k7 := cell_regrown t0
                have k8 := cell_regrown t1
                have C2 := fun w => refBefore_any pv.C pv.D mk.C mk.D w
                obtain ⟨bb, hbb⟩ : ∃ bb, befB pv.C pv.D mk.C mk.D = bb := ⟨_, rfl⟩
                rw [hbb] at C2
                rw [bef_iff] at hbb
                have HC2 := Lib.hid C2
                have HBB := Lib.hid hbb
                have HPE := Lib.hid hpve
                have hjl : j < ops.length := by omega
                clear t0 t1 t2 t3 t4 t5 t6 C2 hbb hpve hpv d2
                have d2 : ∀ d os, Calls Try.prog 31 #[.agg #[.int .i64 pv.C, .int .i64 pv.D], .agg #[.int .i64 mk.C, .int .i64 mk.D]] (Sort.grow (redrawn wr d) os) fun e w'' => e = .returned (.bool bb) ∧ ∃ p : Regrown, w'' = Sort.grow (redrawn wr p.d) p.os := fun d os => Calls.regrown_of (HC2.out _)
                have hd0 : decide ((0 : Int) < ((j + 1 : Nat) : Int)) = true := decide_eq_true (by omega)
                have hd1 : decide ((0 : Int) < (j : Int) + 1) = true := decide_eq_true (by omega)
                cases bb
                · have HNO := Lib.hid (show ¬ PastR (Pw.v (⟨bA, bc, base, t, some ⟨b, off, none⟩, oc, ops, uA, uc, us, wA, wc, now⟩ : Pw)) from fun h => of_decide_eq_false HBB.out (by have h9 : bef Mv.C Mv.D (ops[j]'(by omega)) mk := (HNK.out h.2.2.2.1).2.2 (Nat.succ_pos j); rw [HPE.out] at h9; exact h9))
                  go_wp2_with fail
                  refine wp_region_quiet_below (by kernel_rfl) (by kernel_rfl) ?_
                  repeat (go_big_quiet_step ((with_reducible (first | exact d1 _ _ | exact d2 _ _))))
                  refine wpQuiet_nil ?_
                  intro _ hw'
                  obtain ⟨⟨dq, osq⟩, hw''⟩ := hw'
                  subst hw''
                  have hq := below_regrown wr dq osq
                  replace hP := hP.below hq
                  replace hx1 := hx1.below hq
                  replace hB := hB.trans (hq.mono hB.size)
                  generalize Sort.grow (redrawn wr dq) osq = W1 at *
                  go_wp2_with fail
                  go_ret
                  exact ⟨by rw [false_of_not HV.out HNO.out]; rfl, hB⟩
                · have HBF := Lib.hid (show ∀ (h0 : 0 < j + 1), bef Mv.C Mv.D (ops[j + 1 - 1]'(by omega)) mk from fun _ => by show bef Mv.C Mv.D (ops[j]'(by omega)) mk; rw [HPE.out]; exact of_decide_eq_true HBB.out)
                  go_wp2_with fail
                  refine wp_region_quiet_below (by kernel_rfl) (by kernel_rfl) ?_
                  repeat (go_big_quiet_step ((with_reducible (first | exact d1 _ _ | exact d2 _ _))))
                  refine wpQuiet_nil ?_
                  intro _ hw'
                  obtain ⟨⟨dq, osq⟩, hw''⟩ := hw'
                  subst hw''
                  have hq := below_regrown wr dq osq
                  replace hP := hP.below hq
                  replace hx1 := hx1.below hq
                  replace hB := hB.trans (hq.mono hB.size)
                  generalize Sort.grow (redrawn wr dq) osq = W1 at *
                  go_wp2_with fail
                  exact ⟨⟨j + 1 + 1, by omega, by go_num, HT.out.next hkl (by rw [HMK.out]; exact HOK.out) (by rw [HMK.out]; exact HTC.out) (by intro h0; rw [HMK.out]; exact HBF.out h0), hP, hx1, hB⟩, by simp [intOf]; omega⟩
            · have hdc : decide (mk.C ≤ t) = true := decide_eq_true (by omega)
              have HNO := Lib.hid (show ¬ PastR (Pw.v (⟨bA, bc, base, t, some ⟨b, off, none⟩, oc, ops, uA, uc, us, wA, wc, now⟩ : Pw)) from fun h => htc (HNK.out h.2.2.2.1).2.1)
              go_wp2_with fail
              refine wp_region_quiet_below (by kernel_rfl) (by kernel_rfl) ?_
              repeat (go_big_quiet_step ((with_reducible (first | exact d1 _ _ | exact d2 _ _))))
              refine wpQuiet_nil ?_
              intro _ hw'
              obtain ⟨⟨dq, osq⟩, hw''⟩ := hw'
              subst hw''
              have hq := below_regrown wr dq osq
              replace hP := hP.below hq
              replace hx1 := hx1.below hq
              replace hB := hB.trans (hq.mono hB.size)
              generalize Sort.grow (redrawn wr dq) osq = W1 at *
              go_wp2_with fail
              go_ret
              exact ⟨by rw [false_of_not HV.out HNO.out]; rfl, hB⟩
        · obtain rfl : k = ops.length := by omega
          have hfl1 := foldL_len1 base (mvs ops)
          have hfl2 := foldL_len base (mvs ops)
          rw [mvs_len] at hfl1 hfl2
          have CF := mvRefFold_any bA bc base oA oc ops wr (by omega) hx1.b hx1.o.1
          have HBV := Lib.hid (show PastR (⟨bA, bc, base, t, oA, oc, ops, uA, uc, us, wA, wc, now⟩ : Pw).v ↔ (now = (foldL base (mvs ops)).1 ∧ us = (foldL base (mvs ops)).2) from ⟨fun h => h.2.2.2.2, fun h => ⟨ht, h1, h2, hto, h.1, h.2⟩⟩)
          generalize (foldL base (mvs ops)).1 = now2 at *
          generalize (foldL base (mvs ops)).2 = us2 at *
          have HFL := Lib.hid hfl2
          clear hfl2
          have HCF := Lib.hid CF
          have HT := Lib.hid hto
          have p0 := (pwIn5 hP).1
          simp only at p0
          clear CF hto
          go_wp2_with fail
          clear p0 p1 p2
          refine HCF.out.mono ?_
          rintro e W3 ⟨A3, c3, U3, uc3, rfl, hS3, hU3, hf3, hfu3, hb3⟩
          replace hP := hP.below hb3
          replace hx1 := hx1.below hb3
          replace hB := hB.trans (hb3.mono hB.size)
          clear hb3 hf3 hfu3 HCF
          have p4 := (pwIn5 hP).2.2.2.2
          simp only at p4
          go_wp2_with fail
          clear p4
          refine (samePl_any wA A3 wc c3 now now2 W3 (by omega) (by omega) hx1.w.1 hS3.1).mono ?_
          rintro e W4 ⟨b1, rfl, hb1, hb4⟩
          replace hP := hP.below hb4
          replace hx1 := hx1.below hb4
          replace hU3 := hU3.below hb4
          replace hB := hB.trans (hb4.mono hB.size)
          clear hb4
          have HB1 := Lib.hid hb1
          clear hb1
          have p3 := (pwIn5 hP).2.2.2.1
          simp only at p3
          cases b1
          · go_wp2_with fail
            go_ret
            refine ⟨?_, hB⟩
            have hbf := false_of_not HV.out (fun h => Bool.noConfusion (HB1.out.2 (HBV.out.1 h).1))
            clear HV HBV HB1
            subst hbf
            rfl
          · go_wp2_with fail
            have HSU := Lib.hid (sameUn_any uA U3 uc uc3 us us2 W4 (by omega) (by have := HFL.out; omega) hx1.u.1 hU3.1)
            (with_reducible refine HSU.out.mono ?_)
            rintro e W5 ⟨b2, rfl, hb2, hb5⟩
            have hbe : bv = b2 := by
              rw [Bool.eq_iff_iff, HV.out, HBV.out, hb2]
              exact ⟨fun h => h.2, fun h => ⟨HB1.out.1 (by trivial), h⟩⟩
            clear hb2 HV HBV HB1
            subst hbe
            go_wp2_with fail
            go_ret
            refine ⟨?_, hB.trans (hb5.mono hB.size)⟩
            rfl
  · have HNO := Lib.hid (show ¬ PastR (⟨bA, bc, base, t, oA, oc, ops, uA, uc, us, wA, wc, now⟩ : Pw).v from fun h => h1 ⟨h.2.1, h.2.2.1⟩)
    rcases (show t < 0 ∨ (¬ t < 0 ∧ 1099511627776 < t) by omega) with h2 | ⟨h2, h3⟩
    all_goals
      clear h1
      go_enter Try.func8, Try.ntmps8
      go_wp2_with fail
      go_ret
      refine ⟨?_, hB⟩
      have hbf := false_of_not HV.out HNO.out
      clear HV HNO
      subst hbf
      rfl
end Go.Proofs.Ytfpgfclmmdihjaa

/- The document's Right of a past, whatever the lengths of its base, its undos and its tree. -/
namespace Go.Proofs.Ytfpgfclmmdihjaa
open Go.RowKit Tre Cod Pst Nam

theorem good_len {l : List Pl} (h : GoodTo l l.length) : l.length ≤ 62 := by
  have h1 : ∀ k (hk : k < l.length), (k : Int) + 2 ≤ l[k].n := fun k => by
    induction k with
    | zero => intro hk; have := (okPl_fit (h 0 hk hk).1).2.1; omega
    | succ k ih =>
      intro hk
      have h2 := (h (k + 1) hk hk).2 (Nat.succ_pos k)
      have h3 := ih (by omega)
      simp only [Nat.add_sub_cancel] at h2
      omega
  by_cases h0 : l.length = 0
  · omega
  · have h2 := h1 (l.length - 1) (by omega)
    have h3 := (okPl_fit (h (l.length - 1) (by omega) (by omega)).1).2.2.1
    omega
set_option maxRecDepth 100000 in
set_option maxHeartbeats 4000000 in
theorem refRightG_any (A : Option Addr) (cap : Nat) (l : List Pl) (w : World) (hl : l.length ≤ 140737488355328) (hsz : ∀ p ∈ l, p.s.size ≤ 9223372036854775807) (hT : Tr w A l) :
    Calls Try.prog 29 #[.slice A l.length cap] w fun e w' => e = .returned (.bool (treeB l)) ∧ Below w.heap.size w w' := by
  have HZ := Lib.hid hsz
  have HT2 := Lib.hid (treeB_two l)
  clear hsz
  go_enter Try.func29, Try.ntmps29
  go_wp2
  go_loopw [3] (fun x wr => ∃ k : Nat, k ≤ l.length ∧ x = .int .i64 k ∧ GoodTo l k ∧ Below w.heap.size w wr) (fun x _ => l.length - (intOf x).toNat)
  case atStart => exact ⟨0, Nat.zero_le _, rfl, fun k h hk => by omega, Below.refl _ _⟩
  case round =>
    obtain ⟨k, hk, rfl, hgd, hnx⟩ := hrel
    by_cases hlt : k < l.length
    · obtain ⟨bb, off, hAe, hbw, hc⟩ := hT (by omega)
      have hbr := Nat.lt_of_lt_of_le hbw hnx.size
      have hat := (hc k hlt).below hnx hbw
      obtain ⟨p, hp⟩ : ∃ p, l[k] = p := ⟨_, rfl⟩
      have c := fun w => (nmRefRight_any p.s w (HZ.out p (hp ▸ List.getElem_mem hlt))).mono (fun e w' (h : _ ∧ w = w') => (⟨h.1, h.2 ▸ Below.refl _ _⟩ : e = .returned (.bool (isName (L p.s))) ∧ Below w.heap.size w w'))
      have hbad := goodTo_bad hlt
      have hnext := goodTo_next hgd hlt
      rw [hp] at hat hbad hnext
      have hprev : ∀ h0 : 0 < k, AtPl wr bb (off + (k - 1) * 3) (l[k - 1]'(by omega)) := fun h0 => (hc (k - 1) (by omega)).below hnx hbw
      obtain ⟨q0, q1, q2⟩ := hat
      have HG := Lib.hid hgd
      have HB := Lib.hid hbad
      have HN := Lib.hid hnext
      clear hgd hbad hnext hc
      subst hAe
      have hf : okPl p = false → riseB l = false := fun h => HB.out (fun h2 => by rw [h] at h2; exact absurd h2.1 (by simp))
      have HF := Lib.hid hf
      clear hf
      refine okPl_five (n := p.n) (u := p.u) ?_ ?_ ?_ ?_ ?_
      · intro h1
        have HR := Lib.hid (HF.out (okPl_false (by omega)))
        have e0 : decide (p.n < 2) = true := decide_eq_true (by omega)
        clear hprev hp c HF
        go_wp2
        have hO := PlIn.new wr p
        have hB0 := below_alloc hnx (.cells #[.int .i64 p.n, .int .i64 p.u, .string p.s] 115)
        generalize wr.alloc (.cells #[.int .i64 p.n, .int .i64 p.u, .string p.s] 115) = W at *
        obtain ⟨g0, g1, g2⟩ := hO.cells
        have k0 := cell_regrown g0
        have k1 := cell_regrown g1
        have k2 := cell_regrown g2
        clear g0 g1 g2 hO q0 q1 q2
        refine wp_region_quiet_below (by kernel_rfl) (by as_aux_lemma => kernel_rfl) ?_
        repeat (go_big_quiet_step ((with_reducible (exact d1 _ _))))
        refine wpQuiet_nil ?_
        intro _ hw'
        obtain ⟨⟨dq, osq⟩, hw''⟩ := hw'
        subst hw''
        go_wp2
        go_ret
        exact ⟨by rw [HT2.out, HR.out]; rfl, below_then hB0 (below_regrown W dq osq)⟩
      · intro h1 h2
        have HR := Lib.hid (HF.out (okPl_false (by omega)))
        have e0 : decide (p.n < 2) = false := decide_eq_false (by omega)
        have e1 : decide (64 ≤ p.n) = true := decide_eq_true (by omega)
        clear hprev hp c HF
        go_wp2
        have hO := PlIn.new wr p
        have hB0 := below_alloc hnx (.cells #[.int .i64 p.n, .int .i64 p.u, .string p.s] 115)
        generalize wr.alloc (.cells #[.int .i64 p.n, .int .i64 p.u, .string p.s] 115) = W at *
        obtain ⟨g0, g1, g2⟩ := hO.cells
        have k0 := cell_regrown g0
        have k1 := cell_regrown g1
        have k2 := cell_regrown g2
        clear g0 g1 g2 hO q0 q1 q2
        refine wp_region_quiet_below (by kernel_rfl) (by as_aux_lemma => kernel_rfl) ?_
        repeat (go_big_quiet_step ((with_reducible (exact d1 _ _))))
        refine wpQuiet_nil ?_
        intro _ hw'
        obtain ⟨⟨dq, osq⟩, hw''⟩ := hw'
        subst hw''
        go_wp2
        go_ret
        exact ⟨by rw [HT2.out, HR.out]; rfl, below_then hB0 (below_regrown W dq osq)⟩
      · intro h1 h2 h3
        have HR := Lib.hid (HF.out (okPl_false (by omega)))
        have e0 : decide (p.n < 2) = false := decide_eq_false (by omega)
        have e1 : decide (64 ≤ p.n) = false := decide_eq_false (by omega)
        have e2 : decide (p.u < 0) = true := decide_eq_true (by omega)
        clear hprev hp c HF
        go_wp2
        have hO := PlIn.new wr p
        have hB0 := below_alloc hnx (.cells #[.int .i64 p.n, .int .i64 p.u, .string p.s] 115)
        generalize wr.alloc (.cells #[.int .i64 p.n, .int .i64 p.u, .string p.s] 115) = W at *
        obtain ⟨g0, g1, g2⟩ := hO.cells
        have k0 := cell_regrown g0
        have k1 := cell_regrown g1
        have k2 := cell_regrown g2
        clear g0 g1 g2 hO q0 q1 q2
        refine wp_region_quiet_below (by kernel_rfl) (by as_aux_lemma => kernel_rfl) ?_
        repeat (go_big_quiet_step ((with_reducible (exact d1 _ _))))
        refine wpQuiet_nil ?_
        intro _ hw'
        obtain ⟨⟨dq, osq⟩, hw''⟩ := hw'
        subst hw''
        go_wp2
        go_ret
        exact ⟨by rw [HT2.out, HR.out]; rfl, below_then hB0 (below_regrown W dq osq)⟩
      · intro h1 h2 h3 h4
        have HR := Lib.hid (HF.out (okPl_false (by omega)))
        have e0 : decide (p.n < 2) = false := decide_eq_false (by omega)
        have e1 : decide (64 ≤ p.n) = false := decide_eq_false (by omega)
        have e2 : decide (p.u < 0) = false := decide_eq_false (by omega)
        have e3 : decide (64 ≤ p.u) = true := decide_eq_true (by omega)
        clear hprev hp c HF
        go_wp2
        have hO := PlIn.new wr p
        have hB0 := below_alloc hnx (.cells #[.int .i64 p.n, .int .i64 p.u, .string p.s] 115)
        generalize wr.alloc (.cells #[.int .i64 p.n, .int .i64 p.u, .string p.s] 115) = W at *
        obtain ⟨g0, g1, g2⟩ := hO.cells
        have k0 := cell_regrown g0
        have k1 := cell_regrown g1
        have k2 := cell_regrown g2
        clear g0 g1 g2 hO q0 q1 q2
        refine wp_region_quiet_below (by kernel_rfl) (by as_aux_lemma => kernel_rfl) ?_
        repeat (go_big_quiet_step ((with_reducible (exact d1 _ _))))
        refine wpQuiet_nil ?_
        intro _ hw'
        obtain ⟨⟨dq, osq⟩, hw''⟩ := hw'
        subst hw''
        go_wp2
        go_ret
        exact ⟨by rw [HT2.out, HR.out]; rfl, below_then hB0 (below_regrown W dq osq)⟩
      · intro h1 h2 h3 h4
        have e0 : decide (p.n < 2) = false := decide_eq_false (by omega)
        have e1 : decide (64 ≤ p.n) = false := decide_eq_false (by omega)
        have e2 : decide (p.u < 0) = false := decide_eq_false (by omega)
        have e3 : decide (64 ≤ p.u) = false := decide_eq_false (by omega)
        have hon := okPl_name (p := p) ⟨h1, h2, h3, h4⟩
        rw [← hon] at c
        clear hon
        cases hok : okPl p
        · rw [hok] at c
          have C := Lib.hid c
          have HR := Lib.hid (HF.out hok)
          clear c hok hprev hp HF
          go_wp2
          have hO := PlIn.new wr p
          have hB0 := below_alloc hnx (.cells #[.int .i64 p.n, .int .i64 p.u, .string p.s] 115)
          generalize wr.alloc (.cells #[.int .i64 p.n, .int .i64 p.u, .string p.s] 115) = W at *
          obtain ⟨g0, g1, g2⟩ := hO.cells
          have k0 := cell_regrown g0
          have k1 := cell_regrown g1
          have k2 := cell_regrown g2
          have d1 : ∀ d os, Calls Try.prog 54 #[.string p.s] (Sort.grow (redrawn W d) os) fun e w'' => e = .returned (.bool false) ∧ ∃ p : Regrown, w'' = Sort.grow (redrawn W p.d) p.os := fun d os => Calls.regrown_of (C.out _)
          clear g0 g1 g2 hO q0 q1 q2
          refine wp_region_quiet_below (by kernel_rfl) (by as_aux_lemma => kernel_rfl) ?_
          repeat (go_big_quiet_step ((with_reducible (exact d1 _ _))))
          refine wpQuiet_nil ?_
          intro _ hw'
          obtain ⟨⟨dq, osq⟩, hw''⟩ := hw'
          subst hw''
          go_wp2
          go_ret
          exact ⟨by rw [HT2.out, HR.out]; rfl, below_then hB0 (below_regrown W dq osq)⟩
        · rw [hok] at c
          have C := Lib.hid c
          have hok := Lib.hid hok
          clear c
          by_cases h0 : 0 < k
          · obtain ⟨t0, t1, t2⟩ := hprev h0
            obtain ⟨q, hq⟩ : ∃ q, l[k - 1]'(by omega) = q := ⟨_, rfl⟩
            rw [hq] at t0 t1 t2
            have hix : ((k : Int) - 1).toNat = k - 1 := by omega
            by_cases hc2 : q.n < p.n
            · have HQ : ∀ h0 : 0 < k, (l[k - 1]'(by omega)).n < p.n := fun _ => by rw [hq]; exact hc2
              have HQ := Lib.hid HQ
              clear hq hp hprev
              go_wp2
              have hO := PlIn.new wr p
              have hB0 := below_alloc hnx (.cells #[.int .i64 p.n, .int .i64 p.u, .string p.s] 115)
              have hw0 := below_alloc (Below.refl _ wr) (.cells #[.int .i64 p.n, .int .i64 p.u, .string p.s] 115)
              rw [← (bcell hw0).1 _ _ hbr] at t0
              clear hw0
              generalize wr.alloc (.cells #[.int .i64 p.n, .int .i64 p.u, .string p.s] 115) = W at *
              obtain ⟨g0, g1, g2⟩ := hO.cells
              have k0 := cell_regrown g0
              have k1 := cell_regrown g1
              have k2 := cell_regrown g2
              have kt0 := cell_regrown t0
              clear t0 t1 t2
              have d1 : ∀ d os, Calls Try.prog 54 #[.string p.s] (Sort.grow (redrawn W d) os) fun e w'' => e = .returned (.bool true) ∧ ∃ p : Regrown, w'' = Sort.grow (redrawn W p.d) p.os := fun d os => Calls.regrown_of (C.out _)
              clear g0 g1 g2 hO q0 q1 q2
              refine wp_region_quiet_below (by kernel_rfl) (by as_aux_lemma => kernel_rfl) ?_
              repeat (go_big_quiet_step ((with_reducible (exact d1 _ _))))
              refine wpQuiet_nil ?_
              intro _ hw'
              obtain ⟨⟨dq, osq⟩, hw''⟩ := hw'
              subst hw''
              go_wp2
              go_roundw
              case rel => exact ⟨k + 1, by omega, by go_num, HN.out hok.out fun h0 => HQ.out h0, below_then hB0 (below_regrown W dq osq)⟩
              case measure => simp [intOf]; omega
            · have HR := Lib.hid (HB.out (fun h => by have := h.2 h0; rw [hq] at this; exact hc2 this))
              clear hq hp hprev
              go_wp2
              have hO := PlIn.new wr p
              have hB0 := below_alloc hnx (.cells #[.int .i64 p.n, .int .i64 p.u, .string p.s] 115)
              have hw0 := below_alloc (Below.refl _ wr) (.cells #[.int .i64 p.n, .int .i64 p.u, .string p.s] 115)
              rw [← (bcell hw0).1 _ _ hbr] at t0
              clear hw0
              generalize wr.alloc (.cells #[.int .i64 p.n, .int .i64 p.u, .string p.s] 115) = W at *
              obtain ⟨g0, g1, g2⟩ := hO.cells
              have k0 := cell_regrown g0
              have k1 := cell_regrown g1
              have k2 := cell_regrown g2
              have kt0 := cell_regrown t0
              clear t0 t1 t2
              have d1 : ∀ d os, Calls Try.prog 54 #[.string p.s] (Sort.grow (redrawn W d) os) fun e w'' => e = .returned (.bool true) ∧ ∃ p : Regrown, w'' = Sort.grow (redrawn W p.d) p.os := fun d os => Calls.regrown_of (C.out _)
              clear g0 g1 g2 hO q0 q1 q2
              refine wp_region_quiet_below (by kernel_rfl) (by as_aux_lemma => kernel_rfl) ?_
              repeat (go_big_quiet_step ((with_reducible (exact d1 _ _))))
              refine wpQuiet_nil ?_
              intro _ hw'
              obtain ⟨⟨dq, osq⟩, hw''⟩ := hw'
              subst hw''
              go_wp2
              go_ret
              exact ⟨by rw [HT2.out, HR.out]; rfl, below_then hB0 (below_regrown W dq osq)⟩
          · have hd : decide ((0 : Int) < (k : Int)) = false := decide_eq_false (by omega)
            have HK := Lib.hid h0
            clear hprev hp
            go_wp2
            have hO := PlIn.new wr p
            have hB0 := below_alloc hnx (.cells #[.int .i64 p.n, .int .i64 p.u, .string p.s] 115)
            generalize wr.alloc (.cells #[.int .i64 p.n, .int .i64 p.u, .string p.s] 115) = W at *
            obtain ⟨g0, g1, g2⟩ := hO.cells
            have k0 := cell_regrown g0
            have k1 := cell_regrown g1
            have k2 := cell_regrown g2
            have d1 : ∀ d os, Calls Try.prog 54 #[.string p.s] (Sort.grow (redrawn W d) os) fun e w'' => e = .returned (.bool true) ∧ ∃ p : Regrown, w'' = Sort.grow (redrawn W p.d) p.os := fun d os => Calls.regrown_of (C.out _)
            clear g0 g1 g2 hO q0 q1 q2
            refine wp_region_quiet_below (by kernel_rfl) (by as_aux_lemma => kernel_rfl) ?_
            repeat (go_big_quiet_step ((with_reducible (exact d1 _ _))))
            refine wpQuiet_nil ?_
            intro _ hw'
            obtain ⟨⟨dq, osq⟩, hw''⟩ := hw'
            subst hw''
            go_wp2
            go_roundw
            case rel => exact ⟨k + 1, by omega, by go_num, HN.out hok.out fun h0 => absurd h0 HK.out, below_then hB0 (below_regrown W dq osq)⟩
            case measure => simp [intOf]; omega
    · obtain rfl : k = l.length := by omega
      replace hl : l.length ≤ 1000 := by have := good_len hgd; omega
      have hr := goodTo_all hgd
      have HR := Lib.hid hr
      have hB1 := hnx
      have C := fun w a b (hT : Tr w A l) => refAbove_any A cap l a b w hl hT
      have C := Lib.hid C
      clear hgd hr
      go_wp2
      go_loopw [5] (fun x wr => ∃ k : Nat, k ≤ l.length ∧ x = .int .i64 k ∧ FreeTo l k ∧ Below w.heap.size w wr) (fun x _ => l.length - (intOf x).toNat)
      case atStart => exact ⟨0, Nat.zero_le _, rfl, fun k h hk => by omega, hB1⟩
      case round =>
        obtain ⟨j, hj, rfl, hgd, hnx⟩ := hrel
        by_cases hlt : j < l.length
        · obtain ⟨bb, off, hAe, hbw, hc⟩ := hT (by omega)
          have hbr := Nat.lt_of_lt_of_le hbw hnx.size
          have hat := (hc j hlt).below hnx hbw
          have hTr := hT.below hnx
          have hbad := free_bad hlt
          have hnext := free_next hgd hlt
          obtain ⟨p, hp⟩ : ∃ p, l[j] = p := ⟨_, rfl⟩
          rw [hp] at hat hbad hnext
          obtain ⟨q0, q1, q2⟩ := hat
          have C := fun w hT => C.out w p.n p.u hT
          have HB := Lib.hid hbad
          have HN := Lib.hid hnext
          clear hgd hbad hnext hc hp
          subst hAe
          have k0 := cell_regrown q0
          have k1 := cell_regrown q1
          clear q0 q1 q2
          cases hab : above l p.n p.u
          · rw [hab] at C
            have HN := Lib.hid (HN.out hab)
            have d1 : ∀ d os, Calls Try.prog 55 #[.slice (some ⟨bb, off, none⟩) l.length cap, .int .i64 p.n, .int .i64 p.u] (Sort.grow (redrawn wr d) os) fun e w'' => e = .returned (.bool false) ∧ ∃ p : Regrown, w'' = Sort.grow (redrawn wr p.d) p.os := fun d os => Calls.regrown_of (C _ (hTr.below (below_regrown wr d os)))
            clear hab C
            go_wp2
            refine wp_region_quiet_below (by kernel_rfl) (by as_aux_lemma => kernel_rfl) ?_
            repeat (go_big_quiet_step ((with_reducible (exact d1 _ _))))
            refine wpQuiet_nil ?_
            intro _ hw'
            obtain ⟨⟨dq, osq⟩, hw''⟩ := hw'
            subst hw''
            go_wp2
            go_roundw
            case rel => exact ⟨j + 1, by omega, by go_num, HN.out, below_then hnx (below_regrown wr dq osq)⟩
            case measure => simp [intOf]; omega
          · rw [hab] at C
            have HF := Lib.hid (HB.out hab)
            have d1 : ∀ d os, Calls Try.prog 55 #[.slice (some ⟨bb, off, none⟩) l.length cap, .int .i64 p.n, .int .i64 p.u] (Sort.grow (redrawn wr d) os) fun e w'' => e = .returned (.bool true) ∧ ∃ p : Regrown, w'' = Sort.grow (redrawn wr p.d) p.os := fun d os => Calls.regrown_of (C _ (hTr.below (below_regrown wr d os)))
            clear hab C
            go_wp2
            refine wp_region_quiet_below (by kernel_rfl) (by as_aux_lemma => kernel_rfl) ?_
            repeat (go_big_quiet_step ((with_reducible (exact d1 _ _))))
            refine wpQuiet_nil ?_
            intro _ hw'
            obtain ⟨⟨dq, osq⟩, hw''⟩ := hw'
            subst hw''
            go_wp2
            go_ret
            exact ⟨by rw [HT2.out, HR.out, HF.out]; rfl, below_then hnx (below_regrown wr dq osq)⟩
        · obtain rfl : j = l.length := by omega
          have HF := Lib.hid (free_all hgd)
          clear hgd
          go_wp2
          go_ret
          exact ⟨by rw [HT2.out, HR.out, HF.out]; rfl, hnx⟩
set_option maxRecDepth 100000 in
theorem samePlG_any (A1 A2 : Option Addr) (c1 c2 : Nat) (l m : List Pl) (w : World) (hm : m.length ≤ 50000) (h1 : plE.Sl w A1 l) (h2 : plE.Sl w A2 m) :
    Calls Try.prog 33 #[.slice A1 l.length c1, .slice A2 m.length c2] w fun e w' => ∃ b, e = .returned (.bool b) ∧ (b = true ↔ l = m) ∧ Below w.heap.size w w' := by
  by_cases hlen : l.length = m.length
  · exact samePl_any A1 A2 c1 c2 l m w (by omega) hm h1 h2
  · have HL := Lib.hid hlen
    have hne : ¬ m.length = l.length := fun e => hlen e.symm
    have e1 : ((l.length : Int) == (m.length : Int)) = false := beq_eq_false_iff_ne.2 (by omega)
    have e2 : ((l.length : Int) != (m.length : Int)) = true := by rw [bne, e1]; rfl
    go_enter Try.func33, Try.ntmps33
    go_wp2
    go_ret
    exact ⟨false, rfl, ⟨fun h => (by cases h), fun h => absurd (congrArg List.length h) HL.out⟩, Below.refl _ _⟩
set_option maxRecDepth 100000 in
theorem sameUnG_any (A1 A2 : Option Addr) (c1 c2 : Nat) (l m : List Un) (w : World) (hm : m.length ≤ 50000) (h1 : unE.Sl w A1 l) (h2 : unE.Sl w A2 m) :
    Calls Try.prog 34 #[.slice A1 l.length c1, .slice A2 m.length c2] w fun e w' => ∃ b, e = .returned (.bool b) ∧ (b = true ↔ l = m) ∧ Below w.heap.size w w' := by
  by_cases hlen : l.length = m.length
  · exact sameUn_any A1 A2 c1 c2 l m w (by omega) hm h1 h2
  · have HL := Lib.hid hlen
    have hne : ¬ m.length = l.length := fun e => hlen e.symm
    have e1 : ((l.length : Int) == (m.length : Int)) = false := beq_eq_false_iff_ne.2 (by omega)
    have e2 : ((l.length : Int) != (m.length : Int)) = true := by rw [bne, e1]; rfl
    go_enter Try.func34, Try.ntmps34
    go_wp2
    go_ret
    exact ⟨false, rfl, ⟨fun h => (by cases h), fun h => absurd (congrArg List.length h) HL.out⟩, Below.refl _ _⟩
set_option maxRecDepth 100000 in
set_option maxHeartbeats 8000000 in
theorem refPastRightG_any (x : Pw) (w : World) (hx : PastOk w x) (hl1 : x.base.length ≤ 140737488355328) (hl2 : x.ops.length ≤ 800) (hl3 : x.us.length ≤ 140737488355328) (hl4 : x.now.length ≤ 140737488355328) (hsb : ∀ p ∈ x.base, p.s.size ≤ 9223372036854775807) (hso : ∀ m ∈ x.ops, m.s.size ≤ 9223372036854775807) (bv : Bool) (hbv : bv = true ↔ PastR x.v) :
    Calls Try.prog 8 #[.agg #[.slice x.bA x.base.length x.bc, .int .i64 x.t, .slice x.oA x.ops.length x.oc, .slice x.uA x.us.length x.uc, .slice x.wA x.now.length x.wc]] w fun e w' => e = .returned (.bool bv) ∧ Below w.heap.size w w' := by
  obtain ⟨bA, bc, base, t, oA, oc, ops, uA, uc, us, wA, wc, now⟩ := x
  simp only at hl1 hl2 hl3 hl4 hsb hso
  have HV := Lib.hid hbv
  clear hbv
  have hP : pwE.In (w.alloc (.cells #[.slice bA base.length bc, .int .i64 t, .slice oA ops.length oc, .slice uA us.length uc, .slice wA now.length wc] 27)) w.heap.size (⟨bA, bc, base, t, oA, oc, ops, uA, uc, us, wA, wc, now⟩ : Pw) := El.In.new (E := pwE) w (⟨bA, bc, base, t, oA, oc, ops, uA, uc, us, wA, wc, now⟩ : Pw) _ rfl
  have hB := below_alloc (Below.refl w.heap.size w) (.cells #[.slice bA base.length bc, .int .i64 t, .slice oA ops.length oc, .slice uA us.length uc, .slice wA now.length wc] 27)
  have hx1 := hx.below hB
  clear hx
  by_cases h1 : 0 ≤ t ∧ t ≤ 1099511627776
  · obtain ⟨h1, h2⟩ := h1
    have CT := refRightG_any bA bc base (w.alloc (.cells #[.slice bA base.length bc, .int .i64 t, .slice oA ops.length oc, .slice uA us.length uc, .slice wA now.length wc] 27)) (by omega) hsb (plSl.1 hx1.b.1)
    go_enter Try.func8, Try.ntmps8
    go_wp2_with fail
    generalize w.alloc (.cells #[.slice bA base.length bc, .int .i64 t, .slice oA ops.length oc, .slice uA us.length uc, .slice wA now.length wc] 27) = W at *
    obtain ⟨n0, h0⟩ : ∃ n, w.heap.size = n := ⟨_, rfl⟩
    rw [h0] at hP ⊢
    clear h0
    cases ht : treeB base
    · have HNO := Lib.hid (show ¬ PastR (⟨bA, bc, base, t, oA, oc, ops, uA, uc, us, wA, wc, now⟩ : Pw).v from fun h => by have := h.1; simp only [Pw.v] at this; rw [ht] at this; cases this)
      rw [ht] at CT
      refine CT.mono ?_
      rintro e W1 ⟨rfl, hb1⟩
      replace hB := hB.trans (hb1.mono (by have := hB.size; omega))
      go_wp2_with fail
      go_ret
      exact ⟨by rw [false_of_not HV.out HNO.out]; rfl, hB⟩
    · replace hl1 : base.length ≤ 62 := tree_len ht
      rw [ht] at CT
      refine CT.mono ?_
      rintro e W1 ⟨rfl, hb1⟩
      replace hB := hB.trans (hb1.mono (by have := hB.size; omega))
      replace hP := hP.below hb1
      replace hx1 := hx1.below hb1
      clear CT hb1
      go_wp2_with fail
      go_loopw [3] (fun yi wr => ∃ k : Nat, k ≤ ops.length ∧ yi = .int .i64 k ∧ OpsTo ops t k ∧ pwE.In wr n0 (⟨bA, bc, base, t, oA, oc, ops, uA, uc, us, wA, wc, now⟩ : Pw) ∧ PastOk wr (⟨bA, bc, base, t, oA, oc, ops, uA, uc, us, wA, wc, now⟩ : Pw) ∧ Below w.heap.size w wr) (fun yi _ => ops.length - (intOf yi).toNat)
      case atStart => exact ⟨0, Nat.zero_le _, rfl, OpsTo.zero ops t, hP, hx1, hB⟩
      case round =>
        clear hP hx1 hB
        obtain ⟨k, hk, rfl, hto, hP, hx1, hB⟩ := hrel
        have p1 := (pwIn5 hP).2.1
        have p2 := (pwIn5 hP).2.2.1
        simp only at p1 p2
        by_cases hkl : k < ops.length
        · obtain ⟨b, off, hoA, hbw, hc⟩ := hx1.o.1 (show 0 < ops.length by omega)
          simp only at hoA hc
          have hat : opE.At wr b (off + k * 7) ops[k] := hc k hkl
          have hprev : ∀ (h0 : 0 < k), opE.At wr b (off + (k - 1) * 7) (ops[k - 1]'(by omega)) := fun h0 => hc (k - 1) (show k - 1 < ops.length by omega)
          have hms : ops[k].s.size ≤ 9223372036854775807 := hso _ (List.getElem_mem _)
          have HNK := Lib.hid (fun (h : OpsR ops t) => h.at k hkl)
          have HT := Lib.hid hto
          obtain ⟨mk, hmk⟩ : ∃ mk, ops[k] = mk := ⟨_, rfl⟩
          rw [hmk] at hat hms HNK
          subst hoA
          obtain ⟨o0, o1, o2, o3, o4, o5, o6⟩ := opAt hat
          have k0 := cell_regrown o0
          have k1 := cell_regrown o1
          have k2 := cell_regrown o2
          have k3 := cell_regrown o3
          have k4 := cell_regrown o4
          have k5 := cell_regrown o5
          have k6 := cell_regrown o6
          have k9 := cell_regrown p1
          have k10 := cell_regrown p2
          obtain ⟨r, hr⟩ : ∃ r, opB mk.C mk.D mk.I mk.M mk.K mk.U mk.s = r := ⟨_, rfl⟩
          have CR := fun w => opRefRight_any mk.C mk.D mk.I mk.M mk.K mk.U mk.s w hms
          rw [hr] at CR
          have HCR := Lib.hid CR
          have HR := Lib.hid hr
          have d1 : ∀ d os, Calls Try.prog 30 #[.agg #[.int .i64 mk.C, .int .i64 mk.D, .int .i64 mk.I, .int .i64 mk.M, .int .i64 mk.K, .int .i64 mk.U, .string mk.s]] (Sort.grow (redrawn wr d) os) fun e w'' => e = .returned (.bool r) ∧ ∃ p : Regrown, w'' = Sort.grow (redrawn wr p.d) p.os := fun d os => Calls.regrown_of (HCR.out _)
          have d2 : ∀ d os, Calls Try.prog 30 #[.agg #[.int .i64 mk.C, .int .i64 mk.D, .int .i64 mk.I, .int .i64 mk.M, .int .i64 mk.K, .int .i64 mk.U, .string mk.s]] (Sort.grow (redrawn wr d) os) fun e w'' => e = .returned (.bool r) ∧ ∃ p : Regrown, w'' = Sort.grow (redrawn wr p.d) p.os := d1
          have HMK := Lib.hid hmk
          have HPV := Lib.hid hprev
          clear o0 o1 o2 o3 o4 o5 o6 CR hr hat hprev hc hmk hto HCR
          cases r
          · have HNO := Lib.hid (show ¬ PastR (Pw.v (⟨bA, bc, base, t, some ⟨b, off, none⟩, oc, ops, uA, uc, us, wA, wc, now⟩ : Pw)) from fun h => by have := (HNK.out h.2.2.2.1).1; unfold Mv.ok at this; rw [HR.out] at this; cases this)
            go_wp2_with fail
            refine wp_region_quiet_below (by kernel_rfl) (by kernel_rfl) ?_
            repeat (go_big_quiet_step ((with_reducible (first | exact d1 _ _ | exact d2 _ _))))
            refine wpQuiet_nil ?_
            intro _ hw'
            obtain ⟨⟨dq, osq⟩, hw''⟩ := hw'
            subst hw''
            have hq := below_regrown wr dq osq
            replace hP := hP.below hq
            replace hx1 := hx1.below hq
            replace hB := hB.trans (hq.mono hB.size)
            generalize Sort.grow (redrawn wr dq) osq = W1 at *
            go_wp2_with fail
            go_ret
            exact ⟨by rw [false_of_not HV.out HNO.out]; rfl, hB⟩
          · have HOK := Lib.hid (show mk.ok from HR.out)
            by_cases htc : t < mk.C
            · have HTC := Lib.hid htc
              have hdc : decide (mk.C ≤ t) = false := decide_eq_false (by omega)
              by_cases h0 : k = 0
              · subst h0
                simp only [Nat.zero_mul, Nat.add_zero] at k0 k1 k2 k3 k4 k5 k6
                go_wp2_with fail
                refine wp_region_quiet_below (by kernel_rfl) (by kernel_rfl) ?_
                repeat (go_big_quiet_step ((with_reducible (first | exact d1 _ _ | exact d2 _ _))))
                refine wpQuiet_nil ?_
                intro _ hw'
                obtain ⟨⟨dq, osq⟩, hw''⟩ := hw'
                subst hw''
                have hq := below_regrown wr dq osq
                replace hP := hP.below hq
                replace hx1 := hx1.below hq
                replace hB := hB.trans (hq.mono hB.size)
                generalize Sort.grow (redrawn wr dq) osq = W1 at *
                go_wp2_with fail
                exact ⟨⟨0 + 1, by omega, by go_num, HT.out.next hkl (by rw [HMK.out]; exact HOK.out) (by rw [HMK.out]; exact HTC.out) (by intro h0; omega), hP, hx1, hB⟩, by simp [intOf]; omega⟩
              · obtain ⟨j, rfl⟩ : ∃ j, k = j + 1 := ⟨k - 1, by omega⟩
                have hpv := HPV.out (by omega)
                simp only [Nat.add_sub_cancel] at hpv
                obtain ⟨pv, hpve⟩ : ∃ pv, ops[j]'(by omega) = pv := ⟨_, rfl⟩
                rw [hpve] at hpv
                obtain ⟨t0, t1, t2, t3, t4, t5, t6⟩ := opAt hpv
                have k7 := cell_regrown t0
                have k8 := cell_regrown t1
                have C2 := fun w => refBefore_any pv.C pv.D mk.C mk.D w
                obtain ⟨bb, hbb⟩ : ∃ bb, befB pv.C pv.D mk.C mk.D = bb := ⟨_, rfl⟩
                rw [hbb] at C2
                rw [bef_iff] at hbb
                have HC2 := Lib.hid C2
                have HBB := Lib.hid hbb
                have HPE := Lib.hid hpve
                have hjl : j < ops.length := by omega
                clear t0 t1 t2 t3 t4 t5 t6 C2 hbb hpve hpv d2
                have d2 : ∀ d os, Calls Try.prog 31 #[.agg #[.int .i64 pv.C, .int .i64 pv.D], .agg #[.int .i64 mk.C, .int .i64 mk.D]] (Sort.grow (redrawn wr d) os) fun e w'' => e = .returned (.bool bb) ∧ ∃ p : Regrown, w'' = Sort.grow (redrawn wr p.d) p.os := fun d os => Calls.regrown_of (HC2.out _)
                have hd0 : decide ((0 : Int) < ((j + 1 : Nat) : Int)) = true := decide_eq_true (by omega)
                have hd1 : decide ((0 : Int) < (j : Int) + 1) = true := decide_eq_true (by omega)
                cases bb
                · have HNO := Lib.hid (show ¬ PastR (Pw.v (⟨bA, bc, base, t, some ⟨b, off, none⟩, oc, ops, uA, uc, us, wA, wc, now⟩ : Pw)) from fun h => of_decide_eq_false HBB.out (by have h9 : bef Mv.C Mv.D (ops[j]'(by omega)) mk := (HNK.out h.2.2.2.1).2.2 (Nat.succ_pos j); rw [HPE.out] at h9; exact h9))
                  go_wp2_with fail
                  refine wp_region_quiet_below (by kernel_rfl) (by kernel_rfl) ?_
                  repeat (go_big_quiet_step ((with_reducible (first | exact d1 _ _ | exact d2 _ _))))
                  refine wpQuiet_nil ?_
                  intro _ hw'
                  obtain ⟨⟨dq, osq⟩, hw''⟩ := hw'
                  subst hw''
                  have hq := below_regrown wr dq osq
                  replace hP := hP.below hq
                  replace hx1 := hx1.below hq
                  replace hB := hB.trans (hq.mono hB.size)
                  generalize Sort.grow (redrawn wr dq) osq = W1 at *
                  go_wp2_with fail
                  go_ret
                  exact ⟨by rw [false_of_not HV.out HNO.out]; rfl, hB⟩
                · have HBF := Lib.hid (show ∀ (h0 : 0 < j + 1), bef Mv.C Mv.D (ops[j + 1 - 1]'(by omega)) mk from fun _ => by show bef Mv.C Mv.D (ops[j]'(by omega)) mk; rw [HPE.out]; exact of_decide_eq_true HBB.out)
                  go_wp2_with fail
                  refine wp_region_quiet_below (by kernel_rfl) (by kernel_rfl) ?_
                  repeat (go_big_quiet_step ((with_reducible (first | exact d1 _ _ | exact d2 _ _))))
                  refine wpQuiet_nil ?_
                  intro _ hw'
                  obtain ⟨⟨dq, osq⟩, hw''⟩ := hw'
                  subst hw''
                  have hq := below_regrown wr dq osq
                  replace hP := hP.below hq
                  replace hx1 := hx1.below hq
                  replace hB := hB.trans (hq.mono hB.size)
                  generalize Sort.grow (redrawn wr dq) osq = W1 at *
                  go_wp2_with fail
                  exact ⟨⟨j + 1 + 1, by omega, by go_num, HT.out.next hkl (by rw [HMK.out]; exact HOK.out) (by rw [HMK.out]; exact HTC.out) (by intro h0; rw [HMK.out]; exact HBF.out h0), hP, hx1, hB⟩, by simp [intOf]; omega⟩
            · have hdc : decide (mk.C ≤ t) = true := decide_eq_true (by omega)
              have HNO := Lib.hid (show ¬ PastR (Pw.v (⟨bA, bc, base, t, some ⟨b, off, none⟩, oc, ops, uA, uc, us, wA, wc, now⟩ : Pw)) from fun h => htc (HNK.out h.2.2.2.1).2.1)
              go_wp2_with fail
              refine wp_region_quiet_below (by kernel_rfl) (by kernel_rfl) ?_
              repeat (go_big_quiet_step ((with_reducible (first | exact d1 _ _ | exact d2 _ _))))
              refine wpQuiet_nil ?_
              intro _ hw'
              obtain ⟨⟨dq, osq⟩, hw''⟩ := hw'
              subst hw''
              have hq := below_regrown wr dq osq
              replace hP := hP.below hq
              replace hx1 := hx1.below hq
              replace hB := hB.trans (hq.mono hB.size)
              generalize Sort.grow (redrawn wr dq) osq = W1 at *
              go_wp2_with fail
              go_ret
              exact ⟨by rw [false_of_not HV.out HNO.out]; rfl, hB⟩
        · obtain rfl : k = ops.length := by omega
          have hfl1 := foldL_len1 base (mvs ops)
          have hfl2 := foldL_len base (mvs ops)
          rw [mvs_len] at hfl1 hfl2
          have CF := mvRefFold_any bA bc base oA oc ops wr (by omega) hx1.b hx1.o.1
          have HBV := Lib.hid (show PastR (⟨bA, bc, base, t, oA, oc, ops, uA, uc, us, wA, wc, now⟩ : Pw).v ↔ (now = (foldL base (mvs ops)).1 ∧ us = (foldL base (mvs ops)).2) from ⟨fun h => h.2.2.2.2, fun h => ⟨ht, h1, h2, hto, h.1, h.2⟩⟩)
          generalize (foldL base (mvs ops)).1 = now2 at *
          generalize (foldL base (mvs ops)).2 = us2 at *
          have HFL := Lib.hid hfl2
          clear hfl2
          have HCF := Lib.hid CF
          have HT := Lib.hid hto
          have p0 := (pwIn5 hP).1
          simp only at p0
          clear CF hto
          go_wp2_with fail
          clear p0 p1 p2
          refine HCF.out.mono ?_
          rintro e W3 ⟨A3, c3, U3, uc3, rfl, hS3, hU3, hf3, hfu3, hb3⟩
          replace hP := hP.below hb3
          replace hx1 := hx1.below hb3
          replace hB := hB.trans (hb3.mono hB.size)
          clear hb3 hf3 hfu3 HCF
          have p4 := (pwIn5 hP).2.2.2.2
          simp only at p4
          go_wp2_with fail
          clear p4
          refine (samePlG_any wA A3 wc c3 now now2 W3 (by omega) hx1.w.1 hS3.1).mono ?_
          rintro e W4 ⟨b1, rfl, hb1, hb4⟩
          replace hP := hP.below hb4
          replace hx1 := hx1.below hb4
          replace hU3 := hU3.below hb4
          replace hB := hB.trans (hb4.mono hB.size)
          clear hb4
          have HB1 := Lib.hid hb1
          clear hb1
          have p3 := (pwIn5 hP).2.2.2.1
          simp only at p3
          cases b1
          · go_wp2_with fail
            go_ret
            refine ⟨?_, hB⟩
            have hbf := false_of_not HV.out (fun h => Bool.noConfusion (HB1.out.2 (HBV.out.1 h).1))
            clear HV HBV HB1
            subst hbf
            rfl
          · go_wp2_with fail
            have HSU := Lib.hid (sameUnG_any uA U3 uc uc3 us us2 W4 (by have := HFL.out; omega) hx1.u.1 hU3.1)
            (with_reducible refine HSU.out.mono ?_)
            rintro e W5 ⟨b2, rfl, hb2, hb5⟩
            have hbe : bv = b2 := by
              rw [Bool.eq_iff_iff, HV.out, HBV.out, hb2]
              exact ⟨fun h => h.2, fun h => ⟨HB1.out.1 (by trivial), h⟩⟩
            clear hb2 HV HBV HB1
            subst hbe
            go_wp2_with fail
            go_ret
            refine ⟨?_, hB.trans (hb5.mono hB.size)⟩
            rfl
  · have HNO := Lib.hid (show ¬ PastR (⟨bA, bc, base, t, oA, oc, ops, uA, uc, us, wA, wc, now⟩ : Pw).v from fun h => h1 ⟨h.2.1, h.2.2.1⟩)
    rcases (show t < 0 ∨ (¬ t < 0 ∧ 1099511627776 < t) by omega) with h2 | ⟨h2, h3⟩
    all_goals
      clear h1
      go_enter Try.func8, Try.ntmps8
      go_wp2_with fail
      go_ret
      refine ⟨?_, hB⟩
      have hbf := false_of_not HV.out HNO.out
      clear HV HNO
      subst hbf
      rfl
end Go.Proofs.Ytfpgfclmmdihjaa

/- The document's Freeze. -/
namespace Go.Proofs.Ytfpgfclmmdihjaa
open Go.RowKit Nam Cod Tre Pst

theorem cnBytes_le {c : Cn} (h : CnW c) : (cnBytes c).size ≤ 30 := by
  have b1 := bytesOf_le10 h.1
  have b2 := bytesOf_le10 h.2.1
  have b3 := bytesOf_le10 h.2.2
  unfold cnBytes
  simp only [ByteArray.size_append]
  omega
theorem cnCat_le {l : List Cn} (h : ∀ c ∈ l, CnW c) (k : Nat) : (cnK.cat (l.take k)).size ≤ 30 * l.length := by
  have h1 := cnK.cat_take_le l k
  have h2 := cnK.cat_le 30 l (fun x hx => cnBytes_le (h x hx))
  omega
theorem past_le {q : Pv} (h : PInv q) (hl : q.ops.length ≤ 60) : (pastBytes q).size ≤ 200000 := by
  have h1 := tree_bytes h.tree
  have b1 := bytesOf_le10 (n := q.t) (by have := h.t0; have := h.t1; unfold i64; omega)
  have b2 := bytesOf_le10 (n := (q.ops.length : Int)) (by unfold i64; omega)
  have h3 := catM_le q.ops q.ops.length h.ok
  rw [List.take_length] at h3
  unfold pastBytes headV
  simp only [ByteArray.size_append]
  omega
theorem cnIdxF {A : Option Addr} {b off len cap k : Nat} (hA : A = some ⟨b, off, none⟩) (h : k < len) : ∀ w, (Instr.indexAt 28 (.slice A len cap) (.int .i64 k)).run Try.prog w = .ok (.pointer (some ⟨b, off + k * 3, none⟩)) w := fun w => by
  subst hA
  have h2 : (k : Int) < (len : Int) := by omega
  go_simp
set_option maxRecDepth 100000 in
set_option maxHeartbeats 8000000 in
theorem refFreeze_any (pos clock : Int) (y : Pw) (A : Option Addr) (c : Nat) (l : List Cn) (w : World) (h1 : i64 pos) (h2 : i64 clock) (hI : PInv y.v) (hl60 : y.ops.length ≤ 60) (hok : PastOk w y) (hl : l.length ≤ 1000) (hw : ∀ c ∈ l, CnW c) (hT : cnE.Sl w A l) : Calls Try.prog 11 #[.int .i64 pos, .int .i64 clock, .agg #[.slice y.bA y.base.length y.bc, .int .i64 y.t, .slice y.oA y.ops.length y.oc, .slice y.uA y.us.length y.uc, .slice y.wA y.now.length y.wc], .slice A l.length c] w fun e w' => e = .returned (.string (snBytes ⟨pos, clock, y.v, l⟩)) ∧ Below w.heap.size w w' := by
  have HT := Lib.hid hT
  have HW := Lib.hid hw
  have hP : pwE.In (w.alloc (.cells #[.slice y.bA y.base.length y.bc, .int .i64 y.t, .slice y.oA y.ops.length y.oc, .slice y.uA y.us.length y.uc, .slice y.wA y.now.length y.wc] 27)) w.heap.size y := El.In.new (E := pwE) w y _ rfl
  have hB := below_alloc (Below.refl w.heap.size w) (.cells #[.slice y.bA y.base.length y.bc, .int .i64 y.t, .slice y.oA y.ops.length y.oc, .slice y.uA y.us.length y.uc, .slice y.wA y.now.length y.wc] 27)
  have C1 := Lib.hid (fun wx => refNum_any pos wx h1.1 h1.2)
  have C2 := Lib.hid (fun wx => refNum_any clock wx h2.1 h2.2)
  have C4 := Lib.hid (fun wx => refNum_any (l.length : Int) wx (by omega) (by omega))
  have C3 := Lib.hid (fun wx (hb : Below w.heap.size w wx) => pastRefPrint_any y wx (hok.below hb) (by have := tree_len hI.tree; exact Nat.le_trans this (by decide)) (by omega) (tree_fit hI.tree) (by have := hI.t0; have := hI.t1; show i64 y.v.t; unfold i64; omega) hI.ok (tree_bytes hI.tree))
  have z1 := bytesOf_le10 h1
  have z2 := bytesOf_le10 h2
  have z4 := bytesOf_le10 (n := (l.length : Int)) (by unfold i64; omega)
  have z3 := past_le hI hl60
  have HV := Lib.hid (show snBytes ⟨pos, clock, y.v, l⟩ = bytesOf pos ++ bytesOf clock ++ pastBytes y.v ++ bytesOf l.length ++ cnK.cat l by unfold snBytes Kd.part; simp only [ByteArray.append_assoc])
  have HC := Lib.hid (cnCat_le hw)
  generalize pastBytes y.v = x3 at *
  generalize bytesOf pos = x1 at *
  generalize bytesOf clock = x2 at *
  generalize bytesOf (l.length : Int) = x4 at *
  have y1 : ¬ 9223372036854775807 < x1.size + x2.size := by omega
  have y2 : ¬ 9223372036854775807 < x1.size + x2.size + x3.size := by omega
  have y3 : ¬ 9223372036854775807 < x1.size + x2.size + x3.size + x4.size := by omega
  clear hI hok hw hT
  go_enter Try.func11, Try.ntmps11
  go_upto_region 1 with fail
  generalize w.alloc (.cells #[.slice y.bA y.base.length y.bc, .int .i64 y.t, .slice y.oA y.ops.length y.oc, .slice y.uA y.us.length y.uc, .slice y.wA y.now.length y.wc] 27) = W at *
  obtain ⟨n1, hn1⟩ : ∃ n, w.heap.size = n := ⟨_, rfl⟩
  rw [hn1] at hP ⊢
  clear hn1
  replace hP : pwE.In W.drew n1 y := hP
  replace hB := hB.drew
  go_region_held3 (fun w' => w'.cell? ⟨n1, 0, none⟩ = some (.slice y.bA y.base.length y.bc) ∧ w'.cell? ⟨n1, 1, none⟩ = some (.int .i64 y.t) ∧ w'.cell? ⟨n1, 2, none⟩ = some (.slice y.oA y.ops.length y.oc) ∧ w'.cell? ⟨n1, 3, none⟩ = some (.slice y.uA y.us.length y.uc) ∧ w'.cell? ⟨n1, 4, none⟩ = some (.slice y.wA y.now.length y.wc)) (with_reducible exact pwIn5 hP) (first | (go_at_call 38; (with_reducible first | refine (C1.out _).mono ?_ | refine (C2.out _).mono ?_ | refine (C4.out _).mono ?_); rintro e w3 ⟨rfl, hb3⟩; have hP := hP.below hb3; have hB := below_then hB hb3) | (go_at_call 39; (with_reducible refine (C3.out _ hB).mono ?_); rintro e w3 ⟨rfl, hb3⟩; have hP := hP.below hb3; have hB := below_then hB hb3))
  all_goals
    clear hP C1 C2 C3 C4 y1 y2 y3
    have hZ0 : (x1 ++ x2 ++ x3 ++ x4).size ≤ 300000 := by simp only [ByteArray.size_append]; omega
    generalize x1 ++ x2 ++ x3 ++ x4 = N at *
    clear z1 z2 z3 z4
    have HST := Lib.hid (show N = N ++ cnK.cat (l.take 0) by rw [List.take_zero]; exact L_inj (by rw [L_app]; show L N = L N ++ L ⟨#[]⟩; simp [L]))
    go_wp2_with fail
    go_loopw [9, 10] (fun v i wr => ∃ k : Nat, k ≤ l.length ∧ i = .int .i64 k ∧ v = .string (N ++ cnK.cat (l.take k)) ∧ Below w.heap.size w wr) (fun _ i _ => l.length - (intOf i).toNat)
    case atStart => exact ⟨0, Nat.zero_le _, rfl, by rw [← HST.out], hB⟩
    case round =>
      clear hB
      obtain ⟨k, hk, rfl, rfl, hB⟩ := hrel
      by_cases hkl : k < l.length
      · obtain ⟨b, off, eA, hbw, hc⟩ := HT.out (by omega)
        have hx := cnIdxF (cap := c) eA hkl
        have hat : cnE.At wr b (off + k * 3) l[k] := (hc k hkl).below hB hbw
        have hbr := Nat.lt_of_lt_of_le hbw hB.size
        have hzk := HC.out k
        have HNX := Lib.hid (show N ++ cnK.cat (l.take (k + 1)) = N ++ cnK.cat (l.take k) ++ cnBytes l[k] by rw [cnK.cat_next l k hkl, ByteArray.append_assoc]; rfl)
        obtain ⟨i1, i2, i3⟩ := HW.out l[k] (List.getElem_mem _)
        generalize l[k] = x at *
        have hss : (N ++ cnK.cat (l.take k)).size = N.size + (cnK.cat (l.take k)).size := ByteArray.size_append
        generalize N ++ cnK.cat (l.take k) = Z at *
        have D1 := Lib.hid (fun wx => refNum_any x.d wx i1.1 i1.2)
        have D2 := Lib.hid (fun wx => refNum_any x.i wx i2.1 i2.2)
        have D3 := Lib.hid (fun wx => refNum_any x.n wx i3.1 i3.2)
        have z1 := bytesOf_le10 i1
        have z2 := bytesOf_le10 i2
        have z3 := bytesOf_le10 i3
        have HX := Lib.hid (show cnBytes x = bytesOf x.d ++ bytesOf x.i ++ bytesOf x.n from rfl)
        generalize cnBytes x = Bx at *
        generalize bytesOf x.d = x1 at *
        generalize bytesOf x.i = x2 at *
        generalize bytesOf x.n = x3 at *
        have HNV := Lib.hid (show N ++ cnK.cat (l.take (k + 1)) = Z ++ x1 ++ x2 ++ x3 by rw [HNX.out, HX.out]; simp only [ByteArray.append_assoc])
        have y1 : ¬ 9223372036854775807 < Z.size + x1.size := by omega
        have y2 : ¬ 9223372036854775807 < Z.size + x1.size + x2.size := by omega
        have y3 : ¬ 9223372036854775807 < Z.size + x1.size + x2.size + x3.size := by omega
        clear hc eA i1 i2 i3 hss hzk HNX HX z1 z2 z3
        go_upto_region 5 with fail
        replace hat : cnE.At wr.drew b (off + k * 3) x := hat
        replace hB := hB.drew
        replace hbr : b < wr.drew.heap.size := hbr
        go_region_held3 (fun w' => w'.cell? ⟨b, off + k * 3, none⟩ = some (.int .i64 x.d) ∧ w'.cell? ⟨b, off + k * 3 + 1, none⟩ = some (.int .i64 x.i) ∧ w'.cell? ⟨b, off + k * 3 + 2, none⟩ = some (.int .i64 x.n)) (with_reducible exact cnAt3 hat) (first | (go_at_call 38; (with_reducible first | refine (D1.out _).mono ?_ | refine (D2.out _).mono ?_ | refine (D3.out _).mono ?_); rintro e w3 ⟨rfl, hb3⟩; have hat := hat.below hb3 hbr; have hbr := Nat.lt_of_lt_of_le hbr hb3.size; have hB := below_then hB hb3))
        all_goals
          clear hat hbr y1 y2 y3 D1 D2 D3 hx
          go_wp2_with fail
          exact ⟨⟨k + 1, by omega, by go_num, by rw [HNV.out], hB⟩, by simp [intOf]; omega⟩
      · obtain rfl : k = l.length := by omega
        rw [List.take_length, ← HV.out]
        go_wp2_with fail
        go_ret
        exact ⟨rfl, hB⟩
end Go.Proofs.Ytfpgfclmmdihjaa

/- A past among the arguments, opened. -/
namespace Go.Proofs.Ytfpgfclmmdihjaa
open Go.ChangeShapes Go.WideShapes Go.ChangeAt Go.RowKit Go.Deep Nam Cod Tre Pst

instance unInh : Inhabited Un := ⟨⟨⟨0, 0, ⟨#[]⟩⟩, false, false⟩⟩
theorem cellsBool : Try.prog.cellsOf 4 = 1 := by kernel_rfl
theorem cellsUn : Try.prog.cellsOf 120 = 5 := by kernel_rfl
theorem cellsPa : Try.prog.cellsOf 27 = 5 := by kernel_rfl
theorem cellsPls : Try.prog.cellsOf 23 = 1 := by kernel_rfl
theorem cellsOps : Try.prog.cellsOf 24 = 1 := by kernel_rfl
theorem cellsUns : Try.prog.cellsOf 25 = 1 := by kernel_rfl

set_option maxRecDepth 100000 in
/-- Five cells that read as an undo. -/
theorem read_un {H : Type} {enc : TypeId × Value → H} {W : World} {base : Nat} {sp : Nat → Bool} {held : Bool} {fuel : Nat} {cs : List Value} {x : DataW H × List MemPlace}
    (h : DataW.trod enc Try.prog W base sp held fuel 120 cs = some x) : ∃ u : Un, cs = unE.c u ∧ True := by
  obtain ⟨xs, n, _, _, hl, hlen, hf⟩ := DataW.trod_struct Try.underlying120 h
  have hl5 : cs.length = 5 := hl.trans cellsUn
  have hl3 : xs.length = 3 := hlen
  match cs, hl5, xs, hl3 with
  | [c0, c1, c2, c3, c4], _, [y0, y1, y2], _ =>
    have h0 := hf 0 _ rfl
    have h1 := hf 1 _ rfl
    have h2 := hf 2 _ rfl
    simp [cells24, cellsBool] at h0 h1 h2
    obtain ⟨p, e0, _⟩ := read_pl h0
    obtain ⟨b1, e1, _⟩ := DataW.trod_bool Try.underlying4 h1
    obtain ⟨b2, e2, _⟩ := DataW.trod_bool Try.underlying4 h2
    simp at e0 e1 e2
    obtain ⟨rfl, rfl, rfl⟩ := e0
    subst e1 e2
    exact ⟨⟨p, b1, b2⟩, rfl, trivial⟩

set_option maxRecDepth 100000 in
/-- Five cells that read as a past. -/
theorem read_past {H : Type} {enc : TypeId × Value → H} {W : World} {fuel : Nat} {cs : List Value} {x : DataW H × List MemPlace}
    (h : DataW.trod enc Try.prog W 0 (fun _ => true) true fuel 27 cs = some x) : ∃ x : Pw, cs = pwE.c x ∧ PastOk W x ∧ (∀ p ∈ x.base, WidePl p) ∧ ∀ m ∈ x.ops, WideMv m := by
  obtain ⟨xs, n, _, _, hl, hlen, hf⟩ := DataW.trod_struct Try.underlying27 h
  have hl5 : cs.length = 5 := hl.trans cellsPa
  have hl3 : xs.length = 5 := hlen
  match cs, hl5, xs, hl3 with
  | [c0, c1, c2, c3, c4], _, [y0, y1, y2, y3, y4], _ =>
    have h0 := hf 0 _ rfl
    have h1 := hf 1 _ rfl
    have h2 := hf 2 _ rfl
    have h3 := hf 3 _ rfl
    have h4 := hf 4 _ rfl
    simp [cells3, cellsPls, cellsOps, cellsUns] at h0 h1 h2 h3 h4
    obtain ⟨bA, bc, base, e0, v0, q0⟩ := open_cells plE WidePl Try.underlying23 cells24 (fun h => read_pl h) h0
    obtain ⟨t, e1, _, _⟩ := DataW.trod_int Try.underlying3 h1
    obtain ⟨oA, oc, ops, e2, v2, q2⟩ := open_cells opE WideMv Try.underlying24 cells25 (fun h => by
      obtain ⟨C, D, I, M, K, U, t, rfl, hw, ht⟩ := read_op h
      exact ⟨⟨C, D, I, M, K, U, t⟩, rfl, hw, ht⟩) h2
    obtain ⟨uA, uc, us, e3, v3, _⟩ := open_cells unE (fun _ => True) Try.underlying25 cellsUn (fun h => read_un h) h3
    obtain ⟨wA, wc, now, e4, v4, _⟩ := open_cells plE WidePl Try.underlying23 cells24 (fun h => read_pl h) h4
    simp at e0 e1 e2 e3 e4
    subst e0 e1 e2 e3 e4
    exact ⟨⟨bA, bc, base, t, oA, oc, ops, uA, uc, us, wA, wc, now⟩, rfl, ⟨v0, v2, v3, v4⟩, q0, q2⟩

set_option maxRecDepth 100000 in
theorem open_past {H : Type} {enc : TypeId × Value → H} {W : World} {base : Nat} {v : Value} {d : DataW H} {ps : List MemPlace}
    (hv : Value.okWide Try.prog W .any base 27 v) (h : DataW.Trod enc Try.prog W 0 (fun _ => true) true 27 v d ps) : ∃ x : Pw, v = .agg #[.slice x.bA x.base.length x.bc, .int .i64 x.t, .slice x.oA x.ops.length x.oc, .slice x.uA x.us.length x.uc, .slice x.wA x.now.length x.wc] ∧ PastOk W x ∧ (∀ p ∈ x.base, WidePl p) ∧ ∀ m ∈ x.ops, WideMv m := by
  obtain ⟨cs, rfl, _⟩ := okWide_struct Try.underlying27 hv
  obtain ⟨fuel, hf⟩ := h
  obtain ⟨x, e, hw⟩ := read_past hf
  refine ⟨x, ?_, hw⟩
  obtain ⟨l⟩ := cs
  simp [Value.cells] at e
  rw [e]
  rfl
end Go.Proofs.Ytfpgfclmmdihjaa
