/- Texts laid one behind the other: Kg, Fa, Tl, Tp, Xg, Xh, Wb, Wa, Wc, Wd, We, Wf, Wg, Wh, Vk, Wi, Wq, Wr, Xi, To, Ws, Uo, Wt, Wu, Wj, Xa, Shf, Tf, Tg, Vl, Wn, Vi, Vj, Xe, Xj. -/
import Derived.Test.YtfpgfclmmdihjaaGreatB04
import Derived.Deep.RegionHeld3
import Derived.Lib.QuietBelow
import Derived.Lib.SmallJoins
import Derived.Deep.SlicePairs
import Derived.ChangeSlices
import Derived.ChangeShapes
import Derived.Shelf.Strings.Builder1
import Derived.Test.YtfpgfclmmdihjaaGreatChecked
import Derived.Lib.Builder
import Derived.Lib.AppendStr
import Derived.Test.YtfpgfclmmdihjaaGreatRows
/- What a Seal is, as lists of bytes: it is opened, whatever stands behind; what is opened was sealed just so; what is cut isn't open. -/
namespace Go.Proofs.YtfpgfclmmdihjaaGreat.Crk
open Go.RowKit Crc

abbrev L (s : ByteArray) : List UInt8 := s.data.toList
theorem L_inj {a b : ByteArray} (h : L a = L b) : a = b := by
  apply ByteArray.ext
  exact Array.toList_inj.1 h
theorem L_len (s : ByteArray) : (L s).length = s.size := Array.length_toList
theorem L_app (a b : ByteArray) : L (a ++ b) = L a ++ L b := by simp [L, ByteArray.data_append]
theorem L_ext (s : ByteArray) (i j : Nat) : L (s.extract i j) = ((L s).take j).drop i := by
  simp only [L, ByteArray.data_extract, Array.toList_extract]
  rw [List.extract_eq_take_drop, List.drop_take]

theorem L_four (n : Nat) : L (four n) = fourL n := rfl
theorem fourL_len (n : Nat) : (fourL n).length = 4 := rfl

/-- The number of the first four. -/
def numL (l : List UInt8) : Nat := (l.getD 0 0).toNat + 256 * (l.getD 1 0).toNat + 65536 * (l.getD 2 0).toNat + 16777216 * (l.getD 3 0).toNat
theorem num_L (s : ByteArray) : num s = numL (L s) := rfl

theorem u8_val (n : Nat) (h : n < 256) : (UInt8.ofNat n).toNat = n := by rw [UInt8.toNat_ofNat']; omega

theorem numL_four (n : Nat) (r : List UInt8) (h : n < 4294967296) : numL (fourL n ++ r) = n := by
  have h0 := u8_val (n % 256) (by omega)
  have h1 := u8_val (n / 256 % 256) (by omega)
  have h2 := u8_val (n / 65536 % 256) (by omega)
  have h3 := u8_val (n / 16777216) (by omega)
  have e : numL (fourL n ++ r) = (UInt8.ofNat (n % 256)).toNat + 256 * (UInt8.ofNat (n / 256 % 256)).toNat + 65536 * (UInt8.ofNat (n / 65536 % 256)).toNat + 16777216 * (UInt8.ofNat (n / 16777216)).toNat := rfl
  rw [e, h0, h1, h2, h3]
  omega

theorem fourL_num (l : List UInt8) (h : 4 ≤ l.length) : fourL (numL l) = l.take 4 := by
  match l, h with
  | a :: b :: c :: d :: r, _ =>
    have ha := a.toNat_lt
    have hb := b.toNat_lt
    have hc := c.toNat_lt
    have hd := d.toNat_lt
    have e : numL (a :: b :: c :: d :: r) = a.toNat + 256 * b.toNat + 65536 * c.toNat + 16777216 * d.toNat := rfl
    rw [e]
    have e0 : (a.toNat + 256 * b.toNat + 65536 * c.toNat + 16777216 * d.toNat) % 256 = a.toNat := by omega
    have e1 : (a.toNat + 256 * b.toNat + 65536 * c.toNat + 16777216 * d.toNat) / 256 % 256 = b.toNat := by omega
    have e2 : (a.toNat + 256 * b.toNat + 65536 * c.toNat + 16777216 * d.toNat) / 65536 % 256 = c.toNat := by omega
    have e3 : (a.toNat + 256 * b.toNat + 65536 * c.toNat + 16777216 * d.toNat) / 16777216 = d.toNat := by omega
    unfold fourL
    rw [e0, e1, e2, e3]
    simp

/-- A Seal's bytes. -/
theorem L_seal (s : ByteArray) : L (sealOf s) = fourL s.size ++ (fourL (sumB s) ++ L s) := by
  unfold sealOf
  rw [L_app, L_app, L_four, L_four, List.append_assoc]
theorem seal_size (s : ByteArray) : (sealOf s).size = 8 + s.size := by
  rw [← L_len, L_seal, List.length_append, List.length_append, fourL_len, fourL_len, L_len]; omega

/-- Whatever begins with those eight bytes. -/
theorem head_facts (t : ByteArray) (n m : Nat) (r : List UInt8) (hn : n < 4294967296) (hm : m < 4294967296) (h : L t = fourL n ++ (fourL m ++ r)) :
    t.size = 8 + r.length ∧ num t = n ∧ num (t.extract 4 t.size) = m ∧ L (bodyOf t) = r.take n := by
  have hs : t.size = 8 + r.length := by rw [← L_len, h, List.length_append, List.length_append, fourL_len, fourL_len]; omega
  have h1 : num t = n := by rw [num_L, h, numL_four n _ hn]
  refine ⟨hs, h1, ?_, ?_⟩
  · rw [num_L, L_ext, ← L_len, List.take_length, h, List.drop_left' (fourL_len n), numL_four m _ hm]
  · unfold bodyOf
    rw [h1, L_ext, h, ← List.append_assoc, show 8 + n = (fourL n ++ fourL m).length + n from rfl, List.take_length_add_append]
    exact List.drop_left' rfl

theorem sumB_L {a b : ByteArray} (h : L a = L b) : sumB a = sumB b := by rw [L_inj h]

/-- WHAT WAS SEALED IS OPENED, whatever stands behind. -/
theorem seal_opens (s b : ByteArray) (hs : s.size < 4294967296) : opT (sealOf s ++ b) = s ∧ opC (sealOf s ++ b) = 8 + (s.size : Int) := by
  have hL : L (sealOf s ++ b) = fourL s.size ++ (fourL (sumB s) ++ (L s ++ L b)) := by
    rw [L_app, L_seal, List.append_assoc, List.append_assoc]
  obtain ⟨h1, h2, h3, h4⟩ := head_facts _ _ _ _ hs (sumB_lt s) hL
  have h5 : bodyOf (sealOf s ++ b) = s := L_inj (by rw [h4, ← L_len]; exact List.take_left' rfl)
  have hg : isSeal (sealOf s ++ b) = true := by
    refine decide_eq_true ⟨by omega, ?_, ?_⟩
    · rw [h2, h1, List.length_append, L_len, L_len]; omega
    · rw [h5, h3]
  rw [opT, opC, if_pos hg, if_pos hg, h5, h2]
  exact ⟨rfl, rfl⟩

theorem seal_opens' (s : ByteArray) (hs : s.size < 4294967296) : opT (sealOf s) = s ∧ opC (sealOf s) = 8 + (s.size : Int) := by
  have h := seal_opens s ⟨#[]⟩ hs
  rwa [show sealOf s ++ ⟨#[]⟩ = sealOf s from L_inj (by rw [L_app]; exact List.append_nil _)] at h

/-- WHAT IS OPENED WAS SEALED JUST SO. -/
theorem opened_was (t : ByteArray) (h : isSeal t = true) : sealOf (opT t) = t.extract 0 (8 + num t) ∧ num t + 8 ≤ t.size := by
  obtain ⟨h8, hn, hx⟩ := of_decide_eq_true h
  refine ⟨L_inj ?_, hn⟩
  rw [opT, if_pos h, L_seal, hx]
  have hb : (bodyOf t).size = num t := by unfold bodyOf; rw [ByteArray.size_extract]; omega
  have hl : 8 ≤ (L t).length := by rw [L_len]; exact h8
  rw [hb, num_L t, fourL_num _ (by omega), num_L (t.extract 4 t.size), L_ext, ← L_len, List.take_length, fourL_num _ (by rw [List.length_drop]; omega)]
  unfold bodyOf
  rw [L_ext, L_ext, List.drop_zero, ← num_L]
  rw [← List.append_assoc]
  have e : (L t).take 4 ++ ((L t).drop 4).take 4 = (L t).take 8 := by rw [← List.take_add]
  rw [e, List.drop_take]
  rw [← List.take_add, Nat.add_sub_cancel_left]

/-- WHAT IS CUT ISN'T OPEN. -/
theorem cut_shut (s : ByteArray) (k : Nat) (hs : s.size < 4294967296) (hk : k < 8 + s.size) : opC ((sealOf s).extract 0 k) = -1 := by
  have hsz : ((sealOf s).extract 0 k).size = k := by rw [ByteArray.size_extract, seal_size]; omega
  have hg : ¬ isSeal ((sealOf s).extract 0 k) = true := by
    intro h
    obtain ⟨h8, hn, _⟩ := of_decide_eq_true h
    rw [hsz] at h8 hn
    have e : num ((sealOf s).extract 0 k) = s.size := by
      rw [num_L, L_ext, List.drop_zero, L_seal]
      have e2 : (fourL s.size ++ (fourL (sumB s) ++ L s)).take k = fourL s.size ++ (fourL (sumB s) ++ L s).take (k - 4) := by
        rw [List.take_append, List.take_of_length_le (by rw [fourL_len]; omega), fourL_len]
      rw [e2, numL_four _ _ hs]
    omega
  rw [opC, if_neg hg]

end Go.Proofs.YtfpgfclmmdihjaaGreat.Crk

/- Lists of things that have bytes, whatever the things: their bytes, what is read of bytes. Gifts and frames as values. No call in it. -/
namespace Go.Proofs.YtfpgfclmmdihjaaGreat
open Go.RowKit Nam Cod

structure Gf where
  d : Int
  i : Int
  c : Int
  t : Int
  s : ByteArray
def zeroGf : Gf := ⟨0, 0, 0, 0, ⟨#[]⟩⟩
def gfB (g : Gf) : Bool := decide (0 ≤ g.d ∧ g.d < 12 ∧ 1 ≤ g.i ∧ g.i ≤ 1099511627776 ∧ 0 ≤ g.c ∧ g.c ≤ 1099511627776 ∧ 0 ≤ g.t ∧ g.t ≤ 1099511627776 ∧ g.s.size ≤ 256)
def gfL (g : Gf) : List Int := [g.d, g.i, g.c, g.t]
def gfBytes (g : Gf) : ByteArray := bytesOf g.d ++ bytesOf g.i ++ bytesOf g.c ++ bytesOf g.t ++ textOf g.s
def isGf (s : ByteArray) (p : Nat) (bad : Bool) : Option (Gf × Nat) :=
  (isNum s p bad).bind fun a => (isNum s a.2 false).bind fun b => (isNum s b.2 false).bind fun c => (isNum s c.2 false).bind fun d => (isText s d.2 false 256).bind fun e =>
    if gfB ⟨a.1, b.1, c.1, d.1, e.1⟩ = true then some (⟨a.1, b.1, c.1, d.1, e.1⟩, e.2) else none
theorem gf_there (A Z : ByteArray) (g : Gf) (h : gfB g = true) : isGf (A ++ (gfBytes g ++ Z)) A.size false = some (g, A.size + (gfBytes g).size) := by
  have h' := h
  unfold gfB at h'
  rw [decide_eq_true_iff] at h'
  obtain ⟨d, i, c, t, s⟩ := g
  dsimp only at h'
  obtain ⟨X, hX⟩ : ∃ X, A ++ (gfBytes ⟨d, i, c, t, s⟩ ++ Z) = X := ⟨_, rfl⟩
  have h1 := num_atR X A (bytesOf i ++ (bytesOf c ++ (bytesOf t ++ (textOf s ++ Z)))) d A.size (by rw [← hX]; unfold gfBytes; simp only [ByteArray.append_assoc]) rfl (by unfold i64; omega)
  have h2 := num_atR X (A ++ bytesOf d) (bytesOf c ++ (bytesOf t ++ (textOf s ++ Z))) i (A.size + (bytesOf d).size) (by rw [← hX]; unfold gfBytes; simp only [ByteArray.append_assoc]) (by rw [ByteArray.size_append]) (by unfold i64; omega)
  have h3 := num_atR X (A ++ bytesOf d ++ bytesOf i) (bytesOf t ++ (textOf s ++ Z)) c (A.size + (bytesOf d).size + (bytesOf i).size) (by rw [← hX]; unfold gfBytes; simp only [ByteArray.append_assoc]) (by rw [ByteArray.size_append, ByteArray.size_append]) (by unfold i64; omega)
  have h4 := num_atR X (A ++ bytesOf d ++ bytesOf i ++ bytesOf c) (textOf s ++ Z) t (A.size + (bytesOf d).size + (bytesOf i).size + (bytesOf c).size) (by rw [← hX]; unfold gfBytes; simp only [ByteArray.append_assoc]) (by rw [ByteArray.size_append, ByteArray.size_append, ByteArray.size_append]) (by unfold i64; omega)
  have h5 := text_there (A ++ bytesOf d ++ bytesOf i ++ bytesOf c ++ bytesOf t) s Z 256 (by omega) (by omega)
  rw [show A ++ bytesOf d ++ bytesOf i ++ bytesOf c ++ bytesOf t ++ (textOf s ++ Z) = X by rw [← hX]; unfold gfBytes; simp only [ByteArray.append_assoc], ByteArray.size_append, ByteArray.size_append, ByteArray.size_append, ByteArray.size_append] at h5
  rw [hX]
  unfold isGf
  rw [h1, Option.bind_some]
  dsimp only
  rw [h2, Option.bind_some]
  dsimp only
  rw [h3, Option.bind_some]
  dsimp only
  rw [h4, Option.bind_some]
  dsimp only
  rw [h5, Option.bind_some]
  dsimp only
  rw [if_pos h]
  unfold gfBytes
  simp only [ByteArray.size_append, Nat.add_assoc]
theorem isGf_some {s : ByteArray} {p : Nat} {bad : Bool} {g : Gf} {q : Nat} (h : isGf s p bad = some (g, q)) : ∃ q1 q2 q3 q4, isNum s p bad = some (g.d, q1) ∧ isNum s q1 false = some (g.i, q2) ∧ isNum s q2 false = some (g.c, q3) ∧ isNum s q3 false = some (g.t, q4) ∧ isText s q4 false 256 = some (g.s, q) ∧ gfB g = true := by
  unfold isGf at h
  cases ha : isNum s p bad with
  | none => rw [ha] at h; cases h
  | some a =>
    obtain ⟨a, qa⟩ := a
    rw [ha, Option.bind_some] at h
    dsimp only at h
    cases hb : isNum s qa false with
    | none => rw [hb] at h; cases h
    | some b =>
      obtain ⟨b, qb⟩ := b
      rw [hb, Option.bind_some] at h
      dsimp only at h
      cases hc : isNum s qb false with
      | none => rw [hc] at h; cases h
      | some c =>
        obtain ⟨c, qc⟩ := c
        rw [hc, Option.bind_some] at h
        dsimp only at h
        cases hd : isNum s qc false with
        | none => rw [hd] at h; cases h
        | some d =>
          obtain ⟨d, qd⟩ := d
          rw [hd, Option.bind_some] at h
          dsimp only at h
          cases he : isText s qd false 256 with
          | none => rw [he] at h; cases h
          | some e =>
            obtain ⟨e, qe⟩ := e
            rw [he, Option.bind_some] at h
            dsimp only at h
            by_cases hg : gfB ⟨a, b, c, d, e⟩ = true
            · rw [if_pos hg] at h
              injection h with h
              injection h with h1 h2
              subst h1 h2
              exact ⟨qa, qb, qc, qd, rfl, hb, hc, hd, he, hg⟩
            · rw [if_neg hg] at h; cases h
theorem gf_bytes {s : ByteArray} {p : Nat} {bad : Bool} {g : Gf} {q : Nat} (h : isGf s p bad = some (g, q)) : gfB g = true ∧ (L s).drop p = L (gfBytes g) ++ (L s).drop q := by
  obtain ⟨q1, q2, q3, q4, h1, h2, h3, h4, h5, h6⟩ := isGf_some h
  refine ⟨h6, ?_⟩
  rw [num_bytesR h1, num_bytesR h2, num_bytesR h3, num_bytesR h4, text_bytes h5]
  unfold gfBytes
  simp only [L_app, List.append_assoc]
def opK : Kd Mv where
  ok := okB
  b o := o.bytes
  is := isOp
  there A Z x h := op_there' A Z h
  back h := op_bytes h
def enK : Kd En where
  ok := entB
  b := entBytes
  is := isEnt
  there A Z x h := ent_there A Z x h
  back h := ent_bytes h
def rpK : Kd Rp where
  ok := rpB
  b := rpBytes
  is := isRp
  there A Z x h := rp_there A Z (rpB_iff.1 h)
  back h := ⟨rpB_iff.2 (rp_bytes h).1, (rp_bytes h).2⟩
def gfK : Kd Gf where
  ok := gfB
  b := gfBytes
  is := isGf
  there := gf_there
  back h := gf_bytes h

structure Fr where
  a : Int
  b : Int
  boot : Int
  first : Int
  pos : Int
  start : Int
  ack : Int
  grant : Int
  s : Int
  t : Int
  os : List Mv
  rs : List Rp
  es : List En
  gs : List Gf
def zeroFr : Fr := ⟨0, 0, 0, 0, 0, 0, 0, 0, 0, 0, [], [], [], []⟩
def frL (f : Fr) : List Int := [f.a, f.b, f.boot, f.first, f.pos, f.start, f.ack, f.grant, f.s, f.t]
def fr6 (f : Fr) : List Int := [f.boot, f.pos, f.ack, f.grant, f.s, f.t]
def ofFr (l : List Int) (os : List Mv) (rs : List Rp) (es : List En) (gs : List Gf) : Fr := ⟨l.getD 0 0, l.getD 1 0, l.getD 2 0, l.getD 3 0, l.getD 4 0, l.getD 5 0, l.getD 6 0, l.getD 7 0, l.getD 8 0, l.getD 9 0, os, rs, es, gs⟩
theorem ofFr_self (f : Fr) : ofFr (frL f) f.os f.rs f.es f.gs = f := rfl
theorem frL_of {l : List Int} (h : l.length = 10) (os : List Mv) (rs : List Rp) (es : List En) (gs : List Gf) : frL (ofFr l os rs es gs) = l := by
  match l, h with
  | [_, _, _, _, _, _, _, _, _, _], _ => rfl
/-- What Right asks at its end. -/
def frEnd (f : Fr) : Bool := decide (0 ≤ f.a ∧ f.a < 12 ∧ 0 ≤ f.b ∧ f.b < 12 ∧ 1 ≤ f.first ∧ f.first ≤ 1099511627776 ∧ 1 ≤ f.start ∧ f.start ≤ 1099511627776 ∧ f.os.length ≤ 64 ∧ f.es.length ≤ 64 ∧ f.rs.length ≤ 8 ∧ f.gs.length ≤ 8)
def frB (f : Fr) : Bool := (fr6 f).all cnt0 && (f.os.all okB && (f.es.all entB && (f.rs.all rpB && (f.gs.all gfB && frEnd f))))
structure FrR (f : Fr) : Prop where
  six : ∀ n ∈ fr6 f, 0 ≤ n ∧ n ≤ 1099511627776
  os : ∀ x ∈ f.os, okB x = true
  es : ∀ x ∈ f.es, entB x = true
  rs : ∀ x ∈ f.rs, rpB x = true
  gs : ∀ x ∈ f.gs, gfB x = true
  e : 0 ≤ f.a ∧ f.a < 12 ∧ 0 ≤ f.b ∧ f.b < 12 ∧ 1 ≤ f.first ∧ f.first ≤ 1099511627776 ∧ 1 ≤ f.start ∧ f.start ≤ 1099511627776 ∧ f.os.length ≤ 64 ∧ f.es.length ≤ 64 ∧ f.rs.length ≤ 8 ∧ f.gs.length ≤ 8
theorem frB_iff {f : Fr} : frB f = true ↔ FrR f := by
  unfold frB frEnd
  simp only [Bool.and_eq_true, List.all_eq_true, decide_eq_true_iff]
  constructor
  · rintro ⟨h1, h2, h3, h4, h5, h6⟩
    exact ⟨fun n hn => by have := h1 n hn; unfold cnt0 at this; exact of_decide_eq_true this, h2, h3, h4, h5, h6⟩
  · rintro ⟨h1, h2, h3, h4, h5, h6⟩
    exact ⟨fun n hn => by unfold cnt0; exact decide_eq_true (h1 n hn), h2, h3, h4, h5, h6⟩
def bodyF (f : Fr) : ByteArray := catN (frL f) ++ (opK.part f.os ++ (rpK.part f.rs ++ (enK.part f.es ++ gfK.part f.gs)))
def frBytes (f : Fr) : ByteArray := Crk.sealOf (bodyF f)
def isBody (t : ByteArray) : Option Fr :=
  (isNums t 10 0).bind fun a => (opK.isPart 64 t a.2 false).bind fun b => (rpK.isPart 8 t b.2 false).bind fun c => (enK.isPart 64 t c.2 false).bind fun d => (gfK.isPart 8 t d.2 false).bind fun e =>
    if e.2 = t.size ∧ frB (ofFr a.1 b.1 c.1 d.1 e.1) = true then some (ofFr a.1 b.1 c.1 d.1 e.1) else none
def parseF (s : ByteArray) : Option Fr := if Crk.opC s = s.size ∧ s.size ≤ 65536 then isBody (Crk.opT s) else none
end Go.Proofs.YtfpgfclmmdihjaaGreat

/- How a place, and a list of places, is read. -/
namespace Go.Proofs.YtfpgfclmmdihjaaGreat
open Go.RowKit Tre Nam Cod


/-- A place read: what it is, where it stands behind it, and whether it went wrong. -/
def plStep (s : ByteArray) (p : Nat) (bad : Bool) (v : Pl) (q : Nat) (bad' : Bool) : Prop := (isPlace s p bad = some (v, q) ∧ bad' = false) ∨ (isPlace s p bad = none ∧ bad' = true)
theorem plStep_of {s : ByteArray} {p q1 q2 q3 : Nat} {bad b1 b2 b3 : Bool} {n u : Int} {t : ByteArray} (h1 : numStep s p bad n q1 b1) (h2 : numStep s q1 b1 u q2 b2) (h3 : textStep s q2 b2 t q3 b3) : plStep s p bad ⟨n, u, t⟩ q3 b3 := by
  cases b3
  · left
    obtain ⟨e2, g3⟩ := h3.good
    subst e2
    obtain ⟨e1, g2⟩ := h2.good
    subst e1
    have g1 := h1.back
    unfold isPlace
    simp only [g1, g2, g3, Option.bind_some]
    exact ⟨trivial, trivial⟩
  · right
    refine ⟨?_, rfl⟩
    unfold isPlace
    cases b1
    · have h1 := h1.back
      cases b2
      · have h2 := h2.back
        have h3 := h3.ill
        simp only [h1, h2, h3, Option.bind_some, Option.bind_none]
      · have h2 := h2.ill
        simp only [h1, h2, Option.bind_some, Option.bind_none]
    · have h1 := h1.ill
      simp only [h1, Option.bind_none]
theorem isPlace_bad (s : ByteArray) (p : Nat) : isPlace s p true = none := rfl

/-- So many places read, from p on. -/
def plsStep (s : ByteArray) (p k : Nat) (l : List Pl) (q : Nat) (bad : Bool) : Prop := (isPlaces s k p = some (l, q) ∧ bad = false) ∨ (isPlaces s k p = none ∧ bad = true)
theorem plsStep.zero (s : ByteArray) (p : Nat) : plsStep s p 0 [] p false := Or.inl ⟨rfl, rfl⟩
theorem plsStep.next {s : ByteArray} {p k q q' : Nat} {l : List Pl} {v : Pl} {bad bad' : Bool} (h : plsStep s p k l q bad) (h1 : plStep s q bad v q' bad') : plsStep s p (k + 1) (l ++ [v]) q' bad' := by
  rcases h with ⟨h, rfl⟩ | ⟨h, rfl⟩
  · rcases h1 with ⟨h1, rfl⟩ | ⟨h1, rfl⟩
    · left; refine ⟨?_, rfl⟩; unfold isPlaces; simp only [h, h1, Option.bind_some]
    · right; refine ⟨?_, rfl⟩; unfold isPlaces; simp only [h, h1, Option.bind_some, Option.bind_none]
  · rcases h1 with ⟨h1, _⟩ | ⟨_, rfl⟩
    · rw [isPlace_bad] at h1; cases h1
    · right; refine ⟨?_, rfl⟩; unfold isPlaces; simp only [h, Option.bind_none]
theorem isPlaces_none (s : ByteArray) (p k : Nat) (h : isPlaces s k p = none) : ∀ n, k ≤ n → isPlaces s n p = none
  | 0, hk => by obtain rfl : k = 0 := by omega
                exact h
  | n + 1, hk => by
    by_cases e : k = n + 1
    · subst e; exact h
    · unfold isPlaces; rw [isPlaces_none s p k h n (by omega)]; rfl

section
variable {w a : World} {b : Nat} {p : Pl} {s : ByteArray}
theorem PlIn.putN (h : PlIn w b p) (x : Int) : PlIn (w.setCell ⟨b, 0, none⟩ (.int .i64 x)) b ⟨x, p.u, p.s⟩ := by
  unfold PlIn at h ⊢
  simp [World.setCell, Array.getElem?_modify, h]
theorem PlIn.putU (h : PlIn w b p) (x : Int) : PlIn (w.setCell ⟨b, 1, none⟩ (.int .i64 x)) b ⟨p.n, x, p.s⟩ := by
  unfold PlIn at h ⊢
  simp [World.setCell, Array.getElem?_modify, h]
theorem PlIn.putS (h : PlIn w b p) (x : ByteArray) : PlIn (w.setCell ⟨b, 2, none⟩ (.string x)) b ⟨p.n, p.u, x⟩ := by
  unfold PlIn at h ⊢
  simp [World.setCell, Array.getElem?_modify, h]
theorem PlIn.other (h : PlIn w b p) (n i : Nat) (v : Value) (hne : b ≠ n) : PlIn (w.setCell ⟨n, i, none⟩ v) b p :=
  (Below.heap_setCell w ⟨n, i, none⟩ v b hne).trans h
theorem by_own {w' : World} {row : Option Nat} (h : a.grownBy w (some b)) (g : w.grownBy w' row) (hrow : ∀ k, row = some k → a.heap.size ≤ k) : a.grownBy w' (some b) :=
  ⟨g.os.trans h.os, g.tape.trans h.tape, g.output.trans h.output, Nat.le_trans h.size g.size, fun k hk hne =>
    (g.block k (Nat.lt_of_lt_of_le hk h.size) (fun e => by have := hrow k e.symm; omega)).trans (h.block k hk hne)⟩
end

set_option maxRecDepth 100000 in
set_option maxHeartbeats 4000000 in
theorem readPlace_uni {w : World} {b p : Nat} {s : ByteArray} {bad : Bool} (hs : s.size ≤ 1000000) (hp : p ≤ s.size) (hr : Rd 60 w b s p bad) :
    Calls Tryz.prog 60 #[.pointer (some ⟨b, 0, none⟩)] w fun e w' => ∃ (v : Pl) (q : Nat) (bad' : Bool), e = .returned (.agg #[.int .i64 v.n, .int .i64 v.u, .string v.s]) ∧ Rd 60 w' b s q bad' ∧ q ≤ s.size ∧ v.s.size ≤ 1000000 ∧ w.grownBy w' (some b) ∧ plStep s p bad v q bad' := by
  have hbw := hr.lt
  go_enter Tryz.func60, Tryz.ntmps60
  go_wp2_with fail
  have hO := PlIn.new (w.alloc (.cells #[.int .i64 0, .int .i64 0, .string ⟨#[]⟩] 117)) zero
  rw [alloc_size] at hO
  have hZ := (PlIn.new w zero).alloc (.cells #[.int .i64 0, .int .i64 0, .string ⟨#[]⟩] 117)
  have hB := below_alloc (below_alloc (Below.refl w.heap.size w) (.cells #[.int .i64 0, .int .i64 0, .string ⟨#[]⟩] 117)) (.cells #[.int .i64 0, .int .i64 0, .string ⟨#[]⟩] 117)
  have hR := hr.below hB
  have hG := by_below hB (some b)
  have hO : PlIn ((w.alloc (.cells #[.int .i64 0, .int .i64 0, .string ⟨#[]⟩] 117)).alloc (.cells #[.int .i64 0, .int .i64 0, .string ⟨#[]⟩] 117)) (w.heap.size + 1) zero := hO
  have hZ : PlIn ((w.alloc (.cells #[.int .i64 0, .int .i64 0, .string ⟨#[]⟩] 117)).alloc (.cells #[.int .i64 0, .int .i64 0, .string ⟨#[]⟩] 117)) w.heap.size zero := hZ
  generalize (w.alloc (.cells #[.int .i64 0, .int .i64 0, .string ⟨#[]⟩] 117)).alloc (.cells #[.int .i64 0, .int .i64 0, .string ⟨#[]⟩] 117) = W0 at *
  obtain ⟨n2, h2⟩ : ∃ n, w.heap.size = n := ⟨_, rfl⟩
  obtain ⟨n3, h3⟩ : ∃ n, w.heap.size + 1 = n := ⟨_, rfl⟩
  have hn2 : w.heap.size ≤ n2 := by omega
  have hn3 : w.heap.size ≤ n3 := by omega
  have e2 : b ≠ n2 := by omega
  have e3 : b ≠ n3 := by omega
  have e4 : n2 ≠ n3 := by omega
  have i2 : some n2 ≠ some b := fun e => e2 (Option.some.inj e).symm
  have i3 : some n3 ≠ some b := fun e => e3 (Option.some.inj e).symm
  rw [h3] at hO ⊢
  rw [h2] at hZ ⊢
  clear h2 h3 hB hr
  refine (num_uni hs hp hR).mono ?_
  clear hR
  rintro e w1 ⟨v1, q1, b1, rfl, hR, q1s, hg, st1⟩
  replace hO := hO.keep hg i3
  replace hZ := hZ.keep hg i2
  replace hG := by_trans hG hg
  clear hg
  have kc := hO.cells
  obtain ⟨k0, k1, k2⟩ := kc
  have kf := hO.frozen
  clear k1 k2
  go_wp2_with fail
  clear k0 kf
  replace hO := hO.putN v1
  replace hZ := hZ.other n3 0 (.int .i64 v1) e4
  replace hR := hR.other n3 0 (.int .i64 v1) e3
  replace hG := by_setNew hG n3 0 (.int .i64 v1) hn3
  generalize w1.setCell ⟨n3, 0, none⟩ (.int .i64 v1) = W1 at *
  refine (num_uni hs q1s hR).mono ?_
  clear hR
  rintro e w2 ⟨v2, q2, b2, rfl, hR, q2s, hg, st2⟩
  replace hO := hO.keep hg i3
  replace hZ := hZ.keep hg i2
  replace hG := by_trans hG hg
  clear hg
  have kc := hO.cells
  obtain ⟨k0, k1, k2⟩ := kc
  have kf := hO.frozen
  clear k0 k2
  go_wp2_with fail
  clear k1 kf
  replace hO := hO.putU v2
  replace hZ := hZ.other n3 1 (.int .i64 v2) e4
  replace hR := hR.other n3 1 (.int .i64 v2) e3
  replace hG := by_setNew hG n3 1 (.int .i64 v2) hn3
  generalize w2.setCell ⟨n3, 1, none⟩ (.int .i64 v2) = W2 at *
  refine (text_uni hs q2s hR).mono ?_
  clear hR
  rintro e w3 ⟨v3, q3, b3, rfl, hR, q3s, hv, hg, st3⟩
  replace hO := hO.keep hg i3
  replace hZ := hZ.keep hg i2
  replace hG := by_trans hG hg
  clear hg
  have kc := hO.cells
  obtain ⟨k0, k1, k2⟩ := kc
  have kf := hO.frozen
  clear k0 k1
  have hst := plStep_of st1 st2 st3
  clear st1 st2 st3
  have hO7 := hO.putS v3
  have hZ7 := hZ.other n3 2 (.string v3) e4
  have hR7 := hR.other n3 2 (.string v3) e3
  have hG7 := by_setNew hG n3 2 (.string v3) hn3
  have HST := Lib.hid hst
  clear hst hO hZ hR hG
  go_wp2_with (first | (refine store_pl rfl _ _ rfl _ ⟨v1, v2, v3⟩ rfl rfl zero hZ7 ?_) | (refine load_pl rfl _ rfl _ rfl ⟨v1, v2, v3⟩ hO7 ?_))
  refine ret_pl1 (hZ7.set ⟨v1, v2, v3⟩) rfl rfl rfl ?_
  exact ⟨⟨v1, v2, v3⟩, q3, b3, rfl, hR7.row n2 _ e2, q3s, hv, by_setRow hG7 n2 _ hn2, HST.out⟩
end Go.Proofs.YtfpgfclmmdihjaaGreat

/- How a tree is read, by the program and by the document. -/
namespace Go.Proofs.YtfpgfclmmdihjaaGreat
open Go.RowKit Tre Nam Cod

def cntStep (s : ByteArray) (p : Nat) (bad : Bool) (n q : Nat) (bad' : Bool) : Prop := (isCount s p bad 64 = some ((n : Int), q) ∧ bad' = false) ∨ (isCount s p bad 64 = none ∧ n = 0 ∧ bad' = true)
/-- What was read: a tree and where it ends; or that none stands there. -/
def treeStep (s : ByteArray) (p : Nat) (bad : Bool) (l : List Pl) (q : Nat) (bad' : Bool) : Prop := (isTree s p bad = some (l, q) ∧ bad' = false) ∨ (isTree s p bad = none ∧ l = [] ∧ bad' = true)
/-- How far the list is. -/
def wayStep (s : ByteArray) (p : Nat) (bad : Bool) (n k : Nat) (l : List Pl) (q : Nat) (bad' : Bool) : Prop :=
  (∃ q0, isCount s p bad 64 = some ((n : Int), q0) ∧ plsStep s q0 k l q bad') ∨ (isCount s p bad 64 = none ∧ n = 0 ∧ l = [] ∧ bad' = true)
theorem wayStep.start {s : ByteArray} {p n q : Nat} {bad bad' : Bool} (h : cntStep s p bad n q bad') : wayStep s p bad n 0 [] q bad' := by
  rcases h with ⟨h, rfl⟩ | ⟨h, hn, rfl⟩
  · exact Or.inl ⟨q, h, plsStep.zero s q⟩
  · exact Or.inr ⟨h, hn, rfl, rfl⟩
theorem wayStep.next {s : ByteArray} {p n k q q' : Nat} {bad b1 b2 : Bool} {l : List Pl} {v : Pl} (h : wayStep s p bad n k l q b1) (hk : k < n) (h1 : plStep s q b1 v q' b2) : wayStep s p bad n (k + 1) (l ++ [v]) q' b2 := by
  rcases h with ⟨q0, h, h2⟩ | ⟨h, hn, _⟩
  · exact Or.inl ⟨q0, h, h2.next h1⟩
  · omega
theorem wayStep.ill {s : ByteArray} {p n k q : Nat} {bad : Bool} {l : List Pl} (h : wayStep s p bad n k l q true) (hk : k ≤ n) : isTree s p bad = none := by
  unfold isTree
  rcases h with ⟨q0, h, h2⟩ | ⟨h, _⟩
  · rcases h2 with ⟨_, h2⟩ | ⟨h2, _⟩
    · cases h2
    · simp only [h, Option.bind_some, Int.toNat_natCast, isPlaces_none s q0 k h2 n hk, Option.bind_none]
  · simp only [h, Option.bind_none]
theorem wayStep.good {s : ByteArray} {p n q : Nat} {bad : Bool} {l : List Pl} (h : wayStep s p bad n n l q false) : isTree s p bad = if treeB l = true then some (l, q) else none := by
  unfold isTree
  rcases h with ⟨q0, h, h2⟩ | ⟨_, _, _, h⟩
  · rcases h2 with ⟨h2, _⟩ | ⟨_, h2⟩
    · simp only [h, Option.bind_some, Int.toNat_natCast, h2]
    · cases h2
  · cases h

theorem cnt_uni {w : World} {b p : Nat} {s : ByteArray} {bad : Bool} (hs : s.size ≤ 1000000) (hp : p ≤ s.size) (hr : Rd 60 w b s p bad) :
    Calls Tryz.prog 15 #[.pointer (some ⟨b, 0, none⟩), .int .i64 64] w fun e w' => ∃ n q bad', e = .returned (.int .i64 (n : Nat)) ∧ n ≤ 64 ∧ Rd 60 w' b s q bad' ∧ q ≤ s.size ∧ w.grownBy w' (some b) ∧ cntStep s p bad n q bad' := by
  rcases h : isCount s p bad 64 with _ | ⟨v, q⟩
  · exact (count_no hs hp hr h).mono fun e w' ⟨he, ⟨q, hq, hr'⟩, hg⟩ => ⟨0, q, true, he, by omega, hr', hq, hg, Or.inr ⟨h, rfl, rfl⟩⟩
  · obtain ⟨h1, h2, h3⟩ := isCount_some h
    obtain ⟨n, rfl⟩ : ∃ n : Nat, v = n := ⟨v.toNat, by omega⟩
    exact (count_yes hs hp hr h).mono fun e w' ⟨he, hr', hg⟩ => ⟨n, q, false, he, by omega, hr', (isNum_some h1).2.2.1, hg, Or.inl ⟨h, rfl⟩⟩
theorem refCnt_uni {w : World} {b p : Nat} {s : ByteArray} {bad : Bool} (hs : s.size ≤ 1000000) (hp : p ≤ s.size) (hr : Rd 65 w b s p bad) :
    Calls Tryz.prog 44 #[.pointer (some ⟨b, 0, none⟩), .int .i64 64] w fun e w' => ∃ n q bad', e = .returned (.int .i64 (n : Nat)) ∧ n ≤ 64 ∧ Rd 65 w' b s q bad' ∧ q ≤ s.size ∧ w.grownBy w' (some b) ∧ cntStep s p bad n q bad' := by
  rcases h : isCount s p bad 64 with _ | ⟨v, q⟩
  · exact (refCount_no hs hp hr h).mono fun e w' ⟨he, ⟨q, hq, hr'⟩, hg⟩ => ⟨0, q, true, he, by omega, hr', hq, hg, Or.inr ⟨h, rfl, rfl⟩⟩
  · obtain ⟨h1, h2, h3⟩ := isCount_some h
    obtain ⟨n, rfl⟩ : ∃ n : Nat, v = n := ⟨v.toNat, by omega⟩
    exact (refCount_yes hs hp hr h).mono fun e w' ⟨he, hr', hg⟩ => ⟨n, q, false, he, by omega, hr', (isNum_some h1).2.2.1, hg, Or.inl ⟨h, rfl⟩⟩

set_option maxRecDepth 100000 in
set_option maxHeartbeats 8000000 in
theorem treeRead_uni {w : World} {b p : Nat} {s : ByteArray} {bad : Bool} (hs : s.size ≤ 1000000) (hp : p ≤ s.size) (hr : Rd 60 w b s p bad) :
    Calls Tryz.prog 37 #[.pointer (some ⟨b, 0, none⟩)] w fun e w' => ∃ A cap l q bad', e = .returned (.slice A l.length cap) ∧ Tr w' A l ∧ l.length ≤ 64 ∧ Rd 60 w' b s q bad' ∧ q ≤ s.size ∧ w.grownBy w' (some b) ∧ treeStep s p bad l q bad' := by
  have hbw := hr.lt
  obtain ⟨i, hi, hz0, hz1, hz2⟩ := info_parts pl_info
  go_enter Tryz.func37, Tryz.ntmps37
  go_wp2_with fail
  refine (cnt_uni hs hp hr).mono ?_
  rintro e w1 ⟨n, q0, b0, rfl, hn, hR, hq0, hG, hst⟩
  have hsz := hG.size
  go_wp2_with (at_make; refine wpList_make_own _ rfl _ _ 36 rfl w.heap.size 117 i _ 3 Tryz.underlying36 hi hz0 hz1 .i64 .i64 (n : Int) n rfl rfl rfl (by rw [hz2]; omega) (by unfold maxLen; omega) hsz ?_; intro w2 hown hg2)
  have hO : Own w2 w.heap.size (.slice (some ⟨w1.heap.size, 0, none⟩) 0 n) [] := hown
  have hR := hR.keep hg2 (by simp)
  have hG := by_own hG hg2 (fun k e => by cases e)
  have hw := wayStep.start hst
  clear hown hg2 hst hr hsz
  generalize w1.heap.size = nb at *
  go_loopw [4, 10] (fun x y wr => ∃ (k : Nat) (l : List Pl) (q : Nat) (b1 : Bool), k ≤ n ∧ l.length = k ∧ y = .int .i64 k ∧ Own wr w.heap.size x l ∧ Rd 60 wr b s q b1 ∧ q ≤ s.size ∧ w.grownBy wr (some b) ∧ (∀ p ∈ l, p.s.size ≤ 1000000) ∧ wayStep s p bad n k l q b1) (fun _ y _ => n - (intOf y).toNat)
  case atStart => exact ⟨0, [], q0, b0, Nat.zero_le _, rfl, rfl, hO, hR, hq0, hG, (fun p hp => by cases hp), hw⟩
  case round =>
    clear hO hR hG hw hq0
    obtain ⟨k, l, q, b1, hkn, hlk, rfl, hO, hR, hq, hG, hz, hw⟩ := hrel
    have hsz := hG.size
    by_cases hlt : k < n
    · have HZ := Lib.hid hz
      have HW := Lib.hid hw
      clear hz hw
      go_wp2_with fail
      refine (readPlace_uni hs hq hR).mono ?_
      clear hR hq
      rintro e w3 ⟨v, q', b2, rfl, hR, hq, hv, hg3, hst⟩
      have hO := hO.kept hg3 (Or.inr (fun e => by have := (World.ownsRow.lt hO b e).1; omega))
      have hG := by_trans hG hg3
      have hw := HW.out.next hlt hst
      have hz : ∀ p ∈ l ++ [v], p.s.size ≤ 1000000 := fun p hp => by
        rcases List.mem_append.1 hp with h | h
        · exact HZ.out p h
        · rw [List.mem_singleton] at h; subst h; exact hv
      have hb4 := below_alloc (Below.refl _ w3) (.cells #[.int .i64 v.n, .int .i64 v.u, .string v.s] 117)
      have hE := AtPl.one (PlIn.new w3 v)
      have hO := hO.below hb4
      have hR := hR.below hb4
      have hG := by_trans hG (by_below hb4 _)
      have hB := hG.size
      have hl3 : l.length ≤ 64 := by omega
      have HLK := Lib.hid hlk
      clear hg3 hb4 hst HZ HW hsz hlk
      have HW := Lib.hid hw
      have HZ := Lib.hid hz
      clear hw hz
      go_wp2_with (at_builtin; refine wpList_app rfl _ _ rfl w.heap.size _ l [v] rfl hO (some ⟨w3.heap.size, 0, none⟩) 1 1 rfl rfl hE (fun e => by cases e) (by have : [v].length = 1 := rfl; omega) hB ?_; intro v' w5 hO5 hg5 _)
      have hR := hR.keep hg5 (fun e => by have := (World.ownsRow.lt hO b e.symm).1; omega)
      have hG := by_own hG hg5 (fun k e => (World.ownsRow.lt hO k e).1)
      go_wp2
      go_roundw
      case rel => exact ⟨k + 1, l ++ [v], q', b2, by omega, by have := HLK.out; rw [List.length_append, this]; rfl, by go_num, hO5, hR, hq, hG, HZ.out, HW.out⟩
      case measure => simp [intOf]; omega
    · obtain rfl : k = n := by omega
      obtain ⟨A, cap, rfl, hTr, _, _⟩ := hO.tr
      have hl64 : l.length ≤ 64 := by omega
      clear hlk
      obtain ⟨r0, r1, r2⟩ := hR.cells
      clear r0 r1
      have rf := hR.frozen
      cases b1
      · have hop := hw.good
        have C := fun w (hT : Tr w A l) => right_any A cap l w (by omega) (fun p hp => Nat.le_trans (hz p hp) (by omega)) hT
        obtain ⟨tb, htb⟩ : ∃ x, treeB l = x := ⟨_, rfl⟩
        rw [htb] at C hop
        have HC := Lib.hid C
        have HOP := Lib.hid hop
        clear C hop hw hz hO htb
        cases tb
        · go_wp2_with fail
          refine (HC.out _ hTr).mono ?_
          rintro e w8 ⟨rfl, hb8⟩
          have hR := hR.below hb8
          have hG := by_trans hG (by_below hb8 _)
          clear hTr hb8 HC r2 rf
          obtain ⟨r0, r1, r2⟩ := hR.cells
          clear r0 r1
          have rf := hR.frozen
          go_wp2_with fail
          go_ret
          exact ⟨none, 0, [], q, true, rfl, Tr.nil _ _, Nat.zero_le _, hR.setBad, hq, by_set hG 2 (.bool true), Or.inr ⟨by rw [HOP.out]; simp, rfl, rfl⟩⟩
        · go_wp2_with fail
          refine (HC.out _ hTr).mono ?_
          rintro e w8 ⟨rfl, hb8⟩
          have hR := hR.below hb8
          have hG := by_trans hG (by_below hb8 _)
          have hTr := hTr.below hb8
          clear hb8 HC r2 rf
          go_wp2_with fail
          go_ret
          exact ⟨A, cap, l, q, false, rfl, hTr, by omega, hR, hq, hG, Or.inl ⟨by rw [HOP.out]; simp, rfl⟩⟩
      · have HOP := Lib.hid (hw.ill hkn)
        clear hw hz hO hTr
        go_wp2_with fail
        go_ret
        exact ⟨none, 0, [], q, true, rfl, Tr.nil _ _, Nat.zero_le _, hR.setBad, hq, by_set hG 2 (.bool true), Or.inr ⟨HOP.out, rfl, rfl⟩⟩
end Go.Proofs.YtfpgfclmmdihjaaGreat

/- The program's tree.Read, and of whose making the list is. -/
namespace Go.Proofs.YtfpgfclmmdihjaaGreat
open Go.RowKit Tre Cod Nam

set_option maxRecDepth 100000 in
set_option maxHeartbeats 8000000 in
theorem treeRead_slv {w : World} {b p : Nat} {s : ByteArray} {bad : Bool} (hs : s.size ≤ 1000000) (hp : p ≤ s.size) (hr : Rd 60 w b s p bad) :
    Calls Tryz.prog 37 #[.pointer (some ⟨b, 0, none⟩)] w fun e w' => ∃ A cap l q bad', e = .returned (.slice A l.length cap) ∧ SlV plE w' A cap l ∧ Frs w.heap.size A ∧ l.length ≤ 64 ∧ Rd 60 w' b s q bad' ∧ q ≤ s.size ∧ w.grownBy w' (some b) ∧ treeStep s p bad l q bad' := by
  have hbw := hr.lt
  obtain ⟨i, hi, hz0, hz1, hz2⟩ := info_parts pl_info
  go_enter Tryz.func37, Tryz.ntmps37
  go_wp2_with fail
  refine (cnt_uni hs hp hr).mono ?_
  rintro e w1 ⟨n, q0, b0, rfl, hn, hR, hq0, hG, hst⟩
  have hsz := hG.size
  go_wp2_with (at_make; refine wpList_make_own _ rfl _ _ 36 rfl w.heap.size 117 i _ 3 Tryz.underlying36 hi hz0 hz1 .i64 .i64 (n : Int) n rfl rfl rfl (by rw [hz2]; omega) (by unfold maxLen; omega) hsz ?_; intro w2 hown hg2)
  have hO : Own w2 w.heap.size (.slice (some ⟨w1.heap.size, 0, none⟩) 0 n) [] := hown
  have hR := hR.keep hg2 (by simp)
  have hG := by_own hG hg2 (fun k e => by cases e)
  have hw := wayStep.start hst
  clear hown hg2 hst hr hsz
  generalize w1.heap.size = nb at *
  go_loopw [4, 10] (fun x y wr => ∃ (k : Nat) (l : List Pl) (q : Nat) (b1 : Bool), k ≤ n ∧ l.length = k ∧ y = .int .i64 k ∧ Own wr w.heap.size x l ∧ Rd 60 wr b s q b1 ∧ q ≤ s.size ∧ w.grownBy wr (some b) ∧ (∀ p ∈ l, p.s.size ≤ 1000000) ∧ wayStep s p bad n k l q b1) (fun _ y _ => n - (intOf y).toNat)
  case atStart => exact ⟨0, [], q0, b0, Nat.zero_le _, rfl, rfl, hO, hR, hq0, hG, (fun p hp => by cases hp), hw⟩
  case round =>
    clear hO hR hG hw hq0
    obtain ⟨k, l, q, b1, hkn, hlk, rfl, hO, hR, hq, hG, hz, hw⟩ := hrel
    have hsz := hG.size
    by_cases hlt : k < n
    · have HZ := Lib.hid hz
      have HW := Lib.hid hw
      clear hz hw
      go_wp2_with fail
      refine (readPlace_uni hs hq hR).mono ?_
      clear hR hq
      rintro e w3 ⟨v, q', b2, rfl, hR, hq, hv, hg3, hst⟩
      have hO := hO.kept hg3 (Or.inr (fun e => by have := (World.ownsRow.lt hO b e).1; omega))
      have hG := by_trans hG hg3
      have hw := HW.out.next hlt hst
      have hz : ∀ p ∈ l ++ [v], p.s.size ≤ 1000000 := fun p hp => by
        rcases List.mem_append.1 hp with h | h
        · exact HZ.out p h
        · rw [List.mem_singleton] at h; subst h; exact hv
      have hb4 := below_alloc (Below.refl _ w3) (.cells #[.int .i64 v.n, .int .i64 v.u, .string v.s] 117)
      have hE := AtPl.one (PlIn.new w3 v)
      have hO := hO.below hb4
      have hR := hR.below hb4
      have hG := by_trans hG (by_below hb4 _)
      have hB := hG.size
      have hl3 : l.length ≤ 64 := by omega
      have HLK := Lib.hid hlk
      clear hg3 hb4 hst HZ HW hsz hlk
      have HW := Lib.hid hw
      have HZ := Lib.hid hz
      clear hw hz
      go_wp2_with (at_builtin; refine wpList_app rfl _ _ rfl w.heap.size _ l [v] rfl hO (some ⟨w3.heap.size, 0, none⟩) 1 1 rfl rfl hE (fun e => by cases e) (by have : [v].length = 1 := rfl; omega) hB ?_; intro v' w5 hO5 hg5 _)
      have hR := hR.keep hg5 (fun e => by have := (World.ownsRow.lt hO b e.symm).1; omega)
      have hG := by_own hG hg5 (fun k e => (World.ownsRow.lt hO k e).1)
      go_wp2
      go_roundw
      case rel => exact ⟨k + 1, l ++ [v], q', b2, by omega, by have := HLK.out; rw [List.length_append, this]; rfl, by go_num, hO5, hR, hq, hG, HZ.out, HW.out⟩
      case measure => simp [intOf]; omega
    · obtain rfl : k = n := by omega
      obtain ⟨A, cap, rfl, hTr, hA0, hAc⟩ := hO.tr
      have HA := Lib.hid (⟨hA0, hAc, hO.frs⟩ : (A = none → cap = 0) ∧ l.length ≤ cap ∧ Frs w.heap.size A)
      clear hA0 hAc
      have hl64 : l.length ≤ 64 := by omega
      clear hlk
      obtain ⟨r0, r1, r2⟩ := hR.cells
      clear r0 r1
      have rf := hR.frozen
      cases b1
      · have hop := hw.good
        have C := fun w (hT : Tr w A l) => right_any A cap l w (by omega) (fun p hp => Nat.le_trans (hz p hp) (by omega)) hT
        obtain ⟨tb, htb⟩ : ∃ x, treeB l = x := ⟨_, rfl⟩
        rw [htb] at C hop
        have HC := Lib.hid C
        have HOP := Lib.hid hop
        clear C hop hw hz hO htb
        cases tb
        · go_wp2_with fail
          refine (HC.out _ hTr).mono ?_
          rintro e w8 ⟨rfl, hb8⟩
          have hR := hR.below hb8
          have hG := by_trans hG (by_below hb8 _)
          clear hTr hb8 HC r2 rf
          obtain ⟨r0, r1, r2⟩ := hR.cells
          clear r0 r1
          have rf := hR.frozen
          go_wp2_with fail
          go_ret
          exact ⟨none, 0, [], q, true, rfl, SlV.nil _ _, frs_nil _, Nat.zero_le _, hR.setBad, hq, by_set hG 2 (.bool true), Or.inr ⟨by rw [HOP.out]; simp, rfl, rfl⟩⟩
        · go_wp2_with fail
          refine (HC.out _ hTr).mono ?_
          rintro e w8 ⟨rfl, hb8⟩
          have hR := hR.below hb8
          have hG := by_trans hG (by_below hb8 _)
          have hTr := hTr.below hb8
          clear hb8 HC r2 rf
          go_wp2_with fail
          go_ret
          exact ⟨A, cap, l, q, false, rfl, ⟨plSl.2 hTr, HA.out.1, HA.out.2.1⟩, HA.out.2.2, by omega, hR, hq, hG, Or.inl ⟨by rw [HOP.out]; simp, rfl⟩⟩
      · have HOP := Lib.hid (hw.ill hkn)
        clear hw hz hO hTr
        go_wp2_with fail
        go_ret
        exact ⟨none, 0, [], q, true, rfl, SlV.nil _ _, frs_nil _, Nat.zero_le _, hR.setBad, hq, by_set hG 2 (.bool true), Or.inr ⟨HOP.out, rfl, rfl⟩⟩

theorem treeRead_yes {w : World} {b p q : Nat} {s : ByteArray} {l : List Pl} (hs : s.size ≤ 1000000) (hp : p ≤ s.size) (hr : Rd 60 w b s p false) (h : isTree s p false = some (l, q)) :
    Calls Tryz.prog 37 #[.pointer (some ⟨b, 0, none⟩)] w fun e w' => ∃ A cap, e = .returned (.slice A l.length cap) ∧ SlV plE w' A cap l ∧ Frs w.heap.size A ∧ Rd 60 w' b s q false ∧ w.grownBy w' (some b) := by
  refine (treeRead_slv hs hp hr).mono ?_
  rintro e w' ⟨A, cap, l', q', bad', rfl, h1, h2, _, hR, _, hG, st⟩
  rcases st with ⟨h', rfl⟩ | ⟨h', _⟩
  · rw [h] at h'; cases h'
    exact ⟨A, cap, rfl, h1, h2, hR, hG⟩
  · rw [h] at h'; cases h'
end Go.Proofs.YtfpgfclmmdihjaaGreat

/- The program's readOps, where operations stand. -/
namespace Go.Proofs.YtfpgfclmmdihjaaGreat
open Go.RowKit Tre Cod Nam

theorem op_zero : ∃ i z, Tryz.prog.info? opE.e = some i ∧ i.zero = some z ∧ z.cells.toList = opE.c zeroMv := by
  obtain ⟨i, hi, hz, _, _⟩ := info_parts (show (Tryz.prog.info? 102).map (fun i => (i.zero, i.size, i.bytes)) = some (some (.agg #[.int .i64 0, .int .i64 0, .int .i64 0, .int .i64 0, .int .i64 0, .int .i64 0, .string ⟨#[]⟩]), 7, 64) by kernel_rfl)
  exact ⟨i, _, hi, hz, rfl⟩

set_option maxRecDepth 100000 in
set_option maxHeartbeats 2000000 in
theorem pReadOps_yes {w : World} {b p : Nat} {s : ByteArray} (l : List Mv) (pos : Nat → Nat) (hs : s.size ≤ 1000000) (hp : p ≤ s.size) (hr : Rd 60 w b s p false) (hl : l.length ≤ 60)
    (hcnt : isCount s p false 4096 = some ((l.length : Int), pos 0)) (hop : ∀ k (h : k < l.length), isOp s (pos k) false = some (l[k], pos (k + 1))) (hpos : ∀ k, k ≤ l.length → pos k ≤ s.size) :
    Calls Tryz.prog 38 #[.pointer (some ⟨b, 0, none⟩)] w fun e w' => ∃ A c, e = .returned (.slice A l.length c) ∧ SlV opE w' A c l ∧ Frs w.heap.size A ∧ Rd 60 w' b s (pos l.length) false ∧ w.grownBy w' (some b) := by
  have hbw := hr.lt
  have CC := count_yes (most := 4096) hs hp hr hcnt
  have HOP := Lib.hid hop
  have HPO := Lib.hid hpos
  clear hop hpos hcnt
  go_enter Tryz.func38, Tryz.ntmps38
  go_wp2_with fail
  refine CC.mono ?_
  rintro e w1 ⟨rfl, hR, hG⟩
  have hsz := hG.size
  clear CC hr hp
  go_wp2_with (at_make; refine El.wpList_make opInn zeroMv op_zero rfl _ _ rfl w.heap.size 0 l.length rfl rfl (by omega) (Nat.zero_le _) hsz ?_; intro w2 hO hg2 hg2s)
  replace hO : opE.Own w2 w.heap.size (.slice (some ⟨w1.heap.size, 0, none⟩) 0 l.length) [] := hO
  replace hR := hR.keep hg2 (by simp)
  replace hG := by_own hG hg2 (fun k e => by cases e)
  clear hg2 hg2s hsz
  generalize w1.heap.size = nb at *
  go_loopw [4, 10] (fun x y wr => ∃ k : Nat, k ≤ l.length ∧ y = .int .i64 k ∧ opE.Own wr w.heap.size x (l.take k) ∧ Rd 60 wr b s (pos k) false ∧ w.grownBy wr (some b)) (fun _ y _ => l.length - (intOf y).toNat)
  case atStart => exact ⟨0, Nat.zero_le _, rfl, hO, hR, hG⟩
  case round =>
    clear hO hR hG
    obtain ⟨k, hk, rfl, hO, hR, hG⟩ := hrel
    by_cases hlt : k < l.length
    · have CR := opRead_yes hs (HPO.out k hk) hR (HOP.out k hlt)
      have htk := List.take_succ_eq_append_getElem hlt
      obtain ⟨m, hm⟩ : ∃ m, l[k] = m := ⟨_, rfl⟩
      rw [hm] at CR htk
      have HTK := Lib.hid htk
      have hsz := hG.size
      clear hm htk
      go_wp2_with fail
      refine CR.mono ?_
      clear CR hR
      rintro e w3 ⟨rfl, hR, hg3⟩
      replace hO := hO.kept hg3 (Or.inr (fun e => by have := (hO.lt b e).1; omega))
      replace hG := by_trans hG hg3
      have hb4 := below_alloc (Below.refl _ w3) (.cells #[.int .i64 m.C, .int .i64 m.D, .int .i64 m.I, .int .i64 m.M, .int .i64 m.K, .int .i64 m.U, .string m.s] 102)
      have hE : opE.Sl (w3.alloc (.cells #[.int .i64 m.C, .int .i64 m.D, .int .i64 m.I, .int .i64 m.M, .int .i64 m.K, .int .i64 m.U, .string m.s] 102)) (some ⟨w3.heap.size, 0, none⟩) [m] := (El.In.new (E := opE) w3 m _ rfl).sl
      replace hO := hO.below hb4
      replace hR := hR.below hb4
      replace hG := by_trans hG (by_below hb4 _)
      have hB := hG.size
      have hlt2 : (l.take k).length + 1 ≤ 100000 := by rw [List.length_take]; omega
      have HLT := Lib.hid hlt2
      clear hg3 hb4 hsz hlt2
      go_wp2_with (at_builtin; refine El.wpList_app opInn rfl _ _ rfl w.heap.size _ (l.take k) [m] rfl hO (some ⟨w3.heap.size, 0, none⟩) 1 1 rfl rfl hE (fun e => by cases e) HLT.out hB ?_; intro v' w5 hO5 hg5 _)
      replace hR := hR.keep hg5 (fun e => by have := (hO.lt b e.symm).1; omega)
      replace hG := by_own hG hg5 (fun k e => (hO.lt k e).1)
      go_wp2
      go_roundw
      case rel => exact ⟨k + 1, by omega, by go_num, by rw [HTK.out]; exact hO5, hR, hG⟩
      case measure => simp [intOf]; omega
    · obtain rfl : k = l.length := by omega
      rw [List.take_length] at hO
      obtain ⟨A, c, rfl, hS, h0, hc⟩ := hO.sl
      have HS := Lib.hid (⟨⟨hS, h0, hc⟩, hO.frs⟩ : SlV opE wr A c l ∧ Frs w.heap.size A)
      clear hS h0 hc hO
      go_wp2_with fail
      go_ret
      exact ⟨A, c, rfl, HS.out.1, HS.out.2, hR, hG⟩
end Go.Proofs.YtfpgfclmmdihjaaGreat

/- The library's Search; where an operation of a moment stands; where the counters above a number begin. -/
namespace Go.Proofs.YtfpgfclmmdihjaaGreat
open Go.RowKit Tre Cod Pst

theorem find_pos {l : List Mv} (hr : Ris Mv.C Mv.D l) {m : Mv} {i : Nat} (hi : i ≤ l.length) (hlo : ∀ k (h : k < l.length), k < i → befB l[k].C l[k].D m.C m.D = true) (hhi : ∀ k (h : k < l.length), i ≤ k → befB l[k].C l[k].D m.C m.D = false) : i = pos Mv.C Mv.D l m :=
  pos_eq hi (fun k h hk => by have := hlo k h hk; rw [bef_iff] at this; exact of_decide_eq_true this) (fun h => by have := hhi i h (Nat.le_refl _); rw [bef_iff] at this; exact of_decide_eq_false this)

end Go.Proofs.YtfpgfclmmdihjaaGreat

/- Of the library, at operations and undos: Clone, Grow, Concat. -/
namespace Go.Proofs.YtfpgfclmmdihjaaGreat
open Go.RowKit Tre Cod

def catE {α : Type} (F : Nat → List α) : Nat → List α
  | 0 => []
  | k + 1 => catE F k ++ F k
theorem catE_le {α : Type} (F : Nat → List α) (k : Nat) : ∀ n, k ≤ n → (catE F k).length ≤ (catE F n).length
  | 0, h => by obtain rfl : k = 0 := by omega
               exact Nat.le_refl _
  | n + 1, h => by
    by_cases e : k = n + 1
    · subst e; exact Nat.le_refl _
    · have := catE_le F k n (by omega)
      rw [catE, List.length_append]; omega

theorem infoOp : (Tryz.prog.info? 102).map (fun i => (i.zero, i.size, i.bytes)) = some (some (.agg #[.int .i64 0, .int .i64 0, .int .i64 0, .int .i64 0, .int .i64 0, .int .i64 0, .string ⟨#[]⟩]), 7, 64) := by kernel_rfl
theorem infoUn : (Tryz.prog.info? 125).map (fun i => (i.zero, i.size, i.bytes)) = some (some (.agg #[.int .i64 0, .int .i64 0, .string ⟨#[]⟩, .bool false, .bool false]), 5, 40) := by kernel_rfl
end Go.Proofs.YtfpgfclmmdihjaaGreat

/- Where an operation of a moment stands, and whether it does; a past in new memory; whether each has its undo. -/
namespace Go.Proofs.YtfpgfclmmdihjaaGreat
open Go.RowKit Tre Cod Pst

end Go.Proofs.YtfpgfclmmdihjaaGreat

/- A past in new memory. -/
namespace Go.Proofs.YtfpgfclmmdihjaaGreat
open Go.RowKit Tre Cod Pst

section
variable {P : Program} {ops : Array Oper} {Q : Exit → Act → World → Prop} {md : Region.Mode} {S : World → Prop} {n : Nat}
/-- An operation behind number n: nothing is asked. -/
theorem AllG.after {fuel : Nat} {listed : Array Bool} {a : Act} {w : World} {i : Nat} {o : Oper} {rs : List Nat} (ho : ops.toList[i]? = some o) (hn : (listed.setIfInBounds i true).getD n true = true)
    (h : ∀ K : Act → World → Prop, RowKit.Hid (∀ b v, anyG P md ops Q S n fuel (listed.setIfInBounds i true) b v → K b v) → if Region.wanted o (yielded ops a.tmps) = true then Oper.wp P o a w K Q else K (a.put o.dst undef) w)
    (hs : AllG P md ops Q S n fuel listed a w rs) : AllG P md ops Q S n fuel listed a w (i :: rs) := fun j hj => by
  rcases List.mem_cons.1 hj with rfl | hj
  · exact wpOp_step (by rw [← Array.getElem?_toList]; exact ho) (fun K hK => h K (Lib.hid fun b v hW => hK b v ⟨fun e => (by rw [hn] at e; cases e), hW⟩))
  · exact hs j hj
theorem anyG_plain_after {i : Nat} {oi : Oper} {v : Value} {fuel : Nat} {listed : Array Bool} {a : Act} {w : World} (hi : ops.toList[i]? = some oi)
    (hin : (i == n) = false) (hs : Region.noSelect ops = true) (hf : Region.free md ops listed i = true) (hr : (Region.ready md ops listed).contains i = true)
    (hQ : ∀ c a w, Q (.panic c) (a.put oi.dst v) w → Q (.panic c) a w) (hy : Yields P ops oi v a) (hn : listed.getD n true = true)
    (h : anyG P md ops Q S n fuel (listed.setIfInBounds i true) (a.put oi.dst v) w) : anyG P md ops Q S n (fuel + 1) listed a w :=
  anyG_plain hi hin hs hf hr hQ hy (fun e => by rw [hn] at e; cases e) h
end

/-- Its slices are the call's own. -/
structure PFrs (B : Nat) (y : Pw) : Prop where
  b : Frs B y.bA
  o : Frs B y.oA
  u : Frs B y.uA
  w : Frs B y.wA
theorem PFrs.mono {B C : Nat} {y : Pw} (h : PFrs C y) (hb : B ≤ C) : PFrs B y := ⟨h.b.mono hb, h.o.mono hb, h.u.mono hb, h.w.mono hb⟩
/-- A block ahead of them is written: they stay. -/
theorem PastOk.keep {w w' : World} {y : Pw} {B b : Nat} (h : PastOk w y) (hf : PFrs B y) (hg : w.grownBy w' (some b)) (hb : b < B) : PastOk w' y :=
  ⟨h.b.keep hf.b hg hb, h.o.keep hf.o hg hb, h.u.keep hf.u hg hb, h.w.keep hf.w hg hb⟩
def Two (n0 i j : Nat) (u v : Value) (w : World) : Prop := w.cell? ⟨n0, i, none⟩ = some u ∧ w.cell? ⟨n0, j, none⟩ = some v

end Go.Proofs.YtfpgfclmmdihjaaGreat

/- Moves undone from the last one on. -/
namespace Go.Proofs.YtfpgfclmmdihjaaGreat
open Go.RowKit Tre Cod Pst

theorem undo_at {base : List Pl} (hs : Sorted base) (o : List Mv) (j : Nat) (h : j < o.length) :
    ∃ u, (foldL base (mvs o)).2[j]? = some u ∧ backL (fold1 base o (j + 1)) o[j].K u = fold1 base o j := by
  have hm : j < (mvs o).length := by rw [mvs_len]; exact h
  have e : (mvs o)[j]'hm = mvPl o[j] := List.getElem_map mvPl
  refine ⟨_, foldL_un base (mvs o) j hm, ?_⟩
  have h2 := foldL_undo hs (mvs o) j hm
  unfold fold1
  rw [← mvs_take, ← mvs_take]
  rw [e] at h2 ⊢
  exact h2

end Go.Proofs.YtfpgfclmmdihjaaGreat

/- Add of the program: what comes too late, or a second time. -/
namespace Go.Proofs.YtfpgfclmmdihjaaGreat
open Go.RowKit Tre Cod Pst

end Go.Proofs.YtfpgfclmmdihjaaGreat

/- Add of the program: an operation put in. -/
namespace Go.Proofs.YtfpgfclmmdihjaaGreat
open Go.RowKit Tre Cod Pst

/-- A past written cell by cell. -/
theorem pw_put {w : World} {b : Nat} {x : Pw} (h : pwE.In w b x) (y : Pw) :
    pwE.In (((((w.setCell ⟨b, 0, none⟩ (.slice y.bA y.base.length y.bc)).setCell ⟨b, 1, none⟩ (.int .i64 y.t)).setCell ⟨b, 2, none⟩ (.slice y.oA y.ops.length y.oc)).setCell ⟨b, 3, none⟩ (.slice y.uA y.us.length y.uc)).setCell ⟨b, 4, none⟩ (.slice y.wA y.now.length y.wc)) b y ∧
    w.grownBy (((((w.setCell ⟨b, 0, none⟩ (.slice y.bA y.base.length y.bc)).setCell ⟨b, 1, none⟩ (.int .i64 y.t)).setCell ⟨b, 2, none⟩ (.slice y.oA y.ops.length y.oc)).setCell ⟨b, 3, none⟩ (.slice y.uA y.us.length y.uc)).setCell ⟨b, 4, none⟩ (.slice y.wA y.now.length y.wc)) (some b) := by
  refine ⟨?_, by_cell2 (by_cell2 (by_cell2 (by_cell2 (by_cell w b 0 _) 1 _) 2 _) 3 _) 4 _⟩
  have h1 := h.put ⟨y.bA, y.bc, y.base, x.t, x.oA, x.oc, x.ops, x.uA, x.uc, x.us, x.wA, x.wc, x.now⟩ 0 (.slice y.bA y.base.length y.bc) rfl
  have h2 := h1.put ⟨y.bA, y.bc, y.base, y.t, x.oA, x.oc, x.ops, x.uA, x.uc, x.us, x.wA, x.wc, x.now⟩ 1 (.int .i64 y.t) rfl
  have h3 := h2.put ⟨y.bA, y.bc, y.base, y.t, y.oA, y.oc, y.ops, x.uA, x.uc, x.us, x.wA, x.wc, x.now⟩ 2 (.slice y.oA y.ops.length y.oc) rfl
  have h4 := h3.put ⟨y.bA, y.bc, y.base, y.t, y.oA, y.oc, y.ops, y.uA, y.uc, y.us, x.wA, x.wc, x.now⟩ 3 (.slice y.uA y.us.length y.uc) rfl
  exact h4.put y 4 (.slice y.wA y.now.length y.wc) rfl
def pick3 {α : Type} (a b c : α) (j : Nat) : α := match j with
  | 0 => a
  | 1 => b
  | _ => c


end Go.Proofs.YtfpgfclmmdihjaaGreat

/- Settle of the program. -/
namespace Go.Proofs.YtfpgfclmmdihjaaGreat
open Go.RowKit Tre Cod Pst

end Go.Proofs.YtfpgfclmmdihjaaGreat

/- The document's Own and Of. -/
namespace Go.Proofs.YtfpgfclmmdihjaaGreat
open Go.RowKit Tre Cod Pst

/-- How many of the first k are so. -/
def cntO (p : Mv → Bool) (l : List Mv) (k : Nat) : Nat := ((l.take k).filter p).length
theorem cntO_zero (p : Mv → Bool) (l : List Mv) : cntO p l 0 = 0 := rfl
theorem cntO_next {p : Mv → Bool} {l : List Mv} {k : Nat} {x : Mv} (h : k < l.length) (hx : l[k] = x) : cntO p l (k + 1) = cntO p l k + (if p x then 1 else 0) := by
  unfold cntO
  rw [List.take_succ_eq_append_getElem h, List.filter_append, List.length_append, hx]
  congr 1
  cases hp : p x <;> simp [hp]
theorem cntO_all (p : Mv → Bool) (l : List Mv) : cntO p l l.length = (l.filter p).length := by unfold cntO; rw [List.take_length]
theorem cntO_le (p : Mv → Bool) (l : List Mv) (k : Nat) : cntO p l k ≤ l.length := by
  unfold cntO
  have h1 := List.length_filter_le p (l.take k)
  have h2 : (l.take k).length ≤ l.length := by rw [List.length_take]; omega
  omega

end Go.Proofs.YtfpgfclmmdihjaaGreat

/- Own, Of and count of the program. -/
namespace Go.Proofs.YtfpgfclmmdihjaaGreat
open Go.RowKit Tre Cod Pst

end Go.Proofs.YtfpgfclmmdihjaaGreat

/- Of the law: fine, made. -/
namespace Go.Proofs.YtfpgfclmmdihjaaGreat
open Go.RowKit Tre Cod Pst Nam

theorem refOpRight_mv (m : Mv) (w : World) (hs : m.s.size ≤ 9223372036854775807) :
    Calls Tryz.prog 69 #[.agg #[.int .i64 m.C, .int .i64 m.D, .int .i64 m.I, .int .i64 m.M, .int .i64 m.K, .int .i64 m.U, .string m.s]] w fun e w' => e = .returned (.bool (opB m.C m.D m.I m.M m.K m.U m.s)) ∧ Below w.heap.size w w' := opRefRight_any m.C m.D m.I m.M m.K m.U m.s w hs
def Fine (l : List Mv) : Prop := l.length ≤ 60 ∧ ∀ m ∈ l, m.ok

def mk4 (c d n u : Int) : Mv := ⟨c, d, 1, 1, n, u, ⟨#[97]⟩⟩
end Go.Proofs.YtfpgfclmmdihjaaGreat

/- The law's example; what a past's block leaves of pasts. -/
namespace Go.Proofs.YtfpgfclmmdihjaaGreat
open Go.RowKit Tre Cod Pst Nam

theorem two_int {w : World} {n o : Nat} {x : Pw} {a b : Int} (h : pwE.In w n x) (h1 : w.cell? ⟨n, o, none⟩ = some (.int .i64 a)) (h2 : w.cell? ⟨n, o + 1, none⟩ = some (.int .i64 b)) : False := by
  rw [h.cell] at h1 h2
  match o, h1, h2 with
  | 0, h1, _ => exact absurd (Option.some.inj h1) (by intro e; cases e)
  | 1, _, h2 => exact absurd (Option.some.inj h2) (by intro e; cases e)
  | 2, h1, _ => exact absurd (Option.some.inj h1) (by intro e; cases e)
  | 3, h1, _ => exact absurd (Option.some.inj h1) (by intro e; cases e)
  | 4, h1, _ => exact absurd (Option.some.inj h1) (by intro e; cases e)
  | o + 5, h1, _ => exact absurd h1 (by intro e; cases e)
theorem SlV.off {α : Type} {E : El α} {w w' : World} {A : Option Addr} {c n : Nat} {l : List α} {x : Pw} (h : SlV E w A c l) (hp : pwE.In w n x) (hg : w.grownBy w' (some n)) (hi : ∀ y : α, ∃ a b : Int, (E.c y)[0]? = some (.int .i64 a) ∧ (E.c y)[1]? = some (.int .i64 b)) : SlV E w' A c l := by
  refine ⟨?_, h.2⟩
  intro h0
  obtain ⟨b, off, e, hl, hc⟩ := h.1 h0
  refine ⟨b, off, e, Nat.lt_of_lt_of_le hl hg.size, fun i hi2 => (hc i hi2).grown hg fun e2 => ?_⟩
  have e3 := Option.some.inj e2
  subst e3
  obtain ⟨a1, a2, h1, h2⟩ := hi l[0]
  have g1 := hc 0 h0 0 _ h1
  have g2 := hc 0 h0 1 _ h2
  exact two_int hp g1 g2
/-- A past's own block is written: other pasts stay. -/
theorem PastOk.off {w w' : World} {n : Nat} {x y : Pw} (h : PastOk w y) (hp : pwE.In w n x) (hg : w.grownBy w' (some n)) : PastOk w' y :=
  ⟨h.b.off hp hg fun p => ⟨p.n, p.u, rfl, rfl⟩, h.o.off hp hg fun m => ⟨m.C, m.D, rfl, rfl⟩, h.u.off hp hg fun u => ⟨u.was.n, u.was.u, rfl, rfl⟩, h.w.off hp hg fun p => ⟨p.n, p.u, rfl, rfl⟩⟩

/-- A region's ways brought to one: the frame behind it is F of a past and a block, whatever the way. -/
def Merge (F : Pw → Nat → Act) (R : Pw → Nat → World → Prop) : Exit → Act → World → Prop
  | .normal, a, w => ∃ y n, a = F y n ∧ R y n w
  | _, _, _ => False
theorem wp_merge {P : Program} {c : Code} {Q : Exit → Act → World → Prop} {a : Act} {w : World} (R : Pw → Nat → World → Prop) {F : Pw → Nat → Act} (h : c.wp P (Merge F R) a w) (k : ∀ y n w, R y n w → Q .normal (F y n) w) : c.wp P Q a w :=
  Code.wp_mono (fun e a w h => by
    cases e with
    | normal => obtain ⟨y, n, rfl, hr⟩ := h; exact k y n w hr
    | _ => exact h.elim) h
def am1 : Mv := mk4 2 1 3 2
def am2 : Mv := mk4 1 1 2 3
def am3 : Mv := mk4 2 1 4 0
def am4 : Mv := mk4 1 2 5 0
def aV1 : Pv := ⟨[], 0, [am1], [⟨zero, false, true⟩], [⟨3, 2, ⟨#[97]⟩⟩]⟩
def aV2 : Pv := ⟨[], 0, [am2, am1], [⟨zero, false, true⟩, noUn], [⟨2, 3, ⟨#[97]⟩⟩]⟩
def aV3 : Pv := ⟨[⟨2, 3, ⟨#[97]⟩⟩], 1, [am1], [noUn], [⟨2, 3, ⟨#[97]⟩⟩]⟩
theorem ax1 : addV Pv.zero am1 = (aV1, true) := by rfl
theorem ax2 : addV aV1 am2 = (aV2, true) := by rfl
theorem ax3 : addV aV2 am3 = (aV2, false) := by rfl
theorem ax4 : settleV aV2 1 = aV3 := by rfl
theorem ax5 : addV aV3 am4 = (aV3, false) := by rfl
theorem aok1 : am1.ok := by unfold Mv.ok; rfl
theorem aok2 : am2.ok := by unfold Mv.ok; rfl
theorem aI1 : PInv aV1 := by have h := PInv.zero.add aok1; rw [ax1] at h; exact h
theorem aI2 : PInv aV2 := by have h := aI1.add aok2; rw [ax2] at h; exact h
theorem aI3 : PInv aV3 := by have h := aI2.settle (t := 1) (by decide); rw [ax4] at h; exact h
theorem aown : ownV aV2 1 1 = 2 := by rfl
theorem aof : ofV aV2 2 = 0 := by rfl
end Go.Proofs.YtfpgfclmmdihjaaGreat

/- The program's Read of a past, where one stands. -/
namespace Go.Proofs.YtfpgfclmmdihjaaGreat
open Go.RowKit Tre Cod Pst Nam

set_option maxRecDepth 100000 in
set_option maxHeartbeats 2000000 in
theorem pPastRead_yes {w : World} {b p p1 p2 : Nat} {s : ByteArray} (V : Pv) (pos : Nat → Nat) (hs : s.size ≤ 1000000) (hp : p ≤ s.size) (hr : Rd 60 w b s p false) (hI : PInv V) (hl : V.ops.length ≤ 60)
    (hT : isTree s p false = some (V.base, p1)) (h1 : p1 ≤ s.size) (hC : isCount s p1 false 1099511627776 = some (V.t, p2)) (h2 : p2 ≤ s.size)
    (hcnt : isCount s p2 false 4096 = some ((V.ops.length : Int), pos 0)) (hop : ∀ k (h : k < V.ops.length), isOp s (pos k) false = some (V.ops[k], pos (k + 1))) (hpos : ∀ k, k ≤ V.ops.length → pos k ≤ s.size) :
    Calls Tryz.prog 16 #[.pointer (some ⟨b, 0, none⟩)] w fun e w' => ∃ y : Pw, e = .returned (.agg #[.slice y.bA y.base.length y.bc, .int .i64 y.t, .slice y.oA y.ops.length y.oc, .slice y.uA y.us.length y.uc, .slice y.wA y.now.length y.wc]) ∧ PastOk w' y ∧ y.v = V ∧ Rd 60 w' b s (pos V.ops.length) false ∧ w.grownBy w' (some b) := by
  have hsort := (treeB_facts hI.tree).2.1
  have hbl := tree_len hI.tree
  have hR := hI.right
  have hsz : ∀ m ∈ V.ops, m.s.size ≤ 9223372036854775807 := fun m hm => by have := opB_wide (hI.ok m hm); omega
  have hun := hI.un
  have hnw := hI.nw
  have hopr : OpsR V.ops V.t := hR.2.2.2.1
  clear hI hR
  obtain ⟨base, t, l, us, now⟩ := V
  simp only at hl hT hC hcnt hop hpos hsort hbl hsz hun hnw hopr
  have hbw := hr.lt
  have CF := fun (A : Option Addr) (c : Nat) (O : Option Addr) (oc : Nat) (wx : World) (hA : SlV plE wx A c base) (hO : opE.Sl wx O l) => mvFold_any A c base O oc l wx (by omega) hsort hA hO
  rw [← hnw, ← hun] at CF
  have HCF := Lib.hid CF
  have HRO := Lib.hid (fun (A : Option Addr) (c : Nat) (wx : World) (h : opE.Sl wx A l) => rightOps_any A c l t wx (by omega) hsz h true ⟨fun _ => hopr, fun _ => rfl⟩)
  have HCO := Lib.hid (fun (wx : World) (h : Rd 60 wx b s p2 false) => pReadOps_yes l pos hs h2 h hl hcnt hop hpos)
  have HCC := Lib.hid (fun (wx : World) (h : Rd 60 wx b s p1 false) => count_yes (most := 1099511627776) hs h1 h hC)
  have HCT := Lib.hid (fun (wx : World) (h : Rd 60 wx b s p false) => treeRead_yes hs hp h hT)
  clear CF hun hnw hcnt hop hpos hC hT hsz hopr hsort
  have hR0 := hr.below (below_alloc (Below.refl w.heap.size w) (.cells #[.slice none 0 0, .int .i64 0, .slice none 0 0, .slice none 0 0, .slice none 0 0] 39))
  have hP : pwE.In (w.alloc (.cells #[.slice none 0 0, .int .i64 0, .slice none 0 0, .slice none 0 0, .slice none 0 0] 39)) w.heap.size Pw.zero := El.In.new (E := pwE) w Pw.zero #[.slice none 0 0, .int .i64 0, .slice none 0 0, .slice none 0 0, .slice none 0 0] rfl
  have hG := by_below (below_alloc (Below.refl w.heap.size w) (.cells #[.slice none 0 0, .int .i64 0, .slice none 0 0, .slice none 0 0, .slice none 0 0] 39)) (some b)
  clear hr
  go_enter Tryz.func16, Tryz.ntmps16
  go_wp2_with fail
  have hbA : b < (w.alloc (.cells #[.slice none 0 0, .int .i64 0, .slice none 0 0, .slice none 0 0, .slice none 0 0] 39)).heap.size := by rw [alloc_size]; omega
  generalize w.alloc (.cells #[.slice none 0 0, .int .i64 0, .slice none 0 0, .slice none 0 0, .slice none 0 0] 39) = W0 at *
  obtain ⟨n2, h3⟩ : ∃ n, w.heap.size = n := ⟨_, rfl⟩
  rw [h3] at hP ⊢
  have hn2 : w.heap.size ≤ n2 := by omega
  have hne : n2 ≠ b := by omega
  have hne' : some n2 ≠ some b := fun e => hne (Option.some.inj e)
  clear h3
  refine (HCT.out W0 hR0).mono ?_
  rintro e w1 ⟨A1, c1, rfl, hS1, hF1, hR1, hG1⟩
  have hP1 := hP.keep hG1 hne'
  have hGa := by_trans hG hG1
  clear hR0 hP hG HCT
  go_wp2_with fail
  refine (HCC.out w1 hR1).mono ?_
  rintro e w2 ⟨rfl, hR2, hG2⟩
  have hP2 := hP1.keep hG2 hne'
  have hS2 := hS1.keep hF1 hG2 hbA
  have hGb := by_trans hGa hG2
  have hbs2 : b < w2.heap.size := Nat.lt_of_lt_of_le hbw hGb.size
  clear hP1 hS1 hGa hR1 HCC hG1 hG2
  go_wp2_with fail
  refine (HCO.out w2 hR2).mono ?_
  rintro e w3 ⟨A3, c3, rfl, hS3, hF3, hR3, hG3⟩
  have hP3 := hP2.keep hG3 hne'
  have hS2' := hS2.keep hF1 hG3 hbA
  have hGc := by_trans hGb hG3
  clear hP2 hS2 hGb hR2 HCO hG3
  obtain ⟨r0, r1, r2⟩ := hR3.cells
  clear r0 r1
  go_wp2_with fail
  clear r2
  refine (HRO.out A3 c3 w3 hS3.1).mono ?_
  rintro e w4 ⟨rfl, hb4⟩
  have hP4 := hP3.below hb4
  have hS4 := hS2'.below hb4
  have hS34 := hS3.below hb4
  have hR4 := hR3.below hb4
  have hGd := by_trans hGc (by_below hb4 _)
  clear hP3 hS2' hS3 hR3 hGc hb4 HRO
  go_wp2_with fail
  refine (HCF.out A1 c1 A3 c3 w4 hS4 hS34.1).mono ?_
  rintro e w5 ⟨A5, c5, U5, uc5, rfl, hS5, hU5, hf5, hfu5, hb5⟩
  have hP5 := hP4.below hb5
  have hS15 := hS4.below hb5
  have hS35 := hS34.below hb5
  have hR5 := hR4.below hb5
  have hGe := by_trans hGd (by_below hb5 _)
  have hOk : PastOk w5 ⟨A1, c1, base, t, A3, c3, l, U5, uc5, us, A5, c5, now⟩ := ⟨hS15, hS35, hU5, hS5⟩
  clear hP4 hS4 hS34 hR4 hGd hb5 HCF hS5 hU5 hf5 hfu5 hS15 hS35
  go_wp2_with (first | (refine El.store pwRow rfl _ _ rfl n2 ⟨A1, c1, base, t, A3, c3, l, U5, uc5, us, A5, c5, now⟩ #[.slice A1 base.length c1, .int .i64 t, .slice A3 l.length c3, .slice U5 us.length uc5, .slice A5 now.length c5] rfl rfl rfl Pw.zero hP5 ?_) | fail)
  refine El.ret1 pwRow (hP5.set ⟨A1, c1, base, t, A3, c3, l, U5, uc5, us, A5, c5, now⟩ #[.slice A1 base.length c1, .int .i64 t, .slice A3 l.length c3, .slice U5 us.length uc5, .slice A5 now.length c5] rfl) rfl rfl rfl #[.slice A1 base.length c1, .int .i64 t, .slice A3 l.length c3, .slice U5 us.length uc5, .slice A5 now.length c5] rfl ?_
  exact ⟨⟨A1, c1, base, t, A3, c3, l, U5, uc5, us, A5, c5, now⟩, rfl, hOk.off hP5 (by_row _ _ _), rfl, hR5.row n2 _ (fun e => hne e.symm), by_setRow hGe n2 _ hn2⟩
end Go.Proofs.YtfpgfclmmdihjaaGreat

/- How the arguments of the laws are opened. -/
namespace Go.Proofs.YtfpgfclmmdihjaaGreat
open Go.ChangeShapes Go.WideShapes Go.ChangeAt Go.RowKit Go.Deep Nam Cod Tre

theorem cells24 : Tryz.prog.cellsOf 117 = 3 := by kernel_rfl
/-- Its numbers are words, its text isn't too long for a machine. -/
def WidePl (p : Pl) : Prop := i64 p.n ∧ i64 p.u ∧ p.s.size ≤ maxLen
set_option maxRecDepth 100000 in
theorem read_pl {H : Type} {enc : TypeId × Value → H} {W : World} {base : Nat} {sp : Nat → Bool} {held : Bool} {fuel : Nat} {cs : List Value} {x : DataW H × List MemPlace}
    (h : DataW.trod enc Tryz.prog W base sp held fuel 117 cs = some x) : ∃ p : Pl, cs = [.int .i64 p.n, .int .i64 p.u, .string p.s] ∧ WidePl p := by
  obtain ⟨xs, n, _, _, hl, hlen, hf⟩ := DataW.trod_struct Tryz.underlying117 h
  have hl3 : cs.length = 3 := hl.trans cells24
  have hlx : xs.length = 3 := hlen
  match cs, hl3, xs, hlx with
  | [c0, c1, c2], _, [y0, y1, y2], _ =>
    have h0 := hf 0 _ rfl
    have h1 := hf 1 _ rfl
    have h2 := hf 2 _ rfl
    simp [cells3, cells9] at h0 h1 h2
    obtain ⟨n, e0, _, w0⟩ := DataW.trod_int Tryz.underlying3 h0
    obtain ⟨u, e1, _, w1⟩ := DataW.trod_int Tryz.underlying3 h1
    obtain ⟨s, e2, _, w2⟩ := DataW.trod_string Tryz.underlying9 h2
    simp at e0 e1 e2
    subst e0 e1 e2
    have b0 := bounds_i64 w0
    have b1 := bounds_i64 w1
    have j0 : i64 n := ⟨by omega, by omega⟩
    have j1 : i64 u := ⟨by omega, by omega⟩
    exact ⟨⟨n, u, s⟩, rfl, j0, j1, w2⟩
set_option maxRecDepth 100000 in
theorem open_pl {H : Type} {enc : TypeId × Value → H} {W : World} {base : Nat} {sp : Nat → Bool} {v : Value} {d : DataW H} {ps : List MemPlace}
    (hv : Value.okWide Tryz.prog W .any base 117 v) (h : DataW.Trod enc Tryz.prog W 0 sp true 117 v d ps) : ∃ p : Pl, v = .agg #[.int .i64 p.n, .int .i64 p.u, .string p.s] ∧ WidePl p := by
  obtain ⟨cs, rfl, _⟩ := okWide_struct Tryz.underlying117 hv
  obtain ⟨fuel, hf⟩ := h
  obtain ⟨p, e, hw⟩ := read_pl hf
  refine ⟨p, ?_, hw⟩
  obtain ⟨l⟩ := cs
  simp [Value.cells] at e
  rw [e]
theorem add_plain (b o n : Nat) : (⟨b, o, none⟩ : Addr).add n = ⟨b, o + n, none⟩ := Addr.add_lit b o n
set_option maxRecDepth 100000 in
/-- A list of places among the arguments. -/
theorem open_tree {H : Type} {enc : TypeId × Value → H} {W : World} {base : Nat} {v : Value} {d : DataW H} {ps : List MemPlace}
    (hv : Value.okWide Tryz.prog W .any base 36 v) (h : DataW.Trod enc Tryz.prog W 0 (fun _ => true) true 36 v d ps) :
    ∃ (A : Option Addr) (cap : Nat) (l : List Pl), v = .slice A l.length cap ∧ Tr W A l ∧ l.length ≤ cap ∧ (A = none → cap = 0) ∧ ∀ p ∈ l, WidePl p := by
  obtain ⟨a0, len, cap, rfl, _⟩ := okWide_slice Tryz.underlying36 hv
  obtain ⟨fuel, hf⟩ := h
  rcases open_slice Tryz.underlying36 hf with ⟨hcs, hx⟩ | ⟨a, len', cap', m, n, D, Pls, hcs, _, hle, hm, hmm, hx, hi⟩
  · simp [Value.cells] at hcs
    obtain ⟨rfl, rfl, rfl⟩ := hcs
    exact ⟨none, 0, [], rfl, Tr.nil W none, Nat.le_refl _, fun _ => rfl, fun p hp => by cases hp⟩
  · simp [Value.cells] at hcs
    obtain ⟨rfl, rfl, rfl⟩ := hcs
    simp only [if_true] at hmm
    have hv : ∀ i, i < m → ∃ p : Pl, WidePl p ∧ W.cells? 0 (a.add (i * 3)) 3 = some [.int .i64 p.n, .int .i64 p.u, .string p.s] := by
      intro i him
      obtain ⟨cs', h1, h2⟩ := hi i him
      rw [cells24] at h1
      obtain ⟨p, rfl, hw⟩ := read_pl h2
      exact ⟨p, hw, h1⟩
    obtain ⟨f, hf2⟩ := choose_lt hv
    have hlen : ((List.range len).map f).length = len := by simp
    refine ⟨some a, cap, (List.range len).map f, by rw [hlen], fun h => ?_, by rw [hlen]; exact hle, (fun e => by cases e), fun p hp => ?_⟩
    · rw [hlen] at h
      obtain ⟨bb, off, spot⟩ := a
      have cell : ∀ i, i < len → ∀ j v, [Value.int .i64 (f i).n, .int .i64 (f i).u, .string (f i).s][j]? = some v → W.cell? (((⟨bb, off, spot⟩ : Addr).add (i * 3)).add j) = some v := by
        intro i hil j v hv
        obtain ⟨_, _, hcell⟩ := World.cells?_some (hf2 i (by omega)).2
        have hj : j < 3 := by have := (List.getElem?_eq_some_iff.1 hv).1; simpa using this
        have := hcell j hj
        rw [this]; exact hv
      have hspot : spot = none := by
        have := cell 0 h 0 _ rfl
        simpa [Addr.add] using World.cell?_spot this
      subst hspot
      refine ⟨bb, off, rfl, block_lt_of_cell (cell 0 h 0 _ rfl), fun i hil => ?_⟩
      have hil' : i < len := by rw [hlen] at hil; exact hil
      have he : ((List.range len).map f)[i] = f i := by simp
      rw [he]
      refine ⟨?_, ?_, ?_⟩
      · have := cell i hil' 0 _ rfl; rwa [add_plain, add_plain] at this
      · have := cell i hil' 1 _ rfl; rwa [add_plain, add_plain] at this
      · have := cell i hil' 2 _ rfl; rwa [add_plain, add_plain] at this
    · obtain ⟨i, hi2, rfl⟩ := List.mem_map.1 hp
      exact (hf2 i (by have := List.mem_range.1 hi2; omega)).1

theorem long_le {l : List Pl} (h : ∀ p ∈ l, WidePl p) : ∀ p ∈ l, p.s.size ≤ 9223372036854775807 := fun p hp => Nat.le_trans (h p hp).2.2 (by unfold maxLen; omega)
end Go.Proofs.YtfpgfclmmdihjaaGreat

/- The law's example. -/
namespace Go.Proofs.YtfpgfclmmdihjaaGreat
open Go.RowKit Tre Cod Pst Nam

def PaS (n : Nat) (y : Pw) (w : World) : Prop := w.cell? ⟨n, 0, none⟩ = some (.slice y.bA y.base.length y.bc) ∧ w.cell? ⟨n, 1, none⟩ = some (.int .i64 y.t) ∧ w.cell? ⟨n, 2, none⟩ = some (.slice y.oA y.ops.length y.oc) ∧ w.cell? ⟨n, 3, none⟩ = some (.slice y.uA y.us.length y.uc) ∧ w.cell? ⟨n, 4, none⟩ = some (.slice y.wA y.now.length y.wc)
end Go.Proofs.YtfpgfclmmdihjaaGreat

/- Slices among the arguments, opened, whatever their elements; bytes as elements. -/
namespace Go.Proofs.YtfpgfclmmdihjaaGreat
open Go.ChangeShapes Go.WideShapes Go.ChangeAt Go.RowKit Go.Deep Nam Cod Tre

def byE : El Int where
  e := 5
  k := 1
  c x := [.int .u8 x]
  len _ := rfl
  one p u h := by
    simp only [List.mem_cons, List.not_mem_nil, or_false] at h
    subst h; rfl
  pos := by decide
set_option maxRecDepth 100000 in
theorem open_list {α : Type} (E : El α) (Q : α → Prop) {st : TypeId} (hu : Tryz.prog.underlying st = some (.slice E.e)) (hk : Tryz.prog.cellsOf E.e = E.k) [Inhabited α] {H : Type} {enc : TypeId × Value → H} {W : World} {base : Nat} {v : Value} {d : DataW H} {ps : List MemPlace}
    (hrd : ∀ {fuel : Nat} {cs : List Value} {x : DataW H × List MemPlace}, DataW.trod enc Tryz.prog W 0 (fun _ => true) true fuel E.e cs = some x → ∃ a, cs = E.c a ∧ Q a)
    (hv : Value.okWide Tryz.prog W .any base st v) (h : DataW.Trod enc Tryz.prog W 0 (fun _ => true) true st v d ps) :
    ∃ (A : Option Addr) (cap : Nat) (l : List α), v = .slice A l.length cap ∧ E.Sl W A l ∧ l.length ≤ cap ∧ (A = none → cap = 0) ∧ ∀ p ∈ l, Q p := by
  obtain ⟨a0, len, cap, rfl, _⟩ := okWide_slice hu hv
  obtain ⟨fuel, hf⟩ := h
  rcases open_slice hu hf with ⟨hcs, hx⟩ | ⟨a, len', cap', m, n, D, Pls, hcs, _, hle, hm, hmm, hx, hi⟩
  · simp [Value.cells] at hcs
    obtain ⟨rfl, rfl, rfl⟩ := hcs
    exact ⟨none, 0, [], rfl, El.Sl.nil W none, Nat.le_refl _, fun _ => rfl, fun p hp => by cases hp⟩
  · simp [Value.cells] at hcs
    obtain ⟨rfl, rfl, rfl⟩ := hcs
    simp only [if_true] at hmm
    have hv : ∀ i, i < m → ∃ p : α, Q p ∧ W.cells? 0 (a.add (i * E.k)) E.k = some (E.c p) := by
      intro i him
      obtain ⟨cs', h1, h2⟩ := hi i him
      rw [hk] at h1
      obtain ⟨p, rfl, hw⟩ := hrd h2
      exact ⟨p, hw, h1⟩
    obtain ⟨f, hf2⟩ := choose_lt hv
    have hlen : ((List.range len).map f).length = len := by simp
    refine ⟨some a, cap, (List.range len).map f, by rw [hlen], fun h => ?_, by rw [hlen]; exact hle, (fun e => by cases e), fun p hp => ?_⟩
    · rw [hlen] at h
      obtain ⟨bb, off, spot⟩ := a
      have cell : ∀ i, i < len → ∀ j v, (E.c (f i))[j]? = some v → W.cell? (((⟨bb, off, spot⟩ : Addr).add (i * E.k)).add j) = some v := by
        intro i hil j v hv
        obtain ⟨_, _, hcell⟩ := World.cells?_some (hf2 i (by omega)).2
        have hj : j < E.k := by have := (List.getElem?_eq_some_iff.1 hv).1; rw [E.len] at this; exact this
        have := hcell j hj
        rw [this]; exact hv
      have h00 : ∃ v, (E.c (f 0))[0]? = some v := ⟨(E.c (f 0))[0]'(by rw [E.len]; exact E.pos), List.getElem?_eq_getElem _⟩
      obtain ⟨v0, hv0⟩ := h00
      have hspot : spot = none := by
        have := cell 0 h 0 _ hv0
        simpa [Addr.add] using World.cell?_spot this
      subst hspot
      refine ⟨bb, off, rfl, (by have h9 := block_lt_of_cell (cell 0 h 0 _ hv0); rw [add_plain, add_plain] at h9; exact h9), fun i hil => ?_⟩
      have hil' : i < len := by rw [hlen] at hil; exact hil
      have he : ((List.range len).map f)[i] = f i := by simp
      rw [he]
      intro j u hu
      have := cell i hil' j u hu
      rwa [add_plain, add_plain] at this
    · obtain ⟨i, hi2, rfl⟩ := List.mem_map.1 hp
      exact (hf2 i (by have := List.mem_range.1 hi2; omega)).1

set_option maxRecDepth 100000 in
theorem open_bytes {H : Type} {enc : TypeId × Value → H} {W : World} {base : Nat} {v : Value} {d : DataW H} {ps : List MemPlace}
    (hv : Value.okWide Tryz.prog W .any base 71 v) (h : DataW.Trod enc Tryz.prog W 0 (fun _ => true) true 71 v d ps) :
    ∃ (A : Option Addr) (cap : Nat) (l : List Int), v = .slice A l.length cap ∧ byE.Sl W A l ∧ l.length ≤ cap ∧ (A = none → cap = 0) ∧ ∀ t ∈ l, 0 ≤ t ∧ t ≤ 255 :=
  open_list byE (fun t => 0 ≤ t ∧ t ≤ 255) Tryz.underlying71 cells5 (fun h => by
    obtain ⟨x, e, _, wf⟩ := DataW.trod_int Tryz.underlying5 h
    have hb := bounds_u8 wf
    exact ⟨x, e, by omega, by omega⟩) hv h
set_option maxRecDepth 100000 in
theorem open_u8 {H : Type} {enc : TypeId × Value → H} {W : World} {base : Nat} {sp : Nat → Bool} {v : Value} {d : DataW H} {ps : List MemPlace}
    (hv : Value.okWide Tryz.prog W .any base 5 v) (h : DataW.Trod enc Tryz.prog W 0 sp true 5 v d ps) : ∃ t : Int, v = .int .u8 t ∧ 0 ≤ t ∧ t ≤ 255 := by
  obtain ⟨a, rfl, _, _, wf⟩ := open_int Tryz.underlying5 hv h
  have hb := bounds_u8 wf
  exact ⟨a, rfl, by omega, by omega⟩
/-- A block that is a row of these. -/
theorem El.Sl.row {α : Type} {E : El α} (w : World) (l : List α) (cs : Array Value) (hc : cs = (E.cells l).toArray) : E.Sl (w.alloc (.cells cs E.e)) (some ⟨w.heap.size, 0, none⟩) l := fun _ => by
  subst hc
  refine ⟨w.heap.size, 0, rfl, by rw [alloc_size]; omega, fun i hi j u hu => ?_⟩
  have h := cell_of_row (w.alloc (.cells (E.cells l).toArray E.e)) w.heap.size (i * E.k + j) _ E.e (0, 0) (heap_alloc_new w _)
  rw [show 0 + i * E.k + j = i * E.k + j by omega, h]
  simpa using El.cells_at l i hi j u hu
set_option maxRecDepth 100000 in
/-- A slice among the cells of an argument. -/
theorem open_cells {α : Type} (E : El α) (Q : α → Prop) {st : TypeId} (hu : Tryz.prog.underlying st = some (.slice E.e)) (hk : Tryz.prog.cellsOf E.e = E.k) [Inhabited α] {H : Type} {enc : TypeId × Value → H} {W : World} {fuel : Nat} {cs : List Value} {x : DataW H × List MemPlace}
    (hrd : ∀ {fuel : Nat} {cs : List Value} {x : DataW H × List MemPlace}, DataW.trod enc Tryz.prog W 0 (fun _ => true) true fuel E.e cs = some x → ∃ a, cs = E.c a ∧ Q a)
    (hf : DataW.trod enc Tryz.prog W 0 (fun _ => true) true fuel st cs = some x) :
    ∃ (A : Option Addr) (cap : Nat) (l : List α), cs = [.slice A l.length cap] ∧ (E.Sl W A l ∧ (A = none → cap = 0) ∧ l.length ≤ cap) ∧ ∀ p ∈ l, Q p := by
  rcases open_slice hu hf with ⟨hcs, hx⟩ | ⟨a, len, cap, m, n, D, Pls, hcs, _, hle, hm, hmm, hx, hi⟩
  · exact ⟨none, 0, [], hcs, ⟨El.Sl.nil W none, fun _ => rfl, Nat.le_refl _⟩, fun p hp => by cases hp⟩
  · simp only [if_true] at hmm
    have hv : ∀ i, i < m → ∃ p : α, Q p ∧ W.cells? 0 (a.add (i * E.k)) E.k = some (E.c p) := by
      intro i him
      obtain ⟨cs', h1, h2⟩ := hi i him
      rw [hk] at h1
      obtain ⟨p, rfl, hw⟩ := hrd h2
      exact ⟨p, hw, h1⟩
    obtain ⟨f, hf2⟩ := choose_lt hv
    have hlen : ((List.range len).map f).length = len := by simp
    refine ⟨some a, cap, (List.range len).map f, by rw [hlen]; exact hcs, ⟨fun h => ?_, (fun e => by cases e), by rw [hlen]; exact hle⟩, fun p hp => ?_⟩
    · rw [hlen] at h
      obtain ⟨bb, off, spot⟩ := a
      have cell : ∀ i, i < len → ∀ j v, (E.c (f i))[j]? = some v → W.cell? (((⟨bb, off, spot⟩ : Addr).add (i * E.k)).add j) = some v := by
        intro i hil j v hv
        obtain ⟨_, _, hcell⟩ := World.cells?_some (hf2 i (by omega)).2
        have hj : j < E.k := by have := (List.getElem?_eq_some_iff.1 hv).1; rw [E.len] at this; exact this
        have := hcell j hj
        rw [this]; exact hv
      have h00 : ∃ v, (E.c (f 0))[0]? = some v := ⟨(E.c (f 0))[0]'(by rw [E.len]; exact E.pos), List.getElem?_eq_getElem _⟩
      obtain ⟨v0, hv0⟩ := h00
      have hspot : spot = none := by
        have := cell 0 h 0 _ hv0
        simpa [Addr.add] using World.cell?_spot this
      subst hspot
      refine ⟨bb, off, rfl, (by have h9 := block_lt_of_cell (cell 0 h 0 _ hv0); rw [add_plain, add_plain] at h9; exact h9), fun i hil => ?_⟩
      have hil' : i < len := by rw [hlen] at hil; exact hil
      have he : ((List.range len).map f)[i] = f i := by simp
      rw [he]
      intro j u hu
      have := cell i hil' j u hu
      rwa [add_plain, add_plain] at this
    · obtain ⟨i, hi2, rfl⟩ := List.mem_map.1 hp
      exact (hf2 i (by have := List.mem_range.1 hi2; omega)).1
end Go.Proofs.YtfpgfclmmdihjaaGreat

/- Of the law: grown. -/
namespace Go.Proofs.YtfpgfclmmdihjaaGreat
open Go.RowKit Tre Cod Pst Nam

def PoS (n : Nat) (y : Pw) (b o : Nat) (m : Mv) (w : World) : Prop := PaS n y w ∧ (w.cell? ⟨b, o, none⟩ = some (.int .i64 m.C) ∧ w.cell? ⟨b, o + 1, none⟩ = some (.int .i64 m.D) ∧ w.cell? ⟨b, o + 2, none⟩ = some (.int .i64 m.I) ∧ w.cell? ⟨b, o + 3, none⟩ = some (.int .i64 m.M) ∧ w.cell? ⟨b, o + 4, none⟩ = some (.int .i64 m.K) ∧ w.cell? ⟨b, o + 5, none⟩ = some (.int .i64 m.U) ∧ w.cell? ⟨b, o + 6, none⟩ = some (.string m.s))
/-- The past behind k operations. -/
def stG (l : List Mv) (at_ : List Int) : Nat → Pv
  | 0 => Pv.zero
  | k + 1 => match l[k]? with
    | none => stG l at_ k
    | some m => match at_[k]? with
      | none => (addV (stG l at_ k) m).1
      | some t => if t < 40 then settleV (addV (stG l at_ k) m).1 t else (addV (stG l at_ k) m).1
theorem stG_next {l : List Mv} {at_ : List Int} {k : Nat} {m : Mv} (h : k < l.length) (hm : l[k] = m) : stG l at_ (k + 1) = match at_[k]? with
      | none => (addV (stG l at_ k) m).1
      | some t => if t < 40 then settleV (addV (stG l at_ k) m).1 t else (addV (stG l at_ k) m).1 := by
  rw [stG, List.getElem?_eq_getElem h, hm]
theorem stG_inv {l : List Mv} (hl : ∀ m ∈ l, m.ok) (at_ : List Int) : ∀ k, PInv (stG l at_ k) ∧ (stG l at_ k).ops.length ≤ k
  | 0 => ⟨PInv.zero, Nat.le_refl _⟩
  | k + 1 => by
    obtain ⟨h1, h2⟩ := stG_inv hl at_ k
    by_cases hk : k < l.length
    · rw [stG_next hk rfl]
      have h3 := h1.add (hl l[k] (List.getElem_mem _))
      have h4 := addV_len (stG l at_ k) l[k]
      cases at_[k]? with
      | none => exact ⟨h3, by simp only; omega⟩
      | some t =>
        simp only
        by_cases ht : t < 40
        · rw [if_pos ht]
          have h5 := settleV_len (addV (stG l at_ k) l[k]).1 t
          exact ⟨h3.settle (by omega), by omega⟩
        · rw [if_neg ht]; exact ⟨h3, by omega⟩
    · rw [stG, List.getElem?_eq_none (by omega)]
      exact ⟨h1, by simp only; omega⟩
theorem addV_gt {q : Pv} {m : Mv} (h : (addV q m).2 = true) : q.t < m.C := by
  unfold addV at h
  split at h
  · cases h
  · omega


def PtS (n : Nat) (y : Pw) (b o : Nat) (t : Int) (w : World) : Prop := PaS n y w ∧ w.cell? ⟨b, o, none⟩ = some (.int .u8 t)
end Go.Proofs.YtfpgfclmmdihjaaGreat

/- Slices among the arguments, opened. -/
namespace Go.Proofs.YtfpgfclmmdihjaaGreat
open Go.ChangeShapes Go.WideShapes Go.ChangeAt Go.RowKit Go.Deep Nam Cod Tre Pst

def WideMv (m : Mv) : Prop := Wide m.C m.D m.I m.M m.K m.U ∧ m.s.size ≤ maxLen
set_option maxRecDepth 100000 in
theorem open_ops {H : Type} {enc : TypeId × Value → H} {W : World} {base : Nat} {v : Value} {d : DataW H} {ps : List MemPlace}
    (hv : Value.okWide Tryz.prog W .any base 29 v) (h : DataW.Trod enc Tryz.prog W 0 (fun _ => true) true 29 v d ps) :
    ∃ (A : Option Addr) (cap : Nat) (l : List Mv), v = .slice A l.length cap ∧ opE.Sl W A l ∧ l.length ≤ cap ∧ (A = none → cap = 0) ∧ ∀ m ∈ l, WideMv m :=
  open_list opE WideMv Tryz.underlying29 cells25 (fun h => by
    obtain ⟨C, D, I, M, K, U, t, rfl, hw, ht⟩ := read_op h
    exact ⟨⟨C, D, I, M, K, U, t⟩, rfl, hw, ht⟩) hv h
theorem opsz {l : List Mv} (h : ∀ m ∈ l, WideMv m) : ∀ m ∈ l, m.s.size ≤ 9223372036854775807 := fun m hm => Nat.le_trans (h m hm).2 (by unfold maxLen; omega)
end Go.Proofs.YtfpgfclmmdihjaaGreat

/- Same of two pasts that are the same; which past is right, of the program: the parts. -/
namespace Go.Proofs.YtfpgfclmmdihjaaGreat
open Go.RowKit Tre Cod Pst

set_option maxRecDepth 100000 in
set_option maxHeartbeats 4000000 in
theorem samePast_any (x y : Pw) (w : World) (hx : PastOk w x) (hy : PastOk w y) (he : y.v = x.v) (hl1 : x.base.length ≤ 50000) (hl2 : x.ops.length ≤ 50000) (hl3 : x.us.length ≤ 50000) (hl4 : x.now.length ≤ 50000) :
    Calls Tryz.prog 23 #[.agg #[.slice x.bA x.base.length x.bc, .int .i64 x.t, .slice x.oA x.ops.length x.oc, .slice x.uA x.us.length x.uc, .slice x.wA x.now.length x.wc], .agg #[.slice y.bA y.base.length y.bc, .int .i64 y.t, .slice y.oA y.ops.length y.oc, .slice y.uA y.us.length y.uc, .slice y.wA y.now.length y.wc]] w fun e w' => e = .returned (.bool true) ∧ Below w.heap.size w w' := by
  obtain ⟨bA, bc, base, t, oA, oc, ops, uA, uc, us, wA, wc, now⟩ := x
  obtain ⟨bA', bc', base', t', oA', oc', ops', uA', uc', us', wA', wc', now'⟩ := y
  simp only [Pw.v, Pv.mk.injEq] at he
  obtain ⟨rfl, rfl, rfl, rfl, rfl⟩ := he
  simp only at hl1 hl2 hl3 hl4
  have hP : pwE.In ((w.alloc (.cells #[.slice bA base'.length bc, .int .i64 t', .slice oA ops'.length oc, .slice uA us'.length uc, .slice wA now'.length wc] 39)).alloc (.cells #[.slice bA' base'.length bc', .int .i64 t', .slice oA' ops'.length oc', .slice uA' us'.length uc', .slice wA' now'.length wc'] 39)) w.heap.size ⟨bA, bc, base', t', oA, oc, ops', uA, uc, us', wA, wc, now'⟩ := (El.In.new (E := pwE) w ⟨bA, bc, base', t', oA, oc, ops', uA, uc, us', wA, wc, now'⟩ _ rfl).alloc _
  have hQ : pwE.In ((w.alloc (.cells #[.slice bA base'.length bc, .int .i64 t', .slice oA ops'.length oc, .slice uA us'.length uc, .slice wA now'.length wc] 39)).alloc (.cells #[.slice bA' base'.length bc', .int .i64 t', .slice oA' ops'.length oc', .slice uA' us'.length uc', .slice wA' now'.length wc'] 39)) (w.heap.size + 1) ⟨bA', bc', base', t', oA', oc', ops', uA', uc', us', wA', wc', now'⟩ := by
    have h := El.In.new (E := pwE) (w.alloc (.cells #[.slice bA base'.length bc, .int .i64 t', .slice oA ops'.length oc, .slice uA us'.length uc, .slice wA now'.length wc] 39)) ⟨bA', bc', base', t', oA', oc', ops', uA', uc', us', wA', wc', now'⟩ _ rfl
    rw [alloc_size] at h; exact h
  have hB := below_alloc (below_alloc (Below.refl w.heap.size w) (.cells #[.slice bA base'.length bc, .int .i64 t', .slice oA ops'.length oc, .slice uA us'.length uc, .slice wA now'.length wc] 39)) (.cells #[.slice bA' base'.length bc', .int .i64 t', .slice oA' ops'.length oc', .slice uA' us'.length uc', .slice wA' now'.length wc'] 39)
  replace hx := hx.below hB
  replace hy := hy.below hB
  have C1 : ∀ wx, PastOk wx ⟨bA, bc, base', t', oA, oc, ops', uA, uc, us', wA, wc, now'⟩ → PastOk wx ⟨bA', bc', base', t', oA', oc', ops', uA', uc', us', wA', wc', now'⟩ → _ := fun wx h1 h2 => samePl_any bA bA' bc bc' base' base' wx hl1 hl1 h1.b.1 h2.b.1
  have C2 : ∀ wx, PastOk wx ⟨bA, bc, base', t', oA, oc, ops', uA, uc, us', wA, wc, now'⟩ → PastOk wx ⟨bA', bc', base', t', oA', oc', ops', uA', uc', us', wA', wc', now'⟩ → _ := fun wx h1 h2 => samePl_any wA wA' wc wc' now' now' wx hl4 hl4 h1.w.1 h2.w.1
  have C3 : ∀ wx, PastOk wx ⟨bA, bc, base', t', oA, oc, ops', uA, uc, us', wA, wc, now'⟩ → PastOk wx ⟨bA', bc', base', t', oA', oc', ops', uA', uc', us', wA', wc', now'⟩ → _ := fun wx h1 h2 => sameOp_any oA oA' oc oc' ops' ops' wx hl2 hl2 h1.o.1 h2.o.1
  have C4 : ∀ wx, PastOk wx ⟨bA, bc, base', t', oA, oc, ops', uA, uc, us', wA, wc, now'⟩ → PastOk wx ⟨bA', bc', base', t', oA', oc', ops', uA', uc', us', wA', wc', now'⟩ → _ := fun wx h1 h2 => sameUn_any uA uA' uc uc' us' us' wx hl3 hl3 h1.u.1 h2.u.1
  have HC1 := Lib.hid C1
  have HC2 := Lib.hid C2
  have HC3 := Lib.hid C3
  have HC4 := Lib.hid C4
  clear C1 C2 C3 C4
  go_enter Tryz.func23, Tryz.ntmps23
  go_wp2_with fail
  generalize ((w.alloc (.cells #[.slice bA base'.length bc, .int .i64 t', .slice oA ops'.length oc, .slice uA us'.length uc, .slice wA now'.length wc] 39)).alloc (.cells #[.slice bA' base'.length bc', .int .i64 t', .slice oA' ops'.length oc', .slice uA' us'.length uc', .slice wA' now'.length wc'] 39)) = W at *
  obtain ⟨n1, h1⟩ : ∃ n, w.heap.size + 1 = n := ⟨_, rfl⟩
  rw [h1] at hQ ⊢
  obtain ⟨n0, h0⟩ : ∃ n, w.heap.size = n := ⟨_, rfl⟩
  rw [h0] at hP ⊢
  clear h0 h1
  refine (HC1.out _ hx hy).mono ?_
  rintro e W1 ⟨b, rfl, hb, hbl⟩
  obtain rfl : b = true := by simpa using hb
  replace hP := hP.below hbl
  replace hQ := hQ.below hbl
  replace hx := hx.below hbl
  replace hy := hy.below hbl
  replace hB := hB.trans (hbl.mono (by have := hB.size; omega))
  clear hbl hb HC1
  obtain ⟨p0, p1, p2, p3, p4⟩ := pwIn5 hP
  obtain ⟨q0, q1, q2, q3, q4⟩ := pwIn5 hQ
  go_wp2_with fail
  clear p0 p1 p2 p3 p4 q0 q1 q2 q3 q4
  refine (HC2.out _ hx hy).mono ?_
  rintro e W2 ⟨b, rfl, hb, hbl⟩
  obtain rfl : b = true := by simpa using hb
  replace hP := hP.below hbl
  replace hQ := hQ.below hbl
  replace hx := hx.below hbl
  replace hy := hy.below hbl
  replace hB := hB.trans (hbl.mono (by have := hB.size; omega))
  clear hbl hb HC2
  obtain ⟨p0, p1, p2, p3, p4⟩ := pwIn5 hP
  obtain ⟨q0, q1, q2, q3, q4⟩ := pwIn5 hQ
  go_wp2_with fail
  clear p0 p1 p2 p3 p4 q0 q1 q2 q3 q4
  refine (HC3.out _ hx hy).mono ?_
  rintro e W3 ⟨b, rfl, hb, hbl⟩
  obtain rfl : b = true := by simpa using hb
  replace hP := hP.below hbl
  replace hQ := hQ.below hbl
  replace hx := hx.below hbl
  replace hy := hy.below hbl
  replace hB := hB.trans (hbl.mono (by have := hB.size; omega))
  clear hbl hb HC3
  obtain ⟨p0, p1, p2, p3, p4⟩ := pwIn5 hP
  obtain ⟨q0, q1, q2, q3, q4⟩ := pwIn5 hQ
  go_wp2_with fail
  clear p0 p1 p2 p3 p4 q0 q1 q2 q3 q4
  refine (HC4.out _ hx hy).mono ?_
  rintro e W4 ⟨b, rfl, hb, hbl⟩
  obtain rfl : b = true := by simpa using hb
  replace hP := hP.below hbl
  replace hQ := hQ.below hbl
  replace hx := hx.below hbl
  replace hy := hy.below hbl
  replace hB := hB.trans (hbl.mono (by have := hB.size; omega))
  clear hbl hb HC4
  go_wp2_with fail
  go_ret
  exact ⟨rfl, hB⟩
end Go.Proofs.YtfpgfclmmdihjaaGreat

/- Of operations that come with nothing settled between: what is there, and what comes too late. -/
namespace Go.Proofs.YtfpgfclmmdihjaaGreat
open Go.ChangeShapes Go.WideShapes Go.ChangeAt Go.RowKit Go.Deep Nam Cod Tre Pst

/-- Nothing is settled in between: every operation's moment is there. -/
theorem stG_has {l : List Mv} (hl : ∀ m ∈ l, m.ok) : ∀ k, k ≤ l.length → (stG l [] k).t = 0 ∧ ∀ i (h : i < l.length), i < k → has Mv.C Mv.D (stG l [] k).ops l[i] = true
  | 0, _ => ⟨rfl, fun i h hi => by omega⟩
  | k + 1, hk => by
    obtain ⟨h1, h2⟩ := stG_has hl k (by omega)
    have hI := (stG_inv hl [] k).1
    have hn : stG l [] (k + 1) = (addV (stG l [] k) l[k]).1 := by rw [stG_next (at_ := []) (show k < l.length by omega) rfl]; rfl
    rw [hn]
    generalize stG l [] k = q at *
    have hC := (ok_C (hl l[k] (List.getElem_mem _))).1
    have hgt : ¬ l[k].C ≤ q.t := by omega
    rcases hh : has Mv.C Mv.D q.ops l[k] with _ | _
    · rw [addV_new' hgt hh]
      refine ⟨h1, fun i h hi => ?_⟩
      have hr := ris_ins hI.ris hh
      show has Mv.C Mv.D (insL Mv.C Mv.D q.ops l[k]) l[i] = true
      rw [has_iff hr]
      by_cases e : i = k
      · subst e; exact ⟨l[i], (mem_ins _ _ _).2 (Or.inl rfl), ⟨rfl, rfl⟩⟩
      · obtain ⟨x, hx, hs⟩ := (has_iff hI.ris l[i]).1 (h2 i h (by omega))
        exact ⟨x, (mem_ins _ _ _).2 (Or.inr hx), hs⟩
    · rw [addV_same' hgt hh]
      refine ⟨h1, fun i h hi => ?_⟩
      by_cases e : i = k
      · subst e; exact hh
      · exact h2 i h (by omega)
theorem late_all {l : List Mv} (hl : ∀ m ∈ l, m.ok) (t : Int) (i : Nat) (h : i < l.length) : addV (settleV (stG l [] l.length) t) l[i] = (settleV (stG l [] l.length) t, false) := by
  obtain ⟨h1, h2⟩ := stG_has hl l.length (Nat.le_refl _)
  have hI := (stG_inv hl [] l.length).1
  have h3 := h2 i h h
  generalize stG l [] l.length = q at *
  have hC := (ok_C (hl l[i] (List.getElem_mem _))).1
  by_cases ht : t ≤ q.t
  · rw [settleV_late' ht]
    exact addV_same' (by omega) h3
  · rw [hI.settle_eq ht]
    by_cases hct : l[i].C ≤ t
    · exact addV_late' hct
    · refine addV_same' hct ?_
      show has Mv.C Mv.D (q.ops.drop (upto Mv.C q.ops t)) l[i] = true
      rw [← has_cut hI.ris (by omega)]; exact h3

end Go.Proofs.YtfpgfclmmdihjaaGreat

/- The library's contract of Builder.String, laid at this program's numbers. -/
namespace Go.Proofs.YtfpgfclmmdihjaaGreat
open Go.Shelf
def lays169_ren : Go.Shelf.Ren := ⟨fun | 169 => 27 | n => n, fun | 70 => 70 | 9 => 9 | 0 => 0 | 72 => 73 | 37 => 71 | 127 => 111 | 3 => 3 | 5 => 5 | n => n, fun | n => n⟩
theorem lays169 : Go.Proofs.Lays.n169 Tryz.prog lays169_ren := {
  mixed := by kernel_rfl
  f169 := Tryz.func27.trans (congrArg some (by kernel_rfl))
  t0 := Tryz.underlying0
  a0 := Tryz.isAgg0
  z0 := Tryz.sizeOf0
  v0 := Tryz.zeroValue0
  t3 := Tryz.underlying3
  a3 := Tryz.isAgg3
  z3 := Tryz.sizeOf3
  v3 := Tryz.zeroValue3
  t9 := Tryz.underlying9
  a9 := Tryz.isAgg9
  z9 := Tryz.sizeOf9
  v9 := Tryz.zeroValue9
  t37 := Tryz.underlying71
  a37 := Tryz.isAgg71
  z37 := Tryz.sizeOf71
  v37 := Tryz.zeroValue71
  t70 := Tryz.underlying70
  a70 := Tryz.isAgg70
  z70 := Tryz.sizeOf70
  v70 := Tryz.zeroValue70
  t72 := Tryz.underlying73
  a72 := Tryz.isAgg73
  z72 := Tryz.sizeOf73
  v72 := Tryz.zeroValue73
  t127 := Tryz.underlying111
  a127 := Tryz.isAgg111
  z127 := Tryz.sizeOf111
  v127 := Tryz.zeroValue111 }
theorem builder_Extra_169 : Builder.Extra Tryz.prog lays169_ren := {
  sizeBuilder := by kernel_rfl
  liesBuilder := by kernel_rfl
  t5 := Tryz.underlying5
  a5 := Tryz.isAgg5
  z5 := Tryz.sizeOf5
  v5 := Tryz.zeroValue5
  infoByte := by kernel_rfl
  cellsByte := by kernel_rfl
  sizeByte := by kernel_rfl
  neB5 := by decide }
open Go.RowKit in
theorem builder_String_any (B b : Nat) (l : List UInt8) (w : World) (h : Lib.IsBuilder 73 5 B b (Lib.byteCells l) w) (hBw : B ≤ w.heap.size) :
    Calls Tryz.prog 27 #[.pointer (some ⟨b, 0, none⟩)] w fun e w' => e = .returned (.string ⟨l.toArray⟩) ∧ Below B w w' := Any.Builder_String_any lays169 builder_Extra_169 B b l w h hBw
end Go.Proofs.YtfpgfclmmdihjaaGreat

/- The library's Builder: what WriteString does with one of the call's own. -/
namespace Go.Proofs.YtfpgfclmmdihjaaGreat
open Go.RowKit

theorem bd_info : ∃ j, Tryz.prog.info? 73 = some j ∧ j.size = 2 := by
  have h : (Tryz.prog.info? 73).map (·.size) = some 2 := by kernel_rfl
  obtain ⟨j, hj, hjs⟩ := Option.map_eq_some_iff.1 h
  exact ⟨j, hj, hjs⟩
theorem bd_lies : liesAt Tryz.prog Tryz.prog.depth 73 (2 / Tryz.prog.cellsOf 73) 0 73 1 = true := by kernel_rfl
set_option maxRecDepth 100000 in
theorem ccheck_used (b : Nat) (w : World) (h0 : w.cell? ⟨b, 0, none⟩ = some (.pointer (some ⟨b, 0, none⟩))) :
    Calls Tryz.prog 52 #[.pointer (some ⟨b, 0, none⟩)] w fun e w' => e = .returned (.tuple #[]) ∧ w' = w := by
  obtain ⟨j, hj, _⟩ := bd_info
  go_enter Tryz.func52, Tryz.ntmps52
  go_wp2
  rw [Lib.run_neq_ptr_same w _ Tryz.underlying70 hj]
  go_wp2
  go_end0
  exact ⟨rfl, rfl⟩
set_option maxRecDepth 100000 in
theorem ccheck_new (b : Nat) (w : World) (h0 : w.cell? ⟨b, 0, none⟩ = some (.pointer none)) (hsh : w.shape? b = some (73, 2)) (hfz : w.frozen? ⟨b, 0, none⟩ = false) :
    Calls Tryz.prog 52 #[.pointer (some ⟨b, 0, none⟩)] w fun e w' => e = .returned (.tuple #[]) ∧ w' = w.setCell ⟨b, 0, none⟩ (.pointer (some ⟨b, 0, none⟩)) := by
  obtain ⟨j, hj, hjs⟩ := bd_info
  go_enter Tryz.func52, Tryz.ntmps52
  go_wp2
  rw [Lib.run_to_unsafe w ⟨b, 0, none⟩ Tryz.underlying70 Tryz.underlying128 hj (by rw [hjs]; decide) hsh (Nat.zero_lt_succ 1)]
  simp only [Result.andThen]
  rw [Oper.upon_value]
  go_wp2
  rw [run_callFunc_extern Tryz.func72 (by kernel_rfl) (by kernel_rfl) (by kernel_rfl) (e := Extern.AbiNoEscape.same) (by kernel_rfl)]
  rw [Lib.run_noEscape]
  simp only [Result.andThen]
  rw [Oper.upon_value]
  go_wp2
  rw [Lib.run_from_unsafe w ⟨b, 0, none⟩ Tryz.underlying128 Tryz.underlying70 hj hsh bd_lies]
  simp only [Result.andThen]
  rw [Oper.upon_value]
  go_wp2
  go_end0
  exact ⟨rfl, rfl⟩

/-- What is no row of bytes and isn't block b stays. -/
def Rest (b : Nat) (w w' : World) : Prop := ∀ k cs T fr, w.heap[k]? = some (.cells cs T fr) → k ≠ b → T ≠ 5 → w'.heap[k]? = w.heap[k]?
theorem Rest.then {b : Nat} {w w1 w2 : World} (h : Rest b w w1) (k : Rest b w1 w2) : Rest b w w2 := fun i cs T fr hi hne hT => by
  have h1 := h i cs T fr hi hne hT
  rw [k i cs T fr (h1.trans hi) hne hT, h1]
theorem Rest.cell (b : Nat) (w : World) (j : Nat) (v : Value) : Rest b w (w.setCell ⟨b, j, none⟩ v) := fun k _ _ _ _ hne _ => Below.heap_setCell _ _ _ _ hne

theorem ccheck_any (B b : Nat) (bs : List Value) (w : World) (h : Lib.IsBuilder 73 5 B b bs w) :
    Calls Tryz.prog 52 #[.pointer (some ⟨b, 0, none⟩)] w fun e w' => e = .returned (.tuple #[]) ∧ Lib.BuilderAt 73 5 B b (.pointer (some ⟨b, 0, none⟩)) bs w' ∧ Below B w w' ∧ Rest b w w' := by
  rcases h with h | h
  · refine (ccheck_new b w h.cell0 h.shape h.frozen0).mono ?_
    rintro e w' ⟨rfl, rfl⟩
    exact ⟨rfl, h.used _, (Below.refl B w).setCell (p := ⟨b, 0, none⟩) h.1 _, Rest.cell b w 0 _⟩
  · refine (ccheck_used b w h.cell0).mono ?_
    rintro e w' ⟨rfl, rfl⟩
    exact ⟨rfl, h, Below.refl B _, fun _ _ _ _ _ _ _ => rfl⟩

set_option maxHeartbeats 1000000 in
set_option maxRecDepth 100000 in
theorem wstr_any (B b : Nat) (bs : List Value) (s : ByteArray) (w : World) (h : Lib.IsBuilder 73 5 B b bs w) (hlen : bs.length + s.size ≤ 140737488355328) (hBw : B ≤ w.heap.size) :
    Calls Tryz.prog 24 #[.pointer (some ⟨b, 0, none⟩), .string s] w fun e w' => e = .returned (.tuple #[.int .i64 s.size, .nilIface]) ∧ Lib.IsBuilder 73 5 B b (bs ++ Lib.strCells s) w' ∧ Below B w w' ∧ Rest b w w' := by
  have X := builder_Extra_169
  obtain ⟨i0, hi, hz0, hz1, hz2⟩ := info_parts X.infoByte
  have C := ccheck_any B b bs w h
  go_enter Tryz.func24, Tryz.ntmps24
  go_wp2_with (go_at_call 52; (with_reducible refine C.mono ?_))
  rintro e w1 ⟨rfl, h1, hb1, hr1⟩
  obtain ⟨hB, v, hbk, hown, hne⟩ := h1
  have c0 : w1.cell? ⟨b, 0, none⟩ = some (.pointer (some ⟨b, 0, none⟩)) := by rw [Lib.cell_of_heap hbk]; rfl
  have c1 : w1.cell? ⟨b, 1, none⟩ = some v := by rw [Lib.cell_of_heap hbk]; rfl
  go_wp2_with (at_builtin; refine Lib.wpList_append_own_string _ rfl _ _ 71 9 rfl B 5 i0 Tryz.underlying71 Tryz.underlying9 hi hz0 hz1 hz2 _ _ _ rfl hown s rfl ?c3 ?c4 ?c5 ?_)
  case c3 => unfold maxLen; omega
  case c4 => omega
  case c5 => have := hb1.size; omega
  intro v' w2 hown' hgrow _
  have hlt : b < w1.heap.size := by
    rcases Nat.lt_or_ge b w1.heap.size with h' | h'
    · exact h'
    · simp [Array.getElem?_eq_none h'] at hbk
  have hb2 : w2.heap[b]? = some (.cells #[.pointer (some ⟨b, 0, none⟩), v] 73 (0, 0)) := by
    rw [hgrow.block b hlt (fun e => hne e.symm)]
    exact hbk
  have d0 : w2.cell? ⟨b, 0, none⟩ = some (.pointer (some ⟨b, 0, none⟩)) := by rw [Lib.cell_of_heap hb2]; rfl
  have d1 : w2.cell? ⟨b, 1, none⟩ = some v := by rw [Lib.cell_of_heap hb2]; rfl
  have f1 : w2.frozen? ⟨b, 1, none⟩ = false := Lib.frozen_of_heap hb2 1
  have hr2 : Rest b w1 w2 := fun k cs T fr hk hkb hT => by
    have hkl : k < w1.heap.size := by
      rcases Nat.lt_or_ge k w1.heap.size with h' | h'
      · exact h'
      · simp [Array.getElem?_eq_none h'] at hk
    exact hgrow.block k hkl (fun e => Lib.ownBlock_ne hown hk hT e.symm)
  obtain ⟨ao, n', cap, rfl⟩ : ∃ ao n' cap, v' = .slice ao n' cap := by
    rcases hown'.2 with ⟨hv, _⟩ | ⟨g, cap, cur, hv, _⟩
    · exact ⟨_, _, _, hv⟩
    · exact ⟨_, _, _, hv⟩
  go_wp2
  go_ret2
  refine ⟨rfl, Or.inr ?_, ?_, (hr1.then hr2).then (Rest.cell b w2 1 _)⟩
  · exact Lib.BuilderAt.put (T := 73) (e := 5) hB hb2 (bs' := bs ++ Lib.strCells s) (by simpa [Lib.strCells_length] using hown') X.neB5
  · exact (hb1.grown hgrow (by have := hb1.size; omega) (fun k hk => (hown.lt k hk).1)).setCell (p := ⟨b, 1, none⟩) hB _
end Go.Proofs.YtfpgfclmmdihjaaGreat

/- What Print gives, of the program and of the document. -/
namespace Go.Proofs.YtfpgfclmmdihjaaGreat
open Go.RowKit Tre Nam Cod

theorem strCells_app (a b : ByteArray) : Lib.strCells (a ++ b) = Lib.strCells a ++ Lib.strCells b := by
  unfold Lib.strCells; rw [← List.map_append]; congr 1
theorem back_L (x : ByteArray) : (⟨(L x).toArray⟩ : ByteArray) = x := by cases x; simp [L]
theorem headOf (l : List Pl) (n : Nat) (h : l.length ≤ 1000) : (bytesOf l.length).size ≤ 10 := bytesOf_le _ (by omega) (by omega)
theorem catL_take (l : List Pl) (k : Nat) (h : k < l.length) : catL (l.take (k + 1)) = catL (l.take k) ++ plBytes l[k] := by
  rw [List.take_succ_eq_append_getElem h, catL_snoc]
theorem take_le {l : List Pl} (hf : ∀ p ∈ l, Fit p) (k : Nat) : (catL (l.take k)).size ≤ 46 * l.length := by
  have h := catL_le (l.take k) (fun p hp => hf p (List.mem_of_mem_take hp))
  have : (l.take k).length ≤ l.length := by rw [List.length_take]; omega
  omega
theorem builder_new (w : World) : Lib.IsBuilder 73 5 w.heap.size w.heap.size [] (w.alloc (.cells #[.pointer none, .slice none 0 0] 73)) :=
  Or.inl ⟨Nat.le_refl _, _, heap_alloc_new w _, World.ownsRow_nil _ _ _ _, by simp [Value.ownBlock]⟩
theorem builder_below {B b : Nat} {bs : List Value} {w w' : World} (h : Lib.IsBuilder 73 5 B b bs w) (hb : Below w.heap.size w w') : Lib.IsBuilder 73 5 B b bs w' := by
  have key : ∀ p, Lib.BuilderAt 73 5 B b p bs w → Lib.BuilderAt 73 5 B b p bs w' := fun p h => by
    have hlt := h.lt
    obtain ⟨hB, v, hbk, hown, hne⟩ := h
    refine ⟨hB, v, (hb.block b hlt).trans hbk, hown.kept (row := none) ⟨hb.os, hb.tape, hb.output, hb.size, fun k hk _ => hb.block k hk⟩ ?_, hne⟩
    cases hv : v.ownBlock <;> simp
  rcases h with h | h
  · exact Or.inl (key _ h)
  · exact Or.inr (key _ h)
theorem PlIn.rest {w w' : World} {b k : Nat} {p : Pl} (h : PlIn w k p) (hr : Rest b w w') (hne : k ≠ b) : PlIn w' k p := (hr k _ _ _ h hne (by decide)).trans h

set_option maxRecDepth 100000 in
set_option maxHeartbeats 4000000 in
theorem print_any (A : Option Addr) (cap : Nat) (l : List Pl) (w : World) (hl : l.length ≤ 1000) (hf : ∀ p ∈ l, Fit p) (hT : Tr w A l) :
    Calls Tryz.prog 54 #[.slice A l.length cap] w fun e w' => e = .returned (.string (treeBytes l)) ∧ Below w.heap.size w w' := by
  have cn := fun w => num_any (l.length : Int) w (by omega) (by omega)
  have hh := headOf l 0 hl
  have hT0 : treeBytes l = bytesOf l.length ++ catL l := rfl
  have HT0 := Lib.hid hT0
  generalize bytesOf (l.length : Int) = H at *
  have CN := Lib.hid cn
  clear hT0 cn
  go_enter Tryz.func54, Tryz.ntmps54
  go_wp2_with fail
  have hb0 := builder_new w
  have hB0 := below_alloc (Below.refl w.heap.size w) (.cells #[.pointer none, .slice none 0 0] 73)
  have hlt0 : w.heap.size < (w.alloc (.cells #[.pointer none, .slice none 0 0] 73)).heap.size := by simp
  generalize w.alloc (.cells #[.pointer none, .slice none 0 0] 73) = W0 at *
  refine (CN.out _).mono ?_
  rintro e w1 ⟨rfl, hb1⟩
  have hbd := builder_below hb0 hb1
  have hB1 := below_then hB0 hb1
  have hlt1 := Nat.lt_of_lt_of_le hlt0 hb1.size
  clear hb0 hB0 hb1 hlt0
  go_wp2_with fail
  refine (wstr_any _ _ _ H _ hbd (by simp; omega) (Nat.le_of_lt hlt1)).mono ?_
  rintro e w2 ⟨rfl, hbd2, hB2', hr2⟩
  have hB2 := hB1.trans hB2'
  have hlt2 : w.heap.size < w2.heap.size := by rcases hbd2 with h | h <;> exact h.lt
  clear hbd hB1 hlt1 CN hB2' hr2
  have e0 : [] ++ Lib.strCells H = Lib.strCells (H ++ catL (l.take 0)) := by simp [catL]; rw [bempty]
  rw [e0] at hbd2
  clear e0
  go_wp2
  go_loopw [12] (fun x wr => ∃ k : Nat, k ≤ l.length ∧ x = .int .i64 k ∧ Lib.IsBuilder 73 5 w.heap.size w.heap.size (Lib.strCells (H ++ catL (l.take k))) wr ∧ Below w.heap.size w wr ∧ w.heap.size < wr.heap.size) (fun x _ => l.length - (intOf x).toNat)
  case atStart => exact ⟨0, Nat.zero_le _, rfl, hbd2, hB2, hlt2⟩
  case round =>
    clear hbd2 hB2 hlt2
    obtain ⟨k, hk, rfl, hbd, hnx, hsz⟩ := hrel
    have htl := take_le hf k
    by_cases hlt : k < l.length
    · obtain ⟨bb, off, hAe, hbw, hc⟩ := hT (by omega)
      have hbr := Nat.lt_of_lt_of_le hbw hnx.size
      have hat := (hc k hlt).below hnx hbw
      have hft := hf _ (List.getElem_mem hlt)
      have hcat := catL_take l k hlt
      obtain ⟨p, hp⟩ : ∃ p, l[k] = p := ⟨_, rfl⟩
      rw [hp] at hat hft hcat
      obtain ⟨q0, q1, q2⟩ := hat
      have hcat2 : H ++ catL (l.take (k + 1)) = (H ++ catL (l.take k)) ++ (bytesOf p.n ++ bytesOf p.u ++ textOf p.s) := by rw [hcat, ByteArray.append_assoc]; rfl
      have z := plBytes_le hft
      unfold plBytes at z
      have n1 := fun w => num_any p.n w hft.n1 hft.n2
      have n2 := fun w => num_any p.u w hft.u1 hft.u2
      have n3 := fun w => text_any p.s w (by have := hft.s; omega)
      have hXs : (H ++ catL (l.take k)).size = H.size + (catL (l.take k)).size := ByteArray.size_append
      generalize catL (l.take k) = T at *
      generalize H ++ T = X at *
      generalize bytesOf p.n = x1 at *
      generalize bytesOf p.u = x2 at *
      generalize textOf p.s = x3 at *
      simp only [ByteArray.size_append] at z
      have y1 : ¬ 9223372036854775807 < x1.size + x2.size := by omega
      have y2 : ¬ 9223372036854775807 < x1.size + x2.size + x3.size := by omega
      have HC := Lib.hid hcat2
      have N1 := Lib.hid n1
      have N2 := Lib.hid n2
      have N3 := Lib.hid n3
      have HF := Lib.hid hf
      clear hcat hcat2 n1 n2 n3 hc hf hp hft
      subst hAe
      go_wp2
      have hO := PlIn.new wr p
      have hbd := builder_below hbd (below_alloc (Below.refl _ wr) (.cells #[.int .i64 p.n, .int .i64 p.u, .string p.s] 117))
      have hnx := below_alloc hnx (.cells #[.int .i64 p.n, .int .i64 p.u, .string p.s] 117)
      have hsz1 : w.heap.size < (wr.alloc (.cells #[.int .i64 p.n, .int .i64 p.u, .string p.s] 117)).heap.size := by simp; omega
      have hpb : wr.heap.size ≠ w.heap.size := by omega
      generalize wr.alloc (.cells #[.int .i64 p.n, .int .i64 p.u, .string p.s] 117) = W at *
      generalize wr.heap.size = pb at *
      have hO : PlIn W.drew pb p := hO
      have hbd : Lib.IsBuilder 73 5 w.heap.size w.heap.size (Lib.strCells X) W.drew := hbd
      have hN : Below w.heap.size w W.drew := hnx.drew
      have hL : w.heap.size < W.drew.heap.size := hsz1
      clear hnx hsz1 q0 q1 q2 hsz
      go_region_held3 (fun w' => w'.cell? ⟨pb, 0, none⟩ = some (.int .i64 p.n) ∧ w'.cell? ⟨pb, 1, none⟩ = some (.int .i64 p.u) ∧ w'.cell? ⟨pb, 2, none⟩ = some (.string p.s)) (first | exact hO.cells) (first | (go_at_call 25; (with_reducible refine (N1.out _).mono ?_); rintro e w3 ⟨rfl, hb3⟩; have hO := hO.below hb3; have hbd := builder_below hbd hb3; have hN := below_then hN hb3; have hL := Nat.lt_of_lt_of_le hL hb3.size) | (go_at_call 25; (with_reducible refine (N2.out _).mono ?_); rintro e w3 ⟨rfl, hb3⟩; have hO := hO.below hb3; have hbd := builder_below hbd hb3; have hN := below_then hN hb3; have hL := Nat.lt_of_lt_of_le hL hb3.size) | (go_at_call 73; (with_reducible refine (N3.out _).mono ?_); rintro e w3 ⟨rfl, hb3⟩; have hO := hO.below hb3; have hbd := builder_below hbd hb3; have hN := below_then hN hb3; have hL := Nat.lt_of_lt_of_le hL hb3.size) | (go_at_call 24; (with_reducible refine (wstr_any _ _ _ _ _ hbd (by simp [Lib.strCells_length, ByteArray.size_append]; omega) (Nat.le_of_lt hL)).mono ?_); rintro e w4 ⟨rfl, hbd4, hN4, hr4⟩; have hO := hO.rest hr4 hpb; have hN := hN.trans hN4))
      all_goals
        go_wp2
        go_roundw
        case rel => exact ⟨k + 1, by omega, by go_num, by rw [HC.out, strCells_app]; exact hbd4, hN, by have := hbd4; rcases this with h | h <;> exact h.lt⟩
        case measure => simp [intOf]; omega
    · obtain rfl : k = l.length := by omega
      have HB := Lib.hid hbd
      rw [List.take_length] at hbd
      have C := builder_String_any w.heap.size w.heap.size (L (H ++ catL l)) wr hbd (Nat.le_of_lt hsz)
      have he : (⟨(L (H ++ catL l)).toArray⟩ : ByteArray) = treeBytes l := by rw [HT0.out]; exact back_L _
      rw [he] at C
      have HC := Lib.hid C
      clear C he hbd HT0
      go_wp2_with (go_at_call 27; (with_reducible refine HC.out.mono ?_); rintro e w5 ⟨rfl, hb5⟩)
      go_ret
      exact ⟨rfl, hnx.trans hb5⟩

end Go.Proofs.YtfpgfclmmdihjaaGreat

/- The document's Print. -/
namespace Go.Proofs.YtfpgfclmmdihjaaGreat
open Go.RowKit Tre Cod Pst

/-- Operations' bytes, one behind the other. -/
def catM (l : List Mv) : ByteArray := l.foldl (fun s m => s ++ m.bytes) ⟨#[]⟩
theorem catM_snoc (l : List Mv) (m : Mv) : catM (l ++ [m]) = catM l ++ m.bytes := by unfold catM; rw [List.foldl_append]; rfl
theorem catM_next {l : List Mv} {k : Nat} {m : Mv} (h : k < l.length) (hm : l[k] = m) : catM (l.take (k + 1)) = catM (l.take k) ++ m.bytes := by
  rw [List.take_succ_eq_append_getElem h, catM_snoc, hm]
theorem catM_le : ∀ (l : List Mv) (k : Nat), (∀ m ∈ l, m.ok) → (catM (l.take k)).size ≤ 86 * l.length
  | l, 0, _ => by show (ByteArray.mk #[]).size ≤ _; exact Nat.zero_le _
  | l, k + 1, h => by
    by_cases hk : k < l.length
    · have h1 : ∀ j, j ≤ l.length → (catM (l.take j)).size ≤ 86 * j := by
        intro j
        induction j with
        | zero => intro _; exact Nat.zero_le _
        | succ j ih =>
          intro hj
          rw [catM_next (by omega) rfl, ByteArray.size_append]
          have := ih (by omega)
          have := bytes_le (h l[j] (List.getElem_mem _))
          omega
      have := h1 (k + 1) hk
      omega
    · have e : l.take (k + 1) = l.take k := by rw [List.take_of_length_le (by omega), List.take_of_length_le (by omega)]
      rw [e]; exact catM_le l k h
def headV (q : Pv) : ByteArray := treeBytes q.base ++ bytesOf q.t ++ bytesOf q.ops.length
def pastBytes (q : Pv) : ByteArray := headV q ++ catM q.ops

end Go.Proofs.YtfpgfclmmdihjaaGreat

/- Print of the program. -/
namespace Go.Proofs.YtfpgfclmmdihjaaGreat
open Go.RowKit Tre Cod Pst Nam

theorem El.In.low {α : Type} {E : El α} {w w' : World} {b B : Nat} {x : α} (h : E.In w b x) (hb : Below B w w') (hlt : b < B) : E.In w' b x := (hb.block b hlt).trans h

set_option maxRecDepth 100000 in
set_option maxHeartbeats 4000000 in
theorem pPrint_any (x : Pw) (w : World) (hx : PastOk w x) (hl : x.base.length ≤ 1000) (hl2 : x.ops.length ≤ 1000) (hf : ∀ p ∈ x.base, Fit p) (ht : i64 x.t) (ho : ∀ m ∈ x.ops, m.ok) (hts : (treeBytes x.base).size ≤ 100000) :
    Calls Tryz.prog 26 #[.agg #[.slice x.bA x.base.length x.bc, .int .i64 x.t, .slice x.oA x.ops.length x.oc, .slice x.uA x.us.length x.uc, .slice x.wA x.now.length x.wc]] w fun e w' => e = .returned (.string (pastBytes x.v)) ∧ Below w.heap.size w w' := by
  obtain ⟨bA, bc, base, t, oA, oc, ops, uA, uc, us, wA, wc, now⟩ := x
  simp only at hl hl2 hf ht ho hts
  have hv : pastBytes (⟨bA, bc, base, t, oA, oc, ops, uA, uc, us, wA, wc, now⟩ : Pw).v = (treeBytes base ++ bytesOf t ++ bytesOf ops.length) ++ catM ops := rfl
  rw [hv]
  clear hv
  have hP : pwE.In ((w.alloc (.cells #[.slice bA base.length bc, .int .i64 t, .slice oA ops.length oc, .slice uA us.length uc, .slice wA now.length wc] 39)).alloc (.cells #[.pointer none, .slice none 0 0] 73)) w.heap.size (⟨bA, bc, base, t, oA, oc, ops, uA, uc, us, wA, wc, now⟩ : Pw) := (El.In.new (E := pwE) w (⟨bA, bc, base, t, oA, oc, ops, uA, uc, us, wA, wc, now⟩ : Pw) _ rfl).alloc _
  have hB := below_alloc (below_alloc (Below.refl w.heap.size w) (.cells #[.slice bA base.length bc, .int .i64 t, .slice oA ops.length oc, .slice uA us.length uc, .slice wA now.length wc] 39)) (.cells #[.pointer none, .slice none 0 0] 73)
  have hbd := builder_new (w.alloc (.cells #[.slice bA base.length bc, .int .i64 t, .slice oA ops.length oc, .slice uA us.length uc, .slice wA now.length wc] 39))
  have hlt : (w.alloc (.cells #[.slice bA base.length bc, .int .i64 t, .slice oA ops.length oc, .slice uA us.length uc, .slice wA now.length wc] 39)).heap.size < ((w.alloc (.cells #[.slice bA base.length bc, .int .i64 t, .slice oA ops.length oc, .slice uA us.length uc, .slice wA now.length wc] 39)).alloc (.cells #[.pointer none, .slice none 0 0] 73)).heap.size := by simp
  rw [alloc_size] at hbd hlt
  have HL := Lib.hid hx
  clear hx
  have hcat := fun k => catM_le ops k ho
  have z1 := bytesOf_le t ht.1 ht.2
  have z2 := bytesOf_le ops.length (by omega) (by omega)
  have N1 := Lib.hid (fun w (h : SlV plE w bA bc base) => print_any bA bc base w hl hf (plSl.1 h.1))
  have N2 := Lib.hid (fun w => num_any t w ht.1 ht.2)
  have N3 := Lib.hid (fun w => num_any (ops.length : Int) w (by omega) (by omega))
  generalize treeBytes base = x1 at *
  generalize bytesOf t = x2 at *
  generalize bytesOf (ops.length : Int) = x3 at *
  go_enter Tryz.func26, Tryz.ntmps26
  go_wp2_with fail
  generalize ((w.alloc (.cells #[.slice bA base.length bc, .int .i64 t, .slice oA ops.length oc, .slice uA us.length uc, .slice wA now.length wc] 39)).alloc (.cells #[.pointer none, .slice none 0 0] 73)) = W at *
  obtain ⟨n1, h1⟩ : ∃ n, w.heap.size + 1 = n := ⟨_, rfl⟩
  rw [h1] at hbd hlt ⊢
  obtain ⟨n0, h0⟩ : ∃ n, w.heap.size = n := ⟨_, rfl⟩
  rw [h0] at hP ⊢
  have HN := Lib.hid (show w.heap.size ≤ n1 ∧ n0 < n1 by omega)
  clear h0 h1
  have y1 : ¬ 9223372036854775807 < x1.size + x2.size := by omega
  have y2 : ¬ 9223372036854775807 < x1.size + x2.size + x3.size := by omega
  have hXs : (x1 ++ x2 ++ x3).size = x1.size + x2.size + x3.size := by rw [ByteArray.size_append, ByteArray.size_append]
  obtain ⟨H, hH⟩ : ∃ H, x1 ++ x2 ++ x3 = H := ⟨_, rfl⟩
  have hHs : H.size ≤ 100020 := by rw [← hH, hXs]; omega
  have HH := Lib.hid hH
  clear hXs hH
  replace hP : pwE.In W.drew n0 (⟨bA, bc, base, t, oA, oc, ops, uA, uc, us, wA, wc, now⟩ : Pw) := hP
  replace hB : Below w.heap.size w W.drew := hB.drew
  replace hbd : Lib.IsBuilder 73 5 n1 n1 [] W.drew := hbd
  replace hlt : n1 < W.drew.heap.size := hlt
  have hxb := (HL.out.below hB).b
  simp only at hxb
  go_region_held3 (fun w' => w'.cell? ⟨n0, 0, none⟩ = some (.slice bA base.length bc) ∧ w'.cell? ⟨n0, 1, none⟩ = some (.int .i64 t) ∧ w'.cell? ⟨n0, 2, none⟩ = some (.slice oA ops.length oc)) (with_reducible exact ⟨(pwIn5 hP).1, (pwIn5 hP).2.1, (pwIn5 hP).2.2.1⟩) (first | (go_at_call 54; (with_reducible refine (N1.out _ hxb).mono ?_); rintro e w3 ⟨rfl, hb3⟩; have hP := hP.below hb3; have hbd := builder_below hbd hb3; have hB := hB.trans (hb3.mono hB.size); have hxb := hxb.below hb3; have hlt := Nat.lt_of_lt_of_le hlt hb3.size) | (go_at_call 25; (with_reducible refine (N2.out _).mono ?_); rintro e w3 ⟨rfl, hb3⟩; have hP := hP.below hb3; have hbd := builder_below hbd hb3; have hB := hB.trans (hb3.mono hB.size); have hxb := hxb.below hb3; have hlt := Nat.lt_of_lt_of_le hlt hb3.size) | (go_at_call 25; (with_reducible refine (N3.out _).mono ?_); rintro e w3 ⟨rfl, hb3⟩; have hP := hP.below hb3; have hbd := builder_below hbd hb3; have hB := hB.trans (hb3.mono hB.size); have hxb := hxb.below hb3; have hlt := Nat.lt_of_lt_of_le hlt hb3.size) | (go_at_call 24; (with_reducible refine (wstr_any _ _ _ _ _ hbd (by simp [Lib.strCells_length, ByteArray.size_append]; omega) (Nat.le_of_lt hlt)).mono ?_); rintro e w4 ⟨rfl, hbd4, hN4, hr4⟩; have hP := hP.low hN4 HN.out.2; have hB := hB.trans (hN4.mono HN.out.1)))
  have p2 := (pwIn5 hP).2.2.1
  simp only at p2
  have e1 : H ++ catM (ops.take 0) = H := by apply L_inj; rw [L_app]; simp [L, catM]
  have e0 : [] ++ Lib.strCells (x1 ++ x2 ++ x3) = Lib.strCells (H ++ catM (ops.take 0)) := by rw [e1, HH.out, List.nil_append]
  rw [e0] at hbd4
  clear e0 e1
  have hlt4 : n1 < w4.heap.size := by rcases hbd4 with h | h <;> exact h.lt
  go_wp2_with fail
  clear p2
  go_loopw [22] (fun x wr => ∃ k : Nat, k ≤ ops.length ∧ x = .int .i64 k ∧ Lib.IsBuilder 73 5 n1 n1 (Lib.strCells (H ++ catM (ops.take k))) wr ∧ Below w.heap.size w wr ∧ n1 < wr.heap.size) (fun x _ => ops.length - (intOf x).toNat)
  case atStart => exact ⟨0, Nat.zero_le _, rfl, hbd4, hB, hlt4⟩
  case round =>
    clear hbd4 hlt4 hP hB
    obtain ⟨k, hk, rfl, hbd, hB, hsz⟩ := hrel
    have hck := hcat k
    by_cases hkl : k < ops.length
    · have hxo := (HL.out.below hB).o
      simp only at hxo
      obtain ⟨b, off, hoA, hbw, hc⟩ := hxo.1 (by omega)
      have hat : opE.At wr b (off + k * 7) ops[k] := hc k hkl
      have hnext := catM_next hkl rfl
      have hmo := ho ops[k] (List.getElem_mem _)
      obtain ⟨mk, hmk⟩ : ∃ mk, ops[k] = mk := ⟨_, rfl⟩
      rw [hmk] at hat hnext hmo
      have hml := bytes_le hmo
      have hwd := opB_wide hmo
      have CP := fun w => opPrint_any mk.C mk.D mk.I mk.M mk.K mk.U mk.s w hwd.1 (by omega)
      have hby : printOf mk.C mk.D mk.I mk.M mk.K mk.U mk.s = mk.bytes := rfl
      rw [hby] at CP
      have HNX := Lib.hid hnext
      have HCP := Lib.hid CP
      have HO := Lib.hid ho
      clear hnext CP hby hc hmk hwd hmo hxo ho
      generalize catM (ops.take k) = ck at *
      generalize mk.bytes = mb at *
      subst hoA
      go_wp2_with (refine El.load opRow rfl _ rfl b (off + k * 7) rfl mk hat #[.int .i64 mk.C, .int .i64 mk.D, .int .i64 mk.I, .int .i64 mk.M, .int .i64 mk.K, .int .i64 mk.U, .string mk.s] rfl ?_)
      refine (HCP.out _).mono ?_
      rintro e w3 ⟨rfl, hb3⟩
      have hbd3 := builder_below (builder_below hbd (below_alloc (Below.refl _ wr) (.cells #[.int .i64 mk.C, .int .i64 mk.D, .int .i64 mk.I, .int .i64 mk.M, .int .i64 mk.K, .int .i64 mk.U, .string mk.s] 102))) hb3
      have hB3 := below_then (below_alloc hB (.cells #[.int .i64 mk.C, .int .i64 mk.D, .int .i64 mk.I, .int .i64 mk.M, .int .i64 mk.K, .int .i64 mk.U, .string mk.s] 102)) hb3
      have hlt3 : n1 < w3.heap.size := by rcases hbd3 with h | h <;> exact h.lt
      go_wp2_with fail
      refine (wstr_any _ _ _ _ _ hbd3 (by simp [Lib.strCells_length, ByteArray.size_append]; omega) (Nat.le_of_lt hlt3)).mono ?_
      rintro e w4 ⟨rfl, hbd4, hN4, hr4⟩
      have hlt4 : n1 < w4.heap.size := by rcases hbd4 with h | h <;> exact h.lt
      go_wp2_with fail
      go_roundw
      case rel => exact ⟨k + 1, by omega, by go_num, by rw [HNX.out, ← ByteArray.append_assoc, strCells_app]; exact hbd4, hB3.trans (hN4.mono HN.out.1), hlt4⟩
      case measure => simp [intOf]; omega
    · obtain rfl : k = ops.length := by omega
      rw [List.take_length] at hbd
      have C := builder_String_any n1 n1 (L (H ++ catM ops)) wr hbd (Nat.le_of_lt hsz)
      have he : (⟨(L (H ++ catM ops)).toArray⟩ : ByteArray) = H ++ catM ops := back_L _
      rw [he, ← HH.out] at C
      have HC := Lib.hid C
      clear C he hbd
      go_wp2_with (go_at_call 27; (with_reducible refine HC.out.mono ?_); rintro e w5 ⟨rfl, hb5⟩)
      go_ret
      exact ⟨rfl, hB.trans (hb5.mono HN.out.1)⟩
end Go.Proofs.YtfpgfclmmdihjaaGreat

/- The document's Add. -/
namespace Go.Proofs.YtfpgfclmmdihjaaGreat
open Go.RowKit Tre Cod Pst

/-- What stays while the new list of operations is built. -/
structure InsK (W0 : World) (n0 n1 n2 B : Nat) (x : Pw) (m : Mv) (A1 A3 : Option Addr) (L1 L3 : List Mv) (W : World) : Prop where
  P : pwE.In W n0 x
  O : opE.In W n1 m
  R : pwE.In W n2 Pw.zero
  o1 : opE.SlB B W A1 L1
  o3 : opE.SlB B W A3 L3
  bel : Below W0.heap.size W0 W
  sz : B ≤ W.heap.size
  lt : n0 < B ∧ n1 < B ∧ n2 < B ∧ W0.heap.size ≤ B
theorem InsK.grown {W0 W W' : World} {n0 n1 n2 B : Nat} {x : Pw} {m : Mv} {A1 A3 : Option Addr} {L1 L3 : List Mv} {row : Option Nat} (h : InsK W0 n0 n1 n2 B x m A1 A3 L1 L3 W) (hg : W.grownBy W' row) (hrow : ∀ k, row = some k → B ≤ k) : InsK W0 n0 n1 n2 B x m A1 A3 L1 L3 W' := by
  obtain ⟨l0, l1, l2, l3⟩ := h.lt
  exact ⟨h.P.keep hg (fun e => by have := hrow _ e.symm; omega), h.O.keep hg (fun e => by have := hrow _ e.symm; omega), h.R.keep hg (fun e => by have := hrow _ e.symm; omega), h.o1.keep hg hrow, h.o3.keep hg hrow, h.bel.grown hg h.bel.size (fun k e => by have := hrow k e; omega), Nat.le_trans h.sz hg.size, h.lt⟩
theorem InsK.alloc {W0 W : World} {n0 n1 n2 B : Nat} {x : Pw} {m : Mv} {A1 A3 : Option Addr} {L1 L3 : List Mv} (h : InsK W0 n0 n1 n2 B x m A1 A3 L1 L3 W) (o : Obj) : InsK W0 n0 n1 n2 B x m A1 A3 L1 L3 (W.alloc o) :=
  h.grown (World.grownBy_alloc W o none) (fun k e => by cases e)
/-- What the region reads. -/
def InsS (n0 n1 : Nat) (A : Option Addr) (len c : Nat) (m : Mv) (w : World) : Prop := w.cell? ⟨n0, 2, none⟩ = some (.slice A len c) ∧ (w.cell? ⟨n1, 0, none⟩ = some (.int .i64 m.C) ∧ w.cell? ⟨n1, 1, none⟩ = some (.int .i64 m.D) ∧ w.cell? ⟨n1, 2, none⟩ = some (.int .i64 m.I) ∧ w.cell? ⟨n1, 3, none⟩ = some (.int .i64 m.M) ∧ w.cell? ⟨n1, 4, none⟩ = some (.int .i64 m.K) ∧ w.cell? ⟨n1, 5, none⟩ = some (.int .i64 m.U) ∧ w.cell? ⟨n1, 6, none⟩ = some (.string m.s))
theorem InsK.s {W0 W : World} {n0 n1 n2 B : Nat} {x : Pw} {m : Mv} {A1 A3 : Option Addr} {L1 L3 : List Mv} (h : InsK W0 n0 n1 n2 B x m A1 A3 L1 L3 W) : InsS n0 n1 x.oA x.ops.length x.oc m W := ⟨(pwIn5 h.P).2.2.1, opIn7 h.O⟩
theorem addV_late {q : Pv} {m : Mv} (h : m.C ≤ q.t) : addV q m = (q, false) := by unfold addV; rw [if_pos h]
theorem addV_same {q : Pv} {m : Mv} (h : ¬ m.C ≤ q.t) (hh : has Mv.C Mv.D q.ops m = true) : addV q m = (q, false) := by unfold addV; rw [if_neg h, if_pos hh]
theorem addV_new {q : Pv} {m : Mv} (h : ¬ m.C ≤ q.t) (hh : has Mv.C Mv.D q.ops m = false) : addV q m = ({ q with ops := insL Mv.C Mv.D q.ops m, us := (foldL q.base (mvs (insL Mv.C Mv.D q.ops m))).2, now := (foldL q.base (mvs (insL Mv.C Mv.D q.ops m))).1 }, true) := by
  unfold addV; rw [if_neg h, hh]; rfl
theorem insL_eq {l : List Mv} {m : Mv} {k : Nat} (h : k = pos Mv.C Mv.D l m) : insL Mv.C Mv.D l m = (l.take k ++ [m]) ++ l.drop k := by unfold insL; rw [← h]

end Go.Proofs.YtfpgfclmmdihjaaGreat

/- The document's Settle. -/
namespace Go.Proofs.YtfpgfclmmdihjaaGreat
open Go.RowKit Tre Cod Pst

def SetS (n0 : Nat) (bA : Option Addr) (bl bc : Nat) (A : Option Addr) (len c : Nat) (w : World) : Prop := w.cell? ⟨n0, 0, none⟩ = some (.slice bA bl bc) ∧ w.cell? ⟨n0, 2, none⟩ = some (.slice A len c)
theorem settleV_late {q : Pv} {t : Int} (h : t ≤ q.t) : settleV q t = q := by unfold settleV; rw [if_pos h]
theorem settleV_new {q : Pv} {t : Int} (h : ¬ t ≤ q.t) {k : Nat} (hk : k = upto Mv.C q.ops t) : settleV q t =
    ⟨(foldL q.base (mvs (q.ops.take k))).1, t, q.ops.drop k, (foldL (foldL q.base (mvs (q.ops.take k))).1 (mvs (q.ops.drop k))).2, (foldL (foldL q.base (mvs (q.ops.take k))).1 (mvs (q.ops.drop k))).1⟩ := by
  subst hk; unfold settleV; rw [if_neg h]

end Go.Proofs.YtfpgfclmmdihjaaGreat

/- Of PastPlays: the document's Add and Settle at known lists; a past's bytes are few; what number n waits for along a path. -/
namespace Go.Proofs.YtfpgfclmmdihjaaGreat
open Go.RowKit Tre Cod Pst Nam

theorem tree_bytes {l : List Pl} (h : treeB l = true) : (treeBytes l).size ≤ 100000 := by
  have h1 := tree_len h
  have h2 := catL_le l (tree_fit h)
  unfold treeBytes
  rw [ByteArray.size_append]
  have h3 := bytesOf_le l.length (by omega) (by omega)
  omega

section
variable {P : Program} {ops : Array Oper} {Q : Exit → Act → World → Prop} {md : Region.Mode} {S : World → Prop} {n : Nat}

theorem anyG_first2 {i : Nat} {oi : Oper} {v : Value} (hi : ops[i]? = some oi) (hin : i ≠ n) (hsel : ∀ (j : Nat) (o : Oper) cs b, ops[j]? = some o → o.op ≠ .select cs b)
    (hQ : ∀ c a w, Q (.panic c) (a.put oi.dst v) w → Q (.panic c) a w) (ms : List Nat) (hm : ∀ x ∈ n :: ms, ∃ y ∈ i :: ms, waitsB md ops x y = true) :
    ∀ (fuel : Nat) (listed : Array Bool) (a : Act) (w : World),
      (∀ j oj, ops[j]? = some oj → j ≠ i → listed.getD j true = false → (∀ e ∈ oj.after, Region.binds md e = true → e.on ≠ i) → oi.apart ops oj = true) →
      i ∈ Region.ready md ops listed → YieldsIf P ops S oi v a → S w → listed.getD n true = false → (∀ y ∈ ms, listed.getD y false = false) →
      anyG P md ops Q S n fuel (listed.setIfInBounds i true) (a.put oi.dst v) w → anyG P md ops Q S n (fuel + 1) listed a w := by
  intro fuel
  induction fuel with
  | zero =>
    intro listed a w _ hr hy hTw hn _ H
    refine ⟨fun h => (by rw [h] at hr; cases hr), fun j hj => ?_⟩
    by_cases hji : j = i
    · subst hji; exact hy.wpOp hi hTw ⟨fun h => hTw, H⟩
    · have h0 := ready_mono hj hji
      rw [H.1] at h0
      cases h0
  | succ fuel ih =>
    intro listed a w hfree hr hy hTw hn hms H
    refine ⟨fun h => (by rw [h] at hr; cases hr), fun j hj => ?_⟩
    by_cases hji : j = i
    · subst hji; exact hy.wpOp hi hTw ⟨fun h => hTw, H⟩
    · have hunf := getD_false (mem_ready.1 hr).1
      have hjm : ∀ x ∈ n :: ms, j ≠ x := fun x hx e => by
        subst e
        obtain ⟨y, hy1, hy2⟩ := hm j hx
        have h4 := waits_spec hy2 hj
        rcases List.mem_cons.1 hy1 with rfl | hy1
        · rw [hunf] at h4; cases h4
        · rw [hms y hy1] at h4; cases h4
      have h1 := H.2 j (ready_mono hj hji)
      obtain ⟨hjun, oj, hoj, hall⟩ := mem_ready.1 hj
      have hnot : ∀ e ∈ oj.after, Region.binds md e = true → e.on ≠ i := fun e he hb heq => by
        have h2 := hall e he hb
        rw [heq, hunf] at h2; cases h2
      have h2 := wpOp_putIf hoj (hfree j oj hoj hji hjun hnot) (fun cs b => hsel i oi cs b hi) (fun cs b => hsel j oj cs b hoj) hQ hy h1
      refine wpOp_mono (fun b u h3 => ?_) h2
      have hn2 : (listed.setIfInBounds j true).getD n true = false := by rw [getD_set_ne true (hjm n (by simp))]; exact hn
      have hSu : S u := h3.2.1 (by
        rw [Array.setIfInBounds_comm _ _ (Ne.symm hji), getD_set_ne true hin]; exact hn2)
      refine ⟨fun _ => hSu, ih (listed.setIfInBounds j true) b u (fun k ok hk hki hku hno => hfree k ok hk hki ?_ hno) (ready_mono hr (Ne.symm hji)) h3.1 hSu hn2 (fun y hy => by rw [getD_set_ne false (hjm y (by simp [hy]))]; exact hms y hy) ?_⟩
      · by_cases hjk : j = k
        · subst hjk; exact hjun
        · rw [getD_set_ne true hjk] at hku; exact hku
      · rw [Array.setIfInBounds_comm _ _ hji]
        exact h3.2.2
/-- What yields in whatever world meets S, and for what number n waits by way of ms. -/
theorem anyG_path {i : Nat} {oi : Oper} {v : Value} {fuel : Nat} {listed : Array Bool} {a : Act} {w : World} (ms : List Nat) (hi : ops.toList[i]? = some oi)
    (hl : (n :: ms).all (fun x => (i :: ms).any fun y => waitsB md ops x y) = true) (hin : (i == n || listed.getD n true || ms.any (fun y => listed.getD y false)) = false) (hs : Region.noSelect ops = true) (hf : Region.free md ops listed i = true) (hr : (Region.ready md ops listed).contains i = true)
    (hQ : ∀ c a w, Q (.panic c) (a.put oi.dst v) w → Q (.panic c) a w) (hy : YieldsIf P ops S oi v a) (hS : S w)
    (h : anyG P md ops Q S n fuel (listed.setIfInBounds i true) (a.put oi.dst v) w) : anyG P md ops Q S n (fuel + 1) listed a w := by
  have hi : ops[i]? = some oi := by rw [← Array.getElem?_toList]; exact hi
  rw [Bool.or_eq_false_iff, Bool.or_eq_false_iff] at hin
  refine anyG_first2 hi (by simpa using hin.1.1) (Region.noSelect_spec hs) hQ ms (fun x hx => ?_) fuel listed a w (Region.free_spec hi hf) (by simpa using hr) hy hS hin.1.2 (fun y hy => ?_) h
  · rw [List.all_eq_true] at hl
    have := hl x hx
    rw [List.any_eq_true] at this
    exact this
  · have := hin.2
    rw [List.any_eq_false] at this
    simpa using this y hy
end
end Go.Proofs.YtfpgfclmmdihjaaGreat

/- PastBack is proved: a past is read from its bytes as it was. Conditions: none. -/
namespace Go.Proofs.YtfpgfclmmdihjaaGreat
open Go.ChangeShapes Go.WideShapes Go.ChangeAt Go.RowKit Go.Deep Nam Cod Tre Pst

theorem catM_app : ∀ (b a : List Mv), catM (a ++ b) = catM a ++ catM b
  | [], a => by
    rw [List.append_nil]
    apply L_inj; rw [L_app]
    show _ = L (catM a) ++ L (ByteArray.mk #[])
    simp [L]
  | m :: b, a => by
    have e : a ++ m :: b = (a ++ [m]) ++ b := by rw [List.append_assoc]; rfl
    have e2 : m :: b = [m] ++ b := rfl
    have h0 : catM [m] = m.bytes := by
      have h := catM_snoc [] m
      rw [List.nil_append] at h
      rw [h]
      apply L_inj; rw [L_app]
      show L (ByteArray.mk #[]) ++ _ = _
      simp [L]
    rw [e, catM_app b (a ++ [m]), catM_snoc, e2, catM_app b [m], h0, ByteArray.append_assoc]

/-- Where a past's operation number k stands. -/
def posV (V : Pv) (k : Nat) : Nat := (headV V).size + (catM (V.ops.take k)).size
theorem past_there (V : Pv) (Z : ByteArray) (hI : PInv V) (hl : V.ops.length ≤ 60) : ∃ p1 p2, isTree (pastBytes V ++ Z) 0 false = some (V.base, p1) ∧ p1 ≤ (pastBytes V ++ Z).size ∧ isCount (pastBytes V ++ Z) p1 false 1099511627776 = some (V.t, p2) ∧ p2 ≤ (pastBytes V ++ Z).size ∧
    isCount (pastBytes V ++ Z) p2 false 4096 = some ((V.ops.length : Int), posV V 0) ∧ (∀ k (h : k < V.ops.length), isOp (pastBytes V ++ Z) (posV V k) false = some (V.ops[k], posV V (k + 1))) ∧ (∀ k, k ≤ V.ops.length → posV V k ≤ (pastBytes V ++ Z).size) ∧ posV V V.ops.length = (pastBytes V).size := by
  have hbl := tree_len hI.tree
  have ht0 := hI.t0
  have ht1 := hI.t1
  have hend : posV V V.ops.length = (pastBytes V).size := by unfold posV pastBytes; rw [List.take_length, ByteArray.size_append]
  have hsz : (pastBytes V ++ Z).size = (pastBytes V).size + Z.size := ByteArray.size_append
  have hsp : (pastBytes V).size = (treeBytes V.base).size + (bytesOf V.t).size + (bytesOf V.ops.length).size + (catM V.ops).size := by
    unfold pastBytes headV; simp only [ByteArray.size_append]
  have e1 : pastBytes V ++ Z = treeBytes V.base ++ (bytesOf V.t ++ (bytesOf V.ops.length ++ (catM V.ops ++ Z))) := by unfold pastBytes headV; simp only [ByteArray.append_assoc]
  have e2 : pastBytes V ++ Z = (treeBytes V.base ++ bytesOf V.t) ++ (bytesOf V.ops.length ++ (catM V.ops ++ Z)) := by rw [e1]; simp only [ByteArray.append_assoc]
  have h1 := tree_there ⟨#[]⟩ (bytesOf V.t ++ (bytesOf V.ops.length ++ (catM V.ops ++ Z))) V.base hI.tree (by omega)
  rw [empty_b, ← e1] at h1
  have h0 : (ByteArray.mk #[]).size = 0 := rfl
  rw [h0, Nat.zero_add] at h1
  have h2 := count_there (treeBytes V.base) (bytesOf V.ops.length ++ (catM V.ops ++ Z)) V.t 1099511627776 ht0 ht1 (by omega)
  rw [← e1] at h2
  have h3 := count_there (treeBytes V.base ++ bytesOf V.t) (catM V.ops ++ Z) V.ops.length 4096 (by omega) (by omega) (by omega)
  rw [← e2, ByteArray.size_append] at h3
  refine ⟨_, _, h1, by omega, h2, by omega, ?_, fun k hk => ?_, fun k hk => ?_, hend⟩
  · rw [h3]
    have : posV V 0 = (treeBytes V.base).size + (bytesOf V.t).size + (bytesOf V.ops.length).size := by
      unfold posV headV
      simp only [ByteArray.size_append]
      rw [List.take_zero]
      show _ + (ByteArray.mk #[]).size = _
      rw [h0]; rfl
    rw [this]
  · have hc : catM V.ops = catM (V.ops.take k) ++ (V.ops[k].bytes ++ catM (V.ops.drop (k + 1))) := by
      have h := catM_app (V.ops.drop (k + 1)) (V.ops.take (k + 1))
      rw [List.take_append_drop, catM_next hk rfl, ByteArray.append_assoc] at h
      exact h
    have h4 := op_there (headV V ++ catM (V.ops.take k)) (catM (V.ops.drop (k + 1)) ++ Z) V.ops[k].C V.ops[k].D V.ops[k].I V.ops[k].M V.ops[k].K V.ops[k].U V.ops[k].s (hI.ok _ (List.getElem_mem hk))
    have e3 : pastBytes V ++ Z = (headV V ++ catM (V.ops.take k)) ++ (printOf V.ops[k].C V.ops[k].D V.ops[k].I V.ops[k].M V.ops[k].K V.ops[k].U V.ops[k].s ++ (catM (V.ops.drop (k + 1)) ++ Z)) := by
      unfold pastBytes
      rw [hc]
      unfold Mv.bytes
      simp only [ByteArray.append_assoc]
    rw [← e3, ByteArray.size_append] at h4
    unfold posV
    rw [h4, catM_next hk rfl, ByteArray.size_append, Nat.add_assoc]
    rfl
  · have hc := catM_app (V.ops.drop k) (V.ops.take k)
    rw [List.take_append_drop] at hc
    have h5 : (catM V.ops).size = (catM (V.ops.take k)).size + (catM (V.ops.drop k)).size := by rw [hc, ByteArray.size_append]
    have h6 : (headV V).size = (treeBytes V.base).size + (bytesOf V.t).size + (bytesOf V.ops.length).size := by unfold headV; simp only [ByteArray.size_append]
    unfold posV
    omega

end Go.Proofs.YtfpgfclmmdihjaaGreat
