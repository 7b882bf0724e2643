/- Texts laid one behind the other: Yc, Gr, Yd, Ye, Yf, Yg, Yn, Yr, Yt, Yu, Sht, Yq, Yh, Frm, Ar. -/
import Derived.Test.YtdhcgflblbmogaaDoorB02
import Derived.Lib.SmallJoins
import Derived.Laws.IdiomStrings
import Derived.BigQuiet
import Derived.Deep.QuietTactic
import Derived.Deep.RegionHeld3
import Derived.Maps.OwnSet
import Derived.Maps.Views
import Derived.Shelf.Strconv.Itoa0
import Derived.Shelf.Strconv.Itoa1
import Derived.Shelf.LaysM
import Derived.Shelf.Strconv.Itoa2
import Derived.Shelf.Strconv.Itoa3
import Derived.Test.YtdhcgflblbmogaaDoorProg
import Derived.Test.YtdhcgflblbmogaaDoorRows
import Derived.WalkKit
import Derived.ProofKit
import Derived.OpenShut
import Derived.ChangeSame
import Derived.Carry
import Derived.Lib.QuietBelow
import Derived.Deep.SlicePairs
import Derived.ChangeSlices
import Derived.ChangeShapes
/- What is shown, of the document: its elements; Twin; which of those that have one name is the least. -/
namespace Go.Proofs.YtdhcgflblbmogaaDoor
open Go.RowKit Tre Cod Nam
open Go.Lib (decDigits decDigits_one)

def seE : El Pl where
  e := 36
  k := 3
  c p := [.int .i64 p.n, .int .i64 p.u, .string p.s]
  len _ := rfl
  one p u h := by
    simp only [List.mem_cons, List.not_mem_nil, or_false] at h
    rcases h with rfl | rfl | rfl <;> rfl
  pos := by decide
theorem seInn : seE.Inn Tryd.prog 27 := El.inn_of (z := .agg #[.int .i64 0, .int .i64 0, .string ⟨#[]⟩]) (bytes := 32) Tryd.underlying27 (by kernel_rfl) rfl (by decide)
theorem seRow : seE.Row Tryd.prog := ⟨by kernel_rfl, _, Tryd.underlying36, rfl⟩
theorem plAt3 {w : World} {b o : Nat} {p : Pl} (h : plE.At w b o p) : w.cell? ⟨b, o, none⟩ = some (.int .i64 p.n) ∧ w.cell? ⟨b, o + 1, none⟩ = some (.int .i64 p.u) ∧ w.cell? ⟨b, o + 2, none⟩ = some (.string p.s) := ⟨h 0 _ rfl, h 1 _ rfl, h 2 _ rfl⟩
theorem seAt3 {w : World} {b o : Nat} {p : Pl} (h : seE.At w b o p) : w.cell? ⟨b, o, none⟩ = some (.int .i64 p.n) ∧ w.cell? ⟨b, o + 1, none⟩ = some (.int .i64 p.u) ∧ w.cell? ⟨b, o + 2, none⟩ = some (.string p.s) := ⟨h 0 _ rfl, h 1 _ rfl, h 2 _ rfl⟩

theorem dec_len (n : Nat) (h : n < 18446744073709551616) : (decDigits n).length ≤ 20 := by
  rw [Lib.decDigits_length]
  by_cases h0 : n < 1
  · rw [show n = 0 by omega, Lib.nDigits_small (by decide)]; decide
  · have h1 := (Lib.numDigits_eq n (by omega) h)
    have := h1.2
    rw [← h1.1]; split <;> omega
theorem dec_size (n : Nat) (h : n < 18446744073709551616) : (⟨(decDigits n).toArray⟩ : ByteArray).size ≤ 20 := dec_len n h
theorem twin_size (s : ByteArray) (n : Nat) (h : n < 18446744073709551616) : (twinOf s n).size ≤ s.size + 21 := by
  have := dec_size n h
  unfold twinOf
  rw [ByteArray.size_append, ByteArray.size_append]
  have : (⟨#[126]⟩ : ByteArray).size = 1 := rfl
  omega
theorem dec_big {u : Nat} (h : ¬ u < 10) : decDigits u = decDigits (u / 10) ++ [UInt8.ofNat (48 + u % 10)] := by rw [decDigits, dif_neg h]

set_option maxRecDepth 100000 in
set_option maxHeartbeats 2000000 in
theorem refTwin_any (s : ByteArray) (n : Nat) (w : World) (hn : n ≤ 9223372036854775807) (hs : s.size ≤ 1000000) : Calls Tryd.prog 19 #[.string s, .int .i64 n] w fun e w' => e = .returned (.string (twinOf s n)) ∧ Below w.heap.size w w' := by
  have hlen := dec_len n (by omega)
  have HT := Lib.hid (show L (twinOf s n) = L s ++ (126 : UInt8) :: decDigits n from L_twin s n)
  generalize twinOf s n = T at HT ⊢
  have HD : Hid (decDigits n = decDigits n) := Lib.hid rfl
  generalize hD : decDigits n = D at hlen HT
  have HE := Lib.hid hD
  clear hD HD
  go_enter Tryd.func19, Tryd.ntmps19
  go_wp2
  go_loopw [5, 6] (fun d r wr => ∃ (u : Nat) (S : ByteArray), r = .int .u64 u ∧ u < 18446744073709551616 ∧ d = .string S ∧ Hid (decDigits u ++ L S = D) ∧ Below w.heap.size w wr) (fun _ r _ => (intOf r).toNat)
  case atStart => exact ⟨n, ⟨#[]⟩, by go_num, by omega, rfl, by show decDigits n ++ [] = D; rw [List.append_nil]; exact HE.out, Below.refl _ _⟩
  case round =>
    obtain ⟨u, S, rfl, hu, rfl, hl, hnx⟩ := hrel
    have hll : (decDigits u).length + S.size ≤ 20 := by
      have h := congrArg List.length hl.out
      rw [List.length_append, L_len] at h; omega
    by_cases hb : u < 10
    · have HF := Lib.hid (show s ++ ⟨#[126]⟩ ++ ⟨#[UInt8.ofNat (48 + u)]⟩ ++ S = T from L_inj (by
        rw [L_app, L_app, L_app, HT.out, ← hl.out, decDigits_one hb, List.append_assoc, List.append_assoc]; rfl))
      have hcv := conv1 (48 + u) (by omega) wr
      rw [show ((48 + u : Nat) : Int) = 48 + (u : Int) by omega] at hcv
      have hsz : (ByteArray.mk #[UInt8.ofNat (48 + u)]).size = 1 := rfl
      generalize UInt8.ofNat (48 + u) = b at HF hcv hsz
      have hsz2 : (ByteArray.mk #[126]).size = 1 := rfl
      go_wp2
      go_ret
      exact ⟨by rw [← HF.out]; rfl, below_alloc hnx _⟩
    · have HN := Lib.hid (show decDigits (u / 10) ++ L (⟨#[UInt8.ofNat (48 + u % 10)]⟩ ++ S) = D by
        rw [L_app, ← List.append_assoc]
        show (decDigits (u / 10) ++ [UInt8.ofNat (48 + u % 10)]) ++ L S = D
        rw [← dec_big hb]; exact hl.out)
      have hcv := conv1 (48 + u % 10) (by omega) wr
      rw [show ((48 + u % 10 : Nat) : Int) = 48 + (u : Int) % 10 by omega] at hcv
      have hsz : (ByteArray.mk #[UInt8.ofNat (48 + u % 10)]).size = 1 := rfl
      generalize UInt8.ofNat (48 + u % 10) = b at HN hcv hsz
      go_wp2
      go_roundw
      case rel => exact ⟨u / 10, ⟨#[b]⟩ ++ S, by go_num, by omega, rfl, HN, below_alloc hnx _⟩
      case measure => simp [intOf]; omega

set_option maxRecDepth 100000 in
set_option maxHeartbeats 4000000 in
theorem refFirst_any (A : Option Addr) (c : Nat) (t : List Pl) (p : Pl) (w : World) (hl : t.length ≤ 1000) (hT : plE.Sl w A t) :
    Calls Tryd.prog 32 #[.slice A t.length c, .agg #[.int .i64 p.n, .int .i64 p.u, .string p.s]] w fun e w' => e = .returned (.bool (firstB t p)) ∧ Below w.heap.size w w' := by
  have hP : plE.In (w.alloc (.cells #[.int .i64 p.n, .int .i64 p.u, .string p.s] 33)) w.heap.size p := El.In.new (E := plE) w p _ rfl
  have hB := below_alloc (Below.refl w.heap.size w) (.cells #[.int .i64 p.n, .int .i64 p.u, .string p.s] 33)
  go_enter Tryd.func32, Tryd.ntmps32
  go_wp2_with fail
  generalize w.alloc (.cells #[.int .i64 p.n, .int .i64 p.u, .string p.s] 33) = W0 at *
  obtain ⟨n3, h3⟩ : ∃ n, w.heap.size = n := ⟨_, rfl⟩
  rw [h3] at hP ⊢
  clear h3
  go_loopw [5] (fun y wr => ∃ k : Nat, k ≤ t.length ∧ y = .int .i64 k ∧ (∀ i (h : i < t.length), i < k → ¬ (t[i].u = p.u ∧ t[i].s = p.s ∧ t[i].n < p.n)) ∧ plE.In wr n3 p ∧ Below w.heap.size w wr) (fun y _ => t.length - (intOf y).toNat)
  case atStart => exact ⟨0, Nat.zero_le _, rfl, (fun i h hi => by omega), hP, hB⟩
  case round =>
    clear hP hB
    obtain ⟨k, hk, rfl, hn, hP, hB⟩ := hrel
    by_cases hkl : k < t.length
    · obtain ⟨b, off, rfl, hbw, hc⟩ := hT (by omega)
      have hat : plE.At wr b (off + k * 3) t[k] := (hc k hkl).below hB hbw
      obtain ⟨q, hq⟩ : ∃ q, t[k] = q := ⟨_, rfl⟩
      rw [hq] at hat
      have HQ := Lib.hid hq
      have HN := Lib.hid hn
      have HNX := Lib.hid (show ¬ (q.u = p.u ∧ q.s = p.s ∧ q.n < p.n) → ∀ i (h : i < t.length), i < k + 1 → ¬ (t[i].u = p.u ∧ t[i].s = p.s ∧ t[i].n < p.n) from fun hx i h hi => by
        by_cases e : i = k
        · subst e; rw [hq]; exact hx
        · exact hn i h (by omega))
      clear hc hq hn
      obtain ⟨a0, a1, a2⟩ := plAt3 hat
      obtain ⟨p0, p1, p2⟩ := plIn3 hP
      clear hat
      by_cases e1 : q.u = p.u
      · have hd1 : (q.u == p.u) = true := by rw [e1]; exact beq_self_eq_true _
        by_cases e2 : q.s = p.s
        · have hs1 : (q.s.toList == p.s.toList) = true := by rw [e2]; exact beq_self_eq_true _
          by_cases e3 : q.n < p.n
          · have HF := Lib.hid (show firstB t p = false from by
              rcases h : firstB t p with _ | _
              · rfl
              · exact (firstB_iff.1 h q (by rw [← HQ.out]; exact List.getElem_mem _) ⟨e1, e2, e3⟩).elim)
            rw [e1] at a1
            rw [e2] at a2
            clear e1 e2 hs1 hd1
            go_wp2_with fail
            go_quiet (fail)
            go_wp2_with fail
            go_ret
            exact ⟨by rw [HF.out]; rfl, below_drew hB nq⟩
          · have HH := Lib.hid (HNX.out fun h => e3 h.2.2)
            rw [e1] at a1
            rw [e2] at a2
            clear e1 e2 hs1 hd1
            go_wp2_with fail
            go_quiet (fail)
            go_wp2_with fail
            exact ⟨⟨k + 1, by omega, by go_num, HH.out, hP.below (below_drew (Below.refl _ _) nq), below_drew hB nq⟩, by simp [intOf]; omega⟩
        · have HH := Lib.hid (HNX.out fun h => e2 h.2.1)
          have hs1 := ne_beq e2
          have hs2 := ne_list e2
          rw [e1] at a1
          clear e1 hd1
          go_wp2_with fail
          go_quiet (fail)
          go_wp2_with fail
          exact ⟨⟨k + 1, by omega, by go_num, HH.out, hP.below (below_drew (Below.refl _ _) nq), below_drew hB nq⟩, by simp [intOf]; omega⟩
      · have HH := Lib.hid (HNX.out fun h => e1 h.1)
        have hd1 : (q.u == p.u) = false := beq_eq_false_iff_ne.2 e1
        go_wp2_with fail
        go_quiet (fail)
        go_wp2_with fail
        exact ⟨⟨k + 1, by omega, by go_num, HH.out, hP.below (below_drew (Below.refl _ _) nq), below_drew hB nq⟩, by simp [intOf]; omega⟩
    · have HF := Lib.hid (show firstB t p = true from firstB_iff.2 fun q hq => by
        obtain ⟨i, hi, rfl⟩ := List.getElem_of_mem hq
        exact hn i hi (by omega))
      clear hn
      go_wp2_with fail
      go_ret
      exact ⟨by rw [HF.out]; rfl, hB⟩
end Go.Proofs.YtdhcgflblbmogaaDoor

/- A region that draws its order, whose last operation writes what others of it read: S need not hold behind that one. No function of the program in it. -/
namespace Go.Proofs.YtdhcgflblbmogaaDoor
open Go.RowKit

section
variable {P : Program} {ops : Array Oper} {Q : Exit → Act → World → Prop} {md : Region.Mode} {S : World → Prop} {n : Nat}

/-- Whatever order is picked from here on; S holds behind every operation till number n comes. -/
def anyG (P : Program) (md : Region.Mode) (ops : Array Oper) (Q : Exit → Act → World → Prop) (S : World → Prop) (n : Nat) : Nat → Array Bool → Act → World → Prop
  | 0, listed, a, w => Region.ready md ops listed = [] ∧ Q .normal a w
  | fuel + 1, listed, a, w =>
    (Region.ready md ops listed = [] → Q .normal a w) ∧
    ∀ i ∈ Region.ready md ops listed, wpOp P ops Q i (fun b v => ((listed.setIfInBounds i true).getD n true = false → S v) ∧ anyG P md ops Q S n fuel (listed.setIfInBounds i true) b v) a w
theorem anyG_any : ∀ (fuel : Nat) (listed : Array Bool) (a : Act) (w : World), anyG P md ops Q S n fuel listed a w → wpAny P md ops Q fuel listed a w
  | 0, _, _, _, h => h
  | fuel + 1, _, _, _, h => ⟨h.1, fun i hi => wpOp_mono (fun b v hb => anyG_any fuel _ b v hb.2) (h.2 i hi)⟩
theorem region_anyG {id : Nat} {a : Act} {w : World} (n : Nat) (hm : P.follows .mixedOrders = true) (h : anyG P .any ops Q S n ops.size (Array.replicate ops.size false) a w.drew) : (Code.region id ops true).wp P Q a w :=
  wp_region_any hm (anyG_any _ _ _ _ h)

/-- Number n waits for number i. -/
def waitsB (md : Region.Mode) (ops : Array Oper) (n i : Nat) : Bool := match ops[n]? with
  | none => false
  | some o => o.after.any fun e => Region.binds md e && e.on == i
theorem waits_spec {listed : Array Bool} {i : Nat} (hl : waitsB md ops n i = true) (hr : n ∈ Region.ready md ops listed) : listed.getD i false = true := by
  obtain ⟨_, o, ho, hall⟩ := mem_ready.1 hr
  unfold waitsB at hl
  rw [ho] at hl
  obtain ⟨e, he, hb⟩ := Array.any_eq_true'.1 hl
  rw [Bool.and_eq_true, beq_iff_eq] at hb
  have := hall e he hb.1
  rw [hb.2] at this; exact this
theorem getD_false {listed : Array Bool} {i : Nat} (h : listed.getD i true = false) : listed.getD i false = false := by
  rcases Nat.lt_or_ge i listed.size with h1 | h1
  · simp [h1] at h ⊢; exact h
  · simp [Array.getElem?_eq_none h1] at h
theorem getD_here (listed : Array Bool) (n : Nat) : (listed.setIfInBounds n true).getD n true = true := by
  rcases Nat.lt_or_ge n listed.size with h1 | h1
  · simp [h1]
  · have h2 : (listed.setIfInBounds n true).size ≤ n := by simpa using h1
    simp [Array.getElem?_eq_none h2]

theorem anyG_first {i : Nat} {oi : Oper} {v : Value} (hi : ops[i]? = some oi) (hin : i ≠ n) (hsel : ∀ (j : Nat) (o : Oper) cs b, ops[j]? = some o → o.op ≠ .select cs b)
    (hQ : ∀ c a w, Q (.panic c) (a.put oi.dst v) w → Q (.panic c) a w) (T : World → Prop) (hT : waitsB md ops n i = true ∨ ∀ w, T w) :
    ∀ (fuel : Nat) (listed : Array Bool) (a : Act) (w : World),
      (∀ j oj, ops[j]? = some oj → j ≠ i → listed.getD j true = false → (∀ e ∈ oj.after, Region.binds md e = true → e.on ≠ i) → oi.apart ops oj = true) →
      i ∈ Region.ready md ops listed → YieldsIf P ops T oi v a → T w → (listed.getD n true = false → S w) → ((∀ w, T w) ∨ (listed.getD n true = false ∧ ∀ w, S w → T w)) →
      anyG P md ops Q S n fuel (listed.setIfInBounds i true) (a.put oi.dst v) w → anyG P md ops Q S n (fuel + 1) listed a w := by
  intro fuel
  induction fuel with
  | zero =>
    intro listed a w _ hr hy hTw hS _ H
    refine ⟨fun h => (by rw [h] at hr; cases hr), fun j hj => ?_⟩
    by_cases hji : j = i
    · subst hji; exact hy.wpOp hi hTw ⟨fun h => hS (by rw [getD_set_ne true hin] at h; exact h), H⟩
    · have h0 := ready_mono hj hji
      rw [H.1] at h0
      cases h0
  | succ fuel ih =>
    intro listed a w hfree hr hy hTw hS hTT H
    refine ⟨fun h => (by rw [h] at hr; cases hr), fun j hj => ?_⟩
    by_cases hji : j = i
    · subst hji; exact hy.wpOp hi hTw ⟨fun h => hS (by rw [getD_set_ne true hin] at h; exact h), H⟩
    · have hunf := getD_false (mem_ready.1 hr).1
      have h1 := H.2 j (ready_mono hj hji)
      obtain ⟨hjun, oj, hoj, hall⟩ := mem_ready.1 hj
      have hnot : ∀ e ∈ oj.after, Region.binds md e = true → e.on ≠ i := fun e he hb heq => by
        have h2 := hall e he hb
        rw [heq, hunf] at h2; cases h2
      have h2 := wpOp_putIf hoj (hfree j oj hoj hji hjun hnot) (fun cs b => hsel i oi cs b hi) (fun cs b => hsel j oj cs b hoj) hQ hy h1
      refine wpOp_mono (fun b u h3 => ?_) h2
      have hSu : (listed.setIfInBounds j true).getD n true = false → S u := fun h => h3.2.1 (by
        rw [Array.setIfInBounds_comm _ _ (Ne.symm hji), getD_set_ne true hin]; exact h)
      have hTu : T u ∧ ((∀ w, T w) ∨ ((listed.setIfInBounds j true).getD n true = false ∧ ∀ w, S w → T w)) := by
        rcases hTT with hTT | ⟨hun, hST⟩
        · exact ⟨hTT u, Or.inl hTT⟩
        · by_cases hjn : j = n
          · rcases hT with hT | hT
            · subst hjn
              have h4 := waits_spec hT hj
              rw [hunf] at h4; cases h4
            · exact ⟨hT u, Or.inl hT⟩
          · have hn2 : (listed.setIfInBounds j true).getD n true = false := by rw [getD_set_ne true hjn]; exact hun
            exact ⟨hST u (hSu hn2), Or.inr ⟨hn2, hST⟩⟩
      refine ⟨hSu, ih (listed.setIfInBounds j true) b u (fun k ok hk hki hku hno => hfree k ok hk hki ?_ hno) (ready_mono hr (Ne.symm hji)) h3.1 hTu.1 hSu hTu.2 ?_⟩
      · by_cases hjk : j = k
        · subst hjk; exact hjun
        · rw [getD_set_ne true hjk] at hku; exact hku
      · rw [Array.setIfInBounds_comm _ _ hji]
        exact h3.2.2
/-- What yields in whatever world meets S, and for what number n waits. -/
theorem anyG_take {i : Nat} {oi : Oper} {v : Value} {fuel : Nat} {listed : Array Bool} {a : Act} {w : World} (hi : ops.toList[i]? = some oi)
    (hl : waitsB md ops n i = true) (hin : (i == n || listed.getD n true) = false) (hs : Region.noSelect ops = true) (hf : Region.free md ops listed i = true) (hr : (Region.ready md ops listed).contains i = true)
    (hQ : ∀ c a w, Q (.panic c) (a.put oi.dst v) w → Q (.panic c) a w) (hy : YieldsIf P ops S oi v a) (hS : S w)
    (h : anyG P md ops Q S n fuel (listed.setIfInBounds i true) (a.put oi.dst v) w) : anyG P md ops Q S n (fuel + 1) listed a w := by
  have hi : ops[i]? = some oi := by rw [← Array.getElem?_toList]; exact hi
  rw [Bool.or_eq_false_iff] at hin
  exact anyG_first hi (by simpa using hin.1) (Region.noSelect_spec hs) hQ S (Or.inl hl) fuel listed a w (Region.free_spec hi hf) (by simpa using hr) hy hS (fun _ => hS) (Or.inr ⟨hin.2, fun _ h => h⟩) h
/-- What yields in every world: behind number n, too. -/
theorem anyG_plain {i : Nat} {oi : Oper} {v : Value} {fuel : Nat} {listed : Array Bool} {a : Act} {w : World} (hi : ops.toList[i]? = some oi)
    (hin : (i == n) = false) (hs : Region.noSelect ops = true) (hf : Region.free md ops listed i = true) (hr : (Region.ready md ops listed).contains i = true)
    (hQ : ∀ c a w, Q (.panic c) (a.put oi.dst v) w → Q (.panic c) a w) (hy : Yields P ops oi v a) (hS : listed.getD n true = false → S w)
    (h : anyG P md ops Q S n fuel (listed.setIfInBounds i true) (a.put oi.dst v) w) : anyG P md ops Q S n (fuel + 1) listed a w := by
  have hi : ops[i]? = some oi := by rw [← Array.getElem?_toList]; exact hi
  exact anyG_first hi (by simpa using hin) (Region.noSelect_spec hs) hQ (fun _ => True) (Or.inr fun _ => trivial) fuel listed a w (Region.free_spec hi hf) (by simpa using hr) hy.yieldsIf trivial hS (Or.inl fun _ => trivial) h
theorem anyG_done {listed : Array Bool} {a : Act} {w : World} (hr : Region.ready md ops listed = []) (h : Q .normal a w) : ∀ fuel, anyG P md ops Q S n fuel listed a w
  | 0 => ⟨hr, h⟩
  | _ + 1 => ⟨fun _ => h, by rw [hr]; simp⟩
/-- One of these comes next. -/
def AllG (P : Program) (md : Region.Mode) (ops : Array Oper) (Q : Exit → Act → World → Prop) (S : World → Prop) (n fuel : Nat) (listed : Array Bool) (a : Act) (w : World) (rs : List Nat) : Prop :=
  ∀ i ∈ rs, wpOp P ops Q i (fun b v => ((listed.setIfInBounds i true).getD n true = false → S v) ∧ anyG P md ops Q S n fuel (listed.setIfInBounds i true) b v) a w
theorem anyG_step {rs : List Nat} {fuel : Nat} {listed : Array Bool} {a : Act} {w : World} (hr : Region.ready md ops listed = rs) (hne : rs ≠ []) (h : AllG P md ops Q S n fuel listed a w rs) : anyG P md ops Q S n (fuel + 1) listed a w :=
  ⟨fun h0 => absurd (hr ▸ h0) hne, hr ▸ h⟩
theorem AllG.nil {fuel : Nat} {listed : Array Bool} {a : Act} {w : World} : AllG P md ops Q S n fuel listed a w [] := fun _ h => by cases h
/-- An operation of the middle: S anew. -/
theorem AllG.cons {fuel : Nat} {listed : Array Bool} {a : Act} {w : World} {i : Nat} {o : Oper} {rs : List Nat} (ho : ops.toList[i]? = some o)
    (h : ∀ K : Act → World → Prop, RowKit.Hid (∀ b v, S v → anyG P md ops Q S n fuel (listed.setIfInBounds i true) b v → K b v) → if Region.wanted o (yielded ops a.tmps) = true then Oper.wp P o a w K Q else K (a.put o.dst undef) w)
    (hs : AllG P md ops Q S n fuel listed a w rs) : AllG P md ops Q S n fuel listed a w (i :: rs) := fun j hj => by
  rcases List.mem_cons.1 hj with rfl | hj
  · exact wpOp_step (by rw [← Array.getElem?_toList]; exact ho) (fun K hK => h K (Lib.hid fun b v hS hW => hK b v ⟨fun _ => hS, hW⟩))
  · exact hs j hj
/-- The last one: nothing is asked behind it. -/
theorem AllG.last {fuel : Nat} {listed : Array Bool} {a : Act} {w : World} {o : Oper} (ho : ops.toList[n]? = some o)
    (h : ∀ K : Act → World → Prop, RowKit.Hid (∀ b v, anyG P md ops Q S n fuel (listed.setIfInBounds n true) b v → K b v) → if Region.wanted o (yielded ops a.tmps) = true then Oper.wp P o a w K Q else K (a.put o.dst undef) w) :
    AllG P md ops Q S n fuel listed a w [n] := fun j hj => by
  rw [List.mem_singleton] at hj
  subst hj
  exact wpOp_step (by rw [← Array.getElem?_toList]; exact ho) (fun K hK => h K (Lib.hid fun b v hW => hK b v ⟨fun e => (by rw [getD_here] at e; cases e), hW⟩))
end
end Go.Proofs.YtdhcgflblbmogaaDoor

/- What is below a node, of the document: below. -/
namespace Go.Proofs.YtdhcgflblbmogaaDoor
open Go.RowKit Tre Cod Nam

/-- Those of t below a, each with what g gives of it; the first k places looked at. -/
def partG (t : List Pl) (g : Int → List Pl) (a : Int) (k : Nat) : List Pl := ((t.take k).filter fun p => decide (p.u = a)).flatMap fun p => seen t p :: g p.n
theorem partG_yes {t : List Pl} {g : Int → List Pl} {a : Int} {k : Nat} {p : Pl} (h : k < t.length) (hp : t[k] = p) (hu : p.u = a) : partG t g a (k + 1) = partG t g a k ++ [seen t p] ++ g p.n := by
  unfold partG
  rw [List.take_succ_eq_append_getElem h, List.filter_append, List.flatMap_append, hp, List.append_assoc]
  congr 1
  simp [hu]
theorem partG_no {t : List Pl} {g : Int → List Pl} {a : Int} {k : Nat} {p : Pl} (h : k < t.length) (hp : t[k] = p) (hu : ¬ p.u = a) : partG t g a (k + 1) = partG t g a k := by
  unfold partG
  rw [List.take_succ_eq_append_getElem h, List.filter_append, List.flatMap_append, hp]
  simp [hu]
theorem partG_le (t : List Pl) (g : Int → List Pl) (a : Int) (k : Nat) : (partG t g a k).length ≤ (partG t g a t.length).length := by
  have e : partG t g a t.length = partG t g a k ++ ((t.drop k).filter fun p => decide (p.u = a)).flatMap fun p => seen t p :: g p.n := by
    unfold partG
    rw [List.take_length]
    have e2 : (t.filter fun p => decide (p.u = a)) = ((t.take k).filter fun p => decide (p.u = a)) ++ (t.drop k).filter fun p => decide (p.u = a) := by rw [← List.filter_append, List.take_append_drop]
    rw [e2, List.flatMap_append]
  rw [e, List.length_append]; omega

def PlS (n : Nat) (p : Pl) (w : World) : Prop := w.cell? ⟨n, 0, none⟩ = some (.int .i64 p.n) ∧ w.cell? ⟨n, 1, none⟩ = some (.int .i64 p.u) ∧ w.cell? ⟨n, 2, none⟩ = some (.string p.s)
set_option maxRecDepth 100000 in
set_option maxHeartbeats 4000000 in
theorem refBelow_step (A : Option Addr) (c : Nat) (t : List Pl) (g : Int → List Pl) (a : Int) (w : World) (ht : TreeP t) (hl : t.length ≤ 100) (hT : plE.Sl w A t) (hlen : (partG t g a t.length).length ≤ 1000)
    (hrec : ∀ p ∈ t, p.u = a → ∀ wx, Below w.heap.size w wx → Calls Tryd.prog 25 #[.slice A t.length c, .int .i64 p.n] wx fun e w' => ∃ A' c', e = .returned (.slice A' (g p.n).length c') ∧ SlV seE w' A' c' (g p.n) ∧ Frs wx.heap.size A' ∧ Below wx.heap.size wx w') :
    Calls Tryd.prog 25 #[.slice A t.length c, .int .i64 a] w fun e w' => ∃ A' c', e = .returned (.slice A' (partG t g a t.length).length c') ∧ SlV seE w' A' c' (partG t g a t.length) ∧ Frs w.heap.size A' ∧ Below w.heap.size w w' := by
  have HREC := Lib.hid hrec
  have HLEN := Lib.hid hlen
  clear hrec hlen
  go_enter Tryd.func25, Tryd.ntmps25
  go_wp2_with fail
  go_loopw [5, 6] (fun x y wr => ∃ (k : Nat) (v1 : Value), k ≤ t.length ∧ y = .int .i64 k ∧ x = v1 ∧ seE.Own wr w.heap.size v1 (partG t g a k) ∧ Below w.heap.size w wr) (fun _ y _ => t.length - (intOf y).toNat)
  case atStart => exact ⟨0, _, Nat.zero_le _, rfl, rfl, El.Own.nil w w.heap.size, Below.refl _ _⟩
  case round =>
    obtain ⟨k, v1, hk, rfl, rfl, hO, hB⟩ := hrel
    by_cases hkl : k < t.length
    · obtain ⟨b, off, hA, hbw, hc⟩ := hT (by omega)
      have hat : plE.At wr b (off + k * 3) t[k] := (hc k hkl).below hB hbw
      have hpt : t[k] ∈ t := List.getElem_mem _
      have hy := fun (h : t[k].u = a) => partG_yes (g := g) (a := a) hkl (rfl : t[k] = t[k]) h
      have hno := fun (h : ¬ t[k].u = a) => partG_no (g := g) (a := a) hkl (rfl : t[k] = t[k]) h
      obtain ⟨p, hp⟩ : ∃ p, t[k] = p := ⟨_, rfl⟩
      rw [hp] at hat hpt hy hno
      have HY := Lib.hid hy
      have HNO := Lib.hid hno
      have HRP := Lib.hid (HREC.out p hpt)
      obtain ⟨n1, n2, _, _, n5⟩ := ht.node hpt
      have hps := isName_len n5
      rw [L_len] at hps
      have hbr := Nat.lt_of_lt_of_le hbw hB.size
      clear hp hc hy hno n5 hpt
      subst hA
      have hz0 : plE.In (wr.alloc (.cells #[.int .i64 0, .int .i64 0, .string ⟨#[]⟩] 33)) wr.heap.size zero := El.In.new (E := plE) wr zero #[.int .i64 0, .int .i64 0, .string ⟨#[]⟩] rfl
      have hP := hz0.set p #[.int .i64 p.n, .int .i64 p.u, .string p.s] rfl
      have hbz : Below wr.heap.size wr ((wr.alloc (.cells #[.int .i64 0, .int .i64 0, .string ⟨#[]⟩] 33)).setRow wr.heap.size #[.int .i64 p.n, .int .i64 p.u, .string p.s]) := below_setRow (below_alloc (Below.refl _ _) _) (Nat.le_refl _) _
      obtain ⟨p0, p1, p2⟩ := plIn3 hP
      by_cases e : p.u = a
      · have HQ := Lib.hid (HY.out e)
        have HCR := Lib.hid (HRP.out e)
        have HSE := Lib.hid (show seen t p = ⟨p.n, a, nameOf t p⟩ from by unfold seen; rw [e])
        have he1 : (p.u == a) = true := by rw [e]; exact beq_self_eq_true _
        have he2 : (p.u != a) = false := by rw [e]; simp
        have he3 : decide (p.u = a) = true := decide_eq_true e
        have he4 : decide (¬ p.u = a) = false := decide_eq_false (fun h => h e)
        have HE := Lib.hid e
        clear e
        have hN7 : ∀ j, u5.ownBlock = some j → j < wr.heap.size := fun j e => (hO.lt j e).2
        have HN7 := Lib.hid hN7
        have hL1 := partG_le t g a (k + 1)
        have hL2 := partG_le t g a k
        have HLB := Lib.hid (show (partG t g a k).length ≤ 1000 from Nat.le_trans hL2 HLEN.out)
        have HLC := Lib.hid (show (partG t g a k ++ [seen t p] ++ g p.n).length ≤ 1000 from by rw [← HQ.out]; exact Nat.le_trans hL1 HLEN.out)
        have HTW := Lib.hid (fun wx => (by
          have h := refTwin_any p.s p.n.toNat wx (by omega) (by omega)
          rw [Int.toNat_of_nonneg (by omega)] at h
          exact h : Calls Tryd.prog 19 #[.string p.s, .int .i64 p.n] wx fun e w' => e = .returned (.string (twinOf p.s p.n.toNat)) ∧ Below wx.heap.size wx w'))
        have HT := Lib.hid hT
        have HHL := Lib.hid hl
        clear hN7 hL1 hL2
        go_wp2_with (first | (refine El.load plRow rfl _ rfl b (off + k * 3) rfl p hat #[.int .i64 p.n, .int .i64 p.u, .string p.s] rfl ?_) | (refine El.store plRow rfl _ _ rfl wr.heap.size p #[.int .i64 p.n, .int .i64 p.u, .string p.s] rfl rfl rfl zero hz0 ?_) | (refine El.load plRow rfl _ rfl wr.heap.size 0 rfl p hP.at #[.int .i64 p.n, .int .i64 p.u, .string p.s] rfl ?_) | fail)
        replace hO := hO.below hbz
        replace hB := hB.trans (hbz.mono hB.size)
        clear hbz hz0 hat p0 p1 p2
        generalize (wr.alloc (.cells #[.int .i64 0, .int .i64 0, .string ⟨#[]⟩] 33)).setRow wr.heap.size #[.int .i64 p.n, .int .i64 p.u, .string p.s] = W1 at *
        generalize wr.heap.size = n7 at *
        refine (refFirst_any (some ⟨b, off, none⟩) c t p W1 (by have := HHL.out; omega) (HT.out.below hB)).mono ?_
        rintro e W2 ⟨rfl, hb2⟩
        replace hO := hO.below hb2
        replace hP := hP.below hb2
        replace hB := hB.trans (hb2.mono hB.size)
        clear hb2
        rcases hf : firstB t p with _ | _
        · have hnm : nameOf t p = twinOf p.s p.n.toNat := by unfold nameOf; rw [hf]; rfl
          have hse := HSE.out
          rw [hnm] at hse
          clear HSE hnm hf
          generalize twinOf p.s p.n.toNat = N at hse HTW
          have HSE := Lib.hid hse
          clear hse
          obtain ⟨p0, p1, p2⟩ := plIn3 hP
          go_wp2_with fail
          clear p0 p1 p2
          refine (HTW.out W2).mono ?_
          rintro e W3 ⟨rfl, hb3⟩
          replace hO := hO.below hb3
          replace hP := hP.below hb3
          replace hB := hB.trans (hb3.mono hB.size)
          clear hb3 HTW
          go_wp2_with fail
          refine region_anyG (S := PlS n7 p) 13 (by kernel_rfl) ?_
          replace hP : plE.In W3.drew n7 p := hP
          replace hO : seE.Own W3.drew w.heap.size u5 (partG t g a k) := hO.below (Below.refl _ _).drew
          replace hB := hB.drew
          have hn7V : n7 < W3.drew.heap.size := hP.lt
          generalize W3.drew = V at *
          have hS : PlS n7 p V := plIn3 hP
          refine anyG_take (i := 0) (v := u5) rfl (by kernel_rfl) (by kernel_rfl) (by kernel_rfl) (by kernel_rfl) (by kernel_rfl) (fun _ _ _ h => h) (Or.inl ⟨by rfl, fun w' hSw => by (obtain ⟨s0, s1, s2⟩ := hSw; go_simp)⟩) hS ?_
          try simp only [Act.put, List.setIfInBounds_toArray, List.set_cons_zero, List.set_cons_succ]
          refine anyG_take (i := 1) (v := .pointer (some ⟨n7, 0, none⟩)) rfl (by kernel_rfl) (by kernel_rfl) (by kernel_rfl) (by kernel_rfl) (by kernel_rfl) (fun _ _ _ h => h) (Or.inl ⟨by rfl, fun w' hSw => by (obtain ⟨s0, s1, s2⟩ := hSw; go_simp)⟩) hS ?_
          try simp only [Act.put, List.setIfInBounds_toArray, List.set_cons_zero, List.set_cons_succ]
          refine anyG_take (i := 2) (v := .int .i64 p.n) rfl (by kernel_rfl) (by kernel_rfl) (by kernel_rfl) (by kernel_rfl) (by kernel_rfl) (fun _ _ _ h => h) (Or.inl ⟨by rfl, fun w' hSw => by (obtain ⟨s0, s1, s2⟩ := hSw; go_simp)⟩) hS ?_
          try simp only [Act.put, List.setIfInBounds_toArray, List.set_cons_zero, List.set_cons_succ]
          refine anyG_take (i := 3) (v := .int .i64 a) rfl (by kernel_rfl) (by kernel_rfl) (by kernel_rfl) (by kernel_rfl) (by kernel_rfl) (fun _ _ _ h => h) (Or.inl ⟨by rfl, fun w' hSw => by (obtain ⟨s0, s1, s2⟩ := hSw; go_simp)⟩) hS ?_
          try simp only [Act.put, List.setIfInBounds_toArray, List.set_cons_zero, List.set_cons_succ]
          refine anyG_take (i := 4) (v := .string N) rfl (by kernel_rfl) (by kernel_rfl) (by kernel_rfl) (by kernel_rfl) (by kernel_rfl) (fun _ _ _ h => h) (Or.inl ⟨by rfl, fun w' hSw => by (obtain ⟨s0, s1, s2⟩ := hSw; go_simp)⟩) hS ?_
          try simp only [Act.put, List.setIfInBounds_toArray, List.set_cons_zero, List.set_cons_succ]
          refine anyG_take (i := 5) (v := .agg #[.int .i64 p.n, .int .i64 a, .string N]) rfl (by kernel_rfl) (by kernel_rfl) (by kernel_rfl) (by kernel_rfl) (by kernel_rfl) (fun _ _ _ h => h) (Or.inl ⟨by rfl, fun w' hSw => by (obtain ⟨s0, s1, s2⟩ := hSw; go_simp)⟩) hS ?_
          try simp only [Act.put, List.setIfInBounds_toArray, List.set_cons_zero, List.set_cons_succ]
          refine anyG_take (i := 8) (v := .slice (some ⟨b, off, none⟩) t.length c) rfl (by kernel_rfl) (by kernel_rfl) (by kernel_rfl) (by kernel_rfl) (by kernel_rfl) (fun _ _ _ h => h) (Or.inl ⟨by rfl, fun w' hSw => by (obtain ⟨s0, s1, s2⟩ := hSw; go_simp)⟩) hS ?_
          try simp only [Act.put, List.setIfInBounds_toArray, List.set_cons_zero, List.set_cons_succ]
          refine anyG_take (i := 9) (v := .pointer (some ⟨n7, 0, none⟩)) rfl (by kernel_rfl) (by kernel_rfl) (by kernel_rfl) (by kernel_rfl) (by kernel_rfl) (fun _ _ _ h => h) (Or.inl ⟨by rfl, fun w' hSw => by (obtain ⟨s0, s1, s2⟩ := hSw; go_simp)⟩) hS ?_
          try simp only [Act.put, List.setIfInBounds_toArray, List.set_cons_zero, List.set_cons_succ]
          refine anyG_take (i := 10) (v := .int .i64 p.n) rfl (by kernel_rfl) (by kernel_rfl) (by kernel_rfl) (by kernel_rfl) (by kernel_rfl) (fun _ _ _ h => h) (Or.inl ⟨by rfl, fun w' hSw => by (obtain ⟨s0, s1, s2⟩ := hSw; go_simp)⟩) hS ?_
          try simp only [Act.put, List.setIfInBounds_toArray, List.set_cons_zero, List.set_cons_succ]
          refine anyG_step (rs := [6]) (by kernel_rfl) (by simp) ?_
          refine AllG.cons rfl (fun K hK => ?_) AllG.nil
          have hal := below_alloc (Below.refl V.heap.size V) (.cells #[.int .i64 p.n, .int .i64 a, .string N] 36)
          have hEl : seE.Sl (V.alloc (.cells #[.int .i64 p.n, .int .i64 a, .string N] 36)) (some ⟨V.heap.size, 0, none⟩) [seen t p] := (El.In.new (E := seE) V (seen t p) _ (by rw [HSE.out]; rfl)).sl
          replace hO := hO.below hal
          replace hP := hP.below hal
          replace hB := hB.trans (hal.mono hB.size)
          replace hn7V := Nat.lt_of_lt_of_le hn7V hal.size
          clear hS hal
          have hS : PlS n7 p _ := plIn3 hP
          go_simp
          refine hK.out _ _ hS ?_
          try simp only [Act.put, List.setIfInBounds_toArray, List.set_cons_zero, List.set_cons_succ]
          clear hK hS
          generalize V.alloc (.cells #[.int .i64 p.n, .int .i64 a, .string N] 36) = V1 at *
          generalize V.heap.size = n8 at *
          refine anyG_step (rs := [7]) (by kernel_rfl) (by simp) ?_
          refine AllG.cons rfl (fun K hK => ?_) AllG.nil
          refine El.step_app seInn rfl (.tmp 34) (.tmp 40) rfl w.heap.size u5 (partG t g a k) [seen t p] rfl hO (some ⟨n8, 0, none⟩) 1 1 rfl rfl hEl (fun e => by cases e) (by have := HLB.out; rw [List.length_singleton]; omega) hB.size ?_
          intro v2 W2 hO2 hg2 hat2
          have hP2 := hP.keep hg2 (fun e => by have := HN7.out n7 e.symm; omega)
          have hB2 := hB.grown hg2 hB.size (fun k e => (hO.lt k e).1)
          have HN8 := Lib.hid (show ∀ j, v2.ownBlock = some j → j ≠ n7 from fun j e => by
            rcases hat2 with h | h
            · have := HN7.out j (by rw [← h]; exact e); omega
            · have := Option.some.inj (e.symm.trans h); omega)
          clear hO hP hB hEl hg2 hat2
          refine hK.out _ _ (plIn3 hP2 : PlS n7 p W2) ?_
          try simp only [Act.put, List.setIfInBounds_toArray, List.set_cons_zero, List.set_cons_succ]
          clear hK
          refine anyG_step (rs := [11]) (by kernel_rfl) (by simp) ?_
          refine AllG.cons rfl (fun K hK => ?_) AllG.nil
          go_simp
          refine (HCR.out W2 hB2).mono ?_
          rintro e W3 ⟨A3, c3, rfl, hS3, hF3, hb3⟩
          have hP3 := hP2.below hb3
          have hO3 := hO2.below hb3
          have hB3 := hB2.trans (hb3.mono hB2.size)
          clear hO2 hP2 hB2 hb3 hF3
          try go_wp2_with fail
          refine hK.out _ _ (plIn3 hP3 : PlS n7 p W3) ?_
          try simp only [Act.put, List.setIfInBounds_toArray, List.set_cons_zero, List.set_cons_succ]
          clear hK
          refine anyG_step (rs := [12]) (by kernel_rfl) (by simp) ?_
          refine AllG.cons rfl (fun K hK => ?_) AllG.nil
          refine El.step_app seInn rfl (.tmp 41) (.tmp 45) rfl w.heap.size v2 (partG t g a k ++ [seen t p]) (g p.n) rfl hO3 A3 (g p.n).length c3 rfl rfl hS3.1 hS3.2.1 (by have := HLC.out; rw [List.length_append, List.length_append] at this; rw [List.length_append]; omega) hB3.size ?_
          intro v4 W4 hO4 hg4 hat4
          have hP4 := hP3.keep hg4 (fun e => HN8.out n7 e.symm rfl)
          have hB4 := hB3.grown hg4 hB3.size (fun k e => (hO3.lt k e).1)
          clear hO3 hP3 hB3 hg4 hat4 hS3
          refine hK.out _ _ (plIn3 hP4 : PlS n7 p W4) ?_
          try simp only [Act.put, List.setIfInBounds_toArray, List.set_cons_zero, List.set_cons_succ]
          clear hK
          refine anyG_step (rs := [13]) (by kernel_rfl) (by simp) ?_
          refine AllG.last (n := 13) rfl (fun K hK => ?_)
          go_simp
          refine hK.out _ _ ?_
          try simp only [Act.put, List.setIfInBounds_toArray, List.set_cons_zero, List.set_cons_succ]
          clear hK
          refine anyG_done (by kernel_rfl) ?_ _
          go_wp2_with fail
          exact ⟨⟨k + 1, v4, by omega, by go_num, rfl, by rw [HQ.out]; exact hO4, hB4⟩, by simp [intOf]; omega⟩
        · have hnm : nameOf t p = p.s := by unfold nameOf; rw [hf]; rfl
          have hse := HSE.out
          rw [hnm] at hse
          clear HSE hnm hf HTW
          have HSE := Lib.hid hse
          clear hse
          go_wp2_with fail
          refine region_anyG (S := PlS n7 p) 13 (by kernel_rfl) ?_
          replace hP : plE.In W2.drew n7 p := hP
          replace hO : seE.Own W2.drew w.heap.size u5 (partG t g a k) := hO.below (Below.refl _ _).drew
          replace hB := hB.drew
          have hn7V : n7 < W2.drew.heap.size := hP.lt
          generalize W2.drew = V at *
          have hS : PlS n7 p V := plIn3 hP
          refine anyG_take (i := 0) (v := u5) rfl (by kernel_rfl) (by kernel_rfl) (by kernel_rfl) (by kernel_rfl) (by kernel_rfl) (fun _ _ _ h => h) (Or.inl ⟨by rfl, fun w' hSw => by (obtain ⟨s0, s1, s2⟩ := hSw; go_simp)⟩) hS ?_
          try simp only [Act.put, List.setIfInBounds_toArray, List.set_cons_zero, List.set_cons_succ]
          refine anyG_take (i := 1) (v := .pointer (some ⟨n7, 0, none⟩)) rfl (by kernel_rfl) (by kernel_rfl) (by kernel_rfl) (by kernel_rfl) (by kernel_rfl) (fun _ _ _ h => h) (Or.inl ⟨by rfl, fun w' hSw => by (obtain ⟨s0, s1, s2⟩ := hSw; go_simp)⟩) hS ?_
          try simp only [Act.put, List.setIfInBounds_toArray, List.set_cons_zero, List.set_cons_succ]
          refine anyG_take (i := 2) (v := .int .i64 p.n) rfl (by kernel_rfl) (by kernel_rfl) (by kernel_rfl) (by kernel_rfl) (by kernel_rfl) (fun _ _ _ h => h) (Or.inl ⟨by rfl, fun w' hSw => by (obtain ⟨s0, s1, s2⟩ := hSw; go_simp)⟩) hS ?_
          try simp only [Act.put, List.setIfInBounds_toArray, List.set_cons_zero, List.set_cons_succ]
          refine anyG_take (i := 3) (v := .int .i64 a) rfl (by kernel_rfl) (by kernel_rfl) (by kernel_rfl) (by kernel_rfl) (by kernel_rfl) (fun _ _ _ h => h) (Or.inl ⟨by rfl, fun w' hSw => by (obtain ⟨s0, s1, s2⟩ := hSw; go_simp)⟩) hS ?_
          try simp only [Act.put, List.setIfInBounds_toArray, List.set_cons_zero, List.set_cons_succ]
          refine anyG_take (i := 4) (v := .string p.s) rfl (by kernel_rfl) (by kernel_rfl) (by kernel_rfl) (by kernel_rfl) (by kernel_rfl) (fun _ _ _ h => h) (Or.inl ⟨by rfl, fun w' hSw => by (obtain ⟨s0, s1, s2⟩ := hSw; go_simp)⟩) hS ?_
          try simp only [Act.put, List.setIfInBounds_toArray, List.set_cons_zero, List.set_cons_succ]
          refine anyG_take (i := 5) (v := .agg #[.int .i64 p.n, .int .i64 a, .string p.s]) rfl (by kernel_rfl) (by kernel_rfl) (by kernel_rfl) (by kernel_rfl) (by kernel_rfl) (fun _ _ _ h => h) (Or.inl ⟨by rfl, fun w' hSw => by (obtain ⟨s0, s1, s2⟩ := hSw; go_simp)⟩) hS ?_
          try simp only [Act.put, List.setIfInBounds_toArray, List.set_cons_zero, List.set_cons_succ]
          refine anyG_take (i := 8) (v := .slice (some ⟨b, off, none⟩) t.length c) rfl (by kernel_rfl) (by kernel_rfl) (by kernel_rfl) (by kernel_rfl) (by kernel_rfl) (fun _ _ _ h => h) (Or.inl ⟨by rfl, fun w' hSw => by (obtain ⟨s0, s1, s2⟩ := hSw; go_simp)⟩) hS ?_
          try simp only [Act.put, List.setIfInBounds_toArray, List.set_cons_zero, List.set_cons_succ]
          refine anyG_take (i := 9) (v := .pointer (some ⟨n7, 0, none⟩)) rfl (by kernel_rfl) (by kernel_rfl) (by kernel_rfl) (by kernel_rfl) (by kernel_rfl) (fun _ _ _ h => h) (Or.inl ⟨by rfl, fun w' hSw => by (obtain ⟨s0, s1, s2⟩ := hSw; go_simp)⟩) hS ?_
          try simp only [Act.put, List.setIfInBounds_toArray, List.set_cons_zero, List.set_cons_succ]
          refine anyG_take (i := 10) (v := .int .i64 p.n) rfl (by kernel_rfl) (by kernel_rfl) (by kernel_rfl) (by kernel_rfl) (by kernel_rfl) (fun _ _ _ h => h) (Or.inl ⟨by rfl, fun w' hSw => by (obtain ⟨s0, s1, s2⟩ := hSw; go_simp)⟩) hS ?_
          try simp only [Act.put, List.setIfInBounds_toArray, List.set_cons_zero, List.set_cons_succ]
          refine anyG_step (rs := [6]) (by kernel_rfl) (by simp) ?_
          refine AllG.cons rfl (fun K hK => ?_) AllG.nil
          have hal := below_alloc (Below.refl V.heap.size V) (.cells #[.int .i64 p.n, .int .i64 a, .string p.s] 36)
          have hEl : seE.Sl (V.alloc (.cells #[.int .i64 p.n, .int .i64 a, .string p.s] 36)) (some ⟨V.heap.size, 0, none⟩) [seen t p] := (El.In.new (E := seE) V (seen t p) _ (by rw [HSE.out]; rfl)).sl
          replace hO := hO.below hal
          replace hP := hP.below hal
          replace hB := hB.trans (hal.mono hB.size)
          replace hn7V := Nat.lt_of_lt_of_le hn7V hal.size
          clear hS hal
          have hS : PlS n7 p _ := plIn3 hP
          go_simp
          refine hK.out _ _ hS ?_
          try simp only [Act.put, List.setIfInBounds_toArray, List.set_cons_zero, List.set_cons_succ]
          clear hK hS
          generalize V.alloc (.cells #[.int .i64 p.n, .int .i64 a, .string p.s] 36) = V1 at *
          generalize V.heap.size = n8 at *
          refine anyG_step (rs := [7]) (by kernel_rfl) (by simp) ?_
          refine AllG.cons rfl (fun K hK => ?_) AllG.nil
          refine El.step_app seInn rfl (.tmp 34) (.tmp 40) rfl w.heap.size u5 (partG t g a k) [seen t p] rfl hO (some ⟨n8, 0, none⟩) 1 1 rfl rfl hEl (fun e => by cases e) (by have := HLB.out; rw [List.length_singleton]; omega) hB.size ?_
          intro v2 W2 hO2 hg2 hat2
          have hP2 := hP.keep hg2 (fun e => by have := HN7.out n7 e.symm; omega)
          have hB2 := hB.grown hg2 hB.size (fun k e => (hO.lt k e).1)
          have HN8 := Lib.hid (show ∀ j, v2.ownBlock = some j → j ≠ n7 from fun j e => by
            rcases hat2 with h | h
            · have := HN7.out j (by rw [← h]; exact e); omega
            · have := Option.some.inj (e.symm.trans h); omega)
          clear hO hP hB hEl hg2 hat2
          refine hK.out _ _ (plIn3 hP2 : PlS n7 p W2) ?_
          try simp only [Act.put, List.setIfInBounds_toArray, List.set_cons_zero, List.set_cons_succ]
          clear hK
          refine anyG_step (rs := [11]) (by kernel_rfl) (by simp) ?_
          refine AllG.cons rfl (fun K hK => ?_) AllG.nil
          go_simp
          refine (HCR.out W2 hB2).mono ?_
          rintro e W3 ⟨A3, c3, rfl, hS3, hF3, hb3⟩
          have hP3 := hP2.below hb3
          have hO3 := hO2.below hb3
          have hB3 := hB2.trans (hb3.mono hB2.size)
          clear hO2 hP2 hB2 hb3 hF3
          try go_wp2_with fail
          refine hK.out _ _ (plIn3 hP3 : PlS n7 p W3) ?_
          try simp only [Act.put, List.setIfInBounds_toArray, List.set_cons_zero, List.set_cons_succ]
          clear hK
          refine anyG_step (rs := [12]) (by kernel_rfl) (by simp) ?_
          refine AllG.cons rfl (fun K hK => ?_) AllG.nil
          refine El.step_app seInn rfl (.tmp 41) (.tmp 45) rfl w.heap.size v2 (partG t g a k ++ [seen t p]) (g p.n) rfl hO3 A3 (g p.n).length c3 rfl rfl hS3.1 hS3.2.1 (by have := HLC.out; rw [List.length_append, List.length_append] at this; rw [List.length_append]; omega) hB3.size ?_
          intro v4 W4 hO4 hg4 hat4
          have hP4 := hP3.keep hg4 (fun e => HN8.out n7 e.symm rfl)
          have hB4 := hB3.grown hg4 hB3.size (fun k e => (hO3.lt k e).1)
          clear hO3 hP3 hB3 hg4 hat4 hS3
          refine hK.out _ _ (plIn3 hP4 : PlS n7 p W4) ?_
          try simp only [Act.put, List.setIfInBounds_toArray, List.set_cons_zero, List.set_cons_succ]
          clear hK
          refine anyG_step (rs := [13]) (by kernel_rfl) (by simp) ?_
          refine AllG.last (n := 13) rfl (fun K hK => ?_)
          go_simp
          refine hK.out _ _ ?_
          try simp only [Act.put, List.setIfInBounds_toArray, List.set_cons_zero, List.set_cons_succ]
          clear hK
          refine anyG_done (by kernel_rfl) ?_ _
          go_wp2_with fail
          exact ⟨⟨k + 1, v4, by omega, by go_num, rfl, by rw [HQ.out]; exact hO4, hB4⟩, by simp [intOf]; omega⟩
      · have HQ := Lib.hid (HNO.out e)
        have he1 : (p.u == a) = false := beq_eq_false_iff_ne.2 e
        go_wp2_with (first | (refine El.load plRow rfl _ rfl b (off + k * 3) rfl p hat #[.int .i64 p.n, .int .i64 p.u, .string p.s] rfl ?_) | (refine El.store plRow rfl _ _ rfl wr.heap.size p #[.int .i64 p.n, .int .i64 p.u, .string p.s] rfl rfl rfl zero hz0 ?_) | fail)
        exact ⟨⟨k + 1, _, by omega, by go_num, rfl, by rw [HQ.out]; exact hO.below hbz, hB.trans (hbz.mono hB.size)⟩, by simp [intOf]; omega⟩
    · obtain rfl : k = t.length := by omega
      obtain ⟨A', c', rfl, hS⟩ := SlV.own hO
      have hfr := hO.frs
      clear hO
      go_wp2_with fail
      go_ret
      exact ⟨A', c', rfl, hS, hfr, hB⟩
end Go.Proofs.YtdhcgflblbmogaaDoor

/- What is shown, of the document: below, Show, Trash, Same. -/
namespace Go.Proofs.YtdhcgflblbmogaaDoor
open Go.RowKit Tre Cod Nam

theorem TreeP.below_len {t : List Pl} (h : TreeP t) (f : Nat) (a : Int) : (belowL t f a).length ≤ t.length := by
  have h2 := pigeon _ (t.map Pl.n) (below_nodup h.s (acyc_of h.r) f a) (fun x hx => by
    obtain ⟨y, hy, rfl⟩ := List.mem_map.1 hx
    obtain ⟨p, hp, rfl, _⟩ := (mem_below h.s y f a).1 hy
    exact List.mem_map.2 ⟨p, hp, rfl⟩)
  simpa using h2
theorem partG_all (t : List Pl) (f : Nat) (a : Int) : partG t (belowL t f) a t.length = belowL t (f + 1) a := by
  unfold partG; rw [List.take_length]; rfl
theorem partG_none {t : List Pl} {g : Int → List Pl} {a : Int} (h : ∀ p ∈ t, p.u ≠ a) : partG t g a t.length = [] := by
  unfold partG
  rw [List.take_length, List.filter_eq_nil_iff.2 (fun p hp => by simpa using h p hp)]; rfl
theorem refBelow_any (A : Option Addr) (c : Nat) (t : List Pl) (ht : TreeP t) (hl : t.length ≤ 100) : ∀ (f : Nat) (a : Int) (w : World), plE.Sl w A t → Deep t f a →
    Calls Tryd.prog 25 #[.slice A t.length c, .int .i64 a] w fun e w' => ∃ A' c', e = .returned (.slice A' (belowL t f a).length c') ∧ SlV seE w' A' c' (belowL t f a) ∧ Frs w.heap.size A' ∧ Below w.heap.size w w'
  | 0, a, w, hT, hd => by
    have hz := partG_none (g := fun _ => []) hd.zero
    have h := refBelow_step A c t (fun _ => []) a w ht hl hT (by rw [hz]; exact Nat.zero_le _) (fun p hp hu => absurd hu (hd.zero p hp))
    rw [hz] at h
    exact h
  | f + 1, a, w, hT, hd => by
    have h := refBelow_step A c t (belowL t f) a w ht hl hT (by rw [partG_all]; have := ht.below_len (f + 1) a; omega) (fun p hp hu wx hb => refBelow_any A c t ht hl f p.n wx (hT.below hb) (hd.next ht.s hp hu))
    rw [partG_all] at h
    exact h

/-- What is shown; nothing of what is no tree. -/
def showV (t : List Pl) : List Pl := if treeB t = true then showL t else []
def trashV (t : List Pl) : List Pl := if treeB t = true then trashL t else []
theorem refShow_any (A : Option Addr) (c : Nat) (t : List Pl) (w : World) (hl : t.length ≤ 100) (hsz : ∀ p ∈ t, p.s.size ≤ 9223372036854775807) (hT : plE.Sl w A t) :
    Calls Tryd.prog 12 #[.slice A t.length c] w fun e w' => ∃ A' c', e = .returned (.slice A' (showV t).length c') ∧ SlV seE w' A' c' (showV t) ∧ Frs w.heap.size A' ∧ Below w.heap.size w w' := by
  have HR := Lib.hid (refRight_any A c t w (by omega) hsz (plSl.1 hT))
  cases ht : treeB t
  · have hv : showV t = [] := by unfold showV; rw [ht]; rfl
    rw [hv]
    have hr := HR.out
    rw [ht] at hr
    go_enter Tryd.func12, Tryd.ntmps12
    go_wp2_with fail
    refine hr.mono ?_
    rintro e w1 ⟨rfl, hb1⟩
    go_wp2_with fail
    go_ret
    exact ⟨none, 0, rfl, SlV.nil _ _, frs_nil _, hb1⟩
  · have hv : showV t = showL t := by unfold showV; rw [ht]; rfl
    rw [hv]
    have hr := HR.out
    rw [ht] at hr
    have hp := treeP ht
    have HB := Lib.hid (fun (wx : World) (hb : Below w.heap.size w wx) => refBelow_any A c t hp hl t.length 0 wx (hT.below hb) (deep_all hp.s hp.r 0))
    go_enter Tryd.func12, Tryd.ntmps12
    go_wp2_with fail
    refine hr.mono ?_
    rintro e w1 ⟨rfl, hb1⟩
    go_wp2_with fail
    refine (HB.out w1 hb1).mono ?_
    rintro e w2 ⟨A', c', rfl, hS, hF, hb2⟩
    go_wp2_with fail
    go_ret
    exact ⟨A', c', rfl, hS, hF.mono hb1.size, below_then hb1 hb2⟩
theorem refTrash_any (A : Option Addr) (c : Nat) (t : List Pl) (w : World) (hl : t.length ≤ 100) (hsz : ∀ p ∈ t, p.s.size ≤ 9223372036854775807) (hT : plE.Sl w A t) :
    Calls Tryd.prog 14 #[.slice A t.length c] w fun e w' => ∃ A' c', e = .returned (.slice A' (trashV t).length c') ∧ SlV seE w' A' c' (trashV t) ∧ Frs w.heap.size A' ∧ Below w.heap.size w w' := by
  have HR := Lib.hid (refRight_any A c t w (by omega) hsz (plSl.1 hT))
  cases ht : treeB t
  · have hv : trashV t = [] := by unfold trashV; rw [ht]; rfl
    rw [hv]
    have hr := HR.out
    rw [ht] at hr
    go_enter Tryd.func14, Tryd.ntmps14
    go_wp2_with fail
    refine hr.mono ?_
    rintro e w1 ⟨rfl, hb1⟩
    go_wp2_with fail
    go_ret
    exact ⟨none, 0, rfl, SlV.nil _ _, frs_nil _, hb1⟩
  · have hv : trashV t = trashL t := by unfold trashV; rw [ht]; rfl
    rw [hv]
    have hr := HR.out
    rw [ht] at hr
    have hp := treeP ht
    have HB := Lib.hid (fun (wx : World) (hb : Below w.heap.size w wx) => refBelow_any A c t hp hl t.length 1 wx (hT.below hb) (deep_all hp.s hp.r 1))
    go_enter Tryd.func14, Tryd.ntmps14
    go_wp2_with fail
    refine hr.mono ?_
    rintro e w1 ⟨rfl, hb1⟩
    go_wp2_with fail
    refine (HB.out w1 hb1).mono ?_
    rintro e w2 ⟨A', c', rfl, hS, hF, hb2⟩
    go_wp2_with fail
    go_ret
    exact ⟨A', c', rfl, hS, hF.mono hb1.size, below_then hb1 hb2⟩

theorem se_unlike {p q : Pl} (h : ¬ p = q) : ((p.n == q.n) = false) ∨ (p.n = q.n ∧ (p.u == q.u) = false) ∨ (p.n = q.n ∧ p.u = q.u ∧ (p.s.toList == q.s.toList) = false) := by
  by_cases h0 : p.n = q.n
  rotate_left
  · left; exact beq_eq_false_iff_ne.2 h0
  by_cases h1 : p.u = q.u
  rotate_left
  · right; left; exact ⟨h0, beq_eq_false_iff_ne.2 h1⟩
  by_cases h2 : p.s = q.s
  · exfalso; apply h
    obtain ⟨a, b, c⟩ := p; obtain ⟨a', b', c'⟩ := q; simp only at h0 h1 h2; rw [h0, h1, h2]
  · right; right; exact ⟨h0, h1, ne_beq h2⟩
set_option maxRecDepth 100000 in
set_option maxHeartbeats 4000000 in
theorem sameSe_any (A1 A2 : Option Addr) (c1 c2 : Nat) (l m : List Pl) (w : World) (hl : l.length ≤ 50000) (hm : m.length ≤ 50000) (h1 : seE.Sl w A1 l) (h2 : seE.Sl w A2 m) :
    Calls Tryd.prog 10 #[.slice A1 l.length c1, .slice A2 m.length c2] w fun e w' => ∃ b, e = .returned (.bool b) ∧ (b = true ↔ l = m) ∧ Below w.heap.size w w' := by
  by_cases hlen : l.length = m.length
  · rw [← hlen]
    have HL := Lib.hid hlen
    clear hlen
    go_enter Tryd.func10, Tryd.ntmps10
    go_wp2
    go_loopw [5] (fun x wr => ∃ k : Nat, k ≤ l.length ∧ x = .int .i64 k ∧ (∀ j (hj : j < k) (ha : j < l.length) (hb : j < m.length), l[j] = m[j]) ∧ Below w.heap.size w wr) (fun x _ => l.length - (intOf x).toNat)
    case atStart => exact ⟨0, Nat.zero_le _, rfl, fun j hj => by omega, Below.refl _ _⟩
    case round =>
      obtain ⟨k, hk, rfl, hall, hnx⟩ := hrel
      by_cases hlt : k < l.length
      · obtain ⟨b1, o1, hA1, hw1, hc1⟩ := h1 (by omega)
        have hlt2 : k < m.length := by have := HL.out; omega
        obtain ⟨b2, o2, hA2, hw2, hc2⟩ := h2 (by omega)
        have hat : seE.At wr b1 (o1 + k * 3) l[k] := (hc1 k hlt).below hnx hw1
        have hat2 : seE.At wr b2 (o2 + k * 3) m[k] := (hc2 k hlt2).below hnx hw2
        obtain ⟨p, hp⟩ : ∃ p, l[k] = p := ⟨_, rfl⟩
        obtain ⟨q, hq⟩ : ∃ q, m[k] = q := ⟨_, rfl⟩
        rw [hp] at hat
        rw [hq] at hat2
        have HP := Lib.hid hp
        have HQ := Lib.hid hq
        have HA := Lib.hid hall
        obtain ⟨q0, q1, q2⟩ := seAt3 hat
        obtain ⟨r0, r1, r2⟩ := seAt3 hat2
        clear hc1 hc2 hp hq h1 h2 hall hat hat2
        subst hA1 hA2
        by_cases hpq : p = q
        · have HE := Lib.hid hpq
          subst hpq
          go_wp2
          go_quiet (fail)
          go_wp2
          go_roundw
          case rel =>
            refine ⟨k + 1, by omega, by go_num, fun j hj ha hb => ?_, below_drew hnx _⟩
            by_cases e : j = k
            · subst e; rw [HP.out, HQ.out]
            · exact HA.out j (by omega) ha hb
          case measure => simp [intOf]; omega
        · have HN := Lib.hid hpq
          rcases se_unlike hpq with hu | ⟨a0, hu⟩ | ⟨a0, a1, hu⟩
          all_goals
            clear hpq
            go_wp2
            go_quiet (fail)
            go_wp2
            go_ret
            refine ⟨false, rfl, ⟨fun h => (by cases h), fun h => ?_⟩, below_drew hnx _⟩
            subst h
            exact absurd (HP.out.symm.trans HQ.out) HN.out
      · obtain rfl : k = l.length := by omega
        have HA := Lib.hid hall
        clear hall
        go_wp2
        go_ret
        exact ⟨true, rfl, ⟨fun _ => List.ext_getElem HL.out fun j ha hb => HA.out j ha ha hb, fun _ => rfl⟩, hnx⟩
  · have HL := Lib.hid hlen
    have hne : ¬ m.length = l.length := fun e => hlen e.symm
    go_enter Tryd.func10, Tryd.ntmps10
    go_wp2
    go_ret
    exact ⟨false, rfl, ⟨fun h => (by cases h), fun h => absurd (congrArg List.length h) HL.out⟩, Below.refl _ _⟩
end Go.Proofs.YtdhcgflblbmogaaDoor

/- Paths, of the document: Path, Look. -/
namespace Go.Proofs.YtdhcgflblbmogaaDoor
open Go.RowKit Tre Cod Nam

/-- A list of what is shown, as it must be. -/
structure ShownL (l : List Pl) : Prop where
  nd : (l.map Pl.n).Nodup
  bh : Behind 0 l
  nz : ∀ q ∈ l, q.n ≠ 0
  sz : ∀ q ∈ l, q.s.size ≤ 37
theorem twin_le {s : ByteArray} {n : Nat} (hs : s.size ≤ 16) (hn : n < 64) : (twinOf s n).size ≤ 37 := by
  have := twin_size s n (by omega)
  omega
theorem TreeP.shown {t : List Pl} (h : TreeP t) : ShownL (showL t) := by
  refine ⟨h.nodup 0, below_behind t _ 0, fun q hq => ?_, fun q hq => ?_⟩
  · obtain ⟨p, hp, rfl, _⟩ := (h.mem q).1 hq
    have := (h.node hp).1
    show p.n ≠ 0
    omega
  · obtain ⟨p, hp, rfl, _⟩ := (h.mem q).1 hq
    obtain ⟨n1, n2, _, _, n5⟩ := h.node hp
    have hps := isName_len n5
    rw [L_len] at hps
    show (nameOf t p).size ≤ 37
    unfold nameOf
    by_cases hf : firstB t p = true
    · rw [if_pos hf]; omega
    · rw [if_neg hf]; exact twin_le hps.2 (by omega)
theorem ShownL.nil : ShownL [] := ⟨List.nodup_nil, Behind.nil 0, fun q h => (by cases h), fun q h => (by cases h)⟩
theorem shownV (t : List Pl) : ShownL (showV t) := by
  unfold showV
  by_cases h : treeB t = true
  · rw [if_pos h]; exact (treeP h).shown
  · rw [if_neg h]; exact ShownL.nil

/-- A node's path, by so many names. -/
def pathF (l : List Pl) : Nat → Int → ByteArray
  | 0, _ => ⟨#[]⟩
  | f + 1, n => match l.find? (fun q => decide (q.n = n)) with
    | none => ⟨#[]⟩
    | some q => pathF l f q.u ++ (⟨#[47]⟩ ++ q.s)
def pathL (l : List Pl) (n : Int) : ByteArray := pathF l l.length n
theorem nodup_at {l : List Pl} (h : (l.map Pl.n).Nodup) {j i : Nat} (hj : j < i) (hi : i < l.length) : (l[j]'(by omega)).n ≠ l[i].n := by
  have h1 := List.pairwise_iff_getElem.1 h j i (by rw [List.length_map]; omega) (by rw [List.length_map]; omega) hj
  simpa using h1
theorem find_at {l : List Pl} (h : (l.map Pl.n).Nodup) (i : Nat) (hi : i < l.length) : l.find? (fun q => decide (q.n = l[i].n)) = some l[i] := by
  rw [List.find?_eq_some_iff_append]
  refine ⟨by simp, l.take i, l.drop (i + 1), ?_, fun a ha => ?_⟩
  · rw [← List.drop_eq_getElem_cons hi, List.take_append_drop]
  · obtain ⟨j, hj, rfl⟩ := List.getElem_of_mem ha
    rw [List.length_take] at hj
    rw [List.getElem_take]
    have hne : l[j].n ≠ l[i].n := nodup_at h (by omega) hi
    simpa using hne
theorem find_no {l : List Pl} {n : Int} (h : ∀ i (hi : i < l.length), l[i].n ≠ n) : l.find? (fun q => decide (q.n = n)) = none := by
  rw [List.find?_eq_none]
  intro q hq
  obtain ⟨i, hi, rfl⟩ := List.getElem_of_mem hq
  simpa using h i hi
theorem pathF_no {l : List Pl} {n : Int} (h : ∀ i (hi : i < l.length), l[i].n ≠ n) : ∀ f, pathF l f n = ⟨#[]⟩
  | 0 => rfl
  | f + 1 => by unfold pathF; rw [find_no h]
theorem ShownL.zero {l : List Pl} (h : ShownL l) (f : Nat) : pathF l f 0 = ⟨#[]⟩ := pathF_no (fun i hi => h.nz _ (List.getElem_mem hi)) f
theorem ShownL.next {l : List Pl} (h : ShownL l) (i : Nat) (hi : i < l.length) (f : Nat) : pathF l (f + 1) l[i].n = pathF l f l[i].u ++ (⟨#[47]⟩ ++ l[i].s) := by
  conv => lhs; unfold pathF
  rw [find_at h.nd i hi]
theorem ShownL.at {l : List Pl} (h : ShownL l) : ∀ (m i : Nat) (hi : i < l.length), i ≤ m → ∀ f, i < f → pathF l f l[i].n = pathF l (i + 1) l[i].n
  | m, i, hi, him, f, hf => by
    obtain ⟨g, rfl⟩ : ∃ g, f = g + 1 := ⟨f - 1, by omega⟩
    rw [h.next i hi g, h.next i hi i]
    congr 1
    rcases h.bh i hi with e | ⟨k, hk, e⟩
    · rw [e, h.zero, h.zero]
    · rw [← e]
      cases m with
      | zero => omega
      | succ m => rw [h.at m k (by omega) (by omega) g (by omega), h.at m k (by omega) (by omega) i (by omega)]
/-- Where the walk up stands: at node 0, or at number m - 1 of the list. -/
def AtM (l : List Pl) (m : Nat) (x : Int) : Prop := (x = 0 ∧ m = 0) ∨ ∃ i, ∃ h : i < l.length, m = i + 1 ∧ l[i].n = x
theorem AtM.le {l : List Pl} {m : Nat} {x : Int} (h : AtM l m x) : m ≤ l.length := by
  rcases h with ⟨_, rfl⟩ | ⟨i, hi, rfl, _⟩ <;> omega
theorem ShownL.up {l : List Pl} (h : ShownL l) (j : Nat) (hj : j < l.length) : ∃ m, m ≤ j ∧ AtM l m l[j].u ∧ pathF l (j + 1) l[j].n = pathF l m l[j].u ++ (⟨#[47]⟩ ++ l[j].s) := by
  rcases h.bh j hj with e | ⟨k, hk, e⟩
  · exact ⟨0, Nat.zero_le _, Or.inl ⟨e, rfl⟩, by rw [h.next j hj j, e, h.zero, h.zero]⟩
  · refine ⟨k + 1, by omega, Or.inr ⟨k, by omega, rfl, e⟩, ?_⟩
    rw [h.next j hj j, ← e, h.at j k (by omega) (by omega) j hk]
theorem ShownL.start {l : List Pl} (h : ShownL l) (n : Int) : (∃ m, AtM l m n ∧ pathL l n = pathF l m n) ∨ ((∀ i (hi : i < l.length), l[i].n ≠ n) ∧ n ≠ 0 ∧ pathL l n = ⟨#[]⟩) := by
  by_cases h0 : n = 0
  · left
    subst h0
    exact ⟨0, Or.inl ⟨rfl, rfl⟩, by unfold pathL; rw [h.zero, h.zero]⟩
  · by_cases he : ∃ i, ∃ hi : i < l.length, l[i].n = n
    · left
      obtain ⟨i, hi, e⟩ := he
      refine ⟨i + 1, Or.inr ⟨i, hi, rfl, e⟩, ?_⟩
      unfold pathL
      rw [← e, h.at i i hi (Nat.le_refl _) l.length hi]
    · right
      have hn : ∀ i (hi : i < l.length), l[i].n ≠ n := fun i hi e => he ⟨i, hi, e⟩
      exact ⟨hn, h0, pathF_no hn _⟩
def muP (l : List Pl) (v : Value) : Nat := if intOf v = 0 then 0 else (l.findIdx fun q => decide (q.n = intOf v)) + 1
theorem muP_at {l : List Pl} (h : ShownL l) {m : Nat} {x : Int} (ha : AtM l m x) : muP l (.int .i64 x) = m := by
  unfold muP
  have e0 : intOf (.int .i64 x) = x := rfl
  rw [e0]
  rcases ha with ⟨rfl, rfl⟩ | ⟨i, hi, rfl, rfl⟩
  · rfl
  · rw [if_neg (h.nz _ (List.getElem_mem hi))]
    congr 1
    rw [List.findIdx_eq hi]
    refine ⟨by simp, fun j hj => ?_⟩
    have hne : l[j].n ≠ l[i].n := nodup_at h.nd hj hi
    simpa using hne
end Go.Proofs.YtdhcgflblbmogaaDoor

/- Paths, of the document: the calls. -/
namespace Go.Proofs.YtdhcgflblbmogaaDoor
open Go.RowKit Tre Cod Nam

set_option maxRecDepth 100000 in
set_option maxHeartbeats 4000000 in
theorem refPath_any (A : Option Addr) (c : Nat) (t : List Pl) (node : Int) (w : World) (hl : t.length ≤ 100) (hsz : ∀ p ∈ t, p.s.size ≤ 9223372036854775807) (hT : plE.Sl w A t) :
    Calls Tryd.prog 17 #[.slice A t.length c, .int .i64 node] w fun e w' => e = .returned (.string (pathL (showV t) node)) ∧ Below w.heap.size w w' := by
  have hsh := shownV t
  have hlen : (showV t).length ≤ 100 := by
    unfold showV
    by_cases h : treeB t = true
    · rw [if_pos h]; exact Nat.le_trans ((treeP h).below_len _ _) hl
    · rw [if_neg h]; exact Nat.zero_le _
  have HSHOW := Lib.hid (refShow_any A c t w hl hsz hT)
  have hstart := hsh.start node
  obtain ⟨R, hR⟩ : ∃ R, pathL (showV t) node = R := ⟨_, rfl⟩
  rw [hR] at hstart ⊢
  generalize showV t = l at *
  have HSH := Lib.hid hsh
  have HLEN := Lib.hid hlen
  clear hR hsz hT hl
  go_enter Tryd.func17, Tryd.ntmps17
  go_wp2_with fail
  refine HSHOW.out.mono ?_
  rintro e w1 ⟨A1, c1, rfl, hS1, _, hb1⟩
  clear HSHOW
  have hS := hS1.1
  clear hS1
  go_wp2_with fail
  go_loopw [6, 7] (fun s n wr => ∃ (S : ByteArray) (x : Int), s = .string S ∧ n = .int .i64 x ∧ ((∃ m, AtM l m x ∧ R = pathF l m x ++ S ∧ S.size + 38 * m ≤ 3800) ∨ ((∀ i (hi : i < l.length), l[i].n ≠ x) ∧ x ≠ 0 ∧ R = ⟨#[]⟩)) ∧ Below w.heap.size w wr ∧ seE.Sl wr A1 l) (fun _ n _ => muP l n)
  case atStart =>
    refine ⟨⟨#[]⟩, node, rfl, rfl, ?_, hb1, hS⟩
    rcases hstart with ⟨m, h1, h2⟩ | ⟨h1, h2, h3⟩
    · refine Or.inl ⟨m, h1, by rw [h2, bempty], ?_⟩
      have := h1.le
      have h0 : (ByteArray.mk #[]).size = 0 := rfl
      omega
    · exact Or.inr ⟨h1, h2, h3⟩
  case round =>
    clear hS hb1 hstart
    obtain ⟨S, x, rfl, rfl, hst, hB, hS⟩ := hrel
    by_cases hx : x = 0
    · have hRS : R = S := by
        rcases hst with ⟨m, h1, h2, _⟩ | ⟨_, h2, _⟩
        · rcases h1 with ⟨_, rfl⟩ | ⟨i, hi, _, e⟩
          · rw [h2]; exact empty_b _
          · exact absurd (e.trans hx) (HSH.out.nz _ (List.getElem_mem hi))
        · exact absurd hx h2
      have HR := Lib.hid hRS
      clear hst hRS
      subst hx
      go_wp2_with fail
      go_ret
      exact ⟨by rw [HR.out]; rfl, hB⟩
    · have hx1 : (x == 0) = false := beq_eq_false_iff_ne.2 hx
      have HST := Lib.hid hst
      clear hst
      go_wp2_with fail
      go_loopw [6, 7, 8, 9] (fun s n f y wr => ∃ j : Nat, j ≤ l.length ∧ s = .string S ∧ n = .int .i64 x ∧ f = .bool false ∧ y = .int .i64 j ∧ (∀ i (hi : i < l.length), i < j → l[i].n ≠ x) ∧ Below w.heap.size w wr ∧ seE.Sl wr A1 l) (fun _ _ _ y _ => l.length - (intOf y).toNat)
      case atStart => exact ⟨0, Nat.zero_le _, rfl, rfl, rfl, rfl, (fun i _ h => by omega), hB, hS⟩
      case round =>
        clear hB hS
        obtain ⟨j, hj, rfl, rfl, rfl, rfl, hno, hB, hS⟩ := hrel
        by_cases hjl : j < l.length
        · obtain ⟨b, off, rfl, hbw, hc⟩ := hS (by omega)
          have hat : seE.At _ b (off + j * 3) l[j] := hc j hjl
          obtain ⟨a0, a1, a2⟩ := seAt3 hat
          by_cases he : l[j].n = x
          · obtain ⟨m, hm, hS1, hS2⟩ : ∃ m, m ≤ j ∧ (∃ m', m' = m ∧ AtM l m l[j].u ∧ R = pathF l m l[j].u ++ ((⟨#[47]⟩ ++ l[j].s) ++ S) ∧ ((⟨#[47]⟩ ++ l[j].s) ++ S).size + 38 * m ≤ 3800) ∧ S.size ≤ 3800 := by
              rcases HST.out with ⟨m0, h1, h2, h3⟩ | ⟨h1, _, _⟩
              · obtain ⟨m, g1, g2, g3⟩ := HSH.out.up j hjl
                have hm0 : m0 = j + 1 := by
                  rcases h1 with ⟨e, _⟩ | ⟨i, hi, e1, e2⟩
                  · exact absurd e hx
                  · rcases Nat.lt_trichotomy i j with h | h | h
                    · exact absurd (e2.trans he.symm) (nodup_at HSH.out.nd h hjl)
                    · omega
                    · exact absurd (he.trans e2.symm) (nodup_at HSH.out.nd h hi)
                subst hm0
                have hsz := HSH.out.sz _ (List.getElem_mem hjl)
                refine ⟨m, g1, ⟨m, rfl, g2, by rw [h2, ← he, g3, ByteArray.append_assoc], ?_⟩, by omega⟩
                have h0 : (ByteArray.mk #[47]).size = 1 := rfl
                simp only [ByteArray.size_append]
                omega
              · exact absurd he (h1 j hjl)
            have hsz := HSH.out.sz _ (List.getElem_mem hjl)
            have HM := Lib.hid (show muP l (.int .i64 l[j].u) < muP l (.int .i64 x) from by
              obtain ⟨_, rfl, hA, _⟩ := hS1
              rw [muP_at HSH.out hA, ← he, muP_at HSH.out (Or.inr ⟨j, hjl, rfl, rfl⟩)]
              omega)
            have HN := Lib.hid hS1
            obtain ⟨q, hq⟩ : ∃ q, l[j] = q := ⟨_, rfl⟩
            rw [hq] at a0 a1 a2 HN HM hsz he
            have he1 : (q.n == x) = true := by rw [he]; exact beq_self_eq_true _
            have HEQ := Lib.hid he
            clear hno hS1 hq hat hc he
            have h1s : (ByteArray.mk #[47]).size = 1 := rfl
            have h2s : (⟨#[47]⟩ ++ q.s : ByteArray).size ≤ 38 := by rw [ByteArray.size_append]; omega
            go_wp2_with fail
            obtain ⟨m', _, hA, hR, hsz2⟩ := HN.out
            exact ⟨⟨_, q.u, rfl, rfl, Or.inl ⟨m, hA, hR, hsz2⟩, hB, hS⟩, HM.out⟩
          · have HNO := Lib.hid (show ∀ i (hi : i < l.length), i < j + 1 → l[i].n ≠ x from fun i hi h => by
              by_cases e : i = j
              · subst e; exact he
              · exact hno i hi (by omega))
            obtain ⟨q, hq⟩ : ∃ q, l[j] = q := ⟨_, rfl⟩
            rw [hq] at a0 a1 a2 he
            have he1 : (q.n == x) = false := beq_eq_false_iff_ne.2 he
            clear hno hq hat hc
            go_wp2_with fail
            exact ⟨⟨j + 1, by omega, rfl, rfl, rfl, by go_num, HNO.out, hB, hS⟩, by simp [intOf]; omega⟩
        · have hRE : R = ⟨#[]⟩ := by
            rcases HST.out with ⟨m, h1, _⟩ | ⟨_, _, h⟩
            · rcases h1 with ⟨e, _⟩ | ⟨i, hi, _, e⟩
              · exact absurd e hx
              · exact absurd e (hno i hi (by omega))
            · exact h
          have HR := Lib.hid hRE
          obtain rfl : j = l.length := by omega
          clear hno hRE
          go_wp2_with fail
          go_ret
          exact ⟨by rw [HR.out]; rfl, hB⟩

/-- The node of a path. -/
def lookV (t : List Pl) (P : ByteArray) : Int × Bool := match (showV t).find? (fun q => decide (pathL (showV t) q.n = P)) with
  | some q => (q.n, true)
  | none => (0, decide (P = ⟨#[]⟩) && treeB t)
set_option maxRecDepth 100000 in
set_option maxHeartbeats 4000000 in
theorem refLook_any (A : Option Addr) (c : Nat) (t : List Pl) (P : ByteArray) (w : World) (hl : t.length ≤ 100) (hsz : ∀ p ∈ t, p.s.size ≤ 9223372036854775807) (hT : plE.Sl w A t) :
    Calls Tryd.prog 9 #[.slice A t.length c, .string P] w fun e w' => e = .returned (.tuple #[.int .i64 (lookV t P).1, .bool (lookV t P).2]) ∧ Below w.heap.size w w' := by
  have hlen : (showV t).length ≤ 100 := by
    unfold showV
    by_cases h : treeB t = true
    · rw [if_pos h]; exact Nat.le_trans ((treeP h).below_len _ _) hl
    · rw [if_neg h]; exact Nat.zero_le _
  have HSHOW := Lib.hid (refShow_any A c t w hl hsz hT)
  have HPATH := Lib.hid (fun (n : Int) (wx : World) (hb : Below w.heap.size w wx) => refPath_any A c t n wx hl hsz (hT.below hb))
  have HRIGHT := Lib.hid (fun (wx : World) (hb : Below w.heap.size w wx) => refRight_any A c t wx (by omega) hsz (plSl.1 (hT.below hb)))
  have HV := Lib.hid (show lookV t P = match (showV t).find? (fun q => decide (pathL (showV t) q.n = P)) with
    | some q => (q.n, true)
    | none => (0, decide (P = ⟨#[]⟩) && treeB t) from rfl)
  generalize lookV t P = V at *
  generalize showV t = l at *
  clear hsz hT
  go_enter Tryd.func9, Tryd.ntmps9
  go_wp2_with fail
  refine HSHOW.out.mono ?_
  rintro e w1 ⟨A1, c1, rfl, hS1, _, hB⟩
  clear HSHOW
  have hS := hS1.1
  clear hS1
  go_wp2_with fail
  go_loopw [7] (fun y wr => ∃ j : Nat, j ≤ l.length ∧ y = .int .i64 j ∧ (∀ i (hi : i < l.length), i < j → pathL l l[i].n ≠ P) ∧ Below w.heap.size w wr ∧ seE.Sl wr A1 l) (fun y _ => l.length - (intOf y).toNat)
  case atStart => exact ⟨0, Nat.zero_le _, rfl, (fun i _ h => by omega), hB, hS⟩
  case round =>
    clear hB hS
    obtain ⟨j, hj, rfl, hno, hB, hS⟩ := hrel
    by_cases hjl : j < l.length
    · have HS := Lib.hid hS
      obtain ⟨b, off, rfl, hbw, hc⟩ := hS (by omega)
      have hat : seE.At _ b (off + j * 3) l[j] := hc j hjl
      obtain ⟨a0, a1, a2⟩ := seAt3 hat
      have HNO := Lib.hid (show ¬ pathL l l[j].n = P → ∀ i (hi : i < l.length), i < j + 1 → pathL l l[i].n ≠ P from fun he i hi h => by
        by_cases e : i = j
        · subst e; exact he
        · exact hno i hi (by omega))
      have HYES := Lib.hid (show pathL l l[j].n = P → l.find? (fun q => decide (pathL l q.n = P)) = some l[j] from fun he => by
        rw [List.find?_eq_some_iff_append]
        refine ⟨by simpa using he, l.take j, l.drop (j + 1), ?_, fun x hx => ?_⟩
        · rw [← List.drop_eq_getElem_cons hjl, List.take_append_drop]
        · obtain ⟨i, hi, rfl⟩ := List.getElem_of_mem hx
          rw [List.length_take] at hi
          rw [List.getElem_take]
          simpa using hno i (by omega) (by omega))
      obtain ⟨q, hq⟩ : ∃ q, l[j] = q := ⟨_, rfl⟩
      rw [hq] at a0 a1 a2 HNO HYES
      clear hno hq hat hc a1 a2
      have CP := HPATH.out q.n _ hB
      obtain ⟨S, hSe⟩ : ∃ S, pathL l q.n = S := ⟨_, rfl⟩
      rw [hSe] at CP HNO HYES
      have HCP := Lib.hid CP
      clear CP hSe
      go_wp2_with fail
      refine HCP.out.mono ?_
      rintro e w2 ⟨rfl, hb2⟩
      replace hB := hB.trans (hb2.mono hB.size)
      have hS := HS.out.below hb2
      obtain ⟨b', off', hbb, hbw', hc'⟩ := hS (by omega)
      cases hbb
      have ha := (bcell hb2).1 _ _ hbw ▸ a0
      clear hc' hbw' hb2 a0
      by_cases he : S = P
      · have HVE := Lib.hid (show V = (q.n, true) from by rw [HV.out, HYES.out he])
        subst he
        go_wp2_with fail
        go_ret2
        refine ⟨?_, hB⟩
        have hv := HVE.out
        clear HV HVE
        subst hv
        rfl
      · have HH := Lib.hid (HNO.out he)
        have h1 := ne_beq he
        have h2 := ne_list he
        go_wp2_with fail
        exact ⟨⟨j + 1, by omega, by go_num, HH.out, hB, hS⟩, by simp [intOf]; omega⟩
    · obtain rfl : j = l.length := by omega
      have hnone : l.find? (fun q => decide (pathL l q.n = P)) = none := by
        rw [List.find?_eq_none]
        intro q hq
        obtain ⟨i, hi, rfl⟩ := List.getElem_of_mem hq
        simpa using hno i hi hi
      have hv := HV.out
      rw [hnone] at hv
      have HVE := Lib.hid hv
      clear hno hnone hv
      by_cases hP : P = ⟨#[]⟩
      · have HVF := Lib.hid (show V = (0, treeB t) from by rw [HVE.out]; simp [hP])
        subst hP
        have CR := HRIGHT.out _ hB
        have HCR := Lib.hid CR
        clear CR
        go_wp2_with fail
        refine HCR.out.mono ?_
        rintro e w2 ⟨rfl, hb2⟩
        go_wp2_with fail
        go_ret2
        refine ⟨?_, hB.trans (hb2.mono hB.size)⟩
        have hv := HVF.out
        clear HV HVE HVF
        subst hv
        rfl
      · have HVF := Lib.hid (show V = (0, false) from by rw [HVE.out]; simp [hP])
        have h1 : P.toList.isEmpty = false := by
          rcases h : P.toList with _ | ⟨x, r⟩
          · exfalso; apply hP
            have := ne_list hP
            rw [h] at this
            exact absurd (Lib.toList_data ⟨#[]⟩).symm this
          · rfl
        have h2 : ¬ P.toList = [] := fun h => by rw [h] at h1; cases h1
        go_wp2_with fail
        go_ret2
        refine ⟨?_, hB⟩
        have hv := HVF.out
        clear HV HVE HVF
        subst hv
        rfl
end Go.Proofs.YtdhcgflblbmogaaDoor

/- What is shown, by a list of what is left to tell; which of those below one that have a name stands first. No call in it. -/
namespace Go.Proofs.YtdhcgflblbmogaaDoor
open Go.RowKit Nam Cod Tre

/-- Those right below a node, as they are shown; of the first k places. -/
def kidsK (t : List Pl) (a : Int) (k : Nat) : List Pl := ((t.take k).filter fun p => decide (p.u = a)).map (seen t)
def kidsV (t : List Pl) (a : Int) : List Pl := (t.filter fun p => decide (p.u = a)).map (seen t)
theorem kidsK_all (t : List Pl) (a : Int) : kidsK t a t.length = kidsV t a := by
  unfold kidsK kidsV; rw [List.take_length]
theorem kidsK_yes {t : List Pl} {a : Int} {k : Nat} {p : Pl} (h : k < t.length) (hp : t[k] = p) (hu : p.u = a) : kidsK t a (k + 1) = kidsK t a k ++ [seen t p] := by
  unfold kidsK
  rw [List.take_succ_eq_append_getElem h, List.filter_append, List.map_append, hp]
  simp [hu]
theorem kidsK_no {t : List Pl} {a : Int} {k : Nat} {p : Pl} (h : k < t.length) (hp : t[k] = p) (hu : ¬ p.u = a) : kidsK t a (k + 1) = kidsK t a k := by
  unfold kidsK
  rw [List.take_succ_eq_append_getElem h, List.filter_append, List.map_append, hp]
  simp [hu]
theorem kidsK_le (t : List Pl) (a : Int) (k : Nat) : (kidsK t a k).length ≤ t.length := by
  unfold kidsK
  rw [List.length_map]
  refine Nat.le_trans (List.length_filter_le _ _) ?_
  rw [List.length_take]; omega
theorem kidsV_le (t : List Pl) (a : Int) : (kidsV t a).length ≤ t.length := by
  rw [← kidsK_all]; exact kidsK_le t a _
theorem mem_kids {t : List Pl} {a : Int} {x : Pl} (h : x ∈ kidsV t a) : ∃ p ∈ t, x = seen t p ∧ p.u = a := by
  unfold kidsV at h
  obtain ⟨p, hp, rfl⟩ := List.mem_map.1 h
  rw [List.mem_filter, decide_eq_true_iff] at hp
  exact ⟨p, hp.1, rfl, hp.2⟩

/-- Those of the first k places that are below a. -/
def sibsK (t : List Pl) (a : Int) (k : Nat) : List Pl := (t.take k).filter fun p => decide (p.u = a)
theorem sibsK_yes {t : List Pl} {a : Int} {k : Nat} {p : Pl} (h : k < t.length) (hp : t[k] = p) (hu : p.u = a) : sibsK t a (k + 1) = sibsK t a k ++ [p] := by
  unfold sibsK
  rw [List.take_succ_eq_append_getElem h, List.filter_append, hp]
  simp [hu]
theorem sibsK_no {t : List Pl} {a : Int} {k : Nat} {p : Pl} (h : k < t.length) (hp : t[k] = p) (hu : ¬ p.u = a) : sibsK t a (k + 1) = sibsK t a k := by
  unfold sibsK
  rw [List.take_succ_eq_append_getElem h, List.filter_append, hp]
  simp [hu]
theorem sibsK_ahead {t : List Pl} (hs : Sorted t) {a : Int} {k : Nat} {p q : Pl} (h : k < t.length) (hp : t[k] = p) (hq : q ∈ sibsK t a k) : q.n < p.n := by
  unfold sibsK at hq
  rw [List.mem_filter] at hq
  obtain ⟨j, hj, rfl⟩ := List.getElem_of_mem hq.1
  rw [List.length_take] at hj
  rw [List.getElem_take, ← hp]
  exact List.pairwise_iff_getElem.1 (sorted_pw.1 hs) j k (by omega) h (by omega)
/-- It has its own name just if none ahead has it. -/
theorem first_sibs {t : List Pl} (hs : Sorted t) {a : Int} {k : Nat} {p : Pl} (h : k < t.length) (hp : t[k] = p) (hu : p.u = a) : firstB t p = true ↔ ∀ q ∈ sibsK t a k, q.s ≠ p.s := by
  rw [firstB_iff]
  constructor
  · intro hf q hq e
    have hlt := sibsK_ahead hs h hp hq
    unfold sibsK at hq
    rw [List.mem_filter, decide_eq_true_iff] at hq
    exact hf q (List.mem_of_mem_take hq.1) ⟨hq.2.trans hu.symm, e, hlt⟩
  · intro hf q hq ⟨e1, e2, e3⟩
    refine hf q ?_ e2
    unfold sibsK
    rw [List.mem_filter, decide_eq_true_iff]
    refine ⟨?_, e1.trans hu⟩
    obtain ⟨j, hj, rfl⟩ := List.getElem_of_mem hq
    rw [List.mem_take_iff_getElem]
    refine ⟨j, ?_, rfl⟩
    rcases Nat.lt_trichotomy j k with hjk | hjk | hjk
    · omega
    · subst hjk
      rw [hp] at e3; omega
    · have := List.pairwise_iff_getElem.1 (sorted_pw.1 hs) k j h hj hjk
      rw [hp] at this; omega

/-- All that is below a node. -/
def treeL (t : List Pl) (a : Int) : List Pl := belowL t t.length a
theorem flat_congr {α β : Type} {f g : α → List β} {l : List α} (h : ∀ x ∈ l, f x = g x) : l.flatMap f = l.flatMap g := by
  rw [List.flatMap_def, List.flatMap_def, List.map_congr_left h]
theorem belowL_deep {t : List Pl} (hs : Sorted t) : ∀ (f : Nat) (a : Int), Deep t f a → belowL t (f + 1) a = belowL t f a
  | 0, a, h => by
    rw [belowL_succ, List.filter_eq_nil_iff.2 (fun p hp => by simpa using h.zero p hp)]; rfl
  | f + 1, a, h => by
    rw [belowL_succ t (f + 1), belowL_succ t f]
    refine flat_congr fun p hp => ?_
    rw [List.mem_filter, decide_eq_true_iff] at hp
    rw [belowL_deep hs f p.n (h.next hs hp.1 hp.2)]
theorem TreeP.unfold {t : List Pl} (h : TreeP t) (a : Int) : treeL t a = (kidsV t a).flatMap fun s => s :: treeL t s.n := by
  unfold treeL kidsV
  rw [← belowL_deep h.s t.length a (deep_all h.s h.r a), belowL_succ, List.flatMap_map]
  rfl
/-- What is still to tell, where the last of them comes first. -/
def restL (t : List Pl) (l : List Pl) : List Pl := l.reverse.flatMap fun s => s :: treeL t s.n
theorem restL_nil (t : List Pl) : restL t [] = [] := rfl
theorem restL_app (t l m : List Pl) : restL t (l ++ m) = restL t m ++ restL t l := by
  unfold restL
  rw [List.reverse_append, List.flatMap_append]
theorem TreeP.start {t : List Pl} (h : TreeP t) (a : Int) : restL t ([] ++ (kidsV t a).reverse) = treeL t a := by
  rw [h.unfold a]
  unfold restL
  rw [List.nil_append, List.reverse_reverse]
theorem TreeP.tell {t : List Pl} (h : TreeP t) (l : List Pl) (s : Pl) : restL t (l ++ [s]) = s :: restL t (l ++ (kidsV t s.n).reverse) := by
  rw [restL_app, restL_app]
  show (s :: treeL t s.n ++ []) ++ restL t l = s :: (restL t (kidsV t s.n).reverse ++ restL t l)
  rw [List.append_nil, h.unfold s.n]
  unfold restL
  rw [List.reverse_reverse]; rfl
theorem restL_len (t : List Pl) : ∀ l : List Pl, l.length ≤ (restL t l).length := by
  intro l
  have h : ∀ m : List Pl, m.length ≤ (m.flatMap fun s => s :: treeL t s.n).length := by
    intro m
    induction m with
    | nil => exact Nat.le_refl _
    | cons x m ih => rw [List.flatMap_cons, List.length_append, List.length_cons, List.length_cons]; omega
  have := h l.reverse
  rw [List.length_reverse] at this
  exact this
end Go.Proofs.YtdhcgflblbmogaaDoor

/- What is right below a node, of the program: shown (by a map from names to nodes), below. -/
namespace Go.Proofs.YtdhcgflblbmogaaDoor
open Go.RowKit Tre Cod Nam Go.Maps
open Go.Lib (decDigits)

/-- What the program's Twin gives (proved where the library's Itoa is laid). -/
def TwinOk : Prop := ∀ (s : ByteArray) (n : Nat) (w : World), n < 100 → s.size ≤ 1000000 → Calls Tryd.prog 38 #[.string s, .int .i64 n] w fun e w' => e = .returned (.string (twinOf s n)) ∧ w = w'

theorem strKeyed : Keyed Tryd.prog 9 := string_keyed Tryd.underlying9
theorem zeroI (w : World) : (zeroValue 3).run Tryd.prog w = .ok (.int .i64 0) w := by kernel_rfl
abbrev keyS (s : ByteArray) : Lit := .string s.data.toList
theorem keyS_ne {s u : ByteArray} (h : s ≠ u) : keyS s ≠ keyS u := fun e => h (L_inj (by injection e))
/-- A map that has, at each name of these, the node of one of them, and nothing else. -/
structure OwnersAt (w : World) (B k : Nat) (m : List Pl) : Prop where
  ex : ∃ D : DataW Unit, w.ownsMap Tryd.prog 9 (plainElem Tryd.prog 3) B k D ∧ IsMap D ∧ ∀ s : ByteArray, ((∀ q ∈ m, q.s ≠ s) ∧ Maps.has D (keyS s) = false) ∨ ∃ q ∈ m, q.s = s ∧ Maps.has D (keyS s) = true ∧ D.atKey (keyS s) (.lit (.int .i64 0)) = .lit (.int .i64 q.n)
theorem OwnersAt.made (w : World) : OwnersAt (w.alloc (.map #[] 0)) w.heap.size 0 [] := ⟨.map [], World.ownsMap_made w _ _ _, isMap_empty, fun s => Or.inl ⟨(fun q hq => by cases hq), rfl⟩⟩
theorem OwnersAt.kept {w w' : World} {B k : Nat} {m : List Pl} {row : Option Nat} (h : OwnersAt w B k m) (hg : w.grownBy w' row) (hne : some B ≠ row) : OwnersAt w' B k m := by
  obtain ⟨D, h1, h2⟩ := h.ex
  exact ⟨D, h1.kept hg hne, h2⟩
theorem OwnersAt.below {w w' : World} {B k : Nat} {m : List Pl} (h : OwnersAt w B k m) (hb : Below w.heap.size w w') : OwnersAt w' B k m := h.kept (by_below hb none) (by simp)
theorem OwnersAt.mono {w : World} {B k k' : Nat} {m : List Pl} (h : OwnersAt w B k m) (hk : k ≤ k') : OwnersAt w B k' m := by
  obtain ⟨D, h1, h2⟩ := h.ex
  exact ⟨D, h1.mono hk, h2⟩
theorem OwnersAt.lt {w : World} {B k : Nat} {m : List Pl} (h : OwnersAt w B k m) : B < w.heap.size := by
  obtain ⟨D, h1, _⟩ := h.ex
  exact h1.lt
theorem OwnersAt.apart {w : World} {B k : Nat} {m : List Pl} (h : OwnersAt w B k m) {b o : Nat} {v : Value} (hc : w.cell? ⟨b, o, none⟩ = some v) : b ≠ B := fun e => by
  obtain ⟨D, h1, _⟩ := h.ex
  obtain ⟨es, cl, hb, _⟩ := h1
  subst e
  simp [World.cell?, hb] at hc
theorem OwnersAt.off {w : World} {B k : Nat} {m : List Pl} (h : OwnersAt w B k m) {B0 : Nat} {v : Value} {l : List Pl} (ho : seE.Own w B0 v l) : ∀ j, v.ownBlock = some j → j ≠ B := fun j ej e => by
  obtain ⟨D, h1, _⟩ := h.ex
  obtain ⟨es, cl, hb, _⟩ := h1
  unfold El.Own at ho
  rcases ho.2 with ⟨rfl, _⟩ | ⟨g, cap, cur, rfl, _, hg, _⟩
  · cases ej
  · have : g = j := Option.some.inj ej
    subst this; subst e
    rw [hb] at hg; cases hg
/-- Is the name there, and what stands at it? -/
theorem OwnersAt.ask {w : World} {B k : Nat} {m : List Pl} (h : OwnersAt w B k m) (s : ByteArray) (hs : s.size ≤ maxLen) : ∃ (v : Int) (b : Bool), (Instr.lookup 51 (.map (some B)) (.string s) true).run Tryd.prog w = .ok (.tuple #[.int .i64 v, .bool b]) w ∧ (Instr.lookup 51 (.map (some B)) (.string s) false).run Tryd.prog w = .ok (.int .i64 v) w ∧ ((b = false ∧ ∀ q ∈ m, q.s ≠ s) ∨ (b = true ∧ ∃ q ∈ m, q.s = s ∧ v = q.n)) := by
  obtain ⟨D, h1, hm, h2⟩ := h.ex
  have hkey := Go.WideMaps.keyOf_string_mk Tryd.underlying9 hs
  obtain ⟨c, hrun, hat, _⟩ := h1.lookup_int (t := 51) (e := 3) strKeyed Tryd.underlying51 Tryd.underlying3 (zeroI _) hkey
  obtain ⟨v, ps, hrun2, hv⟩ := h1.look_ok (t := 51) (e := 3) strKeyed Tryd.underlying51 (zeroI _) (plainElem_int Tryd.underlying3 (show (Lit.int .i64 0).wf = true by decide)) hkey
  obtain ⟨c2, rfl, hc2, _⟩ := plainElem_int_inv Tryd.underlying3 hv
  have e2 : c = c2 := by
    have h3 := congrArg Prod.fst hc2
    have h4 := hat.symm.trans h3
    simpa using h4
  subst e2
  refine ⟨c, _, hrun2, hrun, ?_⟩
  rcases h2 s with ⟨ha, hb⟩ | ⟨q, hq, hqs, hb, hd⟩
  · exact Or.inl ⟨hb, ha⟩
  · refine Or.inr ⟨hb, q, hq, hqs, ?_⟩
    have h4 := hat.symm.trans hd
    simpa using h4
/-- A new name. -/
theorem OwnersAt.put {w : World} {B k : Nat} {m : List Pl} (h : OwnersAt w B k m) (p : Pl) (hs : p.s.size ≤ maxLen) (hw : (Lit.int .i64 p.n).wf = true) (hk : k < maxLen) :
    ∃ w', (Instr.mapUpdate 51 (.map (some B)) (.string p.s) (.int .i64 p.n)).run Tryd.prog w = .ok () w' ∧ OwnersAt w' B (k + 1) (m ++ [p]) ∧ w.grownBy w' (some B) ∧ (Instr.lookup 51 (.map (some B)) (.string p.s) false).run Tryd.prog w' = .ok (.int .i64 p.n) w' := by
  obtain ⟨D, h1, hm, h2⟩ := h.ex
  have hkey := Go.WideMaps.keyOf_string_mk Tryd.underlying9 hs
  obtain ⟨w', hrun, ho, hg⟩ := h1.update (t := 51) (e := 3) strKeyed Tryd.underlying51 hk hkey (plainElem_int Tryd.underlying3 hw)
  obtain ⟨c, hrun2, hat, _⟩ := ho.lookup_int (t := 51) (e := 3) strKeyed Tryd.underlying51 Tryd.underlying3 (zeroI _) hkey
  have hsame := atKey_put_same (k := keyS p.s) hm (show WideAt.IsKeyLit (keyS p.s) from trivial) (.lit (.int .i64 p.n)) (.lit (.int .i64 0))
  have hc : p.n = c := by
    have h4 := hsame.symm.trans hat
    simpa using h4
  refine ⟨w', hrun, ⟨_, ho, hm.put _ _, fun s => ?_⟩, hg, by rw [hc]; exact hrun2⟩
  by_cases e : s = p.s
  · subst e
    exact Or.inr ⟨p, by simp, rfl, has_put_same hm (show WideAt.IsKeyLit (keyS p.s) from trivial) _, hsame⟩
  · rcases h2 s with ⟨ha, hb⟩ | ⟨q, hq, hqs, hb, hd⟩
    · refine Or.inl ⟨fun q hq => ?_, by rw [has_put_other (keyS_ne e)]; exact hb⟩
      rcases List.mem_append.1 hq with hq | hq
      · exact ha q hq
      · rw [List.mem_singleton] at hq
        subst hq; exact fun h => e h.symm
    · exact Or.inr ⟨q, List.mem_append_left _ hq, hqs, by rw [has_put_other (keyS_ne e)]; exact hb, by rw [atKey_put_other (keyS_ne e)]; exact hd⟩
/-- A name that is there. -/
theorem OwnersAt.same {w : World} {B k : Nat} {m : List Pl} (h : OwnersAt w B k m) {p : Pl} (hp : ∃ q ∈ m, q.s = p.s) : OwnersAt w B k (m ++ [p]) := by
  obtain ⟨D, h1, hm, h2⟩ := h.ex
  refine ⟨D, h1, hm, fun s => ?_⟩
  rcases h2 s with ⟨ha, hb⟩ | ⟨q, hq, hqs, hb, hd⟩
  · refine Or.inl ⟨fun q hq => ?_, hb⟩
    rcases List.mem_append.1 hq with hq | hq
    · exact ha q hq
    · rw [List.mem_singleton] at hq
      subst hq
      obtain ⟨q0, hq0, e0⟩ := hp
      exact fun e => ha q0 hq0 (e0.trans e)
  · exact Or.inr ⟨q, List.mem_append_left _ hq, hqs, hb, hd⟩

set_option maxRecDepth 100000 in
set_option maxHeartbeats 4000000 in
theorem shown_any (HT : TwinOk) (w : World) (B k : Nat) (m : List Pl) (p : Pl) (f : Bool) (hM : OwnersAt w B k m) (hk : k ≤ 1000) (hn : 0 ≤ p.n ∧ p.n < 64) (hs : p.s.size ≤ 1000) (hq : ∀ q ∈ m, q.n < p.n) (hf : f = true ↔ ∀ q ∈ m, q.s ≠ p.s) :
    Calls Tryd.prog 35 #[.map (some B), .agg #[.int .i64 p.n, .int .i64 p.u, .string p.s]] w fun e w' => e = .returned (.string (if f = true then p.s else twinOf p.s p.n.toNat)) ∧ OwnersAt w' B (k + 1) (m ++ [p]) ∧ w.grownBy w' (some B) := by
  obtain ⟨hn0, hn1⟩ := hn
  have hP : plE.In (w.alloc (.cells #[.int .i64 p.n, .int .i64 p.u, .string p.s] 33)) w.heap.size p := El.In.new (E := plE) w p _ rfl
  have hg0 : w.grownBy (w.alloc (.cells #[.int .i64 p.n, .int .i64 p.u, .string p.s] 33)) (some B) := World.grownBy_alloc _ _ _
  have hM0 : OwnersAt (w.alloc (.cells #[.int .i64 p.n, .int .i64 p.u, .string p.s] 33)) B k m := hM.kept (World.grownBy_alloc _ _ none) (by simp)
  have hBn : some w.heap.size ≠ some B := fun e => by have := hM.lt; have := Option.some.inj e; omega
  have hsm : p.s.size ≤ maxLen := by unfold maxLen; omega
  obtain ⟨p0, p1, p2⟩ := plIn3 hP
  obtain ⟨v, b, hr1, hr2, hb⟩ := hM0.ask p.s hsm
  cases f
  · have hyes : ∃ q ∈ m, q.s = p.s := by
      by_cases h : ∃ q ∈ m, q.s = p.s
      · exact h
      · exact absurd (hf.2 fun q hq2 e => h ⟨q, hq2, e⟩) (by simp)
    have hv : b = true ∧ (v == p.n) = false := by
      rcases hb with ⟨_, h⟩ | ⟨h1, q, hq2, _, h2⟩
      · obtain ⟨q, hq2, e⟩ := hyes
        exact absurd e (h q hq2)
      · refine ⟨h1, beq_eq_false_iff_ne.2 ?_⟩
        have := hq q hq2
        omega
    obtain ⟨rfl, hv⟩ := hv
    have HM := Lib.hid ((hM0.same hyes).mono (Nat.le_succ k))
    have HC := Lib.hid (fun wx => (by
      have h := HT p.s p.n.toNat wx (by omega) (by omega)
      rw [Int.toNat_of_nonneg (by omega)] at h
      exact h : Calls Tryd.prog 38 #[.string p.s, .int .i64 p.n] wx fun e w' => e = .returned (.string (twinOf p.s p.n.toNat)) ∧ wx = w'))
    have HG := Lib.hid hg0
    generalize twinOf p.s p.n.toNat = T at *
    clear hM hM0 hyes hb hf hq hg0 HT hP hBn
    go_enter Tryd.func35, Tryd.ntmps35
    go_wp2_with (go_at_call 38; (with_reducible refine (HC.out _).mono ?_); rintro e w1 ⟨rfl, rfl⟩)
    go_ret
    exact ⟨rfl, HM.out, HG.out⟩
  · have hno : ∀ q ∈ m, q.s ≠ p.s := hf.1 rfl
    have hv : b = false := by
      rcases hb with ⟨h, _⟩ | ⟨_, q, hq2, e, _⟩
      · exact h
      · exact absurd e (hno q hq2)
    subst hv
    obtain ⟨w9, hr3, hM9, hg9, hr4⟩ := hM0.put p hsm (WalkArith.wf_i64 (by omega)) (by unfold maxLen; omega)
    have q0 := hg9.cell p0 hBn
    have q2 := hg9.cell p2 hBn
    have HM := Lib.hid hM9
    have HG := Lib.hid (show w.grownBy w9 (some B) from ⟨hg9.os.trans hg0.os, hg9.tape.trans hg0.tape, hg9.output.trans hg0.output, Nat.le_trans hg0.size hg9.size, fun i hi hne => (hg9.block i (Nat.lt_of_lt_of_le hi hg0.size) hne).trans (hg0.block i hi hne)⟩)
    clear hM hM0 hno hb hf hq hg0 HT hP hBn hM9 hg9 hr2
    go_enter Tryd.func35, Tryd.ntmps35
    go_wp2_with fail
    go_ret
    exact ⟨rfl, HM.out, HG.out⟩
end Go.Proofs.YtdhcgflblbmogaaDoor

/- What is right below a node, of the program: below. -/
namespace Go.Proofs.YtdhcgflblbmogaaDoor
open Go.RowKit Tre Cod Nam Go.Maps

set_option maxRecDepth 100000 in
set_option maxHeartbeats 4000000 in
theorem below_any (HTW : TwinOk) (A : Option Addr) (c : Nat) (t : List Pl) (a : Int) (w : World) (ht : TreeP t) (hl : t.length ≤ 100) (hT : plE.Sl w A t) :
    Calls Tryd.prog 31 #[.slice A t.length c, .int .i64 a] w fun e w' => ∃ A' c', e = .returned (.slice A' (kidsV t a).length c') ∧ SlV seE w' A' c' (kidsV t a) ∧ Frs w.heap.size A' ∧ Below w.heap.size w w' := by
  have hmm := @run_makeMap Tryd.prog
  have hM0 : OwnersAt (w.alloc (.map #[] 0)) w.heap.size 0 [] := OwnersAt.made w
  have hB0 := below_alloc (Below.refl w.heap.size w) (.map #[] 0)
  go_enter Tryd.func31, Tryd.ntmps31
  go_wp2_with fail
  generalize w.alloc (.map #[] 0) = W0 at *
  go_loopw [6, 12] (fun x y wr => ∃ (k : Nat) (v1 : Value), k ≤ t.length ∧ y = .int .i64 k ∧ x = v1 ∧ seE.Own wr w.heap.size v1 (kidsK t a k) ∧ OwnersAt wr w.heap.size k (sibsK t a k) ∧ Below w.heap.size w wr) (fun _ y _ => t.length - (intOf y).toNat)
  case atStart => exact ⟨0, _, Nat.zero_le _, rfl, rfl, El.Own.nil W0 w.heap.size, hM0, hB0⟩
  case round =>
    clear hM0 hB0 hmm
    obtain ⟨k, v1, hk, rfl, rfl, hO, hM, hB⟩ := hrel
    by_cases hkl : k < t.length
    · obtain ⟨b, off, hA, hbw, hc⟩ := hT (by omega)
      have hat : plE.At wr b (off + k * 3) t[k] := (hc k hkl).below hB hbw
      have hpt : t[k] ∈ t := List.getElem_mem _
      have hy := fun (h : t[k].u = a) => kidsK_yes (a := a) hkl (rfl : t[k] = t[k]) h
      have hno := fun (h : ¬ t[k].u = a) => kidsK_no (a := a) hkl (rfl : t[k] = t[k]) h
      have sy := fun (h : t[k].u = a) => sibsK_yes (a := a) hkl (rfl : t[k] = t[k]) h
      have sno := fun (h : ¬ t[k].u = a) => sibsK_no (a := a) hkl (rfl : t[k] = t[k]) h
      have hfs := fun (h : t[k].u = a) => first_sibs ht.s (a := a) hkl (rfl : t[k] = t[k]) h
      have hah := fun q => sibsK_ahead ht.s (a := a) (q := q) hkl (rfl : t[k] = t[k])
      have hlb := kidsK_le t a k
      obtain ⟨p, hp⟩ : ∃ p, t[k] = p := ⟨_, rfl⟩
      rw [hp] at hat hpt hy hno sy sno hfs hah
      have HY := Lib.hid hy
      have HNO := Lib.hid hno
      have SY := Lib.hid sy
      have SNO := Lib.hid sno
      have HFS := Lib.hid hfs
      have HAH := Lib.hid hah
      have HLB := Lib.hid hlb
      obtain ⟨n1, n2, _, _, n5⟩ := ht.node hpt
      have hps := isName_len n5
      rw [L_len] at hps
      have hbr := Nat.lt_of_lt_of_le hbw hB.size
      clear hp hc hy hno n5 hpt sy sno hfs hah hlb
      subst hA
      have hz0 : plE.In (wr.alloc (.cells #[.int .i64 0, .int .i64 0, .string ⟨#[]⟩] 33)) wr.heap.size zero := El.In.new (E := plE) wr zero #[.int .i64 0, .int .i64 0, .string ⟨#[]⟩] rfl
      have hP := hz0.set p #[.int .i64 p.n, .int .i64 p.u, .string p.s] rfl
      have hbz : Below wr.heap.size wr ((wr.alloc (.cells #[.int .i64 0, .int .i64 0, .string ⟨#[]⟩] 33)).setRow wr.heap.size #[.int .i64 p.n, .int .i64 p.u, .string p.s]) := below_setRow (below_alloc (Below.refl _ _) _) (Nat.le_refl _) _
      obtain ⟨p0, p1, p2⟩ := plIn3 hP
      by_cases e : p.u = a
      · have HQ := Lib.hid (HY.out e)
        have SQ := Lib.hid (SY.out e)
        have HSE := Lib.hid (show seen t p = ⟨p.n, a, nameOf t p⟩ from by unfold seen; rw [e])
        have he1 : (p.u == a) = true := by rw [e]; exact beq_self_eq_true _
        have HSH := Lib.hid (fun (wx : World) (h : OwnersAt wx w.heap.size k (sibsK t a k)) => (by
          have h2 := shown_any HTW wx w.heap.size k (sibsK t a k) p (firstB t p) h (by omega) ⟨by omega, n2⟩ (by omega) HAH.out (HFS.out e)
          rw [← SQ.out] at h2
          exact h2 : Calls Tryd.prog 35 #[.map (some w.heap.size), .agg #[.int .i64 p.n, .int .i64 p.u, .string p.s]] wx fun e w' => e = .returned (.string (nameOf t p)) ∧ OwnersAt w' w.heap.size (k + 1) (sibsK t a (k + 1)) ∧ wx.grownBy w' (some w.heap.size)))
        have HTT := Lib.hid hT
        clear e SY SNO HY HNO HAH HFS hT
        go_wp2_with (first | (refine El.load plRow rfl _ rfl b (off + k * 3) rfl p hat #[.int .i64 p.n, .int .i64 p.u, .string p.s] rfl ?_) | (refine El.store plRow rfl _ _ rfl wr.heap.size p #[.int .i64 p.n, .int .i64 p.u, .string p.s] rfl rfl rfl zero hz0 ?_) | fail)
        have hN7 : w.heap.size < wr.heap.size := hM.lt
        have HN7 := Lib.hid (fun j e => (hO.lt j e).2)
        replace hO := hO.below hbz
        replace hM := hM.below hbz
        replace hB := hB.trans (hbz.mono hB.size)
        clear hbz hz0 hat p0 p1 p2
        generalize (wr.alloc (.cells #[.int .i64 0, .int .i64 0, .string ⟨#[]⟩] 33)).setRow wr.heap.size #[.int .i64 p.n, .int .i64 p.u, .string p.s] = W1 at *
        generalize wr.heap.size = n7 at *
        generalize nameOf t p = N at *
        refine region_anyG (S := PlS n7 p) 10 (by kernel_rfl) ?_
        replace hP : plE.In W1.drew n7 p := hP
        replace hO : seE.Own W1.drew w.heap.size u6 (kidsK t a k) := hO.below (Below.refl _ _).drew
        replace hM : OwnersAt W1.drew w.heap.size k (sibsK t a k) := hM.below (Below.refl _ _).drew
        replace hB := hB.drew
        generalize W1.drew = V at *
        have hS : PlS n7 p V := plIn3 hP
        refine anyG_take (i := 0) (v := u6) rfl (by kernel_rfl) (by kernel_rfl) (by kernel_rfl) (by kernel_rfl) (by kernel_rfl) (fun _ _ _ h => h) (Or.inl ⟨by rfl, fun w' hSw => by (obtain ⟨s0, s1, s2⟩ := hSw; go_simp)⟩) hS ?_
        try simp only [Act.put, List.setIfInBounds_toArray, List.set_cons_zero, List.set_cons_succ]
        refine anyG_take (i := 1) (v := .pointer (some ⟨n7, 0, none⟩)) rfl (by kernel_rfl) (by kernel_rfl) (by kernel_rfl) (by kernel_rfl) (by kernel_rfl) (fun _ _ _ h => h) (Or.inl ⟨by rfl, fun w' hSw => by (obtain ⟨s0, s1, s2⟩ := hSw; go_simp)⟩) hS ?_
        try simp only [Act.put, List.setIfInBounds_toArray, List.set_cons_zero, List.set_cons_succ]
        refine anyG_take (i := 2) (v := .int .i64 p.n) rfl (by kernel_rfl) (by kernel_rfl) (by kernel_rfl) (by kernel_rfl) (by kernel_rfl) (fun _ _ _ h => h) (Or.inl ⟨by rfl, fun w' hSw => by (obtain ⟨s0, s1, s2⟩ := hSw; go_simp)⟩) hS ?_
        try simp only [Act.put, List.setIfInBounds_toArray, List.set_cons_zero, List.set_cons_succ]
        refine anyG_take (i := 3) (v := .int .i64 a) rfl (by kernel_rfl) (by kernel_rfl) (by kernel_rfl) (by kernel_rfl) (by kernel_rfl) (fun _ _ _ h => h) (Or.inl ⟨by rfl, fun w' hSw => by (obtain ⟨s0, s1, s2⟩ := hSw; go_simp)⟩) hS ?_
        try simp only [Act.put, List.setIfInBounds_toArray, List.set_cons_zero, List.set_cons_succ]
        refine anyG_take (i := 4) (v := .map (some w.heap.size)) rfl (by kernel_rfl) (by kernel_rfl) (by kernel_rfl) (by kernel_rfl) (by kernel_rfl) (fun _ _ _ h => h) (Or.inl ⟨by rfl, fun w' hSw => by (obtain ⟨s0, s1, s2⟩ := hSw; go_simp)⟩) hS ?_
        try simp only [Act.put, List.setIfInBounds_toArray, List.set_cons_zero, List.set_cons_succ]
        refine anyG_take (i := 5) (v := .agg #[.int .i64 p.n, .int .i64 p.u, .string p.s]) rfl (by kernel_rfl) (by kernel_rfl) (by kernel_rfl) (by kernel_rfl) (by kernel_rfl) (fun _ _ _ h => h) (Or.inl ⟨by rfl, fun w' hSw => by (obtain ⟨s0, s1, s2⟩ := hSw; go_simp)⟩) hS ?_
        try simp only [Act.put, List.setIfInBounds_toArray, List.set_cons_zero, List.set_cons_succ]
        refine anyG_step (rs := [6]) (by kernel_rfl) (by simp) ?_
        refine AllG.cons rfl (fun K hK => ?_) AllG.nil
        go_simp
        refine (HSH.out V hM).mono ?_
        rintro e W3 ⟨rfl, hM3, hg3⟩
        have hoff := hM.off hO
        have hO3 := hO.kept hg3 (by
          cases hv : u6.ownBlock with
          | none => exact Or.inl rfl
          | some j => exact Or.inr (fun e => hoff j hv (Option.some.inj e)))
        have hP3 := hP.keep hg3 (fun e => by have := Option.some.inj e; omega)
        have hB3 := hB.grown hg3 hB.size (fun k e => by have := Option.some.inj e; omega)
        clear hO hP hB hM hg3 hS
        have hS : PlS n7 p W3 := plIn3 hP3
        try go_wp2_with fail
        refine hK.out _ _ hS ?_
        try simp only [Act.put, List.setIfInBounds_toArray, List.set_cons_zero, List.set_cons_succ]
        clear hK
        refine anyG_take (i := 7) (v := .agg #[.int .i64 p.n, .int .i64 a, .string N]) rfl (by kernel_rfl) (by kernel_rfl) (by kernel_rfl) (by kernel_rfl) (by kernel_rfl) (fun _ _ _ h => h) (Or.inl ⟨by rfl, fun w' hSw => by (obtain ⟨s0, s1, s2⟩ := hSw; go_simp)⟩) hS ?_
        try simp only [Act.put, List.setIfInBounds_toArray, List.set_cons_zero, List.set_cons_succ]
        refine anyG_step (rs := [8]) (by kernel_rfl) (by simp) ?_
        refine AllG.cons rfl (fun K hK => ?_) AllG.nil
        have hal := below_alloc (Below.refl W3.heap.size W3) (.cells #[.int .i64 p.n, .int .i64 a, .string N] 36)
        have hEl : seE.Sl (W3.alloc (.cells #[.int .i64 p.n, .int .i64 a, .string N] 36)) (some ⟨W3.heap.size, 0, none⟩) [seen t p] := (El.In.new (E := seE) W3 (seen t p) _ (by rw [HSE.out]; rfl)).sl
        replace hO3 := hO3.below hal
        replace hP3 := hP3.below hal
        replace hM3 := hM3.below hal
        replace hB3 := hB3.trans (hal.mono hB3.size)
        clear hS hal
        have hS : PlS n7 p _ := plIn3 hP3
        go_simp
        refine hK.out _ _ hS ?_
        try simp only [Act.put, List.setIfInBounds_toArray, List.set_cons_zero, List.set_cons_succ]
        clear hK hS
        generalize W3.alloc (.cells #[.int .i64 p.n, .int .i64 a, .string N] 36) = V1 at *
        generalize W3.heap.size = n8 at *
        refine anyG_step (rs := [9]) (by kernel_rfl) (by simp) ?_
        refine AllG.cons rfl (fun K hK => ?_) AllG.nil
        refine El.step_app seInn rfl (.tmp 20) (.tmp 28) rfl w.heap.size u6 (kidsK t a k) [seen t p] rfl hO3 (some ⟨n8, 0, none⟩) 1 1 rfl rfl hEl (fun e => by cases e) (by have := HLB.out; rw [List.length_singleton]; omega) hB3.size ?_
        intro v2 W4 hO4 hg4 hat4
        have hP4 := hP3.keep hg4 (fun e => by have := HN7.out n7 e.symm; omega)
        have hB4 := hB3.grown hg4 hB3.size (fun k e => (hO3.lt k e).1)
        have hM4 := hM3.kept hg4 (fun e => hoff w.heap.size e.symm rfl)
        clear hO3 hP3 hB3 hM3 hEl hg4 hat4
        refine hK.out _ _ (plIn3 hP4 : PlS n7 p W4) ?_
        try simp only [Act.put, List.setIfInBounds_toArray, List.set_cons_zero, List.set_cons_succ]
        clear hK
        refine anyG_step (rs := [10]) (by kernel_rfl) (by simp) ?_
        refine AllG.last (n := 10) rfl (fun K hK => ?_)
        go_simp
        refine hK.out _ _ ?_
        try simp only [Act.put, List.setIfInBounds_toArray, List.set_cons_zero, List.set_cons_succ]
        clear hK
        refine anyG_done (by kernel_rfl) ?_ _
        go_wp2_with fail
        exact ⟨⟨k + 1, v2, by omega, by go_num, rfl, by rw [HQ.out]; exact hO4, hM4, hB4⟩, by simp [intOf]; omega⟩
      · have HQ := Lib.hid (HNO.out e)
        have SQ := Lib.hid (SNO.out e)
        have he1 : (p.u == a) = false := beq_eq_false_iff_ne.2 e
        have HM := Lib.hid (hM.below hbz)
        have HO := Lib.hid (hO.below hbz)
        have HB := Lib.hid (hB.trans (hbz.mono hB.size))
        clear hM hO hB SY SNO HY HNO HAH HFS
        go_wp2_with (first | (refine El.load plRow rfl _ rfl b (off + k * 3) rfl p hat #[.int .i64 p.n, .int .i64 p.u, .string p.s] rfl ?_) | (refine El.store plRow rfl _ _ rfl wr.heap.size p #[.int .i64 p.n, .int .i64 p.u, .string p.s] rfl rfl rfl zero hz0 ?_) | fail)
        exact ⟨⟨k + 1, _, by omega, by go_num, rfl, by rw [HQ.out]; exact HO.out, by rw [SQ.out]; exact HM.out.mono (Nat.le_succ k), HB.out⟩, by simp [intOf]; omega⟩
    · obtain rfl : k = t.length := by omega
      rw [kidsK_all] at hO
      obtain ⟨A', c', rfl, hS⟩ := SlV.own hO
      have hfr := hO.frs
      clear hO hM
      go_wp2_with fail
      go_ret
      exact ⟨A', c', rfl, hS, hfr, hB⟩
end Go.Proofs.YtdhcgflblbmogaaDoor

/- What is shown, of the program: lay, tell. -/
namespace Go.Proofs.YtdhcgflblbmogaaDoor
open Go.RowKit Tre Cod Nam

theorem grown_trans {w w1 w2 : World} {r r1 : Option Nat} (h : w.grownBy w1 r) (k : w1.grownBy w2 r1) (hr : ∀ j, r1 = some j → j < w.heap.size → r = some j) : w.grownBy w2 r :=
  ⟨k.os.trans h.os, k.tape.trans h.tape, k.output.trans h.output, Nat.le_trans h.size k.size, fun i hi hne => (k.block i (Nat.lt_of_lt_of_le hi h.size) (fun e => hne (hr i e.symm hi).symm)).trans (h.block i hi hne)⟩
def lenOf : Value → Nat
  | .slice _ n _ => n
  | _ => 0
section
variable {α : Type} {E : El α} {w : World} {B : Nat} {v : Value} {l : List α}
theorem El.Own.lenOf (h : E.Own w B v l) : lenOf v = l.length := by
  obtain ⟨A, c, e, _⟩ := h.sl
  rw [e]; rfl
/-- A row of the call's own, cut at its end. -/
theorem El.Own.take {A : Option Addr} {n c m : Nat} (h : E.Own w B (.slice A n c) l) (hm : m ≤ l.length) : E.Own w B (.slice A m c) (l.take m) := by
  unfold El.Own at h ⊢
  have hl : (l.take m).length = m := by rw [List.length_take]; omega
  refine ⟨by rw [El.cells_len], ?_⟩
  rcases h.2 with ⟨e, h0⟩ | ⟨g, cap, cur, e, hb, hg, hnc, hcm, hcs, htk⟩
  · left
    injection e with e1 e2 e3
    subst e1 e3
    have : m = 0 := by omega
    subst this
    exact ⟨rfl, hl⟩
  · right
    injection e with e1 e2 e3
    subst e1 e3
    refine ⟨g, c, cur, by rw [hl], hb, hg, by rw [hl]; omega, hcm, hcs, ?_⟩
    rw [hl, El.cells_take l m hm, ← htk, List.take_take, Nat.min_eq_left (Nat.mul_le_mul_right _ hm)]
end

theorem seIn3 {w : World} {b : Nat} {p : Pl} (h : seE.In w b p) : PlS b p w := ⟨h.cell 0, h.cell 1, h.cell 2⟩

set_option maxRecDepth 100000 in
set_option maxHeartbeats 4000000 in
theorem lay_any (w : World) (B : Nat) (v : Value) (left : List Pl) (A2 : Option Addr) (c2 : Nat) (l : List Pl) (hO : seE.Own w B v left) (hB : B ≤ w.heap.size) (hS : seE.Sl w A2 l) (hne : ∀ a, A2 = some a → v.ownBlock ≠ some a.block) (hlen : left.length + l.length ≤ 1000) :
    Calls Tryd.prog 30 #[v, .slice A2 l.length c2] w fun e w' => ∃ v', e = .returned v' ∧ seE.Own w' B v' (left ++ l.reverse) ∧ w.grownBy w' v.ownBlock ∧ (v'.ownBlock = v.ownBlock ∨ ∃ j, v'.ownBlock = some j ∧ w.heap.size ≤ j) := by
  have HW := Lib.hid (show IntKind.i64.wrap ((l.length : Int) - 1) = (l.length : Int) - 1 from by rw [IntKind.wrap_i64]; omega)
  have HS := Lib.hid hS
  have HN := Lib.hid hne
  have HL := Lib.hid hlen
  have hsw : w.grownBy w v.ownBlock := ⟨rfl, rfl, rfl, Nat.le_refl _, fun _ _ _ => rfl⟩
  clear hS hne
  go_enter Tryd.func30, Tryd.ntmps30
  go_wp2_with fail
  go_loopw [0, 5] (fun x y wr => ∃ (k : Nat) (v1 : Value) (i : Int), k ≤ l.length ∧ y = .int .i64 i ∧ i = (k : Int) - 1 ∧ x = v1 ∧ seE.Own wr B v1 (left ++ (l.drop k).reverse) ∧ w.grownBy wr v.ownBlock ∧ (v1.ownBlock = v.ownBlock ∨ ∃ j, v1.ownBlock = some j ∧ w.heap.size ≤ j)) (fun _ y _ => (intOf y + 1).toNat)
  case atStart => exact ⟨l.length, v, _, Nat.le_refl _, rfl, (by first | omega | rfl | (rw [IntKind.wrap_i64]; omega) | (rw [wrap64_in _ (by omega)]) | (unfold wrap64; omega)), rfl, by rw [List.drop_length, List.reverse_nil, List.append_nil]; exact hO, hsw, Or.inl rfl⟩
  case round =>
    clear hO hsw
    obtain ⟨k, v1, i, hk, rfl, hi, rfl, hO, hg, hat⟩ := hrel
    cases k with
    | zero =>
      have hneg : ¬ 0 ≤ i := by omega
      have HO := Lib.hid hO
      have HI := Lib.hid hi
      clear hO hi
      go_wp2_with fail
      go_ret
      exact ⟨_, rfl, by have := HO.out; rw [List.drop_zero] at this; exact this, hg, hat⟩
    | succ j =>
      obtain rfl : i = (j : Int) := by omega
      have hjl : j < l.length := by omega
      obtain ⟨b, off, hA2, hbw, hc⟩ := HS.out (by omega)
      have hbv : v.ownBlock ≠ some b := HN.out _ hA2
      have hq := (hc j hjl).grown hg (fun e => hbv e.symm)
      have hnx : left ++ (l.drop j).reverse = (left ++ (l.drop (j + 1)).reverse) ++ [l[j]] := by
        rw [List.drop_eq_getElem_cons hjl, List.reverse_cons, List.append_assoc]
      have hll : (left ++ (l.drop (j + 1)).reverse).length + [l[j]].length ≤ 1000 := by
        have := HL.out
        rw [List.length_append, List.length_reverse, List.length_drop, List.length_singleton]; omega
      generalize left ++ (l.drop (j + 1)).reverse = L1 at *
      obtain ⟨q, hqe⟩ : ∃ q, l[j] = q := ⟨_, rfl⟩
      rw [hqe] at hq hnx hll
      have hEl : seE.Sl (wr.alloc (.cells #[.int .i64 q.n, .int .i64 q.u, .string q.s] 36)) (some ⟨wr.heap.size, 0, none⟩) [q] := (El.In.new (E := seE) wr q _ rfl).sl
      have hO2 := hO.below (below_alloc (Below.refl wr.heap.size wr) (.cells #[.int .i64 q.n, .int .i64 q.u, .string q.s] 36))
      have hBw : B ≤ (wr.alloc (.cells #[.int .i64 q.n, .int .i64 q.u, .string q.s] 36)).heap.size := by
        rw [alloc_size]; have := hg.size; omega
      have HX := Lib.hid hnx
      have HY := Lib.hid hll
      have HO1 := Lib.hid hO
      have HI := Lib.hid hi
      have HG := Lib.hid hg
      have HAT := Lib.hid hat
      subst hA2
      clear hnx hll hqe hO hi hc hat hg
      go_wp2_with (first | (refine El.load seRow rfl _ rfl b (off + j * 3) rfl q hq #[.int .i64 q.n, .int .i64 q.u, .string q.s] rfl ?_) | (refine El.wpList_app seInn rfl (.tmp 13) (.tmp 18) rfl B u0 L1 [q] rfl hO2 (some ⟨wr.heap.size, 0, none⟩) 1 1 rfl rfl hEl (fun e => by cases e) (by have := HY.out; omega) hBw ?_; intro v2 W2 hO3 hg3 hat3))
      have hg4 : w.grownBy W2 v.ownBlock := by
        refine grown_trans (grown_trans HG.out (World.grownBy_alloc wr (.cells #[.int .i64 q.n, .int .i64 q.u, .string q.s] 36) none) (fun _ e => by cases e)) hg3 (fun j2 e hlt => ?_)
        rcases HAT.out with h | ⟨j3, h, h3⟩
        · rw [← h]; exact e
        · have := Option.some.inj (e.symm.trans h); omega
      refine ⟨⟨j, v2, _, by omega, rfl, (by first | omega | rfl | (rw [IntKind.wrap_i64]; omega) | (rw [wrap64_in _ (by omega)]) | (unfold wrap64; omega)), rfl, by rw [HX.out]; exact hO3, hg4, ?_⟩, by simp [intOf]⟩
      rcases hat3 with h | h
      · rw [h]; exact HAT.out
      · refine Or.inr ⟨_, h, ?_⟩
        rw [alloc_size]; have := HG.out.size; omega

set_option maxRecDepth 100000 in
set_option maxHeartbeats 4000000 in
theorem tell_any (HTW : TwinOk) (A : Option Addr) (c : Nat) (t : List Pl) (a : Int) (w : World) (ht : treeB t = true) (hl : t.length ≤ 100) (hT : plE.Sl w A t) :
    Calls Tryd.prog 24 #[.slice A t.length c, .int .i64 a] w fun e w' => ∃ A' c', e = .returned (.slice A' (treeL t a).length c') ∧ SlV seE w' A' c' (treeL t a) ∧ Below w.heap.size w w' := by
  have hp := treeP ht
  have CR := right_any A c t w (by omega) (fun p hq => by have := (tree_fit ht p hq).s; omega) (plSl.1 hT)
  rw [ht] at CR
  have CB := Lib.hid (fun (b : Int) (wx : World) (hb : Below w.heap.size w wx) => below_any HTW A c t b wx hp hl (hT.below hb))
  have HST := Lib.hid (hp.start a)
  have HTE := Lib.hid (fun l s => hp.tell l s)
  have HKL := Lib.hid (fun b => kidsV_le t b)
  have hR : (treeL t a).length ≤ 100 := Nat.le_trans (hp.below_len _ _) hl
  generalize treeL t a = R at *
  clear hp ht hT HTW
  go_enter Tryd.func24, Tryd.ntmps24
  go_wp2_with fail
  refine CR.mono ?_
  rintro e w1 ⟨rfl, hB⟩
  clear CR
  go_wp2_with fail
  refine (CB.out a w1 hB).mono ?_
  rintro e w2 ⟨A2, c2, rfl, hS2, hF2, hb2⟩
  replace hB := hB.trans (hb2.mono hB.size)
  clear hb2 hF2
  go_wp2_with fail
  refine (lay_any w2 w.heap.size (.slice none 0 0) [] A2 c2 (kidsV t a) (El.Own.nil _ _) hB.size hS2.1 (fun _ _ e => by cases e) (by have := HKL.out a; simp only [List.length_nil]; omega)).mono ?_
  rintro e w3 ⟨v6, rfl, hO6, hg6, _⟩
  replace hB := hB.grown hg6 hB.size (fun k e => by cases e)
  have hst := HST.out
  clear hg6 hS2 HST
  generalize ([] : List Pl) ++ (kidsV t a).reverse = L0 at *
  go_wp2_with fail
  go_loopw [5, 6] (fun x y wr => ∃ (v1 v2 : Value) (told left : List Pl), x = v1 ∧ y = v2 ∧ told ++ restL t left = R ∧ seE.Own wr w.heap.size v1 told ∧ seE.Own wr w.heap.size v2 left ∧ (∀ j, v1.ownBlock = some j → v2.ownBlock ≠ some j) ∧ Below w.heap.size w wr) (fun x _ _ => R.length - lenOf x)
  case atStart => exact ⟨_, v6, [], L0, rfl, rfl, by rw [List.nil_append]; exact hst, El.Own.nil _ _, hO6, (fun j e => by cases e), hB⟩
  case round =>
    clear hB hO6 hst
    obtain ⟨v1, v2, told, left, rfl, rfl, hR2, hO1, hO2, hdis, hB⟩ := hrel
    rcases List.eq_nil_or_concat left with rfl | ⟨left', s, he⟩
    · obtain ⟨A6, c6, rfl, hS6⟩ := SlV.own hO2
      rw [restL_nil, List.append_nil] at hR2
      subst hR2
      obtain ⟨A', c', rfl, hS⟩ := SlV.own hO1
      clear hO1 hO2 hdis hS6
      simp only [List.length_nil] at *
      go_wp2_with fail
      go_ret
      exact ⟨A', c', rfl, hS, hB⟩
    · rw [List.concat_eq_append] at he
      subst he
      obtain ⟨m, hm⟩ : ∃ m, left'.length = m := ⟨_, rfl⟩
      have hlen : (left' ++ [s]).length = m + 1 := by rw [List.length_append, hm]; rfl
      have htk : (left' ++ [s]).take m = left' := List.take_left' hm
      obtain ⟨A6, c6, rfl, hSl, _, hcap⟩ := SlV.own hO2
      obtain ⟨b, off, hA6, hbw, hc⟩ := hSl (by omega)
      have hat : seE.At wr b (off + m * 3) s := by
        have h := hc m (by omega)
        rw [List.getElem_append_right (by omega)] at h
        simp only [hm, Nat.sub_self, List.getElem_cons_zero] at h
        exact h
      have hOt := hO2.take (m := m) (by omega)
      rw [htk] at hOt
      rw [HTE.out] at hR2
      have hnx : (told ++ [s]) ++ restL t (left' ++ (kidsV t s.n).reverse) = R := by rw [List.append_assoc]; exact hR2
      have htl : told.length + 1 + (left'.length + (kidsV t s.n).length) ≤ R.length := by
        have h := congrArg List.length hnx
        rw [List.length_append, List.length_append] at h
        have h2 := restL_len t (left' ++ (kidsV t s.n).reverse)
        rw [List.length_append, List.length_reverse] at h2
        have h3 : [s].length = 1 := rfl
        omega
      have HNX := Lib.hid hnx
      have HTL := Lib.hid htl
      have HOT := Lib.hid hOt
      have HM := Lib.hid hm
      have hle := hO1.lenOf
      have HLE := Lib.hid hle
      have hdb : ∀ j, u5.ownBlock = some j → j ≠ b := fun j e e2 => hdis j e (by rw [hA6, e2]; rfl)
      have HDB := Lib.hid hdb
      have HO1 := Lib.hid hO1
      rw [hlen] at hcap ⊢
      subst hA6
      clear hO2 hSl hc htk hR2 hnx htl hOt hm hle hdis hdb hO1 hlen
      obtain ⟨M, hM⟩ : ∃ M, m + 1 = M := ⟨_, rfl⟩
      rw [hM] at hcap ⊢
      have hmM : m < M := by omega
      have hMl : M ≤ 100 := by have := HTL.out; have := HM.out; omega
      have h1 : IntKind.i64.wrap ((M : Int) - 1) = (m : Int) := by rw [IntKind.wrap_i64]; omega
      have h2 : decide ((0 : Int) < (M : Int)) = true := decide_eq_true (by omega)
      have HMM := Lib.hid hM
      have hm0 : 0 < M := by omega
      have hmc : m ≤ c6 := by omega
      have hz0 : seE.In (wr.alloc (.cells #[.int .i64 0, .int .i64 0, .string ⟨#[]⟩] 36)) wr.heap.size zero := El.In.new (E := seE) wr zero #[.int .i64 0, .int .i64 0, .string ⟨#[]⟩] rfl
      have hP := hz0.set s #[.int .i64 s.n, .int .i64 s.u, .string s.s] rfl
      have hbz : Below wr.heap.size wr ((wr.alloc (.cells #[.int .i64 0, .int .i64 0, .string ⟨#[]⟩] 36)).setRow wr.heap.size #[.int .i64 s.n, .int .i64 s.u, .string s.s]) := below_setRow (below_alloc (Below.refl _ _) _) (Nat.le_refl _) _
      have HBZ := Lib.hid hbz
      have hal := below_alloc hbz (.cells #[.int .i64 s.n, .int .i64 s.u, .string s.s] 36)
      have hO3 := HO1.out.below hal
      have hP3 := hP.alloc (.cells #[.int .i64 s.n, .int .i64 s.u, .string s.s] 36)
      have hEl : seE.Sl (((wr.alloc (.cells #[.int .i64 0, .int .i64 0, .string ⟨#[]⟩] 36)).setRow wr.heap.size #[.int .i64 s.n, .int .i64 s.u, .string s.s]).alloc (.cells #[.int .i64 s.n, .int .i64 s.u, .string s.s] 36)) (some ⟨wr.heap.size + 1, 0, none⟩) [s] := by
        have h := (El.In.new (E := seE) ((wr.alloc (.cells #[.int .i64 0, .int .i64 0, .string ⟨#[]⟩] 36)).setRow wr.heap.size #[.int .i64 s.n, .int .i64 s.u, .string s.s]) s _ rfl).sl
        have e : ((wr.alloc (.cells #[.int .i64 0, .int .i64 0, .string ⟨#[]⟩] 36)).setRow wr.heap.size #[.int .i64 s.n, .int .i64 s.u, .string s.s]).heap.size = wr.heap.size + 1 := by simp
        rw [e] at h
        exact h
      have hBw : w.heap.size ≤ (((wr.alloc (.cells #[.int .i64 0, .int .i64 0, .string ⟨#[]⟩] 36)).setRow wr.heap.size #[.int .i64 s.n, .int .i64 s.u, .string s.s]).alloc (.cells #[.int .i64 s.n, .int .i64 s.u, .string s.s] 36)).heap.size := Nat.le_trans hB.size hal.size
      have HAL := Lib.hid hal
      have HHB := Lib.hid hB
      clear hM hbz hal hB
      go_wp2_with (first | (refine El.load seRow rfl _ rfl b (off + m * 3) rfl s hat #[.int .i64 s.n, .int .i64 s.u, .string s.s] rfl ?_) | (refine El.store seRow rfl _ _ rfl wr.heap.size s #[.int .i64 s.n, .int .i64 s.u, .string s.s] rfl rfl rfl zero hz0 ?_) | (refine El.load seRow rfl _ rfl wr.heap.size 0 rfl s hP.at #[.int .i64 s.n, .int .i64 s.u, .string s.s] rfl ?_) | (refine El.wpList_app seInn rfl (.tmp 26) (.tmp 28) rfl w.heap.size u5 told [s] rfl hO3 (some ⟨wr.heap.size + 1, 0, none⟩) 1 1 rfl rfl hEl (fun e => by cases e) (by have := HTL.out; rw [List.length_singleton]; omega) hBw ?_; intro v9 W9 hO9 hg9 hat9) | fail)
      have hP9 := hP3.keep hg9 (fun e => by have := (HO1.out.lt _ e.symm).2; omega)
      have hOt := (HOT.out.below HAL.out).kept hg9 (Or.inr (fun e => HDB.out b e.symm rfl))
      have hB9 := (HHB.out.trans (HAL.out.mono HHB.out.size)).grown hg9 (Nat.le_trans HHB.out.size HAL.out.size) (fun k e => (HO1.out.lt k e).1)
      have hb9 : b < W9.heap.size := Nat.lt_of_lt_of_le hbw (Nat.le_trans HAL.out.size hg9.size)
      have hdis : ∀ j, v9.ownBlock = some j → j ≠ b := fun j e e2 => by
        rcases hat9 with h | h
        · exact HDB.out j (by rw [← h]; exact e) e2
        · have h3 := Option.some.inj (e.symm.trans h)
          have := HAL.out.size
          omega
      have HDI := Lib.hid hdis
      clear hP hP3 hO3 hEl hBw HAL HHB hg9 hat9 HBZ hz0 hat HOT HDB hdis
      generalize wr.heap.size = n8 at *
      refine region_anyG (S := PlS n8 s) 8 (by kernel_rfl) ?_
      replace hP9 : seE.In W9.drew n8 s := hP9
      replace hO9 : seE.Own W9.drew w.heap.size v9 (told ++ [s]) := hO9.below (Below.refl _ _).drew
      replace hOt : seE.Own W9.drew w.heap.size (.slice (some ⟨b, off, none⟩) m c6) left' := hOt.below (Below.refl _ _).drew
      replace hB9 := hB9.drew
      replace hb9 : b < W9.drew.heap.size := hb9
      generalize W9.drew = V at *
      have hS : PlS n8 s V := seIn3 hP9
      have HMC := Lib.hid hmc
      refine anyG_take (i := 0) (v := .slice (some ⟨b, off, none⟩) M c6) rfl (by kernel_rfl) (by kernel_rfl) (by kernel_rfl) (by kernel_rfl) (by kernel_rfl) (fun _ _ _ h => h) (Or.inl ⟨by rfl, fun w' hSw => by (obtain ⟨s0, s1, s2⟩ := hSw; go_simp)⟩) hS ?_
      try simp only [Act.put, List.setIfInBounds_toArray, List.set_cons_zero, List.set_cons_succ]
      refine anyG_take (i := 1) (v := .int .i64 m) rfl (by kernel_rfl) (by kernel_rfl) (by kernel_rfl) (by kernel_rfl) (by kernel_rfl) (fun _ _ _ h => h) (Or.inl ⟨by rfl, fun w' hSw => by (obtain ⟨s0, s1, s2⟩ := hSw; go_simp)⟩) hS ?_
      try simp only [Act.put, List.setIfInBounds_toArray, List.set_cons_zero, List.set_cons_succ]
      refine anyG_take (i := 2) (v := .slice (some ⟨b, off, none⟩) m c6) rfl (by kernel_rfl) (by kernel_rfl) (by kernel_rfl) (by kernel_rfl) (by kernel_rfl) (fun _ _ _ h => h) (Or.inl ⟨by rfl, fun w' hSw => by (obtain ⟨s0, s1, s2⟩ := hSw; go_simp)⟩) hS ?_
      try simp only [Act.put, List.setIfInBounds_toArray, List.set_cons_zero, List.set_cons_succ]
      refine anyG_take (i := 3) (v := .slice A t.length c) rfl (by kernel_rfl) (by kernel_rfl) (by kernel_rfl) (by kernel_rfl) (by kernel_rfl) (fun _ _ _ h => h) (Or.inl ⟨by rfl, fun w' hSw => by (obtain ⟨s0, s1, s2⟩ := hSw; go_simp)⟩) hS ?_
      try simp only [Act.put, List.setIfInBounds_toArray, List.set_cons_zero, List.set_cons_succ]
      refine anyG_take (i := 4) (v := .pointer (some ⟨n8, 0, none⟩)) rfl (by kernel_rfl) (by kernel_rfl) (by kernel_rfl) (by kernel_rfl) (by kernel_rfl) (fun _ _ _ h => h) (Or.inl ⟨by rfl, fun w' hSw => by (obtain ⟨s0, s1, s2⟩ := hSw; go_simp)⟩) hS ?_
      try simp only [Act.put, List.setIfInBounds_toArray, List.set_cons_zero, List.set_cons_succ]
      refine anyG_take (i := 5) (v := .int .i64 s.n) rfl (by kernel_rfl) (by kernel_rfl) (by kernel_rfl) (by kernel_rfl) (by kernel_rfl) (fun _ _ _ h => h) (Or.inl ⟨by rfl, fun w' hSw => by (obtain ⟨s0, s1, s2⟩ := hSw; go_simp)⟩) hS ?_
      try simp only [Act.put, List.setIfInBounds_toArray, List.set_cons_zero, List.set_cons_succ]
      refine anyG_step (rs := [6]) (by kernel_rfl) (by simp) ?_
      refine AllG.cons rfl (fun K hK => ?_) AllG.nil
      go_simp
      refine (CB.out s.n V hB9).mono ?_
      rintro e W5 ⟨A5, c5, rfl, hS5, hF5, hb5⟩
      have hP5 := hP9.below hb5
      have hO5 := hO9.below hb5
      have hOt5 := hOt.below hb5
      have hB5 := hB9.trans (hb5.mono hB9.size)
      have hbV := Nat.lt_of_lt_of_le hb9 hb5.size
      have hne : ∀ a, A5 = some a → (Value.slice (some ⟨b, off, none⟩) m c6).ownBlock ≠ some a.block := fun a e e2 => by
        have h1 := hF5 a e
        have h2 : b = a.block := Option.some.inj e2
        omega
      have hv5 : ∀ j, v9.ownBlock = some j → j < W5.heap.size := fun j e => (hO5.lt j e).2
      clear hP9 hO9 hOt hB9 hb5 hb9 hF5 hS
      try go_wp2_with fail
      refine hK.out _ _ (seIn3 hP5 : PlS n8 s W5) ?_
      try simp only [Act.put, List.setIfInBounds_toArray, List.set_cons_zero, List.set_cons_succ]
      clear hK
      refine anyG_step (rs := [7]) (by kernel_rfl) (by simp) ?_
      refine AllG.cons rfl (fun K hK => ?_) AllG.nil
      go_simp
      refine (lay_any W5 w.heap.size (.slice (some ⟨b, off, none⟩) m c6) left' A5 c5 (kidsV t s.n) hOt5 hB5.size hS5.1 hne (by have := HTL.out; omega)).mono ?_
      rintro e W6 ⟨v7, rfl, hO6, hg6, hat6⟩
      have hP6 := hP5.keep hg6 (fun e => by have h : n8 = b := Option.some.inj e; omega)
      have hO7 := hO5.kept hg6 (by
        cases hv : v9.ownBlock with
        | none => exact Or.inl rfl
        | some j => exact Or.inr (fun e => HDI.out j hv (Option.some.inj e)))
      have hB6 := hB5.grown hg6 hB5.size (fun k e => (hOt5.lt k e).1)
      try go_wp2_with fail
      refine hK.out _ _ (seIn3 hP6 : PlS n8 s W6) ?_
      try simp only [Act.put, List.setIfInBounds_toArray, List.set_cons_zero, List.set_cons_succ]
      clear hK
      refine anyG_step (rs := [8]) (by kernel_rfl) (by simp) ?_
      refine AllG.last (n := 8) rfl (fun K hK => ?_)
      go_simp
      refine hK.out _ _ ?_
      try simp only [Act.put, List.setIfInBounds_toArray, List.set_cons_zero, List.set_cons_succ]
      clear hK
      refine anyG_done (by kernel_rfl) ?_ _
      have hl9 := hO7.lenOf
      have HDIS : ∀ j, v9.ownBlock = some j → v7.ownBlock ≠ some j := fun j e e2 => by
        rcases hat6 with h | ⟨j2, h, h2⟩
        · rw [h] at e2
          exact HDI.out j e (Option.some.inj e2).symm
        · have h3 := Option.some.inj (e2.symm.trans h)
          have := hv5 j e
          omega
      clear hP5 hO5 hOt5 hS5 hP6 hat6 hg6
      go_wp2_with fail
      refine ⟨⟨v9, v7, told ++ [s], left' ++ (kidsV t s.n).reverse, rfl, rfl, HNX.out, hO7, hO6, HDIS, hB6⟩, ?_⟩
      show R.length - lenOf v9 < R.length - lenOf u5
      rw [hl9, HLE.out, List.length_append]
      have := HTL.out
      have h3 : [s].length = 1 := rfl
      omega
end Go.Proofs.YtdhcgflblbmogaaDoor

/- The library's contract of strconv.Itoa below 100, laid at this program's numbers. -/
namespace Go.Proofs.YtdhcgflblbmogaaDoor
open Go.Shelf
def Tryd.lays171_ren : Go.Shelf.Ren := ⟨fun | 171 => 40 | 243 => 44 | 246 => 46 | 283 => 47 | 284 => 48 | 285 => 49 | 286 => 50 | 129 => 52 | 317 => 51 | 318 => 53 | 319 => 54 | 320 => 55 | 337 => 56 | 338 => 57 | n => n, fun | 3 => 3 | 9 => 9 | 2 => 2 | 4 => 4 | 171 => 60 | 0 => 0 | 53 => 46 | 37 => 47 | 5 => 5 | 173 => 63 | 212 => 67 | 51 => 68 | 20 => 20 | 213 => 69 | 46 => 57 | 232 => 72 | 233 => 73 | n => n, fun | 17 => 0 | 18 => 1 | 19 => 2 | n => n⟩
theorem Tryd.lays171 : Go.Proofs.Lays.n171 Tryd.prog Tryd.lays171_ren := {
  mixed := by kernel_rfl
  f129 := Tryd.func52.trans (congrArg some (by kernel_rfl))
  f171 := Tryd.func40.trans (congrArg some (by kernel_rfl))
  f243 := Tryd.func44.trans (congrArg some (by kernel_rfl))
  f246 := Tryd.func46.trans (congrArg some (by kernel_rfl))
  f283 := Tryd.func47.trans (congrArg some (by kernel_rfl))
  f284 := Tryd.func48.trans (congrArg some (by kernel_rfl))
  f285 := Tryd.func49.trans (congrArg some (by kernel_rfl))
  f286 := Tryd.func50.trans (congrArg some (by kernel_rfl))
  f317 := Tryd.func51.trans (congrArg some (by kernel_rfl))
  f318 := Tryd.func53.trans (congrArg some (by kernel_rfl))
  f319 := Tryd.func54.trans (congrArg some (by kernel_rfl))
  f320 := Tryd.func55.trans (congrArg some (by kernel_rfl))
  f337 := Tryd.func56.trans (congrArg some (by kernel_rfl))
  f338 := Tryd.func57.trans (congrArg some (by kernel_rfl))
  t0 := Tryd.underlying0
  a0 := Tryd.isAgg0
  z0 := Tryd.sizeOf0
  v0 := Tryd.zeroValue0
  t2 := Tryd.underlying2
  a2 := Tryd.isAgg2
  z2 := Tryd.sizeOf2
  v2 := Tryd.zeroValue2
  t3 := Tryd.underlying3
  a3 := Tryd.isAgg3
  z3 := Tryd.sizeOf3
  v3 := Tryd.zeroValue3
  t4 := Tryd.underlying4
  a4 := Tryd.isAgg4
  z4 := Tryd.sizeOf4
  v4 := Tryd.zeroValue4
  t5 := Tryd.underlying5
  a5 := Tryd.isAgg5
  z5 := Tryd.sizeOf5
  v5 := Tryd.zeroValue5
  t9 := Tryd.underlying9
  a9 := Tryd.isAgg9
  z9 := Tryd.sizeOf9
  v9 := Tryd.zeroValue9
  t20 := Tryd.underlying20
  a20 := Tryd.isAgg20
  z20 := Tryd.sizeOf20
  v20 := Tryd.zeroValue20
  t37 := Tryd.underlying47
  a37 := Tryd.isAgg47
  z37 := Tryd.sizeOf47
  v37 := Tryd.zeroValue47
  t46 := Tryd.underlying57
  a46 := Tryd.isAgg57
  z46 := Tryd.sizeOf57
  v46 := Tryd.zeroValue57
  t51 := Tryd.underlying68
  a51 := Tryd.isAgg68
  z51 := Tryd.sizeOf68
  v51 := Tryd.zeroValue68
  t53 := Tryd.underlying46
  a53 := Tryd.isAgg46
  z53 := Tryd.sizeOf46
  v53 := Tryd.zeroValue46
  t171 := Tryd.underlying60
  a171 := Tryd.isAgg60
  z171 := Tryd.sizeOf60
  v171 := Tryd.zeroValue60
  t173 := Tryd.underlying63
  a173 := Tryd.isAgg63
  z173 := Tryd.sizeOf63
  v173 := Tryd.zeroValue63
  t212 := Tryd.underlying67
  a212 := Tryd.isAgg67
  z212 := Tryd.sizeOf67
  v212 := Tryd.zeroValue67
  t213 := Tryd.underlying69
  a213 := Tryd.isAgg69
  z213 := Tryd.sizeOf69
  t232 := Tryd.underlying72
  a232 := Tryd.isAgg72
  z232 := Tryd.sizeOf72
  v232 := Tryd.zeroValue72
  t233 := Tryd.underlying73
  a233 := Tryd.isAgg73
  z233 := Tryd.sizeOf73
  v233 := Tryd.zeroValue73
  g17 := by kernel_rfl
  g18 := by kernel_rfl
  g19 := by kernel_rfl }
open Go.RowKit Go.Sort Go.Lib in
theorem Tryd.strconv_Itoa_small (i : Nat) (hi : i < 100) (w : World) :
    Calls Tryd.prog 40 #[.int .i64 i] w fun e w' => e = .returned (.string ⟨(Lib.decDigits i).toArray⟩) ∧ w' = w := Any.strconv_Itoa_small Tryd.lays171 i hi w
end Go.Proofs.YtdhcgflblbmogaaDoor

/- A name's twin, of the program. -/
namespace Go.Proofs.YtdhcgflblbmogaaDoor
open Go.RowKit Tre Cod Nam
open Go.Lib (decDigits)

theorem twinOk : TwinOk := by
  intro s n w hn hs
  have HC := Lib.hid (fun w => Tryd.strconv_Itoa_small n hn w)
  have hz := dec_size n (by omega)
  have HT := Lib.hid (show twinOf s n = s ++ ⟨#[126]⟩ ++ ⟨(decDigits n).toArray⟩ from rfl)
  generalize twinOf s n = T at HT ⊢
  generalize (⟨(decDigits n).toArray⟩ : ByteArray) = D at HC HT hz
  go_enter Tryd.func38, Tryd.ntmps38
  go_wp2_with (go_at_call 40; (with_reducible refine (HC.out _).mono ?_); rintro e w1 ⟨rfl, rfl⟩)
  go_ret
  exact ⟨by rw [HT.out]; rfl, rfl⟩
end Go.Proofs.YtdhcgflblbmogaaDoor

/- The program's Show, Trash, Path, Look: what they answer. -/
namespace Go.Proofs.YtdhcgflblbmogaaDoor
open Go.RowKit Tre Cod Nam

theorem tell_no (A : Option Addr) (c : Nat) (t : List Pl) (a : Int) (w : World) (ht : treeB t = false) (hl : t.length ≤ 100) (hsz : ∀ p ∈ t, p.s.size ≤ 9223372036854775807) (hT : plE.Sl w A t) :
    Calls Tryd.prog 24 #[.slice A t.length c, .int .i64 a] w fun e w' => e = .returned (.slice none 0 0) ∧ Below w.heap.size w w' := by
  have hr := right_any A c t w (by omega) hsz (plSl.1 hT)
  rw [ht] at hr
  go_enter Tryd.func24, Tryd.ntmps24
  go_wp2_with fail
  refine hr.mono ?_
  rintro e w1 ⟨rfl, hb⟩
  go_wp2_with fail
  go_ret
  exact ⟨rfl, hb⟩
theorem tell_both (A : Option Addr) (c : Nat) (t : List Pl) (a : Int) (w : World) (hl : t.length ≤ 100) (hsz : ∀ p ∈ t, p.s.size ≤ 9223372036854775807) (hT : plE.Sl w A t) (V : List Pl) (hV : V = if treeB t = true then treeL t a else []) :
    Calls Tryd.prog 24 #[.slice A t.length c, .int .i64 a] w fun e w' => ∃ A' c', e = .returned (.slice A' V.length c') ∧ SlV seE w' A' c' V ∧ Below w.heap.size w w' := by
  cases ht : treeB t
  · rw [ht] at hV
    have hV : V = [] := hV
    subst hV
    exact (tell_no A c t a w ht hl hsz hT).mono fun e w' ⟨he, hb⟩ => ⟨none, 0, he, SlV.nil _ _, hb⟩
  · rw [ht] at hV
    have hV : V = treeL t a := hV
    subst hV
    exact tell_any twinOk A c t a w ht hl hT
theorem pShow_any (A : Option Addr) (c : Nat) (t : List Pl) (w : World) (hl : t.length ≤ 100) (hsz : ∀ p ∈ t, p.s.size ≤ 9223372036854775807) (hT : plE.Sl w A t) :
    Calls Tryd.prog 11 #[.slice A t.length c] w fun e w' => ∃ A' c', e = .returned (.slice A' (showV t).length c') ∧ SlV seE w' A' c' (showV t) ∧ Below w.heap.size w w' := by
  have H := tell_both A c t 0 w hl hsz hT (showV t) rfl
  go_enter Tryd.func11, Tryd.ntmps11
  go_wp2_with fail
  refine H.mono ?_
  rintro e w1 ⟨A', c', rfl, hS, hb⟩
  go_wp2_with fail
  go_ret
  exact ⟨A', c', rfl, hS, hb⟩
theorem pTrash_any (A : Option Addr) (c : Nat) (t : List Pl) (w : World) (hl : t.length ≤ 100) (hsz : ∀ p ∈ t, p.s.size ≤ 9223372036854775807) (hT : plE.Sl w A t) :
    Calls Tryd.prog 13 #[.slice A t.length c] w fun e w' => ∃ A' c', e = .returned (.slice A' (trashV t).length c') ∧ SlV seE w' A' c' (trashV t) ∧ Below w.heap.size w w' := by
  have H := tell_both A c t 1 w hl hsz hT (trashV t) rfl
  go_enter Tryd.func13, Tryd.ntmps13
  go_wp2_with fail
  refine H.mono ?_
  rintro e w1 ⟨A', c', rfl, hS, hb⟩
  go_wp2_with fail
  go_ret
  exact ⟨A', c', rfl, hS, hb⟩

set_option maxRecDepth 100000 in
set_option maxHeartbeats 4000000 in
theorem pathTo_any (A : Option Addr) (c : Nat) (l : List Pl) (node : Int) (w : World) (hsh : ShownL l) (hl : l.length ≤ 100) (hS : seE.Sl w A l) :
    Calls Tryd.prog 23 #[.slice A l.length c, .int .i64 node] w fun e w' => e = .returned (.string (pathL l node)) ∧ w = w' := by
  have hstart := hsh.start node
  obtain ⟨R, hR⟩ : ∃ R, pathL l node = R := ⟨_, rfl⟩
  rw [hR] at hstart ⊢
  have HSH := Lib.hid hsh
  have HS := Lib.hid hS
  clear hR hS hsh
  go_enter Tryd.func23, Tryd.ntmps23
  go_wp2_with fail
  go_loopw [1, 5, 6] (fun n s y wr => ∃ (S : ByteArray) (x : Int) (k : Nat) (i : Int), k ≤ l.length ∧ y = .int .i64 i ∧ i = (k : Int) - 1 ∧ s = .string S ∧ n = .int .i64 x ∧ ((∃ m, m ≤ k ∧ AtM l m x ∧ R = pathF l m x ++ S ∧ S.size + 38 * m ≤ 3800) ∨ ((∀ i (hi : i < l.length), l[i].n ≠ x) ∧ R = ⟨#[]⟩ ∧ S = ⟨#[]⟩)) ∧ w = wr) (fun _ _ y _ => (intOf y + 1).toNat)
  case atStart =>
    refine ⟨⟨#[]⟩, node, l.length, _, Nat.le_refl _, rfl, (by first | omega | rfl | (rw [IntKind.wrap_i64]; omega) | (rw [wrap64_in _ (by omega)])), rfl, rfl, ?_, rfl⟩
    rcases hstart with ⟨m, h1, h2⟩ | ⟨h1, h2, h3⟩
    · refine Or.inl ⟨m, h1.le, h1, by rw [h2, bempty], ?_⟩
      have := h1.le
      have h0 : (ByteArray.mk #[]).size = 0 := rfl
      omega
    · exact Or.inr ⟨h1, h3, rfl⟩
  case round =>
    clear hstart
    obtain ⟨S, x, k, i, hk, rfl, hi, rfl, rfl, hst, rfl⟩ := hrel
    cases k with
    | zero =>
      have hneg : ¬ 0 ≤ i := by omega
      have hRS : R = S := by
        rcases hst with ⟨m, h0, h1, h2, _⟩ | ⟨_, h2, h3⟩
        · obtain rfl : m = 0 := by omega
          rw [h2]; exact empty_b _
        · rw [h2, h3]
      have HR := Lib.hid hRS
      have HI := Lib.hid hi
      clear hst hRS hi
      go_wp2_with fail
      go_ret
      exact ⟨by rw [HR.out]; rfl, rfl⟩
    | succ j =>
      obtain rfl : i = (j : Int) := by omega
      have HI := Lib.hid hi
      have hjl : j < l.length := by omega
      obtain ⟨b, off, hA, hbw, hc⟩ := HS.out (by omega)
      have hat : seE.At w b (off + j * 3) l[j] := hc j hjl
      have HST := Lib.hid hst
      clear hi hst hc
      subst hA
      by_cases he : l[j].n = x
      · have hS1 : ∃ m, m ≤ j ∧ AtM l m l[j].u ∧ R = pathF l m l[j].u ++ ((⟨#[47]⟩ ++ l[j].s) ++ S) ∧ ((⟨#[47]⟩ ++ l[j].s) ++ S).size + 38 * m ≤ 3800 ∧ S.size ≤ 3800 := by
          rcases HST.out with ⟨m0, h0, h1, h2, h3⟩ | ⟨h1, _, _⟩
          · obtain ⟨m, g1, g2, g3⟩ := HSH.out.up j hjl
            have hm0 : m0 = j + 1 := by
              rcases h1 with ⟨e, _⟩ | ⟨i, hi, e1, e2⟩
              · exact absurd (he.trans e) (HSH.out.nz _ (List.getElem_mem hjl))
              · rcases Nat.lt_trichotomy i j with h | h | h
                · exact absurd (e2.trans he.symm) (nodup_at HSH.out.nd h hjl)
                · omega
                · exact absurd (he.trans e2.symm) (nodup_at HSH.out.nd h hi)
            subst hm0
            have hsz := HSH.out.sz _ (List.getElem_mem hjl)
            refine ⟨m, g1, g2, by rw [h2, ← he, g3, ByteArray.append_assoc], ?_, by omega⟩
            have h0 : (ByteArray.mk #[47]).size = 1 := rfl
            simp only [ByteArray.size_append]
            omega
          · exact absurd he (h1 j hjl)
        have hsz := HSH.out.sz _ (List.getElem_mem hjl)
        obtain ⟨q, hq⟩ : ∃ q, l[j] = q := ⟨_, rfl⟩
        rw [hq] at hS1 hsz he hat
        obtain ⟨m, g1, g2, g3, g4, g5⟩ := hS1
        have he1 : (q.n == x) = true := by rw [he]; exact beq_self_eq_true _
        have HG := Lib.hid (And.intro g3 g4)
        obtain ⟨a0, a1, a2⟩ := seAt3 hat
        have h1s : (ByteArray.mk #[47]).size = 1 := rfl
        have h2s : (⟨#[47]⟩ ++ q.s : ByteArray).size ≤ 38 := by rw [ByteArray.size_append]; omega
        have HQ := Lib.hid hq
        have HEE := Lib.hid he
        clear hq hat he g3 g4 HST
        go_wp2_with fail
        exact ⟨⟨_, q.u, j, _, by omega, rfl, (by first | omega | rfl | (rw [IntKind.wrap_i64]; omega) | (rw [wrap64_in _ (by omega)])), rfl, rfl, Or.inl ⟨m, g1, g2, HG.out.1, HG.out.2⟩, trivial⟩, by simp [intOf]⟩
      · have HNX := Lib.hid (show (∃ m, m ≤ j ∧ AtM l m x ∧ R = pathF l m x ++ S ∧ S.size + 38 * m ≤ 3800) ∨ ((∀ i (hi : i < l.length), l[i].n ≠ x) ∧ R = ⟨#[]⟩ ∧ S = ⟨#[]⟩) from by
          rcases HST.out with ⟨m0, h0, h1, h2, h3⟩ | h
          · refine Or.inl ⟨m0, ?_, h1, h2, h3⟩
            rcases h1 with ⟨_, e⟩ | ⟨i, hi, e1, e2⟩
            · omega
            · have : i ≠ j := fun e => he (by subst e; exact e2)
              omega
          · exact Or.inr h)
        obtain ⟨q, hq⟩ : ∃ q, l[j] = q := ⟨_, rfl⟩
        rw [hq] at hat he
        obtain ⟨a0, a1, a2⟩ := seAt3 hat
        have he1 : (q.n == x) = false := beq_eq_false_iff_ne.2 he
        clear hq hat HST
        go_wp2_with fail
        exact ⟨⟨S, x, j, _, by omega, rfl, (by first | omega | rfl | (rw [IntKind.wrap_i64]; omega) | (rw [wrap64_in _ (by omega)])), rfl, rfl, HNX.out, trivial⟩, by simp [intOf]⟩

theorem showV_len (t : List Pl) (hl : t.length ≤ 100) : (showV t).length ≤ 100 := by
  unfold showV
  by_cases h : treeB t = true
  · rw [if_pos h]; exact Nat.le_trans ((treeP h).below_len _ _) hl
  · rw [if_neg h]; exact Nat.zero_le _
theorem pPath_any (A : Option Addr) (c : Nat) (t : List Pl) (node : Int) (w : World) (ht : treeB t = true) (hl : t.length ≤ 100) (hT : plE.Sl w A t) :
    Calls Tryd.prog 16 #[.slice A t.length c, .int .i64 node] w fun e w' => e = .returned (.string (pathL (showV t) node)) ∧ Below w.heap.size w w' := by
  have H := pShow_any A c t w hl (fun p hp => by have := (tree_fit ht p hp).s; omega) hT
  have H2 := fun A' c' wx h => pathTo_any A' c' (showV t) node wx (shownV t) (showV_len t hl) h
  generalize showV t = l at *
  go_enter Tryd.func16, Tryd.ntmps16
  go_wp2_with fail
  refine H.mono ?_
  rintro e w1 ⟨A', c', rfl, hS, hb⟩
  go_wp2_with fail
  refine (H2 A' c' w1 hS.1).mono ?_
  rintro e w2 ⟨rfl, rfl⟩
  go_wp2_with fail
  go_ret
  exact ⟨rfl, hb⟩

/-- No node that is shown has an empty path. -/
theorem ShownL.some {l : List Pl} (h : ShownL l) (i : Nat) (hi : i < l.length) : pathL l l[i].n ≠ ⟨#[]⟩ := fun e => by
  obtain ⟨m, _, _, e2⟩ := h.up i hi
  unfold pathL at e
  rw [h.at i i hi (Nat.le_refl _) l.length hi, e2] at e
  have h1 := congrArg ByteArray.size e
  have h0 : (ByteArray.mk #[47]).size = 1 := rfl
  have h2 : (ByteArray.mk #[]).size = 0 := rfl
  simp only [ByteArray.size_append] at h1
  omega

set_option maxRecDepth 100000 in
set_option maxHeartbeats 4000000 in
theorem pLook_any (A : Option Addr) (c : Nat) (t : List Pl) (P : ByteArray) (w : World) (hl : t.length ≤ 100) (hsz : ∀ p ∈ t, p.s.size ≤ 9223372036854775807) (hT : plE.Sl w A t) :
    Calls Tryd.prog 8 #[.slice A t.length c, .string P] w fun e w' => e = .returned (.tuple #[.int .i64 (lookV t P).1, .bool (lookV t P).2]) ∧ Below w.heap.size w w' := by
  have hlen := showV_len t hl
  have HSHOW := Lib.hid (pShow_any A c t w hl hsz hT)
  have HRIGHT := Lib.hid (right_any A c t w (by omega) hsz (plSl.1 hT))
  have HV := Lib.hid (show lookV t P = match (showV t).find? (fun q => decide (pathL (showV t) q.n = P)) with
    | some q => (q.n, true)
    | none => (0, decide (P = ⟨#[]⟩) && treeB t) from rfl)
  have HSH := Lib.hid (shownV t)
  generalize lookV t P = V at *
  generalize showV t = l at *
  clear hsz hT
  by_cases hP : P = ⟨#[]⟩
  · have hnone : l.find? (fun q => decide (pathL l q.n = P)) = none := by
      rw [List.find?_eq_none]
      intro q hq
      obtain ⟨i, hi, rfl⟩ := List.getElem_of_mem hq
      rw [hP]
      simpa using HSH.out.some i hi
    have hv := HV.out
    rw [hnone] at hv
    have HVF := Lib.hid (show V = (0, treeB t) from by rw [hv]; simp [hP])
    clear hv hnone HV
    subst hP
    go_enter Tryd.func8, Tryd.ntmps8
    go_wp2_with fail
    refine HRIGHT.out.mono ?_
    rintro e w2 ⟨rfl, hb2⟩
    go_wp2_with fail
    go_ret2
    refine ⟨?_, hb2⟩
    have hv := HVF.out
    clear HVF
    subst hv
    rfl
  · have h1 : P.toList.isEmpty = false := by
      rcases h : P.toList with _ | ⟨x, r⟩
      · exfalso; apply hP
        have := ne_list hP
        rw [h] at this
        exact absurd (Lib.toList_data ⟨#[]⟩).symm this
      · rfl
    have h2 : ¬ P.toList = [] := fun h => by rw [h] at h1; cases h1
    have HNP := Lib.hid hP
    clear hP
    go_enter Tryd.func8, Tryd.ntmps8
    go_wp2_with fail
    refine HSHOW.out.mono ?_
    rintro e w1 ⟨A1, c1, rfl, hS1, hB⟩
    clear HSHOW
    have hS := hS1.1
    clear hS1
    go_wp2_with fail
    go_loopw [17] (fun y wr => ∃ j : Nat, j ≤ l.length ∧ y = .int .i64 j ∧ (∀ i (hi : i < l.length), i < j → pathL l l[i].n ≠ P) ∧ Below w.heap.size w wr ∧ seE.Sl wr A1 l) (fun y _ => l.length - (intOf y).toNat)
    case atStart => exact ⟨0, Nat.zero_le _, rfl, (fun i _ h => by omega), hB, hS⟩
    case round =>
      clear hB hS
      obtain ⟨j, hj, rfl, hno, hB, hS⟩ := hrel
      by_cases hjl : j < l.length
      · have HS := Lib.hid hS
        obtain ⟨b, off, rfl, hbw, hc⟩ := hS (by omega)
        have hat : seE.At wr b (off + j * 3) l[j] := hc j hjl
        have HNO := Lib.hid (show ¬ pathL l l[j].n = P → ∀ i (hi : i < l.length), i < j + 1 → pathL l l[i].n ≠ P from fun he i hi h => by
          by_cases e : i = j
          · subst e; exact he
          · exact hno i hi (by omega))
        have HYES := Lib.hid (show pathL l l[j].n = P → l.find? (fun q => decide (pathL l q.n = P)) = some l[j] from fun he => by
          rw [List.find?_eq_some_iff_append]
          refine ⟨by simpa using he, l.take j, l.drop (j + 1), ?_, fun x hx => ?_⟩
          · rw [← List.drop_eq_getElem_cons hjl, List.take_append_drop]
          · obtain ⟨i, hi, rfl⟩ := List.getElem_of_mem hx
            rw [List.length_take] at hi
            rw [List.getElem_take]
            simpa using hno i (by omega) (by omega))
        obtain ⟨q, hq⟩ : ∃ q, l[j] = q := ⟨_, rfl⟩
        rw [hq] at hat HNO HYES
        have hz0 : seE.In (wr.alloc (.cells #[.int .i64 0, .int .i64 0, .string ⟨#[]⟩] 36)) wr.heap.size zero := El.In.new (E := seE) wr zero #[.int .i64 0, .int .i64 0, .string ⟨#[]⟩] rfl
        have hQ := hz0.set q #[.int .i64 q.n, .int .i64 q.u, .string q.s] rfl
        have hbz : Below wr.heap.size wr ((wr.alloc (.cells #[.int .i64 0, .int .i64 0, .string ⟨#[]⟩] 36)).setRow wr.heap.size #[.int .i64 q.n, .int .i64 q.u, .string q.s]) := below_setRow (below_alloc (Below.refl _ _) _) (Nat.le_refl _) _
        obtain ⟨p0, p1, p2⟩ := seIn3 hQ
        have HW := Lib.hid (hS.below hbz)
        have CP := pathTo_any (some ⟨b, off, none⟩) c1 l q.n _ HSH.out (by omega) (hS.below hbz)
        obtain ⟨S, hSe⟩ : ∃ S, pathL l q.n = S := ⟨_, rfl⟩
        rw [hSe] at CP HNO HYES
        have HCP := Lib.hid CP
        clear CP hSe hno hq hc
        go_wp2_with (first | (refine El.load seRow rfl _ rfl b (off + j * 3) rfl q hat #[.int .i64 q.n, .int .i64 q.u, .string q.s] rfl ?_) | (refine El.store seRow rfl _ _ rfl wr.heap.size q #[.int .i64 q.n, .int .i64 q.u, .string q.s] rfl rfl rfl zero hz0 ?_) | fail)
        refine HCP.out.mono ?_
        rintro e w2 ⟨rfl, rfl⟩
        have hB2 := hB.trans (hbz.mono hB.size)
        clear HCP hB hbz hS HS hat
        by_cases he : S = P
        · have HVE := Lib.hid (show V = (q.n, true) from by rw [HV.out, HYES.out he])
          subst he
          go_wp2_with fail
          go_ret2
          refine ⟨?_, hB2⟩
          have hv := HVE.out
          clear HV HVE
          subst hv
          rfl
        · have HH := Lib.hid (HNO.out he)
          have h1 := ne_beq he
          have h2 := ne_list he
          go_wp2_with fail
          exact ⟨⟨j + 1, by omega, by go_num, HH.out, hB2, HW.out⟩, by simp [intOf]; omega⟩
      · obtain rfl : j = l.length := by omega
        have hnone : l.find? (fun q => decide (pathL l q.n = P)) = none := by
          rw [List.find?_eq_none]
          intro q hq
          obtain ⟨i, hi, rfl⟩ := List.getElem_of_mem hq
          simpa using hno i hi hi
        have hv := HV.out
        rw [hnone] at hv
        have HVF := Lib.hid (show V = (0, false) from by rw [hv]; simp [HNP.out])
        clear hno hnone hv
        go_wp2_with fail
        go_ret2
        refine ⟨?_, hB⟩
        have hv := HVF.out
        clear HV HVF
        subst hv
        rfl
end Go.Proofs.YtdhcgflblbmogaaDoor

/- The frame of a law that reads its arguments, makes memory of its own, and answers true: its row's end, out of 'Below' alone. -/
namespace Go.Proofs.YtdhcgflblbmogaaDoor.Frm
open Go.ChangeShapes Go.WideShapes Go.ChangeAt Go.RowKit

section
variable {H : Type} {enc : TypeId × Value → H} {P : Program}

/-- Each type of a list can be read, and is a row of the table. -/
def rowed (P : Program) (ts : List TypeId) : Bool := ts.all fun t => P.readableRec t && decide (t < P.types.size)

theorem trodAll_below (hl : laidOutB P = true) {W W' : World} (hb : Below W.heap.size W W') (sp : Nat → Bool) :
    ∀ {ts : List TypeId} {vs : List Value} {ds : List (DataW H)} {ps : List MemPlace}, rowed P ts = true → DataW.TrodAll enc P W 0 (fun _ => true) true ts vs ds ps → (∀ p ∈ ps, p.block < W.heap.size) → (∀ p ∈ ps, sp p.block = true) →
      DataW.TrodAll enc P W' 0 sp true ts vs ds ps
  | [], [], [], _, _, h, _, _ => h
  | [], [], _ :: _, _, _, h, _, _ => h.elim
  | [], _ :: _, _, _, _, h, _, _ => h.elim
  | _ :: _, [], _, _, _, h, _, _ => h.elim
  | _ :: _, _ :: _, [], _, _, h, _, _ => h.elim
  | t :: ts, v :: vs, d :: ds, ps, hr, h, hlt, hsp => by
    obtain ⟨p, q, h1, h2, rfl⟩ := h
    simp only [rowed, List.all_cons, Bool.and_eq_true, decide_eq_true_iff] at hr
    refine ⟨p, q, ?_, trodAll_below hl hb sp (by simpa [rowed] using hr.2) h2 (fun x hx => hlt x (by simp [hx])) (fun x hx => hsp x (by simp [hx])), rfl⟩
    exact WideElems.Trod_stays hl hr.1.1 hr.1.2 h1 (fun x hx => hb.same (hlt x (by simp [hx]))) (fun x hx => hsp x (by simp [hx]))

/-- THE ROW's END: what was there has not turned, the answer is true, the arguments read as they did. -/
theorem law_post {f : Func} {s : ChangeSpec} {apart fresh handsOn again : Bool} {W W' : World} {args : Array Value} {ds gs : List (DataW H)} {before : List MemPlace} {tb : TypeId}
    (hl : laidOutB P = true) (hrow : rowed P f.params.toList = true) (hres : f.resultTypes = #[tb]) (hbool : P.underlying tb = some .bool) (hvars : s.vars = [])
    (hspec : s.fn H ds = { results := [.lit (.bool true)], args := ds })
    (hW : DataW.Whole enc P f.params.toList s.vars apart W args.toList ds gs before) (hb : Below W.heap.size W W') :
    s.post enc P f apart fresh handsOn again W args (.bool true) W' := by
  have hlt : ∀ p ∈ before, p.block < W.heap.size := fun p hp => hW.lt p hp
  have hold : ∀ p ∈ before, (fun b => decide (b < W.heap.size)) p.block = true := fun p hp => by simpa using hlt p hp
  obtain ⟨p, q, hA, hV, hpq, hfz, hnd⟩ := hW
  have hgs : gs = [] ∧ q = [] := by rw [hvars] at hV; exact trodVars_none hV
  obtain ⟨rfl, rfl⟩ := hgs
  rw [List.append_nil] at hpq
  subst hpq
  have hs2 : (s.fn H (ds ++ [])).results = [.lit (.bool true)] := by rw [List.append_nil, hspec]
  have hs3 : (s.fn H (ds ++ [])).args = ds := by rw [List.append_nil, hspec]
  have hs4 : (s.fn H (ds ++ [])).vars = [] := by rw [List.append_nil, hspec]
  have hargs : ∀ sp : Nat → Bool, (∀ p ∈ before, sp p.block = true) → DataW.TrodAll enc P W' 0 sp true f.params.toList args.toList (s.fn H (ds ++ [])).args before := by
    intro sp hsp
    rw [hs3]
    exact trodAll_below hl hb sp hrow hA hlt hsp
  have hR : ∀ (b : Nat) (sp : Nat → Bool) (hd : Bool), DataW.TrodAll enc P W' b sp hd f.resultTypes.toList ((Value.bool true).resultList f.resultTypes.size) (s.fn H (ds ++ [])).results [] := by
    intro b sp hd
    rw [hs2, hres]
    exact trodAll_mk1 (shut_bool hbool true)
  have hvr : ∀ sp : Nat → Bool, DataW.TrodVars enc P W' sp s.vars (s.fn H (ds ++ [])).vars [] := by
    intro sp; rw [hs4, hvars]; rfl
  have hW0 : DataW.Whole enc P f.params.toList s.vars apart W args.toList ds [] before := ⟨before, [], hA, hV, by simp, hfz, hnd⟩
  refine ⟨ds, [], before, [], before, [], hW0, hR _ _ _, hargs _ hold, hvr _, World.keptBut_mono (fun p hp => ⟨hp, by simpa using hp⟩) (hb.frame (· ∈ before)), fun _ => ?_⟩
  refine ⟨ok_one hres rfl (okWide_bool_mk hbool true), _, _, ([] ++ before) ++ [], ⟨[] ++ before, [], trodAll_append (hargs _ (fun _ _ => rfl)) (hR _ _ _), hvr _, rfl, ?_, ?_⟩, ?_⟩
  · intro b off hp
    have hin : MemPlace.cell b off ∈ before := by simpa using hp
    rw [hb.frozen (hlt _ hin)]
    exact hfz b off hin
  · intro ha
    simpa using hnd ha
  · intro p hp _
    simpa using hp

end
end Go.Proofs.YtdhcgflblbmogaaDoor.Frm

/- How words and texts among the arguments of the laws are opened. -/
namespace Go.Proofs.YtdhcgflblbmogaaDoor
open Go.ChangeShapes Go.WideShapes Go.ChangeAt Go.RowKit Go.Deep

theorem own : ownKnob Tryd.prog.godebug = none := by kernel_rfl
theorem cells3 : Tryd.prog.cellsOf 3 = 1 := by kernel_rfl
theorem cells4 : Tryd.prog.cellsOf 4 = 1 := by kernel_rfl
theorem cells5 : Tryd.prog.cellsOf 5 = 1 := by kernel_rfl
theorem cells9 : Tryd.prog.cellsOf 9 = 1 := by kernel_rfl

set_option maxRecDepth 100000 in
theorem open_str {H : Type} {enc : TypeId × Value → H} {W : World} {base : Nat} {sp : Nat → Bool} {v : Value} {d : DataW H} {ps : List MemPlace}
    (hv : Value.okWide Tryd.prog W .any base 9 v) (h : DataW.Trod enc Tryd.prog W 0 sp true 9 v d ps) : ∃ s : ByteArray, v = .string s ∧ s.size ≤ maxLen := by
  obtain ⟨s, rfl, _, _, hs⟩ := ChangeMaps.open_string Tryd.underlying9 hv h
  exact ⟨s, rfl, hs⟩

set_option maxRecDepth 100000 in
theorem open_i64 {H : Type} {enc : TypeId × Value → H} {W : World} {base : Nat} {sp : Nat → Bool} {v : Value} {d : DataW H} {ps : List MemPlace}
    (hv : Value.okWide Tryd.prog W .any base 3 v) (h : DataW.Trod enc Tryd.prog W 0 sp true 3 v d ps) : ∃ n : Int, v = .int .i64 n ∧ i64 n := by
  obtain ⟨a, rfl, _, _, wf⟩ := open_int Tryd.underlying3 hv h
  have hb := bounds_i64 wf
  exact ⟨a, rfl, by omega, by omega⟩

end Go.Proofs.YtdhcgflblbmogaaDoor
