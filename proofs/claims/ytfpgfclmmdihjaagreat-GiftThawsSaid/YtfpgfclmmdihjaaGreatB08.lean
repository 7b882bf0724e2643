/- Texts laid one behind the other: Py, Pz, Ba, Bb, Pt, Pu, Bc, Bd, Be, Bf. -/
import Derived.Test.YtfpgfclmmdihjaaGreatB07
import Derived.Lib.Overlaps
import Derived.Lib.AppendZerosOnto
import Derived.Deep.RegionLaw
import Derived.Deep.CutRange
/- The program's Newer and Wanted of gifts. -/
namespace Go.Proofs.YtfpgfclmmdihjaaGreat
open Go.RowKit Nam Cod Tre Pst

set_option maxRecDepth 100000 in
set_option maxHeartbeats 2000000 in
theorem pNewerG_any (a b : Gf) (w : World) : Calls Tryz.prog 32 #[.agg #[.int .i64 a.d, .int .i64 a.i, .int .i64 a.c, .int .i64 a.t, .string a.s], .agg #[.int .i64 b.d, .int .i64 b.i, .int .i64 b.c, .int .i64 b.t, .string b.s]] w fun e w' => e = .returned (.bool (newG a b)) ∧ Below w.heap.size w w' := by
  have hP : gfE.In ((w.alloc (.cells #[.int .i64 a.d, .int .i64 a.i, .int .i64 a.c, .int .i64 a.t, .string a.s] 47)).alloc (.cells #[.int .i64 b.d, .int .i64 b.i, .int .i64 b.c, .int .i64 b.t, .string b.s] 47)) w.heap.size a := (El.In.new (E := gfE) w a _ rfl).alloc _
  have hQ : gfE.In ((w.alloc (.cells #[.int .i64 a.d, .int .i64 a.i, .int .i64 a.c, .int .i64 a.t, .string a.s] 47)).alloc (.cells #[.int .i64 b.d, .int .i64 b.i, .int .i64 b.c, .int .i64 b.t, .string b.s] 47)) (w.heap.size + 1) b := by
    have h := El.In.new (E := gfE) (w.alloc (.cells #[.int .i64 a.d, .int .i64 a.i, .int .i64 a.c, .int .i64 a.t, .string a.s] 47)) b _ rfl
    rw [alloc_size] at h; exact h
  have hB := below_alloc (below_alloc (Below.refl w.heap.size w) (.cells #[.int .i64 a.d, .int .i64 a.i, .int .i64 a.c, .int .i64 a.t, .string a.s] 47)) (.cells #[.int .i64 b.d, .int .i64 b.i, .int .i64 b.c, .int .i64 b.t, .string b.s] 47)
  obtain ⟨_, p1, p2, p3, _⟩ := gfIn5 hP
  obtain ⟨_, q1, q2, q3, _⟩ := gfIn5 hQ
  clear hP hQ
  cases h2 : decide (a.i = b.i) with
  | false =>
    have e2 : (a.i == b.i) = false := h2
    have e2b : (a.i != b.i) = true := by simp [bne, e2]
    have e2c : decide (¬ a.i = b.i) = true := by simpa using h2
    cases h1 : decide (b.i < a.i) with
    | true =>
      have hv : newG a b = true := by unfold newG; rw [h1]; rfl
      rw [hv]
      clear hv
      go_enter Tryz.func32, Tryz.ntmps32
      go_upto_region 1 with fail
      generalize (w.alloc (.cells #[.int .i64 a.d, .int .i64 a.i, .int .i64 a.c, .int .i64 a.t, .string a.s] 47)).alloc (.cells #[.int .i64 b.d, .int .i64 b.i, .int .i64 b.c, .int .i64 b.t, .string b.s] 47) = W at *
      generalize w.heap.size + 1 = n2 at *
      go_wp2_with fail
      go_ret
      exact ⟨rfl, hB⟩
    | false =>
      have hv : newG a b = false := by unfold newG; rw [h1, h2]; rfl
      rw [hv]
      clear hv
      go_enter Tryz.func32, Tryz.ntmps32
      go_upto_region 1 with fail
      generalize (w.alloc (.cells #[.int .i64 a.d, .int .i64 a.i, .int .i64 a.c, .int .i64 a.t, .string a.s] 47)).alloc (.cells #[.int .i64 b.d, .int .i64 b.i, .int .i64 b.c, .int .i64 b.t, .string b.s] 47) = W at *
      generalize w.heap.size + 1 = n2 at *
      go_wp2_with fail
      go_ret
      exact ⟨rfl, hB⟩
  | true =>
    have e2 : (a.i == b.i) = true := h2
    have e2b : (a.i != b.i) = false := by simp [bne, e2]
    have e2c : decide (¬ a.i = b.i) = false := by simpa using h2
    have h1 : decide (b.i < a.i) = false := by have := of_decide_eq_true h2; exact decide_eq_false (by omega)
    cases h3 : decide (a.t = 0) with
    | true =>
      have hv : newG a b = true := by unfold newG; rw [h1, h2, h3]; rfl
      have e3 : (a.t == 0) = true := h3
      rw [hv]
      clear hv
      go_enter Tryz.func32, Tryz.ntmps32
      go_upto_region 1 with fail
      generalize (w.alloc (.cells #[.int .i64 a.d, .int .i64 a.i, .int .i64 a.c, .int .i64 a.t, .string a.s] 47)).alloc (.cells #[.int .i64 b.d, .int .i64 b.i, .int .i64 b.c, .int .i64 b.t, .string b.s] 47) = W at *
      generalize w.heap.size + 1 = n2 at *
      go_wp2_with fail
      go_ret
      exact ⟨rfl, hB⟩
    | false =>
      have e3 : (a.t == 0) = false := h3
      by_cases h4 : b.t = 0
      · have hv : newG a b = false := by unfold newG; rw [h1, h2, h3, decide_eq_false (show ¬ b.t ≠ 0 from fun h => h h4)]; rfl
        have e4 : (b.t == 0) = true := beq_iff_eq.2 h4
        have e5 : (b.t != 0) = false := by simp [h4]
        have e6 : decide (b.t = 0) = true := decide_eq_true h4
        have e7 : decide (¬ b.t = 0) = false := by simp [h4]
        clear h4
        rw [hv]
        clear hv
        go_enter Tryz.func32, Tryz.ntmps32
        go_upto_region 1 with fail
        generalize (w.alloc (.cells #[.int .i64 a.d, .int .i64 a.i, .int .i64 a.c, .int .i64 a.t, .string a.s] 47)).alloc (.cells #[.int .i64 b.d, .int .i64 b.i, .int .i64 b.c, .int .i64 b.t, .string b.s] 47) = W at *
        generalize w.heap.size + 1 = n2 at *
        go_wp2_with fail
        go_ret
        exact ⟨rfl, hB⟩
      · have hv : newG a b = decide (b.c ≤ a.c) := by unfold newG; rw [h1, h2, h3, decide_eq_true (show b.t ≠ 0 from h4)]; rfl
        have e4 : (b.t == 0) = false := beq_eq_false_iff_ne.2 h4
        have e5 : (b.t != 0) = true := by simp [h4]
        have e6 : decide (b.t = 0) = false := decide_eq_false h4
        have e7 : decide (¬ b.t = 0) = true := by simp [h4]
        clear h4
        rw [hv]
        clear hv
        go_enter Tryz.func32, Tryz.ntmps32
        go_upto_region 1 with fail
        generalize (w.alloc (.cells #[.int .i64 a.d, .int .i64 a.i, .int .i64 a.c, .int .i64 a.t, .string a.s] 47)).alloc (.cells #[.int .i64 b.d, .int .i64 b.i, .int .i64 b.c, .int .i64 b.t, .string b.s] 47) = W at *
        generalize w.heap.size + 1 = n2 at *
        go_wp2_with fail
        go_ret
        exact ⟨rfl, hB⟩

def needV (g : Gf) (r : Rp) : Bool := decide (g.i < r.i) || (decide (r.i = g.i) && (decide (r.m = 1) || (decide (g.t ≠ 0) && decide (g.c < r.k))))
theorem outG_need (g : Gf) (r : Rp) : outG g r = (decide (r.d = g.d) && needV g r) := rfl
set_option maxRecDepth 100000 in
set_option maxHeartbeats 2000000 in
theorem pNeedless_any (g : Gf) (r : Rp) (w : World) : Calls Tryz.prog 35 #[.agg #[.int .i64 g.d, .int .i64 g.i, .int .i64 g.c, .int .i64 g.t, .string g.s], .agg #[.int .i64 r.d, .int .i64 r.i, .int .i64 r.b, .int .i64 r.t, .int .i64 r.m, .int .i64 r.p, .int .i64 r.c, .int .i64 r.s, .int .i64 r.k]] w fun e w' => e = .returned (.bool (needV g r)) ∧ Below w.heap.size w w' := by
  have hP : gfE.In ((w.alloc (.cells #[.int .i64 g.d, .int .i64 g.i, .int .i64 g.c, .int .i64 g.t, .string g.s] 47)).alloc (.cells #[.int .i64 r.d, .int .i64 r.i, .int .i64 r.b, .int .i64 r.t, .int .i64 r.m, .int .i64 r.p, .int .i64 r.c, .int .i64 r.s, .int .i64 r.k] 24)) w.heap.size g := (El.In.new (E := gfE) w g _ rfl).alloc _
  have hQ : rpE.In ((w.alloc (.cells #[.int .i64 g.d, .int .i64 g.i, .int .i64 g.c, .int .i64 g.t, .string g.s] 47)).alloc (.cells #[.int .i64 r.d, .int .i64 r.i, .int .i64 r.b, .int .i64 r.t, .int .i64 r.m, .int .i64 r.p, .int .i64 r.c, .int .i64 r.s, .int .i64 r.k] 24)) (w.heap.size + 1) r := by
    have h := El.In.new (E := rpE) (w.alloc (.cells #[.int .i64 g.d, .int .i64 g.i, .int .i64 g.c, .int .i64 g.t, .string g.s] 47)) r _ rfl
    rw [alloc_size] at h; exact h
  have hB := below_alloc (below_alloc (Below.refl w.heap.size w) (.cells #[.int .i64 g.d, .int .i64 g.i, .int .i64 g.c, .int .i64 g.t, .string g.s] 47)) (.cells #[.int .i64 r.d, .int .i64 r.i, .int .i64 r.b, .int .i64 r.t, .int .i64 r.m, .int .i64 r.p, .int .i64 r.c, .int .i64 r.s, .int .i64 r.k] 24)
  obtain ⟨_, p1, p2, p3, _⟩ := gfIn5 hP
  obtain ⟨_, q1, _, _, q4, _, _, _, q8⟩ := rpIn9 hQ
  clear hP hQ
  cases h2 : decide (r.i = g.i) with
  | false =>
    have e2 : (r.i == g.i) = false := h2
    have e2b : (r.i != g.i) = true := by simp [bne, e2]
    have e2c : decide (¬ r.i = g.i) = true := by simpa using h2
    cases h1 : decide (g.i < r.i) with
    | true =>
      have hv : needV g r = true := by unfold needV; rw [h1]; rfl
      rw [hv]
      clear hv
      go_enter Tryz.func35, Tryz.ntmps35
      go_upto_region 1 with fail
      generalize (w.alloc (.cells #[.int .i64 g.d, .int .i64 g.i, .int .i64 g.c, .int .i64 g.t, .string g.s] 47)).alloc (.cells #[.int .i64 r.d, .int .i64 r.i, .int .i64 r.b, .int .i64 r.t, .int .i64 r.m, .int .i64 r.p, .int .i64 r.c, .int .i64 r.s, .int .i64 r.k] 24) = W at *
      generalize w.heap.size + 1 = n2 at *
      go_wp2_with fail
      go_ret
      exact ⟨rfl, hB⟩
    | false =>
      have hv : needV g r = false := by unfold needV; rw [h1, h2]; rfl
      rw [hv]
      clear hv
      go_enter Tryz.func35, Tryz.ntmps35
      go_upto_region 1 with fail
      generalize (w.alloc (.cells #[.int .i64 g.d, .int .i64 g.i, .int .i64 g.c, .int .i64 g.t, .string g.s] 47)).alloc (.cells #[.int .i64 r.d, .int .i64 r.i, .int .i64 r.b, .int .i64 r.t, .int .i64 r.m, .int .i64 r.p, .int .i64 r.c, .int .i64 r.s, .int .i64 r.k] 24) = W at *
      generalize w.heap.size + 1 = n2 at *
      go_wp2_with fail
      go_ret
      exact ⟨rfl, hB⟩
  | true =>
    have e2 : (r.i == g.i) = true := h2
    have e2b : (r.i != g.i) = false := by simp [bne, e2]
    have e2c : decide (¬ r.i = g.i) = false := by simpa using h2
    have h1 : decide (g.i < r.i) = false := by have := of_decide_eq_true h2; exact decide_eq_false (by omega)
    cases h3 : decide (r.m = 1) with
    | true =>
      have hv : needV g r = true := by unfold needV; rw [h1, h2, h3]; rfl
      have e3 : (r.m == 1) = true := h3
      rw [hv]
      clear hv
      go_enter Tryz.func35, Tryz.ntmps35
      go_upto_region 1 with fail
      generalize (w.alloc (.cells #[.int .i64 g.d, .int .i64 g.i, .int .i64 g.c, .int .i64 g.t, .string g.s] 47)).alloc (.cells #[.int .i64 r.d, .int .i64 r.i, .int .i64 r.b, .int .i64 r.t, .int .i64 r.m, .int .i64 r.p, .int .i64 r.c, .int .i64 r.s, .int .i64 r.k] 24) = W at *
      generalize w.heap.size + 1 = n2 at *
      go_wp2_with fail
      go_ret
      exact ⟨rfl, hB⟩
    | false =>
      have e3 : (r.m == 1) = false := h3
      by_cases h4 : g.t = 0
      · have hv : needV g r = false := by unfold needV; rw [h1, h2, h3, decide_eq_false (show ¬ g.t ≠ 0 from fun h => h h4)]; rfl
        have e4 : (g.t == 0) = true := beq_iff_eq.2 h4
        have e5 : (g.t != 0) = false := by simp [h4]
        have e6 : decide (g.t = 0) = true := decide_eq_true h4
        have e7 : decide (¬ g.t = 0) = false := by simp [h4]
        clear h4
        rw [hv]
        clear hv
        go_enter Tryz.func35, Tryz.ntmps35
        go_upto_region 1 with fail
        generalize (w.alloc (.cells #[.int .i64 g.d, .int .i64 g.i, .int .i64 g.c, .int .i64 g.t, .string g.s] 47)).alloc (.cells #[.int .i64 r.d, .int .i64 r.i, .int .i64 r.b, .int .i64 r.t, .int .i64 r.m, .int .i64 r.p, .int .i64 r.c, .int .i64 r.s, .int .i64 r.k] 24) = W at *
        generalize w.heap.size + 1 = n2 at *
        go_wp2_with fail
        go_ret
        exact ⟨rfl, hB⟩
      · have hv : needV g r = decide (g.c < r.k) := by unfold needV; rw [h1, h2, h3, decide_eq_true (show g.t ≠ 0 from h4)]; rfl
        have e4 : (g.t == 0) = false := beq_eq_false_iff_ne.2 h4
        have e5 : (g.t != 0) = true := by simp [h4]
        have e6 : decide (g.t = 0) = false := decide_eq_false h4
        have e7 : decide (¬ g.t = 0) = true := by simp [h4]
        clear h4
        rw [hv]
        clear hv
        go_enter Tryz.func35, Tryz.ntmps35
        go_upto_region 1 with fail
        generalize (w.alloc (.cells #[.int .i64 g.d, .int .i64 g.i, .int .i64 g.c, .int .i64 g.t, .string g.s] 47)).alloc (.cells #[.int .i64 r.d, .int .i64 r.i, .int .i64 r.b, .int .i64 r.t, .int .i64 r.m, .int .i64 r.p, .int .i64 r.c, .int .i64 r.s, .int .i64 r.k] 24) = W at *
        generalize w.heap.size + 1 = n2 at *
        go_wp2_with fail
        go_ret
        exact ⟨rfl, hB⟩

set_option maxRecDepth 100000 in
set_option maxHeartbeats 2000000 in
theorem pWanted1_any (g : Gf) (r : Rp) (n : Nat) (w : World) (h : gfE.In w n g) : Calls Tryz.prog 34 #[.agg #[.int .i64 r.d, .int .i64 r.i, .int .i64 r.b, .int .i64 r.t, .int .i64 r.m, .int .i64 r.p, .int .i64 r.c, .int .i64 r.s, .int .i64 r.k], .pointer (some ⟨n, 0, none⟩)] w fun e w' => e = .returned (.bool (outG g r)) ∧ Below w.heap.size w w' := by
  have hQ : rpE.In (w.alloc (.cells #[.int .i64 r.d, .int .i64 r.i, .int .i64 r.b, .int .i64 r.t, .int .i64 r.m, .int .i64 r.p, .int .i64 r.c, .int .i64 r.s, .int .i64 r.k] 24)) w.heap.size r := El.In.new (E := rpE) w r _ rfl
  have hB := below_alloc (Below.refl w.heap.size w) (.cells #[.int .i64 r.d, .int .i64 r.i, .int .i64 r.b, .int .i64 r.t, .int .i64 r.m, .int .i64 r.p, .int .i64 r.c, .int .i64 r.s, .int .i64 r.k] 24)
  have hG := h.below hB
  have p0 := (gfIn5 hG).1
  have q0 := (rpIn9 hQ).1
  rw [outG_need]
  cases h1 : decide (r.d = g.d) with
  | false =>
    have e1 : (r.d == g.d) = false := h1
    clear hQ hG
    rw [show (false && needV g r) = false from rfl]
    go_enter Tryz.func34, Tryz.ntmps34
    go_upto_region 1 with fail
    generalize w.alloc (.cells #[.int .i64 r.d, .int .i64 r.i, .int .i64 r.b, .int .i64 r.t, .int .i64 r.m, .int .i64 r.p, .int .i64 r.c, .int .i64 r.s, .int .i64 r.k] 24) = W at *
    obtain ⟨n2, hn2⟩ : ∃ n, w.heap.size = n := ⟨_, rfl⟩
    rw [hn2] at q0 ⊢
    clear hn2
    go_wp2_with fail
    go_ret
    exact ⟨rfl, hB⟩
  | true =>
    have e1 : (r.d == g.d) = true := h1
    rw [show (true && needV g r) = needV g r from rfl]
    have HC := Lib.hid (pNeedless_any g r (w.alloc (.cells #[.int .i64 r.d, .int .i64 r.i, .int .i64 r.b, .int .i64 r.t, .int .i64 r.m, .int .i64 r.p, .int .i64 r.c, .int .i64 r.s, .int .i64 r.k] 24)))
    obtain ⟨g0, g1, g2, g3, g4⟩ := gfIn5 hG
    obtain ⟨r0, r1, r2, r3, r4, r5, r6, r7, r8⟩ := rpIn9 hQ
    clear hQ hG p0 q0
    go_enter Tryz.func34, Tryz.ntmps34
    go_upto_region 1 with fail
    generalize w.alloc (.cells #[.int .i64 r.d, .int .i64 r.i, .int .i64 r.b, .int .i64 r.t, .int .i64 r.m, .int .i64 r.p, .int .i64 r.c, .int .i64 r.s, .int .i64 r.k] 24) = W at *
    obtain ⟨n2, hn2⟩ : ∃ n, w.heap.size = n := ⟨_, rfl⟩
    rw [hn2] at r0 r1 r2 r3 r4 r5 r6 r7 r8 ⊢
    clear hn2
    go_wp2_with (first | (go_at_call 35; (with_reducible refine HC.out.mono ?_); rintro e w1 ⟨rfl, hb1⟩) | fail)
    go_ret
    exact ⟨rfl, below_then hB hb1⟩

/-- Where the first report stands that takes g's place; -1: nowhere. -/
def wantI (g : Gf) : List Rp → Nat
  | [] => 0
  | x :: l => if outG g x = true then 0 else wantI g l + 1
def wantAt (g : Gf) (l : List Rp) : Int := if l.any (outG g) = true then (wantI g l : Int) else -1
theorem wantI_is {g : Gf} : ∀ (l : List Rp) (k : Nat), (∀ j (h : j < l.length), j < k → outG g l[j] = false) → ∀ h : k < l.length, outG g l[k] = true → wantI g l = k
  | [], _, _, h, _ => absurd h (Nat.not_lt_zero _)
  | x :: l, k, hj, h, hk => by
    cases k with
    | zero =>
      rw [List.getElem_cons_zero] at hk
      unfold wantI; rw [if_pos hk]
    | succ k =>
      have h0 := hj 0 (by rw [List.length_cons]; omega) (by omega)
      rw [List.getElem_cons_zero] at h0
      unfold wantI
      rw [h0, if_neg (by decide), wantI_is l k (fun j h1 h2 => by have := hj (j + 1) (by rw [List.length_cons]; omega) (by omega); rw [List.getElem_cons_succ] at this; exact this) (by rw [List.length_cons] at h; omega) (by rw [List.getElem_cons_succ] at hk; exact hk)]

set_option maxRecDepth 100000 in
set_option maxHeartbeats 2000000 in
theorem pWantIdx_any (A : Option Addr) (cap : Nat) (l : List Rp) (n : Nat) (g : Gf) (w : World) (hl : l.length ≤ 1000) (h : gfE.In w n g) (hT : rpE.Sl w A l) :
    Calls Tryz.prog 58 #[.slice A l.length cap, .func (.func 34) #[] #[.pointer (some ⟨n, 0, none⟩)]] w fun e w' => e = .returned (.int .i64 (wantAt g l)) ∧ Below w.heap.size w w' := by
  have HF := Lib.hid (fun (r : Rp) (wx : World) (hb : Below w.heap.size w wx) => pWanted1_any g r n wx (h.below hb))
  have HC0 := Lib.hid (fun (j : Nat) (h : j < l.length) (hj : j < 0) => (absurd hj (Nat.not_lt_zero j) : outG g l[j] = false))
  have hB := Below.refl w.heap.size w
  have HT := Lib.hid hT
  clear h hT
  go_enter Tryz.func58, Tryz.ntmps58
  go_wp2_with fail
  go_loopw [8] (fun y wr => ∃ k : Nat, k ≤ l.length ∧ y = .int .i64 k ∧ Hid (∀ j (h : j < l.length), j < k → outG g l[j] = false) ∧ Below w.heap.size w wr) (fun y _ => l.length - (intOf y).toNat)
  case atStart => exact ⟨0, Nat.zero_le _, rfl, HC0, hB⟩
  case round =>
    clear HC0 hB
    obtain ⟨k, hk, rfl, HK, hB⟩ := hrel
    by_cases hkl : k < l.length
    · obtain ⟨b, off, eA, hbw, hc⟩ := HT.out (by omega)
      have hx := rpIdxH (cap := cap) eA hkl
      have hat : rpE.At wr b (off + k * 9) l[k] := (hc k hkl).below hB hbw
      have HC := Lib.hid (HF.out l[k] wr hB)
      cases hd : outG g l[k] with
      | true =>
        have HV := Lib.hid (show wantAt g l = k by
          unfold wantAt
          rw [if_pos (List.any_eq_true.2 ⟨l[k], List.getElem_mem _, hd⟩), wantI_is l k HK.out hkl hd])
        rw [hd] at HC
        generalize l[k] = x at *
        clear hc eA hd
        go_wp2_with (first | (refine El.load rpRow rfl _ rfl b (off + k * 9) rfl x hat #[.int .i64 x.d, .int .i64 x.i, .int .i64 x.b, .int .i64 x.t, .int .i64 x.m, .int .i64 x.p, .int .i64 x.c, .int .i64 x.s, .int .i64 x.k] rfl ?_) | (go_at_call 34; (with_reducible refine (HC.out).mono ?_); rintro e w1 ⟨rfl, hb1⟩))
        go_ret
        exact ⟨by rw [HV.out]; rfl, below_then hB hb1⟩
      | false =>
        have HN := Lib.hid (fun (j : Nat) (h : j < l.length) (hj : j < k + 1) => (by
          by_cases e : j < k
          · exact HK.out j h e
          · obtain rfl : j = k := by omega
            exact hd : outG g l[j] = false))
        rw [hd] at HC
        generalize l[k] = x at *
        clear hc eA hd
        go_wp2_with (first | (refine El.load rpRow rfl _ rfl b (off + k * 9) rfl x hat #[.int .i64 x.d, .int .i64 x.i, .int .i64 x.b, .int .i64 x.t, .int .i64 x.m, .int .i64 x.p, .int .i64 x.c, .int .i64 x.s, .int .i64 x.k] rfl ?_) | (go_at_call 34; (with_reducible refine (HC.out).mono ?_); rintro e w1 ⟨rfl, hb1⟩))
        exact ⟨⟨k + 1, by omega, by go_num, HN, below_then hB hb1⟩, by simp [intOf]; omega⟩
    · obtain rfl : k = l.length := by omega
      have HV := Lib.hid (show wantAt g l = -1 by
        unfold wantAt
        rw [if_neg]
        intro h
        obtain ⟨x, hx, ho⟩ := List.any_eq_true.1 h
        obtain ⟨j, hj, rfl⟩ := List.getElem_of_mem hx
        rw [HK.out j hj hj] at ho
        cases ho)
      go_wp2_with fail
      go_ret
      exact ⟨by rw [HV.out]; rfl, hB⟩

set_option maxRecDepth 100000 in
set_option maxHeartbeats 2000000 in
theorem pContains_any (A : Option Addr) (cap : Nat) (l : List Rp) (n : Nat) (g : Gf) (w : World) (hl : l.length ≤ 1000) (h : gfE.In w n g) (hT : rpE.Sl w A l) :
    Calls Tryz.prog 33 #[.slice A l.length cap, .func (.func 34) #[] #[.pointer (some ⟨n, 0, none⟩)]] w fun e w' => e = .returned (.bool (l.any (outG g))) ∧ Below w.heap.size w w' := by
  have HC := Lib.hid (pWantIdx_any A cap l n g w hl h hT)
  clear h hT
  cases ha : l.any (outG g) with
  | true =>
    have e : wantAt g l = (wantI g l : Int) := by unfold wantAt; rw [if_pos ha]
    rw [e] at HC
    generalize wantI g l = k at *
    have f1 : decide ((0 : Int) ≤ (k : Int)) = true := decide_eq_true (by omega)
    clear e ha
    go_enter Tryz.func33, Tryz.ntmps33
    go_wp2_with fail
    refine HC.out.mono ?_
    rintro e w1 ⟨rfl, hb1⟩
    go_wp2_with fail
    go_ret
    exact ⟨rfl, hb1⟩
  | false =>
    have e : wantAt g l = -1 := by unfold wantAt; rw [if_neg (by rw [ha]; decide)]
    rw [e] at HC
    clear e ha
    go_enter Tryz.func33, Tryz.ntmps33
    go_wp2_with fail
    refine HC.out.mono ?_
    rintro e w1 ⟨rfl, hb1⟩
    go_wp2_with fail
    go_ret
    exact ⟨rfl, hb1⟩

set_option maxRecDepth 100000 in
set_option maxHeartbeats 2000000 in
theorem pWantedG_any (g : Gf) (A : Option Addr) (c : Nat) (l : List Rp) (w : World) (hl : l.length ≤ 1000) (hT : rpE.Sl w A l) : Calls Tryz.prog 14 #[.agg #[.int .i64 g.d, .int .i64 g.i, .int .i64 g.c, .int .i64 g.t, .string g.s], .slice A l.length c] w fun e w' => e = .returned (.bool (wantedG g l)) ∧ Below w.heap.size w w' := by
  have hP : gfE.In (w.alloc (.cells #[.int .i64 g.d, .int .i64 g.i, .int .i64 g.c, .int .i64 g.t, .string g.s] 47)) w.heap.size g := El.In.new (E := gfE) w g _ rfl
  have hB := below_alloc (Below.refl w.heap.size w) (.cells #[.int .i64 g.d, .int .i64 g.i, .int .i64 g.c, .int .i64 g.t, .string g.s] 47)
  have HC := Lib.hid (pContains_any A c l w.heap.size g _ hl hP (hT.below hB))
  clear hP hT
  unfold wantedG
  generalize l.any (outG g) = bv at *
  go_enter Tryz.func14, Tryz.ntmps14
  go_upto_region 1 with fail
  generalize w.alloc (.cells #[.int .i64 g.d, .int .i64 g.i, .int .i64 g.c, .int .i64 g.t, .string g.s] 47) = W at *
  go_wp2_with fail
  refine HC.out.mono ?_
  rintro e w1 ⟨rfl, hb1⟩
  go_wp2_with fail
  go_ret
  exact ⟨rfl, below_then hB hb1⟩
end Go.Proofs.YtfpgfclmmdihjaaGreat

/- The program's gifts: a place put into a list. -/
namespace Go.Proofs.YtfpgfclmmdihjaaGreat
open Go.RowKit Nam Cod

/-- 'copy' into a row that is known whole, whatever an element's size. -/
theorem run_copyE {P : Program} (w : World) (dT sT ty elem : TypeId) (k g o dLen dCap : Nat) (a : Addr) (sLen sCap : Nat) (cur : Array Value) (t : TypeId) (cs : List Value)
    (hu : P.underlying dT = some (.slice elem)) (hs : (P.info? elem).map (·.size) = some k)
    (hg : w.heap[g]? = some (.cells cur t (0, 0))) (hn : cs.length = Nat.min sLen dLen * k)
    (hsrc : ∀ j v, cs[j]? = some v → w.cell? (a.add j) = some v) (hfit : o + cs.length ≤ cur.size) (h1 : ∀ v ∈ cs, v.oneCell' = true) :
    (Builtin.copy_ #[dT, sT] ty #[.slice (some ⟨g, o, none⟩) dLen dCap, .slice (some a) sLen sCap]).run P w =
      .ok (goInt (Nat.min sLen dLen)) (w.setRow g (splice cur.toList o cs).toArray) := by
  have hl := run_loadCells_list (P := P) w a cs hsrc
  have hst := run_storeCells_at P g o t cs 0 cur w hg (by simpa using hfit) h1
  cases hq : P.info? elem with
  | none => simp [hq] at hs
  | some i =>
    have hi : i.size = k := by simpa [hq] using hs
    rw [hn] at hl
    simp [Builtin.copy_, run_underlying hu, Builtin.lenOf, Builtin.firstCells, sizeOf, typeInfo, hq, hi, hl, hst, splice]
theorem wpList_copyE {P : Program} {w : World} {ops : Array Oper} {rest : List Oper} {o : Oper} {a : Act} {Q : Exit → Act → World → Prop} (hgd : o.guard = none) (d s : Operand) (dT sT : TypeId)
    (ho : o.op = .call { callee := .builtin .copy, args := #[d, s], argTypes := #[dT, sT] }) (elem : TypeId) (hu : P.underlying dT = some (.slice elem)) (k : Nat) (hsz : (P.info? elem).map (·.size) = some k)
    (g off dLen dCap : Nat) (ad : Addr) (sLen sCap : Nat) (hd : a.eval d = .slice (some ⟨g, off, none⟩) dLen dCap) (hs : a.eval s = .slice (some ad) sLen sCap)
    (cur : List Value) (t : TypeId) (hg : w.heap[g]? = some (.cells cur.toArray t (0, 0))) (cs : List Value) (hn : cs.length = Nat.min sLen dLen * k)
    (hsrc : ∀ j v, cs[j]? = some v → w.cell? (ad.add j) = some v) (hfit : off + cs.length ≤ cur.length) (h1 : ∀ v ∈ cs, v.oneCell' = true) (B : Nat) (w0 : World) (hb : Below B w0 w) (hBg : B ≤ g)
    (h : ∀ w', Hid (w'.heap[g]? = some (.cells (splice cur off cs).toArray t (0, 0))) → Below B w0 w' → (∀ b, b ≠ g → w'.heap[b]? = w.heap[b]?) → wpList P ops Q rest (a.put o.dst (goInt (Nat.min sLen dLen))) w') :
    wpList P ops Q (o :: rest) a w := by
  refine wpList_plain hgd fun K hK => ?_
  have hrun := run_copyE (P := P) w dT sT o.type elem k g off dLen dCap ad sLen sCap cur.toArray t cs hu hsz hg hn hsrc (by simpa using hfit) h1
  unfold Oper.wp
  simp only [execOp, ho, resolve, invoke, builtin, Sem.run_bind, Sem.run_pure, Result.andThen_ok, List.map_toArray, List.map_cons, List.map_nil, hd, hs, hrun]
  exact hK _ _ (h _ (setRow_heap w g _ _ t _ hg) (_root_.Go.below_setRow hb hBg _) (fun b hne => setRow_other w g b _ hne))
theorem step_copyE {P : Program} {ops : Array Oper} {o : Oper} {a : Act} {w : World} {K : Act → World → Prop} {Q : Exit → Act → World → Prop} {E : Prop} (hgd : o.guard = none) (d s : Operand) (dT sT : TypeId)
    (ho : o.op = .call { callee := .builtin .copy, args := #[d, s], argTypes := #[dT, sT] }) (elem : TypeId) (hu : P.underlying dT = some (.slice elem)) (k : Nat) (hsz : (P.info? elem).map (·.size) = some k)
    (g off dLen dCap : Nat) (ad : Addr) (sLen sCap : Nat) (hd : a.eval d = .slice (some ⟨g, off, none⟩) dLen dCap) (hs : a.eval s = .slice (some ad) sLen sCap)
    (cur : List Value) (t : TypeId) (hg : w.heap[g]? = some (.cells cur.toArray t (0, 0))) (cs : List Value) (hn : cs.length = Nat.min sLen dLen * k)
    (hsrc : ∀ j v, cs[j]? = some v → w.cell? (ad.add j) = some v) (hfit : off + cs.length ≤ cur.length) (h1 : ∀ v ∈ cs, v.oneCell' = true) (B : Nat) (w0 : World) (hb : Below B w0 w) (hBg : B ≤ g)
    (h : ∀ w', Hid (w'.heap[g]? = some (.cells (splice cur off cs).toArray t (0, 0))) → Below B w0 w' → (∀ b, b ≠ g → w'.heap[b]? = w.heap[b]?) → K (a.put o.dst (goInt (Nat.min sLen dLen))) w') :
    if Region.wanted o (yielded ops a.tmps) = true then Oper.wp P o a w K Q else E := by
  have hw : Region.wanted o (yielded ops a.tmps) = true := by simp [Region.wanted, hgd]
  rw [if_pos hw]
  have hrun := run_copyE (P := P) w dT sT o.type elem k g off dLen dCap ad sLen sCap cur.toArray t cs hu hsz hg hn hsrc (by simpa using hfit) h1
  unfold Oper.wp
  simp only [execOp, ho, resolve, invoke, builtin, Sem.run_bind, Sem.run_pure, Result.andThen_ok, List.map_toArray, List.map_cons, List.map_nil, hd, hs, hrun]
  exact h _ (setRow_heap w g _ _ t _ hg) (_root_.Go.below_setRow hb hBg _) (fun b hne => setRow_other w g b _ hne)

section
variable {α : Type}
theorem take_splice (C D : List α) (o a : Nat) (h : a ≤ o) (ho : o ≤ C.length) : (splice C o D).take a = C.take a := by
  unfold splice
  rw [List.take_append_of_le_length (by rw [List.length_take]; omega), List.take_take, Nat.min_eq_left h]
theorem drop_splice (C D : List α) (o : Nat) (ho : o ≤ C.length) : (splice C o D).drop o = D ++ C.drop (o + D.length) := by
  unfold splice
  have h := List.length_take_of_le ho
  rw [List.drop_append, h, Nat.sub_self, List.drop_zero, List.drop_of_length_le (by omega), List.nil_append]
/-- What stands from a on goes m farther, and X comes there. -/
theorem shift_in (C D X : List α) (a m : Nat) (hX : X.length = m) (hC : a + m + D.length ≤ C.length) : (splice (splice C (a + m) D) a X).take (a + m + D.length) = C.take a ++ (X ++ D) := by
  obtain ⟨S, hS⟩ : ∃ S, splice C (a + m) D = S := ⟨_, rfl⟩
  have h1 : S.take a = C.take a := by rw [← hS]; exact take_splice C D _ _ (by omega) (by omega)
  have h2 : S.drop (a + m) = D ++ C.drop (a + m + D.length) := by rw [← hS]; exact drop_splice C D _ (by omega)
  rw [hS]
  unfold splice
  rw [hX, h1, h2]
  have hl : (C.take a).length = a := by rw [List.length_take]; omega
  rw [List.take_append, hl, List.take_of_length_le (by omega : (C.take a).length ≤ a + m + D.length), show a + m + D.length - a = m + D.length by omega]
  rw [List.take_append, hX, List.take_of_length_le (by omega : X.length ≤ m + D.length), show m + D.length - m = D.length by omega]
  rw [List.take_append_of_le_length (Nat.le_refl _), List.take_length]
/-- The same, X first. -/
theorem new_in (C D X : List α) (a m : Nat) (hX : X.length = m) (hC : a + m + D.length ≤ C.length) : (splice (splice C a X) (a + m) D).take (a + m + D.length) = C.take a ++ (X ++ D) := by
  obtain ⟨S, hS⟩ : ∃ S, splice C a X = S := ⟨_, rfl⟩
  have hl0 : S.length = C.length := by rw [← hS]; exact length_splice C a X (by omega)
  have hl : (C.take a).length = a := by rw [List.length_take]; omega
  have h1 : S.take (a + m) = C.take a ++ X := by
    rw [← hS]; unfold splice
    rw [List.take_append, hl, List.take_of_length_le (by omega : (C.take a).length ≤ a + m), show a + m - a = m by omega, List.take_append_of_le_length (by omega), List.take_of_length_le (by omega : X.length ≤ m)]
  rw [hS]
  have hl2 : (S.take (a + m)).length = a + m := by rw [List.length_take]; omega
  unfold splice
  rw [List.take_append, hl2, List.take_of_length_le (by omega : (S.take (a + m)).length ≤ a + m + D.length), show a + m + D.length - (a + m) = D.length by omega]
  rw [List.take_append_of_le_length (Nat.le_refl _), List.take_length, h1, List.append_assoc]
end
theorem gf_take (l : List Gf) (i : Nat) : (gfE.cells l).take (i * 5) = gfE.cells (l.take i) := by
  have h : gfE.cells l = gfE.cells (l.take i) ++ gfE.cells (l.drop i) := by rw [← El.cells_app, List.take_append_drop]
  have hl : (gfE.cells (l.take i)).length = (l.take i).length * 5 := El.cells_len _
  rw [List.length_take] at hl
  by_cases hi : i ≤ l.length
  · rw [Nat.min_eq_left hi] at hl
    rw [h, List.take_append_of_le_length (by omega), List.take_of_length_le (by omega)]
  · rw [List.take_of_length_le (by rw [show (gfE.cells l).length = l.length * 5 from El.cells_len _]; omega), List.take_of_length_le (by omega)]
theorem gf_in (l : List Gf) (i : Nat) (x : Gf) : gfE.cells (l.take i ++ [x] ++ l.drop i) = gfE.cells (l.take i) ++ (gfE.c x ++ gfE.cells (l.drop i)) := by
  rw [El.cells_app, El.cells_app, List.append_assoc]
  rw [show gfE.cells [x] = gfE.c x ++ [] from rfl, List.append_nil]

set_option maxRecDepth 100000 in
theorem cloneGf_any (A : Option Addr) (c : Nat) (l : List Gf) (w : World) (hl : l.length ≤ 1000) (hT : SlV gfE w A c l) :
    Calls Tryz.prog 28 #[.slice A l.length c] w fun e w' => ∃ v, e = .returned v ∧ gfE.Own w' w.heap.size v l ∧ Below w.heap.size w w' := by
  obtain ⟨hT, hz, hlc⟩ := hT
  have q : ∀ (w : World) (a : Option Addr) (n c n' c' : Nat), (binOp .eql 34 (.slice a n c) (.slice none n' c')).run Tryz.prog w = .ok (.bool a.isNone) w := fun w a n c n' c' => Lib.run_eql_slice_nil w _ _ a n c n' c' Tryz.underlying34
  cases A with
  | none =>
    obtain rfl := hT.none_nil
    obtain rfl := hz rfl
    go_enter Tryz.func28, Tryz.ntmps28
    go_wp2
    go_ret
    exact ⟨_, rfl, El.Own.nil (E := gfE) w w.heap.size, Below.refl _ _⟩
  | some a =>
    go_enter Tryz.func28, Tryz.ntmps28
    have hE := El.Own.empty (E := gfE) w w.heap.size (Nat.le_refl _)
    have hb0 := below_alloc (Below.refl w.heap.size w) (.cells #[] 47)
    go_wp2_with (at_builtin; refine El.wpList_app gfInn rfl _ _ rfl w.heap.size _ [] l rfl hE (some a) _ c rfl rfl (hT.below hb0) (fun e => by cases e) (by simp; omega) (by simp) ?_; intro v' w2 hown hg _)
    go_wp2
    go_ret
    exact ⟨v', rfl, hown, below_own hb0 hg (hE.rows)⟩

def idxG (l : List Gf) (d : Int) : Int := if cutG l d < l.length then (cutG l d : Int) else -1
set_option maxRecDepth 100000 in
set_option maxHeartbeats 2000000 in
theorem pMerge1_any (x : Gf) (n : Nat) (g : Gf) (w : World) (h : gfE.In w n g) : Calls Tryz.prog 30 #[.agg #[.int .i64 x.d, .int .i64 x.i, .int .i64 x.c, .int .i64 x.t, .string x.s], .pointer (some ⟨n, 0, none⟩)] w fun e w' => e = .returned (.bool (decide (g.d ≤ x.d))) ∧ Below w.heap.size w w' := by
  have hQ : gfE.In (w.alloc (.cells #[.int .i64 x.d, .int .i64 x.i, .int .i64 x.c, .int .i64 x.t, .string x.s] 47)) w.heap.size x := El.In.new (E := gfE) w x _ rfl
  have hB := below_alloc (Below.refl w.heap.size w) (.cells #[.int .i64 x.d, .int .i64 x.i, .int .i64 x.c, .int .i64 x.t, .string x.s] 47)
  have p0 := (gfIn5 (h.below hB)).1
  have q0 := (gfIn5 hQ).1
  clear hQ
  obtain ⟨bv, hbv⟩ : ∃ bv, decide (g.d ≤ x.d) = bv := ⟨_, rfl⟩
  rw [hbv]
  go_enter Tryz.func30, Tryz.ntmps30
  go_upto_region 1 with fail
  generalize w.alloc (.cells #[.int .i64 x.d, .int .i64 x.i, .int .i64 x.c, .int .i64 x.t, .string x.s] 47) = W at *
  obtain ⟨n2, hn2⟩ : ∃ n, w.heap.size = n := ⟨_, rfl⟩
  rw [hn2] at q0 ⊢
  clear hn2
  go_wp2_with fail
  go_ret
  exact ⟨rfl, hB⟩

set_option maxRecDepth 100000 in
set_option maxHeartbeats 2000000 in
theorem pMergeIdx_any (A : Option Addr) (cap : Nat) (l : List Gf) (n : Nat) (g : Gf) (w : World) (hl : l.length ≤ 1000) (h : gfE.In w n g) (hT : gfE.Sl w A l) :
    Calls Tryz.prog 29 #[.slice A l.length cap, .func (.func 30) #[] #[.pointer (some ⟨n, 0, none⟩)]] w fun e w' => e = .returned (.int .i64 (idxG l g.d)) ∧ Below w.heap.size w w' := by
  have HF := Lib.hid (fun (r : Gf) (wx : World) (hb : Below w.heap.size w wx) => pMerge1_any r n g wx (h.below hb))
  have HC0 := Lib.hid (Nat.zero_le (cutG l g.d))
  have hB := Below.refl w.heap.size w
  have HT := Lib.hid hT
  clear h hT
  go_enter Tryz.func29, Tryz.ntmps29
  go_wp2_with fail
  go_loopw [8] (fun y wr => ∃ k : Nat, k ≤ l.length ∧ y = .int .i64 k ∧ Hid (k ≤ cutG l g.d) ∧ Below w.heap.size w wr) (fun y _ => l.length - (intOf y).toNat)
  case atStart => exact ⟨0, Nat.zero_le _, rfl, HC0, hB⟩
  case round =>
    clear HC0 hB
    obtain ⟨k, hk, rfl, HK, hB⟩ := hrel
    by_cases hkl : k < l.length
    · obtain ⟨b, off, eA, hbw, hc⟩ := HT.out (by omega)
      have hx := gfIdxH (cap := cap) eA hkl
      have hat : gfE.At wr b (off + k * 5) l[k] := (hc k hkl).below hB hbw
      have HC := Lib.hid (HF.out l[k] wr hB)
      by_cases hd : g.d ≤ l[k].d
      · have HV := Lib.hid (show idxG l g.d = k by
          have e := cutG_here HK.out (Or.inr ⟨hkl, hd⟩)
          unfold idxG; rw [← e, if_pos hkl])
        rw [show decide (g.d ≤ l[k].d) = true from decide_eq_true hd] at HC
        generalize l[k] = x at *
        clear hc eA hd
        go_wp2_with (first | (refine El.load gfRow rfl _ rfl b (off + k * 5) rfl x hat #[.int .i64 x.d, .int .i64 x.i, .int .i64 x.c, .int .i64 x.t, .string x.s] rfl ?_) | (go_at_call 30; (with_reducible refine (HC.out).mono ?_); rintro e w1 ⟨rfl, hb1⟩))
        go_ret
        exact ⟨by rw [HV.out]; rfl, below_then hB hb1⟩
      · have HN := Lib.hid (cutG_next HK.out hkl (by omega))
        rw [show decide (g.d ≤ l[k].d) = false from decide_eq_false hd] at HC
        generalize l[k] = x at *
        clear hc eA hd
        go_wp2_with (first | (refine El.load gfRow rfl _ rfl b (off + k * 5) rfl x hat #[.int .i64 x.d, .int .i64 x.i, .int .i64 x.c, .int .i64 x.t, .string x.s] rfl ?_) | (go_at_call 30; (with_reducible refine (HC.out).mono ?_); rintro e w1 ⟨rfl, hb1⟩))
        exact ⟨⟨k + 1, by omega, by go_num, HN, below_then hB hb1⟩, by simp [intOf]; omega⟩
    · obtain rfl : k = l.length := by omega
      have HV := Lib.hid (show idxG l g.d = -1 by
        have e := cutG_here HK.out (Or.inl rfl)
        unfold idxG; rw [← e, if_neg (Nat.lt_irrefl _)])
      go_wp2_with fail
      go_ret
      exact ⟨by rw [HV.out]; rfl, hB⟩
end Go.Proofs.YtfpgfclmmdihjaaGreat

/- The program's gifts: Insert (slices), Merge. -/
namespace Go.Proofs.YtfpgfclmmdihjaaGreat
open Go.RowKit Nam Cod

theorem gfSize : (Tryz.prog.info? 47).map (·.size) = some 5 := by kernel_rfl
theorem infoGf : (Tryz.prog.info? 47).map (fun i => (i.zero, i.size, i.bytes)) = some (some (.agg #[.int .i64 0, .int .i64 0, .int .i64 0, .int .i64 0, .string ⟨#[]⟩]), 5, 48) := by kernel_rfl
theorem mul_add5 (i : Nat) : (i + 1) * 5 = i * 5 + 5 := by omega
/-- What a row of the call's own is. -/
theorem gf_row {w : World} {B g c : Nat} {l : List Gf} (h : gfE.Own w B (.slice (some ⟨g, 0, none⟩) l.length c) l) : ∃ C : List Value, B ≤ g ∧ w.heap[g]? = some (.cells C.toArray 47 (0, 0)) ∧ l.length ≤ c ∧ c ≤ maxLen ∧ C.length = c * 5 ∧ C.take (l.length * 5) = gfE.cells l := by
  rcases h.2 with ⟨e, _⟩ | ⟨g', cap, cur, e, hb, hg, hnc, hcm, hcs, htk⟩
  · cases e
  · injection e with e1 _ e2
    injection e1 with e1
    injection e1 with e1
    subst e1 e2
    exact ⟨cur.toList, hb, by rw [Array.toArray_toList]; exact hg, hnc, hcm, by rw [Array.length_toList]; exact hcs, htk⟩
theorem gf_own {w : World} {B g c : Nat} {l : List Gf} {C : List Value} (hb : B ≤ g) (hg : w.heap[g]? = some (.cells C.toArray 47 (0, 0))) (hnc : l.length ≤ c) (hcm : c ≤ maxLen) (hcs : C.length = c * 5) (htk : C.take (l.length * 5) = gfE.cells l) : gfE.Own w B (.slice (some ⟨g, 0, none⟩) l.length c) l :=
  ⟨El.cells_len l, Or.inr ⟨g, c, C.toArray, rfl, hb, hg, hnc, hcm, by rw [List.size_toArray]; exact hcs, by rw [List.toList_toArray]; exact htk⟩⟩
theorem gf_get {w : World} {g : Nat} {C : List Value} (hg : w.heap[g]? = some (.cells C.toArray 47 (0, 0))) (o : Nat) (cs : List Value) (h : ∀ j v, cs[j]? = some v → C[o + j]? = some v) : ∀ j v, cs[j]? = some v → w.cell? ((⟨g, o, none⟩ : Addr).add j) = some v := fun j v hj => by
  rw [Addr.add_lit, cell_of_row w g (o + j) _ _ _ hg]
  simpa using h j v hj
theorem gf_drop {C : List Value} {l : List Gf} (htk : C.take (l.length * 5) = gfE.cells l) (i : Nat) (hi : i ≤ l.length) : ∀ j v, (gfE.cells (l.drop i))[j]? = some v → C[i * 5 + j]? = some v := fun j v hj => by
  have h : gfE.cells l = gfE.cells (l.take i) ++ gfE.cells (l.drop i) := by rw [← El.cells_app, List.take_append_drop]
  have hl : (gfE.cells (l.take i)).length = i * 5 := by rw [show (gfE.cells (l.take i)).length = (l.take i).length * 5 from El.cells_len _, List.length_take, Nat.min_eq_left hi]
  have h2 : (C.take (l.length * 5))[i * 5 + j]? = some v := by
    rw [htk, h, List.getElem?_append_right (by omega), hl, Nat.add_sub_cancel_left]; exact hj
  rw [List.getElem?_take] at h2
  split at h2
  · exact h2
  · cases h2

set_option maxRecDepth 100000 in
set_option maxHeartbeats 4000000 in
theorem insRoom_any (W0 w : World) (hB : Below W0.heap.size W0 w) (g c : Nat) (l : List Gf) (i : Nat) (x : Gf) (vb : Nat) (hO : gfE.Own w W0.heap.size (.slice (some ⟨g, 0, none⟩) l.length c) l) (hi : i < l.length) (hl : l.length ≤ 1000) (hx : gfE.In w vb x) (hne : vb ≠ g) (hroom : l.length + 1 ≤ c) :
    Calls Tryz.prog 31 #[.slice (some ⟨g, 0, none⟩) l.length c, .int .i64 i, .slice (some ⟨vb, 0, none⟩) 1 1] w fun e w' => ∃ v, e = .returned v ∧ gfE.Own w' W0.heap.size v (l.take i ++ [x] ++ l.drop i) ∧ Below W0.heap.size W0 w' := by
  obtain ⟨C, hBg, hg, hnc, hcm, hcs, htk⟩ := gf_row hO
  have hc63 : c ≤ 9223372036854775807 := by unfold maxLen at hcm; omega
  have hov : ∀ lb cb, (callFunc 56 #[.slice (some ⟨vb, 0, none⟩) 1 1, .slice (some ⟨g, (i + 1) * 5, none⟩) lb cb]).run Tryz.prog w = .ok (.value (.bool false)) w := fun lb cb => by
    have hx' : w.heap[vb]? = some (.cells (gfE.c x).toArray 47 (0, 0)) := hx
    rw [run_callFunc_extern Tryz.func56 (by kernel_rfl) (by kernel_rfl) (by kernel_rfl) (e := Extern.SlicesOverlaps.overlaps #[34, 34] #[4]) (by kernel_rfl),
      Lib.run_overlaps_apart w 34 4 47 Tryz.underlying34 5 (fun w => by kernel_rfl) ⟨vb, 0, none⟩ ⟨g, (i + 1) * 5, none⟩ 1 1 lb cb hne 47 47 5 (c * 5) (by simp [World.shape?, hx']; rfl) (by simp [World.shape?, hg, hcs]) (by omega) (hx.frozen 0) (hx.frozen 5)]
    rfl
  have hw1 : IntKind.i64.wrap ((i : Int) + 1) = (i : Int) + 1 := by rw [IntKind.wrap_i64]; omega
  have hb1 : (0 : Int) ≤ (i : Int) + 1 := by omega
  have hin : i ≤ l.length := by omega
  have htn : ((i : Int) + 1).toNat = i + 1 := by omega
  have hz2 : ¬ ((i : Int) = (l.length : Int)) := by omega
  have hb2 : ¬ (c = i + 1) := by omega
  have hb3 : (i : Int) ≤ (l.length : Int) + 1 := by omega
  have hb4 : ¬ (c = i) := by omega
  obtain ⟨D, hD⟩ : ∃ D, gfE.cells (l.drop i) = D := ⟨_, rfl⟩
  have hDl : D.length = (l.length - i) * 5 := by rw [← hD, show (gfE.cells (l.drop i)).length = (l.drop i).length * 5 from El.cells_len _, List.length_drop]
  have hD1 : ∀ v ∈ D, v.oneCell' = true := by rw [← hD]; exact El.cells_one _
  have hsrc := gf_get hg (i * 5) D (by rw [← hD]; exact gf_drop htk i hin)
  obtain ⟨n, hn⟩ : ∃ n, l.length = n := ⟨_, rfl⟩
  have HN := Lib.hid hn
  have HD := Lib.hid hD
  rw [hn] at hi hl hroom htk hnc hin hz2 hb3 hDl ⊢
  clear hn hD
  go_enter Tryz.func31, Tryz.ntmps31
  go_wp2_with (simp only [hov])
  have hgd : w.drew.heap[g]? = some (.cells C.toArray 47 (0, 0)) := hg
  have hsd : ∀ j v, D[j]? = some v → w.drew.cell? ((⟨g, i * 5, none⟩ : Addr).add j) = some v := hsrc
  have hxd : gfE.In w.drew vb x := hx
  have hBd := hB.drew
  have hfit : i * 5 + 5 + D.length ≤ C.length := by omega
  go_region_law (refine step_copyE rfl (.tmp 73) (.tmp 76) 34 34 rfl 47 Tryz.underlying34 5 gfSize g (i * 5 + 5) (n - i) (c - (i + 1)) ⟨g, i * 5, none⟩ (n + 1 - i) (c - i) (by simp [Act.eval, Act.put]) (by simp [Act.eval, Act.put]) C 47 hgd D (by rw [hDl]; simp only [Nat.min_def]; split <;> omega) hsd hfit hD1 W0.heap.size W0 hBd hBg ?_; intro w4 hg4 hb4 hk4)
  replace hxd : gfE.In w4 vb x := (hk4 vb hne).trans hxd
  obtain ⟨S, hS⟩ : ∃ S, splice C (i * 5 + 5) D = S := ⟨_, rfl⟩
  rw [hS] at hg4
  have hSl : S.length = C.length := by rw [← hS]; exact length_splice _ _ _ hfit
  have HS := Lib.hid hS
  clear hS hgd hsd hx hB hBd hsrc hov hO hk4
  go_wp2_with (refine wpList_copyE rfl (.tmp 80) (.tmp 81) 34 34 rfl 47 Tryz.underlying34 5 gfSize g (i * 5) _ _ ⟨vb, 0, none⟩ _ _ rfl rfl S 47 hg4.out (gfE.c x) (by rw [gfE.len]; show 5 = Nat.min 1 (n + 1 - i) * 5; simp only [Nat.min_def]; split <;> omega) (fun j v hj => by rw [Addr.add_lit, Nat.zero_add]; exact (hxd.cell j).trans hj) (by rw [gfE.len]; show i * 5 + 5 ≤ _; omega) (gfE.one x) W0.heap.size W0 hb4 hBg ?_; intro w5 hg5 hb5 _)
  go_ret
  refine ⟨_, rfl, ?_, hb5⟩
  have hlen : (l.take i ++ [x] ++ l.drop i).length = n + 1 := by
    have := HN.out
    simp only [List.length_append, List.length_take, List.length_drop, List.length_singleton]; omega
  have hfin := shift_in C D (gfE.c x) (i * 5) 5 (gfE.len x) (by omega)
  rw [HS.out, show i * 5 + 5 + D.length = (n + 1) * 5 by omega] at hfin
  have hown := gf_own (c := c) (l := l.take i ++ [x] ++ l.drop i) hBg hg5.out (by omega) hcm (by rw [length_splice _ _ _ (by rw [gfE.len]; show i * 5 + 5 ≤ _; omega), hSl, hcs]) (by
    rw [hlen, hfin, gf_in, HD.out, ← gf_take, ← htk, List.take_take, Nat.min_eq_left (by omega)])
  rw [hlen] at hown
  exact hown

set_option maxRecDepth 100000 in
set_option maxHeartbeats 4000000 in
theorem insGrow_any (W0 w : World) (hB : Below W0.heap.size W0 w) (g c : Nat) (l : List Gf) (i : Nat) (x : Gf) (vb : Nat) (hO : gfE.Own w W0.heap.size (.slice (some ⟨g, 0, none⟩) l.length c) l) (hi : i < l.length) (hl : l.length ≤ 1000) (hx : gfE.In w vb x) (hne : vb ≠ g) (hroom : c < l.length + 1) :
    Calls Tryz.prog 31 #[.slice (some ⟨g, 0, none⟩) l.length c, .int .i64 i, .slice (some ⟨vb, 0, none⟩) 1 1] w fun e w' => ∃ v, e = .returned v ∧ gfE.Own w' W0.heap.size v (l.take i ++ [x] ++ l.drop i) ∧ Below W0.heap.size W0 w' := by
  obtain ⟨C, hBg, hg, hnc, hcm, hcs, htk⟩ := gf_row hO
  obtain ⟨inf, hinf, hz, hz1, hz2⟩ := info_parts infoGf
  have hgN : g < w.heap.size := by
    rcases Nat.lt_or_ge g w.heap.size with h | h
    · exact h
    · rw [Array.getElem?_eq_none h] at hg; cases hg
  have hvN := hx.lt
  have hin : i ≤ l.length := by omega
  obtain ⟨D, hD⟩ : ∃ D, gfE.cells (l.drop i) = D := ⟨_, rfl⟩
  obtain ⟨T, hT⟩ : ∃ T, gfE.cells (l.take i) = T := ⟨_, rfl⟩
  have hDl : D.length = (l.length - i) * 5 := by rw [← hD, show (gfE.cells (l.drop i)).length = (l.drop i).length * 5 from El.cells_len _, List.length_drop]
  have hTl : T.length = i * 5 := by rw [← hT, show (gfE.cells (l.take i)).length = (l.take i).length * 5 from El.cells_len _, List.length_take, Nat.min_eq_left hin]
  have hD1 : ∀ v ∈ D, v.oneCell' = true := by rw [← hD]; exact El.cells_one _
  have hDs := gf_drop htk i hin
  rw [hD] at hDs
  have hCT : T = C.take (i * 5) := by rw [← hT, ← gf_take, ← htk, List.take_take, Nat.min_eq_left (by omega)]
  have hold : (Builtin.firstCells inf.size i (.slice (some ⟨g, 0, none⟩) i c)).run Tryz.prog w.drew = .ok T.toArray w.drew := by
    rw [hz1]
    exact run_firstCells_some w.drew 5 i ⟨g, 0, none⟩ i c T hTl (gf_get (w := w.drew) hg 0 T (fun j v hj => by
      rw [Nat.zero_add]
      rw [hCT, List.getElem?_take] at hj
      split at hj
      · exact hj
      · cases hj))
  obtain ⟨n, hn⟩ : ∃ n, l.length = n := ⟨_, rfl⟩
  have HN := Lib.hid hn
  have HD := Lib.hid hD
  have HT := Lib.hid hT
  rw [hn] at hi hl hroom htk hnc hin hDl ⊢
  clear hn hD hT hCT hO
  have hik : i + (n + 1 - i) = n + 1 := by omega
  have hkk : (n : Int) + 1 - (i : Int) = ((n + 1 - i : Nat) : Int) := by omega
  have hrz := fun ty => Lib.run_append_grow_zeros w 34 3 ty 47 inf _ .i64 .i64 Tryz.underlying34 Tryz.underlying3 hinf hz (some ⟨g, 0, none⟩) i c T hold (n + 1 - i) (by omega) (by omega) (by omega) (by omega) (by rw [hz2]; omega) (by rw [hz2, hik]; exact growslice_fits hroom (by omega))
  rw [hik, ← hkk] at hrz
  have hGn : n + 1 ≤ grownCap w (n + 1) c 47 := grownCap_ge w _ _ _
  have hGm : grownCap w (n + 1) c 47 ≤ maxLen := grownCap_le_maxLen w (n + 1) c 47 (by unfold maxLen; omega)
  generalize grownCap w (n + 1) c 47 = G at *
  have hG63 : G ≤ 9223372036854775807 := by unfold maxLen at hGm; omega
  obtain ⟨R, hR0⟩ : ∃ R : List Value, R = (T.toArray ++ Builtin.zeroCells (Value.agg #[.int .i64 0, .int .i64 0, .int .i64 0, .int .i64 0, .string ⟨#[]⟩]).cells (n + 1 - i) ++ Builtin.zeroCells (Value.agg #[.int .i64 0, .int .i64 0, .int .i64 0, .int .i64 0, .string ⟨#[]⟩]).cells (G - (n + 1))).toList := ⟨_, rfl⟩
  have hR : T.toArray ++ Builtin.zeroCells (Value.agg #[.int .i64 0, .int .i64 0, .int .i64 0, .int .i64 0, .string ⟨#[]⟩]).cells (n + 1 - i) ++ Builtin.zeroCells (Value.agg #[.int .i64 0, .int .i64 0, .int .i64 0, .int .i64 0, .string ⟨#[]⟩]).cells (G - (n + 1)) = R.toArray := by rw [hR0, Array.toArray_toList]
  have hRl : R.length = G * 5 := by
    rw [hR0, Array.length_toList, Array.size_append, Array.size_append, size_zeroCells, size_zeroCells, List.size_toArray, hTl]
    have h2 : ((Value.agg #[.int .i64 0, .int .i64 0, .int .i64 0, .int .i64 0, .string ⟨#[]⟩]).cells).size = 5 := rfl
    rw [h2]
    omega
  have hRT : R.take (i * 5) = T := by
    rw [hR0, Array.toList_append, Array.toList_append, List.toList_toArray, List.append_assoc, List.take_append_of_le_length (by omega), List.take_of_length_le (by omega)]
  clear hR0
  rw [hR] at hrz
  obtain ⟨W1, hW1⟩ : ∃ W1, W1 = w.drew.alloc (.cells R.toArray 47) := ⟨_, rfl⟩
  rw [← hW1] at hrz
  have hrow : W1.heap[w.heap.size]? = some (.cells R.toArray 47 (0, 0)) := by rw [hW1]; exact heap_alloc_new w.drew _
  have hB1 : Below W0.heap.size W0 W1 := by rw [hW1]; exact below_then hB (below_alloc (Below.refl w.heap.size w).drew _)
  have hbl : Below w.heap.size w W1 := by rw [hW1]; exact below_alloc (Below.refl w.heap.size w).drew _
  have hx1 : gfE.In W1 vb x := hx.below hbl
  have hg1 : W1.heap[g]? = some (.cells C.toArray 47 (0, 0)) := (hbl.block g hgN).trans hg
  have hBN : W0.heap.size ≤ w.heap.size := hB.size
  have hvne : vb ≠ w.heap.size := by omega
  have hgne : g ≠ w.heap.size := by omega
  generalize w.heap.size = N at *
  have hw1 : IntKind.i64.wrap ((i : Int) + 1) = (i : Int) + 1 := by rw [IntKind.wrap_i64]; omega
  have hb1 : (0 : Int) ≤ (i : Int) + 1 := by omega
  have htn : ((i : Int) + 1).toNat = i + 1 := by omega
  have hz2 : ¬ ((i : Int) = (n : Int)) := by omega
  have hz3 : (c : Int) < (n : Int) + 1 := by omega
  have hb3 : (i : Int) ≤ (n : Int) := by omega
  have hGi : ¬ (G = i) := by omega
  have hGim : ¬ (G = i + 1) := by omega
  have hci : ¬ (c = i) := by omega
  have hfit : i * 5 + 5 ≤ R.length := by omega
  clear hW1 hR hold hinf hz hz1 hik hkk hbl hx hg hgN hvN hB
  go_enter Tryz.func31, Tryz.ntmps31
  go_wp2_with (first
    | (at_builtin; refine Lib.wpList_append_run _ rfl _ _ _ _ rfl _ _ rfl rfl _ _ (hrz _) ?_)
    | (refine wpList_copyE rfl (.tmp 43) (.tmp 44) 34 34 rfl 47 Tryz.underlying34 5 gfSize N (i * 5) _ _ ⟨vb, 0, none⟩ _ _ rfl rfl R 47 hrow (gfE.c x) (by rw [gfE.len]; show 5 = Nat.min 1 (n + 1 - i) * 5; simp only [Nat.min_def]; split <;> omega) (fun j v hj => by rw [Addr.add_lit, Nat.zero_add]; exact (hx1.cell j).trans hj) (by rw [gfE.len]; exact hfit) (gfE.one x) W0.heap.size W0 hB1 hBN ?_; intro w5 hg5 hb5 hk5))
  obtain ⟨S, hS⟩ : ∃ S, splice R (i * 5) (gfE.c x) = S := ⟨_, rfl⟩
  rw [hS] at hg5
  have hSl : S.length = R.length := by rw [← hS]; exact length_splice _ _ _ (by rw [gfE.len]; exact hfit)
  have HS := Lib.hid hS
  have hgd : w5.drew.heap[N]? = some (.cells S.toArray 47 (0, 0)) := hg5.out
  have hsd : ∀ j v, D[j]? = some v → w5.drew.cell? ((⟨g, i * 5, none⟩ : Addr).add j) = some v := gf_get (w := w5.drew) ((hk5 g hgne).trans hg1) (i * 5) D hDs
  have hBd := hb5.drew
  have hfit2 : i * 5 + 5 + D.length ≤ S.length := by omega
  clear hS hg1 hx1 hrow hB1 hb5 hk5 hrz
  go_region_law (refine step_copyE rfl (.tmp 50) (.tmp 53) 34 34 rfl 47 Tryz.underlying34 5 gfSize N (i * 5 + 5) (n - i) (G - (i + 1)) ⟨g, i * 5, none⟩ (n - i) (c - i) (by simp [Act.eval, Act.put]) (by simp [Act.eval, Act.put]) S 47 hgd D (by rw [hDl]; simp only [Nat.min_def]; split <;> omega) hsd hfit2 hD1 W0.heap.size W0 hBd hBN ?_; intro w6 hg6 hb6 _)
  clear hgd hsd hBd
  go_wp2_with fail
  go_ret
  refine ⟨_, rfl, ?_, hb6⟩
  have hlen : (l.take i ++ [x] ++ l.drop i).length = n + 1 := by
    have := HN.out
    simp only [List.length_append, List.length_take, List.length_drop, List.length_singleton]; omega
  have hfin := new_in R D (gfE.c x) (i * 5) 5 (gfE.len x) (by omega)
  rw [HS.out, show i * 5 + 5 + D.length = (n + 1) * 5 by omega] at hfin
  have hown := gf_own (c := G) (l := l.take i ++ [x] ++ l.drop i) hBN hg6.out (by omega) hGm (by rw [length_splice _ _ _ hfit2, hSl, hRl]) (by
    rw [hlen, hfin, gf_in, HD.out, HT.out, hRT])
  rw [hlen] at hown
  exact hown

theorem gfInsert_any (W0 w : World) (hB : Below W0.heap.size W0 w) (g c : Nat) (l : List Gf) (i : Nat) (x : Gf) (vb : Nat) (hO : gfE.Own w W0.heap.size (.slice (some ⟨g, 0, none⟩) l.length c) l) (hi : i < l.length) (hl : l.length ≤ 1000) (hx : gfE.In w vb x) (hne : vb ≠ g) :
    Calls Tryz.prog 31 #[.slice (some ⟨g, 0, none⟩) l.length c, .int .i64 i, .slice (some ⟨vb, 0, none⟩) 1 1] w fun e w' => ∃ v, e = .returned v ∧ gfE.Own w' W0.heap.size v (l.take i ++ [x] ++ l.drop i) ∧ Below W0.heap.size W0 w' := by
  by_cases h : l.length + 1 ≤ c
  · exact insRoom_any W0 w hB g c l i x vb hO hi hl hx hne h
  · exact insGrow_any W0 w hB g c l i x vb hO hi hl hx hne (by omega)
theorem own_atG {w : World} {B : Nat} {A : Option Addr} {c : Nat} {l : List Gf} (h : gfE.Own w B (.slice A l.length c) l) (h0 : 0 < l.length) : ∃ g, A = some ⟨g, 0, none⟩ := by
  rcases h.2 with ⟨e, e2⟩ | ⟨g, cap, cur, e, _⟩
  · omega
  · injection e with e1
    exact ⟨g, e1⟩
theorem idxG_none {l : List Gf} {d : Int} (h : ¬ cutG l d < l.length) : idxG l d = -1 := if_neg h
theorem idxG_at {l : List Gf} {d : Int} (h : cutG l d < l.length) : idxG l d = (cutG l d : Int) := if_pos h

set_option maxRecDepth 100000 in
set_option maxHeartbeats 4000000 in
theorem pMergeG_any (A : Option Addr) (c : Nat) (l : List Gf) (g : Gf) (w : World) (hl : l.length ≤ 1000) (hT0 : SlV gfE w A c l) : Calls Tryz.prog 13 #[.slice A l.length c, .agg #[.int .i64 g.d, .int .i64 g.i, .int .i64 g.c, .int .i64 g.t, .string g.s]] w fun e w' => ∃ (A' : Option Addr) (c' : Nat), e = .returned (.slice A' (mergeG l g).length c') ∧ SlV gfE w' A' c' (mergeG l g) ∧ Below w.heap.size w w' := by
  have hP : gfE.In (w.alloc (.cells #[.int .i64 g.d, .int .i64 g.i, .int .i64 g.c, .int .i64 g.t, .string g.s] 47)) w.heap.size g := El.In.new (E := gfE) w g _ rfl
  have hB := below_alloc (Below.refl w.heap.size w) (.cells #[.int .i64 g.d, .int .i64 g.i, .int .i64 g.c, .int .i64 g.t, .string g.s] 47)
  have C1 := Lib.hid (cloneGf_any A c l _ hl (SlV.below hT0 hB))
  clear hT0
  go_enter Tryz.func13, Tryz.ntmps13
  go_upto_region 1 with fail
  generalize w.alloc (.cells #[.int .i64 g.d, .int .i64 g.i, .int .i64 g.c, .int .i64 g.t, .string g.s] 47) = W at *
  obtain ⟨n1, hn1⟩ : ∃ n, w.heap.size = n := ⟨_, rfl⟩
  rw [hn1] at hP ⊢
  clear hn1
  have hlt := hP.lt
  have hws := hB.size
  go_wp2_with fail
  refine C1.out.mono ?_
  rintro e w2 ⟨v, rfl, hO, hb2⟩
  replace hP := hP.below hb2
  obtain ⟨A', c', rfl, hS⟩ := SlV.own hO
  have C2 := Lib.hid (pMergeIdx_any A' c' l n1 g w2 hl hP hS.1)
  clear C1 hS
  go_wp2_with fail
  refine C2.out.mono ?_
  rintro e w3 ⟨rfl, hb3⟩
  replace hP := hP.below hb3
  replace hO := hO.below hb3
  replace hb2 := below_then hb2 hb3
  clear hb3 C2
  by_cases hc : cutG l g.d < l.length
  · rw [idxG_at hc]
    obtain ⟨gb, rfl⟩ := own_atG hO (by omega)
    have hle := cutG_at l g.d hc
    have hnew := mergeG_new l g
    have hold := mergeG_old l g hc
    generalize cutG l g.d = k at *
    have hat : gfE.At w3 gb (k * 5) l[k] := by
      obtain ⟨A2, c2, e2, hS2, _⟩ := SlV.own hO
      injection e2 with e3
      subst e3
      obtain ⟨b, off, eA, _, hcc⟩ := hS2 (by omega)
      injection eA with eA
      injection eA with eb eo
      subst eb eo
      have h := hcc k hc
      rw [Nat.zero_add] at h
      exact h
    have hbr := (hO.lt gb rfl).2
    have hx := gfIdxH (A := some ⟨gb, 0, none⟩) (b := gb) (off := 0) (cap := c') rfl hc
    simp only [Nat.zero_add] at hx
    obtain ⟨s0, s1, s2, s3, s4⟩ := gfAt5 hat
    obtain ⟨q0, q1, q2, q3, q4⟩ := gfIn5 hP
    have f0 : decide ((k : Int) < 0) = false := decide_eq_false (by omega)
    have hki : (k : Int) < (l.length : Int) := by omega
    have HC := Lib.hid hc
    by_cases hd : g.d < l[k].d
    · have HV := Lib.hid (hnew (fun _ => by omega))
      generalize hx0 : l[k].d = x0 at *
      have g5 : decide (g.d < x0) = true := decide_eq_true hd
      clear hd hx0 hat hold hnew hle
      go_wp2_with fail
      go_quiet (fail)
      replace hb2 := below_drew hb2 nq
      replace hP : gfE.In (w3.drewN nq) n1 g := hP
      replace hO := hO.below (below_drew (Below.refl w3.heap.size w3) nq)
      replace hbr : gb < (w3.drewN nq).heap.size := hbr
      clear s0 s1 s2 s3 s4 q0 q1 q2 q3 q4 g5 hx
      generalize w3.drewN nq = V at *
      have hal := below_alloc (Below.refl V.heap.size V) (.cells #[.int .i64 g.d, .int .i64 g.i, .int .i64 g.c, .int .i64 g.t, .string g.s] 47)
      have hX : gfE.In (V.alloc (.cells #[.int .i64 g.d, .int .i64 g.i, .int .i64 g.c, .int .i64 g.t, .string g.s] 47)) V.heap.size g := El.In.new (E := gfE) V g _ rfl
      have CI := Lib.hid (gfInsert_any W _ (below_then hb2 hal) gb c' l k g V.heap.size (hO.below hal) hc hl hX (by omega))
      clear hX hal hO
      go_wp2_with (first | (refine El.load gfRow rfl _ rfl n1 0 rfl g hP.at #[.int .i64 g.d, .int .i64 g.i, .int .i64 g.c, .int .i64 g.t, .string g.s] rfl ?_) | (go_at_call 31; (with_reducible refine CI.out.mono ?_); rintro e w6 ⟨v6, rfl, hO6, hb6⟩))
      rw [← HV.out] at hO6
      obtain ⟨A6, c6, rfl, hS6⟩ := SlV.own hO6
      go_ret
      exact ⟨A6, c6, rfl, hS6, hB.trans (hb6.mono hB.size)⟩
    · have he : l[k].d = g.d := by omega
      have HM := Lib.hid (hold he)
      obtain ⟨bn, hbn⟩ : ∃ bn, newG g l[k] = bn := ⟨_, rfl⟩
      generalize l[k] = x at *
      have g5 : decide (g.d < x.d) = false := decide_eq_false hd
      have CN := Lib.hid (fun wx => (by
        have h := pNewerG_any g x wx
        rw [hbn] at h
        exact h : Calls Tryz.prog 32 #[.agg #[.int .i64 g.d, .int .i64 g.i, .int .i64 g.c, .int .i64 g.t, .string g.s], .agg #[.int .i64 x.d, .int .i64 x.i, .int .i64 x.c, .int .i64 x.t, .string x.s]] wx fun e w' => e = .returned (.bool bn) ∧ Below wx.heap.size wx w'))
      have HM2 := Lib.hid (show mergeG l g = if bn = true then l.set k g else l by rw [← hbn]; exact HM.out)
      clear hd he hold hnew hle HM hbn
      go_wp2_with fail
      go_quiet (fail)
      replace hb2 := below_drew hb2 nq
      replace hP : gfE.In (w3.drewN nq) n1 g := hP
      replace hat : gfE.At (w3.drewN nq) gb (k * 5) x := hat
      replace hO := hO.below (below_drew (Below.refl w3.heap.size w3) nq)
      replace hbr : gb < (w3.drewN nq).heap.size := hbr
      clear s0 s1 s2 s3 s4 q0 q1 q2 q3 q4 g5
      go_wp2_with fail
      generalize w3.drewN nq = V at *
      replace hP : gfE.In V.drew n1 g := hP
      replace hat : gfE.At V.drew gb (k * 5) x := hat
      replace hO : gfE.Own V.drew W.heap.size (.slice (some ⟨gb, 0, none⟩) l.length c') l := hO
      replace hb2 := hb2.drew
      replace hbr : gb < V.drew.heap.size := hbr
      go_region_held3 (fun w' => (w'.cell? ⟨n1, 0, none⟩ = some (.int .i64 g.d) ∧ w'.cell? ⟨n1, 1, none⟩ = some (.int .i64 g.i) ∧ w'.cell? ⟨n1, 2, none⟩ = some (.int .i64 g.c) ∧ w'.cell? ⟨n1, 3, none⟩ = some (.int .i64 g.t) ∧ w'.cell? ⟨n1, 4, none⟩ = some (.string g.s)) ∧ (w'.cell? ⟨gb, k * 5, none⟩ = some (.int .i64 x.d) ∧ w'.cell? ⟨gb, k * 5 + 1, none⟩ = some (.int .i64 x.i) ∧ w'.cell? ⟨gb, k * 5 + 2, none⟩ = some (.int .i64 x.c) ∧ w'.cell? ⟨gb, k * 5 + 3, none⟩ = some (.int .i64 x.t) ∧ w'.cell? ⟨gb, k * 5 + 4, none⟩ = some (.string x.s))) (with_reducible exact ⟨gfIn5 hP, gfAt5 hat⟩) (first | (go_at_call 32; (with_reducible refine (CN.out _).mono ?_); rintro e w6 ⟨rfl, hb6⟩; replace hP := hP.below hb6; replace hat := hat.below hb6 hbr; replace hO := hO.below hb6; replace hb2 := below_then hb2 hb6; clear hb6))
      cases bn
      · have hm := HM2.out
        rw [if_neg (by decide)] at hm
        have HV := Lib.hid hm
        clear hm hat
        go_wp2_with fail
        obtain ⟨A6, c6, e6, hS6⟩ := SlV.own hO
        injection e6 with e7 _ e8
        subst e7 e8
        go_ret
        exact ⟨some ⟨gb, 0, none⟩, c', by rw [HV.out]; rfl, by rw [HV.out]; exact hS6, hB.trans (hb2.mono hB.size)⟩
      · have hm := HM2.out
        rw [if_pos rfl] at hm
        have HV := Lib.hid hm
        clear hm hat
        go_wp2_with (first | (refine El.load gfRow rfl _ rfl n1 0 rfl g hP.at #[.int .i64 g.d, .int .i64 g.i, .int .i64 g.c, .int .i64 g.t, .string g.s] rfl ?_) | (refine El.wpList_setAt gfRow rfl _ _ rfl W.heap.size gb c' k l g hO HC.out #[.int .i64 g.d, .int .i64 g.i, .int .i64 g.c, .int .i64 g.t, .string g.s] rfl rfl rfl ?_; intro w7 hO7 hg7 _) | fail)
        obtain ⟨A6, c6, e6, hS6⟩ := SlV.own hO7
        injection e6 with e7 _ e8
        subst e7 e8
        go_ret
        exact ⟨some ⟨gb, 0, none⟩, c', by rw [HV.out, List.length_set]; rfl, by rw [HV.out]; exact hS6, hB.trans ((hb2.grown hg7 hb2.size (fun k hk => by have := hO.rows k (by rw [← hk]; rfl); omega)).mono hB.size)⟩
  · rw [idxG_none hc]
    have hk : cutG l g.d = l.length := by have := cutG_le l g.d; omega
    have HV := Lib.hid (show mergeG l g = l ++ [g] by
      rw [mergeG_new l g (fun h => absurd h hc), hk, List.take_length, List.drop_length, List.append_nil])
    clear hc hk
    have hal := below_alloc (Below.refl w3.heap.size w3) (.cells #[.int .i64 g.d, .int .i64 g.i, .int .i64 g.c, .int .i64 g.t, .string g.s] 47)
    have he : gfE.Sl (w3.alloc (.cells #[.int .i64 g.d, .int .i64 g.i, .int .i64 g.c, .int .i64 g.t, .string g.s] 47)) (some ⟨w3.heap.size, 0, none⟩) [g] := (El.In.new (E := gfE) w3 g _ rfl).sl
    replace hO := hO.below hal
    replace hb2 := below_then hb2 hal
    have hBs := hb2.size
    clear hal
    go_wp2_with (first | (refine El.load gfRow rfl _ rfl n1 0 rfl g hP.at #[.int .i64 g.d, .int .i64 g.i, .int .i64 g.c, .int .i64 g.t, .string g.s] rfl ?_) | (at_builtin; refine El.wpList_app gfInn rfl _ _ rfl W.heap.size _ l [g] rfl hO (some ⟨w3.heap.size, 0, none⟩) 1 1 rfl rfl he (fun e => by cases e) (by rw [List.length_singleton]; omega) hBs ?_; intro v' w5 hO5 hg5 _) | fail)
    rw [← HV.out] at hO5
    obtain ⟨A5, c5, rfl, hS5⟩ := SlV.own hO5
    go_ret
    exact ⟨A5, c5, rfl, hS5, hB.trans ((hb2.grown hg5 hb2.size (fun k hk => hO.rows k hk)).mono hB.size)⟩
end Go.Proofs.YtfpgfclmmdihjaaGreat

/- The program's Freeze. -/
namespace Go.Proofs.YtfpgfclmmdihjaaGreat
open Go.RowKit Nam Cod Tre Pst

set_option maxRecDepth 100000 in
set_option maxHeartbeats 8000000 in
theorem pFreeze_any (pos clock : Int) (y : Pw) (A : Option Addr) (c : Nat) (l : List Cn) (w : World) (h1 : i64 pos) (h2 : i64 clock) (hI : PInv y.v) (hl60 : y.ops.length ≤ 60) (hok : PastOk w y) (hl : l.length ≤ 1000) (hw : ∀ c ∈ l, CnW c) (hT : cnE.Sl w A l) : Calls Tryz.prog 12 #[.int .i64 pos, .int .i64 clock, .agg #[.slice y.bA y.base.length y.bc, .int .i64 y.t, .slice y.oA y.ops.length y.oc, .slice y.uA y.us.length y.uc, .slice y.wA y.now.length y.wc], .slice A l.length c] w fun e w' => e = .returned (.string (snBytes ⟨pos, clock, y.v, l⟩)) ∧ Below w.heap.size w w' := by
  have HT := Lib.hid hT
  have HW := Lib.hid hw
  have hP : pwE.In ((w.alloc (.cells #[.slice y.bA y.base.length y.bc, .int .i64 y.t, .slice y.oA y.ops.length y.oc, .slice y.uA y.us.length y.uc, .slice y.wA y.now.length y.wc] 39)).alloc (.cells #[.pointer none, .slice none 0 0] 73)) w.heap.size y := (El.In.new (E := pwE) w y _ rfl).alloc _
  have hbd := builder_new (w.alloc (.cells #[.slice y.bA y.base.length y.bc, .int .i64 y.t, .slice y.oA y.ops.length y.oc, .slice y.uA y.us.length y.uc, .slice y.wA y.now.length y.wc] 39))
  have hB := below_alloc (below_alloc (Below.refl w.heap.size w) (.cells #[.slice y.bA y.base.length y.bc, .int .i64 y.t, .slice y.oA y.ops.length y.oc, .slice y.uA y.us.length y.uc, .slice y.wA y.now.length y.wc] 39)) (.cells #[.pointer none, .slice none 0 0] 73)
  have hL : w.heap.size + 1 < ((w.alloc (.cells #[.slice y.bA y.base.length y.bc, .int .i64 y.t, .slice y.oA y.ops.length y.oc, .slice y.uA y.us.length y.uc, .slice y.wA y.now.length y.wc] 39)).alloc (.cells #[.pointer none, .slice none 0 0] 73)).heap.size := by rw [alloc_size, alloc_size]; omega
  rw [alloc_size] at hbd
  have C1 := Lib.hid (fun wx => num_any pos wx h1.1 h1.2)
  have C2 := Lib.hid (fun wx => num_any clock wx h2.1 h2.2)
  have C4 := Lib.hid (fun wx => num_any (l.length : Int) wx (by omega) (by omega))
  have C3 := Lib.hid (fun wx (hb : Below w.heap.size w wx) => pPrint_any y wx (hok.below hb) (by have := tree_len hI.tree; exact Nat.le_trans this (by decide)) (by omega) (tree_fit hI.tree) (by have := hI.t0; have := hI.t1; show i64 y.v.t; unfold i64; omega) hI.ok (tree_bytes hI.tree))
  have z1 := bytesOf_le10 h1
  have z2 := bytesOf_le10 h2
  have z4 := bytesOf_le10 (n := (l.length : Int)) (by unfold i64; omega)
  have z3 := past_le hI hl60
  have HV := Lib.hid (show snBytes ⟨pos, clock, y.v, l⟩ = bytesOf pos ++ bytesOf clock ++ pastBytes y.v ++ bytesOf l.length ++ cnK.cat l by unfold snBytes Kd.part; simp only [ByteArray.append_assoc])
  have HC := Lib.hid (cnCat_le hw)
  generalize pastBytes y.v = x3 at *
  generalize bytesOf pos = x1 at *
  generalize bytesOf clock = x2 at *
  generalize bytesOf (l.length : Int) = x4 at *
  have y1 : ¬ 9223372036854775807 < x1.size + x2.size := by omega
  have y2 : ¬ 9223372036854775807 < x1.size + x2.size + x3.size := by omega
  have y3 : ¬ 9223372036854775807 < x1.size + x2.size + x3.size + x4.size := by omega
  clear hI hok hw hT
  go_enter Tryz.func12, Tryz.ntmps12
  go_wp2_with fail
  generalize (w.alloc (.cells #[.slice y.bA y.base.length y.bc, .int .i64 y.t, .slice y.oA y.ops.length y.oc, .slice y.uA y.us.length y.uc, .slice y.wA y.now.length y.wc] 39)).alloc (.cells #[.pointer none, .slice none 0 0] 73) = W at *
  obtain ⟨nb, hnb⟩ : ∃ n, w.heap.size + 1 = n := ⟨_, rfl⟩
  obtain ⟨n1, hn1⟩ : ∃ n, w.heap.size = n := ⟨_, rfl⟩
  have hne : n1 ≠ nb := by omega
  have hwb : w.heap.size ≤ nb := by omega
  rw [hnb] at hbd hL ⊢
  rw [hn1] at hP ⊢
  clear hn1 hnb
  replace hP : pwE.In W.drew n1 y := hP
  replace hbd : Lib.IsBuilder 73 5 nb nb [] W.drew := hbd
  replace hB := hB.drew
  replace hL : nb < W.drew.heap.size := hL
  go_region_held3 (fun w' => w'.cell? ⟨n1, 0, none⟩ = some (.slice y.bA y.base.length y.bc) ∧ w'.cell? ⟨n1, 1, none⟩ = some (.int .i64 y.t) ∧ w'.cell? ⟨n1, 2, none⟩ = some (.slice y.oA y.ops.length y.oc) ∧ w'.cell? ⟨n1, 3, none⟩ = some (.slice y.uA y.us.length y.uc) ∧ w'.cell? ⟨n1, 4, none⟩ = some (.slice y.wA y.now.length y.wc)) (with_reducible exact pwIn5 hP) (first | (go_at_call 25; (with_reducible first | refine (C1.out _).mono ?_ | refine (C2.out _).mono ?_ | refine (C4.out _).mono ?_); rintro e w3 ⟨rfl, hb3⟩; replace hP := hP.below hb3; replace hbd := builder_below hbd hb3; replace hB := below_then hB hb3; replace hL := Nat.lt_of_lt_of_le hL hb3.size) | (go_at_call 26; (with_reducible refine (C3.out _ hB).mono ?_); rintro e w3 ⟨rfl, hb3⟩; replace hP := hP.below hb3; replace hbd := builder_below hbd hb3; replace hB := below_then hB hb3; replace hL := Nat.lt_of_lt_of_le hL hb3.size) | (go_at_call 24; (with_reducible refine (wstr_any _ _ _ _ _ hbd (by simp [ByteArray.size_append]; omega) (Nat.le_of_lt hL)).mono ?_); rintro e w4 ⟨rfl, hbd4, hN4, hr4⟩; replace hP : pwE.In w4 n1 y := (hr4 n1 _ _ _ hP hne (by decide)).trans hP; replace hB := hB.trans (hN4.mono hwb)))
  all_goals
    have hX30 : (x1 ++ x2 ++ x3 ++ x4).size ≤ 300000 := by simp only [ByteArray.size_append]; omega
    rw [List.nil_append] at hbd4
    generalize x1 ++ x2 ++ x3 ++ x4 = N at *
    have hbd5 : Lib.IsBuilder 73 5 nb nb (Lib.strCells (N ++ cnK.cat (l.take 0))) w4 := by
      rw [List.take_zero, show N ++ cnK.cat [] = N from L_inj (by rw [L_app]; show L N ++ L ⟨#[]⟩ = _; simp [L])]
      exact hbd4
    clear hbd4 hbd hL C1 C2 C3 C4 z1 z2 z3 z4 y1 y2 y3 hr4 hN4 hP
    go_wp2_with fail
    go_loopw [27] (fun i wr => ∃ k : Nat, k ≤ l.length ∧ i = .int .i64 k ∧ Lib.IsBuilder 73 5 nb nb (Lib.strCells (N ++ cnK.cat (l.take k))) wr ∧ Below w.heap.size w wr) (fun i _ => l.length - (intOf i).toNat)
    case atStart => exact ⟨0, Nat.zero_le _, rfl, hbd5, hB⟩
    case round =>
      clear hbd5 hB
      obtain ⟨k, hk, rfl, hbd, hB⟩ := hrel
      have hlt : nb < wr.heap.size := by rcases hbd with h | h <;> exact h.lt
      by_cases hkl : k < l.length
      · obtain ⟨b, off, eA, hbw, hc⟩ := HT.out (by omega)
        have hx := cnIdxF (cap := c) eA hkl
        have hat : cnE.At wr b (off + k * 3) l[k] := (hc k hkl).below hB hbw
        have hzk := HC.out k
        have HNX := Lib.hid (show N ++ cnK.cat (l.take (k + 1)) = N ++ cnK.cat (l.take k) ++ cnBytes l[k] by rw [cnK.cat_next l k hkl, ByteArray.append_assoc]; rfl)
        obtain ⟨i1, i2, i3⟩ := HW.out l[k] (List.getElem_mem _)
        generalize l[k] = x at *
        have hss : (N ++ cnK.cat (l.take k)).size = N.size + (cnK.cat (l.take k)).size := ByteArray.size_append
        generalize N ++ cnK.cat (l.take k) = Z at *
        have D1 := Lib.hid (fun wx => num_any x.d wx i1.1 i1.2)
        have D2 := Lib.hid (fun wx => num_any x.i wx i2.1 i2.2)
        have D3 := Lib.hid (fun wx => num_any x.n wx i3.1 i3.2)
        have z1 := bytesOf_le10 i1
        have z2 := bytesOf_le10 i2
        have z3 := bytesOf_le10 i3
        have HX := Lib.hid (show cnBytes x = bytesOf x.d ++ bytesOf x.i ++ bytesOf x.n from rfl)
        generalize cnBytes x = Bx at *
        generalize bytesOf x.d = x1 at *
        generalize bytesOf x.i = x2 at *
        generalize bytesOf x.n = x3 at *
        have HNV := Lib.hid (show N ++ cnK.cat (l.take (k + 1)) = Z ++ (x1 ++ x2 ++ x3) by rw [HNX.out, HX.out])
        have hZs : Z.size ≤ 400000 := by omega
        have y1 : ¬ 9223372036854775807 < x1.size + x2.size := by omega
        have y2 : ¬ 9223372036854775807 < x1.size + x2.size + x3.size := by omega
        have hE : cnE.In (wr.alloc (.cells #[.int .i64 x.d, .int .i64 x.i, .int .i64 x.n] 55)) wr.heap.size x := El.In.new (E := cnE) wr x _ rfl
        have hal := below_alloc (Below.refl wr.heap.size wr) (.cells #[.int .i64 x.d, .int .i64 x.i, .int .i64 x.n] 55)
        have hne2 : wr.heap.size ≠ nb := by omega
        replace hbd := builder_below hbd hal
        replace hB := below_then hB hal
        replace hlt := Nat.lt_of_lt_of_le hlt hal.size
        clear hc eA i1 i2 i3 hss hzk HNX HX hal
        go_upto_region 6 with (first | (refine El.load cnRow rfl _ rfl b (off + k * 3) rfl x hat #[.int .i64 x.d, .int .i64 x.i, .int .i64 x.n] rfl ?_) | fail)
        generalize wr.alloc (.cells #[.int .i64 x.d, .int .i64 x.i, .int .i64 x.n] 55) = V at *
        generalize wr.heap.size = nx at *
        replace hE : cnE.In V.drew nx x := hE
        replace hbd : Lib.IsBuilder 73 5 nb nb (Lib.strCells Z) V.drew := hbd
        replace hB := hB.drew
        replace hlt : nb < V.drew.heap.size := hlt
        clear hat hx hbw
        go_region_held3 (fun w' => w'.cell? ⟨nx, 0, none⟩ = some (.int .i64 x.d) ∧ w'.cell? ⟨nx, 1, none⟩ = some (.int .i64 x.i) ∧ w'.cell? ⟨nx, 2, none⟩ = some (.int .i64 x.n)) (with_reducible exact cnIn3 hE) (first | (go_at_call 25; (with_reducible first | refine (D1.out _).mono ?_ | refine (D2.out _).mono ?_ | refine (D3.out _).mono ?_); rintro e w3 ⟨rfl, hb3⟩; replace hE := hE.below hb3; replace hbd := builder_below hbd hb3; replace hB := below_then hB hb3; replace hlt := Nat.lt_of_lt_of_le hlt hb3.size) | (go_at_call 24; (with_reducible refine (wstr_any _ _ _ _ _ hbd (by simp only [Lib.strCells_length, ByteArray.size_append]; omega) (Nat.le_of_lt hlt)).mono ?_); rintro e w5 ⟨rfl, hbd5, hN5, hr5⟩; replace hE : cnE.In w5 nx x := (hr5 nx _ _ _ hE hne2 (by decide)).trans hE; replace hB := hB.trans (hN5.mono hwb)))
        all_goals
          rw [← strCells_app, ← HNV.out] at hbd5
          clear hE hbd hlt y1 y2 D1 D2 D3 hr5 hN5
          go_wp2_with fail
          exact ⟨⟨k + 1, by omega, by go_num, hbd5, hB⟩, by simp [intOf]; omega⟩
      · obtain rfl : k = l.length := by omega
        rw [List.take_length, ← HV.out] at hbd
        have C := builder_String_any nb nb (L (snBytes ⟨pos, clock, y.v, l⟩)) wr hbd (Nat.le_of_lt hlt)
        have he : (⟨(L (snBytes ⟨pos, clock, y.v, l⟩)).toArray⟩ : ByteArray) = snBytes ⟨pos, clock, y.v, l⟩ := back_L _
        rw [he] at C
        have HC := Lib.hid C
        clear C he hbd
        go_wp2_with fail
        refine HC.out.mono ?_
        rintro r w5 ⟨rfl, hb5⟩
        go_wp2_with fail
        go_ret
        exact ⟨rfl, hB.trans (hb5.mono hwb)⟩
end Go.Proofs.YtfpgfclmmdihjaaGreat

/- The program's readOps of a past, of any bytes. -/
namespace Go.Proofs.YtfpgfclmmdihjaaGreat
open Go.RowKit Tre Cod Nam

theorem cntT_m {w : World} {b p : Nat} {s : ByteArray} {bad : Bool} (most : Nat) (hs : s.size ≤ 1000000) (hp : p ≤ s.size) (hr : Rd 60 w b s p bad) :
    Calls Tryz.prog 15 #[.pointer (some ⟨b, 0, none⟩), .int .i64 most] w fun e w' => ∃ v q bad', e = .returned (.int .i64 (v : Nat)) ∧ v ≤ most ∧ Rd 60 w' b s q bad' ∧ q ≤ s.size ∧ w.grownBy w' (some b) ∧ cStepF most s p bad v q bad' := by
  rcases h : isCount s p bad most with _ | ⟨v, q⟩
  · exact (count_no hs hp hr h).mono fun e w' ⟨he, ⟨q, hq, hr'⟩, hg⟩ => ⟨0, q, true, he, by omega, hr', hq, hg, Or.inr ⟨h, rfl, rfl⟩⟩
  · obtain ⟨h1, h2, h3⟩ := isCount_some h
    obtain ⟨n, rfl⟩ : ∃ n : Nat, v = n := ⟨v.toNat, by omega⟩
    exact (count_yes hs hp hr h).mono fun e w' ⟨he, hr', hg⟩ => ⟨n, q, false, he, by omega, hr', (isNum_some h1).2.2.1, hg, Or.inl ⟨h, rfl⟩⟩
theorem opStay {s : ByteArray} {p : Nat} {o : Mv} {q : Nat} {b : Bool} (h : opStep s p true o q b) : b = true := by
  rcases h with ⟨h, _⟩ | ⟨_, _, h⟩
  · unfold isOp at h
    rw [isNum_bad] at h; cases h
  · exact h
theorem opsNext {s : ByteArray} {p : Nat} {bad : Bool} {n : Nat} {l : List Mv} {q : Nat} {bd : Bool} {o : Mv} {q2 : Nat} {b2 : Bool} (h : pAt opK 4096 s p bad n l q bd) (hj : l.length < n) (hx : opStep s q bd o q2 b2) : pAt opK 4096 s p bad n (l ++ [o]) q2 b2 := by
  cases bd
  · exact h.next hj (hx.imp (fun h => h) (fun h => ⟨h.1, h.2.2⟩))
  · rcases h with ⟨h, _⟩ | ⟨_, h⟩
    · cases h
    · exact Or.inr ⟨opStay hx, h⟩
set_option maxRecDepth 100000 in
set_option maxHeartbeats 4000000 in
theorem pReadOps_uni {w : World} {b p : Nat} {s : ByteArray} {bad : Bool} (hs : s.size ≤ 1000000) (hp : p ≤ s.size) (hr : Rd 60 w b s p bad) :
    Calls Tryz.prog 38 #[.pointer (some ⟨b, 0, none⟩)] w fun e w' => ∃ A c l q bd, e = .returned (.slice A l.length c) ∧ SlV opE w' A c l ∧ Frs w.heap.size A ∧ l.length ≤ 4096 ∧ Rd 60 w' b s q bd ∧ q ≤ s.size ∧ w.grownBy w' (some b) ∧ pStep opK 4096 s p bad l q bd := by
  have hbw := hr.lt
  go_enter Tryz.func38, Tryz.ntmps38
  go_wp2_with fail
  refine (cntT_m 4096 hs hp hr).mono ?_
  rintro e w1 ⟨n, q0, b0, rfl, hn, hR, hq0, hG, hst⟩
  have HS := Lib.hid (pAt.start (K := opK) hst)
  have hsz := hG.size
  clear hr hst
  go_wp2_with (at_make; refine El.wpList_make opInn zeroMv op_zero rfl _ _ rfl w.heap.size 0 n rfl rfl (by omega) (Nat.zero_le _) hsz ?_; intro w2 hO hg2 hg2s)
  replace hO : opE.Own w2 w.heap.size (.slice (some ⟨w1.heap.size, 0, none⟩) 0 n) [] := hO
  replace hR := hR.keep hg2 (by simp)
  replace hG := by_own hG hg2 (fun k e => by cases e)
  clear hg2 hg2s hsz
  generalize w1.heap.size = nb at *
  go_loopw [4, 10] (fun x y wr => ∃ (l : List Mv) (q : Nat) (bd : Bool), y = .int .i64 (l.length : Nat) ∧ Hid (l.length ≤ n) ∧ opE.Own wr w.heap.size x l ∧ Rd 60 wr b s q bd ∧ q ≤ s.size ∧ w.grownBy wr (some b) ∧ Hid (pAt opK 4096 s p bad n l q bd)) (fun _ y _ => n - (intOf y).toNat)
  case atStart => exact ⟨[], q0, b0, rfl, Lib.hid (Nat.zero_le _), hO, hR, hq0, hG, HS⟩
  case round =>
    clear hO hR hG HS hq0
    obtain ⟨l, q, bd, rfl, hl, hO, hR, hq, hG, HS⟩ := hrel
    by_cases hlt : l.length < n
    · have f5 : decide ((l.length : Int) < (n : Int)) = true := decide_eq_true (by omega)
      have f6 : decide (l.length < n) = true := decide_eq_true hlt
      have HLT := Lib.hid hlt
      have w1 : IntKind.i64.wrap ((l.length : Int) + 1) = ((l.length + 1 : Nat) : Int) := by rw [IntKind.wrap_i64]; omega
      clear hlt
      go_wp2_with fail
      refine (opRead_uni hs hq hR).mono ?_
      clear hR hq f5 f6
      rintro e w3 ⟨m, q2, b2, rfl, hR, hq, hg3, hst⟩
      have HN := Lib.hid (opsNext HS.out HLT.out hst)
      replace hO := hO.kept hg3 (Or.inr (fun e => by have := (hO.lt b e).1; omega))
      replace hG := by_trans hG hg3
      have hb4 := below_alloc (Below.refl _ w3) (.cells #[.int .i64 m.C, .int .i64 m.D, .int .i64 m.I, .int .i64 m.M, .int .i64 m.K, .int .i64 m.U, .string m.s] 102)
      have hE : opE.Sl (w3.alloc (.cells #[.int .i64 m.C, .int .i64 m.D, .int .i64 m.I, .int .i64 m.M, .int .i64 m.K, .int .i64 m.U, .string m.s] 102)) (some ⟨w3.heap.size, 0, none⟩) [m] := (El.In.new (E := opE) w3 m _ rfl).sl
      replace hO := hO.below hb4
      replace hR := hR.below hb4
      replace hG := by_trans hG (by_below hb4 _)
      have hB := hG.size
      clear hg3 hb4 hst HS
      go_wp2_with (at_builtin; refine El.wpList_app opInn rfl _ _ rfl w.heap.size _ l [m] rfl hO (some ⟨w3.heap.size, 0, none⟩) 1 1 rfl rfl hE (fun e => by cases e) (by have := HLT.out; rw [List.length_singleton]; omega) hB ?_; intro v' w5 hO5 hg5 _)
      replace hR := hR.keep hg5 (fun e => by have := (hO.lt b e.symm).1; omega)
      replace hG := by_own hG hg5 (fun k e => (hO.lt k e).1)
      go_wp2
      go_roundw
      case rel => exact ⟨l ++ [m], q2, b2, by rw [List.length_append]; rfl, Lib.hid (by have := HLT.out; rw [List.length_append, List.length_singleton]; omega), hO5, hR, hq, hG, HN⟩
      case measure => have := HLT.out; simp [intOf]; omega
    · have f5 : decide ((l.length : Int) < (n : Int)) = false := decide_eq_false (by omega)
      have f6 : decide (l.length < n) = false := decide_eq_false hlt
      have HPS := Lib.hid (show pStep opK 4096 s p bad l q bd by
        cases bd
        · exact HS.out.good hlt hl.out
        · exact HS.out.ill)
      have hl4 : l.length ≤ 4096 := by have := hl.out; omega
      obtain ⟨A, c, rfl, hS, h0, hc⟩ := hO.sl
      have HSL := Lib.hid (⟨⟨hS, h0, hc⟩, hO.frs⟩ : SlV opE wr A c l ∧ Frs w.heap.size A)
      clear hS h0 hc hO hlt
      go_wp2_with fail
      go_ret
      exact ⟨A, c, l, q, bd, rfl, HSL.out.1, HSL.out.2, hl4, hR, hq, hG, HPS.out⟩
end Go.Proofs.YtfpgfclmmdihjaaGreat

/- The program's Read of a past, of any bytes. -/
namespace Go.Proofs.YtfpgfclmmdihjaaGreat
open Go.RowKit Tre Cod Pst Nam

theorem past_partT {s : ByteArray} {p q1 q2 q3 : Nat} {bad b1 b2 : Bool} {base : List Pl} {t : Nat} {l : List Mv} (h1 : treeStep s p bad base q1 b1) (h2 : cStepF 1099511627776 s q1 b1 t q2 b2) (h3 : pStep opK 4096 s q2 b2 l q3 false) : isTree s p bad = some (base, q1) ∧ opK.isPart 4096 s q2 false = some (l, q3) ∧ isPast s p bad = if opsB l t = true then some (pastOf base t l, q3) else none := by
  rcases h3 with ⟨h3, _⟩ | ⟨_, h3⟩
  · rcases h2 with ⟨h2, rfl⟩ | ⟨_, _, rfl⟩
    · rcases h1 with ⟨h1, rfl⟩ | ⟨_, _, rfl⟩
      · refine ⟨h1, h3, ?_⟩
        unfold isPast
        rw [h1, Option.bind_some]
        dsimp only
        rw [h2, Option.bind_some]
        dsimp only
        rw [h3, Option.bind_some]
      · rw [isCount_badF] at h2; cases h2
    · unfold Kd.isPart at h3
      rw [isCount_badF] at h3; cases h3
  · cases h3
theorem past_illT {s : ByteArray} {p q1 q2 q3 : Nat} {bad b1 b2 : Bool} {base : List Pl} {t : Nat} {l : List Mv} (h1 : treeStep s p bad base q1 b1) (h2 : cStepF 1099511627776 s q1 b1 t q2 b2) (h3 : pStep opK 4096 s q2 b2 l q3 true) : isPast s p bad = none := by
  unfold isPast
  rcases h1 with ⟨h1, rfl⟩ | ⟨h1, _, _⟩
  · rw [h1, Option.bind_some]
    dsimp only
    rcases h2 with ⟨h2, rfl⟩ | ⟨h2, _, _⟩
    · rw [h2, Option.bind_some]
      dsimp only
      rcases h3 with ⟨_, h3⟩ | ⟨h3, _⟩
      · cases h3
      · rw [h3]; rfl
    · rw [h2]; rfl
  · rw [h1]; rfl
set_option maxRecDepth 100000 in
set_option maxHeartbeats 16000000 in
theorem pPastRead_uni (w : World) (b p : Nat) (s : ByteArray) (bad : Bool) (hs : s.size ≤ 1000000) (hp : p ≤ s.size) (hr : Rd 60 w b s p bad) (hfew : ∀ V q, isPast s p bad = some (V, q) → V.ops.length ≤ 800) :
    Calls Tryz.prog 16 #[.pointer (some ⟨b, 0, none⟩)] w fun e w' => ∃ (y : Pw) (q : Nat) (bd : Bool), e = .returned (.agg #[.slice y.bA y.base.length y.bc, .int .i64 y.t, .slice y.oA y.ops.length y.oc, .slice y.uA y.us.length y.uc, .slice y.wA y.now.length y.wc]) ∧ PastOk w' y ∧ Rd 60 w' b s q bd ∧ q ≤ s.size ∧ w.grownBy w' (some b) ∧ ((isPast s p bad = some (y.v, q) ∧ bd = false) ∨ (isPast s p bad = none ∧ y = Pw.zero ∧ bd = true)) := by
  have hbw := hr.lt
  have HF := Lib.hid hfew
  clear hfew
  go_enter Tryz.func16, Tryz.ntmps16
  go_upto_region 1 with fail
  have hZ : pwE.In (w.alloc (.cells #[.slice none 0 0, .int .i64 0, .slice none 0 0, .slice none 0 0, .slice none 0 0] 39)) w.heap.size Pw.zero := El.In.new (E := pwE) w Pw.zero #[.slice none 0 0, .int .i64 0, .slice none 0 0, .slice none 0 0, .slice none 0 0] rfl
  have hB := below_alloc (Below.refl w.heap.size w) (.cells #[.slice none 0 0, .int .i64 0, .slice none 0 0, .slice none 0 0, .slice none 0 0] 39)
  have hR := hr.below hB
  have hG := by_below hB (some b)
  have hsz : w.heap.size < (w.alloc (.cells #[.slice none 0 0, .int .i64 0, .slice none 0 0, .slice none 0 0, .slice none 0 0] 39)).heap.size := by rw [alloc_size]; omega
  obtain ⟨n2, h2⟩ : ∃ n, w.heap.size = n := ⟨_, rfl⟩
  have hn2 : w.heap.size ≤ n2 := by omega
  have e2 : b ≠ n2 := by omega
  have i2 : some n2 ≠ some b := fun e => e2 (Option.some.inj e).symm
  generalize w.alloc (.cells #[.slice none 0 0, .int .i64 0, .slice none 0 0, .slice none 0 0, .slice none 0 0] 39) = W0 at *
  have h20 : n2 < W0.heap.size := by omega
  have hb0 : b < W0.heap.size := by omega
  rw [h2] at hZ ⊢
  clear hB hr hsz
  go_wp2_with fail
  refine (treeRead_slv hs hp hR).mono ?_
  rintro e w1 ⟨A1, c1, base, q1, b1, rfl, hS1, hF1, hl64, hR, hq1, hg, st1⟩
  replace hZ := hZ.keep hg i2
  replace hG := by_trans hG hg
  have h01 := hg.size
  clear hg
  go_upto_region 2 with fail
  go_wp2_with fail
  refine (cntT_m 1099511627776 hs hq1 hR).mono ?_
  rintro e w2 ⟨t, q2, b2, rfl, ht, hR, hq2, hg, st2⟩
  replace hZ := hZ.keep hg i2
  replace hG := by_trans hG hg
  have hS2 := hS1.keep hF1 hg hb0
  have h02 := Nat.le_trans h01 hg.size
  clear hg hS1 h01
  go_upto_region 3 with fail
  go_wp2_with fail
  refine (pReadOps_uni hs hq2 hR).mono ?_
  rintro e w3 ⟨A3, c3, l, q, bd, rfl, hO, hFo, hl4, hR, hq, hg, st3⟩
  replace hZ := hZ.keep hg i2
  replace hG := by_trans hG hg
  have hS3 := hS2.keep hF1 hg hb0
  have h03 := Nat.le_trans h02 hg.size
  have HST := Lib.hid (And.intro st1 (And.intro st2 st3))
  clear hg hS2 st1 st2 st3
  go_upto_region 4 with fail
  obtain ⟨r0, r1, r2⟩ := hR.cells
  cases bd
  · have hpt := past_partT HST.out.1 HST.out.2.1 HST.out.2.2
    have hokl : ∀ m ∈ l, m.ok := fun m hm => (opK.part_bytes hpt.2.1).2.1 m hm
    have hiff := opsB_iff (t := (t : Int)) hokl
    obtain ⟨bv, hbv⟩ : ∃ bv, opsB l t = bv := ⟨_, rfl⟩
    rw [hbv] at hiff hpt
    have CR := rightOps_any A3 c3 l t w3 (by omega) (fun m hm => by have := (opB_wide (hokl m hm)).2.2.1; omega) hO.1 bv hiff
    have HP := Lib.hid hpt
    clear hpt hokl hiff hbv HST
    go_wp2_with fail
    refine CR.mono ?_
    rintro e w4 ⟨rfl, hb4⟩
    replace hZ := hZ.below hb4
    replace hR := hR.below hb4
    replace hG := by_trans hG (by_below hb4 (some b))
    have hO4 := hO.below hb4
    have hS4 := hS3.below hb4
    have h04 := Nat.le_trans h03 hb4.size
    clear CR hb4 hO hS3 r0 r1 r2
    cases bv
    · have HI := Lib.hid (show isPast s p bad = none from HP.out.2.2)
      obtain ⟨r0, r1, r2⟩ := hR.cells
      have rf := hR.frozen
      replace hZ := hZ.other b 2 (.bool true) (fun e => e2 e.symm)
      replace hG := by_set hG 2 (.bool true)
      replace hR := hR.setBad
      go_wp2_with (first | (refine El.store pwRow rfl _ _ rfl n2 Pw.zero #[.slice none 0 0, .int .i64 0, .slice none 0 0, .slice none 0 0, .slice none 0 0] rfl rfl rfl Pw.zero hZ ?_) | fail)
      refine El.ret1 pwRow (hZ.set Pw.zero _ rfl) rfl rfl rfl #[.slice none 0 0, .int .i64 0, .slice none 0 0, .slice none 0 0, .slice none 0 0] rfl ?_
      exact ⟨Pw.zero, q, true, rfl, PastOk.zero _, hR.row n2 _ e2, hq, by_setRow hG n2 _ hn2, Or.inr ⟨HI.out, rfl, rfl⟩⟩
    · have HI := Lib.hid (show isPast s p bad = some (pastOf base t l, q) from HP.out.2.2)
      have hl8 : l.length ≤ 800 := HF.out _ _ HI.out
      have hsr := (treeB_facts (isTree_tree HP.out.1)).2.1
      have CF := mvFold_any A1 c1 base A3 c3 l w4 (by omega) hsr hS4 hO4.1
      go_wp2_with fail
      refine CF.mono ?_
      rintro e w5 ⟨A5, c5, U5, uc5, rfl, hF1', hF2', hfr1, hfr2, hb5⟩
      replace hZ := hZ.below hb5
      replace hR := hR.below hb5
      replace hG := by_trans hG (by_below hb5 (some b))
      have hO5 := hO4.below hb5
      have hS5 := hS4.below hb5
      have HPO := Lib.hid (show (⟨base, t, l, (foldL base (mvs l)).2, (foldL base (mvs l)).1⟩ : Pv) = pastOf base t l from rfl)
      have h24 : n2 < w4.heap.size := by omega
      have h23 : n2 < w2.heap.size := by omega
      clear CF hb5 hO4 hS4
      generalize (foldL base (mvs l)).1 = now1 at *
      generalize (foldL base (mvs l)).2 = us1 at *
      go_wp2_with (first | (refine El.store pwRow rfl _ _ rfl n2 ⟨A1, c1, base, t, A3, c3, l, U5, uc5, us1, A5, c5, now1⟩ #[.slice A1 base.length c1, .int .i64 t, .slice A3 l.length c3, .slice U5 us1.length uc5, .slice A5 now1.length c5] rfl rfl rfl Pw.zero hZ ?_) | fail)
      refine El.ret1 pwRow (hZ.set ⟨A1, c1, base, t, A3, c3, l, U5, uc5, us1, A5, c5, now1⟩ _ rfl) rfl rfl rfl #[.slice A1 base.length c1, .int .i64 t, .slice A3 l.length c3, .slice U5 us1.length uc5, .slice A5 now1.length c5] rfl ?_
      exact ⟨⟨A1, c1, base, t, A3, c3, l, U5, uc5, us1, A5, c5, now1⟩, q, false, rfl, ⟨hS5.keep hF1 (by_row _ n2 _) h20, SlV.keep hO5 hFo (by_row _ n2 _) h23, hF2'.keep hfr2 (by_row _ n2 _) h24, hF1'.keep hfr1 (by_row _ n2 _) h24⟩, hR.row n2 _ e2, hq, by_setRow hG n2 _ hn2, Or.inl ⟨by rw [HI.out, ← HPO.out]; rfl, rfl⟩⟩
  · have HI := Lib.hid (show isPast s p bad = none from past_illT HST.out.1 HST.out.2.1 HST.out.2.2)
    clear HST
    have rf := hR.frozen
    replace hZ := hZ.other b 2 (.bool true) (fun e => e2 e.symm)
    replace hG := by_set hG 2 (.bool true)
    replace hR := hR.setBad
    go_wp2_with (first | (refine El.store pwRow rfl _ _ rfl n2 Pw.zero #[.slice none 0 0, .int .i64 0, .slice none 0 0, .slice none 0 0, .slice none 0 0] rfl rfl rfl Pw.zero hZ ?_) | fail)
    refine El.ret1 pwRow (hZ.set Pw.zero _ rfl) rfl rfl rfl #[.slice none 0 0, .int .i64 0, .slice none 0 0, .slice none 0 0, .slice none 0 0] rfl ?_
    exact ⟨Pw.zero, q, true, rfl, PastOk.zero _, hR.row n2 _ e2, hq, by_setRow hG n2 _ hn2, Or.inr ⟨HI.out, rfl, rfl⟩⟩
end Go.Proofs.YtfpgfclmmdihjaaGreat

/- The program's ReadCounts. -/
namespace Go.Proofs.YtfpgfclmmdihjaaGreat
open Go.RowKit Nam Cod

theorem two_cn (w : World) (a : Array Value) (T : TypeId) : cnE.In ((w.alloc (.cells a T)).alloc (.cells #[.int .i64 0, .int .i64 0, .int .i64 0] 55)) (w.heap.size + 1) zeroCn := by
  have h := El.In.new (E := cnE) (w.alloc (.cells a T)) zeroCn _ rfl
  rw [alloc_size] at h; exact h
set_option maxRecDepth 100000 in
set_option maxHeartbeats 8000000 in
theorem cnRead1_uni {w : World} {b p : Nat} {s : ByteArray} {bad : Bool} (hs : s.size ≤ 1000000) (hp : p ≤ s.size) (hr : Rd 60 w b s p bad) :
    Calls Tryz.prog 41 #[.pointer (some ⟨b, 0, none⟩)] w fun e w' => ∃ (x : Cn) (q : Nat) (bad' : Bool), e = .returned (.agg #[.int .i64 x.d, .int .i64 x.i, .int .i64 x.n]) ∧ Rd 60 w' b s q bad' ∧ q ≤ s.size ∧ w.grownBy w' (some b) ∧ ((isCn s p bad = some (x, q) ∧ bad' = false) ∨ (isCn s p bad = none ∧ bad' = true)) := by
  have hbw := hr.lt
  go_enter Tryz.func41, Tryz.ntmps41
  go_upto_region 2 with fail
  have hZ : cnE.In ((w.alloc (.cells #[.int .i64 0, .int .i64 0, .int .i64 0] 55)).alloc (.cells #[.int .i64 0, .int .i64 0, .int .i64 0] 55)) w.heap.size zeroCn := (El.In.new (E := cnE) w zeroCn #[.int .i64 0, .int .i64 0, .int .i64 0] rfl).alloc _
  have hY := two_cn w #[.int .i64 0, .int .i64 0, .int .i64 0] 55
  have hB := below_alloc (below_alloc (Below.refl w.heap.size w) (.cells #[.int .i64 0, .int .i64 0, .int .i64 0] 55)) (.cells #[.int .i64 0, .int .i64 0, .int .i64 0] 55)
  have hR := hr.below hB
  have hG := by_below hB (some b)
  obtain ⟨n3, h3⟩ : ∃ n, w.heap.size + 1 = n := ⟨_, rfl⟩
  obtain ⟨n2, h2⟩ : ∃ n, w.heap.size = n := ⟨_, rfl⟩
  have hn2 : w.heap.size ≤ n2 := by omega
  have hwn : w.heap.size ≤ n3 := by omega
  have e2 : b ≠ n2 := by omega
  have e3 : b ≠ n3 := by omega
  have e4 : n2 ≠ n3 := by omega
  have i2 : some n2 ≠ some b := fun e => e2 (Option.some.inj e).symm
  have i3 : some n3 ≠ some b := fun e => e3 (Option.some.inj e).symm
  generalize (w.alloc (.cells #[.int .i64 0, .int .i64 0, .int .i64 0] 55)).alloc (.cells #[.int .i64 0, .int .i64 0, .int .i64 0] 55) = W0 at *
  rw [h3] at hY ⊢
  rw [h2] at hZ ⊢
  clear h2 h3 hB hr
  go_wp2_with fail
  refine (num_uni hs hp hR).mono ?_
  rintro e w1 ⟨v1, q1, b1, rfl, hR, hq1, hg, st1⟩
  replace hZ := hZ.keep hg i2
  replace hY := hY.keep hg i3
  replace hG := by_trans hG hg
  clear hg
  have kc := hY.cell 0
  have kf := hY.frozen
  replace kc : w1.cell? ⟨n3, 0, none⟩ = some (.int .i64 0) := kc
  replace hY := hY.put ⟨v1, 0, 0⟩ 0 (.int .i64 v1) rfl
  replace hZ := hZ.other n3 0 (.int .i64 v1) e4
  replace hR := hR.other n3 0 (.int .i64 v1) e3
  replace hG := by_setNew hG n3 0 (.int .i64 v1) hwn
  go_upto_region 3 with fail
  clear kc kf
  generalize w1.setCell ⟨n3, 0, none⟩ (.int .i64 v1) = W1 at *
  go_wp2_with fail
  refine (num_uni hs hq1 hR).mono ?_
  rintro e w2 ⟨v2, q2, b2, rfl, hR, hq2, hg, st2⟩
  replace hZ := hZ.keep hg i2
  replace hY := hY.keep hg i3
  replace hG := by_trans hG hg
  clear hg
  have kc := hY.cell 1
  have kf := hY.frozen
  replace kc : w2.cell? ⟨n3, 1, none⟩ = some (.int .i64 0) := kc
  replace hY := hY.put ⟨v1, v2, 0⟩ 1 (.int .i64 v2) rfl
  replace hZ := hZ.other n3 1 (.int .i64 v2) e4
  replace hR := hR.other n3 1 (.int .i64 v2) e3
  replace hG := by_setNew hG n3 1 (.int .i64 v2) hwn
  go_upto_region 4 with fail
  clear kc kf
  generalize w2.setCell ⟨n3, 1, none⟩ (.int .i64 v2) = W2 at *
  go_wp2_with fail
  refine (num_uni hs hq2 hR).mono ?_
  rintro e w3 ⟨v3, q3, b3, rfl, hR, hq3, hg, st3⟩
  replace hZ := hZ.keep hg i2
  replace hY := hY.keep hg i3
  replace hG := by_trans hG hg
  clear hg
  have kc := hY.cell 2
  have kf := hY.frozen
  replace kc : w3.cell? ⟨n3, 2, none⟩ = some (.int .i64 0) := kc
  replace hY := hY.put ⟨v1, v2, v3⟩ 2 (.int .i64 v3) rfl
  replace hZ := hZ.other n3 2 (.int .i64 v3) e4
  replace hR := hR.other n3 2 (.int .i64 v3) e3
  replace hG := by_setNew hG n3 2 (.int .i64 v3) hwn
  go_upto_region 5 with fail
  clear kc kf
  generalize w3.setCell ⟨n3, 2, none⟩ (.int .i64 v3) = W3 at *
  have HG := Lib.hid (cn_step st1 st2 st3)
  clear st1 st2 st3
  obtain ⟨x, hx⟩ : ∃ x : Cn, (⟨v1, v2, v3⟩ : Cn) = x := ⟨_, rfl⟩
  rw [hx] at hY HG
  clear hx
  go_wp2_with (first | (refine El.load cnRow rfl _ rfl n3 0 rfl x hY.at #[.int .i64 x.d, .int .i64 x.i, .int .i64 x.n] rfl ?_) | (refine El.store cnRow rfl _ _ rfl n2 x #[.int .i64 x.d, .int .i64 x.i, .int .i64 x.n] rfl rfl rfl zeroCn hZ ?_) | fail)
  refine El.ret1 cnRow (hZ.set x _ rfl) rfl rfl rfl #[.int .i64 x.d, .int .i64 x.i, .int .i64 x.n] rfl ?_
  exact ⟨x, q3, b3, rfl, hR.row n2 _ e2, hq3, by_setRow hG n2 _ hn2, HG.out⟩

/-- Two neighbours: as the walk asks. -/
def riseC (l : List Cn) (k : Nat) (x : Cn) : Prop := 0 < k → (l.getD (k - 1) zeroCn).d < x.d
theorem goodC_of_not {l : List Cn} {k : Nat} (hk : k < l.length) (h : ¬ (cnB l[k] = true ∧ riseC l k l[k])) : cnsB l = false := by
  cases hc : cnsB l
  · rfl
  · exact absurd (cnsB_iff.1 hc k hk hk) h
set_option maxRecDepth 100000 in
set_option maxHeartbeats 8000000 in
theorem cnRight_any (A : Option Addr) (c : Nat) (l : List Cn) (w : World) (hl : l.length ≤ 1000) (hT : cnE.Sl w A l) : Calls Tryz.prog 42 #[.slice A l.length c] w fun e w' => e = .returned (.bool (cnsB l)) ∧ Below w.heap.size w w' := by
  have HT := Lib.hid hT
  have hB := Below.refl w.heap.size w
  have HK0 := Lib.hid (show goodC l 0 from fun j _ hj => absurd hj (Nat.not_lt_zero _))
  clear hT
  go_enter Tryz.func42, Tryz.ntmps42
  go_wp2_with fail
  go_loopw [7] (fun y wr => ∃ k : Nat, k ≤ l.length ∧ y = .int .i64 k ∧ Hid (goodC l k) ∧ Below w.heap.size w wr) (fun y _ => l.length - (intOf y).toNat)
  case atStart => exact ⟨0, Nat.zero_le _, rfl, HK0, hB⟩
  case round =>
    clear HK0 hB
    obtain ⟨k, hk, rfl, HK, hB⟩ := hrel
    by_cases hkl : k < l.length
    · obtain ⟨b, off, eA, hbw, hc⟩ := HT.out (by omega)
      have hx := cnIdxP (cap := c) eA hkl
      have hat : cnE.At wr b (off + k * 3) l[k] := (hc k hkl).below hB hbw
      obtain ⟨x, hxx⟩ : ∃ x, l[k] = x := ⟨_, rfl⟩
      rw [hxx] at hat
      have hX : cnE.In (wr.alloc (.cells #[.int .i64 x.d, .int .i64 x.i, .int .i64 x.n] 55)) wr.heap.size x := El.In.new (E := cnE) wr x _ rfl
      have hal := below_alloc (Below.refl wr.heap.size wr) (.cells #[.int .i64 x.d, .int .i64 x.i, .int .i64 x.n] 55)
      replace hB := below_then hB hal
      have HXX := Lib.hid hxx
      have HXP := Lib.hid (fun (h : k - 1 < l.length) => cnIdxP (cap := c) (k := k - 1) (len := l.length) eA h)
      clear hxx hal eA
      go_upto_region 4 with (first | (refine El.load cnRow rfl _ rfl b (off + k * 3) rfl x hat #[.int .i64 x.d, .int .i64 x.i, .int .i64 x.n] rfl ?_) | fail)
      have hxx := HXX.out
      clear HXX hat hx
      generalize wr.alloc (.cells #[.int .i64 x.d, .int .i64 x.i, .int .i64 x.n] 55) = V at *
      generalize wr.heap.size = nx at *
      obtain ⟨x0, x1, x2⟩ := cnIn3 hX
      clear hX
      have hcb := True.intro
      by_cases a0 : x.d < 0
      · have g0 : decide (x.d < 0) = true := decide_eq_true a0
        clear hcb
        have HV := Lib.hid (show cnsB l = false from goodC_of_not hkl (by rw [hxx]; exact (fun h => by have h1 := of_decide_eq_true (show decide (0 ≤ x.d ∧ x.d < 12 ∧ 1 ≤ x.i ∧ 0 ≤ x.n) = true from h.1); omega)))
        clear hxx
        go_quiet (fail)
        have hqb := below_drew (Below.refl V.heap.size V) nq
        replace hB := below_then hB hqb
        clear hqb x0 x1 x2
        generalize V.drewN nq = V1 at *
        go_wp2_with fail
        go_ret
        exact ⟨by rw [HV.out]; rfl, hB⟩
      · have g0 : decide (x.d < 0) = false := decide_eq_false a0
        by_cases a1 : 12 ≤ x.d
        · have g1 : decide (12 ≤ x.d) = true := decide_eq_true a1
          clear hcb
          have HV := Lib.hid (show cnsB l = false from goodC_of_not hkl (by rw [hxx]; exact (fun h => by have h1 := of_decide_eq_true (show decide (0 ≤ x.d ∧ x.d < 12 ∧ 1 ≤ x.i ∧ 0 ≤ x.n) = true from h.1); omega)))
          clear hxx
          go_quiet (fail)
          have hqb := below_drew (Below.refl V.heap.size V) nq
          replace hB := below_then hB hqb
          clear hqb x0 x1 x2
          generalize V.drewN nq = V1 at *
          go_wp2_with fail
          go_ret
          exact ⟨by rw [HV.out]; rfl, hB⟩
        · have g1 : decide (12 ≤ x.d) = false := decide_eq_false a1
          by_cases a2 : x.i < 1
          · have g2 : decide (x.i < 1) = true := decide_eq_true a2
            clear hcb
            have HV := Lib.hid (show cnsB l = false from goodC_of_not hkl (by rw [hxx]; exact (fun h => by have h1 := of_decide_eq_true (show decide (0 ≤ x.d ∧ x.d < 12 ∧ 1 ≤ x.i ∧ 0 ≤ x.n) = true from h.1); omega)))
            clear hxx
            go_quiet (fail)
            have hqb := below_drew (Below.refl V.heap.size V) nq
            replace hB := below_then hB hqb
            clear hqb x0 x1 x2
            generalize V.drewN nq = V1 at *
            go_wp2_with fail
            go_ret
            exact ⟨by rw [HV.out]; rfl, hB⟩
          · have g2 : decide (x.i < 1) = false := decide_eq_false a2
            by_cases a3 : x.n < 0
            · have g3 : decide (x.n < 0) = true := decide_eq_true a3
              clear hcb
              have HV := Lib.hid (show cnsB l = false from goodC_of_not hkl (by rw [hxx]; exact (fun h => by have h1 := of_decide_eq_true (show decide (0 ≤ x.d ∧ x.d < 12 ∧ 1 ≤ x.i ∧ 0 ≤ x.n) = true from h.1); omega)))
              clear hxx
              go_quiet (fail)
              have hqb := below_drew (Below.refl V.heap.size V) nq
              replace hB := below_then hB hqb
              clear hqb x0 x1 x2
              generalize V.drewN nq = V1 at *
              go_wp2_with fail
              go_ret
              exact ⟨by rw [HV.out]; rfl, hB⟩
            · have g3 : decide (x.n < 0) = false := decide_eq_false a3
              clear hcb
              have hcb : cnB x = true := by exact decide_eq_true (show 0 ≤ x.d ∧ x.d < 12 ∧ 1 ≤ x.i ∧ 0 ≤ x.n by omega)
              by_cases hk0 : k = 0
              · have e1 : decide ((0 : Int) < (k : Int)) = false := decide_eq_false (by omega)
                have e2 : decide (0 < k) = false := decide_eq_false (by omega)
                have HK0 := Lib.hid hk0
                clear a0 a1 a2 a3 hk0
                have HNG := Lib.hid (show goodC l (k + 1) from goodC_next HK.out hkl (by rw [hxx]; exact hcb) (by rw [hxx]; exact (fun h0 => absurd h0 (by have := HK0.out; omega))))
                clear hxx hcb
                go_quiet (fail)
                have hqb := below_drew (Below.refl V.heap.size V) nq
                replace hB := below_then hB hqb
                clear hqb x0 x1 x2
                generalize V.drewN nq = V1 at *
                go_wp2_with fail
                exact ⟨⟨k + 1, by omega, by go_num, HNG, hB⟩, by simp [intOf]; omega⟩
              · have e1 : decide ((0 : Int) < (k : Int)) = true := decide_eq_true (by omega)
                have e2 : decide (0 < k) = true := decide_eq_true (by omega)
                have e3 : IntKind.i64.wrap ((k : Int) - 1) = ((k - 1 : Nat) : Int) := by rw [IntKind.wrap_i64]; omega
                have hkp : k - 1 < l.length := by omega
                have hxp := HXP.out hkp
                have hat : cnE.At V b (off + (k - 1) * 3) l[k - 1] := (hc (k - 1) hkp).below hB hbw
                have t0 := (cnAt3 hat).1
                have hgd : l.getD (k - 1) zeroCn = l[k - 1] := by rw [List.getD_eq_getElem?_getD, List.getElem?_eq_getElem hkp]; rfl
                clear hat a0 a1 a2 a3 hc hbw
                generalize l[k - 1] = y at *
                have HGD := Lib.hid hgd
                clear hgd
                by_cases hp2 : x.d ≤ y.d
                · have e4 : decide (x.d ≤ y.d) = true := decide_eq_true hp2
                  have HP2 := Lib.hid hp2
                  clear hp2
                  clear hcb
                  have HV := Lib.hid (show cnsB l = false from goodC_of_not hkl (by rw [hxx]; exact (fun h => by have h1 := h.2 (by omega); rw [HGD.out] at h1; have := HP2.out; omega)))
                  clear hxx
                  go_quiet (fail)
                  have hqb := below_drew (Below.refl V.heap.size V) nq
                  replace hB := below_then hB hqb
                  clear hqb x0 x1 x2
                  generalize V.drewN nq = V1 at *
                  go_wp2_with fail
                  go_ret
                  exact ⟨by rw [HV.out]; rfl, hB⟩
                · have e4 : decide (x.d ≤ y.d) = false := decide_eq_false hp2
                  have HP2 := Lib.hid hp2
                  clear hp2
                  have HNG := Lib.hid (show goodC l (k + 1) from goodC_next HK.out hkl (by rw [hxx]; exact hcb) (by rw [hxx]; exact (fun _ => by rw [HGD.out]; have := HP2.out; omega)))
                  clear hxx hcb
                  go_quiet (fail)
                  have hqb := below_drew (Below.refl V.heap.size V) nq
                  replace hB := below_then hB hqb
                  clear hqb x0 x1 x2
                  generalize V.drewN nq = V1 at *
                  go_wp2_with fail
                  exact ⟨⟨k + 1, by omega, by go_num, HNG, hB⟩, by simp [intOf]; omega⟩
    · obtain rfl : k = l.length := by omega
      have HV := Lib.hid (show cnsB l = true from cnsB_iff.2 HK.out)
      go_wp2_with fail
      go_ret
      exact ⟨by rw [HV.out]; rfl, hB⟩
theorem isCns_of {s : ByteArray} {p : Nat} {bad : Bool} {l : List Cn} {q : Nat} (h : cnK.isPart 12 s p bad = some (l, q)) : isCns s p bad = if cnsB l = true then some (l, q) else none := by
  unfold isCns
  rw [h, Option.bind_some]
theorem isCns_none2 {s : ByteArray} {p : Nat} {bad : Bool} (h : cnK.isPart 12 s p bad = none) : isCns s p bad = none := by
  unfold isCns
  rw [h]; rfl
set_option maxRecDepth 100000 in
set_option maxHeartbeats 8000000 in
theorem pReadCountsF_uni (w : World) (b p : Nat) (s : ByteArray) (bad : Bool) (hs : s.size ≤ 1000000) (hp : p ≤ s.size) (hr : Rd 60 w b s p bad) :
    Calls Tryz.prog 17 #[.pointer (some ⟨b, 0, none⟩)] w fun e w' => ∃ (A : Option Addr) (c : Nat) (l : List Cn) (q : Nat) (bad' : Bool), e = .returned (.slice A l.length c) ∧ SlV cnE w' A c l ∧ Frs w.heap.size A ∧ Rd 60 w' b s q bad' ∧ q ≤ s.size ∧ w.grownBy w' (some b) ∧ cnsStep s p bad l q bad' := by
  have hbw := hr.lt
  have hGw := by_below (Below.refl w.heap.size w) (some b)
  go_enter Tryz.func17, Tryz.ntmps17
  go_wp2_with fail
  refine (cntT_m 12 hs hp hr).mono ?_
  rintro e w1 ⟨n, q0, b0, rfl, hnm, hR, hq0, hg, st⟩
  have HS := Lib.hid (pAt.start (K := cnK) st)
  replace hGw := by_trans hGw hg
  have HNM := Lib.hid hnm
  clear hr hg st hnm
  go_wp2_with fail
  go_loopw [4] (fun x wr => ∃ (v : Value) (l : List Cn) (q : Nat) (bd : Bool), x = v ∧ cnE.Own wr w.heap.size v l ∧ Hid (l.length ≤ n) ∧ Rd 60 wr b s q bd ∧ q ≤ s.size ∧ w.grownBy wr (some b) ∧ Hid (pAt cnK 12 s p bad n l q bd)) (fun x _ => n - lenP x)
  case atStart => exact ⟨_, [], q0, b0, rfl, El.Own.nil w1 w.heap.size, Lib.hid (Nat.zero_le _), hR, hq0, hGw, HS⟩
  case round =>
    clear hR hGw HS hq0
    obtain ⟨v, l, q, bd, rfl, hO, hl, hR, hq, hG, HS⟩ := hrel
    have hlv := own_lenP hO
    obtain ⟨A, c, rfl, hS⟩ := SlV.own hO
    have hF := hO.frs
    obtain ⟨r0, r1, r2⟩ := hR.cells
    cases bd
    · by_cases hlt : l.length < n
      · have HLE := Lib.hid (show l.length + 1 ≤ 12 by have := HNM.out; omega)
        have f5 : decide ((l.length : Int) < (n : Int)) = true := decide_eq_true (by omega)
        have f6 : decide (l.length < n) = true := decide_eq_true hlt
        have CR := cnRead1_uni hs hq hR
        have HLT := Lib.hid hlt
        clear hS hlv hlt
        go_wp2_with fail
        refine CR.mono ?_
        clear CR hR r0 r1 r2 f5 f6
        rintro e w3 ⟨x, q2, b2, rfl, hR, hq2, hg3, hst⟩
        have HN := Lib.hid (HS.out.next HLT.out hst)
        replace hO := hO.kept hg3 (Or.inr (fun e => by have := (hO.lt b e).1; omega))
        replace hG := by_trans hG hg3
        have hb4 := below_alloc (Below.refl _ w3) (.cells #[.int .i64 x.d, .int .i64 x.i, .int .i64 x.n] 55)
        have hE : cnE.Sl (w3.alloc (.cells #[.int .i64 x.d, .int .i64 x.i, .int .i64 x.n] 55)) (some ⟨w3.heap.size, 0, none⟩) [x] := (El.In.new (E := cnE) w3 x _ rfl).sl
        replace hO := hO.below hb4
        replace hR := hR.below hb4
        replace hG := by_trans hG (by_below hb4 _)
        have hB := hG.size
        clear hg3 hb4 hst
        go_wp2_with (at_builtin; refine El.wpList_app cnInn rfl _ _ rfl w.heap.size _ l [x] rfl hO (some ⟨w3.heap.size, 0, none⟩) 1 1 rfl rfl hE (fun e => by cases e) (by have := HLE.out; rw [List.length_singleton]; omega) hB ?_; intro v' w5 hO5 hg5 _)
        replace hR := hR.keep hg5 (fun e => by have := (hO.lt b e.symm).1; omega)
        replace hG := by_ownP hG hg5 (fun k e => (hO.lt k e).1)
        have hlv5 := own_lenP hO5
        rw [List.length_append, List.length_singleton] at hlv5
        go_wp2
        go_roundw
        case rel => exact ⟨v', l ++ [x], q2, b2, rfl, hO5, Lib.hid (by rw [List.length_append, List.length_singleton]; have := HLT.out; omega), hR, hq2, hG, HN⟩
        case measure =>
          have h1 := HLT.out
          show n - lenP v' < n - l.length
          omega
      · have HP := Lib.hid (HS.out.good hlt hl.out)
        have f5 : decide ((l.length : Int) < (n : Int)) = false := decide_eq_false (by omega)
        have f6 : decide (l.length < n) = false := decide_eq_false hlt
        have hpart : cnK.isPart 12 s p bad = some (l, q) := by
          rcases HP.out with ⟨h, _⟩ | ⟨_, h⟩
          · exact h
          · cases h
        have hms := isCns_of hpart
        have CR := Lib.hid (cnRight_any A c l wr (by have := HNM.out; have := hl.out; omega) hS.1)
        clear hlv hlt hpart HP HS
        cases hN : cnsB l
        · rw [hN] at CR
          rw [hN, if_neg (by decide)] at hms
          have HG := Lib.hid hms
          clear hms hN hS
          go_wp2_with fail
          refine CR.out.mono ?_
          clear CR r0 r1 r2
          rintro r w6 ⟨rfl, hb6⟩
          replace hR := hR.below hb6
          replace hG := by_trans hG (by_below hb6 _)
          obtain ⟨r0, r1, r2⟩ := hR.cells
          clear hb6
          have hR2 := hR.setBad
          have hG2 := by_set hG 2 (.bool true)
          have rf := hR.frozen
          clear hR hG hO
          go_wp2_with fail
          go_ret
          exact ⟨none, 0, [], q, true, rfl, SlV.nil _ _, frs_nil _, hR2, hq, hG2, Or.inr ⟨HG.out, rfl, rfl⟩⟩
        · rw [hN] at CR
          rw [hN, if_pos rfl] at hms
          have HG := Lib.hid hms
          clear hms hN
          go_wp2_with fail
          refine CR.out.mono ?_
          clear CR r0 r1 r2
          rintro r w6 ⟨rfl, hb6⟩
          replace hR := hR.below hb6
          replace hG := by_trans hG (by_below hb6 _)
          replace hS := SlV.below hS hb6
          clear hb6 hO
          go_wp2_with fail
          go_ret
          exact ⟨A, c, l, q, false, rfl, hS, hF, hR, hq, hG, Or.inl ⟨HG.out, rfl⟩⟩
    · have HG := Lib.hid (isCns_none2 (by
        rcases HS.out.ill with ⟨_, h⟩ | ⟨h, _⟩
        · cases h
        · exact h))
      clear hS HS
      by_cases hlt : l.length < n
      · have f5 : decide ((l.length : Int) < (n : Int)) = true := decide_eq_true (by omega)
        have f6 : decide (l.length < n) = true := decide_eq_true hlt
        clear hlv hlt
        have hR2 := hR.setBad
        have hG2 := by_set hG 2 (.bool true)
        have rf := hR.frozen
        clear hR hG hO
        go_wp2_with fail
        go_ret
        exact ⟨none, 0, [], q, true, rfl, SlV.nil _ _, frs_nil _, hR2, hq, hG2, Or.inr ⟨HG.out, rfl, rfl⟩⟩
      · have f5 : decide ((l.length : Int) < (n : Int)) = false := decide_eq_false (by omega)
        have f6 : decide (l.length < n) = false := decide_eq_false hlt
        clear hlv hlt
        have hR2 := hR.setBad
        have hG2 := by_set hG 2 (.bool true)
        have rf := hR.frozen
        clear hR hG hO
        go_wp2_with fail
        go_ret
        exact ⟨none, 0, [], q, true, rfl, SlV.nil _ _, frs_nil _, hR2, hq, hG2, Or.inr ⟨HG.out, rfl, rfl⟩⟩

theorem pReadCounts_uni (w : World) (b p : Nat) (s : ByteArray) (bad : Bool) (hs : s.size ≤ 1000000) (hp : p ≤ s.size) (hr : Rd 60 w b s p bad) :
    Calls Tryz.prog 17 #[.pointer (some ⟨b, 0, none⟩)] w fun e w' => ∃ (A : Option Addr) (c : Nat) (l : List Cn) (q : Nat) (bad' : Bool), e = .returned (.slice A l.length c) ∧ SlV cnE w' A c l ∧ Rd 60 w' b s q bad' ∧ q ≤ s.size ∧ w.grownBy w' (some b) ∧ cnsStep s p bad l q bad' :=
  (pReadCountsF_uni w b p s bad hs hp hr).mono fun _ _ ⟨A, c, l, q, bd, h1, h2, _, h3⟩ => ⟨A, c, l, q, bd, h1, h2, h3⟩
end Go.Proofs.YtfpgfclmmdihjaaGreat

/- The program's Thaw, of any bytes. -/
namespace Go.Proofs.YtfpgfclmmdihjaaGreat
open Go.RowKit Tre Cod Pst Nam

/-- A state on its way: its stream's three numbers, its clock, its past, its counts. -/
structure Sx where
  s : Int
  t : Int
  p : Int
  clock : Int
  y : Pw
  cA : Option Addr
  cc : Nat
  l : List Cn
def Sx.zero : Sx := ⟨0, 0, 0, 0, Pw.zero, none, 0, []⟩
def stX : El Sx where
  e := 43
  k := 26
  c x := [.int .i64 0, .int .i64 0, .int .i64 0, .int .i64 x.s, .int .i64 x.t, .int .i64 x.p, .slice none 0 0, .int .i64 0, .int .i64 0, .slice none 0 0, .slice none 0 0, .slice none 0 0, .slice none 0 0, .slice none 0 0, .slice x.y.bA x.y.base.length x.y.bc, .int .i64 x.y.t, .slice x.y.oA x.y.ops.length x.y.oc, .slice x.y.uA x.y.us.length x.y.uc, .slice x.y.wA x.y.now.length x.y.wc, .slice x.cA x.l.length x.cc, .int .i64 0, .int .i64 0, .int .i64 x.clock, .int .i64 0, .slice none 0 0, .int .i64 0]
  len _ := rfl
  one p u h := by
    simp only [List.mem_cons, List.not_mem_nil, or_false] at h
    rcases h with rfl | rfl | rfl | rfl | rfl | rfl | rfl | rfl | rfl | rfl | rfl | rfl | rfl | rfl | rfl | rfl | rfl | rfl | rfl | rfl | rfl | rfl | rfl | rfl | rfl | rfl <;> rfl
  pos := by decide
theorem stXRow : stX.Row Tryz.prog := ⟨by kernel_rfl, _, Tryz.underlying43, rfl⟩
theorem stX_cells (x : Sx) : ∀ v ∈ stX.c x, (∃ k, v = .int .i64 k) ∨ ∃ a m c, v = .slice a m c := by
  intro v hv
  simp only [stX, List.mem_cons, List.not_mem_nil, or_false] at hv
  rcases hv with rfl | rfl | rfl | rfl | rfl | rfl | rfl | rfl | rfl | rfl | rfl | rfl | rfl | rfl | rfl | rfl | rfl | rfl | rfl | rfl | rfl | rfl | rfl | rfl | rfl | rfl <;> first | exact Or.inl ⟨_, rfl⟩ | exact Or.inr ⟨_, _, _, rfl⟩
theorem stX_cell {w : World} {n i : Nat} {v : Value} {x : Sx} (hZ : stX.In w n x) (h : w.cell? ⟨n, i, none⟩ = some v) : (∃ k, v = .int .i64 k) ∨ ∃ a m c, v = .slice a m c := by
  rw [hZ.cell] at h
  exact stX_cells x v (List.mem_of_getElem? h)
theorem PastOk.keepS {w w' : World} {y : Pw} {n : Nat} {x : Sx} (h : PastOk w y) (hZ : stX.In w n x) (hg : w.grownBy w' (some n)) : PastOk w' y := by
  have hp : ∀ off x, ¬ plE.At w n off x := fun off x ha => by
    rcases stX_cell hZ (ha 2 _ rfl) with ⟨_, h⟩ | ⟨_, _, _, h⟩ <;> cases h
  have ho : ∀ off x, ¬ opE.At w n off x := fun off x ha => by
    rcases stX_cell hZ (ha 6 _ rfl) with ⟨_, h⟩ | ⟨_, _, _, h⟩ <;> cases h
  have hu : ∀ off x, ¬ unE.At w n off x := fun off x ha => by
    rcases stX_cell hZ (ha 2 _ rfl) with ⟨_, h⟩ | ⟨_, _, _, h⟩ <;> cases h
  exact ⟨h.b.keepRG (fun o _ => hp o _) hg, h.o.keepRG (fun o _ => ho o _) hg, h.u.keepRG (fun o _ => hu o _) hg, h.w.keepRG (fun o _ => hp o _) hg⟩
theorem SlV.keepF {α : Type} {E : El α} {w w' : World} {A : Option Addr} {c : Nat} {l : List α} {B n : Nat} (h : SlV E w A c l) (hf : Frs B A) (hn : n < B) (hg : w.grownBy w' (some n)) : SlV E w' A c l :=
  ⟨h.1.keep hg (fun a e e2 => by have h1 := hf a e; have h2 := Option.some.inj e2; omega), h.2⟩
/-- A part of a state stored. -/
theorem wpList_store_stX {T : TypeId} {k : Nat} (hT : (Tryz.prog.info? T).map (·.size) = some k) {ops : Array Oper} {rest : List Oper} {o : Oper} {a : Act} {w : World} {Q : Exit → Act → World → Prop} (hgd : o.guard = none) (x y : Operand) (ho : o.op = .store T x y)
    (b off : Nat) (p z : Sx) (vs : List Value) (hvl : vs.length = k) (h1 : ∀ v ∈ vs, v.oneCell' = true) (hx : a.eval x = .pointer (some ⟨b, off, none⟩)) (hy : a.eval y = .agg vs.toArray) (hg : stX.In w b p) (hz : (stX.c p).take off ++ vs ++ (stX.c p).drop (off + vs.length) = stX.c z) (hfit : off + vs.length ≤ 26)
    (h : wpList Tryz.prog ops Q rest (a.put o.dst undef) (w.setRow b (stX.c z).toArray)) : wpList Tryz.prog ops Q (o :: rest) a w :=
  wpList_plain hgd fun _ hK => by
    have hs := run_storeCells_at (P := Tryz.prog) b off 43 vs 0 (stX.c p).toArray w hg (by show off + 0 + vs.length ≤ 26; omega) h1
    rw [Nat.add_zero, hz] at hs
    have hv : (storeVar T ⟨b, off, none⟩ (.agg vs.toArray)).run Tryz.prog w = .ok () (w.setRow b (stX.c z).toArray) := by
      cases hq : Tryz.prog.info? T with
      | none => simp [hq] at hT
      | some inf =>
        have hinf : inf.size = k := by simpa [hq] using hT
        simp [storeVar, sizeOf, typeInfo, hq, Value.cells, hinf, hvl, hs]
    unfold Oper.wp execOp
    simp only [ho, hx, hy, Instr.storeAt, Instr.sureAddr, Sem.run_bind, Sem.run_pure, Result.andThen_ok, hv]
    exact hK _ _ h

def cntStepX (s : ByteArray) (p : Nat) (bad : Bool) (most v : Int) (q : Nat) (bad' : Bool) : Prop := (isCount s p bad most = some (v, q) ∧ bad' = false) ∨ (isCount s p bad most = none ∧ v = 0 ∧ bad' = true)
theorem countX_uni {w : World} {b p : Nat} {s : ByteArray} {bad : Bool} (most : Int) (hs : s.size ≤ 1000000) (hp : p ≤ s.size) (hr : Rd 60 w b s p bad) :
    Calls Tryz.prog 15 #[.pointer (some ⟨b, 0, none⟩), .int .i64 most] w fun e w' => ∃ v q bad', e = .returned (.int .i64 v) ∧ Rd 60 w' b s q bad' ∧ q ≤ s.size ∧ w.grownBy w' (some b) ∧ cntStepX s p bad most v q bad' := by
  rcases h : isCount s p bad most with _ | ⟨v, q⟩
  · exact (count_no hs hp hr h).mono fun e w' ⟨he, ⟨q, hq, hr'⟩, hg⟩ => ⟨0, q, true, he, hr', hq, hg, Or.inr ⟨h, rfl, rfl⟩⟩
  · obtain ⟨h1, h2⟩ := isCount_some h
    exact (count_yes hs hp hr h).mono fun e w' ⟨he, hr', hg⟩ => ⟨v, q, false, he, hr', (isNum_some h1).2.2.1, hg, Or.inl ⟨h, rfl⟩⟩
/-- A number from 0 to m, or none. -/
theorem cntX_num {s : ByteArray} {p : Nat} {bad : Bool} {m v : Int} {q : Nat} (h1 : isNum s p bad = some (v, q)) (h2 : 0 ≤ v ∧ v ≤ m) : isCount s p bad m = some (v, q) := by
  unfold isCount
  rw [h1]
  dsimp only
  rw [if_pos h2]
theorem snap_parts {s : ByteArray} {x : Sn} (h : isSnap s = some x) : ∃ q1 q2 q3, isCount s 0 false 1099511627776 = some (x.pos, q1) ∧ isCount s q1 false 1099511627776 = some (x.clock, q2) ∧ isPast s q2 false = some (x.p, q3) ∧ isCns s q3 false = some (x.l, s.size) := by
  unfold isSnap at h
  simp only [Option.bind_eq_some_iff] at h
  obtain ⟨a, ha, b, hb, c, hc, d, hd, h⟩ := h
  split at h
  · rename_i hh
    injection h with h
    subst h
    refine ⟨a.2, b.2, c.2, cntX_num ha hh.2.1, cntX_num hb hh.2.2, hc, ?_⟩
    rw [hd, ← hh.1]
  · cases h
theorem thawX_val {s : ByteArray} {v1 v2 : Int} {q1 q2 q3 q4 : Nat} {b1 b2 b3 b4 : Bool} {y : Pv} {l : List Cn} (h1 : cntStepX s 0 false 1099511627776 v1 q1 b1) (h2 : cntStepX s q1 b1 1099511627776 v2 q2 b2) (h3 : (isPast s q2 b2 = some (y, q3) ∧ b3 = false) ∨ (isPast s q2 b2 = none ∧ b3 = true)) (h4 : cnsStep s q3 b3 l q4 b4) :
    isSnap s = if isDone s q4 b4 = true then some ⟨v1, v2, y, l⟩ else none := by
  by_cases hd : isDone s q4 b4 = true
  · rw [if_pos hd]
    have hb4 : b4 = false := by
      cases b4
      · rfl
      · unfold isDone at hd; simp at hd
    subst hb4
    have hq : q4 = s.size := by unfold isDone at hd; simpa using hd
    rcases h4 with ⟨h4, _⟩ | ⟨_, _, h⟩
    · rcases h3 with ⟨h3, rfl⟩ | ⟨_, rfl⟩
      · rcases h2 with ⟨h2, rfl⟩ | ⟨_, _, rfl⟩
        · rcases h1 with ⟨h1, rfl⟩ | ⟨_, _, rfl⟩
          · obtain ⟨g1, r1⟩ := isCount_some h1
            obtain ⟨g2, r2⟩ := isCount_some h2
            unfold isSnap
            rw [g1, Option.bind_some]
            dsimp only
            rw [g2, Option.bind_some]
            dsimp only
            rw [h3, Option.bind_some]
            dsimp only
            rw [h4, Option.bind_some]
            dsimp only
            rw [if_pos ⟨hq, r1, r2⟩]
          · rw [isCount_badF] at h2; cases h2
        · rw [isPast_bad] at h3; cases h3
      · rw [isCns_bad] at h4; cases h4
    · cases h
  · rw [if_neg hd]
    cases hx : isSnap s with
    | none => rfl
    | some x =>
      exfalso
      apply hd
      obtain ⟨p1, p2, p3, g1, g2, g3, g4⟩ := snap_parts hx
      rcases h1 with ⟨h1, rfl⟩ | ⟨h1, _, _⟩
      · rw [g1] at h1
        injection h1 with h1
        injection h1 with _ h1
        subst h1
        rcases h2 with ⟨h2, rfl⟩ | ⟨h2, _, _⟩
        · rw [g2] at h2
          injection h2 with h2
          injection h2 with _ h2
          subst h2
          rcases h3 with ⟨h3, rfl⟩ | ⟨h3, _⟩
          · rw [g3] at h3
            injection h3 with h3
            injection h3 with _ h3
            subst h3
            rcases h4 with ⟨h4, rfl⟩ | ⟨h4, _, _⟩
            · rw [g4] at h4
              injection h4 with h4
              injection h4 with _ h4
              subst h4
              unfold isDone
              simp
            · rw [g4] at h4; cases h4
          · rw [g3] at h3; cases h3
        · rw [g2] at h2; cases h2
      · rw [g1] at h1; cases h1
theorem fewX {s : ByteArray} {v1 v2 : Int} {q1 q2 : Nat} {b1 b2 : Bool} (h1 : cntStepX s 0 false 1099511627776 v1 q1 b1) (h2 : cntStepX s q1 b1 1099511627776 v2 q2 b2) (hf : ∀ V q, isSnapP s = some (V, q) → V.ops.length ≤ 800) : ∀ V q, isPast s q2 b2 = some (V, q) → V.ops.length ≤ 800 := fun V q h => by
  rcases h2 with ⟨h2, rfl⟩ | ⟨_, _, rfl⟩
  · rcases h1 with ⟨h1, rfl⟩ | ⟨_, _, rfl⟩
    · refine hf V q ?_
      unfold isSnapP
      rw [(isCount_some h1).1, Option.bind_some]
      dsimp only
      rw [(isCount_some h2).1, Option.bind_some]
      exact h
    · rw [isCount_badF] at h2; cases h2
  · rw [isPast_bad] at h; cases h
set_option maxRecDepth 100000 in
set_option maxHeartbeats 16000000 in
theorem pThaw_any (s : ByteArray) (w : World) (hs : s.size ≤ 1000000) (hfew : ∀ V q, isSnapP s = some (V, q) → V.ops.length ≤ 800) :
    Calls Tryz.prog 5 #[.string s] w fun e w' => ∃ (x : Sw) (b : Bool), e = .returned (.tuple #[.agg #[.int .i64 0, .int .i64 0, .int .i64 0, .int .i64 x.pos, .int .i64 x.y.t, .int .i64 x.pos, .slice none 0 0, .int .i64 0, .int .i64 0, .slice none 0 0, .slice none 0 0, .slice none 0 0, .slice none 0 0, .slice none 0 0, .slice x.y.bA x.y.base.length x.y.bc, .int .i64 x.y.t, .slice x.y.oA x.y.ops.length x.y.oc, .slice x.y.uA x.y.us.length x.y.uc, .slice x.y.wA x.y.now.length x.y.wc, .slice x.cA x.l.length x.cc, .int .i64 0, .int .i64 0, .int .i64 x.clock, .int .i64 0, .slice none 0 0, .int .i64 0], .bool b]) ∧ x.ok w' ∧ Below w.heap.size w w' ∧ ((isSnap s = some x.v ∧ b = true) ∨ (isSnap s = none ∧ x = Sw.zero ∧ b = false)) := by
  have HF := Lib.hid hfew
  clear hfew
  go_enter Tryz.func5, Tryz.ntmps5
  go_upto_region 2 with (first | (refine wpList_alloc_st rfl rfl ?_) | fail)
  have hR := Rd.new (w.alloc (.cells #[.int .i64 0, .int .i64 0, .int .i64 0, .int .i64 0, .int .i64 0, .int .i64 0, .slice none 0 0, .int .i64 0, .int .i64 0, .slice none 0 0, .slice none 0 0, .slice none 0 0, .slice none 0 0, .slice none 0 0, .slice none 0 0, .int .i64 0, .slice none 0 0, .slice none 0 0, .slice none 0 0, .slice none 0 0, .int .i64 0, .int .i64 0, .int .i64 0, .int .i64 0, .slice none 0 0, .int .i64 0] 43)) 60 s 0 rfl
  rw [show (w.alloc (.cells #[.int .i64 0, .int .i64 0, .int .i64 0, .int .i64 0, .int .i64 0, .int .i64 0, .slice none 0 0, .int .i64 0, .int .i64 0, .slice none 0 0, .slice none 0 0, .slice none 0 0, .slice none 0 0, .slice none 0 0, .slice none 0 0, .int .i64 0, .slice none 0 0, .slice none 0 0, .slice none 0 0, .slice none 0 0, .int .i64 0, .int .i64 0, .int .i64 0, .int .i64 0, .slice none 0 0, .int .i64 0] 43)).heap.size = w.heap.size + 1 from alloc_size _ _] at hR
  have hZ : stE.In ((w.alloc (.cells #[.int .i64 0, .int .i64 0, .int .i64 0, .int .i64 0, .int .i64 0, .int .i64 0, .slice none 0 0, .int .i64 0, .int .i64 0, .slice none 0 0, .slice none 0 0, .slice none 0 0, .slice none 0 0, .slice none 0 0, .slice none 0 0, .int .i64 0, .slice none 0 0, .slice none 0 0, .slice none 0 0, .slice none 0 0, .int .i64 0, .int .i64 0, .int .i64 0, .int .i64 0, .slice none 0 0, .int .i64 0] 43)).alloc (.cells #[.string s, .int .i64 0, .bool false] 60)) w.heap.size Sw.zero := (El.In.new (E := stE) w Sw.zero #[.int .i64 0, .int .i64 0, .int .i64 0, .int .i64 0, .int .i64 0, .int .i64 0, .slice none 0 0, .int .i64 0, .int .i64 0, .slice none 0 0, .slice none 0 0, .slice none 0 0, .slice none 0 0, .slice none 0 0, .slice none 0 0, .int .i64 0, .slice none 0 0, .slice none 0 0, .slice none 0 0, .slice none 0 0, .int .i64 0, .int .i64 0, .int .i64 0, .int .i64 0, .slice none 0 0, .int .i64 0] rfl).alloc _
  have hB := below_alloc (below_alloc (Below.refl w.heap.size w) (.cells #[.int .i64 0, .int .i64 0, .int .i64 0, .int .i64 0, .int .i64 0, .int .i64 0, .slice none 0 0, .int .i64 0, .int .i64 0, .slice none 0 0, .slice none 0 0, .slice none 0 0, .slice none 0 0, .slice none 0 0, .slice none 0 0, .int .i64 0, .slice none 0 0, .slice none 0 0, .slice none 0 0, .slice none 0 0, .int .i64 0, .int .i64 0, .int .i64 0, .int .i64 0, .slice none 0 0, .int .i64 0] 43)) (.cells #[.string s, .int .i64 0, .bool false] 60)
  generalize (w.alloc (.cells #[.int .i64 0, .int .i64 0, .int .i64 0, .int .i64 0, .int .i64 0, .int .i64 0, .slice none 0 0, .int .i64 0, .int .i64 0, .slice none 0 0, .slice none 0 0, .slice none 0 0, .slice none 0 0, .slice none 0 0, .slice none 0 0, .int .i64 0, .slice none 0 0, .slice none 0 0, .slice none 0 0, .slice none 0 0, .int .i64 0, .int .i64 0, .int .i64 0, .int .i64 0, .slice none 0 0, .int .i64 0] 43)).alloc (.cells #[.string s, .int .i64 0, .bool false] 60) = W0 at *
  obtain ⟨n2, h2⟩ : ∃ n, w.heap.size = n := ⟨_, rfl⟩
  obtain ⟨b, h3⟩ : ∃ n, w.heap.size + 1 = n := ⟨_, rfl⟩
  have hn2 : w.heap.size ≤ n2 := by omega
  have hnb : w.heap.size ≤ b := by omega
  have e2 : b ≠ n2 := by omega
  have i2 : some n2 ≠ some b := fun e => e2 (Option.some.inj e).symm
  rw [h3] at hR ⊢
  rw [h2] at hZ ⊢
  clear h2 h3
  have hY : stX.In (W0.alloc (.cells #[.int .i64 0, .int .i64 0, .int .i64 0, .int .i64 0, .int .i64 0, .int .i64 0, .slice none 0 0, .int .i64 0, .int .i64 0, .slice none 0 0, .slice none 0 0, .slice none 0 0, .slice none 0 0, .slice none 0 0, .slice none 0 0, .int .i64 0, .slice none 0 0, .slice none 0 0, .slice none 0 0, .slice none 0 0, .int .i64 0, .int .i64 0, .int .i64 0, .int .i64 0, .slice none 0 0, .int .i64 0] 43)) W0.heap.size Sx.zero := El.In.new (E := stX) W0 Sx.zero #[.int .i64 0, .int .i64 0, .int .i64 0, .int .i64 0, .int .i64 0, .int .i64 0, .slice none 0 0, .int .i64 0, .int .i64 0, .slice none 0 0, .slice none 0 0, .slice none 0 0, .slice none 0 0, .slice none 0 0, .slice none 0 0, .int .i64 0, .slice none 0 0, .slice none 0 0, .slice none 0 0, .slice none 0 0, .int .i64 0, .int .i64 0, .int .i64 0, .int .i64 0, .slice none 0 0, .int .i64 0] rfl
  have hal := below_alloc (Below.refl W0.heap.size W0) (.cells #[.int .i64 0, .int .i64 0, .int .i64 0, .int .i64 0, .int .i64 0, .int .i64 0, .slice none 0 0, .int .i64 0, .int .i64 0, .slice none 0 0, .slice none 0 0, .slice none 0 0, .slice none 0 0, .slice none 0 0, .slice none 0 0, .int .i64 0, .slice none 0 0, .slice none 0 0, .slice none 0 0, .slice none 0 0, .int .i64 0, .int .i64 0, .int .i64 0, .int .i64 0, .slice none 0 0, .int .i64 0] 43)
  have e5 : b ≠ W0.heap.size := Nat.ne_of_lt hR.lt
  have f5 : n2 ≠ W0.heap.size := Nat.ne_of_lt hZ.lt
  have hn5 : w.heap.size ≤ W0.heap.size := hB.size
  replace hR := hR.below hal
  replace hZ := hZ.below hal
  replace hB := below_then hB hal
  clear hal
  go_upto_region 3 with (first | (refine wpList_alloc_st rfl rfl ?_) | fail)
  generalize W0.alloc (.cells #[.int .i64 0, .int .i64 0, .int .i64 0, .int .i64 0, .int .i64 0, .int .i64 0, .slice none 0 0, .int .i64 0, .int .i64 0, .slice none 0 0, .slice none 0 0, .slice none 0 0, .slice none 0 0, .slice none 0 0, .slice none 0 0, .int .i64 0, .slice none 0 0, .slice none 0 0, .slice none 0 0, .slice none 0 0, .int .i64 0, .int .i64 0, .int .i64 0, .int .i64 0, .slice none 0 0, .int .i64 0] 43) = W at *
  generalize W0.heap.size = n5 at *
  have i5 : some n5 ≠ some b := fun e => e5 (Option.some.inj e).symm
  go_wp2_with fail
  refine (countX_uni 1099511627776 hs (Nat.zero_le _) hR).mono ?_
  rintro e w1 ⟨v1, q1, b1, rfl, hR, hq1, hg, st1⟩
  replace hB := below_by hB hg hnb
  replace hZ := hZ.keep hg i2
  replace hY := hY.keep hg i5
  clear hg
  go_wp2_with fail
  refine (countX_uni 1099511627776 hs hq1 hR).mono ?_
  rintro e w2 ⟨v2, q2, b2, rfl, hR, hq2, hg, st2⟩
  replace hB := below_by hB hg hnb
  replace hZ := hZ.keep hg i2
  replace hY := hY.keep hg i5
  clear hg
  have kc := hY.cell 22
  have kf := hY.frozen
  replace kc : w2.cell? ⟨n5, 22, none⟩ = some (.int .i64 0) := kc
  replace hY := hY.put ⟨0, 0, 0, v2, Pw.zero, none, 0, []⟩ 22 (.int .i64 v2) rfl
  replace hZ := hZ.other n5 22 (.int .i64 v2) f5
  replace hR := hR.other n5 22 (.int .i64 v2) e5
  replace hB := Below.setCell hB (p := ⟨n5, 22, none⟩) hn5 (.int .i64 v2)
  go_upto_region 5 with fail
  clear kc kf
  generalize w2.setCell ⟨n5, 22, none⟩ (.int .i64 v2) = W2 at *
  go_wp2_with fail
  refine (pPastRead_uni _ _ _ _ _ hs hq2 hR (fewX st1 st2 HF.out)).mono ?_
  rintro e w3 ⟨y, q3, b3, rfl, hP, hR, hq3, hg, st3⟩
  replace hB := below_by hB hg hnb
  replace hZ := hZ.keep hg i2
  replace hY := hY.keep hg i5
  clear hg
  have HST := Lib.hid (And.intro st1 (And.intro st2 st3))
  clear st1 st2 st3
  go_upto_region 6 with (first | (refine wpList_store_stX (T := 39) (k := 5) (by kernel_rfl) rfl _ _ rfl n5 14 ⟨0, 0, 0, v2, Pw.zero, none, 0, []⟩ ⟨0, 0, 0, v2, y, none, 0, []⟩ [.slice y.bA y.base.length y.bc, .int .i64 y.t, .slice y.oA y.ops.length y.oc, .slice y.uA y.us.length y.uc, .slice y.wA y.now.length y.wc] rfl (by intro v hv; simp only [List.mem_cons, List.not_mem_nil, or_false] at hv; rcases hv with rfl | rfl | rfl | rfl | rfl <;> rfl) rfl rfl hY rfl (by show 14 + 5 ≤ 26; omega) ?_) | fail)
  replace hP := hP.keepS hY (by_row w3 n5 (stX.c ⟨0, 0, 0, v2, y, none, 0, []⟩).toArray)
  replace hY := hY.set ⟨0, 0, 0, v2, y, none, 0, []⟩ (stX.c ⟨0, 0, 0, v2, y, none, 0, []⟩).toArray rfl
  replace hR := hR.row n5 (stX.c ⟨0, 0, 0, v2, y, none, 0, []⟩).toArray e5
  replace hZ := hZ.rowN n5 (stX.c ⟨0, 0, 0, v2, y, none, 0, []⟩).toArray f5
  replace hB := below_setRow hB hn5 (stX.c ⟨0, 0, 0, v2, y, none, 0, []⟩).toArray
  generalize w3.setRow n5 (stX.c ⟨0, 0, 0, v2, y, none, 0, []⟩).toArray = W4 at *
  go_wp2_with fail
  refine (pReadCountsF_uni _ _ _ _ _ hs hq3 hR).mono ?_
  rintro e w5 ⟨A, c, l, q4, b4, rfl, hL, hF, hR5, hq4, hg, st4⟩
  have hn5B : n5 < W4.heap.size := hY.lt
  have hn2B : n2 < W4.heap.size := hZ.lt
  replace hP := hP.keepR hR hg
  replace hB := below_by hB hg hnb
  replace hZ := hZ.keep hg i2
  replace hY := hY.keep hg i5
  clear hR hg
  have kc := hY.cell 19
  have kf := hY.frozen
  replace kc : w5.cell? ⟨n5, 19, none⟩ = some (.slice none 0 0) := kc
  have hgr := by_set (by_below (Below.refl w5.heap.size w5) (some n5)) 19 (.slice A l.length c)
  replace hP := hP.keepS hY hgr
  replace hL := hL.keepF hF hn5B hgr
  replace hY := hY.put ⟨0, 0, 0, v2, y, A, c, l⟩ 19 (.slice A l.length c) rfl
  replace hZ := hZ.other n5 19 (.slice A l.length c) f5
  replace hR := hR5.other n5 19 (.slice A l.length c) e5
  replace hB := Below.setCell hB (p := ⟨n5, 19, none⟩) hn5 (.slice A l.length c)
  clear hR5 hgr
  go_upto_region 7 with fail
  clear kc kf
  generalize w5.setCell ⟨n5, 19, none⟩ (.slice A l.length c) = W5 at *
  obtain ⟨h1, h2, h3⟩ := HST.out
  have hval := thawX_val h1 h2 (h3.imp (fun h => h) (fun h => ⟨h.1, h.2.2⟩)) st4
  clear st4 h1 h2 h3 HST
  have cD := done_any hq4 hR
  obtain ⟨d, hd⟩ : ∃ d, isDone s q4 b4 = d := ⟨_, rfl⟩
  rw [hd] at cD hval
  go_wp2_with fail
  refine cD.mono ?_
  rintro e w6 ⟨rfl, n, rfl⟩
  replace hB := below_drew hB n
  replace hP : PastOk (W5.drewN n) y := hP.below (below_drew (Below.refl _ _) n)
  replace hL : SlV cnE (W5.drewN n) A c l := hL.below (below_drew (Below.refl _ _) n)
  replace hZ : stE.In (W5.drewN n) n2 Sw.zero := hZ
  replace hY : stX.In (W5.drewN n) n5 ⟨0, 0, 0, v2, y, A, c, l⟩ := hY
  have HV := Lib.hid hval
  clear cD hd hR hval
  generalize W5.drewN n = W6 at *
  cases d
  · have HI := Lib.hid (show isSnap s = none by rw [HV.out]; exact if_neg (fun h => by cases h))
    clear HV hY hP hL
    go_wp2_with (first | (refine El.store stRow rfl _ _ rfl n2 Sw.zero #[.int .i64 0, .int .i64 0, .int .i64 0, .int .i64 0, .int .i64 0, .int .i64 0, .slice none 0 0, .int .i64 0, .int .i64 0, .slice none 0 0, .slice none 0 0, .slice none 0 0, .slice none 0 0, .slice none 0 0, .slice none 0 0, .int .i64 0, .slice none 0 0, .slice none 0 0, .slice none 0 0, .slice none 0 0, .int .i64 0, .int .i64 0, .int .i64 0, .int .i64 0, .slice none 0 0, .int .i64 0] rfl rfl rfl Sw.zero hZ ?_) | fail)
    refine El.ret2 stRow (hZ.set Sw.zero #[.int .i64 0, .int .i64 0, .int .i64 0, .int .i64 0, .int .i64 0, .int .i64 0, .slice none 0 0, .int .i64 0, .int .i64 0, .slice none 0 0, .slice none 0 0, .slice none 0 0, .slice none 0 0, .slice none 0 0, .slice none 0 0, .int .i64 0, .slice none 0 0, .slice none 0 0, .slice none 0 0, .slice none 0 0, .int .i64 0, .int .i64 0, .int .i64 0, .int .i64 0, .slice none 0 0, .int .i64 0] rfl) rfl rfl rfl rfl #[.int .i64 0, .int .i64 0, .int .i64 0, .int .i64 0, .int .i64 0, .int .i64 0, .slice none 0 0, .int .i64 0, .int .i64 0, .slice none 0 0, .slice none 0 0, .slice none 0 0, .slice none 0 0, .slice none 0 0, .slice none 0 0, .int .i64 0, .slice none 0 0, .slice none 0 0, .slice none 0 0, .slice none 0 0, .int .i64 0, .int .i64 0, .int .i64 0, .int .i64 0, .slice none 0 0, .int .i64 0] rfl ?_
    exact ⟨Sw.zero, false, rfl, Sw.ok.zero _, below_setRow hB hn2 _, Or.inr ⟨HI.out, rfl, rfl⟩⟩
  · have HI := Lib.hid (show isSnap s = some (⟨v1, v2, y, A, c, l⟩ : Sw).v by rw [HV.out]; exact if_pos rfl)
    clear HV
    have t15 : W6.cell? ⟨n5, 15, none⟩ = some (.int .i64 y.t) := hY.cell 15
    go_upto_region 10 with (first | (refine wpList_store_stX (T := 28) (k := 4) (by kernel_rfl) rfl _ _ rfl n5 3 ⟨0, 0, 0, v2, y, A, c, l⟩ ⟨v1, y.t, v1, v2, y, A, c, l⟩ [.int .i64 v1, .int .i64 y.t, .int .i64 v1, .slice none 0 0] rfl (by intro v hv; simp only [List.mem_cons, List.not_mem_nil, or_false] at hv; rcases hv with rfl | rfl | rfl | rfl <;> rfl) rfl rfl hY rfl (by show 3 + 4 ≤ 26; omega) ?_) | fail)
    have hgr := by_row W6 n5 (stX.c ⟨v1, y.t, v1, v2, y, A, c, l⟩).toArray
    replace hP := hP.keepS hY hgr
    replace hL := hL.keepF hF hn5B hgr
    replace hY := hY.set ⟨v1, y.t, v1, v2, y, A, c, l⟩ (stX.c ⟨v1, y.t, v1, v2, y, A, c, l⟩).toArray rfl
    replace hZ := hZ.rowN n5 (stX.c ⟨v1, y.t, v1, v2, y, A, c, l⟩).toArray f5
    replace hB := below_setRow hB hn5 (stX.c ⟨v1, y.t, v1, v2, y, A, c, l⟩).toArray
    clear t15 hgr
    generalize W6.setRow n5 (stX.c ⟨v1, y.t, v1, v2, y, A, c, l⟩).toArray = W7 at *
    go_wp2_with (first | (refine El.load stXRow rfl _ rfl n5 0 rfl ⟨v1, y.t, v1, v2, y, A, c, l⟩ hY.at #[.int .i64 0, .int .i64 0, .int .i64 0, .int .i64 v1, .int .i64 y.t, .int .i64 v1, .slice none 0 0, .int .i64 0, .int .i64 0, .slice none 0 0, .slice none 0 0, .slice none 0 0, .slice none 0 0, .slice none 0 0, .slice y.bA y.base.length y.bc, .int .i64 y.t, .slice y.oA y.ops.length y.oc, .slice y.uA y.us.length y.uc, .slice y.wA y.now.length y.wc, .slice A l.length c, .int .i64 0, .int .i64 0, .int .i64 v2, .int .i64 0, .slice none 0 0, .int .i64 0] rfl ?_) | (refine El.store stRow rfl _ _ rfl n2 (⟨v1, v2, y, A, c, l⟩ : Sw) #[.int .i64 0, .int .i64 0, .int .i64 0, .int .i64 v1, .int .i64 y.t, .int .i64 v1, .slice none 0 0, .int .i64 0, .int .i64 0, .slice none 0 0, .slice none 0 0, .slice none 0 0, .slice none 0 0, .slice none 0 0, .slice y.bA y.base.length y.bc, .int .i64 y.t, .slice y.oA y.ops.length y.oc, .slice y.uA y.us.length y.uc, .slice y.wA y.now.length y.wc, .slice A l.length c, .int .i64 0, .int .i64 0, .int .i64 v2, .int .i64 0, .slice none 0 0, .int .i64 0] rfl rfl rfl Sw.zero hZ ?_) | fail)
    refine El.ret2 stRow (hZ.set (⟨v1, v2, y, A, c, l⟩ : Sw) #[.int .i64 0, .int .i64 0, .int .i64 0, .int .i64 v1, .int .i64 y.t, .int .i64 v1, .slice none 0 0, .int .i64 0, .int .i64 0, .slice none 0 0, .slice none 0 0, .slice none 0 0, .slice none 0 0, .slice none 0 0, .slice y.bA y.base.length y.bc, .int .i64 y.t, .slice y.oA y.ops.length y.oc, .slice y.uA y.us.length y.uc, .slice y.wA y.now.length y.wc, .slice A l.length c, .int .i64 0, .int .i64 0, .int .i64 v2, .int .i64 0, .slice none 0 0, .int .i64 0] rfl) rfl rfl rfl rfl #[.int .i64 0, .int .i64 0, .int .i64 0, .int .i64 v1, .int .i64 y.t, .int .i64 v1, .slice none 0 0, .int .i64 0, .int .i64 0, .slice none 0 0, .slice none 0 0, .slice none 0 0, .slice none 0 0, .slice none 0 0, .slice y.bA y.base.length y.bc, .int .i64 y.t, .slice y.oA y.ops.length y.oc, .slice y.uA y.us.length y.uc, .slice y.wA y.now.length y.wc, .slice A l.length c, .int .i64 0, .int .i64 0, .int .i64 v2, .int .i64 0, .slice none 0 0, .int .i64 0] rfl ?_
    exact ⟨⟨v1, v2, y, A, c, l⟩, true, rfl, ⟨hP.keepZ hZ (by_row _ n2 _), hL.keepF hF hn2B (by_row _ n2 _)⟩, below_setRow hB hn2 _, Or.inl ⟨HI.out, rfl⟩⟩
end Go.Proofs.YtfpgfclmmdihjaaGreat

/- The program's Chunks, Cut. -/
namespace Go.Proofs.YtfpgfclmmdihjaaGreat
open Go.RowKit Nam Cod

theorem size0_iff (s : ByteArray) : s.size = 0 ↔ s = ⟨#[]⟩ := by
  constructor
  · intro h
    obtain ⟨d⟩ := s
    have h2 : d.size = 0 := h
    rw [Array.eq_empty_of_size_eq_zero h2]
  · rintro rfl; rfl
theorem chunks_more {n : Nat} {z : Int} (hn : 1 ≤ n) (hz : 1 ≤ z) : max 1 (((n : Int) + z - 1) / z) = ((n : Int) - 1) / z + 1 := by
  have h1 : (n : Int) + z - 1 = ((n : Int) - 1) + z := by omega
  have h2 : (((n : Int) - 1) + z) / z = ((n : Int) - 1) / z + 1 := Int.add_ediv_of_dvd_right (Int.dvd_refl z) |>.trans (by rw [Int.ediv_self (by omega)])
  have h3 : 0 ≤ ((n : Int) - 1) / z := Int.ediv_nonneg (by omega) (by omega)
  rw [h1, h2]
  omega
theorem quo_le {n : Nat} {z : Int} (hn : 1 ≤ n) (hz : 1 ≤ z) : 0 ≤ ((n : Int) - 1) / z ∧ ((n : Int) - 1) / z ≤ n := by
  have h3 : 0 ≤ ((n : Int) - 1) / z := Int.ediv_nonneg (by omega) (by omega)
  have h4 : ((n : Int) - 1) / z ≤ (n : Int) - 1 := Int.ediv_le_self z (by omega)
  omega
set_option maxRecDepth 100000 in
set_option maxHeartbeats 2000000 in
theorem pChunks_any (s : ByteArray) (z : Int) (w : World) (hs : s.size ≤ 1000000) (hz : i64 z) (hz2 : z ≤ 1099511627776) : Calls Tryz.prog 10 #[.string s, .int .i64 z] w fun e w' => e = .returned (.int .i64 (chunksV s.size z)) ∧ w = w' := by
  by_cases h : z < 1
  · have hv : chunksV s.size z = 0 := if_pos h
    rw [hv]
    have f1 : decide (z < 1) = true := decide_eq_true h
    clear hv h
    go_enter Tryz.func10, Tryz.ntmps10
    go_wp2_with fail
    go_ret
    exact ⟨rfl, rfl⟩
  · have hv : chunksV s.size z = max 1 (((s.size : Int) + z - 1) / z) := if_neg h
    have f1 : decide (z < 1) = false := decide_eq_false h
    by_cases h0 : s.size = 0
    · have hv1 : chunksV s.size z = 1 := by
        rw [hv, h0, show (((0 : Nat) : Int) + z - 1) / z = 0 from Int.ediv_eq_zero_of_lt (by omega) (by omega)]; rfl
      rw [hv1]
      obtain rfl := (size0_iff s).1 h0
      clear hv hv1 h h0
      go_enter Tryz.func10, Tryz.ntmps10
      go_wp2_with fail
      go_ret
      exact ⟨rfl, rfl⟩
    · rw [chunks_more (by omega) (by omega)] at hv
      rw [hv]
      obtain ⟨q0, q1⟩ := quo_le (n := s.size) (z := z) (by omega) (by omega)
      have hne : ¬ s = ⟨#[]⟩ := fun e => h0 ((size0_iff s).2 e)
      have he : s.toList.isEmpty = false := by
        rw [Lib.toList_data s]
        cases hh : s.data.toList with
        | nil =>
          exfalso
          apply h0
          show s.data.size = 0
          rw [← Array.length_toList, hh]; rfl
        | cons _ _ => rfl
      have he2 : ¬ s.toList = [] := fun h => by rw [h] at he; cases he
      have e1 : IntKind.i64.wrap ((s.size : Int) - 1) = (s.size : Int) - 1 := by rw [IntKind.wrap_i64]; omega
      go_enter Tryz.func10, Tryz.ntmps10
      go_wp2_with fail
      go_ret
      exact ⟨rfl, rfl⟩

theorem cut_end {s : ByteArray} {lo c : Nat} (hlo : lo ≤ s.size) : (s.extract lo s.size).extract 0 (min c (s.size - lo)) = s.extract lo (min s.size (lo + c)) := by
  rw [ByteArray.extract_extract]
  congr 1
  omega
set_option maxRecDepth 100000 in
set_option maxHeartbeats 4000000 in
theorem pCut_any (s : ByteArray) (z i : Int) (r : Rp) (w : World) (hs : s.size ≤ 1000000) (hz : i64 z) (hz2 : z ≤ 1099511627776) (hi : i64 i) : Calls Tryz.prog 7 #[.string s, .int .i64 z, .int .i64 i, .agg #[.int .i64 r.d, .int .i64 r.i, .int .i64 r.b, .int .i64 r.t, .int .i64 r.m, .int .i64 r.p, .int .i64 r.c, .int .i64 r.s, .int .i64 r.k]] w fun e w' => ∃ (g : Gf) (b : Bool), cutV s z i r = (g, b) ∧ e = .returned (.tuple #[.agg #[.int .i64 g.d, .int .i64 g.i, .int .i64 g.c, .int .i64 g.t, .string g.s], .bool b]) ∧ Below w.heap.size w w' := by
  have hP : rpE.In ((w.alloc (.cells #[.int .i64 r.d, .int .i64 r.i, .int .i64 r.b, .int .i64 r.t, .int .i64 r.m, .int .i64 r.p, .int .i64 r.c, .int .i64 r.s, .int .i64 r.k] 24)).alloc (.cells #[.int .i64 0, .int .i64 0, .int .i64 0, .int .i64 0, .string ⟨#[]⟩] 47)) w.heap.size r := (El.In.new (E := rpE) w r _ rfl).alloc _
  have hZ : gfE.In ((w.alloc (.cells #[.int .i64 r.d, .int .i64 r.i, .int .i64 r.b, .int .i64 r.t, .int .i64 r.m, .int .i64 r.p, .int .i64 r.c, .int .i64 r.s, .int .i64 r.k] 24)).alloc (.cells #[.int .i64 0, .int .i64 0, .int .i64 0, .int .i64 0, .string ⟨#[]⟩] 47)) (w.heap.size + 1) zeroGf := by
    have h := El.In.new (E := gfE) (w.alloc (.cells #[.int .i64 r.d, .int .i64 r.i, .int .i64 r.b, .int .i64 r.t, .int .i64 r.m, .int .i64 r.p, .int .i64 r.c, .int .i64 r.s, .int .i64 r.k] 24)) zeroGf _ rfl
    rw [alloc_size] at h; exact h
  have hB := below_alloc (below_alloc (Below.refl w.heap.size w) (.cells #[.int .i64 r.d, .int .i64 r.i, .int .i64 r.b, .int .i64 r.t, .int .i64 r.m, .int .i64 r.p, .int .i64 r.c, .int .i64 r.s, .int .i64 r.k] 24)) (.cells #[.int .i64 0, .int .i64 0, .int .i64 0, .int .i64 0, .string ⟨#[]⟩] 47)
  have C := Lib.hid (fun wx => pChunks_any s z wx hs hz hz2)
  obtain ⟨n, hn⟩ : ∃ n, chunksV s.size z = n := ⟨_, rfl⟩
  rw [hn] at C
  go_enter Tryz.func7, Tryz.ntmps7
  go_upto_region 1 with fail
  generalize (w.alloc (.cells #[.int .i64 r.d, .int .i64 r.i, .int .i64 r.b, .int .i64 r.t, .int .i64 r.m, .int .i64 r.p, .int .i64 r.c, .int .i64 r.s, .int .i64 r.k] 24)).alloc (.cells #[.int .i64 0, .int .i64 0, .int .i64 0, .int .i64 0, .string ⟨#[]⟩] 47) = W at *
  obtain ⟨n8, h8⟩ : ∃ n, w.heap.size + 1 = n := ⟨_, rfl⟩
  obtain ⟨n7, h7⟩ : ∃ n, w.heap.size = n := ⟨_, rfl⟩
  have hw8 : w.heap.size ≤ n8 := by omega
  have hne : n7 ≠ n8 := by omega
  rw [h8] at hZ ⊢
  rw [h7] at hP ⊢
  clear h8 h7
  go_wp2_with fail
  refine (C.out _).mono ?_
  rintro e w1 ⟨rfl, rfl⟩
  clear C
  by_cases h0 : i < 0
  · have hv : cutV s z i r = (zeroGf, false) := by unfold cutV; rw [if_neg (by omega)]
    have HV := Lib.hid hv
    have f1 : decide (i < 0) = true := decide_eq_true h0
    clear hv h0 hn
    go_wp2_with (first | (refine El.store gfRow rfl _ _ rfl n8 zeroGf #[.int .i64 0, .int .i64 0, .int .i64 0, .int .i64 0, .string ⟨#[]⟩] rfl rfl rfl zeroGf hZ ?_) | fail)
    refine El.ret2 gfRow (hZ.set zeroGf _ rfl) rfl rfl rfl rfl #[.int .i64 0, .int .i64 0, .int .i64 0, .int .i64 0, .string ⟨#[]⟩] rfl ?_
    exact ⟨zeroGf, false, HV.out, rfl, below_setRow hB hw8 _⟩
  · have f1 : decide (i < 0) = false := decide_eq_false h0
    by_cases h1 : n ≤ i
    · have hv : cutV s z i r = (zeroGf, false) := by unfold cutV; rw [hn, if_neg (by omega)]
      have HV := Lib.hid hv
      have f2 : decide (n ≤ i) = true := decide_eq_true h1
      clear hv h0 h1 hn
      go_wp2_with (first | (refine El.store gfRow rfl _ _ rfl n8 zeroGf #[.int .i64 0, .int .i64 0, .int .i64 0, .int .i64 0, .string ⟨#[]⟩] rfl rfl rfl zeroGf hZ ?_) | fail)
      refine El.ret2 gfRow (hZ.set zeroGf _ rfl) rfl rfl rfl rfl #[.int .i64 0, .int .i64 0, .int .i64 0, .int .i64 0, .string ⟨#[]⟩] rfl ?_
      exact ⟨zeroGf, false, HV.out, rfl, below_setRow hB hw8 _⟩
    · have f2 : decide (n ≤ i) = false := decide_eq_false h1
      have hz1 : ¬ z < 1 := fun h => by
        have : chunksV s.size z = 0 := if_pos h
        omega
      obtain ⟨c, rfl⟩ : ∃ c : Nat, z = c := ⟨z.toNat, by omega⟩
      obtain ⟨a, rfl⟩ : ∃ a : Nat, i = a := ⟨i.toNat, by omega⟩
      have hn2 : n = max 1 (((s.size : Int) + c - 1) / c) := by rw [← hn]; exact if_neg hz1
      obtain ⟨m1, m2, m3, m5⟩ := cut_math (n := s.size) (a := a) (c := c) (by omega) (by rw [← hn2]; omega) hs (by omega)
      have hv : cutV s c a r = (⟨r.d, r.i, a, n, s.extract (a * c) (min s.size ((a + 1) * c))⟩, true) := by
        unfold cutV; rw [hn, if_pos (by omega)]; simp only [Int.toNat_natCast]
      have i1 : (a : Int) * (c : Int) = ((a * c : Nat) : Int) := by rw [Int.natCast_mul]
      have hm : (a + 1) * c = a * c + c := by rw [Nat.add_mul, Nat.one_mul]
      rw [hm, ← cut_end m1] at hv
      have HV := Lib.hid hv
      obtain ⟨lo, hlo⟩ : ∃ lo, a * c = lo := ⟨_, rfl⟩
      rw [hlo] at m1 i1 HV
      have e1 : IntKind.i64.wrap ((a : Int) * (c : Int)) = (lo : Int) := by rw [i1, IntKind.wrap_i64]; omega
      have hTs : (s.extract lo s.size).size = s.size - lo := by rw [ByteArray.size_extract]; omega
      obtain ⟨q0, q1, _, _, _, _, _, _, _⟩ := rpIn9 hP
      have HTS := Lib.hid hTs
      clear hn hn2 hlo hm i1 hv m2 m3 m5 hTs
      go_upto_region 5 with fail
      have hTs := HTS.out
      generalize s.extract lo s.size = T at *
      obtain ⟨k, hk⟩ : ∃ k, min c (s.size - lo) = k := ⟨_, rfl⟩
      have e4 : min (c : Int) (T.size : Int) = (k : Int) := by omega
      have m4 : k ≤ T.size := by omega
      rw [hk] at HV
      clear hk hTs HTS e1
      obtain ⟨D, hD⟩ : ∃ D, T.extract 0 k = D := ⟨_, rfl⟩
      rw [hD] at HV
      go_upto_region 6 with fail
      clear hD e4 m4
      go_wp2_with (first | (refine El.store gfRow rfl _ _ rfl n8 ⟨r.d, r.i, a, n, D⟩ #[.int .i64 r.d, .int .i64 r.i, .int .i64 (a : Nat), .int .i64 n, .string D] rfl rfl rfl zeroGf hZ ?_) | fail)
      refine El.ret2 gfRow (hZ.set ⟨r.d, r.i, a, n, D⟩ #[.int .i64 r.d, .int .i64 r.i, .int .i64 (a : Nat), .int .i64 n, .string D] rfl) rfl rfl rfl rfl #[.int .i64 r.d, .int .i64 r.i, .int .i64 (a : Nat), .int .i64 n, .string D] rfl ?_
      exact ⟨⟨r.d, r.i, a, n, D⟩, true, HV.out, rfl, below_setRow hB hw8 _⟩
end Go.Proofs.YtfpgfclmmdihjaaGreat

/- The program's gifts: all calls. -/
namespace Go.Proofs.YtfpgfclmmdihjaaGreat
open Go.RowKit Nam Cod Tre Pst

theorem giftCalls : GiftCalls where
  freeze pos clock y A c l w h1 h2 hI hl60 hok hl hw hT := pFreeze_any pos clock y A c l w h1 h2 hI hl60 hok hl hw hT.1
  counts w b p s bad hs hp hr := pReadCounts_uni w b p s bad hs hp hr
  thaw s w hs hf := pThaw_any s w hs hf
  chunks s z w hs hz hz2 := (pChunks_any s z w hs hz hz2).mono fun e w' ⟨h1, h2⟩ => ⟨h1, by rw [← h2]; exact Below.refl _ _⟩
  cut s z i r w hs hz hz2 hi := pCut_any s z i r w hs hz hz2 hi
  newer a b w := pNewerG_any a b w
  merge A c l g w hl hT := pMergeG_any A c l g w hl hT
  wanted g A c l w hl hT := pWantedG_any g A c l w hl hT.1
end Go.Proofs.YtfpgfclmmdihjaaGreat
