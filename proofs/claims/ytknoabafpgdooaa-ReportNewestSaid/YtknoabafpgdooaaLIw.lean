/- ReportNewest: merged in whatever order, reports come to the newest of each device. No condition. -/
import Derived.Test.YtknoabafpgdooaaB05
import Derived.Lib.QuietBelow
import Derived.BigQuiet
import Derived.Deep.Draws
namespace Go.Proofs.Ytknoabafpgdooaa
open Go.ChangeShapes Go.WideShapes Go.ChangeAt Go.RowKit Go.Deep Cod

def okP (x y : Rp) : Prop := x.d = y.d → newB x y = true ∨ newB y x = true
theorem okP.symm {x y : Rp} (h : okP x y) : okP y x := fun e => (h e.symm).symm
theorem apart_of {l : List Rp} (h : ∀ a (h : a < l.length), ∀ b (hb : b < a), okP (l[b]'(by omega)) l[a]) : Apart l := List.pairwise_iff_getElem.2 fun a b ha hb hab => h b hb a hab
theorem apart_perm {l m : List Rp} (h : Apart l) (hp : m.Perm l) : Apart m := List.Pairwise.perm h hp.symm fun h => okP.symm h
theorem ris_get : ∀ {a : List Rp}, RisR a → ∀ i j (hi : i < j) (hj : j < a.length), (a[i]'(by omega)).d < a[j].d
  | [], _, _, j, _, hj => absurd hj (Nat.not_lt_zero j)
  | x :: a, h, 0, 0, hi, _ => absurd hi (Nat.lt_irrefl 0)
  | x :: a, h, 0, j + 1, _, hj => by
    rw [List.getElem_cons_zero, List.getElem_cons_succ]
    exact h.1 _ (List.getElem_mem _)
  | x :: a, h, i + 1, 0, hi, _ => absurd hi (Nat.not_lt_zero _)
  | x :: a, h, i + 1, j + 1, hi, hj => by
    rw [List.getElem_cons_succ, List.getElem_cons_succ]
    exact ris_get h.2 i j (by omega) (by rw [List.length_cons] at hj; omega)
theorem ris_uniq {a : List Rp} (h : RisR a) {x y : Rp} (hx : x ∈ a) (hy : y ∈ a) (e : x.d = y.d) : x = y := by
  obtain ⟨i, hi, rfl⟩ := List.getElem_of_mem hx
  obtain ⟨j, hj, rfl⟩ := List.getElem_of_mem hy
  rcases Nat.lt_trichotomy i j with c | c | c
  · have := ris_get h i j c hj; omega
  · subst c; rfl
  · have := ris_get h j i c hi; omega
theorem newest_fold {l : List Rp} (h : Apart l) : NewestR l (foldR l) := by
  have := foldR_newest h l.length (Nat.le_refl _)
  rw [List.take_length] at this
  exact this
theorem newest_perm_eq {l m : List Rp} (h : Apart l) (hp : m.Perm l) : foldR m = foldR l :=
  newest_one (newest_perm (newest_fold (apart_perm h hp)) fun _ => hp.mem_iff) (newest_fold h)
theorem newest_chk {l N : List Rp} (h : NewestR l N) {x y : Rp} (hx : x ∈ l) (hy : y ∈ N) (e : x.d = y.d) : newB x y = false := by
  obtain ⟨z, hz, h1, h2⟩ := h.has x hx
  have h3 := ris_uniq h.ris hz hy (h1.trans e)
  subst h3
  rcases h2 with rfl | h2
  · exact newB_self _
  · exact newB_anti h2
theorem newest_len {l N : List Rp} (h : NewestR l N) : 0 < N.length ↔ 0 < l.length := by
  constructor
  · intro h0
    have := h.mem N[0] (List.getElem_mem _)
    exact List.length_pos_of_mem this
  · intro h0
    obtain ⟨y, hy, _⟩ := h.has l[0] (List.getElem_mem _)
    exact List.length_pos_of_mem hy
theorem El.Own.headR {w : World} {B : Nat} {v : Value} {l : List Rp} (h : rpE.Own w B v l) : ∃ A c, v = .slice A l.length c ∧ (0 < l.length → ∃ g, A = some ⟨g, 0, none⟩) := by
  unfold El.Own at h
  rcases h.2 with ⟨rfl, h0⟩ | ⟨g, cap, cur, rfl, _, _, hnc, _⟩
  · have : l = [] := List.eq_nil_of_length_eq_zero h0
    subst this
    exact ⟨none, 0, rfl, fun h => by simp at h⟩
  · exact ⟨some ⟨g, 0, none⟩, cap, rfl, fun _ => ⟨g, rfl⟩⟩
def RpC (b o : Nat) (r : Rp) (w : World) : Prop := w.cell? ⟨b, o, none⟩ = some (.int .i64 r.d) ∧ w.cell? ⟨b, o + 1, none⟩ = some (.int .i64 r.i) ∧ w.cell? ⟨b, o + 2, none⟩ = some (.int .i64 r.b) ∧ w.cell? ⟨b, o + 3, none⟩ = some (.int .i64 r.t) ∧ w.cell? ⟨b, o + 4, none⟩ = some (.int .i64 r.m) ∧ w.cell? ⟨b, o + 5, none⟩ = some (.int .i64 r.p) ∧ w.cell? ⟨b, o + 6, none⟩ = some (.int .i64 r.c) ∧ w.cell? ⟨b, o + 7, none⟩ = some (.int .i64 r.s) ∧ w.cell? ⟨b, o + 8, none⟩ = some (.int .i64 r.k)
def SwR (g i j : Nat) (x y : Rp) (w : World) : Prop := RpC g i x w ∧ RpC g j y w
section
variable {P : Program} {ops : Array Oper} {Q : Exit → Act → World → Prop} {md : Region.Mode} {S : World → Prop} {n : Nat}
/-- An operation behind number n: nothing is asked. -/
theorem AllG.afterR {fuel : Nat} {listed : Array Bool} {a : Act} {w : World} {i : Nat} {o : Oper} {rs : List Nat} (ho : ops.toList[i]? = some o) (hn : (listed.setIfInBounds i true).getD n true = true)
    (h : ∀ K : Act → World → Prop, RowKit.Hid (∀ b v, anyG P md ops Q S n fuel (listed.setIfInBounds i true) b v → K b v) → if Region.wanted o (yielded ops a.tmps) = true then Oper.wp P o a w K Q else K (a.put o.dst undef) w)
    (hs : AllG P md ops Q S n fuel listed a w rs) : AllG P md ops Q S n fuel listed a w (i :: rs) := fun j hj => by
  rcases List.mem_cons.1 hj with rfl | hj
  · exact wpOp_step (by rw [← Array.getElem?_toList]; exact ho) (fun K hK => h K (Lib.hid fun b v hW => hK b v ⟨fun e => (by rw [hn] at e; cases e), hW⟩))
  · exact hs j hj
theorem anyG_plain_afterR {i : Nat} {oi : Oper} {v : Value} {fuel : Nat} {listed : Array Bool} {a : Act} {w : World} (hi : ops.toList[i]? = some oi)
    (hin : (i == n) = false) (hs : Region.noSelect ops = true) (hf : Region.free md ops listed i = true) (hr : (Region.ready md ops listed).contains i = true)
    (hQ : ∀ c a w, Q (.panic c) (a.put oi.dst v) w → Q (.panic c) a w) (hy : Yields P ops oi v a) (hn : listed.getD n true = true)
    (h : anyG P md ops Q S n fuel (listed.setIfInBounds i true) (a.put oi.dst v) w) : anyG P md ops Q S n (fuel + 1) listed a w :=
  anyG_plain hi hin hs hf hr hQ hy (fun e => by rw [hn] at e; cases e) h
end

theorem El.step_setAtR {α : Type} {E : El α} {P : Program} (R : El.Row E P) {ops : Array Oper} {o : Oper} {a : Act} {w : World} {K : Act → World → Prop} {Q : Exit → Act → World → Prop} {F : Prop} (hgd : o.guard = none) (x y : Operand) (ho : o.op = .store E.e x y)
    (B g cap i : Nat) (l : List α) (q : α) (hown : E.Own w B (.slice (some ⟨g, 0, none⟩) l.length cap) l) (hi : i < l.length) (cs : Array Value) (hcs : cs = (E.c q).toArray) (hx : a.eval x = .pointer (some ⟨g, i * E.k, none⟩)) (hy : a.eval y = .agg cs)
    (h : ∀ w', E.Own w' B (.slice (some ⟨g, 0, none⟩) l.length cap) (l.set i q) → w.grownBy w' (some g) → w'.heap.size = w.heap.size → K (a.put o.dst undef) w') : if Region.wanted o (yielded ops a.tmps) = true then Oper.wp P o a w K Q else F := by
  rw [if_pos (by simp [Region.wanted, hgd])]
  exact El.wp_setAt R x y ho B g cap i l q hown hi cs hcs hx hy h
set_option maxRecDepth 100000 in
set_option maxHeartbeats 2000000 in
theorem newest14_no (H : ReportCalls) (A : Option Addr) (c : Nat) (l : List Rp) (TA : Option Addr) (tc : Nat) (turn : List Int) (w : World) (h : 40 < l.length) :
    Calls Try.prog 6 #[.slice A l.length c, .slice TA turn.length tc] w fun e w' => e = .returned (.bool true) ∧ Below w.heap.size w w' := by
  go_enter Try.func6, Try.ntmps6
  go_wp2_with fail
  refine (awake14_any H _).mono ?_
  rintro e w2 ⟨rfl, hb2⟩
  go_wp2_with fail
  go_ret
  exact ⟨rfl, hb2⟩

set_option maxRecDepth 100000 in
set_option maxHeartbeats 8000000 in
theorem newest14_walk (H : ReportCalls) (A : Option Addr) (c : Nat) (l : List Rp) (TA : Option Addr) (tc : Nat) (turn : List Int) (w : World) (hl : l.length ≤ 40) (hT : rpE.Sl w A l) (hTn : A = none → c = 0) (hturn : byE.Sl w TA turn) (hby : ∀ t ∈ turn, 0 ≤ t ∧ t ≤ 255) :
    Calls Try.prog 6 #[.slice A l.length c, .slice TA turn.length tc] w fun e w' => e = .returned (.bool true) ∧ Below w.heap.size w w' := by
  have HAW := Lib.hid (fun (wx : World) => awake14_any H wx)
  have HNEW := Lib.hid H.newer
  have HMG := Lib.hid H.merge
  have hb1 := Below.refl w.heap.size w
  clear H
  go_enter Try.func6, Try.ntmps6
  go_wp2_with fail
  go_loopw [5] (fun yi wr => ∃ i : Nat, i ≤ l.length ∧ yi = .int .i64 i ∧ (∀ a (h : a < l.length), a < i → ∀ b (hb : b < a), okP (l[b]'(by omega)) l[a]) ∧ Below w.heap.size w wr) (fun yi _ => l.length - (intOf yi).toNat)
  case atStart => exact ⟨0, Nat.zero_le _, rfl, fun a h ha => by omega, hb1⟩
  case round =>
    clear hb1
    obtain ⟨i, hi, rfl, hun, hB⟩ := hrel
    by_cases hil : i < l.length
    · have HUN := Lib.hid hun
      clear hun
      go_wp2_with fail
      go_loopw [6] (fun yk wr => ∃ k : Nat, k ≤ i ∧ yk = .int .i64 k ∧ (∀ b (hb : b < i), b < k → okP (l[b]'(by omega)) l[i]) ∧ Below w.heap.size w wr) (fun yk _ => i - (intOf yk).toNat)
      case atStart => exact ⟨0, Nat.zero_le _, rfl, fun b hb h => by omega, hB⟩
      case round =>
        clear hB
        obtain ⟨k, hk, rfl, huk, hB⟩ := hrel
        by_cases hki : k < i
        · obtain ⟨b, off, rfl, hbw, hc⟩ := hT (by omega)
          have hkl : k < l.length := by omega
          have hat1 : rpE.At wr b (off + k * 9) l[k] := (hc k hkl).below hB hbw
          have hat2 : rpE.At wr b (off + i * 9) l[i] := (hc i hil).below hB hbw
          obtain ⟨x, hx⟩ : ∃ x, l[k] = x := ⟨_, rfl⟩
          obtain ⟨y, hy⟩ : ∃ y, l[i] = y := ⟨_, rfl⟩
          rw [hx] at hat1
          rw [hy] at hat2
          have HX := Lib.hid hx
          have HY := Lib.hid hy
          have HUK := Lib.hid huk
          obtain ⟨u0, u1, u2, u3, u4, u5, u6, u7, u8⟩ := rpAt9 hat1
          obtain ⟨v0, v1, v2, v3, v4, v5, v6, v7, v8⟩ := rpAt9 hat2
          have kx0 := cell_regrown u0
          have kx1 := cell_regrown u1
          have kx2 := cell_regrown u2
          have kx3 := cell_regrown u3
          have kx4 := cell_regrown u4
          have kx5 := cell_regrown u5
          have kx6 := cell_regrown u6
          have kx7 := cell_regrown u7
          have kx8 := cell_regrown u8
          have ky0 := cell_regrown v0
          have ky1 := cell_regrown v1
          have ky2 := cell_regrown v2
          have ky3 := cell_regrown v3
          have ky4 := cell_regrown v4
          have ky5 := cell_regrown v5
          have ky6 := cell_regrown v6
          have ky7 := cell_regrown v7
          have ky8 := cell_regrown v8
          clear hat1 hat2 hx hy huk hc u0 u1 u2 u3 u4 u5 u6 u7 u8 v0 v1 v2 v3 v4 v5 v6 v7 v8
          by_cases hd : x.d = y.d
          · have e1 : (x.d == y.d) = true := beq_iff_eq.2 hd
            cases n1 : newB y x with
            | true =>
              have HOK := Lib.hid (show okP x y from fun _ => Or.inr n1)
              have d1 : ∀ dd os, Calls Try.prog 11 #[.agg #[.int .i64 y.d, .int .i64 y.i, .int .i64 y.b, .int .i64 y.t, .int .i64 y.m, .int .i64 y.p, .int .i64 y.c, .int .i64 y.s, .int .i64 y.k], .agg #[.int .i64 x.d, .int .i64 x.i, .int .i64 x.b, .int .i64 x.t, .int .i64 x.m, .int .i64 x.p, .int .i64 x.c, .int .i64 x.s, .int .i64 x.k]] (Sort.grow (redrawn wr dd) os) fun e w'' => e = .returned (.bool true) ∧ ∃ p : Regrown, w'' = Sort.grow (redrawn wr p.d) p.os := fun dd os => Calls.regrown_of (by
                have h2 := HNEW.out y x (Sort.grow (redrawn wr dd) os)
                rw [n1] at h2
                exact h2)
              have d2 := d1
              clear hd n1
              go_wp2_with fail
              refine wp_region_quiet_below (by kernel_rfl) (by kernel_rfl) ?_
              repeat (go_big_quiet_step ((with_reducible (first | exact d1 _ _ | exact d2 _ _))))
              refine wpQuiet_nil ?_
              intro _ hw'
              obtain ⟨⟨dq, osq⟩, hw''⟩ := hw'
              subst hw''
              have hq := below_regrown wr dq osq
              replace hB := hB.trans (hq.mono hB.size)
              generalize Sort.grow (redrawn wr dq) osq = W1 at *
              clear d1 d2 kx0 kx1 kx2 kx3 kx4 kx5 kx6 kx7 kx8 ky0 ky1 ky2 ky3 ky4 ky5 ky6 ky7 ky8
              go_wp2_with fail
              refine ⟨⟨k + 1, by omega, by go_num, fun b' hb' hlt => ?_, hB⟩, by simp [intOf]; omega⟩
              by_cases e : b' = k
              · subst e; rw [HX.out, HY.out]; exact HOK.out
              · exact HUK.out b' hb' (by omega)
            | false =>
              have d1 : ∀ dd os, Calls Try.prog 11 #[.agg #[.int .i64 y.d, .int .i64 y.i, .int .i64 y.b, .int .i64 y.t, .int .i64 y.m, .int .i64 y.p, .int .i64 y.c, .int .i64 y.s, .int .i64 y.k], .agg #[.int .i64 x.d, .int .i64 x.i, .int .i64 x.b, .int .i64 x.t, .int .i64 x.m, .int .i64 x.p, .int .i64 x.c, .int .i64 x.s, .int .i64 x.k]] (Sort.grow (redrawn wr dd) os) fun e w'' => e = .returned (.bool false) ∧ ∃ p : Regrown, w'' = Sort.grow (redrawn wr p.d) p.os := fun dd os => Calls.regrown_of (by
                have h2 := HNEW.out y x (Sort.grow (redrawn wr dd) os)
                rw [n1] at h2
                exact h2)
              cases n2 : newB x y with
              | true =>
                have HOK := Lib.hid (show okP x y from fun _ => Or.inl n2)
                have d2 : ∀ dd os, Calls Try.prog 11 #[.agg #[.int .i64 x.d, .int .i64 x.i, .int .i64 x.b, .int .i64 x.t, .int .i64 x.m, .int .i64 x.p, .int .i64 x.c, .int .i64 x.s, .int .i64 x.k], .agg #[.int .i64 y.d, .int .i64 y.i, .int .i64 y.b, .int .i64 y.t, .int .i64 y.m, .int .i64 y.p, .int .i64 y.c, .int .i64 y.s, .int .i64 y.k]] (Sort.grow (redrawn wr dd) os) fun e w'' => e = .returned (.bool true) ∧ ∃ p : Regrown, w'' = Sort.grow (redrawn wr p.d) p.os := fun dd os => Calls.regrown_of (by
                  have h2 := HNEW.out x y (Sort.grow (redrawn wr dd) os)
                  rw [n2] at h2
                  exact h2)
                clear hd n1 n2
                go_wp2_with fail
                refine wp_region_quiet_below (by kernel_rfl) (by kernel_rfl) ?_
                repeat (go_big_quiet_step ((with_reducible (first | exact d1 _ _ | exact d2 _ _))))
                refine wpQuiet_nil ?_
                intro _ hw'
                obtain ⟨⟨dq, osq⟩, hw''⟩ := hw'
                subst hw''
                have hq := below_regrown wr dq osq
                replace hB := hB.trans (hq.mono hB.size)
                generalize Sort.grow (redrawn wr dq) osq = W1 at *
                clear d1 d2 kx0 kx1 kx2 kx3 kx4 kx5 kx6 kx7 kx8 ky0 ky1 ky2 ky3 ky4 ky5 ky6 ky7 ky8
                go_wp2_with fail
                refine ⟨⟨k + 1, by omega, by go_num, fun b' hb' hlt => ?_, hB⟩, by simp [intOf]; omega⟩
                by_cases e : b' = k
                · subst e; rw [HX.out, HY.out]; exact HOK.out
                · exact HUK.out b' hb' (by omega)
              | false =>
                have d2 : ∀ dd os, Calls Try.prog 11 #[.agg #[.int .i64 x.d, .int .i64 x.i, .int .i64 x.b, .int .i64 x.t, .int .i64 x.m, .int .i64 x.p, .int .i64 x.c, .int .i64 x.s, .int .i64 x.k], .agg #[.int .i64 y.d, .int .i64 y.i, .int .i64 y.b, .int .i64 y.t, .int .i64 y.m, .int .i64 y.p, .int .i64 y.c, .int .i64 y.s, .int .i64 y.k]] (Sort.grow (redrawn wr dd) os) fun e w'' => e = .returned (.bool false) ∧ ∃ p : Regrown, w'' = Sort.grow (redrawn wr p.d) p.os := fun dd os => Calls.regrown_of (by
                  have h2 := HNEW.out x y (Sort.grow (redrawn wr dd) os)
                  rw [n2] at h2
                  exact h2)
                clear hd n1 n2 HUK
                go_wp2_with fail
                refine wp_region_quiet_below (by kernel_rfl) (by kernel_rfl) ?_
                repeat (go_big_quiet_step ((with_reducible (first | exact d1 _ _ | exact d2 _ _))))
                refine wpQuiet_nil ?_
                intro _ hw'
                obtain ⟨⟨dq, osq⟩, hw''⟩ := hw'
                subst hw''
                have hq := below_regrown wr dq osq
                replace hB := hB.trans (hq.mono hB.size)
                generalize Sort.grow (redrawn wr dq) osq = W1 at *
                clear d1 d2 kx0 kx1 kx2 kx3 kx4 kx5 kx6 kx7 kx8 ky0 ky1 ky2 ky3 ky4 ky5 ky6 ky7 ky8
                go_wp2_with fail
                refine (HAW.out _).mono ?_
                rintro e w2 ⟨rfl, hb2⟩
                go_wp2_with fail
                go_ret
                exact ⟨rfl, hB.trans (hb2.mono hB.size)⟩
          · have e1 : (x.d == y.d) = false := beq_eq_false_iff_ne.2 hd
            have HOK := Lib.hid (show okP x y from fun e => absurd e hd)
            obtain ⟨z, n1⟩ : ∃ z, newB y x = z := ⟨_, rfl⟩
            have d1 : ∀ dd os, Calls Try.prog 11 #[.agg #[.int .i64 y.d, .int .i64 y.i, .int .i64 y.b, .int .i64 y.t, .int .i64 y.m, .int .i64 y.p, .int .i64 y.c, .int .i64 y.s, .int .i64 y.k], .agg #[.int .i64 x.d, .int .i64 x.i, .int .i64 x.b, .int .i64 x.t, .int .i64 x.m, .int .i64 x.p, .int .i64 x.c, .int .i64 x.s, .int .i64 x.k]] (Sort.grow (redrawn wr dd) os) fun e w'' => e = .returned (.bool z) ∧ ∃ p : Regrown, w'' = Sort.grow (redrawn wr p.d) p.os := fun dd os => Calls.regrown_of (by
              have h2 := HNEW.out y x (Sort.grow (redrawn wr dd) os)
              rw [n1] at h2
              exact h2)
            have d2 := d1
            clear hd n1
            go_wp2_with fail
            refine wp_region_quiet_below (by kernel_rfl) (by kernel_rfl) ?_
            repeat (go_big_quiet_step ((with_reducible (first | exact d1 _ _ | exact d2 _ _))))
            refine wpQuiet_nil ?_
            intro _ hw'
            obtain ⟨⟨dq, osq⟩, hw''⟩ := hw'
            subst hw''
            have hq := below_regrown wr dq osq
            replace hB := hB.trans (hq.mono hB.size)
            generalize Sort.grow (redrawn wr dq) osq = W1 at *
            clear d1 d2 kx0 kx1 kx2 kx3 kx4 kx5 kx6 kx7 kx8 ky0 ky1 ky2 ky3 ky4 ky5 ky6 ky7 ky8
            go_wp2_with fail
            refine ⟨⟨k + 1, by omega, by go_num, fun b' hb' hlt => ?_, hB⟩, by simp [intOf]; omega⟩
            by_cases e : b' = k
            · subst e; rw [HX.out, HY.out]; exact HOK.out
            · exact HUK.out b' hb' (by omega)
        · obtain rfl : k = i := by omega
          have HUK := Lib.hid huk
          clear huk
          go_wp2_with fail
          refine ⟨⟨k + 1, by omega, by go_num, fun a ha hak b hb => ?_, hB⟩, by simp [intOf]; omega⟩
          by_cases e : a = k
          · subst e; exact HUK.out b hb hb
          · exact HUN.out a ha (by omega) b hb
    · obtain rfl : i = l.length := by omega
      have HAP := Lib.hid (apart_of fun a h b hb => hun a h h b hb)
      clear hun
      have hE := El.Own.empty (E := rpE) wr wr.heap.size (Nat.le_refl _)
      have hb0 := below_alloc (Below.refl wr.heap.size wr) (.cells #[] 23)
      have hTr := (hT.below hB).below hb0
      go_wp2_with (at_builtin; refine El.wpList_app rpInn rfl _ _ rfl wr.heap.size _ [] l rfl hE A _ c rfl rfl hTr hTn (by simp; omega) (by simp) ?_; intro v' w2 hown hg _)
      have hown1 : rpE.Own w2 wr.heap.size v' l := hown
      have hB2 : Below w.heap.size w w2 := ((below_alloc hB (.cells #[] 23)).grown hg (by have := hB.size; rw [alloc_size]; omega) (fun j e => by have := hE.rows j e; have := hB.size; omega))
      have hBw := hB.size
      obtain ⟨A7, c7, rfl, hhead⟩ := El.Own.headR hown1
      generalize wr.heap.size = B7 at *
      clear hE hb0 hTr hown hg hB
      try simp only [Act.put, List.setIfInBounds_toArray, List.set_cons_zero, List.set_cons_succ]
      have HH := Lib.hid hhead
      clear hhead
      go_loopw [8] (fun yi wr => ∃ (i : Nat) (ml : List Rp), i ≤ turn.length ∧ yi = .int .i64 i ∧ ml.Perm l ∧ rpE.Own wr B7 (.slice A7 l.length c7) ml ∧ Below w.heap.size w wr) (fun yi _ => turn.length - (intOf yi).toNat)
      case atStart => exact ⟨0, l, Nat.zero_le _, rfl, List.Perm.refl l, hown1, hB2⟩
      case round =>
        clear hown1 hB2
        obtain ⟨i, ml, hit, rfl, hperm, hown, hB⟩ := hrel
        by_cases hcc : i < turn.length ∧ i < 40 ∧ 0 < l.length
        · obtain ⟨h1, h2, h3⟩ := hcc
          obtain ⟨g, rfl⟩ := HH.out h3
          obtain ⟨tb, toff, rfl, htb, htc⟩ := hturn (by omega)
          have hbt := hby turn[i] (List.getElem_mem _)
          rename World => wx
          have htat : byE.At wx tb (toff + i * 1) turn[i] := (htc i h1).below hB htb
          have htc0 : wx.cell? ⟨tb, toff + i, none⟩ = some (.int .u8 turn[i]) := by have h := htat 0 _ rfl; rw [Nat.mul_one] at h; exact h
          obtain ⟨s, hs⟩ : ∃ s, turn[i] = s := ⟨_, rfl⟩
          rw [hs] at htc0 hbt
          have hwr : IntKind.i64.wrap s = s := IntWalk.i64_in _ (by omega)
          clear htc htat hs
          go_wp2_with fail
          go_quiet (fail)
          go_wp2_with fail
          clear htc0 hwr
          have hml := hperm.length_eq
          obtain ⟨sn, rfl⟩ : ∃ sn : Nat, s = sn := ⟨s.toNat, by omega⟩
          rw [← Int.natCast_emod, ← Int.natCast_emod]
          have ha1 : i % l.length < l.length := Nat.mod_lt _ h3
          have he1 : sn % l.length < l.length := Nat.mod_lt _ h3
          generalize i % l.length = a at *
          generalize sn % l.length = e at *
          have hownd : rpE.Own (wx.drewN nq) B7 (.slice (some ⟨g, 0, none⟩) ml.length c7) ml := by
            rw [hml]; exact hown.kept (row := none) ⟨rfl, rfl, rfl, Nat.le_refl _, fun _ _ _ => rfl⟩ (Or.inr (by intro h; cases h))
          have hBd : Below w.heap.size w (wx.drewN nq) := hB.trans ((below_drew (Below.refl _ _) _).mono hB.size)
          clear hown hB hbt
          have hgB : ∀ j, some g = some j → w.heap.size ≤ j := fun j e => by have h := hownd.rows g rfl; have := Option.some.inj e; omega
          generalize wx.drewN nq = V at *
          have hel : e < ml.length := by omega
          have hal : a < ml.length := by omega
          obtain ⟨A', cap', e0, hSl, _, _⟩ := hownd.sl
          simp only [Value.slice.injEq] at e0
          obtain ⟨e0, _, _⟩ := e0
          subst e0
          obtain ⟨gb, goff, eg, hgl, hgc⟩ := hSl (by omega)
          simp only [Option.some.injEq, Addr.mk.injEq, and_true] at eg
          obtain ⟨rfl, rfl⟩ := eg
          have hatx : rpE.At V g (e * 9) ml[e] := by have h := hgc e hel; rw [Nat.zero_add] at h; exact h
          have haty : rpE.At V g (a * 9) ml[a] := by have h := hgc a hal; rw [Nat.zero_add] at h; exact h
          have hswap := (List.set_set_perm hal hel).trans hperm
          obtain ⟨x, hx⟩ : ∃ x, ml[e] = x := ⟨_, rfl⟩
          obtain ⟨y, hy⟩ : ∃ y, ml[a] = y := ⟨_, rfl⟩
          rw [hx, hy] at hswap
          rw [hx] at hatx
          rw [hy] at haty
          have HSW := Lib.hid hswap
          have HML := Lib.hid hml
          have ia : (0 : Int) ≤ (a : Int) := by omega
          have ie : (0 : Int) ≤ (e : Int) := by omega
          clear hSl hgc hx hy hswap hperm hml
          refine region_anyG (S := SwR g (e * 9) (a * 9) x y) 13 (by kernel_rfl) ?_
          have hownd : rpE.Own V.drew B7 (.slice (some ⟨g, 0, none⟩) ml.length c7) ml := hownd
          have hBd : Below w.heap.size w V.drew := hBd.drew
          have hatx : rpE.At V.drew g (e * 9) x := hatx
          have haty : rpE.At V.drew g (a * 9) y := haty
          generalize V.drew = V1 at *
          have hS : SwR g (e * 9) (a * 9) x y V1 := ⟨rpAt9 hatx, rpAt9 haty⟩
          refine anyG_plain (i := 0) (v := .slice (some ⟨g, 0, none⟩) l.length c7) rfl (by kernel_rfl) (by kernel_rfl) (by kernel_rfl) (by kernel_rfl) (fun _ _ _ h => h) (Or.inl ⟨by rfl, fun w' => by go_simp⟩) (fun _ => hS) ?_
          try simp only [Act.put, List.setIfInBounds_toArray, List.set_cons_zero, List.set_cons_succ]
          refine anyG_plain (i := 1) (v := .int .i64 a) rfl (by kernel_rfl) (by kernel_rfl) (by kernel_rfl) (by kernel_rfl) (fun _ _ _ h => h) (Or.inl ⟨by rfl, fun w' => by go_simp⟩) (fun _ => hS) ?_
          try simp only [Act.put, List.setIfInBounds_toArray, List.set_cons_zero, List.set_cons_succ]
          refine anyG_plain (i := 2) (v := .slice (some ⟨g, 0, none⟩) l.length c7) rfl (by kernel_rfl) (by kernel_rfl) (by kernel_rfl) (by kernel_rfl) (fun _ _ _ h => h) (Or.inl ⟨by rfl, fun w' => by go_simp⟩) (fun _ => hS) ?_
          try simp only [Act.put, List.setIfInBounds_toArray, List.set_cons_zero, List.set_cons_succ]
          refine anyG_plain (i := 3) (v := .int .i64 e) rfl (by kernel_rfl) (by kernel_rfl) (by kernel_rfl) (by kernel_rfl) (fun _ _ _ h => h) (Or.inl ⟨by rfl, fun w' => by go_simp⟩) (fun _ => hS) ?_
          try simp only [Act.put, List.setIfInBounds_toArray, List.set_cons_zero, List.set_cons_succ]
          refine anyG_plain (i := 4) (v := .slice (some ⟨g, 0, none⟩) l.length c7) rfl (by kernel_rfl) (by kernel_rfl) (by kernel_rfl) (by kernel_rfl) (fun _ _ _ h => h) (Or.inl ⟨by rfl, fun w' => by go_simp⟩) (fun _ => hS) ?_
          try simp only [Act.put, List.setIfInBounds_toArray, List.set_cons_zero, List.set_cons_succ]
          refine anyG_plain (i := 5) (v := .int .i64 e) rfl (by kernel_rfl) (by kernel_rfl) (by kernel_rfl) (by kernel_rfl) (fun _ _ _ h => h) (Or.inl ⟨by rfl, fun w' => by go_simp⟩) (fun _ => hS) ?_
          try simp only [Act.put, List.setIfInBounds_toArray, List.set_cons_zero, List.set_cons_succ]
          refine anyG_plain (i := 6) (v := .pointer (some ⟨g, e * 9, none⟩)) rfl (by kernel_rfl) (by kernel_rfl) (by kernel_rfl) (by kernel_rfl) (fun _ _ _ h => h) (Or.inl ⟨by rfl, fun w' => by go_simp⟩) (fun _ => hS) ?_
          try simp only [Act.put, List.setIfInBounds_toArray, List.set_cons_zero, List.set_cons_succ]
          refine anyG_take (i := 7) (v := .agg #[.int .i64 x.d, .int .i64 x.i, .int .i64 x.b, .int .i64 x.t, .int .i64 x.m, .int .i64 x.p, .int .i64 x.c, .int .i64 x.s, .int .i64 x.k]) rfl (by kernel_rfl) (by kernel_rfl) (by kernel_rfl) (by kernel_rfl) (by kernel_rfl) (fun _ _ _ h => h) (Or.inl ⟨by rfl, fun w' hSw => by (obtain ⟨⟨s0, s1, s2, s3, s4, s5, s6, s7, s8⟩, r0, r1, r2, r3, r4, r5, r6, r7, r8⟩ := hSw; go_simp)⟩) hS ?_
          try simp only [Act.put, List.setIfInBounds_toArray, List.set_cons_zero, List.set_cons_succ]
          refine anyG_plain (i := 8) (v := .slice (some ⟨g, 0, none⟩) l.length c7) rfl (by kernel_rfl) (by kernel_rfl) (by kernel_rfl) (by kernel_rfl) (fun _ _ _ h => h) (Or.inl ⟨by rfl, fun w' => by go_simp⟩) (fun _ => hS) ?_
          try simp only [Act.put, List.setIfInBounds_toArray, List.set_cons_zero, List.set_cons_succ]
          refine anyG_plain (i := 9) (v := .int .i64 a) rfl (by kernel_rfl) (by kernel_rfl) (by kernel_rfl) (by kernel_rfl) (fun _ _ _ h => h) (Or.inl ⟨by rfl, fun w' => by go_simp⟩) (fun _ => hS) ?_
          try simp only [Act.put, List.setIfInBounds_toArray, List.set_cons_zero, List.set_cons_succ]
          refine anyG_plain (i := 10) (v := .pointer (some ⟨g, a * 9, none⟩)) rfl (by kernel_rfl) (by kernel_rfl) (by kernel_rfl) (by kernel_rfl) (fun _ _ _ h => h) (Or.inl ⟨by rfl, fun w' => by go_simp⟩) (fun _ => hS) ?_
          try simp only [Act.put, List.setIfInBounds_toArray, List.set_cons_zero, List.set_cons_succ]
          refine anyG_take (i := 11) (v := .agg #[.int .i64 y.d, .int .i64 y.i, .int .i64 y.b, .int .i64 y.t, .int .i64 y.m, .int .i64 y.p, .int .i64 y.c, .int .i64 y.s, .int .i64 y.k]) rfl (by kernel_rfl) (by kernel_rfl) (by kernel_rfl) (by kernel_rfl) (by kernel_rfl) (fun _ _ _ h => h) (Or.inl ⟨by rfl, fun w' hSw => by (obtain ⟨⟨s0, s1, s2, s3, s4, s5, s6, s7, s8⟩, r0, r1, r2, r3, r4, r5, r6, r7, r8⟩ := hSw; go_simp)⟩) hS ?_
          try simp only [Act.put, List.setIfInBounds_toArray, List.set_cons_zero, List.set_cons_succ]
          refine anyG_plain (i := 12) (v := .pointer (some ⟨g, a * 9, none⟩)) rfl (by kernel_rfl) (by kernel_rfl) (by kernel_rfl) (by kernel_rfl) (fun _ _ _ h => h) (Or.inl ⟨by rfl, fun w' => by go_simp⟩) (fun _ => hS) ?_
          try simp only [Act.put, List.setIfInBounds_toArray, List.set_cons_zero, List.set_cons_succ]
          refine anyG_step (rs := [13]) (by kernel_rfl) (by simp) ?_
          refine AllG.last (n := 13) rfl (fun K hK => ?_)
          refine El.step_setAtR rpRow rfl _ _ rfl B7 g c7 a ml x hownd hal #[.int .i64 x.d, .int .i64 x.i, .int .i64 x.b, .int .i64 x.t, .int .i64 x.m, .int .i64 x.p, .int .i64 x.c, .int .i64 x.s, .int .i64 x.k] rfl rfl rfl ?_
          intro V2 hown2 hg2 hs2
          have hBd2 := hBd.grown hg2 hBd.size (fun j e => hgB j e)
          have hel2 : e < (ml.set a x).length := by rw [List.length_set]; exact hel
          refine hK.out _ _ ?_
          try simp only [Act.put, List.setIfInBounds_toArray, List.set_cons_zero, List.set_cons_succ]
          clear hK hS
          refine anyG_plain_afterR (i := 14) (v := .pointer (some ⟨g, e * 9, none⟩)) rfl (by kernel_rfl) (by kernel_rfl) (by kernel_rfl) (by kernel_rfl) (fun _ _ _ h => h) (Or.inl ⟨by rfl, fun w' => by go_simp⟩) (by kernel_rfl) ?_
          try simp only [Act.put, List.setIfInBounds_toArray, List.set_cons_zero, List.set_cons_succ]
          refine anyG_step (rs := [15]) (by kernel_rfl) (by simp) ?_
          refine AllG.afterR rfl (by kernel_rfl) (fun K hK => ?_) AllG.nil
          refine El.step_setAtR rpRow rfl _ _ rfl B7 g c7 e (ml.set a x) y (by rw [List.length_set]; exact hown2) hel2 #[.int .i64 y.d, .int .i64 y.i, .int .i64 y.b, .int .i64 y.t, .int .i64 y.m, .int .i64 y.p, .int .i64 y.c, .int .i64 y.s, .int .i64 y.k] rfl rfl rfl ?_
          intro V3 hown3 hg3 hs3
          have hBd3 := hBd2.grown hg3 hBd2.size (fun j e => hgB j e)
          refine hK.out _ _ ?_
          try simp only [Act.put, List.setIfInBounds_toArray, List.set_cons_zero, List.set_cons_succ]
          clear hK
          refine anyG_done (by kernel_rfl) ?_ _
          have hown4 : rpE.Own V3 B7 (.slice (some ⟨g, 0, none⟩) l.length c7) ((ml.set a x).set e y) := by
            have h := hown3
            rw [List.length_set, HML.out] at h; exact h
          go_wp2_with fail
          exact ⟨⟨i + 1, _, by omega, by go_num, HSW.out, hown4, hBd3⟩, by simp [intOf]; omega⟩
        · have HML := Lib.hid hperm.length_eq
          have HNW := Lib.hid (newest_fold HAP.out)
          have HEQ := Lib.hid (newest_perm_eq HAP.out hperm)
          obtain ⟨A', cap', e0, hSm, hx3, hx4⟩ := hown.sl
          simp only [Value.slice.injEq] at e0
          obtain ⟨e0, hx1, hx2⟩ := e0
          subst e0
          clear hx1 hx2 hx3 hx4 hown hperm HAP
          rcases (show ¬ i < turn.length ∨ (i < turn.length ∧ ¬ i < 40) ∨ (i < turn.length ∧ i < 40 ∧ ¬ 0 < l.length) by omega) with h1 | ⟨h1, h2⟩ | ⟨h1, h2, h3⟩
          · clear hcc
            go_wp2_with fail
            as_aux_lemma =>
              have hm0 : SlV rpE wr none 0 (foldR (ml.take 0)) := by rw [List.take_zero]; exact SlV.nil rpE _
              have hl0 : SlV rpE wr none 0 (foldR (l.take 0)) := by rw [List.take_zero]; exact SlV.nil rpE _
              go_loopw [11, 12, 13] (fun x y z wr => ∃ (k : Nat) (A1 A2 : Option Addr) (c1 c2 : Nat), k ≤ l.length ∧ x = .slice A1 (foldR (l.take k)).length c1 ∧ y = .slice A2 (foldR (ml.take k)).length c2 ∧ z = .int .i64 k ∧ SlV rpE wr A1 c1 (foldR (l.take k)) ∧ SlV rpE wr A2 c2 (foldR (ml.take k)) ∧ rpE.Sl wr A7 ml ∧ Below w.heap.size w wr) (fun _ _ z _ => l.length - (intOf z).toNat)
              case atStart => exact ⟨0, none, none, 0, 0, Nat.zero_le _, by rw [List.take_zero]; rfl, by rw [List.take_zero]; rfl, rfl, hl0, hm0, hSm, hB⟩
              case round =>
                clear hm0 hl0 hSm hB
                obtain ⟨k, A1, A2, c1, c2, hk, rfl, rfl, rfl, hS1, hS2, hSm, hN⟩ := hrel
                by_cases hkl : k < l.length
                · obtain ⟨b, off, rfl, hbw, hc⟩ := hT (by omega)
                  have hml := HML.out
                  have hkm : k < ml.length := by omega
                  obtain ⟨b2, off2, rfl, hbw2, hc2⟩ := hSm (by omega)
                  have hat : rpE.At wr b (off + k * 9) l[k] := (hc k hkl).below hN hbw
                  have hat2 : rpE.At wr b2 (off2 + k * 9) ml[k] := hc2 k hkm
                  have hbr := Nat.lt_of_lt_of_le hbw hN.size
                  have hnx := foldR_next l k hkl
                  have hnx2 := foldR_next ml k hkm
                  have hln := foldR_len l k
                  have hln2 := foldR_len ml k
                  obtain ⟨x, hx⟩ : ∃ x, l[k] = x := ⟨_, rfl⟩
                  obtain ⟨x2, hx2⟩ : ∃ x2, ml[k] = x2 := ⟨_, rfl⟩
                  rw [hx] at hat hnx
                  rw [hx2] at hat2 hnx2
                  generalize foldR (l.take k) = L1 at *
                  generalize foldR (ml.take k) = L2 at *
                  have HM1 := Lib.hid (fun (wx : World) (g : SlV rpE wx A1 c1 L1) => HMG.out A1 c1 L1 x wx (by omega) g)
                  have HM2 := Lib.hid (fun (wx : World) (g : SlV rpE wx A2 c2 L2) => HMG.out A2 c2 L2 x2 wx (by omega) g)
                  have HNX := Lib.hid hnx
                  have HNX2 := Lib.hid hnx2
                  obtain ⟨M1, hM1⟩ : ∃ M, mergeR L1 x = M := ⟨_, rfl⟩
                  obtain ⟨M2, hM2⟩ : ∃ M, mergeR L2 x2 = M := ⟨_, rfl⟩
                  rw [hM1] at HM1 HNX
                  rw [hM2] at HM2 HNX2
                  have HKM := Lib.hid hkm
                  have hkm2 : (k : Int) < (l.length : Int) := by omega
                  clear hc hc2 hx hx2 hnx hnx2 hM1 hM2 hln hln2 hml hkm
                  go_wp2_with fail
                  replace hat : rpE.At wr.drew b (off + k * 9) x := hat
                  replace hat2 : rpE.At wr.drew b2 (off2 + k * 9) x2 := hat2
                  replace hS1 : SlV rpE wr.drew A1 c1 L1 := hS1
                  replace hS2 : SlV rpE wr.drew A2 c2 L2 := hS2
                  replace hSm : rpE.Sl wr.drew (some ⟨b2, off2, none⟩) ml := hSm
                  replace hN := hN.drew
                  replace hbr : b < wr.drew.heap.size := hbr
                  replace hbw2 : b2 < wr.drew.heap.size := hbw2
                  go_region_held3 (fun w' => (w'.cell? ⟨b, off + k * 9, none⟩ = some (.int .i64 x.d) ∧ w'.cell? ⟨b, off + k * 9 + 1, none⟩ = some (.int .i64 x.i) ∧ w'.cell? ⟨b, off + k * 9 + 2, none⟩ = some (.int .i64 x.b) ∧ w'.cell? ⟨b, off + k * 9 + 3, none⟩ = some (.int .i64 x.t) ∧ w'.cell? ⟨b, off + k * 9 + 4, none⟩ = some (.int .i64 x.m) ∧ w'.cell? ⟨b, off + k * 9 + 5, none⟩ = some (.int .i64 x.p) ∧ w'.cell? ⟨b, off + k * 9 + 6, none⟩ = some (.int .i64 x.c) ∧ w'.cell? ⟨b, off + k * 9 + 7, none⟩ = some (.int .i64 x.s) ∧ w'.cell? ⟨b, off + k * 9 + 8, none⟩ = some (.int .i64 x.k)) ∧ (w'.cell? ⟨b2, off2 + k * 9, none⟩ = some (.int .i64 x2.d) ∧ w'.cell? ⟨b2, off2 + k * 9 + 1, none⟩ = some (.int .i64 x2.i) ∧ w'.cell? ⟨b2, off2 + k * 9 + 2, none⟩ = some (.int .i64 x2.b) ∧ w'.cell? ⟨b2, off2 + k * 9 + 3, none⟩ = some (.int .i64 x2.t) ∧ w'.cell? ⟨b2, off2 + k * 9 + 4, none⟩ = some (.int .i64 x2.m) ∧ w'.cell? ⟨b2, off2 + k * 9 + 5, none⟩ = some (.int .i64 x2.p) ∧ w'.cell? ⟨b2, off2 + k * 9 + 6, none⟩ = some (.int .i64 x2.c) ∧ w'.cell? ⟨b2, off2 + k * 9 + 7, none⟩ = some (.int .i64 x2.s) ∧ w'.cell? ⟨b2, off2 + k * 9 + 8, none⟩ = some (.int .i64 x2.k))) (with_reducible exact ⟨rpAt9 hat, rpAt9 hat2⟩) (first | (go_at_call 15; (with_reducible refine (HM1.out _ hS1).mono ?_); rintro e w5 ⟨A3, c3, rfl, hS3, hb5⟩; have hat := hat.below hb5 hbr; have hat2 := hat2.below hb5 hbw2; have hbr := Nat.lt_of_lt_of_le hbr hb5.size; have hbw2 := Nat.lt_of_lt_of_le hbw2 hb5.size; have hS2 := hS2.below hb5; have hSm := hSm.below hb5; have hN := below_then hN hb5) | (go_at_call 15; (with_reducible refine (HM2.out _ hS2).mono ?_); rintro e w5 ⟨A4, c4, rfl, hS4, hb5⟩; have hat := hat.below hb5 hbr; have hat2 := hat2.below hb5 hbw2; have hbr := Nat.lt_of_lt_of_le hbr hb5.size; have hbw2 := Nat.lt_of_lt_of_le hbw2 hb5.size; have hS3 := hS3.below hb5; have hSm := hSm.below hb5; have hN := below_then hN hb5))
                  all_goals
                    go_wp2_with fail
                    exact ⟨⟨k + 1, A3, A4, c3, c4, by omega, by rw [HNX.out], by rw [HNX2.out], by go_num, by rw [HNX.out]; exact hS3, by rw [HNX2.out]; exact hS4, hSm, hN⟩, by simp [intOf]; omega⟩
                · obtain rfl : k = l.length := by omega
                  have e1 : foldR (l.take l.length) = foldR l := by rw [List.take_length]
                  have e2 : foldR (ml.take l.length) = foldR l := by rw [← HML.out, List.take_length, HEQ.out]
                  rw [e1] at hS1
                  rw [e2] at hS2
                  rw [e1, e2]
                  have hln := foldR_len l l.length
                  rw [e1] at hln
                  have hnw := HNW.out
                  have HLEN := Lib.hid (newest_len hnw)
                  have HCHK := Lib.hid (fun (i j : Nat) (hi : i < l.length) (hj : j < (foldR l).length) (e : l[i].d = (foldR l)[j].d) => newest_chk hnw (List.getElem_mem hi) (List.getElem_mem hj) e)
                  have HRIS := Lib.hid (fun (i j : Nat) (hi : i < j) (hj : j < (foldR l).length) => ris_get hnw.ris i j hi hj)
                  generalize foldR l = N at *
                  have hNL : N.length ≤ 40 := by omega
                  clear e1 e2 hln hnw HNW HEQ HML hSm
                  go_wp2_with fail
                  go_loopw [14] (fun y wr => ∃ j : Nat, j ≤ N.length ∧ y = .int .i64 j ∧ SlV rpE wr A1 c1 N ∧ SlV rpE wr A2 c2 N ∧ Below w.heap.size w wr) (fun y _ => N.length - (intOf y).toNat)
                  case atStart => exact ⟨0, Nat.zero_le _, rfl, hS1, hS2, hN⟩
                  case round =>
                    clear hS1 hS2 hN
                    obtain ⟨j, hj, rfl, hS1, hS2, hB⟩ := hrel
                    by_cases hjl : j < N.length
                    · go_wp2_with fail
                      go_loopw [15] (fun y wr => ∃ k : Nat, k ≤ l.length ∧ y = .int .i64 k ∧ SlV rpE wr A1 c1 N ∧ SlV rpE wr A2 c2 N ∧ Below w.heap.size w wr) (fun y _ => l.length - (intOf y).toNat)
                      case atStart => exact ⟨0, Nat.zero_le _, rfl, hS1, hS2, hB⟩
                      case round =>
                        clear hS1 hS2 hB
                        obtain ⟨k, hk, rfl, hS1, hS2, hB⟩ := hrel
                        by_cases hkl : k < l.length
                        · obtain ⟨b, off, rfl, hbw, hc⟩ := hT (by omega)
                          obtain ⟨b2, off2, rfl, hbw2, hc2⟩ := hS1.1 (by omega)
                          have hat : rpE.At wr b (off + k * 9) l[k] := (hc k hkl).below hB hbw
                          have hat2 : rpE.At wr b2 (off2 + j * 9) N[j] := hc2 j hjl
                          have hchk := HCHK.out k j hkl hjl
                          have hprev := fun (j0 : Nat) (e : j = j0 + 1) => (⟨(rpAt9 (hc2 j0 (by omega))).1, HRIS.out j0 j (by omega) hjl⟩ : wr.cell? ⟨b2, off2 + j0 * 9, none⟩ = some (.int .i64 (N[j0]'(by omega)).d) ∧ (N[j0]'(by omega)).d < N[j].d)
                          obtain ⟨x, hx⟩ : ∃ x, l[k] = x := ⟨_, rfl⟩
                          obtain ⟨y, hy⟩ : ∃ y, N[j] = y := ⟨_, rfl⟩
                          rw [hx] at hat hchk
                          rw [hy] at hat2 hchk hprev
                          obtain ⟨u0, u1, u2, u3, u4, u5, u6, u7, u8⟩ := rpAt9 hat
                          obtain ⟨v0, v1, v2, v3, v4, v5, v6, v7, v8⟩ := rpAt9 hat2
                          have kx0 := cell_regrown u0
                          have kx1 := cell_regrown u1
                          have kx2 := cell_regrown u2
                          have kx3 := cell_regrown u3
                          have kx4 := cell_regrown u4
                          have kx5 := cell_regrown u5
                          have kx6 := cell_regrown u6
                          have kx7 := cell_regrown u7
                          have kx8 := cell_regrown u8
                          have ky0 := cell_regrown v0
                          have ky1 := cell_regrown v1
                          have ky2 := cell_regrown v2
                          have ky3 := cell_regrown v3
                          have ky4 := cell_regrown v4
                          have ky5 := cell_regrown v5
                          have ky6 := cell_regrown v6
                          have ky7 := cell_regrown v7
                          have ky8 := cell_regrown v8
                          clear hat hat2 hx hy hc hc2 u0 u1 u2 u3 u4 u5 u6 u7 u8 v0 v1 v2 v3 v4 v5 v6 v7 v8
                          by_cases hd : x.d = y.d
                          · have e1 : (x.d == y.d) = true := beq_iff_eq.2 hd
                            have n2 := hchk hd
                            have d2 : ∀ dd os, Calls Try.prog 11 #[.agg #[.int .i64 x.d, .int .i64 x.i, .int .i64 x.b, .int .i64 x.t, .int .i64 x.m, .int .i64 x.p, .int .i64 x.c, .int .i64 x.s, .int .i64 x.k], .agg #[.int .i64 y.d, .int .i64 y.i, .int .i64 y.b, .int .i64 y.t, .int .i64 y.m, .int .i64 y.p, .int .i64 y.c, .int .i64 y.s, .int .i64 y.k]] (Sort.grow (redrawn wr dd) os) fun e w'' => e = .returned (.bool false) ∧ ∃ p : Regrown, w'' = Sort.grow (redrawn wr p.d) p.os := fun dd os => Calls.regrown_of (by
                              have h2 := HNEW.out x y (Sort.grow (redrawn wr dd) os)
                              rw [n2] at h2
                              exact h2)
                            have d1 := d2
                            clear hd n2 hchk
                            rcases Nat.eq_zero_or_pos j with h0 | h0
                            · subst h0
                              clear hprev
                              simp only [Nat.zero_mul, Nat.add_zero] at ky0 ky1 ky2 ky3 ky4 ky5 ky6 ky7 ky8
                              go_wp2_with fail
                              refine wp_region_quiet_below (by kernel_rfl) (by kernel_rfl) ?_
                              repeat (go_big_quiet_step ((with_reducible (first | exact d1 _ _ | exact d2 _ _))))
                              refine wpQuiet_nil ?_
                              intro _ hw'
                              obtain ⟨⟨dq, osq⟩, hw''⟩ := hw'
                              subst hw''
                              have hq := below_regrown wr dq osq
                              replace hB := hB.trans (hq.mono hB.size)
                              generalize Sort.grow (redrawn wr dq) osq = W1 at *
                              clear d1 d2 kx0 kx1 kx2 kx3 kx4 kx5 kx6 kx7 kx8 ky0 ky1 ky2 ky3 ky4 ky5 ky6 ky7 ky8
                              go_wp2_with fail
                              exact ⟨⟨k + 1, by omega, by go_num, hS1.below hq, hS2.below hq, hB⟩, by simp [intOf]; omega⟩
                            · obtain ⟨j0, rfl⟩ : ∃ j0, j = j0 + 1 := ⟨j - 1, by omega⟩
                              obtain ⟨z0, hlt⟩ := hprev j0 rfl
                              obtain ⟨yp, hyp⟩ : ∃ yp, (N[j0]'(by omega)).d = yp := ⟨_, rfl⟩
                              rw [hyp] at z0 hlt
                              have kp := cell_regrown z0
                              have hge : decide (y.d ≤ yp) = false := decide_eq_false (by omega)
                              clear hprev z0 hlt hyp h0
                              go_wp2_with fail
                              refine wp_region_quiet_below (by kernel_rfl) (by kernel_rfl) ?_
                              repeat (go_big_quiet_step ((with_reducible (first | exact d1 _ _ | exact d2 _ _))))
                              refine wpQuiet_nil ?_
                              intro _ hw'
                              obtain ⟨⟨dq, osq⟩, hw''⟩ := hw'
                              subst hw''
                              have hq := below_regrown wr dq osq
                              replace hB := hB.trans (hq.mono hB.size)
                              generalize Sort.grow (redrawn wr dq) osq = W1 at *
                              clear d1 d2 kx0 kx1 kx2 kx3 kx4 kx5 kx6 kx7 kx8 ky0 ky1 ky2 ky3 ky4 ky5 ky6 ky7 ky8
                              go_wp2_with fail
                              exact ⟨⟨k + 1, by omega, by go_num, hS1.below hq, hS2.below hq, hB⟩, by simp [intOf]; omega⟩
                          · have e1 : (x.d == y.d) = false := beq_eq_false_iff_ne.2 hd
                            obtain ⟨z, n2⟩ : ∃ z, newB x y = z := ⟨_, rfl⟩
                            have d2 : ∀ dd os, Calls Try.prog 11 #[.agg #[.int .i64 x.d, .int .i64 x.i, .int .i64 x.b, .int .i64 x.t, .int .i64 x.m, .int .i64 x.p, .int .i64 x.c, .int .i64 x.s, .int .i64 x.k], .agg #[.int .i64 y.d, .int .i64 y.i, .int .i64 y.b, .int .i64 y.t, .int .i64 y.m, .int .i64 y.p, .int .i64 y.c, .int .i64 y.s, .int .i64 y.k]] (Sort.grow (redrawn wr dd) os) fun e w'' => e = .returned (.bool z) ∧ ∃ p : Regrown, w'' = Sort.grow (redrawn wr p.d) p.os := fun dd os => Calls.regrown_of (by
                              have h2 := HNEW.out x y (Sort.grow (redrawn wr dd) os)
                              rw [n2] at h2
                              exact h2)
                            have d1 := d2
                            clear hd n2 hchk
                            rcases Nat.eq_zero_or_pos j with h0 | h0
                            · subst h0
                              clear hprev
                              simp only [Nat.zero_mul, Nat.add_zero] at ky0 ky1 ky2 ky3 ky4 ky5 ky6 ky7 ky8
                              go_wp2_with fail
                              refine wp_region_quiet_below (by kernel_rfl) (by kernel_rfl) ?_
                              repeat (go_big_quiet_step ((with_reducible (first | exact d1 _ _ | exact d2 _ _))))
                              refine wpQuiet_nil ?_
                              intro _ hw'
                              obtain ⟨⟨dq, osq⟩, hw''⟩ := hw'
                              subst hw''
                              have hq := below_regrown wr dq osq
                              replace hB := hB.trans (hq.mono hB.size)
                              generalize Sort.grow (redrawn wr dq) osq = W1 at *
                              clear d1 d2 kx0 kx1 kx2 kx3 kx4 kx5 kx6 kx7 kx8 ky0 ky1 ky2 ky3 ky4 ky5 ky6 ky7 ky8
                              go_wp2_with fail
                              exact ⟨⟨k + 1, by omega, by go_num, hS1.below hq, hS2.below hq, hB⟩, by simp [intOf]; omega⟩
                            · obtain ⟨j0, rfl⟩ : ∃ j0, j = j0 + 1 := ⟨j - 1, by omega⟩
                              obtain ⟨z0, hlt⟩ := hprev j0 rfl
                              obtain ⟨yp, hyp⟩ : ∃ yp, (N[j0]'(by omega)).d = yp := ⟨_, rfl⟩
                              rw [hyp] at z0 hlt
                              have kp := cell_regrown z0
                              have hge : decide (y.d ≤ yp) = false := decide_eq_false (by omega)
                              clear hprev z0 hlt hyp h0
                              go_wp2_with fail
                              refine wp_region_quiet_below (by kernel_rfl) (by kernel_rfl) ?_
                              repeat (go_big_quiet_step ((with_reducible (first | exact d1 _ _ | exact d2 _ _))))
                              refine wpQuiet_nil ?_
                              intro _ hw'
                              obtain ⟨⟨dq, osq⟩, hw''⟩ := hw'
                              subst hw''
                              have hq := below_regrown wr dq osq
                              replace hB := hB.trans (hq.mono hB.size)
                              generalize Sort.grow (redrawn wr dq) osq = W1 at *
                              clear d1 d2 kx0 kx1 kx2 kx3 kx4 kx5 kx6 kx7 kx8 ky0 ky1 ky2 ky3 ky4 ky5 ky6 ky7 ky8
                              go_wp2_with fail
                              exact ⟨⟨k + 1, by omega, by go_num, hS1.below hq, hS2.below hq, hB⟩, by simp [intOf]; omega⟩
                        · obtain rfl : k = l.length := by omega
                          go_wp2_with fail
                          exact ⟨⟨j + 1, by omega, by go_num, hS1, hS2, hB⟩, by simp [intOf]; omega⟩
                    · obtain rfl : j = N.length := by omega
                      obtain ⟨bq, hb1, hb2⟩ : ∃ bq, decide (0 < N.length) = bq ∧ decide (0 < l.length) = bq := ⟨_, rfl, by rw [Bool.eq_iff_iff, decide_eq_true_iff, decide_eq_true_iff]; exact HLEN.out.symm⟩
                      have hb3 : decide ((0 : Int) < (N.length : Int)) = bq := by rw [← hb1, Bool.eq_iff_iff, decide_eq_true_iff, decide_eq_true_iff]; omega
                      have hb4 : decide ((0 : Int) < (l.length : Int)) = bq := by rw [← hb2, Bool.eq_iff_iff, decide_eq_true_iff, decide_eq_true_iff]; omega
                      have CS := Lib.hid (fun (wx : World) (g1 : SlV rpE wx A1 c1 N) (g2 : SlV rpE wx A2 c2 N) => refSameRp_any A1 A2 c1 c2 N wx g1.1 g2.1 (by omega))
                      have HBQ := Lib.hid (And.intro hb1 hb2)
                      have HBR := Lib.hid (And.intro hb3 hb4)
                      clear hb1 hb2 hb3 hb4 HLEN HCHK HRIS hj hjl
                      go_wp2_with fail
                      refine (HAW.out _).mono ?_
                      rintro e w6 ⟨rfl, hb6⟩
                      replace hS1 := hS1.below hb6
                      replace hS2 := hS2.below hb6
                      replace hB := below_then hB hb6
                      clear hb6
                      go_wp2_with fail
                      refine (CS.out _ hS1 hS2).mono ?_
                      rintro e w7 ⟨rfl, hb7⟩
                      replace hB := below_then hB hb7
                      clear hb7
                      obtain ⟨hb1, hb2⟩ := HBQ.out
                      obtain ⟨hb3, hb4⟩ := HBR.out
                      go_wp2_with fail
                      go_ret
                      exact ⟨rfl, hB⟩
          · clear hcc
            go_wp2_with fail
            as_aux_lemma =>
              have hm0 : SlV rpE wr none 0 (foldR (ml.take 0)) := by rw [List.take_zero]; exact SlV.nil rpE _
              have hl0 : SlV rpE wr none 0 (foldR (l.take 0)) := by rw [List.take_zero]; exact SlV.nil rpE _
              go_loopw [11, 12, 13] (fun x y z wr => ∃ (k : Nat) (A1 A2 : Option Addr) (c1 c2 : Nat), k ≤ l.length ∧ x = .slice A1 (foldR (l.take k)).length c1 ∧ y = .slice A2 (foldR (ml.take k)).length c2 ∧ z = .int .i64 k ∧ SlV rpE wr A1 c1 (foldR (l.take k)) ∧ SlV rpE wr A2 c2 (foldR (ml.take k)) ∧ rpE.Sl wr A7 ml ∧ Below w.heap.size w wr) (fun _ _ z _ => l.length - (intOf z).toNat)
              case atStart => exact ⟨0, none, none, 0, 0, Nat.zero_le _, by rw [List.take_zero]; rfl, by rw [List.take_zero]; rfl, rfl, hl0, hm0, hSm, hB⟩
              case round =>
                clear hm0 hl0 hSm hB
                obtain ⟨k, A1, A2, c1, c2, hk, rfl, rfl, rfl, hS1, hS2, hSm, hN⟩ := hrel
                by_cases hkl : k < l.length
                · obtain ⟨b, off, rfl, hbw, hc⟩ := hT (by omega)
                  have hml := HML.out
                  have hkm : k < ml.length := by omega
                  obtain ⟨b2, off2, rfl, hbw2, hc2⟩ := hSm (by omega)
                  have hat : rpE.At wr b (off + k * 9) l[k] := (hc k hkl).below hN hbw
                  have hat2 : rpE.At wr b2 (off2 + k * 9) ml[k] := hc2 k hkm
                  have hbr := Nat.lt_of_lt_of_le hbw hN.size
                  have hnx := foldR_next l k hkl
                  have hnx2 := foldR_next ml k hkm
                  have hln := foldR_len l k
                  have hln2 := foldR_len ml k
                  obtain ⟨x, hx⟩ : ∃ x, l[k] = x := ⟨_, rfl⟩
                  obtain ⟨x2, hx2⟩ : ∃ x2, ml[k] = x2 := ⟨_, rfl⟩
                  rw [hx] at hat hnx
                  rw [hx2] at hat2 hnx2
                  generalize foldR (l.take k) = L1 at *
                  generalize foldR (ml.take k) = L2 at *
                  have HM1 := Lib.hid (fun (wx : World) (g : SlV rpE wx A1 c1 L1) => HMG.out A1 c1 L1 x wx (by omega) g)
                  have HM2 := Lib.hid (fun (wx : World) (g : SlV rpE wx A2 c2 L2) => HMG.out A2 c2 L2 x2 wx (by omega) g)
                  have HNX := Lib.hid hnx
                  have HNX2 := Lib.hid hnx2
                  obtain ⟨M1, hM1⟩ : ∃ M, mergeR L1 x = M := ⟨_, rfl⟩
                  obtain ⟨M2, hM2⟩ : ∃ M, mergeR L2 x2 = M := ⟨_, rfl⟩
                  rw [hM1] at HM1 HNX
                  rw [hM2] at HM2 HNX2
                  have HKM := Lib.hid hkm
                  have hkm2 : (k : Int) < (l.length : Int) := by omega
                  clear hc hc2 hx hx2 hnx hnx2 hM1 hM2 hln hln2 hml hkm
                  go_wp2_with fail
                  replace hat : rpE.At wr.drew b (off + k * 9) x := hat
                  replace hat2 : rpE.At wr.drew b2 (off2 + k * 9) x2 := hat2
                  replace hS1 : SlV rpE wr.drew A1 c1 L1 := hS1
                  replace hS2 : SlV rpE wr.drew A2 c2 L2 := hS2
                  replace hSm : rpE.Sl wr.drew (some ⟨b2, off2, none⟩) ml := hSm
                  replace hN := hN.drew
                  replace hbr : b < wr.drew.heap.size := hbr
                  replace hbw2 : b2 < wr.drew.heap.size := hbw2
                  go_region_held3 (fun w' => (w'.cell? ⟨b, off + k * 9, none⟩ = some (.int .i64 x.d) ∧ w'.cell? ⟨b, off + k * 9 + 1, none⟩ = some (.int .i64 x.i) ∧ w'.cell? ⟨b, off + k * 9 + 2, none⟩ = some (.int .i64 x.b) ∧ w'.cell? ⟨b, off + k * 9 + 3, none⟩ = some (.int .i64 x.t) ∧ w'.cell? ⟨b, off + k * 9 + 4, none⟩ = some (.int .i64 x.m) ∧ w'.cell? ⟨b, off + k * 9 + 5, none⟩ = some (.int .i64 x.p) ∧ w'.cell? ⟨b, off + k * 9 + 6, none⟩ = some (.int .i64 x.c) ∧ w'.cell? ⟨b, off + k * 9 + 7, none⟩ = some (.int .i64 x.s) ∧ w'.cell? ⟨b, off + k * 9 + 8, none⟩ = some (.int .i64 x.k)) ∧ (w'.cell? ⟨b2, off2 + k * 9, none⟩ = some (.int .i64 x2.d) ∧ w'.cell? ⟨b2, off2 + k * 9 + 1, none⟩ = some (.int .i64 x2.i) ∧ w'.cell? ⟨b2, off2 + k * 9 + 2, none⟩ = some (.int .i64 x2.b) ∧ w'.cell? ⟨b2, off2 + k * 9 + 3, none⟩ = some (.int .i64 x2.t) ∧ w'.cell? ⟨b2, off2 + k * 9 + 4, none⟩ = some (.int .i64 x2.m) ∧ w'.cell? ⟨b2, off2 + k * 9 + 5, none⟩ = some (.int .i64 x2.p) ∧ w'.cell? ⟨b2, off2 + k * 9 + 6, none⟩ = some (.int .i64 x2.c) ∧ w'.cell? ⟨b2, off2 + k * 9 + 7, none⟩ = some (.int .i64 x2.s) ∧ w'.cell? ⟨b2, off2 + k * 9 + 8, none⟩ = some (.int .i64 x2.k))) (with_reducible exact ⟨rpAt9 hat, rpAt9 hat2⟩) (first | (go_at_call 15; (with_reducible refine (HM1.out _ hS1).mono ?_); rintro e w5 ⟨A3, c3, rfl, hS3, hb5⟩; have hat := hat.below hb5 hbr; have hat2 := hat2.below hb5 hbw2; have hbr := Nat.lt_of_lt_of_le hbr hb5.size; have hbw2 := Nat.lt_of_lt_of_le hbw2 hb5.size; have hS2 := hS2.below hb5; have hSm := hSm.below hb5; have hN := below_then hN hb5) | (go_at_call 15; (with_reducible refine (HM2.out _ hS2).mono ?_); rintro e w5 ⟨A4, c4, rfl, hS4, hb5⟩; have hat := hat.below hb5 hbr; have hat2 := hat2.below hb5 hbw2; have hbr := Nat.lt_of_lt_of_le hbr hb5.size; have hbw2 := Nat.lt_of_lt_of_le hbw2 hb5.size; have hS3 := hS3.below hb5; have hSm := hSm.below hb5; have hN := below_then hN hb5))
                  all_goals
                    go_wp2_with fail
                    exact ⟨⟨k + 1, A3, A4, c3, c4, by omega, by rw [HNX.out], by rw [HNX2.out], by go_num, by rw [HNX.out]; exact hS3, by rw [HNX2.out]; exact hS4, hSm, hN⟩, by simp [intOf]; omega⟩
                · obtain rfl : k = l.length := by omega
                  have e1 : foldR (l.take l.length) = foldR l := by rw [List.take_length]
                  have e2 : foldR (ml.take l.length) = foldR l := by rw [← HML.out, List.take_length, HEQ.out]
                  rw [e1] at hS1
                  rw [e2] at hS2
                  rw [e1, e2]
                  have hln := foldR_len l l.length
                  rw [e1] at hln
                  have hnw := HNW.out
                  have HLEN := Lib.hid (newest_len hnw)
                  have HCHK := Lib.hid (fun (i j : Nat) (hi : i < l.length) (hj : j < (foldR l).length) (e : l[i].d = (foldR l)[j].d) => newest_chk hnw (List.getElem_mem hi) (List.getElem_mem hj) e)
                  have HRIS := Lib.hid (fun (i j : Nat) (hi : i < j) (hj : j < (foldR l).length) => ris_get hnw.ris i j hi hj)
                  generalize foldR l = N at *
                  have hNL : N.length ≤ 40 := by omega
                  clear e1 e2 hln hnw HNW HEQ HML hSm
                  go_wp2_with fail
                  go_loopw [14] (fun y wr => ∃ j : Nat, j ≤ N.length ∧ y = .int .i64 j ∧ SlV rpE wr A1 c1 N ∧ SlV rpE wr A2 c2 N ∧ Below w.heap.size w wr) (fun y _ => N.length - (intOf y).toNat)
                  case atStart => exact ⟨0, Nat.zero_le _, rfl, hS1, hS2, hN⟩
                  case round =>
                    clear hS1 hS2 hN
                    obtain ⟨j, hj, rfl, hS1, hS2, hB⟩ := hrel
                    by_cases hjl : j < N.length
                    · go_wp2_with fail
                      go_loopw [15] (fun y wr => ∃ k : Nat, k ≤ l.length ∧ y = .int .i64 k ∧ SlV rpE wr A1 c1 N ∧ SlV rpE wr A2 c2 N ∧ Below w.heap.size w wr) (fun y _ => l.length - (intOf y).toNat)
                      case atStart => exact ⟨0, Nat.zero_le _, rfl, hS1, hS2, hB⟩
                      case round =>
                        clear hS1 hS2 hB
                        obtain ⟨k, hk, rfl, hS1, hS2, hB⟩ := hrel
                        by_cases hkl : k < l.length
                        · obtain ⟨b, off, rfl, hbw, hc⟩ := hT (by omega)
                          obtain ⟨b2, off2, rfl, hbw2, hc2⟩ := hS1.1 (by omega)
                          have hat : rpE.At wr b (off + k * 9) l[k] := (hc k hkl).below hB hbw
                          have hat2 : rpE.At wr b2 (off2 + j * 9) N[j] := hc2 j hjl
                          have hchk := HCHK.out k j hkl hjl
                          have hprev := fun (j0 : Nat) (e : j = j0 + 1) => (⟨(rpAt9 (hc2 j0 (by omega))).1, HRIS.out j0 j (by omega) hjl⟩ : wr.cell? ⟨b2, off2 + j0 * 9, none⟩ = some (.int .i64 (N[j0]'(by omega)).d) ∧ (N[j0]'(by omega)).d < N[j].d)
                          obtain ⟨x, hx⟩ : ∃ x, l[k] = x := ⟨_, rfl⟩
                          obtain ⟨y, hy⟩ : ∃ y, N[j] = y := ⟨_, rfl⟩
                          rw [hx] at hat hchk
                          rw [hy] at hat2 hchk hprev
                          obtain ⟨u0, u1, u2, u3, u4, u5, u6, u7, u8⟩ := rpAt9 hat
                          obtain ⟨v0, v1, v2, v3, v4, v5, v6, v7, v8⟩ := rpAt9 hat2
                          have kx0 := cell_regrown u0
                          have kx1 := cell_regrown u1
                          have kx2 := cell_regrown u2
                          have kx3 := cell_regrown u3
                          have kx4 := cell_regrown u4
                          have kx5 := cell_regrown u5
                          have kx6 := cell_regrown u6
                          have kx7 := cell_regrown u7
                          have kx8 := cell_regrown u8
                          have ky0 := cell_regrown v0
                          have ky1 := cell_regrown v1
                          have ky2 := cell_regrown v2
                          have ky3 := cell_regrown v3
                          have ky4 := cell_regrown v4
                          have ky5 := cell_regrown v5
                          have ky6 := cell_regrown v6
                          have ky7 := cell_regrown v7
                          have ky8 := cell_regrown v8
                          clear hat hat2 hx hy hc hc2 u0 u1 u2 u3 u4 u5 u6 u7 u8 v0 v1 v2 v3 v4 v5 v6 v7 v8
                          by_cases hd : x.d = y.d
                          · have e1 : (x.d == y.d) = true := beq_iff_eq.2 hd
                            have n2 := hchk hd
                            have d2 : ∀ dd os, Calls Try.prog 11 #[.agg #[.int .i64 x.d, .int .i64 x.i, .int .i64 x.b, .int .i64 x.t, .int .i64 x.m, .int .i64 x.p, .int .i64 x.c, .int .i64 x.s, .int .i64 x.k], .agg #[.int .i64 y.d, .int .i64 y.i, .int .i64 y.b, .int .i64 y.t, .int .i64 y.m, .int .i64 y.p, .int .i64 y.c, .int .i64 y.s, .int .i64 y.k]] (Sort.grow (redrawn wr dd) os) fun e w'' => e = .returned (.bool false) ∧ ∃ p : Regrown, w'' = Sort.grow (redrawn wr p.d) p.os := fun dd os => Calls.regrown_of (by
                              have h2 := HNEW.out x y (Sort.grow (redrawn wr dd) os)
                              rw [n2] at h2
                              exact h2)
                            have d1 := d2
                            clear hd n2 hchk
                            rcases Nat.eq_zero_or_pos j with h0 | h0
                            · subst h0
                              clear hprev
                              simp only [Nat.zero_mul, Nat.add_zero] at ky0 ky1 ky2 ky3 ky4 ky5 ky6 ky7 ky8
                              go_wp2_with fail
                              refine wp_region_quiet_below (by kernel_rfl) (by kernel_rfl) ?_
                              repeat (go_big_quiet_step ((with_reducible (first | exact d1 _ _ | exact d2 _ _))))
                              refine wpQuiet_nil ?_
                              intro _ hw'
                              obtain ⟨⟨dq, osq⟩, hw''⟩ := hw'
                              subst hw''
                              have hq := below_regrown wr dq osq
                              replace hB := hB.trans (hq.mono hB.size)
                              generalize Sort.grow (redrawn wr dq) osq = W1 at *
                              clear d1 d2 kx0 kx1 kx2 kx3 kx4 kx5 kx6 kx7 kx8 ky0 ky1 ky2 ky3 ky4 ky5 ky6 ky7 ky8
                              go_wp2_with fail
                              exact ⟨⟨k + 1, by omega, by go_num, hS1.below hq, hS2.below hq, hB⟩, by simp [intOf]; omega⟩
                            · obtain ⟨j0, rfl⟩ : ∃ j0, j = j0 + 1 := ⟨j - 1, by omega⟩
                              obtain ⟨z0, hlt⟩ := hprev j0 rfl
                              obtain ⟨yp, hyp⟩ : ∃ yp, (N[j0]'(by omega)).d = yp := ⟨_, rfl⟩
                              rw [hyp] at z0 hlt
                              have kp := cell_regrown z0
                              have hge : decide (y.d ≤ yp) = false := decide_eq_false (by omega)
                              clear hprev z0 hlt hyp h0
                              go_wp2_with fail
                              refine wp_region_quiet_below (by kernel_rfl) (by kernel_rfl) ?_
                              repeat (go_big_quiet_step ((with_reducible (first | exact d1 _ _ | exact d2 _ _))))
                              refine wpQuiet_nil ?_
                              intro _ hw'
                              obtain ⟨⟨dq, osq⟩, hw''⟩ := hw'
                              subst hw''
                              have hq := below_regrown wr dq osq
                              replace hB := hB.trans (hq.mono hB.size)
                              generalize Sort.grow (redrawn wr dq) osq = W1 at *
                              clear d1 d2 kx0 kx1 kx2 kx3 kx4 kx5 kx6 kx7 kx8 ky0 ky1 ky2 ky3 ky4 ky5 ky6 ky7 ky8
                              go_wp2_with fail
                              exact ⟨⟨k + 1, by omega, by go_num, hS1.below hq, hS2.below hq, hB⟩, by simp [intOf]; omega⟩
                          · have e1 : (x.d == y.d) = false := beq_eq_false_iff_ne.2 hd
                            obtain ⟨z, n2⟩ : ∃ z, newB x y = z := ⟨_, rfl⟩
                            have d2 : ∀ dd os, Calls Try.prog 11 #[.agg #[.int .i64 x.d, .int .i64 x.i, .int .i64 x.b, .int .i64 x.t, .int .i64 x.m, .int .i64 x.p, .int .i64 x.c, .int .i64 x.s, .int .i64 x.k], .agg #[.int .i64 y.d, .int .i64 y.i, .int .i64 y.b, .int .i64 y.t, .int .i64 y.m, .int .i64 y.p, .int .i64 y.c, .int .i64 y.s, .int .i64 y.k]] (Sort.grow (redrawn wr dd) os) fun e w'' => e = .returned (.bool z) ∧ ∃ p : Regrown, w'' = Sort.grow (redrawn wr p.d) p.os := fun dd os => Calls.regrown_of (by
                              have h2 := HNEW.out x y (Sort.grow (redrawn wr dd) os)
                              rw [n2] at h2
                              exact h2)
                            have d1 := d2
                            clear hd n2 hchk
                            rcases Nat.eq_zero_or_pos j with h0 | h0
                            · subst h0
                              clear hprev
                              simp only [Nat.zero_mul, Nat.add_zero] at ky0 ky1 ky2 ky3 ky4 ky5 ky6 ky7 ky8
                              go_wp2_with fail
                              refine wp_region_quiet_below (by kernel_rfl) (by kernel_rfl) ?_
                              repeat (go_big_quiet_step ((with_reducible (first | exact d1 _ _ | exact d2 _ _))))
                              refine wpQuiet_nil ?_
                              intro _ hw'
                              obtain ⟨⟨dq, osq⟩, hw''⟩ := hw'
                              subst hw''
                              have hq := below_regrown wr dq osq
                              replace hB := hB.trans (hq.mono hB.size)
                              generalize Sort.grow (redrawn wr dq) osq = W1 at *
                              clear d1 d2 kx0 kx1 kx2 kx3 kx4 kx5 kx6 kx7 kx8 ky0 ky1 ky2 ky3 ky4 ky5 ky6 ky7 ky8
                              go_wp2_with fail
                              exact ⟨⟨k + 1, by omega, by go_num, hS1.below hq, hS2.below hq, hB⟩, by simp [intOf]; omega⟩
                            · obtain ⟨j0, rfl⟩ : ∃ j0, j = j0 + 1 := ⟨j - 1, by omega⟩
                              obtain ⟨z0, hlt⟩ := hprev j0 rfl
                              obtain ⟨yp, hyp⟩ : ∃ yp, (N[j0]'(by omega)).d = yp := ⟨_, rfl⟩
                              rw [hyp] at z0 hlt
                              have kp := cell_regrown z0
                              have hge : decide (y.d ≤ yp) = false := decide_eq_false (by omega)
                              clear hprev z0 hlt hyp h0
                              go_wp2_with fail
                              refine wp_region_quiet_below (by kernel_rfl) (by kernel_rfl) ?_
                              repeat (go_big_quiet_step ((with_reducible (first | exact d1 _ _ | exact d2 _ _))))
                              refine wpQuiet_nil ?_
                              intro _ hw'
                              obtain ⟨⟨dq, osq⟩, hw''⟩ := hw'
                              subst hw''
                              have hq := below_regrown wr dq osq
                              replace hB := hB.trans (hq.mono hB.size)
                              generalize Sort.grow (redrawn wr dq) osq = W1 at *
                              clear d1 d2 kx0 kx1 kx2 kx3 kx4 kx5 kx6 kx7 kx8 ky0 ky1 ky2 ky3 ky4 ky5 ky6 ky7 ky8
                              go_wp2_with fail
                              exact ⟨⟨k + 1, by omega, by go_num, hS1.below hq, hS2.below hq, hB⟩, by simp [intOf]; omega⟩
                        · obtain rfl : k = l.length := by omega
                          go_wp2_with fail
                          exact ⟨⟨j + 1, by omega, by go_num, hS1, hS2, hB⟩, by simp [intOf]; omega⟩
                    · obtain rfl : j = N.length := by omega
                      obtain ⟨bq, hb1, hb2⟩ : ∃ bq, decide (0 < N.length) = bq ∧ decide (0 < l.length) = bq := ⟨_, rfl, by rw [Bool.eq_iff_iff, decide_eq_true_iff, decide_eq_true_iff]; exact HLEN.out.symm⟩
                      have hb3 : decide ((0 : Int) < (N.length : Int)) = bq := by rw [← hb1, Bool.eq_iff_iff, decide_eq_true_iff, decide_eq_true_iff]; omega
                      have hb4 : decide ((0 : Int) < (l.length : Int)) = bq := by rw [← hb2, Bool.eq_iff_iff, decide_eq_true_iff, decide_eq_true_iff]; omega
                      have CS := Lib.hid (fun (wx : World) (g1 : SlV rpE wx A1 c1 N) (g2 : SlV rpE wx A2 c2 N) => refSameRp_any A1 A2 c1 c2 N wx g1.1 g2.1 (by omega))
                      have HBQ := Lib.hid (And.intro hb1 hb2)
                      have HBR := Lib.hid (And.intro hb3 hb4)
                      clear hb1 hb2 hb3 hb4 HLEN HCHK HRIS hj hjl
                      go_wp2_with fail
                      refine (HAW.out _).mono ?_
                      rintro e w6 ⟨rfl, hb6⟩
                      replace hS1 := hS1.below hb6
                      replace hS2 := hS2.below hb6
                      replace hB := below_then hB hb6
                      clear hb6
                      go_wp2_with fail
                      refine (CS.out _ hS1 hS2).mono ?_
                      rintro e w7 ⟨rfl, hb7⟩
                      replace hB := below_then hB hb7
                      clear hb7
                      obtain ⟨hb1, hb2⟩ := HBQ.out
                      obtain ⟨hb3, hb4⟩ := HBR.out
                      go_wp2_with fail
                      go_ret
                      exact ⟨rfl, hB⟩
          · clear hcc
            have hd3 : decide ((0 : Int) < (l.length : Int)) = false := decide_eq_false (by omega)
            have hd4 : decide (0 < l.length) = false := decide_eq_false h3
            clear h3
            go_wp2_with fail
            clear hd3 hd4
            as_aux_lemma =>
              have hm0 : SlV rpE wr none 0 (foldR (ml.take 0)) := by rw [List.take_zero]; exact SlV.nil rpE _
              have hl0 : SlV rpE wr none 0 (foldR (l.take 0)) := by rw [List.take_zero]; exact SlV.nil rpE _
              go_loopw [11, 12, 13] (fun x y z wr => ∃ (k : Nat) (A1 A2 : Option Addr) (c1 c2 : Nat), k ≤ l.length ∧ x = .slice A1 (foldR (l.take k)).length c1 ∧ y = .slice A2 (foldR (ml.take k)).length c2 ∧ z = .int .i64 k ∧ SlV rpE wr A1 c1 (foldR (l.take k)) ∧ SlV rpE wr A2 c2 (foldR (ml.take k)) ∧ rpE.Sl wr A7 ml ∧ Below w.heap.size w wr) (fun _ _ z _ => l.length - (intOf z).toNat)
              case atStart => exact ⟨0, none, none, 0, 0, Nat.zero_le _, by rw [List.take_zero]; rfl, by rw [List.take_zero]; rfl, rfl, hl0, hm0, hSm, hB⟩
              case round =>
                clear hm0 hl0 hSm hB
                obtain ⟨k, A1, A2, c1, c2, hk, rfl, rfl, rfl, hS1, hS2, hSm, hN⟩ := hrel
                by_cases hkl : k < l.length
                · obtain ⟨b, off, rfl, hbw, hc⟩ := hT (by omega)
                  have hml := HML.out
                  have hkm : k < ml.length := by omega
                  obtain ⟨b2, off2, rfl, hbw2, hc2⟩ := hSm (by omega)
                  have hat : rpE.At wr b (off + k * 9) l[k] := (hc k hkl).below hN hbw
                  have hat2 : rpE.At wr b2 (off2 + k * 9) ml[k] := hc2 k hkm
                  have hbr := Nat.lt_of_lt_of_le hbw hN.size
                  have hnx := foldR_next l k hkl
                  have hnx2 := foldR_next ml k hkm
                  have hln := foldR_len l k
                  have hln2 := foldR_len ml k
                  obtain ⟨x, hx⟩ : ∃ x, l[k] = x := ⟨_, rfl⟩
                  obtain ⟨x2, hx2⟩ : ∃ x2, ml[k] = x2 := ⟨_, rfl⟩
                  rw [hx] at hat hnx
                  rw [hx2] at hat2 hnx2
                  generalize foldR (l.take k) = L1 at *
                  generalize foldR (ml.take k) = L2 at *
                  have HM1 := Lib.hid (fun (wx : World) (g : SlV rpE wx A1 c1 L1) => HMG.out A1 c1 L1 x wx (by omega) g)
                  have HM2 := Lib.hid (fun (wx : World) (g : SlV rpE wx A2 c2 L2) => HMG.out A2 c2 L2 x2 wx (by omega) g)
                  have HNX := Lib.hid hnx
                  have HNX2 := Lib.hid hnx2
                  obtain ⟨M1, hM1⟩ : ∃ M, mergeR L1 x = M := ⟨_, rfl⟩
                  obtain ⟨M2, hM2⟩ : ∃ M, mergeR L2 x2 = M := ⟨_, rfl⟩
                  rw [hM1] at HM1 HNX
                  rw [hM2] at HM2 HNX2
                  have HKM := Lib.hid hkm
                  have hkm2 : (k : Int) < (l.length : Int) := by omega
                  clear hc hc2 hx hx2 hnx hnx2 hM1 hM2 hln hln2 hml hkm
                  go_wp2_with fail
                  replace hat : rpE.At wr.drew b (off + k * 9) x := hat
                  replace hat2 : rpE.At wr.drew b2 (off2 + k * 9) x2 := hat2
                  replace hS1 : SlV rpE wr.drew A1 c1 L1 := hS1
                  replace hS2 : SlV rpE wr.drew A2 c2 L2 := hS2
                  replace hSm : rpE.Sl wr.drew (some ⟨b2, off2, none⟩) ml := hSm
                  replace hN := hN.drew
                  replace hbr : b < wr.drew.heap.size := hbr
                  replace hbw2 : b2 < wr.drew.heap.size := hbw2
                  go_region_held3 (fun w' => (w'.cell? ⟨b, off + k * 9, none⟩ = some (.int .i64 x.d) ∧ w'.cell? ⟨b, off + k * 9 + 1, none⟩ = some (.int .i64 x.i) ∧ w'.cell? ⟨b, off + k * 9 + 2, none⟩ = some (.int .i64 x.b) ∧ w'.cell? ⟨b, off + k * 9 + 3, none⟩ = some (.int .i64 x.t) ∧ w'.cell? ⟨b, off + k * 9 + 4, none⟩ = some (.int .i64 x.m) ∧ w'.cell? ⟨b, off + k * 9 + 5, none⟩ = some (.int .i64 x.p) ∧ w'.cell? ⟨b, off + k * 9 + 6, none⟩ = some (.int .i64 x.c) ∧ w'.cell? ⟨b, off + k * 9 + 7, none⟩ = some (.int .i64 x.s) ∧ w'.cell? ⟨b, off + k * 9 + 8, none⟩ = some (.int .i64 x.k)) ∧ (w'.cell? ⟨b2, off2 + k * 9, none⟩ = some (.int .i64 x2.d) ∧ w'.cell? ⟨b2, off2 + k * 9 + 1, none⟩ = some (.int .i64 x2.i) ∧ w'.cell? ⟨b2, off2 + k * 9 + 2, none⟩ = some (.int .i64 x2.b) ∧ w'.cell? ⟨b2, off2 + k * 9 + 3, none⟩ = some (.int .i64 x2.t) ∧ w'.cell? ⟨b2, off2 + k * 9 + 4, none⟩ = some (.int .i64 x2.m) ∧ w'.cell? ⟨b2, off2 + k * 9 + 5, none⟩ = some (.int .i64 x2.p) ∧ w'.cell? ⟨b2, off2 + k * 9 + 6, none⟩ = some (.int .i64 x2.c) ∧ w'.cell? ⟨b2, off2 + k * 9 + 7, none⟩ = some (.int .i64 x2.s) ∧ w'.cell? ⟨b2, off2 + k * 9 + 8, none⟩ = some (.int .i64 x2.k))) (with_reducible exact ⟨rpAt9 hat, rpAt9 hat2⟩) (first | (go_at_call 15; (with_reducible refine (HM1.out _ hS1).mono ?_); rintro e w5 ⟨A3, c3, rfl, hS3, hb5⟩; have hat := hat.below hb5 hbr; have hat2 := hat2.below hb5 hbw2; have hbr := Nat.lt_of_lt_of_le hbr hb5.size; have hbw2 := Nat.lt_of_lt_of_le hbw2 hb5.size; have hS2 := hS2.below hb5; have hSm := hSm.below hb5; have hN := below_then hN hb5) | (go_at_call 15; (with_reducible refine (HM2.out _ hS2).mono ?_); rintro e w5 ⟨A4, c4, rfl, hS4, hb5⟩; have hat := hat.below hb5 hbr; have hat2 := hat2.below hb5 hbw2; have hbr := Nat.lt_of_lt_of_le hbr hb5.size; have hbw2 := Nat.lt_of_lt_of_le hbw2 hb5.size; have hS3 := hS3.below hb5; have hSm := hSm.below hb5; have hN := below_then hN hb5))
                  all_goals
                    go_wp2_with fail
                    exact ⟨⟨k + 1, A3, A4, c3, c4, by omega, by rw [HNX.out], by rw [HNX2.out], by go_num, by rw [HNX.out]; exact hS3, by rw [HNX2.out]; exact hS4, hSm, hN⟩, by simp [intOf]; omega⟩
                · obtain rfl : k = l.length := by omega
                  have e1 : foldR (l.take l.length) = foldR l := by rw [List.take_length]
                  have e2 : foldR (ml.take l.length) = foldR l := by rw [← HML.out, List.take_length, HEQ.out]
                  rw [e1] at hS1
                  rw [e2] at hS2
                  rw [e1, e2]
                  have hln := foldR_len l l.length
                  rw [e1] at hln
                  have hnw := HNW.out
                  have HLEN := Lib.hid (newest_len hnw)
                  have HCHK := Lib.hid (fun (i j : Nat) (hi : i < l.length) (hj : j < (foldR l).length) (e : l[i].d = (foldR l)[j].d) => newest_chk hnw (List.getElem_mem hi) (List.getElem_mem hj) e)
                  have HRIS := Lib.hid (fun (i j : Nat) (hi : i < j) (hj : j < (foldR l).length) => ris_get hnw.ris i j hi hj)
                  generalize foldR l = N at *
                  have hNL : N.length ≤ 40 := by omega
                  clear e1 e2 hln hnw HNW HEQ HML hSm
                  go_wp2_with fail
                  go_loopw [14] (fun y wr => ∃ j : Nat, j ≤ N.length ∧ y = .int .i64 j ∧ SlV rpE wr A1 c1 N ∧ SlV rpE wr A2 c2 N ∧ Below w.heap.size w wr) (fun y _ => N.length - (intOf y).toNat)
                  case atStart => exact ⟨0, Nat.zero_le _, rfl, hS1, hS2, hN⟩
                  case round =>
                    clear hS1 hS2 hN
                    obtain ⟨j, hj, rfl, hS1, hS2, hB⟩ := hrel
                    by_cases hjl : j < N.length
                    · go_wp2_with fail
                      go_loopw [15] (fun y wr => ∃ k : Nat, k ≤ l.length ∧ y = .int .i64 k ∧ SlV rpE wr A1 c1 N ∧ SlV rpE wr A2 c2 N ∧ Below w.heap.size w wr) (fun y _ => l.length - (intOf y).toNat)
                      case atStart => exact ⟨0, Nat.zero_le _, rfl, hS1, hS2, hB⟩
                      case round =>
                        clear hS1 hS2 hB
                        obtain ⟨k, hk, rfl, hS1, hS2, hB⟩ := hrel
                        by_cases hkl : k < l.length
                        · obtain ⟨b, off, rfl, hbw, hc⟩ := hT (by omega)
                          obtain ⟨b2, off2, rfl, hbw2, hc2⟩ := hS1.1 (by omega)
                          have hat : rpE.At wr b (off + k * 9) l[k] := (hc k hkl).below hB hbw
                          have hat2 : rpE.At wr b2 (off2 + j * 9) N[j] := hc2 j hjl
                          have hchk := HCHK.out k j hkl hjl
                          have hprev := fun (j0 : Nat) (e : j = j0 + 1) => (⟨(rpAt9 (hc2 j0 (by omega))).1, HRIS.out j0 j (by omega) hjl⟩ : wr.cell? ⟨b2, off2 + j0 * 9, none⟩ = some (.int .i64 (N[j0]'(by omega)).d) ∧ (N[j0]'(by omega)).d < N[j].d)
                          obtain ⟨x, hx⟩ : ∃ x, l[k] = x := ⟨_, rfl⟩
                          obtain ⟨y, hy⟩ : ∃ y, N[j] = y := ⟨_, rfl⟩
                          rw [hx] at hat hchk
                          rw [hy] at hat2 hchk hprev
                          obtain ⟨u0, u1, u2, u3, u4, u5, u6, u7, u8⟩ := rpAt9 hat
                          obtain ⟨v0, v1, v2, v3, v4, v5, v6, v7, v8⟩ := rpAt9 hat2
                          have kx0 := cell_regrown u0
                          have kx1 := cell_regrown u1
                          have kx2 := cell_regrown u2
                          have kx3 := cell_regrown u3
                          have kx4 := cell_regrown u4
                          have kx5 := cell_regrown u5
                          have kx6 := cell_regrown u6
                          have kx7 := cell_regrown u7
                          have kx8 := cell_regrown u8
                          have ky0 := cell_regrown v0
                          have ky1 := cell_regrown v1
                          have ky2 := cell_regrown v2
                          have ky3 := cell_regrown v3
                          have ky4 := cell_regrown v4
                          have ky5 := cell_regrown v5
                          have ky6 := cell_regrown v6
                          have ky7 := cell_regrown v7
                          have ky8 := cell_regrown v8
                          clear hat hat2 hx hy hc hc2 u0 u1 u2 u3 u4 u5 u6 u7 u8 v0 v1 v2 v3 v4 v5 v6 v7 v8
                          by_cases hd : x.d = y.d
                          · have e1 : (x.d == y.d) = true := beq_iff_eq.2 hd
                            have n2 := hchk hd
                            have d2 : ∀ dd os, Calls Try.prog 11 #[.agg #[.int .i64 x.d, .int .i64 x.i, .int .i64 x.b, .int .i64 x.t, .int .i64 x.m, .int .i64 x.p, .int .i64 x.c, .int .i64 x.s, .int .i64 x.k], .agg #[.int .i64 y.d, .int .i64 y.i, .int .i64 y.b, .int .i64 y.t, .int .i64 y.m, .int .i64 y.p, .int .i64 y.c, .int .i64 y.s, .int .i64 y.k]] (Sort.grow (redrawn wr dd) os) fun e w'' => e = .returned (.bool false) ∧ ∃ p : Regrown, w'' = Sort.grow (redrawn wr p.d) p.os := fun dd os => Calls.regrown_of (by
                              have h2 := HNEW.out x y (Sort.grow (redrawn wr dd) os)
                              rw [n2] at h2
                              exact h2)
                            have d1 := d2
                            clear hd n2 hchk
                            rcases Nat.eq_zero_or_pos j with h0 | h0
                            · subst h0
                              clear hprev
                              simp only [Nat.zero_mul, Nat.add_zero] at ky0 ky1 ky2 ky3 ky4 ky5 ky6 ky7 ky8
                              go_wp2_with fail
                              refine wp_region_quiet_below (by kernel_rfl) (by kernel_rfl) ?_
                              repeat (go_big_quiet_step ((with_reducible (first | exact d1 _ _ | exact d2 _ _))))
                              refine wpQuiet_nil ?_
                              intro _ hw'
                              obtain ⟨⟨dq, osq⟩, hw''⟩ := hw'
                              subst hw''
                              have hq := below_regrown wr dq osq
                              replace hB := hB.trans (hq.mono hB.size)
                              generalize Sort.grow (redrawn wr dq) osq = W1 at *
                              clear d1 d2 kx0 kx1 kx2 kx3 kx4 kx5 kx6 kx7 kx8 ky0 ky1 ky2 ky3 ky4 ky5 ky6 ky7 ky8
                              go_wp2_with fail
                              exact ⟨⟨k + 1, by omega, by go_num, hS1.below hq, hS2.below hq, hB⟩, by simp [intOf]; omega⟩
                            · obtain ⟨j0, rfl⟩ : ∃ j0, j = j0 + 1 := ⟨j - 1, by omega⟩
                              obtain ⟨z0, hlt⟩ := hprev j0 rfl
                              obtain ⟨yp, hyp⟩ : ∃ yp, (N[j0]'(by omega)).d = yp := ⟨_, rfl⟩
                              rw [hyp] at z0 hlt
                              have kp := cell_regrown z0
                              have hge : decide (y.d ≤ yp) = false := decide_eq_false (by omega)
                              clear hprev z0 hlt hyp h0
                              go_wp2_with fail
                              refine wp_region_quiet_below (by kernel_rfl) (by kernel_rfl) ?_
                              repeat (go_big_quiet_step ((with_reducible (first | exact d1 _ _ | exact d2 _ _))))
                              refine wpQuiet_nil ?_
                              intro _ hw'
                              obtain ⟨⟨dq, osq⟩, hw''⟩ := hw'
                              subst hw''
                              have hq := below_regrown wr dq osq
                              replace hB := hB.trans (hq.mono hB.size)
                              generalize Sort.grow (redrawn wr dq) osq = W1 at *
                              clear d1 d2 kx0 kx1 kx2 kx3 kx4 kx5 kx6 kx7 kx8 ky0 ky1 ky2 ky3 ky4 ky5 ky6 ky7 ky8
                              go_wp2_with fail
                              exact ⟨⟨k + 1, by omega, by go_num, hS1.below hq, hS2.below hq, hB⟩, by simp [intOf]; omega⟩
                          · have e1 : (x.d == y.d) = false := beq_eq_false_iff_ne.2 hd
                            obtain ⟨z, n2⟩ : ∃ z, newB x y = z := ⟨_, rfl⟩
                            have d2 : ∀ dd os, Calls Try.prog 11 #[.agg #[.int .i64 x.d, .int .i64 x.i, .int .i64 x.b, .int .i64 x.t, .int .i64 x.m, .int .i64 x.p, .int .i64 x.c, .int .i64 x.s, .int .i64 x.k], .agg #[.int .i64 y.d, .int .i64 y.i, .int .i64 y.b, .int .i64 y.t, .int .i64 y.m, .int .i64 y.p, .int .i64 y.c, .int .i64 y.s, .int .i64 y.k]] (Sort.grow (redrawn wr dd) os) fun e w'' => e = .returned (.bool z) ∧ ∃ p : Regrown, w'' = Sort.grow (redrawn wr p.d) p.os := fun dd os => Calls.regrown_of (by
                              have h2 := HNEW.out x y (Sort.grow (redrawn wr dd) os)
                              rw [n2] at h2
                              exact h2)
                            have d1 := d2
                            clear hd n2 hchk
                            rcases Nat.eq_zero_or_pos j with h0 | h0
                            · subst h0
                              clear hprev
                              simp only [Nat.zero_mul, Nat.add_zero] at ky0 ky1 ky2 ky3 ky4 ky5 ky6 ky7 ky8
                              go_wp2_with fail
                              refine wp_region_quiet_below (by kernel_rfl) (by kernel_rfl) ?_
                              repeat (go_big_quiet_step ((with_reducible (first | exact d1 _ _ | exact d2 _ _))))
                              refine wpQuiet_nil ?_
                              intro _ hw'
                              obtain ⟨⟨dq, osq⟩, hw''⟩ := hw'
                              subst hw''
                              have hq := below_regrown wr dq osq
                              replace hB := hB.trans (hq.mono hB.size)
                              generalize Sort.grow (redrawn wr dq) osq = W1 at *
                              clear d1 d2 kx0 kx1 kx2 kx3 kx4 kx5 kx6 kx7 kx8 ky0 ky1 ky2 ky3 ky4 ky5 ky6 ky7 ky8
                              go_wp2_with fail
                              exact ⟨⟨k + 1, by omega, by go_num, hS1.below hq, hS2.below hq, hB⟩, by simp [intOf]; omega⟩
                            · obtain ⟨j0, rfl⟩ : ∃ j0, j = j0 + 1 := ⟨j - 1, by omega⟩
                              obtain ⟨z0, hlt⟩ := hprev j0 rfl
                              obtain ⟨yp, hyp⟩ : ∃ yp, (N[j0]'(by omega)).d = yp := ⟨_, rfl⟩
                              rw [hyp] at z0 hlt
                              have kp := cell_regrown z0
                              have hge : decide (y.d ≤ yp) = false := decide_eq_false (by omega)
                              clear hprev z0 hlt hyp h0
                              go_wp2_with fail
                              refine wp_region_quiet_below (by kernel_rfl) (by kernel_rfl) ?_
                              repeat (go_big_quiet_step ((with_reducible (first | exact d1 _ _ | exact d2 _ _))))
                              refine wpQuiet_nil ?_
                              intro _ hw'
                              obtain ⟨⟨dq, osq⟩, hw''⟩ := hw'
                              subst hw''
                              have hq := below_regrown wr dq osq
                              replace hB := hB.trans (hq.mono hB.size)
                              generalize Sort.grow (redrawn wr dq) osq = W1 at *
                              clear d1 d2 kx0 kx1 kx2 kx3 kx4 kx5 kx6 kx7 kx8 ky0 ky1 ky2 ky3 ky4 ky5 ky6 ky7 ky8
                              go_wp2_with fail
                              exact ⟨⟨k + 1, by omega, by go_num, hS1.below hq, hS2.below hq, hB⟩, by simp [intOf]; omega⟩
                        · obtain rfl : k = l.length := by omega
                          go_wp2_with fail
                          exact ⟨⟨j + 1, by omega, by go_num, hS1, hS2, hB⟩, by simp [intOf]; omega⟩
                    · obtain rfl : j = N.length := by omega
                      obtain ⟨bq, hb1, hb2⟩ : ∃ bq, decide (0 < N.length) = bq ∧ decide (0 < l.length) = bq := ⟨_, rfl, by rw [Bool.eq_iff_iff, decide_eq_true_iff, decide_eq_true_iff]; exact HLEN.out.symm⟩
                      have hb3 : decide ((0 : Int) < (N.length : Int)) = bq := by rw [← hb1, Bool.eq_iff_iff, decide_eq_true_iff, decide_eq_true_iff]; omega
                      have hb4 : decide ((0 : Int) < (l.length : Int)) = bq := by rw [← hb2, Bool.eq_iff_iff, decide_eq_true_iff, decide_eq_true_iff]; omega
                      have CS := Lib.hid (fun (wx : World) (g1 : SlV rpE wx A1 c1 N) (g2 : SlV rpE wx A2 c2 N) => refSameRp_any A1 A2 c1 c2 N wx g1.1 g2.1 (by omega))
                      have HBQ := Lib.hid (And.intro hb1 hb2)
                      have HBR := Lib.hid (And.intro hb3 hb4)
                      clear hb1 hb2 hb3 hb4 HLEN HCHK HRIS hj hjl
                      go_wp2_with fail
                      refine (HAW.out _).mono ?_
                      rintro e w6 ⟨rfl, hb6⟩
                      replace hS1 := hS1.below hb6
                      replace hS2 := hS2.below hb6
                      replace hB := below_then hB hb6
                      clear hb6
                      go_wp2_with fail
                      refine (CS.out _ hS1 hS2).mono ?_
                      rintro e w7 ⟨rfl, hb7⟩
                      replace hB := below_then hB hb7
                      clear hb7
                      obtain ⟨hb1, hb2⟩ := HBQ.out
                      obtain ⟨hb3, hb4⟩ := HBR.out
                      go_wp2_with fail
                      go_ret
                      exact ⟨rfl, hB⟩
set_option maxRecDepth 100000 in
theorem newest14_lifted (H0 : ReportCalls) (os : Os) (started : os.Started) (H : Type) (enc : TypeId × Value → H) :
    ReturnsInHanded {} Try.checked os 6 .any (Rows.reportNewestSpec.pre6 enc Try.prog Try.f6 Rows.reportNewestRow.domain false) (Rows.reportNewestSpec.post enc Try.prog Try.f6 false true false false) := by
  refine returnsInHanded_of_change (C := Try.checked) own started (by kernel_rfl) Try.func6
    (ChangeSpec.witness6 (enc := enc) (C := Try.checked) false ⟨#[], #[.slice none 0 0, .slice none 0 0], []⟩ 8 (by kernel_rfl) (by kernel_rfl) (by kernel_rfl) (by kernel_rfl)) ?_
  intro W base args ds gs before hval0 hW _ _
  have hval : ∀ (j : Nat) t v, Try.f6.params[j]? = some t → args[j]? = some v → Value.okWide Try.prog W .any base t v := hval0
  have hW' := hW
  obtain ⟨p, q, hA0, hV, rfl, _, _⟩ := hW
  have hA : DataW.TrodAll enc Try.prog W 0 (fun _ => true) true Try.f6.params.toList args.toList ds p := hA0
  rw [Try.params6] at hA hval
  obtain ⟨v0, v1, d0, d1, p0, p1, rfl, rfl, rfl, h0, h1⟩ := trodAll_two hA
  obtain ⟨A, cap, l, rfl, hT, _, hTn, _⟩ := open_rps (hval 0 28 v0 rfl rfl) h0
  obtain ⟨TA, tc, turn, rfl, hturn, _, _, hby⟩ := open_bytes (hval 1 37 v1 rfl rfl) h1
  have hc : Calls Try.prog 6 #[.slice A l.length cap, .slice TA turn.length tc] W fun e w' => e = .returned (.bool true) ∧ Below W.heap.size W w' := by
    by_cases h : l.length ≤ 40
    · exact newest14_walk H0 A cap l TA tc turn W h hT hTn hturn hby
    · exact newest14_no H0 A cap l TA tc turn W (by omega)
  refine hc.mono fun e W' ⟨he, hb⟩ => ?_
  subst he
  exact ⟨_, rfl, Frm.law_post (by kernel_rfl) (by kernel_rfl) (by kernel_rfl) Try.underlying4 rfl rfl hW' hb⟩

theorem newest14_holds (H0 : ReportCalls) : Rows.ReportNewestSaid :=
  OpenClaim.holds_of_wide 6 Try.f6 rfl rfl rfl rfl rfl rfl rfl ⟨rfl, rfl, rfl, rfl, rfl⟩ rfl rfl rfl rfl rfl (by kernel_rfl) Try.func6 (by kernel_rfl)
    (of_decide_eq_true (by kernel_rfl)) (by unfold Func.isWrapper; first | (rw [if_pos (by decide +kernel)]; kernel_rfl) | (rw [if_neg (by decide +kernel)]; exact ⟨rfl, rfl⟩))
    (fun os started H enc _ => newest14_lifted H0 os started H enc)
end Go.Proofs.Ytknoabafpgdooaa

namespace Go.Proofs.Ytknoabafpgdooaa
theorem reportNewest_all : Rows.ReportNewestSaid := newest14_holds reportCalls
end Go.Proofs.Ytknoabafpgdooaa
