/- PastOrder is proved: in whatever order operations of unlike moments come, the tree is the one of all of them by their moments. Conditions: none. -/
import Derived.Test.YtoidondngoljaaaB06
import Derived.Test.YtoidondngoljaaaRows
namespace Go.Proofs.Ytoidondngoljaaa
open Go.ChangeShapes Go.WideShapes Go.ChangeAt Go.RowKit Go.Deep Nam Cod Tre Pst

abbrev Unl (l : List Mv) : Prop := Unlike (c := Mv.C) (d := Mv.D) l
theorem add_has {l : List Mv} : ∀ (a : List Mv), Ris Mv.C Mv.D a → (∀ x ∈ l, ∀ y ∈ a, ¬ same Mv.C Mv.D y x) → Unl l → (l.foldl (addL Mv.C Mv.D) a).length = a.length + l.length := by
  induction l with
  | nil => intro a _ _ _; rfl
  | cons o l ih =>
    intro a hr hx hu
    have hu' := List.pairwise_cons.1 hu
    have hn : has Mv.C Mv.D a o = false := by
      rcases h : has Mv.C Mv.D a o with _ | _
      · rfl
      · obtain ⟨y, hy, hs⟩ := (has_iff hr o).1 h
        exact absurd hs (hx o (by simp) y hy)
    have he : addL Mv.C Mv.D a o = insL Mv.C Mv.D a o := by unfold addL; rw [hn]; rfl
    rw [List.foldl_cons, he, ih _ (ris_ins hr hn) (fun x hxl y hy => by
      rcases (mem_ins a o y).1 hy with rfl | hy
      · exact hu'.1 x hxl
      · exact hx x (by simp [hxl]) y hy) hu'.2, ins_len, List.length_cons]
    omega
/-- Nothing is settled: the operations are all that came, one by one; the base is empty. -/
theorem stG_ops {l : List Mv} (hl : ∀ m ∈ l, m.ok) : ∀ k, k ≤ l.length → (stG l [] k).ops = (l.take k).foldl (addL Mv.C Mv.D) [] ∧ (stG l [] k).base = [] ∧ (stG l [] k).t = 0
  | 0, _ => ⟨rfl, rfl, rfl⟩
  | k + 1, hk => by
    obtain ⟨h1, h2, h3⟩ := stG_ops hl k (by omega)
    have hn : stG l [] (k + 1) = (addV (stG l [] k) l[k]).1 := by rw [stG_next (at_ := []) (show k < l.length by omega) rfl]; rfl
    rw [hn, List.take_succ_eq_append_getElem (by omega), List.foldl_append, ← h1]
    have hC := (ok_C (hl l[k] (List.getElem_mem _))).1
    generalize stG l [] k = q at *
    have hgt : ¬ l[k].C ≤ q.t := by omega
    show _ = addL Mv.C Mv.D q.ops l[k] ∧ _
    unfold addL
    rcases hh : has Mv.C Mv.D q.ops l[k] with _ | _
    · rw [addV_new' hgt hh]; exact ⟨rfl, h2, h3⟩
    · rw [addV_same' hgt hh]; exact ⟨rfl, h2, h3⟩
theorem pinv_ext {p q : Pv} (hp : PInv p) (hq : PInv q) (h1 : p.base = q.base) (h2 : p.t = q.t) (h3 : p.ops = q.ops) : p = q := by
  have e1 := hp.un; have e2 := hp.nw; have e3 := hq.un; have e4 := hq.nw
  obtain ⟨a, b, c, d, e⟩ := p
  obtain ⟨a', b', c', d', e'⟩ := q
  simp only at *
  subst h1 h2 h3
  rw [e1, e2, e3, e4]
theorem order_same {l m : List Mv} (hl : ∀ x ∈ l, x.ok) (hu : Unl l) (hp : m.Perm l) : stG m [] m.length = stG l [] l.length ∧ (stG l [] l.length).ops.length = l.length ∧ (stG l [] l.length).now = (foldL [] (mvs (stG l [] l.length).ops)).1 := by
  have hm : ∀ x ∈ m, x.ok := fun x hx => hl x (hp.mem_iff.1 hx)
  have hum : Unl m := (hp.pairwise_iff (fun {x y} h k => h ⟨k.1.symm, k.2.symm⟩)).2 hu
  obtain ⟨a1, a2, a3⟩ := stG_ops hl l.length (Nat.le_refl _)
  obtain ⟨b1, b2, b3⟩ := stG_ops hm m.length (Nat.le_refl _)
  rw [List.take_length] at a1 b1
  have hIl := (stG_inv hl [] l.length).1
  have hIm := (stG_inv hm [] m.length).1
  refine ⟨pinv_ext hIm hIl (b2.trans a2.symm) (b3.trans a3.symm) ?_, ?_, ?_⟩
  · rw [a1, b1]; exact add_order hum hu fun x => hp.mem_iff
  · rw [a1, add_has [] List.Pairwise.nil (fun x _ y hy => by cases hy) hu]; simp
  · rw [hIl.nw, a2]
theorem El.Own.head {α : Type} {E : El α} {w : World} {B : Nat} {v : Value} {l : List α} (h : E.Own w B v l) : ∃ A c, v = .slice A l.length c ∧ (0 < l.length → ∃ g, A = some ⟨g, 0, none⟩) := by
  unfold El.Own at h
  rcases h.2 with ⟨rfl, h0⟩ | ⟨g, cap, cur, rfl, _, _, hnc, _⟩
  · have : l = [] := List.eq_nil_of_length_eq_zero h0
    subst this
    exact ⟨none, 0, rfl, fun h => by simp at h⟩
  · exact ⟨some ⟨g, 0, none⟩, cap, rfl, fun _ => ⟨g, rfl⟩⟩

def OpC (b o : Nat) (m : Mv) (w : World) : Prop := w.cell? ⟨b, o, none⟩ = some (.int .i64 m.C) ∧ w.cell? ⟨b, o + 1, none⟩ = some (.int .i64 m.D) ∧ w.cell? ⟨b, o + 2, none⟩ = some (.int .i64 m.I) ∧ w.cell? ⟨b, o + 3, none⟩ = some (.int .i64 m.M) ∧ w.cell? ⟨b, o + 4, none⟩ = some (.int .i64 m.K) ∧ w.cell? ⟨b, o + 5, none⟩ = some (.int .i64 m.U) ∧ w.cell? ⟨b, o + 6, none⟩ = some (.string m.s)
def SwS (g i j : Nat) (x y : Mv) (w : World) : Prop := OpC g i x w ∧ OpC g j y w
theorem El.step_setAt {α : Type} {E : El α} {P : Program} (R : El.Row E P) {ops : Array Oper} {o : Oper} {a : Act} {w : World} {K : Act → World → Prop} {Q : Exit → Act → World → Prop} {F : Prop} (hgd : o.guard = none) (x y : Operand) (ho : o.op = .store E.e x y)
    (B g cap i : Nat) (l : List α) (q : α) (hown : E.Own w B (.slice (some ⟨g, 0, none⟩) l.length cap) l) (hi : i < l.length) (cs : Array Value) (hcs : cs = (E.c q).toArray) (hx : a.eval x = .pointer (some ⟨g, i * E.k, none⟩)) (hy : a.eval y = .agg cs)
    (h : ∀ w', E.Own w' B (.slice (some ⟨g, 0, none⟩) l.length cap) (l.set i q) → w.grownBy w' (some g) → w'.heap.size = w.heap.size → K (a.put o.dst undef) w') : if Region.wanted o (yielded ops a.tmps) = true then Oper.wp P o a w K Q else F := by
  rw [if_pos (by simp [Region.wanted, hgd])]
  exact El.wp_setAt R x y ho B g cap i l q hown hi cs hcs hx hy h
theorem order_no (A : Option Addr) (c : Nat) (l : List Mv) (TA : Option Addr) (tc : Nat) (turn : List Int) (w : World) (hsz : ∀ m ∈ l, m.s.size ≤ 9223372036854775807) (hT : opE.Sl w A l) (h : ¬ Fine l) :
    Calls Try.prog 5 #[.slice A l.length c, .slice TA turn.length tc] w fun e w' => e = .returned (.bool true) ∧ Below w.heap.size w w' := by
  have C1 := fine_any A c l w hsz hT false ⟨fun e => (by cases e), fun k => absurd k h⟩
  go_enter Try.func5, Try.ntmps5
  go_wp2_with fail
  refine C1.mono ?_
  rintro e w1 ⟨rfl, hb1⟩
  go_wp2_with fail
  refine (awake_any _).mono ?_
  rintro e w2 ⟨rfl, hb2⟩
  go_wp2_with fail
  go_ret
  exact ⟨rfl, below_then hb1 hb2⟩

set_option maxRecDepth 100000 in
set_option maxHeartbeats 8000000 in
theorem order_walk (A : Option Addr) (c : Nat) (l : List Mv) (TA : Option Addr) (tc : Nat) (turn : List Int) (w : World) (hsz : ∀ m ∈ l, m.s.size ≤ 9223372036854775807) (hT : opE.Sl w A l) (hTn : A = none → c = 0) (hf : Fine l) (hturn : byE.Sl w TA turn) (hby : ∀ t ∈ turn, 0 ≤ t ∧ t ≤ 255) :
    Calls Try.prog 5 #[.slice A l.length c, .slice TA turn.length tc] w fun e w' => e = .returned (.bool true) ∧ Below w.heap.size w w' := by
  have C1 := fine_any A c l w hsz hT true ⟨fun _ => hf, fun _ => rfl⟩
  obtain ⟨hl, hok⟩ := hf
  go_enter Try.func5, Try.ntmps5
  go_wp2_with fail
  refine C1.mono ?_
  rintro e w1 ⟨rfl, hb1⟩
  clear C1
  go_wp2_with fail
  go_loopw [5] (fun yi wr => ∃ i : Nat, i ≤ l.length ∧ yi = .int .i64 i ∧ (∀ a (h : a < l.length), a < i → ∀ b (hb : b < a), ¬ same Mv.C Mv.D (l[b]'(by omega)) l[a]) ∧ Below w.heap.size w wr) (fun yi _ => l.length - (intOf yi).toNat)
  case atStart => exact ⟨0, Nat.zero_le _, rfl, fun a h ha => by omega, hb1⟩
  case round =>
    clear hb1
    obtain ⟨i, hi, rfl, hun, hB⟩ := hrel
    by_cases hil : i < l.length
    · have HUN := Lib.hid hun
      clear hun
      go_wp2_with fail
      go_loopw [6] (fun yk wr => ∃ k : Nat, k ≤ i ∧ yk = .int .i64 k ∧ (∀ b (hb : b < i), b < k → ¬ same Mv.C Mv.D (l[b]'(by omega)) l[i]) ∧ Below w.heap.size w wr) (fun yk _ => i - (intOf yk).toNat)
      case atStart => exact ⟨0, Nat.zero_le _, rfl, fun b hb h => by omega, hB⟩
      case round =>
        clear hB
        obtain ⟨k, hk, rfl, huk, hB⟩ := hrel
        by_cases hki : k < i
        · obtain ⟨b, off, rfl, hbw, hc⟩ := hT (by omega)
          have hkl : k < l.length := by omega
          have hat1 : opE.At wr b (off + k * 7) l[k] := (hc k hkl).below hB hbw
          have hat2 : opE.At wr b (off + i * 7) l[i] := (hc i hil).below hB hbw
          obtain ⟨x, hx⟩ : ∃ x, l[k] = x := ⟨_, rfl⟩
          obtain ⟨y, hy⟩ : ∃ y, l[i] = y := ⟨_, rfl⟩
          rw [hx] at hat1
          rw [hy] at hat2
          have HX := Lib.hid hx
          have HY := Lib.hid hy
          have HUK := Lib.hid huk
          obtain ⟨u0, u1, u2, u3, u4, u5, u6⟩ := opAt hat1
          obtain ⟨v0, v1, v2, v3, v4, v5, v6⟩ := opAt hat2
          clear u2 u3 u4 u5 u6 v2 v3 v4 v5 v6 hat1 hat2 hx hy huk hc
          by_cases hs : x.C = y.C ∧ x.D = y.D
          · obtain ⟨e1, e2⟩ := hs
            go_wp2_with fail
            go_quiet (fail)
            go_wp2_with fail
            refine (awake_any _).mono ?_
            rintro e w2 ⟨rfl, hb2⟩
            go_wp2_with fail
            go_ret
            exact ⟨rfl, (hB.trans ((below_drew (Below.refl _ _) _).mono hB.size)).trans (hb2.mono (by have := hB.size; exact this))⟩
          · have hun2 : (x.C == y.C) = false ∨ (x.C = y.C ∧ (x.D == y.D) = false) := by
              by_cases e : x.C = y.C
              · right; exact ⟨e, beq_eq_false_iff_ne.2 fun e2 => hs ⟨e, e2⟩⟩
              · left; exact beq_eq_false_iff_ne.2 e
            have HS := Lib.hid hs
            clear hs
            rcases hun2 with hun2 | ⟨hun1, hun2⟩
            all_goals
              go_wp2_with fail
              go_quiet (fail)
              go_wp2_with fail
              refine ⟨⟨k + 1, by omega, by go_num, fun b' hb' hlt => ?_, hB.trans ((below_drew (Below.refl _ _) _).mono hB.size)⟩, by simp [intOf]; omega⟩
              by_cases e : b' = k
              · subst e; rw [HX.out, HY.out]; exact HS.out
              · exact HUK.out b' hb' (by omega)
        · obtain rfl : k = i := by omega
          have HUK := Lib.hid huk
          clear huk
          go_wp2_with fail
          refine ⟨⟨k + 1, by omega, by go_num, fun a ha hak b hb => ?_, hB⟩, by simp [intOf]; omega⟩
          by_cases e : a = k
          · subst e; exact HUK.out b hb hb
          · exact HUN.out a ha (by omega) b hb
    · obtain rfl : i = l.length := by omega
      have hU : Unl l := List.pairwise_iff_getElem.2 fun a b ha hb hab => hun b hb hb a hab
      have HU := Lib.hid hU
      clear hun hU
      have hE := El.Own.empty (E := opE) wr wr.heap.size (Nat.le_refl _)
      have hb0 := below_alloc (Below.refl wr.heap.size wr) (.cells #[] 35)
      have hTr := (hT.below hB).below hb0
      go_wp2_with (at_builtin; refine El.wpList_app opInn rfl _ _ rfl wr.heap.size _ [] l rfl hE A _ c rfl rfl hTr hTn (by simp; omega) (by simp) ?_; intro v' w2 hown hg _)
      have hown1 : opE.Own w2 wr.heap.size v' l := hown
      have hB2 : Below w.heap.size w w2 := ((below_alloc hB (.cells #[] 35)).grown hg (by have := hB.size; rw [alloc_size]; omega) (fun j e => by have := hE.rows j e; have := hB.size; omega))
      have hBw := hB.size
      obtain ⟨A7, c7, rfl, hhead⟩ := El.Own.head hown1
      generalize wr.heap.size = B7 at *
      clear hE hb0 hTr hown hg hB
      try simp only [Act.put, List.setIfInBounds_toArray, List.set_cons_zero, List.set_cons_succ]
      have HH := Lib.hid hhead
      clear hhead
      go_loopw [8] (fun yi wx => ∃ (i : Nat) (ml : List Mv), i ≤ turn.length ∧ yi = .int .i64 i ∧ ml.Perm l ∧ opE.Own wx B7 (.slice A7 l.length c7) ml ∧ Below w.heap.size w wx) (fun yi _ => turn.length - (intOf yi).toNat)
      case atStart => exact ⟨0, l, Nat.zero_le _, rfl, List.Perm.refl l, hown1, hB2⟩
      case round =>
        clear hown1 hB2
        obtain ⟨i, ml, hit, rfl, hperm, hown, hB⟩ := hrel
        by_cases hcc : i < turn.length ∧ i < 60 ∧ 0 < l.length
        · obtain ⟨h1, h2, h3⟩ := hcc
          obtain ⟨g, rfl⟩ := HH.out h3
          obtain ⟨tb, toff, rfl, htb, htc⟩ := hturn (by omega)
          have hbt := hby turn[i] (List.getElem_mem _)
          rename World => wx
          have htat : byE.At wx tb (toff + i * 1) turn[i] := (htc i h1).below hB htb
          have htc0 : wx.cell? ⟨tb, toff + i, none⟩ = some (.int .u8 turn[i]) := by have h := htat 0 _ rfl; rw [Nat.mul_one] at h; exact h
          obtain ⟨s, hs⟩ : ∃ s, turn[i] = s := ⟨_, rfl⟩
          rw [hs] at htc0 hbt
          have hwr : IntKind.i64.wrap s = s := IntWalk.i64_in _ (by omega)
          clear htc htat hs
          go_wp2_with fail
          go_quiet (fail)
          go_wp2_with fail
          clear htc0 hwr
          have hml := hperm.length_eq
          obtain ⟨sn, rfl⟩ : ∃ sn : Nat, s = sn := ⟨s.toNat, by omega⟩
          rw [← Int.natCast_emod, ← Int.natCast_emod]
          have ha1 : i % l.length < l.length := Nat.mod_lt _ h3
          have he1 : sn % l.length < l.length := Nat.mod_lt _ h3
          generalize i % l.length = a at *
          generalize sn % l.length = e at *
          have hownd : opE.Own (wx.drewN nq) B7 (.slice (some ⟨g, 0, none⟩) ml.length c7) ml := by
            rw [hml]; exact hown.kept (row := none) ⟨rfl, rfl, rfl, Nat.le_refl _, fun _ _ _ => rfl⟩ (Or.inr (by intro h; cases h))
          have hBd : Below w.heap.size w (wx.drewN nq) := hB.trans ((below_drew (Below.refl _ _) _).mono hB.size)
          clear hown hB hbt
          have hgB : ∀ j, some g = some j → w.heap.size ≤ j := fun j e => by have h := hownd.rows g rfl; have := Option.some.inj e; omega
          generalize wx.drewN nq = V at *
          have hel : e < ml.length := by omega
          have hal : a < ml.length := by omega
          obtain ⟨A', cap', e0, hSl, _, _⟩ := hownd.sl
          simp only [Value.slice.injEq] at e0
          obtain ⟨e0, _, _⟩ := e0
          subst e0
          obtain ⟨gb, goff, eg, hgl, hgc⟩ := hSl (by omega)
          simp only [Option.some.injEq, Addr.mk.injEq, and_true] at eg
          obtain ⟨rfl, rfl⟩ := eg
          have hatx : opE.At V g (e * 7) ml[e] := by have h := hgc e hel; rw [Nat.zero_add] at h; exact h
          have haty : opE.At V g (a * 7) ml[a] := by have h := hgc a hal; rw [Nat.zero_add] at h; exact h
          have hswap := (List.set_set_perm hal hel).trans hperm
          obtain ⟨x, hx⟩ : ∃ x, ml[e] = x := ⟨_, rfl⟩
          obtain ⟨y, hy⟩ : ∃ y, ml[a] = y := ⟨_, rfl⟩
          rw [hx, hy] at hswap
          rw [hx] at hatx
          rw [hy] at haty
          have HSW := Lib.hid hswap
          have HML := Lib.hid hml
          have ia : (0 : Int) ≤ (a : Int) := by omega
          have ie : (0 : Int) ≤ (e : Int) := by omega
          clear hSl hgc hx hy hswap hperm hml
          refine region_anyG (S := SwS g (e * 7) (a * 7) x y) 13 (by kernel_rfl) ?_
          have hownd : opE.Own V.drew B7 (.slice (some ⟨g, 0, none⟩) ml.length c7) ml := hownd
          have hBd : Below w.heap.size w V.drew := hBd.drew
          have hatx : opE.At V.drew g (e * 7) x := hatx
          have haty : opE.At V.drew g (a * 7) y := haty
          generalize V.drew = V1 at *
          have hS : SwS g (e * 7) (a * 7) x y V1 := ⟨opAt hatx, opAt haty⟩
          refine anyG_plain (i := 0) (v := .slice (some ⟨g, 0, none⟩) l.length c7) rfl (by kernel_rfl) (by kernel_rfl) (by kernel_rfl) (by kernel_rfl) (fun _ _ _ h => h) (Or.inl ⟨by rfl, fun w' => by go_simp⟩) (fun _ => hS) ?_
          try simp only [Act.put, List.setIfInBounds_toArray, List.set_cons_zero, List.set_cons_succ]
          refine anyG_plain (i := 1) (v := .int .i64 a) rfl (by kernel_rfl) (by kernel_rfl) (by kernel_rfl) (by kernel_rfl) (fun _ _ _ h => h) (Or.inl ⟨by rfl, fun w' => by go_simp⟩) (fun _ => hS) ?_
          try simp only [Act.put, List.setIfInBounds_toArray, List.set_cons_zero, List.set_cons_succ]
          refine anyG_plain (i := 2) (v := .slice (some ⟨g, 0, none⟩) l.length c7) rfl (by kernel_rfl) (by kernel_rfl) (by kernel_rfl) (by kernel_rfl) (fun _ _ _ h => h) (Or.inl ⟨by rfl, fun w' => by go_simp⟩) (fun _ => hS) ?_
          try simp only [Act.put, List.setIfInBounds_toArray, List.set_cons_zero, List.set_cons_succ]
          refine anyG_plain (i := 3) (v := .int .i64 e) rfl (by kernel_rfl) (by kernel_rfl) (by kernel_rfl) (by kernel_rfl) (fun _ _ _ h => h) (Or.inl ⟨by rfl, fun w' => by go_simp⟩) (fun _ => hS) ?_
          try simp only [Act.put, List.setIfInBounds_toArray, List.set_cons_zero, List.set_cons_succ]
          refine anyG_plain (i := 4) (v := .slice (some ⟨g, 0, none⟩) l.length c7) rfl (by kernel_rfl) (by kernel_rfl) (by kernel_rfl) (by kernel_rfl) (fun _ _ _ h => h) (Or.inl ⟨by rfl, fun w' => by go_simp⟩) (fun _ => hS) ?_
          try simp only [Act.put, List.setIfInBounds_toArray, List.set_cons_zero, List.set_cons_succ]
          refine anyG_plain (i := 5) (v := .int .i64 e) rfl (by kernel_rfl) (by kernel_rfl) (by kernel_rfl) (by kernel_rfl) (fun _ _ _ h => h) (Or.inl ⟨by rfl, fun w' => by go_simp⟩) (fun _ => hS) ?_
          try simp only [Act.put, List.setIfInBounds_toArray, List.set_cons_zero, List.set_cons_succ]
          refine anyG_plain (i := 6) (v := .pointer (some ⟨g, e * 7, none⟩)) rfl (by kernel_rfl) (by kernel_rfl) (by kernel_rfl) (by kernel_rfl) (fun _ _ _ h => h) (Or.inl ⟨by rfl, fun w' => by go_simp⟩) (fun _ => hS) ?_
          try simp only [Act.put, List.setIfInBounds_toArray, List.set_cons_zero, List.set_cons_succ]
          refine anyG_take (i := 7) (v := .agg #[.int .i64 x.C, .int .i64 x.D, .int .i64 x.I, .int .i64 x.M, .int .i64 x.K, .int .i64 x.U, .string x.s]) rfl (by kernel_rfl) (by kernel_rfl) (by kernel_rfl) (by kernel_rfl) (by kernel_rfl) (fun _ _ _ h => h) (Or.inl ⟨by rfl, fun w' hSw => by (obtain ⟨⟨s0, s1, s2, s3, s4, s5, s6⟩, r0, r1, r2, r3, r4, r5, r6⟩ := hSw; go_simp)⟩) hS ?_
          try simp only [Act.put, List.setIfInBounds_toArray, List.set_cons_zero, List.set_cons_succ]
          refine anyG_plain (i := 8) (v := .slice (some ⟨g, 0, none⟩) l.length c7) rfl (by kernel_rfl) (by kernel_rfl) (by kernel_rfl) (by kernel_rfl) (fun _ _ _ h => h) (Or.inl ⟨by rfl, fun w' => by go_simp⟩) (fun _ => hS) ?_
          try simp only [Act.put, List.setIfInBounds_toArray, List.set_cons_zero, List.set_cons_succ]
          refine anyG_plain (i := 9) (v := .int .i64 a) rfl (by kernel_rfl) (by kernel_rfl) (by kernel_rfl) (by kernel_rfl) (fun _ _ _ h => h) (Or.inl ⟨by rfl, fun w' => by go_simp⟩) (fun _ => hS) ?_
          try simp only [Act.put, List.setIfInBounds_toArray, List.set_cons_zero, List.set_cons_succ]
          refine anyG_plain (i := 10) (v := .pointer (some ⟨g, a * 7, none⟩)) rfl (by kernel_rfl) (by kernel_rfl) (by kernel_rfl) (by kernel_rfl) (fun _ _ _ h => h) (Or.inl ⟨by rfl, fun w' => by go_simp⟩) (fun _ => hS) ?_
          try simp only [Act.put, List.setIfInBounds_toArray, List.set_cons_zero, List.set_cons_succ]
          refine anyG_take (i := 11) (v := .agg #[.int .i64 y.C, .int .i64 y.D, .int .i64 y.I, .int .i64 y.M, .int .i64 y.K, .int .i64 y.U, .string y.s]) rfl (by kernel_rfl) (by kernel_rfl) (by kernel_rfl) (by kernel_rfl) (by kernel_rfl) (fun _ _ _ h => h) (Or.inl ⟨by rfl, fun w' hSw => by (obtain ⟨⟨s0, s1, s2, s3, s4, s5, s6⟩, r0, r1, r2, r3, r4, r5, r6⟩ := hSw; go_simp)⟩) hS ?_
          try simp only [Act.put, List.setIfInBounds_toArray, List.set_cons_zero, List.set_cons_succ]
          refine anyG_plain (i := 12) (v := .pointer (some ⟨g, a * 7, none⟩)) rfl (by kernel_rfl) (by kernel_rfl) (by kernel_rfl) (by kernel_rfl) (fun _ _ _ h => h) (Or.inl ⟨by rfl, fun w' => by go_simp⟩) (fun _ => hS) ?_
          try simp only [Act.put, List.setIfInBounds_toArray, List.set_cons_zero, List.set_cons_succ]
          refine anyG_step (rs := [13]) (by kernel_rfl) (by simp) ?_
          refine AllG.last (n := 13) rfl (fun K hK => ?_)
          refine El.step_setAt opRow rfl _ _ rfl B7 g c7 a ml x hownd hal #[.int .i64 x.C, .int .i64 x.D, .int .i64 x.I, .int .i64 x.M, .int .i64 x.K, .int .i64 x.U, .string x.s] rfl rfl rfl ?_
          intro V2 hown2 hg2 hs2
          have hBd2 := hBd.grown hg2 hBd.size (fun j e => hgB j e)
          have hel2 : e < (ml.set a x).length := by rw [List.length_set]; exact hel
          refine hK.out _ _ ?_
          try simp only [Act.put, List.setIfInBounds_toArray, List.set_cons_zero, List.set_cons_succ]
          clear hK hS
          refine anyG_plain_after (i := 14) (v := .pointer (some ⟨g, e * 7, none⟩)) rfl (by kernel_rfl) (by kernel_rfl) (by kernel_rfl) (by kernel_rfl) (fun _ _ _ h => h) (Or.inl ⟨by rfl, fun w' => by go_simp⟩) (by kernel_rfl) ?_
          try simp only [Act.put, List.setIfInBounds_toArray, List.set_cons_zero, List.set_cons_succ]
          refine anyG_step (rs := [15]) (by kernel_rfl) (by simp) ?_
          refine AllG.after rfl (by kernel_rfl) (fun K hK => ?_) AllG.nil
          refine El.step_setAt opRow rfl _ _ rfl B7 g c7 e (ml.set a x) y (by rw [List.length_set]; exact hown2) hel2 #[.int .i64 y.C, .int .i64 y.D, .int .i64 y.I, .int .i64 y.M, .int .i64 y.K, .int .i64 y.U, .string y.s] rfl rfl rfl ?_
          intro V3 hown3 hg3 hs3
          have hBd3 := hBd2.grown hg3 hBd2.size (fun j e => hgB j e)
          refine hK.out _ _ ?_
          try simp only [Act.put, List.setIfInBounds_toArray, List.set_cons_zero, List.set_cons_succ]
          clear hK
          refine anyG_done (by kernel_rfl) ?_ _
          have hown4 : opE.Own V3 B7 (.slice (some ⟨g, 0, none⟩) l.length c7) ((ml.set a x).set e y) := by
            have h := hown3
            rw [List.length_set, HML.out] at h; exact h
          go_wp2_with fail
          exact ⟨⟨i + 1, _, by omega, by go_num, HSW.out, hown4, hBd3⟩, by simp [intOf]; omega⟩
        · have hml := hperm.length_eq
          have hokm : ∀ x ∈ ml, x.ok := fun x hx => hok x (hperm.mem_iff.1 hx)
          have HOS := Lib.hid (order_same hok HU.out hperm)
          have HIN := Lib.hid (stG_inv hok [] l.length).1
          have HGL := Lib.hid (fun wz (h : opE.Sl wz A l) => grown_any A c l none 0 [] wz hl hok h (El.Sl.nil wz none) (fun t h => by cases h))
          have CGM := fun wz (h : opE.Sl wz A7 ml) => grown_any A7 c7 ml none 0 [] wz (by omega) hokm h (El.Sl.nil wz none) (fun t h => by cases h)
          rw [show (#[Value.slice A7 ml.length c7, Value.slice none ([] : List Int).length 0] : Array Value) = #[Value.slice A7 l.length c7, Value.slice none 0 0] by rw [hml]; rfl] at CGM
          have HGM := Lib.hid CGM
          obtain ⟨A', cap', e0, hSm, hx3, hx4⟩ := hown.sl
          simp only [Value.slice.injEq] at e0
          obtain ⟨e0, hx1, hx2⟩ := e0
          subst e0
          clear hx1 hx2 hx3 hx4 hml hokm CGM hown hperm
          rcases (show ¬ i < turn.length ∨ (i < turn.length ∧ ¬ i < 60) ∨ (i < turn.length ∧ i < 60 ∧ ¬ 0 < l.length) by omega) with h1 | ⟨h1, h2⟩ | ⟨h1, h2, h3⟩
          · clear hcc
            go_wp2_with fail
            refine (HGL.out _ (hT.below hB)).mono ?_
            rintro e w3 ⟨y1, rfl, hy1, hv1, hb3⟩
            replace hB := hB.trans (hb3.mono hB.size)
            replace hSm := hSm.below hb3
            clear hb3 HGL
            have hz : pwE.In (w3.alloc (.cells #[.slice none 0 0, .int .i64 0, .slice none 0 0, .slice none 0 0, .slice none 0 0] 29)) w3.heap.size Pw.zero := El.In.new (E := pwE) w3 Pw.zero #[.slice none 0 0, .int .i64 0, .slice none 0 0, .slice none 0 0, .slice none 0 0] rfl
            have hP1 := hz.set y1 #[.slice y1.bA y1.base.length y1.bc, .int .i64 y1.t, .slice y1.oA y1.ops.length y1.oc, .slice y1.uA y1.us.length y1.uc, .slice y1.wA y1.now.length y1.wc] rfl
            have hbz : Below w3.heap.size w3 ((w3.alloc (.cells #[.slice none 0 0, .int .i64 0, .slice none 0 0, .slice none 0 0, .slice none 0 0] 29)).setRow w3.heap.size #[.slice y1.bA y1.base.length y1.bc, .int .i64 y1.t, .slice y1.oA y1.ops.length y1.oc, .slice y1.uA y1.us.length y1.uc, .slice y1.wA y1.now.length y1.wc]) := below_setRow (below_alloc (Below.refl _ _) _) (Nat.le_refl _) _
            go_wp2_with (first | (refine El.store pwRow rfl _ _ rfl w3.heap.size y1 #[.slice y1.bA y1.base.length y1.bc, .int .i64 y1.t, .slice y1.oA y1.ops.length y1.oc, .slice y1.uA y1.us.length y1.uc, .slice y1.wA y1.now.length y1.wc] rfl rfl rfl Pw.zero hz ?_) | fail)
            try simp only [Act.put, List.setIfInBounds_toArray, List.set_cons_zero, List.set_cons_succ]
            replace hy1 := hy1.below hbz
            replace hSm := hSm.below hbz
            replace hB := hB.trans (hbz.mono hB.size)
            generalize (w3.alloc (.cells #[.slice none 0 0, .int .i64 0, .slice none 0 0, .slice none 0 0, .slice none 0 0] 29)).setRow w3.heap.size #[.slice y1.bA y1.base.length y1.bc, .int .i64 y1.t, .slice y1.oA y1.ops.length y1.oc, .slice y1.uA y1.us.length y1.uc, .slice y1.wA y1.now.length y1.wc] = W4 at *
            generalize w3.heap.size = n11 at *
            clear hz hbz
            refine (HGM.out _ hSm).mono ?_
            rintro e w5 ⟨y2, rfl, hy2, hv2, hb5⟩
            replace hB := hB.trans (hb5.mono hB.size)
            replace hy1 := hy1.below hb5
            replace hP1 := hP1.below hb5
            clear hb5 HGM hSm
            have hne : n11 ≠ w5.heap.size := by have := hP1.lt; omega
            have hz : pwE.In (w5.alloc (.cells #[.slice none 0 0, .int .i64 0, .slice none 0 0, .slice none 0 0, .slice none 0 0] 29)) w5.heap.size Pw.zero := El.In.new (E := pwE) w5 Pw.zero #[.slice none 0 0, .int .i64 0, .slice none 0 0, .slice none 0 0, .slice none 0 0] rfl
            have hP2 := hz.set y2 #[.slice y2.bA y2.base.length y2.bc, .int .i64 y2.t, .slice y2.oA y2.ops.length y2.oc, .slice y2.uA y2.us.length y2.uc, .slice y2.wA y2.now.length y2.wc] rfl
            have hbz : Below w5.heap.size w5 ((w5.alloc (.cells #[.slice none 0 0, .int .i64 0, .slice none 0 0, .slice none 0 0, .slice none 0 0] 29)).setRow w5.heap.size #[.slice y2.bA y2.base.length y2.bc, .int .i64 y2.t, .slice y2.oA y2.ops.length y2.oc, .slice y2.uA y2.us.length y2.uc, .slice y2.wA y2.now.length y2.wc]) := below_setRow (below_alloc (Below.refl _ _) _) (Nat.le_refl _) _
            have hyv : y2.v = y1.v := hv2.trans (HOS.out.1.trans hv1.symm)
            have hlen : y1.ops.length = l.length := by have h : y1.ops = y1.v.ops := rfl; rw [h, hv1]; exact HOS.out.2.1
            have hI1 : PInv y1.v := by rw [hv1]; exact HIN.out
            have hnow : y1.now = (foldL [] (mvs y1.ops)).1 := by
              have h1 : y1.now = y1.v.now := rfl
              have h2 : y1.ops = y1.v.ops := rfl
              rw [h1, h2, hv1]; exact HOS.out.2.2
            have hb1 : y1.base.length ≤ 62 := tree_len hI1.tree
            have hb3 : y1.us.length ≤ 60 := by have h : y1.us.length = y1.ops.length := hI1.ulen; omega
            have hb4 : y1.now.length ≤ 62 := tree_len hI1.ntree
            have HSM := Lib.hid (fun wx (h1 : PastOk wx y1) (h2 : PastOk wx y2) => samePast_any y1 y2 wx h1 h2 hyv (by omega) (by omega) (by omega) (by omega))
            have f1 : ((y1.ops.length : Int) == (l.length : Int)) = true := by rw [hlen]; simp
            have f2 : ((y1.ops.length : Int) != (l.length : Int)) = false := by rw [hlen]; simp
            have f3 : decide ((y1.ops.length : Int) = (l.length : Int)) = true := decide_eq_true (by rw [hlen])
            have f4 : decide (¬ (y1.ops.length : Int) = (l.length : Int)) = false := decide_eq_false (fun e => e (by rw [hlen]))
            have f5 : (y1.ops.length == l.length) = true := by rw [hlen]; simp
            have f6 : (y1.ops.length != l.length) = false := by rw [hlen]; simp
            have f7 : decide (y1.ops.length = l.length) = true := decide_eq_true hlen
            have f8 : decide (¬ y1.ops.length = l.length) = false := decide_eq_false (fun e => e hlen)
            have HRI := Lib.hid (show Ris Mv.C Mv.D y1.ops from hI1.ris)
            have HNW := Lib.hid hnow
            have HLN := Lib.hid hlen
            have HB4 := Lib.hid hb4
            clear hlen hyv hnow hI1 hb1 hb3 hb4 hv1 hv2
            replace hy1 := hy1.below hbz
            replace hy2 := hy2.below hbz
            replace hP1 := hP1.below hbz
            replace hB := hB.trans (hbz.mono hB.size)
            obtain ⟨p0, p1, p2, p3, p4⟩ := pwIn5 hP1
            obtain ⟨q0, q1, q2, q3, q4⟩ := pwIn5 hP2
            go_wp2_with (first | (refine El.store pwRow rfl _ _ rfl w5.heap.size y2 #[.slice y2.bA y2.base.length y2.bc, .int .i64 y2.t, .slice y2.oA y2.ops.length y2.oc, .slice y2.uA y2.us.length y2.uc, .slice y2.wA y2.now.length y2.wc] rfl rfl rfl Pw.zero hz ?_) | fail)
            clear p0 p1 p2 p3 p4 q0 q1 q2 q3 q4 f1 f2 f3 f4 f5 f6 f7 f8
            try simp only [Act.put, List.setIfInBounds_toArray, List.set_cons_zero, List.set_cons_succ]
            refine (HSM.out _ hy1 hy2).mono ?_
            rintro e w6 ⟨rfl, hb6⟩
            replace hP1 := hP1.below hb6
            replace hy1 := hy1.below hb6
            replace hB := hB.trans (hb6.mono hB.size)
            clear hb6 hz hbz hP2 hy2 HSM
            generalize w5.heap.size = n13 at *
            go_wp2_with fail
            have hl60 : y1.ops.length ≤ 60 := by rw [HLN.out]; exact hl
            go_loopw [15] (fun yi wz => ∃ k : Nat, 1 ≤ k ∧ k ≤ 61 ∧ yi = .int .i64 k ∧ pwE.In wz n11 y1 ∧ PastOk wz y1 ∧ Below w.heap.size w wz) (fun yi _ => 100 - (intOf yi).toNat)
            case atStart => exact ⟨1, Nat.le_refl _, by omega, by go_num, hP1, hy1, hB⟩
            case round =>
              clear hP1 hy1 hB
              obtain ⟨k, hk1, hk2, rfl, hP1, hy1, hB⟩ := hrel
              rename World => wz
              have p2 := (pwIn5 hP1).2.2.1
              by_cases hko : k < y1.ops.length
              · obtain ⟨j, rfl⟩ : ∃ j, k = j + 1 := ⟨k - 1, by omega⟩
                obtain ⟨b, off, hoA, hbw, hc⟩ := hy1.o.1 (by omega)
                rw [hoA] at p2
                have hatp : opE.At wz b (off + j * 7) y1.ops[j] := hc j (by omega)
                have hatk : opE.At wz b (off + (j + 1) * 7) y1.ops[j + 1] := hc (j + 1) hko
                have hbef : bef Mv.C Mv.D (y1.ops[j]'(by omega)) y1.ops[j + 1] := ris_get HRI.out (show j < y1.ops.length by omega) hko (by omega)
                obtain ⟨x, hx⟩ : ∃ x, y1.ops[j]'(by omega) = x := ⟨_, rfl⟩
                obtain ⟨y, hy⟩ : ∃ y, y1.ops[j + 1] = y := ⟨_, rfl⟩
                rw [hx] at hatp hbef
                rw [hy] at hatk hbef
                have hbb : befB x.C x.D y.C y.D = true := by rw [bef_iff]; exact decide_eq_true hbef
                have CB := fun w => refBefore_any x.C x.D y.C y.D w
                rw [hbb] at CB
                have HCB := Lib.hid CB
                obtain ⟨u0, u1, u2, u3, u4, u5, u6⟩ := opAt hatp
                obtain ⟨v0, v1, v2, v3, v4, v5, v6⟩ := opAt hatk
                have k0 := cell_regrown p2
                have k1 := cell_regrown u0
                have k2 := cell_regrown u1
                have k3 := cell_regrown v0
                have k4 := cell_regrown v1
                have hjl : j < y1.ops.length := by omega
                clear u2 u3 u4 u5 u6 v2 v3 v4 v5 v6 hatp hatk hx hy hbef hbb CB hc u0 u1 v0 v1
                have d1 : ∀ dd os, Calls Try.prog 26 #[.agg #[.int .i64 x.C, .int .i64 x.D], .agg #[.int .i64 y.C, .int .i64 y.D]] (Sort.grow (redrawn wz dd) os) fun e w'' => e = .returned (.bool true) ∧ ∃ p : Regrown, w'' = Sort.grow (redrawn wz p.d) p.os := fun dd os => Calls.regrown_of (HCB.out _)
                go_wp2_with fail
                clear p2 hoA
                refine wp_region_quiet_below (by kernel_rfl) (by kernel_rfl) ?_
                repeat (go_big_quiet_step ((with_reducible (first | exact d1 _ _))))
                refine wpQuiet_nil ?_
                intro _ hw'
                obtain ⟨⟨dq, osq⟩, hw''⟩ := hw'
                subst hw''
                have hq := below_regrown wz dq osq
                replace hP1 := hP1.below hq
                replace hy1 := hy1.below hq
                replace hB := hB.trans (hq.mono hB.size)
                generalize Sort.grow (redrawn wz dq) osq = W1 at *
                clear d1 k0 k1 k2 k3 k4 HCB
                go_wp2_with fail
                exact ⟨⟨j + 1 + 1, by omega, by omega, by go_num, hP1, hy1, hB⟩, by simp [intOf]; omega⟩
              · have CF := mvRefFold_any none 0 [] y1.oA y1.oc y1.ops wz (by simp; omega) (SlV.nil _ _) hy1.o.1
                rw [show (#[Value.slice none ([] : List Pl).length 0, Value.slice y1.oA y1.ops.length y1.oc] : Array Value) = #[Value.slice none 0 0, Value.slice y1.oA y1.ops.length y1.oc] from rfl] at CF
                rw [← HNW.out] at CF
                have HCF := Lib.hid CF
                clear CF
                go_wp2_with fail
                refine HCF.out.mono ?_
                rintro e w7 ⟨A8, c8, U8, uc8, rfl, hS8, hU8, hf8, hfu8, hb7⟩
                replace hP1 := hP1.below hb7
                replace hy1 := hy1.below hb7
                replace hB := hB.trans (hb7.mono hB.size)
                clear hb7 hU8 hf8 hfu8 p2
                go_wp2_with fail
                refine (awake_any _).mono ?_
                rintro e w8 ⟨rfl, hb8⟩
                replace hP1 := hP1.below hb8
                replace hy1 := hy1.below hb8
                replace hS8 := hS8.below hb8
                replace hB := hB.trans (hb8.mono hB.size)
                have p4 := (pwIn5 hP1).2.2.2.2
                go_wp2_with fail
                refine (samePl_any y1.wA A8 y1.wc c8 y1.now y1.now w8 (by have := HB4.out; omega) (by have := HB4.out; omega) hy1.w.1 hS8.1).mono ?_
                rintro e w9 ⟨bs, rfl, hbs, hb9⟩
                obtain rfl : bs = true := hbs.2 rfl
                go_wp2_with fail
                go_ret
                exact ⟨rfl, hB.trans (hb9.mono hB.size)⟩
          · clear hcc
            go_wp2_with fail
            refine (HGL.out _ (hT.below hB)).mono ?_
            rintro e w3 ⟨y1, rfl, hy1, hv1, hb3⟩
            replace hB := hB.trans (hb3.mono hB.size)
            replace hSm := hSm.below hb3
            clear hb3 HGL
            have hz : pwE.In (w3.alloc (.cells #[.slice none 0 0, .int .i64 0, .slice none 0 0, .slice none 0 0, .slice none 0 0] 29)) w3.heap.size Pw.zero := El.In.new (E := pwE) w3 Pw.zero #[.slice none 0 0, .int .i64 0, .slice none 0 0, .slice none 0 0, .slice none 0 0] rfl
            have hP1 := hz.set y1 #[.slice y1.bA y1.base.length y1.bc, .int .i64 y1.t, .slice y1.oA y1.ops.length y1.oc, .slice y1.uA y1.us.length y1.uc, .slice y1.wA y1.now.length y1.wc] rfl
            have hbz : Below w3.heap.size w3 ((w3.alloc (.cells #[.slice none 0 0, .int .i64 0, .slice none 0 0, .slice none 0 0, .slice none 0 0] 29)).setRow w3.heap.size #[.slice y1.bA y1.base.length y1.bc, .int .i64 y1.t, .slice y1.oA y1.ops.length y1.oc, .slice y1.uA y1.us.length y1.uc, .slice y1.wA y1.now.length y1.wc]) := below_setRow (below_alloc (Below.refl _ _) _) (Nat.le_refl _) _
            go_wp2_with (first | (refine El.store pwRow rfl _ _ rfl w3.heap.size y1 #[.slice y1.bA y1.base.length y1.bc, .int .i64 y1.t, .slice y1.oA y1.ops.length y1.oc, .slice y1.uA y1.us.length y1.uc, .slice y1.wA y1.now.length y1.wc] rfl rfl rfl Pw.zero hz ?_) | fail)
            try simp only [Act.put, List.setIfInBounds_toArray, List.set_cons_zero, List.set_cons_succ]
            replace hy1 := hy1.below hbz
            replace hSm := hSm.below hbz
            replace hB := hB.trans (hbz.mono hB.size)
            generalize (w3.alloc (.cells #[.slice none 0 0, .int .i64 0, .slice none 0 0, .slice none 0 0, .slice none 0 0] 29)).setRow w3.heap.size #[.slice y1.bA y1.base.length y1.bc, .int .i64 y1.t, .slice y1.oA y1.ops.length y1.oc, .slice y1.uA y1.us.length y1.uc, .slice y1.wA y1.now.length y1.wc] = W4 at *
            generalize w3.heap.size = n11 at *
            clear hz hbz
            refine (HGM.out _ hSm).mono ?_
            rintro e w5 ⟨y2, rfl, hy2, hv2, hb5⟩
            replace hB := hB.trans (hb5.mono hB.size)
            replace hy1 := hy1.below hb5
            replace hP1 := hP1.below hb5
            clear hb5 HGM hSm
            have hne : n11 ≠ w5.heap.size := by have := hP1.lt; omega
            have hz : pwE.In (w5.alloc (.cells #[.slice none 0 0, .int .i64 0, .slice none 0 0, .slice none 0 0, .slice none 0 0] 29)) w5.heap.size Pw.zero := El.In.new (E := pwE) w5 Pw.zero #[.slice none 0 0, .int .i64 0, .slice none 0 0, .slice none 0 0, .slice none 0 0] rfl
            have hP2 := hz.set y2 #[.slice y2.bA y2.base.length y2.bc, .int .i64 y2.t, .slice y2.oA y2.ops.length y2.oc, .slice y2.uA y2.us.length y2.uc, .slice y2.wA y2.now.length y2.wc] rfl
            have hbz : Below w5.heap.size w5 ((w5.alloc (.cells #[.slice none 0 0, .int .i64 0, .slice none 0 0, .slice none 0 0, .slice none 0 0] 29)).setRow w5.heap.size #[.slice y2.bA y2.base.length y2.bc, .int .i64 y2.t, .slice y2.oA y2.ops.length y2.oc, .slice y2.uA y2.us.length y2.uc, .slice y2.wA y2.now.length y2.wc]) := below_setRow (below_alloc (Below.refl _ _) _) (Nat.le_refl _) _
            have hyv : y2.v = y1.v := hv2.trans (HOS.out.1.trans hv1.symm)
            have hlen : y1.ops.length = l.length := by have h : y1.ops = y1.v.ops := rfl; rw [h, hv1]; exact HOS.out.2.1
            have hI1 : PInv y1.v := by rw [hv1]; exact HIN.out
            have hnow : y1.now = (foldL [] (mvs y1.ops)).1 := by
              have h1 : y1.now = y1.v.now := rfl
              have h2 : y1.ops = y1.v.ops := rfl
              rw [h1, h2, hv1]; exact HOS.out.2.2
            have hb1 : y1.base.length ≤ 62 := tree_len hI1.tree
            have hb3 : y1.us.length ≤ 60 := by have h : y1.us.length = y1.ops.length := hI1.ulen; omega
            have hb4 : y1.now.length ≤ 62 := tree_len hI1.ntree
            have HSM := Lib.hid (fun wx (h1 : PastOk wx y1) (h2 : PastOk wx y2) => samePast_any y1 y2 wx h1 h2 hyv (by omega) (by omega) (by omega) (by omega))
            have f1 : ((y1.ops.length : Int) == (l.length : Int)) = true := by rw [hlen]; simp
            have f2 : ((y1.ops.length : Int) != (l.length : Int)) = false := by rw [hlen]; simp
            have f3 : decide ((y1.ops.length : Int) = (l.length : Int)) = true := decide_eq_true (by rw [hlen])
            have f4 : decide (¬ (y1.ops.length : Int) = (l.length : Int)) = false := decide_eq_false (fun e => e (by rw [hlen]))
            have f5 : (y1.ops.length == l.length) = true := by rw [hlen]; simp
            have f6 : (y1.ops.length != l.length) = false := by rw [hlen]; simp
            have f7 : decide (y1.ops.length = l.length) = true := decide_eq_true hlen
            have f8 : decide (¬ y1.ops.length = l.length) = false := decide_eq_false (fun e => e hlen)
            have HRI := Lib.hid (show Ris Mv.C Mv.D y1.ops from hI1.ris)
            have HNW := Lib.hid hnow
            have HLN := Lib.hid hlen
            have HB4 := Lib.hid hb4
            clear hlen hyv hnow hI1 hb1 hb3 hb4 hv1 hv2
            replace hy1 := hy1.below hbz
            replace hy2 := hy2.below hbz
            replace hP1 := hP1.below hbz
            replace hB := hB.trans (hbz.mono hB.size)
            obtain ⟨p0, p1, p2, p3, p4⟩ := pwIn5 hP1
            obtain ⟨q0, q1, q2, q3, q4⟩ := pwIn5 hP2
            go_wp2_with (first | (refine El.store pwRow rfl _ _ rfl w5.heap.size y2 #[.slice y2.bA y2.base.length y2.bc, .int .i64 y2.t, .slice y2.oA y2.ops.length y2.oc, .slice y2.uA y2.us.length y2.uc, .slice y2.wA y2.now.length y2.wc] rfl rfl rfl Pw.zero hz ?_) | fail)
            clear p0 p1 p2 p3 p4 q0 q1 q2 q3 q4 f1 f2 f3 f4 f5 f6 f7 f8
            try simp only [Act.put, List.setIfInBounds_toArray, List.set_cons_zero, List.set_cons_succ]
            refine (HSM.out _ hy1 hy2).mono ?_
            rintro e w6 ⟨rfl, hb6⟩
            replace hP1 := hP1.below hb6
            replace hy1 := hy1.below hb6
            replace hB := hB.trans (hb6.mono hB.size)
            clear hb6 hz hbz hP2 hy2 HSM
            generalize w5.heap.size = n13 at *
            go_wp2_with fail
            have hl60 : y1.ops.length ≤ 60 := by rw [HLN.out]; exact hl
            go_loopw [15] (fun yi wz => ∃ k : Nat, 1 ≤ k ∧ k ≤ 61 ∧ yi = .int .i64 k ∧ pwE.In wz n11 y1 ∧ PastOk wz y1 ∧ Below w.heap.size w wz) (fun yi _ => 100 - (intOf yi).toNat)
            case atStart => exact ⟨1, Nat.le_refl _, by omega, by go_num, hP1, hy1, hB⟩
            case round =>
              clear hP1 hy1 hB
              obtain ⟨k, hk1, hk2, rfl, hP1, hy1, hB⟩ := hrel
              rename World => wz
              have p2 := (pwIn5 hP1).2.2.1
              by_cases hko : k < y1.ops.length
              · obtain ⟨j, rfl⟩ : ∃ j, k = j + 1 := ⟨k - 1, by omega⟩
                obtain ⟨b, off, hoA, hbw, hc⟩ := hy1.o.1 (by omega)
                rw [hoA] at p2
                have hatp : opE.At wz b (off + j * 7) y1.ops[j] := hc j (by omega)
                have hatk : opE.At wz b (off + (j + 1) * 7) y1.ops[j + 1] := hc (j + 1) hko
                have hbef : bef Mv.C Mv.D (y1.ops[j]'(by omega)) y1.ops[j + 1] := ris_get HRI.out (show j < y1.ops.length by omega) hko (by omega)
                obtain ⟨x, hx⟩ : ∃ x, y1.ops[j]'(by omega) = x := ⟨_, rfl⟩
                obtain ⟨y, hy⟩ : ∃ y, y1.ops[j + 1] = y := ⟨_, rfl⟩
                rw [hx] at hatp hbef
                rw [hy] at hatk hbef
                have hbb : befB x.C x.D y.C y.D = true := by rw [bef_iff]; exact decide_eq_true hbef
                have CB := fun w => refBefore_any x.C x.D y.C y.D w
                rw [hbb] at CB
                have HCB := Lib.hid CB
                obtain ⟨u0, u1, u2, u3, u4, u5, u6⟩ := opAt hatp
                obtain ⟨v0, v1, v2, v3, v4, v5, v6⟩ := opAt hatk
                have k0 := cell_regrown p2
                have k1 := cell_regrown u0
                have k2 := cell_regrown u1
                have k3 := cell_regrown v0
                have k4 := cell_regrown v1
                have hjl : j < y1.ops.length := by omega
                clear u2 u3 u4 u5 u6 v2 v3 v4 v5 v6 hatp hatk hx hy hbef hbb CB hc u0 u1 v0 v1
                have d1 : ∀ dd os, Calls Try.prog 26 #[.agg #[.int .i64 x.C, .int .i64 x.D], .agg #[.int .i64 y.C, .int .i64 y.D]] (Sort.grow (redrawn wz dd) os) fun e w'' => e = .returned (.bool true) ∧ ∃ p : Regrown, w'' = Sort.grow (redrawn wz p.d) p.os := fun dd os => Calls.regrown_of (HCB.out _)
                go_wp2_with fail
                clear p2 hoA
                refine wp_region_quiet_below (by kernel_rfl) (by kernel_rfl) ?_
                repeat (go_big_quiet_step ((with_reducible (first | exact d1 _ _))))
                refine wpQuiet_nil ?_
                intro _ hw'
                obtain ⟨⟨dq, osq⟩, hw''⟩ := hw'
                subst hw''
                have hq := below_regrown wz dq osq
                replace hP1 := hP1.below hq
                replace hy1 := hy1.below hq
                replace hB := hB.trans (hq.mono hB.size)
                generalize Sort.grow (redrawn wz dq) osq = W1 at *
                clear d1 k0 k1 k2 k3 k4 HCB
                go_wp2_with fail
                exact ⟨⟨j + 1 + 1, by omega, by omega, by go_num, hP1, hy1, hB⟩, by simp [intOf]; omega⟩
              · have CF := mvRefFold_any none 0 [] y1.oA y1.oc y1.ops wz (by simp; omega) (SlV.nil _ _) hy1.o.1
                rw [show (#[Value.slice none ([] : List Pl).length 0, Value.slice y1.oA y1.ops.length y1.oc] : Array Value) = #[Value.slice none 0 0, Value.slice y1.oA y1.ops.length y1.oc] from rfl] at CF
                rw [← HNW.out] at CF
                have HCF := Lib.hid CF
                clear CF
                go_wp2_with fail
                refine HCF.out.mono ?_
                rintro e w7 ⟨A8, c8, U8, uc8, rfl, hS8, hU8, hf8, hfu8, hb7⟩
                replace hP1 := hP1.below hb7
                replace hy1 := hy1.below hb7
                replace hB := hB.trans (hb7.mono hB.size)
                clear hb7 hU8 hf8 hfu8 p2
                go_wp2_with fail
                refine (awake_any _).mono ?_
                rintro e w8 ⟨rfl, hb8⟩
                replace hP1 := hP1.below hb8
                replace hy1 := hy1.below hb8
                replace hS8 := hS8.below hb8
                replace hB := hB.trans (hb8.mono hB.size)
                have p4 := (pwIn5 hP1).2.2.2.2
                go_wp2_with fail
                refine (samePl_any y1.wA A8 y1.wc c8 y1.now y1.now w8 (by have := HB4.out; omega) (by have := HB4.out; omega) hy1.w.1 hS8.1).mono ?_
                rintro e w9 ⟨bs, rfl, hbs, hb9⟩
                obtain rfl : bs = true := hbs.2 rfl
                go_wp2_with fail
                go_ret
                exact ⟨rfl, hB.trans (hb9.mono hB.size)⟩
          · clear hcc
            have hd3 : decide ((0 : Int) < (l.length : Int)) = false := decide_eq_false (by omega)
            have hd4 : decide (0 < l.length) = false := decide_eq_false h3
            clear h3
            go_wp2_with fail
            clear hd3 hd4
            refine (HGL.out _ (hT.below hB)).mono ?_
            rintro e w3 ⟨y1, rfl, hy1, hv1, hb3⟩
            replace hB := hB.trans (hb3.mono hB.size)
            replace hSm := hSm.below hb3
            clear hb3 HGL
            have hz : pwE.In (w3.alloc (.cells #[.slice none 0 0, .int .i64 0, .slice none 0 0, .slice none 0 0, .slice none 0 0] 29)) w3.heap.size Pw.zero := El.In.new (E := pwE) w3 Pw.zero #[.slice none 0 0, .int .i64 0, .slice none 0 0, .slice none 0 0, .slice none 0 0] rfl
            have hP1 := hz.set y1 #[.slice y1.bA y1.base.length y1.bc, .int .i64 y1.t, .slice y1.oA y1.ops.length y1.oc, .slice y1.uA y1.us.length y1.uc, .slice y1.wA y1.now.length y1.wc] rfl
            have hbz : Below w3.heap.size w3 ((w3.alloc (.cells #[.slice none 0 0, .int .i64 0, .slice none 0 0, .slice none 0 0, .slice none 0 0] 29)).setRow w3.heap.size #[.slice y1.bA y1.base.length y1.bc, .int .i64 y1.t, .slice y1.oA y1.ops.length y1.oc, .slice y1.uA y1.us.length y1.uc, .slice y1.wA y1.now.length y1.wc]) := below_setRow (below_alloc (Below.refl _ _) _) (Nat.le_refl _) _
            go_wp2_with (first | (refine El.store pwRow rfl _ _ rfl w3.heap.size y1 #[.slice y1.bA y1.base.length y1.bc, .int .i64 y1.t, .slice y1.oA y1.ops.length y1.oc, .slice y1.uA y1.us.length y1.uc, .slice y1.wA y1.now.length y1.wc] rfl rfl rfl Pw.zero hz ?_) | fail)
            try simp only [Act.put, List.setIfInBounds_toArray, List.set_cons_zero, List.set_cons_succ]
            replace hy1 := hy1.below hbz
            replace hSm := hSm.below hbz
            replace hB := hB.trans (hbz.mono hB.size)
            generalize (w3.alloc (.cells #[.slice none 0 0, .int .i64 0, .slice none 0 0, .slice none 0 0, .slice none 0 0] 29)).setRow w3.heap.size #[.slice y1.bA y1.base.length y1.bc, .int .i64 y1.t, .slice y1.oA y1.ops.length y1.oc, .slice y1.uA y1.us.length y1.uc, .slice y1.wA y1.now.length y1.wc] = W4 at *
            generalize w3.heap.size = n11 at *
            clear hz hbz
            refine (HGM.out _ hSm).mono ?_
            rintro e w5 ⟨y2, rfl, hy2, hv2, hb5⟩
            replace hB := hB.trans (hb5.mono hB.size)
            replace hy1 := hy1.below hb5
            replace hP1 := hP1.below hb5
            clear hb5 HGM hSm
            have hne : n11 ≠ w5.heap.size := by have := hP1.lt; omega
            have hz : pwE.In (w5.alloc (.cells #[.slice none 0 0, .int .i64 0, .slice none 0 0, .slice none 0 0, .slice none 0 0] 29)) w5.heap.size Pw.zero := El.In.new (E := pwE) w5 Pw.zero #[.slice none 0 0, .int .i64 0, .slice none 0 0, .slice none 0 0, .slice none 0 0] rfl
            have hP2 := hz.set y2 #[.slice y2.bA y2.base.length y2.bc, .int .i64 y2.t, .slice y2.oA y2.ops.length y2.oc, .slice y2.uA y2.us.length y2.uc, .slice y2.wA y2.now.length y2.wc] rfl
            have hbz : Below w5.heap.size w5 ((w5.alloc (.cells #[.slice none 0 0, .int .i64 0, .slice none 0 0, .slice none 0 0, .slice none 0 0] 29)).setRow w5.heap.size #[.slice y2.bA y2.base.length y2.bc, .int .i64 y2.t, .slice y2.oA y2.ops.length y2.oc, .slice y2.uA y2.us.length y2.uc, .slice y2.wA y2.now.length y2.wc]) := below_setRow (below_alloc (Below.refl _ _) _) (Nat.le_refl _) _
            have hyv : y2.v = y1.v := hv2.trans (HOS.out.1.trans hv1.symm)
            have hlen : y1.ops.length = l.length := by have h : y1.ops = y1.v.ops := rfl; rw [h, hv1]; exact HOS.out.2.1
            have hI1 : PInv y1.v := by rw [hv1]; exact HIN.out
            have hnow : y1.now = (foldL [] (mvs y1.ops)).1 := by
              have h1 : y1.now = y1.v.now := rfl
              have h2 : y1.ops = y1.v.ops := rfl
              rw [h1, h2, hv1]; exact HOS.out.2.2
            have hb1 : y1.base.length ≤ 62 := tree_len hI1.tree
            have hb3 : y1.us.length ≤ 60 := by have h : y1.us.length = y1.ops.length := hI1.ulen; omega
            have hb4 : y1.now.length ≤ 62 := tree_len hI1.ntree
            have HSM := Lib.hid (fun wx (h1 : PastOk wx y1) (h2 : PastOk wx y2) => samePast_any y1 y2 wx h1 h2 hyv (by omega) (by omega) (by omega) (by omega))
            have f1 : ((y1.ops.length : Int) == (l.length : Int)) = true := by rw [hlen]; simp
            have f2 : ((y1.ops.length : Int) != (l.length : Int)) = false := by rw [hlen]; simp
            have f3 : decide ((y1.ops.length : Int) = (l.length : Int)) = true := decide_eq_true (by rw [hlen])
            have f4 : decide (¬ (y1.ops.length : Int) = (l.length : Int)) = false := decide_eq_false (fun e => e (by rw [hlen]))
            have f5 : (y1.ops.length == l.length) = true := by rw [hlen]; simp
            have f6 : (y1.ops.length != l.length) = false := by rw [hlen]; simp
            have f7 : decide (y1.ops.length = l.length) = true := decide_eq_true hlen
            have f8 : decide (¬ y1.ops.length = l.length) = false := decide_eq_false (fun e => e hlen)
            have HRI := Lib.hid (show Ris Mv.C Mv.D y1.ops from hI1.ris)
            have HNW := Lib.hid hnow
            have HLN := Lib.hid hlen
            have HB4 := Lib.hid hb4
            clear hlen hyv hnow hI1 hb1 hb3 hb4 hv1 hv2
            replace hy1 := hy1.below hbz
            replace hy2 := hy2.below hbz
            replace hP1 := hP1.below hbz
            replace hB := hB.trans (hbz.mono hB.size)
            obtain ⟨p0, p1, p2, p3, p4⟩ := pwIn5 hP1
            obtain ⟨q0, q1, q2, q3, q4⟩ := pwIn5 hP2
            go_wp2_with (first | (refine El.store pwRow rfl _ _ rfl w5.heap.size y2 #[.slice y2.bA y2.base.length y2.bc, .int .i64 y2.t, .slice y2.oA y2.ops.length y2.oc, .slice y2.uA y2.us.length y2.uc, .slice y2.wA y2.now.length y2.wc] rfl rfl rfl Pw.zero hz ?_) | fail)
            clear p0 p1 p2 p3 p4 q0 q1 q2 q3 q4 f1 f2 f3 f4 f5 f6 f7 f8
            try simp only [Act.put, List.setIfInBounds_toArray, List.set_cons_zero, List.set_cons_succ]
            refine (HSM.out _ hy1 hy2).mono ?_
            rintro e w6 ⟨rfl, hb6⟩
            replace hP1 := hP1.below hb6
            replace hy1 := hy1.below hb6
            replace hB := hB.trans (hb6.mono hB.size)
            clear hb6 hz hbz hP2 hy2 HSM
            generalize w5.heap.size = n13 at *
            go_wp2_with fail
            have hl60 : y1.ops.length ≤ 60 := by rw [HLN.out]; exact hl
            go_loopw [15] (fun yi wz => ∃ k : Nat, 1 ≤ k ∧ k ≤ 61 ∧ yi = .int .i64 k ∧ pwE.In wz n11 y1 ∧ PastOk wz y1 ∧ Below w.heap.size w wz) (fun yi _ => 100 - (intOf yi).toNat)
            case atStart => exact ⟨1, Nat.le_refl _, by omega, by go_num, hP1, hy1, hB⟩
            case round =>
              clear hP1 hy1 hB
              obtain ⟨k, hk1, hk2, rfl, hP1, hy1, hB⟩ := hrel
              rename World => wz
              have p2 := (pwIn5 hP1).2.2.1
              by_cases hko : k < y1.ops.length
              · obtain ⟨j, rfl⟩ : ∃ j, k = j + 1 := ⟨k - 1, by omega⟩
                obtain ⟨b, off, hoA, hbw, hc⟩ := hy1.o.1 (by omega)
                rw [hoA] at p2
                have hatp : opE.At wz b (off + j * 7) y1.ops[j] := hc j (by omega)
                have hatk : opE.At wz b (off + (j + 1) * 7) y1.ops[j + 1] := hc (j + 1) hko
                have hbef : bef Mv.C Mv.D (y1.ops[j]'(by omega)) y1.ops[j + 1] := ris_get HRI.out (show j < y1.ops.length by omega) hko (by omega)
                obtain ⟨x, hx⟩ : ∃ x, y1.ops[j]'(by omega) = x := ⟨_, rfl⟩
                obtain ⟨y, hy⟩ : ∃ y, y1.ops[j + 1] = y := ⟨_, rfl⟩
                rw [hx] at hatp hbef
                rw [hy] at hatk hbef
                have hbb : befB x.C x.D y.C y.D = true := by rw [bef_iff]; exact decide_eq_true hbef
                have CB := fun w => refBefore_any x.C x.D y.C y.D w
                rw [hbb] at CB
                have HCB := Lib.hid CB
                obtain ⟨u0, u1, u2, u3, u4, u5, u6⟩ := opAt hatp
                obtain ⟨v0, v1, v2, v3, v4, v5, v6⟩ := opAt hatk
                have k0 := cell_regrown p2
                have k1 := cell_regrown u0
                have k2 := cell_regrown u1
                have k3 := cell_regrown v0
                have k4 := cell_regrown v1
                have hjl : j < y1.ops.length := by omega
                clear u2 u3 u4 u5 u6 v2 v3 v4 v5 v6 hatp hatk hx hy hbef hbb CB hc u0 u1 v0 v1
                have d1 : ∀ dd os, Calls Try.prog 26 #[.agg #[.int .i64 x.C, .int .i64 x.D], .agg #[.int .i64 y.C, .int .i64 y.D]] (Sort.grow (redrawn wz dd) os) fun e w'' => e = .returned (.bool true) ∧ ∃ p : Regrown, w'' = Sort.grow (redrawn wz p.d) p.os := fun dd os => Calls.regrown_of (HCB.out _)
                go_wp2_with fail
                clear p2 hoA
                refine wp_region_quiet_below (by kernel_rfl) (by kernel_rfl) ?_
                repeat (go_big_quiet_step ((with_reducible (first | exact d1 _ _))))
                refine wpQuiet_nil ?_
                intro _ hw'
                obtain ⟨⟨dq, osq⟩, hw''⟩ := hw'
                subst hw''
                have hq := below_regrown wz dq osq
                replace hP1 := hP1.below hq
                replace hy1 := hy1.below hq
                replace hB := hB.trans (hq.mono hB.size)
                generalize Sort.grow (redrawn wz dq) osq = W1 at *
                clear d1 k0 k1 k2 k3 k4 HCB
                go_wp2_with fail
                exact ⟨⟨j + 1 + 1, by omega, by omega, by go_num, hP1, hy1, hB⟩, by simp [intOf]; omega⟩
              · have CF := mvRefFold_any none 0 [] y1.oA y1.oc y1.ops wz (by simp; omega) (SlV.nil _ _) hy1.o.1
                rw [show (#[Value.slice none ([] : List Pl).length 0, Value.slice y1.oA y1.ops.length y1.oc] : Array Value) = #[Value.slice none 0 0, Value.slice y1.oA y1.ops.length y1.oc] from rfl] at CF
                rw [← HNW.out] at CF
                have HCF := Lib.hid CF
                clear CF
                go_wp2_with fail
                refine HCF.out.mono ?_
                rintro e w7 ⟨A8, c8, U8, uc8, rfl, hS8, hU8, hf8, hfu8, hb7⟩
                replace hP1 := hP1.below hb7
                replace hy1 := hy1.below hb7
                replace hB := hB.trans (hb7.mono hB.size)
                clear hb7 hU8 hf8 hfu8 p2
                go_wp2_with fail
                refine (awake_any _).mono ?_
                rintro e w8 ⟨rfl, hb8⟩
                replace hP1 := hP1.below hb8
                replace hy1 := hy1.below hb8
                replace hS8 := hS8.below hb8
                replace hB := hB.trans (hb8.mono hB.size)
                have p4 := (pwIn5 hP1).2.2.2.2
                go_wp2_with fail
                refine (samePl_any y1.wA A8 y1.wc c8 y1.now y1.now w8 (by have := HB4.out; omega) (by have := HB4.out; omega) hy1.w.1 hS8.1).mono ?_
                rintro e w9 ⟨bs, rfl, hbs, hb9⟩
                obtain rfl : bs = true := hbs.2 rfl
                go_wp2_with fail
                go_ret
                exact ⟨rfl, hB.trans (hb9.mono hB.size)⟩

set_option maxRecDepth 100000 in
theorem order_lifted (os : Os) (started : os.Started) (H : Type) (enc : TypeId × Value → H) :
    ReturnsInHanded {} Try.checked os 5 .any (Rows.pastOrderSpec.pre6 enc Try.prog Try.f5 Rows.pastOrderRow.domain false) (Rows.pastOrderSpec.post enc Try.prog Try.f5 false true false false) := by
  refine returnsInHanded_of_change (C := Try.checked) own started (by kernel_rfl) Try.func5
    (ChangeSpec.witness6 (enc := enc) (C := Try.checked) false ⟨#[], #[.slice none 0 0, .slice none 0 0], []⟩ 8 (by kernel_rfl) (by kernel_rfl) (by kernel_rfl) (by kernel_rfl)) ?_
  intro W base args ds gs before hval0 hW _ _
  have hval : ∀ (j : Nat) t v, Try.f5.params[j]? = some t → args[j]? = some v → Value.okWide Try.prog W .any base t v := hval0
  have hW' := hW
  obtain ⟨p, q, hA0, hV, rfl, _, _⟩ := hW
  have hA : DataW.TrodAll enc Try.prog W 0 (fun _ => true) true Try.f5.params.toList args.toList ds p := hA0
  rw [Try.params5] at hA hval
  obtain ⟨v0, v1, d0, d1, p0, p1, rfl, rfl, rfl, h0, h1⟩ := trodAll_two hA
  obtain ⟨A, cap, l, rfl, hT, _, hTn, hw⟩ := open_ops (hval 0 22 v0 rfl rfl) h0
  obtain ⟨TA, tc, turn, rfl, hturn, _, _, hby⟩ := open_bytes (hval 1 23 v1 rfl rfl) h1
  have hc : Calls Try.prog 5 #[.slice A l.length cap, .slice TA turn.length tc] W fun e w' => e = .returned (.bool true) ∧ Below W.heap.size W w' := by
    by_cases hf : Fine l
    · exact order_walk A cap l TA tc turn W (opsz hw) hT hTn hf hturn hby
    · exact order_no A cap l TA tc turn W (opsz hw) hT hf
  refine hc.mono fun e W' ⟨he, hb⟩ => ?_
  subst he
  exact ⟨_, rfl, Frm.law_post (by kernel_rfl) (by kernel_rfl) (by kernel_rfl) Try.underlying4 rfl rfl hW' hb⟩

theorem order_holds : Rows.PastOrderSaid :=
  OpenClaim.holds_of_wide 5 Try.f5 rfl rfl rfl rfl rfl rfl rfl ⟨rfl, rfl, rfl, rfl, rfl⟩ rfl rfl rfl rfl rfl (by kernel_rfl) Try.func5 (by kernel_rfl)
    (of_decide_eq_true (by kernel_rfl)) (by unfold Func.isWrapper; first | (rw [if_pos (by decide +kernel)]; kernel_rfl) | (rw [if_neg (by decide +kernel)]; exact ⟨rfl, rfl⟩))
    (fun os started H enc _ => order_lifted os started H enc)
end Go.Proofs.Ytoidondngoljaaa
