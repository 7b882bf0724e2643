/- Texts laid one behind the other: Ap, Aq, Hq, As, At. -/
import Derived.Test.YtnglpkfkepfkkaaB07
import Derived.Lib.MinMax
import Derived.BigQuiet
import Derived.Deep.QuietTactic
/- The program's relays: raised. -/
namespace Go.Proofs.Ytnglpkfkepfkkaa
open Go.RowKit Nam Cod Pln

theorem upOps_split (room : Int) (r : List Mv) : ∀ (l : List Mv) (x : Qu × Int) (a : Int), upOps room x a (l ++ r) = upOps room (upOps room x a l) (a + (l.length : Int)) r
  | [], x, a => by
    show upOps room x a r = upOps room x (a + ((0 : Nat) : Int)) r
    rw [show a + ((0 : Nat) : Int) = a by omega]
  | e :: l, x, a => by
    rw [List.cons_append, upOps, upOps, upOps_split room r l, List.length_cons]
    congr 1
    omega
theorem upOps_next {room : Int} {x : Qu × Int} {a : Int} {l : List Mv} {k : Nat} (hk : k < l.length) : upOps room x a (l.take (k + 1)) = if a + k = (upOps room x a (l.take k)).2 + 1 ∧ ((upOps room x a (l.take k)).1.os.length : Int) < room then (pushQ (upOps room x a (l.take k)).1 l[k], (upOps room x a (l.take k)).2 + 1) else upOps room x a (l.take k) := by
  rw [List.take_succ_eq_append_getElem hk, upOps_split, List.length_take, Nat.min_eq_left (by omega), upOps]
  rfl
def raiR (p : Pn) (x : Rlv) (i : Nat) (k : Kin) (f : Fr) : Rlv := { x with q := (upOps p.r (x.q, k.r) f.first f.os).1, ks := x.ks.set i ⟨k.n, (upOps p.r (x.q, k.r) f.first f.os).2, max k.p f.pos, f.boot⟩, rs := f.rs.foldl (repStep p.u f.a) x.rs }
theorem upR_rai (p : Pn) (x : Rlv) (i : Nat) (k : Kin) (f : Fr) : upR p x i k f = { raiR p x i k f with gs := pruneG (raiR p x i k f).rs (raiR p x i k f).gs } := rfl
theorem repStep_prog (u : List Int) (n : Int) (l : List Rp) (r : Rp) : repStep u n l r = if (decide (kindL u r.d = 3) && belowU u r.d n) = true then mergeR l r else l := by
  unfold repStep
  simp only [Bool.and_eq_true, decide_eq_true_iff]
def rW (x : Rlw) (A : Option Addr) (c : Nat) (l : List Rp) : Rlw := { x with rA := A, rc := c, rs := l }
set_option maxRecDepth 100000 in
theorem cloneKin_any (A : Option Addr) (c : Nat) (l : List Kin) (w : World) (hl : l.length ≤ 1000) (hT : SlV kinE w A c l) :
    Calls Try.prog 41 #[.slice A l.length c] w fun e w' => ∃ v, e = .returned v ∧ kinE.Own w' w.heap.size v l ∧ Below w.heap.size w w' := by
  obtain ⟨hT, hz, hlc⟩ := hT
  have q : ∀ (w : World) (a : Option Addr) (n c n' c' : Nat), (binOp .eql 39 (.slice a n c) (.slice none n' c')).run Try.prog w = .ok (.bool a.isNone) w := fun w a n c n' c' => Lib.run_eql_slice_nil w _ _ a n c n' c' Try.underlying39
  cases A with
  | none =>
    obtain rfl := hT.none_nil
    obtain rfl := hz rfl
    go_enter Try.func41, Try.ntmps41
    go_wp2
    go_ret
    exact ⟨_, rfl, El.Own.nil (E := kinE) w w.heap.size, Below.refl _ _⟩
  | some a =>
    go_enter Try.func41, Try.ntmps41
    have hE := El.Own.empty (E := kinE) w w.heap.size (Nat.le_refl _)
    have hb0 := below_alloc (Below.refl w.heap.size w) (.cells #[] 69)
    go_wp2_with (at_builtin; refine El.wpList_app kinInn rfl _ _ rfl w.heap.size _ [] l rfl hE (some a) _ c rfl rfl (hT.below hb0) (fun e => by cases e) (by simp; omega) (by simp) ?_; intro v' w2 hown hg _)
    go_wp2
    go_ret
    exact ⟨v', rfl, hown, below_own hb0 hg (hE.rows)⟩
theorem SlV.lt {α : Type} {E : El α} {w : World} {A : Option Addr} {c : Nat} {l : List α} (h : SlV E w A c l) (h0 : 0 < l.length) (a : Addr) (e : A = some a) : a.block < w.heap.size := by
  obtain ⟨b, off, e2, hlt, _⟩ := h.1 h0
  rw [e2] at e
  rw [← Option.some.inj e]; exact hlt
/-- A list that lies below stays, whatever is written into a row above. -/
theorem SlV.keepU {α : Type} {E : El α} {w w' : World} {A : Option Addr} {c B g : Nat} {l : List α} (h : SlV E w A c l) (hb : 0 < l.length → ∀ a, A = some a → a.block < B) (hB : B ≤ g) (hg : w.grownBy w' (some g)) : SlV E w' A c l := by
  refine ⟨fun h0 => ?_, h.2⟩
  have hlt := hb h0
  obtain ⟨b1, off, e, hl, hc⟩ := h.1 h0
  have h1 := hlt _ e
  have hne : b1 ≠ g := by
    have h1 : b1 < B := h1
    omega
  exact ⟨b1, off, e, Nat.lt_of_lt_of_le hl hg.size, fun i hi => (hc i hi).grown hg (fun e => hne (Option.some.inj e))⟩
theorem own_some {α : Type} {E : El α} {w : World} {B : Nat} {v : Value} {l : List α} (h : E.Own w B v l) (h0 : 0 < l.length) : ∃ g cap, v = .slice (some ⟨g, 0, none⟩) l.length cap ∧ B ≤ g := by
  unfold El.Own at h
  rcases h.2 with ⟨_, h1⟩ | ⟨g, cap, cur, h1, hb, _⟩
  · omega
  · exact ⟨g, cap, h1, hb⟩
theorem kin_noOp {w : World} {n off : Nat} {z : Kin} {o : Mv} (hZ : kinE.In w n z) : ¬ opE.At w n off o := fun ha => by
  have h := ha 6 _ rfl
  rw [hZ.cell, List.getElem?_eq_none (by rw [kinE.len]; show 4 ≤ off + 6; omega)] at h
  cases h
theorem ry_noOp {w : World} {n off : Nat} {z : Rlw} {o : Mv} (hZ : ryE.In w n z) : ¬ opE.At w n off o := fun ha => by
  rcases ryE_cell hZ (ha 6 _ rfl) with ⟨_, h⟩ | ⟨_, _, _, h⟩ <;> cases h
theorem kids_len {w : World} {b : Nat} {x : Rlw} {A : Option Addr} {c : Nat} {l m : List Kin} (hlm : l.length = m.length) (h : ryE.In w b (kidsW x A c l)) : ryE.In w b (kidsW x A c m) := by
  have e : ryE.c (kidsW x A c l) = ryE.c (kidsW x A c m) := by
    simp only [ryE, kidsW, hlm]
  unfold El.In at h ⊢
  rw [← e]; exact h
set_option maxRecDepth 100000 in
set_option maxHeartbeats 8000000 in
theorem raised19_any (p : Pnw) (x : Rlw) (f : Fw) (w : World) (up : Int) (n : Nat) (i : Nat) (hi : i < x.ks.length) (K : Kin) (hK : x.ks[i] = K) (hKn : K.n = f.x.a) (hPR : Pln.Right p.p) (hn : n ≤ 60) (hr : RlR p.p up n x.v) (hf : FrT f.x) (hT : inE.Sl w p.A p.p.u) (hx : x.ok w) (hfo : f.ok w) :
    Calls Try.prog 19 #[.agg #[.slice p.A p.p.u.length p.c, .int .i64 p.p.q, .int .i64 p.p.r, .int .i64 p.p.b, .int .i64 p.p.l, .int .i64 p.p.w, .int .i64 p.p.c, .int .i64 p.p.k, .int .i64 p.p.i], .agg #[.int .i64 x.node, .int .i64 x.boot, .int .i64 x.above, .int .i64 x.st.s, .int .i64 x.st.t, .int .i64 x.st.p, .slice x.eA x.st.es.length x.ec, .int .i64 x.q.f, .int .i64 x.q.g, .slice x.qA x.q.os.length x.qc, .slice x.kA x.ks.length x.kc, .slice x.rA x.rs.length x.rc, .slice x.gA x.gs.length x.gc, .slice none 0 0, .slice none 0 0, .int .i64 0, .slice none 0 0, .slice none 0 0, .slice none 0 0, .slice none 0 0, .int .i64 0, .int .i64 0, .int .i64 0, .int .i64 0, .slice none 0 0, .int .i64 0], .agg #[.int .i64 f.x.a, .int .i64 f.x.b, .int .i64 f.x.boot, .int .i64 f.x.first, .slice f.oA f.x.os.length f.oc, .int .i64 f.x.pos, .slice f.rA f.x.rs.length f.rc, .int .i64 f.x.start, .slice f.eA f.x.es.length f.ec, .int .i64 f.x.ack, .int .i64 f.x.grant, .int .i64 f.x.s, .int .i64 f.x.t, .slice f.gA f.x.gs.length f.gc], .int .i64 i] w fun e w' => ∃ z : Rlw, e = .returned (.agg #[.int .i64 z.node, .int .i64 z.boot, .int .i64 z.above, .int .i64 z.st.s, .int .i64 z.st.t, .int .i64 z.st.p, .slice z.eA z.st.es.length z.ec, .int .i64 z.q.f, .int .i64 z.q.g, .slice z.qA z.q.os.length z.qc, .slice z.kA z.ks.length z.kc, .slice z.rA z.rs.length z.rc, .slice z.gA z.gs.length z.gc, .slice none 0 0, .slice none 0 0, .int .i64 0, .slice none 0 0, .slice none 0 0, .slice none 0 0, .slice none 0 0, .int .i64 0, .int .i64 0, .int .i64 0, .int .i64 0, .slice none 0 0, .int .i64 0]) ∧ z.ok w' ∧ z.v = raiR p.p x.v i K f.x ∧ Below w.heap.size w w' := by
  obtain ⟨hP, hE, hM, hR, hB⟩ := lo_boxes p x f w
  obtain ⟨rv, hrv⟩ : ∃ rv, raiR p.p x.v i K f.x = rv := ⟨_, rfl⟩
  rw [hrv]
  have HRV := Lib.hid hrv
  have hok := hx.below hB
  have HFO := Lib.hid hfo
  have HXO := Lib.hid hx
  have HT := Lib.hid hT
  have HF := Lib.hid hf
  have HX := Lib.hid hr
  have HL := Lib.hid (lens19 hPR hr)
  have HKI := Lib.hid (And.intro hi hK)
  have HKN := Lib.hid hKn
  have HFE := Lib.hid (show 0 ≤ f.x.first ∧ f.x.first ≤ 1099511627776 ∧ f.x.os.length ≤ 64 ∧ f.x.rs.length ≤ 8 by have := hf.e; omega)
  have HKB := Lib.hid (show (0 ≤ K.r ∧ K.r ≤ 64 * (n : Int)) ∧ (0 ≤ K.p ∧ K.p ≤ 1099511627776) ∧ 0 ≤ K.b ∧ K.b ≤ 1099511627776 from hr.kr K (by rw [← hK]; exact List.getElem_mem hi))
  have HQB := Lib.hid (fun (k : Nat) (hk : k ≤ f.x.os.length) => (by
    obtain ⟨o1, o2, o3, o4, o5, o6, o7⟩ := upOps_b p.p.r (f.x.os.take k) (x.q, K.r) f.x.first
    have h1 : 1 ≤ x.q.f ∧ x.q.f + (x.q.os.length : Int) ≤ 1 + 64 * (n : Int) := hr.qf
    have h2 : 0 ≤ x.q.g ∧ x.q.g ≤ 1099511627776 := hr.qg
    have h3 : x.q.os.length ≤ 16 := (lens19 hPR hr).2.2.1
    have h4 := hPR.r
    have h5 := (hr.kr K (by rw [← hK]; exact List.getElem_mem hi)).1
    rw [List.length_take] at o2
    have o1 : K.r ≤ (upOps p.p.r (x.q, K.r) f.x.first (f.x.os.take k)).2 := o1
    have o2 : (upOps p.p.r (x.q, K.r) f.x.first (f.x.os.take k)).2 ≤ K.r + ((min k f.x.os.length : Nat) : Int) := o2
    have o3 : (upOps p.p.r (x.q, K.r) f.x.first (f.x.os.take k)).1.f = x.q.f := o3
    have o4 : (upOps p.p.r (x.q, K.r) f.x.first (f.x.os.take k)).1.g = x.q.g := o4
    have o6 : ((upOps p.p.r (x.q, K.r) f.x.first (f.x.os.take k)).1.os.length : Int) ≤ max (x.q.os.length : Int) p.p.r := o6
    exact ⟨⟨by omega, by omega, by omega⟩, by omega, by omega⟩ : QuN (upOps p.p.r (x.q, K.r) f.x.first (f.x.os.take k)).1 ∧ 0 ≤ (upOps p.p.r (x.q, K.r) f.x.first (f.x.os.take k)).2 ∧ (upOps p.p.r (x.q, K.r) f.x.first (f.x.os.take k)).2 ≤ 64 * (n : Int) + 64))
  have CD := Lib.hid (fun (d : Int) (wx : World) (h : inE.Sl wx p.A p.p.u) => deviceBelow_any p d f.x.a wx h hPR.shp)
  have hroom := hPR.r
  have HN := Lib.hid hn
  clear hrv hx hT hfo hf hr hPR hn hKn
  go_enter Try.func19, Try.ntmps19
  go_upto_region 1 with (first | (refine wpList_alloc_ry rfl rfl ?_) | fail)
  simp only [alloc_size, Nat.add_assoc, Nat.reduceAdd]
  generalize (((w.alloc (.cells #[.slice p.A p.p.u.length p.c, .int .i64 p.p.q, .int .i64 p.p.r, .int .i64 p.p.b, .int .i64 p.p.l, .int .i64 p.p.w, .int .i64 p.p.c, .int .i64 p.p.k, .int .i64 p.p.i] 33)).alloc (.cells #[.int .i64 x.node, .int .i64 x.boot, .int .i64 x.above, .int .i64 x.st.s, .int .i64 x.st.t, .int .i64 x.st.p, .slice x.eA x.st.es.length x.ec, .int .i64 x.q.f, .int .i64 x.q.g, .slice x.qA x.q.os.length x.qc, .slice x.kA x.ks.length x.kc, .slice x.rA x.rs.length x.rc, .slice x.gA x.gs.length x.gc, .slice none 0 0, .slice none 0 0, .int .i64 0, .slice none 0 0, .slice none 0 0, .slice none 0 0, .slice none 0 0, .int .i64 0, .int .i64 0, .int .i64 0, .int .i64 0, .slice none 0 0, .int .i64 0] 48)).alloc (.cells #[.int .i64 f.x.a, .int .i64 f.x.b, .int .i64 f.x.boot, .int .i64 f.x.first, .slice f.oA f.x.os.length f.oc, .int .i64 f.x.pos, .slice f.rA f.x.rs.length f.rc, .int .i64 f.x.start, .slice f.eA f.x.es.length f.ec, .int .i64 f.x.ack, .int .i64 f.x.grant, .int .i64 f.x.s, .int .i64 f.x.t, .slice f.gA f.x.gs.length f.gc] 28)).alloc (.cells #[.int .i64 0, .int .i64 0, .int .i64 0, .int .i64 0, .int .i64 0, .int .i64 0, .slice none 0 0, .int .i64 0, .int .i64 0, .slice none 0 0, .slice none 0 0, .slice none 0 0, .slice none 0 0, .slice none 0 0, .slice none 0 0, .int .i64 0, .slice none 0 0, .slice none 0 0, .slice none 0 0, .slice none 0 0, .int .i64 0, .int .i64 0, .int .i64 0, .int .i64 0, .slice none 0 0, .int .i64 0] 48) = W at *
  obtain ⟨n1, h1⟩ : ∃ n1, w.heap.size = n1 := ⟨_, rfl⟩
  obtain ⟨n2, h2⟩ : ∃ n2, w.heap.size + 1 = n2 := ⟨_, rfl⟩
  obtain ⟨n3, h3⟩ : ∃ n3, w.heap.size + 2 = n3 := ⟨_, rfl⟩
  obtain ⟨n5, h5⟩ : ∃ n5, w.heap.size + 3 = n5 := ⟨_, rfl⟩
  have hw2 : w.heap.size ≤ n2 := by omega
  have hw5 : w.heap.size ≤ n5 := by omega
  have e25 : n5 ≠ n2 := by omega
  have e32 : n3 ≠ n2 := by omega
  have e12 : n1 ≠ n2 := by omega
  rw [h5] at hR ⊢
  rw [h3] at hM ⊢
  rw [h2] at hE ⊢
  rw [h1] at hP ⊢
  have h3W : n3 < W.heap.size := hM.lt
  have h2W : n2 < W.heap.size := hE.lt
  have h1W : n1 < W.heap.size := hP.lt
  have h5W : n5 < W.heap.size := hR.lt
  clear h1 h2 h3 h5
  have c10 : W.cell? ⟨n2, 10, none⟩ = some (.slice x.kA x.ks.length x.kc) := hE.cell 10
  obtain ⟨bk, ok, eK, hbk, hck⟩ := hok.k.1 (by omega)
  have hatk : kinE.At W bk (ok + i * 4) K := by
    have h := hck i hi
    rw [hK] at h; exact h
  have hxk := kinIdxH (cap := x.kc) eK hi
  have hN0 : kinE.In (W.alloc (.cells #[.int .i64 K.n, .int .i64 K.r, .int .i64 K.p, .int .i64 K.b] 69)) W.heap.size K := El.In.new (E := kinE) W K _ rfl
  have hal := below_alloc (Below.refl W.heap.size W) (.cells #[.int .i64 K.n, .int .i64 K.r, .int .i64 K.p, .int .i64 K.b] 69)
  clear hck hK
  go_upto_region 2 with (first | (refine El.load kinRow rfl _ rfl bk (ok + i * 4) rfl K hatk #[.int .i64 K.n, .int .i64 K.r, .int .i64 K.p, .int .i64 K.b] rfl ?_) | fail)
  replace hE := hE.below hal
  replace hP := hP.below hal
  replace hM := hM.below hal
  replace hR := hR.below hal
  replace hB := below_then hB hal
  have hw6 : w.heap.size ≤ W.heap.size := by omega
  clear hal c10 hatk hxk hbk eK hok
  generalize W.alloc (.cells #[.int .i64 K.n, .int .i64 K.r, .int .i64 K.p, .int .i64 K.b] 69) = V at *
  generalize W.heap.size = n6 at *
  have e26 : n6 ≠ n2 := by omega
  have e36 : n3 ≠ n6 := by omega
  have e56 : n5 ≠ n6 := by omega
  have e16 : n1 ≠ n6 := by omega
  have k3 : V.cell? ⟨n6, 3, none⟩ = some (.int .i64 K.b) := hN0.cell 3
  have m2 : V.cell? ⟨n3, 2, none⟩ = some (.int .i64 f.x.boot) := hM.cell 2
  have qf := hN0.frozen
  go_upto_region 3 with fail
  clear k3 m2 qf
  replace hN0 := hN0.put (⟨K.n, K.r, K.p, f.x.boot⟩ : Kin) 3 (.int .i64 f.x.boot) rfl
  replace hE := hE.other n6 3 (.int .i64 f.x.boot) (Ne.symm e26)
  replace hR := hR.other n6 3 (.int .i64 f.x.boot) e56
  replace hM := hM.other n6 3 (.int .i64 f.x.boot) e36
  replace hP := hP.other n6 3 (.int .i64 f.x.boot) e16
  replace hB := Below.setCell hB (p := ⟨n6, 3, none⟩) hw6 (.int .i64 f.x.boot)
  generalize V.setCell ⟨n6, 3, none⟩ (.int .i64 f.x.boot) = V at *
  obtain ⟨mp, hmp⟩ : ∃ mp, max K.p f.x.pos = mp := ⟨_, rfl⟩
  have k2 : V.cell? ⟨n6, 2, none⟩ = some (.int .i64 K.p) := hN0.cell 2
  have m5 : V.cell? ⟨n3, 5, none⟩ = some (.int .i64 f.x.pos) := hM.cell 5
  have qf := hN0.frozen
  go_upto_region 4 with fail
  clear k2 m5 qf
  have HMP := Lib.hid hmp
  clear hmp
  replace hN0 := hN0.put (⟨K.n, K.r, mp, f.x.boot⟩ : Kin) 2 (.int .i64 mp) rfl
  replace hE := hE.other n6 2 (.int .i64 mp) (Ne.symm e26)
  replace hR := hR.other n6 2 (.int .i64 mp) e56
  replace hM := hM.other n6 2 (.int .i64 mp) e36
  replace hP := hP.other n6 2 (.int .i64 mp) e16
  replace hB := Below.setCell hB (p := ⟨n6, 2, none⟩) hw6 (.int .i64 mp)
  generalize V.setCell ⟨n6, 2, none⟩ (.int .i64 mp) = V at *
  have m4 : V.cell? ⟨n3, 4, none⟩ = some (.slice f.oA f.x.os.length f.oc) := hM.cell 4
  have hE9 : ryE.In V n2 (qW x x.Q) := hE
  have HU0 := Lib.hid (show (x.Q.x, K.r) = upOps p.p.r (x.q, K.r) f.x.first (f.x.os.take 0) from rfl)
  have hq9 := SlV.below HXO.out.q hB
  have hol : f.x.os.length ≤ 64 := HFE.out.2.2.1
  clear hE
  go_wp2_with fail
  clear m4
  go_loopw [31] (fun y wr => ∃ (k : Nat) (qz : Qw) (r : Int), k ≤ f.x.os.length ∧ y = .int .i64 k ∧ Hid ((qz.x, r) = upOps p.p.r (x.q, K.r) f.x.first (f.x.os.take k)) ∧ ryE.In wr n2 (qW x qz) ∧ SlV opE wr qz.A qz.c qz.x.os ∧ kinE.In wr n6 ⟨K.n, r, mp, f.x.boot⟩ ∧ pnE.In wr n1 p ∧ frE.In wr n3 f ∧ ryE.In wr n5 Rlw.zero ∧ Below w.heap.size w wr) (fun y _ => f.x.os.length - (intOf y).toNat)
  case atStart => exact ⟨0, x.Q, K.r, Nat.zero_le _, rfl, HU0, hE9, hq9, hN0, hP, hM, hR, hB⟩
  case round =>
    clear hE9 hq9 hN0 hP hM hR hB HU0
    obtain ⟨k, qz, r, hk, rfl, HU, hE, hq, hN, hP, hM, hR, hB⟩ := hrel
    by_cases hkl : k < f.x.os.length
    · have f2 : decide ((k : Int) < (f.x.os.length : Int)) = true := decide_eq_true (by omega)
      obtain ⟨b, off, eA, hbw, hc⟩ := (SlV.below HFO.out.o hB).1 (by omega)
      obtain ⟨o, ho⟩ : ∃ o, f.x.os[k] = o := ⟨_, rfl⟩
      have hat : opE.At wr b (off + k * 7) o := by
        have h := hc k hkl
        rw [ho] at h; exact h
      have hx := opIdxH (cap := f.oc) eA hkl
      have HNX := Lib.hid (show upOps p.p.r (x.q, K.r) f.x.first (f.x.os.take (k + 1)) = if f.x.first + k = r + 1 ∧ (qz.x.os.length : Int) < p.p.r then (pushQ qz.x o, r + 1) else (qz.x, r) by
        rw [upOps_next hkl, ← HU.out, ho])
      have hqb := HQB.out k hk
      rw [← HU.out] at hqb
      have HQN := Lib.hid (show QuN qz.x from hqb.1)
      have hrb : 0 ≤ r ∧ r ≤ 64 * (n : Int) + 64 := hqb.2
      obtain ⟨F, hF⟩ : ∃ F, f.x.first + (k : Int) = F := ⟨_, rfl⟩
      have hw1 : IntKind.i64.wrap (f.x.first + (k : Int)) = F := by rw [IntKind.wrap_i64]; have := HFE.out; omega
      obtain ⟨R1, hR1⟩ : ∃ R1, r + 1 = R1 := ⟨_, rfl⟩
      have hw2' : IntKind.i64.wrap (r + 1) = R1 := by rw [IntKind.wrap_i64]; have := HN.out; omega
      rw [hF, hR1] at HNX
      have HR1 := Lib.hid hR1
      clear hc ho eA hqb hrb hF hR1
      have hO : opE.In (wr.alloc (.cells #[.int .i64 o.C, .int .i64 o.D, .int .i64 o.I, .int .i64 o.M, .int .i64 o.K, .int .i64 o.U, .string o.s] 64)) wr.heap.size o := El.In.new (E := opE) wr o _ rfl
      have hal := below_alloc (Below.refl wr.heap.size wr) (.cells #[.int .i64 o.C, .int .i64 o.D, .int .i64 o.I, .int .i64 o.M, .int .i64 o.K, .int .i64 o.U, .string o.s] 64)
      replace hq := SlV.below hq hal
      replace hE := hE.below hal
      replace hN := hN.below hal
      replace hP := hP.below hal
      replace hM := hM.below hal
      replace hR := hR.below hal
      replace hB := below_then hB hal
      clear hal
      go_upto_region 7 with (first | (refine El.load opRow rfl _ rfl b (off + k * 7) rfl o hat #[.int .i64 o.C, .int .i64 o.D, .int .i64 o.I, .int .i64 o.M, .int .i64 o.K, .int .i64 o.U, .string o.s] rfl ?_) | fail)
      clear hat hx hbw
      generalize wr.alloc (.cells #[.int .i64 o.C, .int .i64 o.D, .int .i64 o.I, .int .i64 o.M, .int .i64 o.K, .int .i64 o.U, .string o.s] 64) = U at *
      generalize wr.heap.size = n11 at *
      have m3 : U.cell? ⟨n3, 3, none⟩ = some (.int .i64 f.x.first) := hM.cell 3
      have k1 : U.cell? ⟨n6, 1, none⟩ = some (.int .i64 r) := hN.cell 1
      have c9 : U.cell? ⟨n2, 9, none⟩ = some (.slice qz.A qz.x.os.length qz.c) := hE.cell 9
      have p2 : U.cell? ⟨n1, 2, none⟩ = some (.int .i64 p.p.r) := hP.cell 2
      by_cases hFR : F = R1
      · have f5 : (F == R1) = true := beq_iff_eq.2 hFR
        have f5' : decide (F = R1) = true := decide_eq_true hFR
        by_cases hrm : (qz.x.os.length : Int) < p.p.r
        · have f6 : decide ((qz.x.os.length : Int) < p.p.r) = true := decide_eq_true hrm
          have HNV := Lib.hid (show upOps p.p.r (x.q, K.r) f.x.first (f.x.os.take (k + 1)) = (pushQ qz.x o, R1) by rw [HNX.out, if_pos ⟨hFR, hrm⟩])
          clear hFR hrm
          have CP := quPush_any qz o U HQN.out hq
          have hq7 : quE.At U n2 7 qz := ry_q hE
          go_wp2_with (first | (refine El.load quRow rfl _ rfl n2 7 rfl qz hq7 #[.int .i64 qz.x.f, .int .i64 qz.x.g, .slice qz.A qz.x.os.length qz.c] rfl ?_) | (refine El.load opRow rfl _ rfl n11 0 rfl o hO.at #[.int .i64 o.C, .int .i64 o.D, .int .i64 o.I, .int .i64 o.M, .int .i64 o.K, .int .i64 o.U, .string o.s] rfl ?_) | fail)
          refine CP.mono ?_
          rintro e w8 ⟨z2, rfl, hz2x, hz2, hb8, _⟩
          replace hE := hE.below hb8
          replace hN := hN.below hb8
          replace hP := hP.below hb8
          replace hM := hM.below hb8
          replace hR := hR.below hb8
          replace hB := below_then hB hb8
          have HZ2 := Lib.hid hz2x
          clear hb8 CP hq7 hO m3 k1 c9 p2 hz2x hq f5 f5' f6
          have hgr := by_row w8 n2 (ryE.c (qW x z2)).toArray
          go_upto_region 9 with (first | (refine El.wpList_part (E := ryE) (T := 38) (k := 3) (by kernel_rfl) rfl _ _ rfl n2 7 (qW x qz) (qW x z2) [.int .i64 z2.x.f, .int .i64 z2.x.g, .slice z2.A z2.x.os.length z2.c] rfl (by intro v hv; simp only [List.mem_cons, List.not_mem_nil, or_false] at hv; rcases hv with rfl | rfl | rfl <;> rfl) rfl rfl hE rfl (by show 7 + 3 ≤ 26; omega) ?_) | fail)
          have hq2 : SlV opE (w8.setRow n2 (ryE.c (qW x z2)).toArray) z2.A z2.c z2.x.os := SlV.keepRK hz2 (fun o _ => ry_noOp hE) hgr
          replace hE := hE.set (qW x z2) (ryE.c (qW x z2)).toArray rfl
          replace hN := hN.rowN n2 (ryE.c (qW x z2)).toArray e26
          replace hP := hP.rowN n2 (ryE.c (qW x z2)).toArray e12
          replace hM := hM.rowN n2 (ryE.c (qW x z2)).toArray e32
          replace hR := hR.rowN n2 (ryE.c (qW x z2)).toArray e25
          replace hB := below_setRow hB hw2 (ryE.c (qW x z2)).toArray
          clear hgr hz2
          generalize w8.setRow n2 (ryE.c (qW x z2)).toArray = w9 at *
          have k1 : w9.cell? ⟨n6, 1, none⟩ = some (.int .i64 r) := hN.cell 1
          have qf := hN.frozen
          have HUV := Lib.hid (show (z2.x, R1) = upOps p.p.r (x.q, K.r) f.x.first (f.x.os.take (k + 1)) by rw [HNV.out, HZ2.out])
          have hg6 := by_cell w9 n6 1 (.int .i64 R1)
          have hq3 := SlV.keepRK hq2 (fun o _ => kin_noOp hN) hg6
          clear hq2 hg6 HU
          go_wp2_with fail
          go_roundw
          case rel => exact ⟨k + 1, z2, R1, by omega, by go_num, HUV, hE.other n6 1 _ (Ne.symm e26), hq3, hN.put (⟨K.n, R1, mp, f.x.boot⟩ : Kin) 1 _ rfl, hP.other n6 1 _ e16, hM.other n6 1 _ e36, hR.other n6 1 _ e56, Below.setCell hB (p := ⟨n6, 1, none⟩) hw6 _⟩
          case measure => simp [intOf]; omega
        · have f6 : decide ((qz.x.os.length : Int) < p.p.r) = false := decide_eq_false hrm
          have HNV := Lib.hid (show (qz.x, r) = upOps p.p.r (x.q, K.r) f.x.first (f.x.os.take (k + 1)) by rw [HNX.out, if_neg (fun e => hrm e.2)])
          clear hFR hrm
          go_wp2_with fail
          go_roundw
          case rel => exact ⟨k + 1, qz, r, by omega, by go_num, HNV, hE, hq, hN, hP, hM, hR, hB⟩
          case measure => simp [intOf]; omega
      · have f5 : (F == R1) = false := beq_eq_false_iff_ne.2 hFR
        have f5' : decide (F = R1) = false := decide_eq_false hFR
        have HNV := Lib.hid (show (qz.x, r) = upOps p.p.r (x.q, K.r) f.x.first (f.x.os.take (k + 1)) by rw [HNX.out, if_neg (fun e => hFR e.1)])
        clear hFR
        go_wp2_with fail
        go_roundw
        case rel => exact ⟨k + 1, qz, r, by omega, by go_num, HNV, hE, hq, hN, hP, hM, hR, hB⟩
        case measure => simp [intOf]; omega
    · obtain rfl : k = f.x.os.length := by omega
      rw [List.take_length] at HU
      clear hkl hk
      obtain ⟨KK, hKK⟩ : ∃ KK, (⟨K.n, r, mp, f.x.boot⟩ : Kin) = KK := ⟨_, rfl⟩
      rw [hKK] at hN
      have HKK := Lib.hid hKK
      have HKA := Lib.hid (show KK.n = f.x.a by rw [← hKK]; exact HKN.out)
      clear hKK
      have c10 : wr.cell? ⟨n2, 10, none⟩ = some (.slice x.kA x.ks.length x.kc) := hE.cell 10
      have hkl1 : x.ks.length ≤ 12 := HL.out.1
      have CC := cloneKin_any x.kA x.kc x.ks wr (by omega) (SlV.below HXO.out.k hB)
      go_wp2_with fail
      refine CC.mono ?_
      rintro e w11 ⟨v, rfl, hO, hb11⟩
      obtain ⟨g, cap, rfl, hgB⟩ := own_some hO (by omega)
      have h2N : n2 < wr.heap.size := hE.lt
      have h1N : n1 < wr.heap.size := hP.lt
      have h5N : n5 < wr.heap.size := hR.lt
      have h6N : n6 < wr.heap.size := hN.lt
      have h3N : n3 < wr.heap.size := hM.lt
      have hwN : w.heap.size ≤ wr.heap.size := hB.size
      have HQL := Lib.hid (fun (h0 : 0 < qz.x.os.length) (a : Addr) (e : qz.A = some a) => SlV.lt hq h0 a e)
      replace hq := SlV.below hq hb11
      replace hE := hE.below hb11
      replace hN := hN.below hb11
      replace hP := hP.below hb11
      replace hM := hM.below hb11
      replace hR := hR.below hb11
      replace hB := below_then hB hb11
      clear hb11 CC c10
      generalize wr.heap.size = N10 at *
      have c10 : w11.cell? ⟨n2, 10, none⟩ = some (.slice x.kA x.ks.length x.kc) := hE.cell 10
      have qf := hE.frozen
      go_upto_region 12 with fail
      clear c10 qf
      have hg10 := by_cell w11 n2 10 (.slice (some ⟨g, 0, none⟩) x.ks.length cap)
      replace hq := SlV.keepRK hq (fun o _ => ry_noOp hE) hg10
      replace hO := hO.kept hg10 (Or.inr (fun e => by
        have e1 : some g = some n2 := e
        have := Option.some.inj e1; omega))
      replace hE := hE.put (kidsW (qW x qz) (some ⟨g, 0, none⟩) cap x.ks) 10 (.slice (some ⟨g, 0, none⟩) x.ks.length cap) rfl
      replace hN := hN.other n2 10 (.slice (some ⟨g, 0, none⟩) x.ks.length cap) e26
      replace hP := hP.other n2 10 (.slice (some ⟨g, 0, none⟩) x.ks.length cap) e12
      replace hM := hM.other n2 10 (.slice (some ⟨g, 0, none⟩) x.ks.length cap) e32
      replace hR := hR.other n2 10 (.slice (some ⟨g, 0, none⟩) x.ks.length cap) e25
      replace hB := Below.setCell hB (p := ⟨n2, 10, none⟩) hw2 (.slice (some ⟨g, 0, none⟩) x.ks.length cap)
      clear hg10
      generalize w11.setCell ⟨n2, 10, none⟩ (.slice (some ⟨g, 0, none⟩) x.ks.length cap) = w12 at *
      have hix : ∀ w, (Instr.indexAt 39 (.slice (some ⟨g, 0, none⟩) x.ks.length cap) (.int .i64 i)).run Try.prog w = .ok (.pointer (some ⟨g, i * 4, none⟩)) w := fun w => by
        have h := kinIdxH (A := some ⟨g, 0, none⟩) (cap := cap) rfl hi w
        rw [Nat.zero_add] at h; exact h
      have c10 : w12.cell? ⟨n2, 10, none⟩ = some (.slice (some ⟨g, 0, none⟩) x.ks.length cap) := hE.cell 10
      go_upto_region 13 with (first | (refine El.load kinRow rfl _ rfl n6 0 rfl KK hN.at #[.int .i64 KK.n, .int .i64 KK.r, .int .i64 KK.p, .int .i64 KK.b] rfl ?_) | (refine El.wpList_setAt kinRow rfl _ _ rfl N10 g cap i x.ks KK hO hi #[.int .i64 KK.n, .int .i64 KK.r, .int .i64 KK.p, .int .i64 KK.b] rfl rfl rfl ?_; intro w13 hO7 hg7 _) | fail)
      obtain ⟨KL, hKL⟩ : ∃ KL, x.ks.set i KK = KL := ⟨_, rfl⟩
      have HLL := Lib.hid (show x.ks.length = KL.length by rw [← hKL, List.length_set])
      rw [hKL] at hO7
      have HKL := Lib.hid hKL
      clear hKL c10 hix
      replace hq := SlV.keepU hq HQL.out hgB hg7
      replace hE : ryE.In w13 n2 (kidsW (qW x qz) (some ⟨g, 0, none⟩) cap KL) := kids_len HLL.out (hE.keep hg7 (fun e => by have := Option.some.inj e; omega))
      replace hN := hN.keep hg7 (fun e => by have := Option.some.inj e; omega)
      replace hP := hP.keep hg7 (fun e => by have := Option.some.inj e; omega)
      replace hM := hM.keep hg7 (fun e => by have := Option.some.inj e; omega)
      replace hR := hR.keep hg7 (fun e => by have := Option.some.inj e; omega)
      replace hB := hB.grown hg7 hB.size (fun k e => by have := Option.some.inj e; omega)
      have hok4 : (kidsW (qW x qz) (some ⟨g, 0, none⟩) cap KL).ok w13 := by
        obtain ⟨A2, c2, e2, hS⟩ := SlV.own hO7
        injection e2 with e2 _ e3
        subst e2 e3
        exact ⟨SlV.below HXO.out.e hB, hq, hS, hO7.kin, SlV.below HXO.out.r hB, SlV.below HXO.out.g hB⟩
      have HY4 := Lib.hid (show (kidsW (qW x qz) (some ⟨g, 0, none⟩) cap KL).v = { x.v with q := (upOps p.p.r (x.v.q, K.r) f.x.first f.x.os).1, ks := x.v.ks.set i ⟨K.n, (upOps p.p.r (x.v.q, K.r) f.x.first f.x.os).2, max K.p f.x.pos, f.x.boot⟩ } by
        show ({ x.v with q := qz.x, ks := KL } : Rlv) = _
        have h1 : upOps p.p.r (x.v.q, K.r) f.x.first f.x.os = (qz.x, r) := HU.out.symm
        rw [h1, ← HKL.out, ← HKK.out, ← HMP.out]; rfl)
      clear hq hO hO7 hg7 HQL HKK HMP HU HQB
      obtain ⟨y4, hy4⟩ : ∃ z, kidsW (qW x qz) (some ⟨g, 0, none⟩) cap KL = z := ⟨_, rfl⟩
      rw [hy4] at hE hok4 HY4
      clear hy4 HLL HKL
      have HRS := Lib.hid (show y4.rs = x.rs from congrArg Rlv.rs HY4.out)
      have HGR := Lib.hid (fun (k : Nat) => (by
        have h := reps_len p.p.u f.x.a (f.x.rs.take k) x.rs
        have h1 : (f.x.rs.take k).length ≤ f.x.rs.length := by rw [List.length_take]; omega
        have h2 : x.rs.length ≤ 12 := HL.out.2.2.2.1
        have h3 := HFE.out
        omega : ((f.x.rs.take k).foldl (repStep p.p.u f.x.a) x.rs).length ≤ 20))
      have hg8 : f.x.rs.length ≤ 8 := HFE.out.2.2.2
      have hE9 : ryE.In w13 n2 (rW y4 y4.rA y4.rc ((f.x.rs.take 0).foldl (repStep p.p.u f.x.a) x.rs)) := by
        rw [show (f.x.rs.take 0).foldl (repStep p.p.u f.x.a) x.rs = y4.rs from HRS.out.symm]
        exact hE
      have hok9 : (rW y4 y4.rA y4.rc ((f.x.rs.take 0).foldl (repStep p.p.u f.x.a) x.rs)).ok w13 := by
        rw [show (f.x.rs.take 0).foldl (repStep p.p.u f.x.a) x.rs = y4.rs from HRS.out.symm]
        exact hok4
      have m6 : w13.cell? ⟨n3, 6, none⟩ = some (.slice f.rA f.x.rs.length f.rc) := hM.cell 6
      clear hE hok4 hM
      go_wp2_with fail
      clear m6
      go_loopw [75] (fun y wr => ∃ (k : Nat) (A : Option Addr) (c : Nat), k ≤ f.x.rs.length ∧ y = .int .i64 k ∧ ryE.In wr n2 (rW y4 A c ((f.x.rs.take k).foldl (repStep p.p.u f.x.a) x.rs)) ∧ (rW y4 A c ((f.x.rs.take k).foldl (repStep p.p.u f.x.a) x.rs)).ok wr ∧ kinE.In wr n6 KK ∧ pnE.In wr n1 p ∧ ryE.In wr n5 Rlw.zero ∧ Below w.heap.size w wr) (fun y _ => f.x.rs.length - (intOf y).toNat)
      case atStart => exact ⟨0, _, _, Nat.zero_le _, rfl, hE9, hok9, hN, hP, hR, hB⟩
      case round =>
        clear hE9 hok9 hN hP hR hB
        obtain ⟨k, A, c, hk, rfl, hE, hok, hN, hP, hR, hB⟩ := hrel
        by_cases hkl : k < f.x.rs.length
        · have f2 : decide ((k : Int) < (f.x.rs.length : Int)) = true := decide_eq_true (by omega)
          obtain ⟨b, off, eA, hbw, hc⟩ := (SlV.below HFO.out.r hB).1 (by omega)
          obtain ⟨s, hs⟩ : ∃ s, f.x.rs[k] = s := ⟨_, rfl⟩
          have hat : rpE.At wr b (off + k * 9) s := by
            have h := hc k hkl
            rw [hs] at h; exact h
          have hx := rpIdxH (cap := f.rc) eA hkl
          have HNX := Lib.hid (show (f.x.rs.take (k + 1)).foldl (repStep p.p.u f.x.a) x.rs = if (decide (kindL p.p.u s.d = 3) && belowU p.p.u s.d f.x.a) = true then mergeR ((f.x.rs.take k).foldl (repStep p.p.u f.x.a) x.rs) s else (f.x.rs.take k).foldl (repStep p.p.u f.x.a) x.rs by
            rw [List.take_succ_eq_append_getElem hkl, List.foldl_append, hs, ← repStep_prog]; rfl)
          have HLE := Lib.hid (HGR.out k)
          clear hc hs eA
          generalize (f.x.rs.take k).foldl (repStep p.p.u f.x.a) x.rs = L at *
          have hS : rpE.In (wr.alloc (.cells #[.int .i64 s.d, .int .i64 s.i, .int .i64 s.b, .int .i64 s.t, .int .i64 s.m, .int .i64 s.p, .int .i64 s.c, .int .i64 s.s, .int .i64 s.k] 59)) wr.heap.size s := El.In.new (E := rpE) wr s _ rfl
          have hal := below_alloc (Below.refl wr.heap.size wr) (.cells #[.int .i64 s.d, .int .i64 s.i, .int .i64 s.b, .int .i64 s.t, .int .i64 s.m, .int .i64 s.p, .int .i64 s.c, .int .i64 s.s, .int .i64 s.k] 59)
          replace hE := hE.below hal
          replace hok := hok.below hal
          replace hN := hN.below hal
          replace hP := hP.below hal
          replace hR := hR.below hal
          replace hB := below_then hB hal
          clear hal
          go_upto_region 16 with (first | (refine El.load rpRow rfl _ rfl b (off + k * 9) rfl s hat #[.int .i64 s.d, .int .i64 s.i, .int .i64 s.b, .int .i64 s.t, .int .i64 s.m, .int .i64 s.p, .int .i64 s.c, .int .i64 s.s, .int .i64 s.k] rfl ?_) | fail)
          clear hat hx hbw
          generalize wr.alloc (.cells #[.int .i64 s.d, .int .i64 s.i, .int .i64 s.b, .int .i64 s.t, .int .i64 s.m, .int .i64 s.p, .int .i64 s.c, .int .i64 s.s, .int .i64 s.k] 59) = U at *
          generalize wr.heap.size = n13 at *
          have k0 : U.cell? ⟨n6, 0, none⟩ = some (.int .i64 f.x.a) := by
            have h : U.cell? ⟨n6, 0, none⟩ = some (.int .i64 KK.n) := hN.cell 0
            rw [HKA.out] at h; exact h
          have s0 : U.cell? ⟨n13, 0, none⟩ = some (.int .i64 s.d) := hS.cell 0
          have C := CD.out s.d U (HT.out.below hB)
          obtain ⟨bb, hbb⟩ : ∃ bb, (decide (kindL p.p.u s.d = 3) && belowU p.p.u s.d f.x.a) = bb := ⟨_, rfl⟩
          rw [hbb] at C HNX
          clear hbb
          go_wp2_with (first | (refine El.load pnRow rfl _ rfl n1 0 rfl p hP.at #[.slice p.A p.p.u.length p.c, .int .i64 p.p.q, .int .i64 p.p.r, .int .i64 p.p.b, .int .i64 p.p.l, .int .i64 p.p.w, .int .i64 p.p.c, .int .i64 p.p.k, .int .i64 p.p.i] rfl ?_) | fail)
          refine C.mono ?_
          rintro e w7 ⟨rfl, hb7⟩
          replace hE := hE.below hb7
          replace hok := hok.below hb7
          replace hN := hN.below hb7
          replace hP := hP.below hb7
          replace hR := hR.below hb7
          replace hB := below_then hB hb7
          replace hS := hS.below hb7
          clear hb7 C k0 s0
          cases bb with
          | false =>
            have HNV := Lib.hid (show (f.x.rs.take (k + 1)).foldl (repStep p.p.u f.x.a) x.rs = L by rw [HNX.out, if_neg (by decide)])
            clear hS
            go_wp2_with fail
            go_roundw
            case rel => exact ⟨k + 1, A, c, by omega, by go_num, by rw [HNV.out]; exact hE, by rw [HNV.out]; exact hok, hN, hP, hR, hB⟩
            case measure => simp [intOf]; omega
          | true =>
            have c11 : w7.cell? ⟨n2, 11, none⟩ = some (.slice A L.length c) := hE.cell 11
            obtain ⟨M, hM⟩ : ∃ M, mergeR L s = M := ⟨_, rfl⟩
            have CM := rpMerge_any A c L s w7 (by have := HLE.out; omega) hok.r
            rw [hM] at CM HNX
            have HNV := Lib.hid (show (f.x.rs.take (k + 1)).foldl (repStep p.p.u f.x.a) x.rs = M by rw [HNX.out, if_pos rfl])
            clear hM
            go_wp2_with (first | (refine El.load rpRow rfl _ rfl n13 0 rfl s hS.at #[.int .i64 s.d, .int .i64 s.i, .int .i64 s.b, .int .i64 s.t, .int .i64 s.m, .int .i64 s.p, .int .i64 s.c, .int .i64 s.s, .int .i64 s.k] rfl ?_) | fail)
            refine CM.mono ?_
            rintro e w8 ⟨A', c', rfl, hSM, hb8⟩
            replace hE := hE.below hb8
            replace hok := hok.below hb8
            replace hN := hN.below hb8
            replace hP := hP.below hb8
            replace hR := hR.below hb8
            replace hB := below_then hB hb8
            clear hb8 CM c11 hS
            have c11 : w8.cell? ⟨n2, 11, none⟩ = some (.slice A L.length c) := hE.cell 11
            have qf := hE.frozen
            have hg1 := by_cell w8 n2 11 (.slice A' M.length c')
            have hok1 : (rW y4 A' c' M).ok w8 := ⟨hok.e, hok.q, hok.k, hok.t, hSM, hok.g⟩
            have hok2 := hok1.keepB hE hg1
            have hE2 := hE.put (rW y4 A' c' M) 11 (.slice A' M.length c') rfl
            clear hok1 hg1 hok
            go_wp2_with fail
            go_roundw
            case rel => exact ⟨k + 1, A', c', by omega, by go_num, by rw [HNV.out]; exact hE2, by rw [HNV.out]; exact hok2, hN.other n2 11 _ e26, hP.other n2 11 _ e12, hR.other n2 11 _ e25, Below.setCell hB (p := ⟨n2, 11, none⟩) hw2 _⟩
            case measure => simp [intOf]; omega
        · obtain rfl : k = f.x.rs.length := by omega
          rw [List.take_length] at hE hok
          obtain ⟨Z, hZ⟩ : ∃ Z, rW y4 A c (f.x.rs.foldl (repStep p.p.u f.x.a) x.rs) = Z := ⟨_, rfl⟩
          have HV := Lib.hid (show Z.v = rv by
            rw [← HRV.out, ← hZ]
            show ({ y4.v with rs := f.x.rs.foldl (repStep p.p.u f.x.a) x.rs } : Rlv) = _
            rw [HY4.out]; rfl)
          rw [hZ] at hE hok
          clear hZ hkl hk
          go_wp2_with (first | (refine El.load ryRow rfl _ rfl n2 0 rfl Z hE.at #[.int .i64 Z.node, .int .i64 Z.boot, .int .i64 Z.above, .int .i64 Z.st.s, .int .i64 Z.st.t, .int .i64 Z.st.p, .slice Z.eA Z.st.es.length Z.ec, .int .i64 Z.q.f, .int .i64 Z.q.g, .slice Z.qA Z.q.os.length Z.qc, .slice Z.kA Z.ks.length Z.kc, .slice Z.rA Z.rs.length Z.rc, .slice Z.gA Z.gs.length Z.gc, .slice none 0 0, .slice none 0 0, .int .i64 0, .slice none 0 0, .slice none 0 0, .slice none 0 0, .slice none 0 0, .int .i64 0, .int .i64 0, .int .i64 0, .int .i64 0, .slice none 0 0, .int .i64 0] rfl ?_) | (refine El.store ryRow rfl _ _ rfl n5 Z #[.int .i64 Z.node, .int .i64 Z.boot, .int .i64 Z.above, .int .i64 Z.st.s, .int .i64 Z.st.t, .int .i64 Z.st.p, .slice Z.eA Z.st.es.length Z.ec, .int .i64 Z.q.f, .int .i64 Z.q.g, .slice Z.qA Z.q.os.length Z.qc, .slice Z.kA Z.ks.length Z.kc, .slice Z.rA Z.rs.length Z.rc, .slice Z.gA Z.gs.length Z.gc, .slice none 0 0, .slice none 0 0, .int .i64 0, .slice none 0 0, .slice none 0 0, .slice none 0 0, .slice none 0 0, .int .i64 0, .int .i64 0, .int .i64 0, .int .i64 0, .slice none 0 0, .int .i64 0] rfl rfl rfl Rlw.zero hR ?_) | fail)
          refine El.ret1 ryRow (hR.set Z _ rfl) rfl rfl rfl _ rfl ?_
          exact ⟨Z, rfl, hok.keepB hR (by_row _ _ _), HV.out, below_setRow hB hw5 _⟩
end Go.Proofs.Ytnglpkfkepfkkaa

/- The program's relays: Take. -/
namespace Go.Proofs.Ytnglpkfkepfkkaa
open Go.RowKit Nam Cod Pln

set_option maxRecDepth 100000 in
set_option maxHeartbeats 8000000 in
theorem take19_any (p : Pnw) (x : Rlw) (f : Fw) (w : World) (up : Int) (n : Nat) (hPR : Pln.Right p.p) (hn : n ≤ 60) (hr : RlR p.p up n x.v) (hD : ∀ d, belowU p.p.u d x.node = true → (kindL p.p.u d = 3 ↔ d ≠ x.node)) (hf : FrT f.x) (hs : f.x.s ≤ 1073741824) (hT : inE.Sl w p.A p.p.u) (hx : x.ok w) (hfo : f.ok w) :
    Calls Try.prog 9 #[.agg #[.slice p.A p.p.u.length p.c, .int .i64 p.p.q, .int .i64 p.p.r, .int .i64 p.p.b, .int .i64 p.p.l, .int .i64 p.p.w, .int .i64 p.p.c, .int .i64 p.p.k, .int .i64 p.p.i], .agg #[.int .i64 x.node, .int .i64 x.boot, .int .i64 x.above, .int .i64 x.st.s, .int .i64 x.st.t, .int .i64 x.st.p, .slice x.eA x.st.es.length x.ec, .int .i64 x.q.f, .int .i64 x.q.g, .slice x.qA x.q.os.length x.qc, .slice x.kA x.ks.length x.kc, .slice x.rA x.rs.length x.rc, .slice x.gA x.gs.length x.gc, .slice none 0 0, .slice none 0 0, .int .i64 0, .slice none 0 0, .slice none 0 0, .slice none 0 0, .slice none 0 0, .int .i64 0, .int .i64 0, .int .i64 0, .int .i64 0, .slice none 0 0, .int .i64 0], .agg #[.int .i64 f.x.a, .int .i64 f.x.b, .int .i64 f.x.boot, .int .i64 f.x.first, .slice f.oA f.x.os.length f.oc, .int .i64 f.x.pos, .slice f.rA f.x.rs.length f.rc, .int .i64 f.x.start, .slice f.eA f.x.es.length f.ec, .int .i64 f.x.ack, .int .i64 f.x.grant, .int .i64 f.x.s, .int .i64 f.x.t, .slice f.gA f.x.gs.length f.gc]] w fun e w' => ∃ (z : Rlw) (m : Int), e = .returned (.tuple #[.agg #[.int .i64 z.node, .int .i64 z.boot, .int .i64 z.above, .int .i64 z.st.s, .int .i64 z.st.t, .int .i64 z.st.p, .slice z.eA z.st.es.length z.ec, .int .i64 z.q.f, .int .i64 z.q.g, .slice z.qA z.q.os.length z.qc, .slice z.kA z.ks.length z.kc, .slice z.rA z.rs.length z.rc, .slice z.gA z.gs.length z.gc, .slice none 0 0, .slice none 0 0, .int .i64 0, .slice none 0 0, .slice none 0 0, .slice none 0 0, .slice none 0 0, .int .i64 0, .int .i64 0, .int .i64 0, .int .i64 0, .slice none 0 0, .int .i64 0], .int .i64 m]) ∧ z.ok w' ∧ takeR p.p up x.v f.x = (z.v, m) ∧ Below w.heap.size w w' := by
  obtain ⟨hP, hE, hM, hR, hB⟩ := lo_boxes p x f w
  obtain ⟨rv, hrv⟩ : ∃ rv, takeR p.p up x.v f.x = rv := ⟨_, rfl⟩
  rw [hrv]
  have HRV := Lib.hid hrv
  have hok := hx.below hB
  have HFO := Lib.hid hfo
  have HT := Lib.hid hT
  have HF := Lib.hid hf
  have HX := Lib.hid hr
  have HL := Lib.hid (lens19 hPR hr)
  have CPA := Lib.hid (fun (wx : World) (h : inE.Sl wx p.A p.p.u) => parent19_any p x.node up wx ⟨Int.le_of_lt hr.node.1, hr.node.2.1⟩ h)
  have CKD := Lib.hid (fun (wx : World) (h : x.ok wx) => kid19_any x f.x.a wx (by have h2 : x.ks.length ≤ 12 := (lens19 hPR hr).1; omega) h)
  have CLO := Lib.hid (fun (wx : World) (hb : Below w.heap.size w wx) => lowered19_any p x f wx up n hPR hn hr hD hf hs (hT.below hb) (hx.below hb) (hfo.below hb))
  have CRA := Lib.hid (fun (i : Nat) (hi : i < x.ks.length) (hk : x.ks[i].n = f.x.a) (wx : World) (hb : Below w.heap.size w wx) => raised19_any p x f wx up n i hi x.ks[i] rfl hk hPR hn hr hf (hT.below hb) (hx.below hb) (hfo.below hb))
  have HTA := Lib.hid (show rv = (if f.x.b ≠ x.node then ((x.v, 1) : Rlv × Int) else if f.x.a = up then (if f.x.boot < x.above then (x.v, 7) else (downR p.p x.v f.x, 0)) else match kidAt x.ks f.x.a with
    | none => (x.v, 1)
    | some i => if f.x.boot < (x.ks.getD i ⟨0, 0, 0, 0⟩).b then (x.v, 7) else (upR p.p x.v i (x.ks.getD i ⟨0, 0, 0, 0⟩) f.x, 0)) by rw [← hrv]; rfl)
  clear hrv hx hT hfo hf hD hr hPR hs
  go_enter Try.func9, Try.ntmps9
  go_upto_region 1 with (first | (refine wpList_alloc_ry rfl rfl ?_) | fail)
  try simp only [alloc_size, Nat.add_assoc, Nat.reduceAdd]
  generalize (((w.alloc (.cells #[.slice p.A p.p.u.length p.c, .int .i64 p.p.q, .int .i64 p.p.r, .int .i64 p.p.b, .int .i64 p.p.l, .int .i64 p.p.w, .int .i64 p.p.c, .int .i64 p.p.k, .int .i64 p.p.i] 33)).alloc (.cells #[.int .i64 x.node, .int .i64 x.boot, .int .i64 x.above, .int .i64 x.st.s, .int .i64 x.st.t, .int .i64 x.st.p, .slice x.eA x.st.es.length x.ec, .int .i64 x.q.f, .int .i64 x.q.g, .slice x.qA x.q.os.length x.qc, .slice x.kA x.ks.length x.kc, .slice x.rA x.rs.length x.rc, .slice x.gA x.gs.length x.gc, .slice none 0 0, .slice none 0 0, .int .i64 0, .slice none 0 0, .slice none 0 0, .slice none 0 0, .slice none 0 0, .int .i64 0, .int .i64 0, .int .i64 0, .int .i64 0, .slice none 0 0, .int .i64 0] 48)).alloc (.cells #[.int .i64 f.x.a, .int .i64 f.x.b, .int .i64 f.x.boot, .int .i64 f.x.first, .slice f.oA f.x.os.length f.oc, .int .i64 f.x.pos, .slice f.rA f.x.rs.length f.rc, .int .i64 f.x.start, .slice f.eA f.x.es.length f.ec, .int .i64 f.x.ack, .int .i64 f.x.grant, .int .i64 f.x.s, .int .i64 f.x.t, .slice f.gA f.x.gs.length f.gc] 28)).alloc (.cells #[.int .i64 0, .int .i64 0, .int .i64 0, .int .i64 0, .int .i64 0, .int .i64 0, .slice none 0 0, .int .i64 0, .int .i64 0, .slice none 0 0, .slice none 0 0, .slice none 0 0, .slice none 0 0, .slice none 0 0, .slice none 0 0, .int .i64 0, .slice none 0 0, .slice none 0 0, .slice none 0 0, .slice none 0 0, .int .i64 0, .int .i64 0, .int .i64 0, .int .i64 0, .slice none 0 0, .int .i64 0] 48) = W at *
  obtain ⟨n1, h1⟩ : ∃ n1, w.heap.size = n1 := ⟨_, rfl⟩
  obtain ⟨n2, h2⟩ : ∃ n2, w.heap.size + 1 = n2 := ⟨_, rfl⟩
  obtain ⟨n3, h3⟩ : ∃ n3, w.heap.size + 2 = n3 := ⟨_, rfl⟩
  obtain ⟨n4, h4⟩ : ∃ n4, w.heap.size + 3 = n4 := ⟨_, rfl⟩
  have hw2 : w.heap.size ≤ n2 := by omega
  have hw4 : w.heap.size ≤ n4 := by omega
  have e24 : n4 ≠ n2 := by omega
  rw [h4] at hR ⊢
  rw [h3] at hM ⊢
  rw [h2] at hE ⊢
  rw [h1] at hP ⊢
  clear h1 h2 h3 h4
  have c0 : W.cell? ⟨n2, 0, none⟩ = some (.int .i64 x.node) := hE.cell 0
  go_wp2_with (first | (refine El.load pnRow rfl _ rfl n1 0 rfl p hP.at #[.slice p.A p.p.u.length p.c, .int .i64 p.p.q, .int .i64 p.p.r, .int .i64 p.p.b, .int .i64 p.p.l, .int .i64 p.p.w, .int .i64 p.p.c, .int .i64 p.p.k, .int .i64 p.p.i] rfl ?_) | fail)
  refine (CPA.out _ (HT.out.below hB)).mono ?_
  rintro e w2 ⟨rfl, hb2⟩
  replace hP := hP.below hb2
  replace hE := hE.below hb2
  replace hM := hM.below hb2
  replace hR := hR.below hb2
  replace hok := hok.below hb2
  replace hB := below_then hB hb2
  clear hb2 CPA c0
  have m0 : w2.cell? ⟨n3, 0, none⟩ = some (.int .i64 f.x.a) := hM.cell 0
  obtain ⟨fa, hfa⟩ : ∃ fa, (f.x.a == up) = fa := ⟨_, rfl⟩
  have hfa2 : decide (f.x.a = up) = fa := hfa
  go_wp2_with (first | (refine El.load ryRow rfl _ rfl n2 0 rfl x hE.at #[.int .i64 x.node, .int .i64 x.boot, .int .i64 x.above, .int .i64 x.st.s, .int .i64 x.st.t, .int .i64 x.st.p, .slice x.eA x.st.es.length x.ec, .int .i64 x.q.f, .int .i64 x.q.g, .slice x.qA x.q.os.length x.qc, .slice x.kA x.ks.length x.kc, .slice x.rA x.rs.length x.rc, .slice x.gA x.gs.length x.gc, .slice none 0 0, .slice none 0 0, .int .i64 0, .slice none 0 0, .slice none 0 0, .slice none 0 0, .slice none 0 0, .int .i64 0, .int .i64 0, .int .i64 0, .int .i64 0, .slice none 0 0, .int .i64 0] rfl ?_) | fail)
  refine (CKD.out _ hok).mono ?_
  rintro e w3 ⟨rfl, hb3⟩
  replace hP := hP.below hb3
  replace hE := hE.below hb3
  replace hM := hM.below hb3
  replace hR := hR.below hb3
  replace hok := hok.below hb3
  replace hB := below_then hB hb3
  clear hb3 CKD m0
  have m1 : w3.cell? ⟨n3, 1, none⟩ = some (.int .i64 f.x.b) := hM.cell 1
  have c0 : w3.cell? ⟨n2, 0, none⟩ = some (.int .i64 x.node) := hE.cell 0
  have HFA := Lib.hid hfa2
  clear hfa hfa2
  by_cases hb : f.x.b = x.node
  · have f4 : (f.x.b != x.node) = false := by simp [hb]
    have f5 : decide (f.x.b = x.node) = true := decide_eq_true hb
    have f6 : (f.x.b == x.node) = true := beq_iff_eq.2 hb
    have HBN := Lib.hid (show ¬ f.x.b ≠ x.node from fun e => e hb)
    clear hb
    cases fa with
    | true =>
      have HA := Lib.hid (of_decide_eq_true HFA.out)
      go_upto_region 7 with fail
      have m2 : w3.cell? ⟨n3, 2, none⟩ = some (.int .i64 f.x.boot) := hM.cell 2
      have c2 : w3.cell? ⟨n2, 2, none⟩ = some (.int .i64 x.above) := hE.cell 2
      by_cases hbt : f.x.boot < x.above
      · have f7 : decide (f.x.boot < x.above) = true := decide_eq_true hbt
        have HV2 := Lib.hid (show rv = (x.v, 7) by rw [HTA.out, if_neg HBN.out, if_pos HA.out, if_pos hbt])
        clear hbt m1 c0
        go_quiet (fail)
        replace hP : pnE.In (w3.drewN nq) n1 p := hP
        replace hE : ryE.In (w3.drewN nq) n2 x := hE
        replace hM : frE.In (w3.drewN nq) n3 f := hM
        replace hR : ryE.In (w3.drewN nq) n4 Rlw.zero := hR
        replace hok := hok.below (below_drew (Below.refl w3.heap.size w3) nq)
        replace hB := below_drew hB nq
        try clear c2
        try clear c10 k3 hxk
        clear m2
        generalize w3.drewN nq = w5 at *
        go_wp2_with (first | (refine El.load ryRow rfl _ rfl n2 0 rfl x hE.at #[.int .i64 x.node, .int .i64 x.boot, .int .i64 x.above, .int .i64 x.st.s, .int .i64 x.st.t, .int .i64 x.st.p, .slice x.eA x.st.es.length x.ec, .int .i64 x.q.f, .int .i64 x.q.g, .slice x.qA x.q.os.length x.qc, .slice x.kA x.ks.length x.kc, .slice x.rA x.rs.length x.rc, .slice x.gA x.gs.length x.gc, .slice none 0 0, .slice none 0 0, .int .i64 0, .slice none 0 0, .slice none 0 0, .slice none 0 0, .slice none 0 0, .int .i64 0, .int .i64 0, .int .i64 0, .int .i64 0, .slice none 0 0, .int .i64 0] rfl ?_) | (refine El.store ryRow rfl _ _ rfl n4 x #[.int .i64 x.node, .int .i64 x.boot, .int .i64 x.above, .int .i64 x.st.s, .int .i64 x.st.t, .int .i64 x.st.p, .slice x.eA x.st.es.length x.ec, .int .i64 x.q.f, .int .i64 x.q.g, .slice x.qA x.q.os.length x.qc, .slice x.kA x.ks.length x.kc, .slice x.rA x.rs.length x.rc, .slice x.gA x.gs.length x.gc, .slice none 0 0, .slice none 0 0, .int .i64 0, .slice none 0 0, .slice none 0 0, .slice none 0 0, .slice none 0 0, .int .i64 0, .int .i64 0, .int .i64 0, .int .i64 0, .slice none 0 0, .int .i64 0] rfl rfl rfl Rlw.zero hR ?_) | fail)
        refine El.ret2 ryRow (hR.set x _ rfl) rfl rfl rfl rfl _ rfl ?_
        exact ⟨x, _, rfl, Rlw.ok.keepB hok hR (by_row _ _ _), HV2.out, below_setRow hB hw4 _⟩
      · have f7 : decide (f.x.boot < x.above) = false := decide_eq_false hbt
        have HVV := Lib.hid (show rv = ({ lowR p.p x.v f.x with gs := pruneG (lowR p.p x.v f.x).rs (lowR p.p x.v f.x).gs }, 0) by rw [HTA.out, if_neg HBN.out, if_pos HA.out, if_neg hbt, downR_low])
        have HLB := Lib.hid (show (lowR p.p x.v f.x).gs.length ≤ 20 ∧ (lowR p.p x.v f.x).rs.length ≤ 20 from ⟨by
          have h := gifs_len p.p.u x.node f.x.gs x.gs
          have h2 : x.gs.length ≤ 12 := HL.out.2.2.2.2
          have h3 := HF.out.e
          show (f.x.gs.foldl (gifStep p.p.u x.node) x.gs).length ≤ 20
          omega, Nat.le_trans HL.out.2.2.2.1 (by omega)⟩)
        clear hbt m1 c0
        go_quiet (fail)
        replace hP : pnE.In (w3.drewN nq) n1 p := hP
        replace hE : ryE.In (w3.drewN nq) n2 x := hE
        replace hM : frE.In (w3.drewN nq) n3 f := hM
        replace hR : ryE.In (w3.drewN nq) n4 Rlw.zero := hR
        replace hok := hok.below (below_drew (Below.refl w3.heap.size w3) nq)
        replace hB := below_drew hB nq
        try clear c2
        try clear c10 k3 hxk
        clear m2
        generalize w3.drewN nq = w5 at *
        go_wp2_with (first | (refine El.load pnRow rfl _ rfl n1 0 rfl p hP.at #[.slice p.A p.p.u.length p.c, .int .i64 p.p.q, .int .i64 p.p.r, .int .i64 p.p.b, .int .i64 p.p.l, .int .i64 p.p.w, .int .i64 p.p.c, .int .i64 p.p.k, .int .i64 p.p.i] rfl ?_) | (refine El.load ryRow rfl _ rfl n2 0 rfl x hE.at #[.int .i64 x.node, .int .i64 x.boot, .int .i64 x.above, .int .i64 x.st.s, .int .i64 x.st.t, .int .i64 x.st.p, .slice x.eA x.st.es.length x.ec, .int .i64 x.q.f, .int .i64 x.q.g, .slice x.qA x.q.os.length x.qc, .slice x.kA x.ks.length x.kc, .slice x.rA x.rs.length x.rc, .slice x.gA x.gs.length x.gc, .slice none 0 0, .slice none 0 0, .int .i64 0, .slice none 0 0, .slice none 0 0, .slice none 0 0, .slice none 0 0, .int .i64 0, .int .i64 0, .int .i64 0, .int .i64 0, .slice none 0 0, .int .i64 0] rfl ?_) | (refine El.load frRow rfl _ rfl n3 0 rfl f hM.at #[.int .i64 f.x.a, .int .i64 f.x.b, .int .i64 f.x.boot, .int .i64 f.x.first, .slice f.oA f.x.os.length f.oc, .int .i64 f.x.pos, .slice f.rA f.x.rs.length f.rc, .int .i64 f.x.start, .slice f.eA f.x.es.length f.ec, .int .i64 f.x.ack, .int .i64 f.x.grant, .int .i64 f.x.s, .int .i64 f.x.t, .slice f.gA f.x.gs.length f.gc] rfl ?_) | fail)
        refine (CLO.out _ hB).mono ?_
        rintro e w7 ⟨y, rfl, hy, hyv, hb7⟩
        replace hE := hE.below hb7
        replace hR := hR.below hb7
        replace hB := below_then hB hb7
        have HYV := Lib.hid hyv
        clear hb7 hok hyv
        go_upto_region 11 with (first | (refine El.store ryRow rfl _ _ rfl n2 y #[.int .i64 y.node, .int .i64 y.boot, .int .i64 y.above, .int .i64 y.st.s, .int .i64 y.st.t, .int .i64 y.st.p, .slice y.eA y.st.es.length y.ec, .int .i64 y.q.f, .int .i64 y.q.g, .slice y.qA y.q.os.length y.qc, .slice y.kA y.ks.length y.kc, .slice y.rA y.rs.length y.rc, .slice y.gA y.gs.length y.gc, .slice none 0 0, .slice none 0 0, .int .i64 0, .slice none 0 0, .slice none 0 0, .slice none 0 0, .slice none 0 0, .int .i64 0, .int .i64 0, .int .i64 0, .int .i64 0, .slice none 0 0, .int .i64 0] rfl rfl rfl x hE ?_) | fail)
        have hgr := by_row w7 n2 #[.int .i64 y.node, .int .i64 y.boot, .int .i64 y.above, .int .i64 y.st.s, .int .i64 y.st.t, .int .i64 y.st.p, .slice y.eA y.st.es.length y.ec, .int .i64 y.q.f, .int .i64 y.q.g, .slice y.qA y.q.os.length y.qc, .slice y.kA y.ks.length y.kc, .slice y.rA y.rs.length y.rc, .slice y.gA y.gs.length y.gc, .slice none 0 0, .slice none 0 0, .int .i64 0, .slice none 0 0, .slice none 0 0, .slice none 0 0, .slice none 0 0, .int .i64 0, .int .i64 0, .int .i64 0, .int .i64 0, .slice none 0 0, .int .i64 0]
        have hok := hy.keepB hE hgr
        replace hR := hR.rowN n2 #[.int .i64 y.node, .int .i64 y.boot, .int .i64 y.above, .int .i64 y.st.s, .int .i64 y.st.t, .int .i64 y.st.p, .slice y.eA y.st.es.length y.ec, .int .i64 y.q.f, .int .i64 y.q.g, .slice y.qA y.q.os.length y.qc, .slice y.kA y.ks.length y.kc, .slice y.rA y.rs.length y.rc, .slice y.gA y.gs.length y.gc, .slice none 0 0, .slice none 0 0, .int .i64 0, .slice none 0 0, .slice none 0 0, .slice none 0 0, .slice none 0 0, .int .i64 0, .int .i64 0, .int .i64 0, .int .i64 0, .slice none 0 0, .int .i64 0] e24
        replace hB := below_setRow hB hw2 #[.int .i64 y.node, .int .i64 y.boot, .int .i64 y.above, .int .i64 y.st.s, .int .i64 y.st.t, .int .i64 y.st.p, .slice y.eA y.st.es.length y.ec, .int .i64 y.q.f, .int .i64 y.q.g, .slice y.qA y.q.os.length y.qc, .slice y.kA y.ks.length y.kc, .slice y.rA y.rs.length y.rc, .slice y.gA y.gs.length y.gc, .slice none 0 0, .slice none 0 0, .int .i64 0, .slice none 0 0, .slice none 0 0, .slice none 0 0, .slice none 0 0, .int .i64 0, .int .i64 0, .int .i64 0, .int .i64 0, .slice none 0 0, .int .i64 0]
        replace hE := hE.set y #[.int .i64 y.node, .int .i64 y.boot, .int .i64 y.above, .int .i64 y.st.s, .int .i64 y.st.t, .int .i64 y.st.p, .slice y.eA y.st.es.length y.ec, .int .i64 y.q.f, .int .i64 y.q.g, .slice y.qA y.q.os.length y.qc, .slice y.kA y.ks.length y.kc, .slice y.rA y.rs.length y.rc, .slice y.gA y.gs.length y.gc, .slice none 0 0, .slice none 0 0, .int .i64 0, .slice none 0 0, .slice none 0 0, .slice none 0 0, .slice none 0 0, .int .i64 0, .int .i64 0, .int .i64 0, .int .i64 0, .slice none 0 0, .int .i64 0] rfl
        clear hgr hy
        generalize w7.setRow n2 #[.int .i64 y.node, .int .i64 y.boot, .int .i64 y.above, .int .i64 y.st.s, .int .i64 y.st.t, .int .i64 y.st.p, .slice y.eA y.st.es.length y.ec, .int .i64 y.q.f, .int .i64 y.q.g, .slice y.qA y.q.os.length y.qc, .slice y.kA y.ks.length y.kc, .slice y.rA y.rs.length y.rc, .slice y.gA y.gs.length y.gc, .slice none 0 0, .slice none 0 0, .int .i64 0, .slice none 0 0, .slice none 0 0, .slice none 0 0, .slice none 0 0, .int .i64 0, .int .i64 0, .int .i64 0, .int .i64 0, .slice none 0 0, .int .i64 0] = w8 at *
        have c12 : w8.cell? ⟨n2, 12, none⟩ = some (.slice y.gA y.gs.length y.gc) := hE.cell 12
        have c11 : w8.cell? ⟨n2, 11, none⟩ = some (.slice y.rA y.rs.length y.rc) := hE.cell 11
        have CWD := wanted19_any y.gA y.gc y.gs y.rA y.rc y.rs w8 (by have h := HLB.out; rw [← HYV.out] at h; have h2 : y.gs.length ≤ 20 := h.1; omega) (by have h := HLB.out; rw [← HYV.out] at h; have h2 : y.rs.length ≤ 20 := h.2; omega) hok.g hok.r
        obtain ⟨G, hG⟩ : ∃ G, pruneG y.rs y.gs = G := ⟨_, rfl⟩
        rw [hG] at CWD
        have HG := Lib.hid hG
        clear hG
        go_wp2_with fail
        refine CWD.mono ?_
        rintro e w9 ⟨A', c', rfl, hS, hb9⟩
        replace hE := hE.below hb9
        replace hok := hok.below hb9
        replace hR := hR.below hb9
        replace hB := below_then hB hb9
        clear hb9 CWD c12 c11
        have c12 : w9.cell? ⟨n2, 12, none⟩ = some (.slice y.gA y.gs.length y.gc) := hE.cell 12
        have qf := hE.frozen
        go_upto_region 12 with fail
        clear c12 qf
        have hg1 := by_cell w9 n2 12 (.slice A' G.length c')
        have hok1 : (gW y A' c' G).ok w9 := ⟨hok.e, hok.q, hok.k, hok.t, hok.r, hS⟩
        have hok2 := hok1.keepB hE hg1
        replace hE := hE.put (gW y A' c' G) 12 (.slice A' G.length c') rfl
        replace hR := hR.other n2 12 (.slice A' G.length c') e24
        replace hB := Below.setCell hB (p := ⟨n2, 12, none⟩) hw2 (.slice A' G.length c')
        clear hg1 hok1 hok
        generalize w9.setCell ⟨n2, 12, none⟩ (.slice A' G.length c') = w10 at *
        obtain ⟨Z, hZ⟩ : ∃ Z, gW y A' c' G = Z := ⟨_, rfl⟩
        have HV2 := Lib.hid (show rv = (Z.v, 0) by
          rw [HVV.out, ← hZ, ← HYV.out]
          show (({ y.v with gs := pruneG y.rs y.gs } : Rlv), (0 : Int)) = (({ y.v with gs := G } : Rlv), 0)
          rw [HG.out])
        rw [hZ] at hE hok2
        have hok := hok2
        clear hZ hok2 hS
        go_wp2_with (first | (refine El.load ryRow rfl _ rfl n2 0 rfl Z hE.at #[.int .i64 Z.node, .int .i64 Z.boot, .int .i64 Z.above, .int .i64 Z.st.s, .int .i64 Z.st.t, .int .i64 Z.st.p, .slice Z.eA Z.st.es.length Z.ec, .int .i64 Z.q.f, .int .i64 Z.q.g, .slice Z.qA Z.q.os.length Z.qc, .slice Z.kA Z.ks.length Z.kc, .slice Z.rA Z.rs.length Z.rc, .slice Z.gA Z.gs.length Z.gc, .slice none 0 0, .slice none 0 0, .int .i64 0, .slice none 0 0, .slice none 0 0, .slice none 0 0, .slice none 0 0, .int .i64 0, .int .i64 0, .int .i64 0, .int .i64 0, .slice none 0 0, .int .i64 0] rfl ?_) | (refine El.store ryRow rfl _ _ rfl n4 Z #[.int .i64 Z.node, .int .i64 Z.boot, .int .i64 Z.above, .int .i64 Z.st.s, .int .i64 Z.st.t, .int .i64 Z.st.p, .slice Z.eA Z.st.es.length Z.ec, .int .i64 Z.q.f, .int .i64 Z.q.g, .slice Z.qA Z.q.os.length Z.qc, .slice Z.kA Z.ks.length Z.kc, .slice Z.rA Z.rs.length Z.rc, .slice Z.gA Z.gs.length Z.gc, .slice none 0 0, .slice none 0 0, .int .i64 0, .slice none 0 0, .slice none 0 0, .slice none 0 0, .slice none 0 0, .int .i64 0, .int .i64 0, .int .i64 0, .int .i64 0, .slice none 0 0, .int .i64 0] rfl rfl rfl Rlw.zero hR ?_) | fail)
        refine El.ret2 ryRow (hR.set Z _ rfl) rfl rfl rfl rfl _ rfl ?_
        exact ⟨Z, _, rfl, Rlw.ok.keepB hok hR (by_row _ _ _), HV2.out, below_setRow hB hw4 _⟩
    | false =>
      have HA := Lib.hid (of_decide_eq_false HFA.out)
      cases hk : kidAt x.ks f.x.a with
      | none =>
        have hki : kidI x.ks f.x.a = -1 := by unfold kidI; rw [hk]
        have HV2 := Lib.hid (show rv = (x.v, 1) by rw [HTA.out, if_neg HBN.out, if_neg HA.out, hk])
        rw [hki]
        clear hk hki
        go_wp2_with (first | (refine El.load ryRow rfl _ rfl n2 0 rfl x hE.at #[.int .i64 x.node, .int .i64 x.boot, .int .i64 x.above, .int .i64 x.st.s, .int .i64 x.st.t, .int .i64 x.st.p, .slice x.eA x.st.es.length x.ec, .int .i64 x.q.f, .int .i64 x.q.g, .slice x.qA x.q.os.length x.qc, .slice x.kA x.ks.length x.kc, .slice x.rA x.rs.length x.rc, .slice x.gA x.gs.length x.gc, .slice none 0 0, .slice none 0 0, .int .i64 0, .slice none 0 0, .slice none 0 0, .slice none 0 0, .slice none 0 0, .int .i64 0, .int .i64 0, .int .i64 0, .int .i64 0, .slice none 0 0, .int .i64 0] rfl ?_) | (refine El.store ryRow rfl _ _ rfl n4 x #[.int .i64 x.node, .int .i64 x.boot, .int .i64 x.above, .int .i64 x.st.s, .int .i64 x.st.t, .int .i64 x.st.p, .slice x.eA x.st.es.length x.ec, .int .i64 x.q.f, .int .i64 x.q.g, .slice x.qA x.q.os.length x.qc, .slice x.kA x.ks.length x.kc, .slice x.rA x.rs.length x.rc, .slice x.gA x.gs.length x.gc, .slice none 0 0, .slice none 0 0, .int .i64 0, .slice none 0 0, .slice none 0 0, .slice none 0 0, .slice none 0 0, .int .i64 0, .int .i64 0, .int .i64 0, .int .i64 0, .slice none 0 0, .int .i64 0] rfl rfl rfl Rlw.zero hR ?_) | fail)
        refine El.ret2 ryRow (hR.set x _ rfl) rfl rfl rfl rfl _ rfl ?_
        exact ⟨x, _, rfl, Rlw.ok.keepB hok hR (by_row _ _ _), HV2.out, below_setRow hB hw4 _⟩
      | some i =>
        have hki : kidI x.ks f.x.a = (i : Int) := by unfold kidI; rw [hk]
        obtain ⟨hi, hin⟩ := kidAt_some hk
        have hgd : x.ks.getD i ⟨0, 0, 0, 0⟩ = x.ks[i] := by rw [List.getD_eq_getElem?_getD, List.getElem?_eq_getElem hi]; rfl
        have HTB := Lib.hid (show rv = if f.x.boot < x.ks[i].b then (x.v, 7) else (upR p.p x.v i x.ks[i] f.x, 0) by
          rw [HTA.out, if_neg HBN.out, if_neg HA.out, hk]
          dsimp only
          rw [hgd])
        have CR := Lib.hid (CRA.out i hi hin)
        have HKE := Lib.hid hin
        rw [hki]
        have i0 : decide ((i : Int) < 0) = false := decide_eq_false (by omega)
        clear hk hki hgd CRA hin
        go_upto_region 7 with fail
        obtain ⟨K, hK⟩ : ∃ K, x.ks[i] = K := ⟨_, rfl⟩
        rw [hK] at CR HTB HKE
        have m2 : w3.cell? ⟨n3, 2, none⟩ = some (.int .i64 f.x.boot) := hM.cell 2
        have c10 : w3.cell? ⟨n2, 10, none⟩ = some (.slice x.kA x.ks.length x.kc) := hE.cell 10
        obtain ⟨bk, ok, eK, hbk, hck⟩ := hok.k.1 (by omega)
        have hatk : kinE.At w3 bk (ok + i * 4) K := by
          have h := hck i hi
          rw [hK] at h; exact h
        have k3 : w3.cell? ⟨bk, ok + i * 4 + 3, none⟩ = some (.int .i64 K.b) := hatk 3 _ rfl
        have hxk := kinIdxH (cap := x.kc) eK hi
        have HRR := Lib.hid (fun (y : Rlv) (hy : y = raiR p.p x.v i K f.x) => (show (y.gs.length ≤ 20 ∧ y.rs.length ≤ 20) by
          rw [hy]
          have h := reps_len p.p.u f.x.a f.x.rs x.rs
          have h2 : x.rs.length ≤ 12 := HL.out.2.2.2.1
          have h3 := HF.out.e
          refine ⟨Nat.le_trans HL.out.2.2.2.2 (by omega), ?_⟩
          show (f.x.rs.foldl (repStep p.p.u f.x.a) x.rs).length ≤ 20
          omega))
        clear hck hatk hK m1 c0
        by_cases hbt : f.x.boot < K.b
        · have f7 : decide (f.x.boot < K.b) = true := decide_eq_true hbt
          have HV2 := Lib.hid (show rv = (x.v, 7) by rw [HTB.out, if_pos hbt])
          clear hbt eK
          go_quiet (fail)
          replace hP : pnE.In (w3.drewN nq) n1 p := hP
          replace hE : ryE.In (w3.drewN nq) n2 x := hE
          replace hM : frE.In (w3.drewN nq) n3 f := hM
          replace hR : ryE.In (w3.drewN nq) n4 Rlw.zero := hR
          replace hok := hok.below (below_drew (Below.refl w3.heap.size w3) nq)
          replace hB := below_drew hB nq
          try clear c2
          try clear c10 k3 hxk
          clear m2
          generalize w3.drewN nq = w5 at *
          go_wp2_with (first | (refine El.load ryRow rfl _ rfl n2 0 rfl x hE.at #[.int .i64 x.node, .int .i64 x.boot, .int .i64 x.above, .int .i64 x.st.s, .int .i64 x.st.t, .int .i64 x.st.p, .slice x.eA x.st.es.length x.ec, .int .i64 x.q.f, .int .i64 x.q.g, .slice x.qA x.q.os.length x.qc, .slice x.kA x.ks.length x.kc, .slice x.rA x.rs.length x.rc, .slice x.gA x.gs.length x.gc, .slice none 0 0, .slice none 0 0, .int .i64 0, .slice none 0 0, .slice none 0 0, .slice none 0 0, .slice none 0 0, .int .i64 0, .int .i64 0, .int .i64 0, .int .i64 0, .slice none 0 0, .int .i64 0] rfl ?_) | (refine El.store ryRow rfl _ _ rfl n4 x #[.int .i64 x.node, .int .i64 x.boot, .int .i64 x.above, .int .i64 x.st.s, .int .i64 x.st.t, .int .i64 x.st.p, .slice x.eA x.st.es.length x.ec, .int .i64 x.q.f, .int .i64 x.q.g, .slice x.qA x.q.os.length x.qc, .slice x.kA x.ks.length x.kc, .slice x.rA x.rs.length x.rc, .slice x.gA x.gs.length x.gc, .slice none 0 0, .slice none 0 0, .int .i64 0, .slice none 0 0, .slice none 0 0, .slice none 0 0, .slice none 0 0, .int .i64 0, .int .i64 0, .int .i64 0, .int .i64 0, .slice none 0 0, .int .i64 0] rfl rfl rfl Rlw.zero hR ?_) | fail)
          refine El.ret2 ryRow (hR.set x _ rfl) rfl rfl rfl rfl _ rfl ?_
          exact ⟨x, _, rfl, Rlw.ok.keepB hok hR (by_row _ _ _), HV2.out, below_setRow hB hw4 _⟩
        · have f7 : decide (f.x.boot < K.b) = false := decide_eq_false hbt
          have HVV := Lib.hid (show rv = ({ raiR p.p x.v i K f.x with gs := pruneG (raiR p.p x.v i K f.x).rs (raiR p.p x.v i K f.x).gs }, 0) by rw [HTB.out, if_neg hbt, upR_rai])
          have HLB := Lib.hid (HRR.out _ rfl)
          clear hbt eK
          go_quiet (fail)
          replace hP : pnE.In (w3.drewN nq) n1 p := hP
          replace hE : ryE.In (w3.drewN nq) n2 x := hE
          replace hM : frE.In (w3.drewN nq) n3 f := hM
          replace hR : ryE.In (w3.drewN nq) n4 Rlw.zero := hR
          replace hok := hok.below (below_drew (Below.refl w3.heap.size w3) nq)
          replace hB := below_drew hB nq
          try clear c2
          try clear c10 k3 hxk
          clear m2
          generalize w3.drewN nq = w5 at *
          go_wp2_with (first | (refine El.load pnRow rfl _ rfl n1 0 rfl p hP.at #[.slice p.A p.p.u.length p.c, .int .i64 p.p.q, .int .i64 p.p.r, .int .i64 p.p.b, .int .i64 p.p.l, .int .i64 p.p.w, .int .i64 p.p.c, .int .i64 p.p.k, .int .i64 p.p.i] rfl ?_) | (refine El.load ryRow rfl _ rfl n2 0 rfl x hE.at #[.int .i64 x.node, .int .i64 x.boot, .int .i64 x.above, .int .i64 x.st.s, .int .i64 x.st.t, .int .i64 x.st.p, .slice x.eA x.st.es.length x.ec, .int .i64 x.q.f, .int .i64 x.q.g, .slice x.qA x.q.os.length x.qc, .slice x.kA x.ks.length x.kc, .slice x.rA x.rs.length x.rc, .slice x.gA x.gs.length x.gc, .slice none 0 0, .slice none 0 0, .int .i64 0, .slice none 0 0, .slice none 0 0, .slice none 0 0, .slice none 0 0, .int .i64 0, .int .i64 0, .int .i64 0, .int .i64 0, .slice none 0 0, .int .i64 0] rfl ?_) | (refine El.load frRow rfl _ rfl n3 0 rfl f hM.at #[.int .i64 f.x.a, .int .i64 f.x.b, .int .i64 f.x.boot, .int .i64 f.x.first, .slice f.oA f.x.os.length f.oc, .int .i64 f.x.pos, .slice f.rA f.x.rs.length f.rc, .int .i64 f.x.start, .slice f.eA f.x.es.length f.ec, .int .i64 f.x.ack, .int .i64 f.x.grant, .int .i64 f.x.s, .int .i64 f.x.t, .slice f.gA f.x.gs.length f.gc] rfl ?_) | fail)
          refine (CR.out _ hB).mono ?_
          rintro e w7 ⟨y, rfl, hy, hyv, hb7⟩
          replace hE := hE.below hb7
          replace hR := hR.below hb7
          replace hB := below_then hB hb7
          have HYV := Lib.hid hyv
          clear hb7 hok hyv
          go_upto_region 11 with (first | (refine El.store ryRow rfl _ _ rfl n2 y #[.int .i64 y.node, .int .i64 y.boot, .int .i64 y.above, .int .i64 y.st.s, .int .i64 y.st.t, .int .i64 y.st.p, .slice y.eA y.st.es.length y.ec, .int .i64 y.q.f, .int .i64 y.q.g, .slice y.qA y.q.os.length y.qc, .slice y.kA y.ks.length y.kc, .slice y.rA y.rs.length y.rc, .slice y.gA y.gs.length y.gc, .slice none 0 0, .slice none 0 0, .int .i64 0, .slice none 0 0, .slice none 0 0, .slice none 0 0, .slice none 0 0, .int .i64 0, .int .i64 0, .int .i64 0, .int .i64 0, .slice none 0 0, .int .i64 0] rfl rfl rfl x hE ?_) | fail)
          have hgr := by_row w7 n2 #[.int .i64 y.node, .int .i64 y.boot, .int .i64 y.above, .int .i64 y.st.s, .int .i64 y.st.t, .int .i64 y.st.p, .slice y.eA y.st.es.length y.ec, .int .i64 y.q.f, .int .i64 y.q.g, .slice y.qA y.q.os.length y.qc, .slice y.kA y.ks.length y.kc, .slice y.rA y.rs.length y.rc, .slice y.gA y.gs.length y.gc, .slice none 0 0, .slice none 0 0, .int .i64 0, .slice none 0 0, .slice none 0 0, .slice none 0 0, .slice none 0 0, .int .i64 0, .int .i64 0, .int .i64 0, .int .i64 0, .slice none 0 0, .int .i64 0]
          have hok := hy.keepB hE hgr
          replace hR := hR.rowN n2 #[.int .i64 y.node, .int .i64 y.boot, .int .i64 y.above, .int .i64 y.st.s, .int .i64 y.st.t, .int .i64 y.st.p, .slice y.eA y.st.es.length y.ec, .int .i64 y.q.f, .int .i64 y.q.g, .slice y.qA y.q.os.length y.qc, .slice y.kA y.ks.length y.kc, .slice y.rA y.rs.length y.rc, .slice y.gA y.gs.length y.gc, .slice none 0 0, .slice none 0 0, .int .i64 0, .slice none 0 0, .slice none 0 0, .slice none 0 0, .slice none 0 0, .int .i64 0, .int .i64 0, .int .i64 0, .int .i64 0, .slice none 0 0, .int .i64 0] e24
          replace hB := below_setRow hB hw2 #[.int .i64 y.node, .int .i64 y.boot, .int .i64 y.above, .int .i64 y.st.s, .int .i64 y.st.t, .int .i64 y.st.p, .slice y.eA y.st.es.length y.ec, .int .i64 y.q.f, .int .i64 y.q.g, .slice y.qA y.q.os.length y.qc, .slice y.kA y.ks.length y.kc, .slice y.rA y.rs.length y.rc, .slice y.gA y.gs.length y.gc, .slice none 0 0, .slice none 0 0, .int .i64 0, .slice none 0 0, .slice none 0 0, .slice none 0 0, .slice none 0 0, .int .i64 0, .int .i64 0, .int .i64 0, .int .i64 0, .slice none 0 0, .int .i64 0]
          replace hE := hE.set y #[.int .i64 y.node, .int .i64 y.boot, .int .i64 y.above, .int .i64 y.st.s, .int .i64 y.st.t, .int .i64 y.st.p, .slice y.eA y.st.es.length y.ec, .int .i64 y.q.f, .int .i64 y.q.g, .slice y.qA y.q.os.length y.qc, .slice y.kA y.ks.length y.kc, .slice y.rA y.rs.length y.rc, .slice y.gA y.gs.length y.gc, .slice none 0 0, .slice none 0 0, .int .i64 0, .slice none 0 0, .slice none 0 0, .slice none 0 0, .slice none 0 0, .int .i64 0, .int .i64 0, .int .i64 0, .int .i64 0, .slice none 0 0, .int .i64 0] rfl
          clear hgr hy
          generalize w7.setRow n2 #[.int .i64 y.node, .int .i64 y.boot, .int .i64 y.above, .int .i64 y.st.s, .int .i64 y.st.t, .int .i64 y.st.p, .slice y.eA y.st.es.length y.ec, .int .i64 y.q.f, .int .i64 y.q.g, .slice y.qA y.q.os.length y.qc, .slice y.kA y.ks.length y.kc, .slice y.rA y.rs.length y.rc, .slice y.gA y.gs.length y.gc, .slice none 0 0, .slice none 0 0, .int .i64 0, .slice none 0 0, .slice none 0 0, .slice none 0 0, .slice none 0 0, .int .i64 0, .int .i64 0, .int .i64 0, .int .i64 0, .slice none 0 0, .int .i64 0] = w8 at *
          have c12 : w8.cell? ⟨n2, 12, none⟩ = some (.slice y.gA y.gs.length y.gc) := hE.cell 12
          have c11 : w8.cell? ⟨n2, 11, none⟩ = some (.slice y.rA y.rs.length y.rc) := hE.cell 11
          have CWD := wanted19_any y.gA y.gc y.gs y.rA y.rc y.rs w8 (by have h := HLB.out; rw [← HYV.out] at h; have h2 : y.gs.length ≤ 20 := h.1; omega) (by have h := HLB.out; rw [← HYV.out] at h; have h2 : y.rs.length ≤ 20 := h.2; omega) hok.g hok.r
          obtain ⟨G, hG⟩ : ∃ G, pruneG y.rs y.gs = G := ⟨_, rfl⟩
          rw [hG] at CWD
          have HG := Lib.hid hG
          clear hG
          go_wp2_with fail
          refine CWD.mono ?_
          rintro e w9 ⟨A', c', rfl, hS, hb9⟩
          replace hE := hE.below hb9
          replace hok := hok.below hb9
          replace hR := hR.below hb9
          replace hB := below_then hB hb9
          clear hb9 CWD c12 c11
          have c12 : w9.cell? ⟨n2, 12, none⟩ = some (.slice y.gA y.gs.length y.gc) := hE.cell 12
          have qf := hE.frozen
          go_upto_region 12 with fail
          clear c12 qf
          have hg1 := by_cell w9 n2 12 (.slice A' G.length c')
          have hok1 : (gW y A' c' G).ok w9 := ⟨hok.e, hok.q, hok.k, hok.t, hok.r, hS⟩
          have hok2 := hok1.keepB hE hg1
          replace hE := hE.put (gW y A' c' G) 12 (.slice A' G.length c') rfl
          replace hR := hR.other n2 12 (.slice A' G.length c') e24
          replace hB := Below.setCell hB (p := ⟨n2, 12, none⟩) hw2 (.slice A' G.length c')
          clear hg1 hok1 hok
          generalize w9.setCell ⟨n2, 12, none⟩ (.slice A' G.length c') = w10 at *
          obtain ⟨Z, hZ⟩ : ∃ Z, gW y A' c' G = Z := ⟨_, rfl⟩
          have HV2 := Lib.hid (show rv = (Z.v, 0) by
            rw [HVV.out, ← hZ, ← HYV.out]
            show (({ y.v with gs := pruneG y.rs y.gs } : Rlv), (0 : Int)) = (({ y.v with gs := G } : Rlv), 0)
            rw [HG.out])
          rw [hZ] at hE hok2
          have hok := hok2
          clear hZ hok2 hS
          go_wp2_with (first | (refine El.load ryRow rfl _ rfl n2 0 rfl Z hE.at #[.int .i64 Z.node, .int .i64 Z.boot, .int .i64 Z.above, .int .i64 Z.st.s, .int .i64 Z.st.t, .int .i64 Z.st.p, .slice Z.eA Z.st.es.length Z.ec, .int .i64 Z.q.f, .int .i64 Z.q.g, .slice Z.qA Z.q.os.length Z.qc, .slice Z.kA Z.ks.length Z.kc, .slice Z.rA Z.rs.length Z.rc, .slice Z.gA Z.gs.length Z.gc, .slice none 0 0, .slice none 0 0, .int .i64 0, .slice none 0 0, .slice none 0 0, .slice none 0 0, .slice none 0 0, .int .i64 0, .int .i64 0, .int .i64 0, .int .i64 0, .slice none 0 0, .int .i64 0] rfl ?_) | (refine El.store ryRow rfl _ _ rfl n4 Z #[.int .i64 Z.node, .int .i64 Z.boot, .int .i64 Z.above, .int .i64 Z.st.s, .int .i64 Z.st.t, .int .i64 Z.st.p, .slice Z.eA Z.st.es.length Z.ec, .int .i64 Z.q.f, .int .i64 Z.q.g, .slice Z.qA Z.q.os.length Z.qc, .slice Z.kA Z.ks.length Z.kc, .slice Z.rA Z.rs.length Z.rc, .slice Z.gA Z.gs.length Z.gc, .slice none 0 0, .slice none 0 0, .int .i64 0, .slice none 0 0, .slice none 0 0, .slice none 0 0, .slice none 0 0, .int .i64 0, .int .i64 0, .int .i64 0, .int .i64 0, .slice none 0 0, .int .i64 0] rfl rfl rfl Rlw.zero hR ?_) | fail)
          refine El.ret2 ryRow (hR.set Z _ rfl) rfl rfl rfl rfl _ rfl ?_
          exact ⟨Z, _, rfl, Rlw.ok.keepB hok hR (by_row _ _ _), HV2.out, below_setRow hB hw4 _⟩
  · have f4 : (f.x.b != x.node) = true := bne_iff_ne.2 hb
    have f5 : decide (f.x.b = x.node) = false := decide_eq_false hb
    have f6 : (f.x.b == x.node) = false := beq_eq_false_iff_ne.2 hb
    have HV2 := Lib.hid (show rv = (x.v, 1) by rw [HTA.out, if_pos hb])
    clear hb
    go_wp2_with (first | (refine El.load ryRow rfl _ rfl n2 0 rfl x hE.at #[.int .i64 x.node, .int .i64 x.boot, .int .i64 x.above, .int .i64 x.st.s, .int .i64 x.st.t, .int .i64 x.st.p, .slice x.eA x.st.es.length x.ec, .int .i64 x.q.f, .int .i64 x.q.g, .slice x.qA x.q.os.length x.qc, .slice x.kA x.ks.length x.kc, .slice x.rA x.rs.length x.rc, .slice x.gA x.gs.length x.gc, .slice none 0 0, .slice none 0 0, .int .i64 0, .slice none 0 0, .slice none 0 0, .slice none 0 0, .slice none 0 0, .int .i64 0, .int .i64 0, .int .i64 0, .int .i64 0, .slice none 0 0, .int .i64 0] rfl ?_) | (refine El.store ryRow rfl _ _ rfl n4 x #[.int .i64 x.node, .int .i64 x.boot, .int .i64 x.above, .int .i64 x.st.s, .int .i64 x.st.t, .int .i64 x.st.p, .slice x.eA x.st.es.length x.ec, .int .i64 x.q.f, .int .i64 x.q.g, .slice x.qA x.q.os.length x.qc, .slice x.kA x.ks.length x.kc, .slice x.rA x.rs.length x.rc, .slice x.gA x.gs.length x.gc, .slice none 0 0, .slice none 0 0, .int .i64 0, .slice none 0 0, .slice none 0 0, .slice none 0 0, .slice none 0 0, .int .i64 0, .int .i64 0, .int .i64 0, .int .i64 0, .slice none 0 0, .int .i64 0] rfl rfl rfl Rlw.zero hR ?_) | fail)
    refine El.ret2 ryRow (hR.set x _ rfl) rfl rfl rfl rfl _ rfl ?_
    exact ⟨x, _, rfl, Rlw.ok.keepB hok hR (by_row _ _ _), HV2.out, below_setRow hB hw4 _⟩
end Go.Proofs.Ytnglpkfkepfkkaa

/- The program's streams: From, Lowest, Right. -/
namespace Go.Proofs.Ytnglpkfkepfkkaa
open Go.RowKit Nam Cod

theorem SlV.upTo {w : World} {A : Option Addr} {c : Nat} {l : List En} {m : Nat} (h : SlV enE w A c l) (hm : m ≤ l.length) : SlV enE w A c (l.take m) := ⟨h.1.take m, h.2.1, by rw [List.length_take]; have := h.2.2; omega⟩
theorem fromS_win {x : Sm} (place most : Int) : fromS x place most = (winL x.es (max place x.s - x.s)).take most.toNat := by
  unfold fromS winL
  by_cases c : (x.es.length : Int) < max place x.s - x.s
  · rw [if_pos (Or.inr c), List.drop_eq_nil_of_le (by omega)]
  · rw [if_neg (by omega)]
set_option maxRecDepth 100000 in
set_option maxHeartbeats 4000000 in
theorem smFromF_any (y : Sw) (place most : Int) (w : World) (hn : SmN y.x) (hpl : -1000000000000000 ≤ place ∧ place ≤ 1000000000000000) (hok : y.ok w) :
    Calls Try.prog 48 #[.agg #[.int .i64 y.x.s, .int .i64 y.x.t, .int .i64 y.x.p, .slice y.A y.x.es.length y.c], .int .i64 place, .int .i64 most] w fun r w' => ∃ (A : Option Addr) (c : Nat), r = .returned (.tuple #[.int .i64 (fromP y.x place), .slice A (fromS y.x place most).length c]) ∧ SlV enE w' A c (fromS y.x place most) ∧ Frs w.heap.size A ∧ Below w.heap.size w w' := by
  have hs := hn.s
  have HWL := Lib.hid (show (winL y.x.es (max place y.x.s - y.x.s)).length ≤ 50000 from Nat.le_trans (winL_le _ _) hn.l)
  have hv := fromS_win (x := y.x) place most
  clear hn
  obtain ⟨q, hq⟩ : ∃ q, max place y.x.s = q := ⟨_, rfl⟩
  obtain ⟨d, hd⟩ : ∃ d, q - y.x.s = d := ⟨_, rfl⟩
  rw [hq, hd] at HWL hv
  have HF := Lib.hid (show fromS y.x place most = (winL y.x.es d).take most.toNat ∧ fromP y.x place = q + 1 from ⟨hv, by unfold fromP; rw [hq]⟩)
  have f1 : IntKind.i64.wrap (q - y.x.s) = d := by rw [IntKind.wrap_i64]; omega
  clear hv
  rcases Int.lt_or_le place y.x.s with hmp | hmp
  · obtain rfl : y.x.s = q := by omega
    obtain rfl : 0 = d := by omega
    clear hd f1
    have CW := Lib.hid (fun (wx : World) (h : y.ok wx) => window_any y.A y.c y.x.es (0) wx h)
    generalize winL y.x.es (0) = W at *
    have hB1 := below_alloc (Below.refl w.heap.size w) (.cells #[.int .i64 y.x.s, .int .i64 y.x.t, .int .i64 y.x.p, .slice y.A y.x.es.length y.c] 36)
    have hok1 := hok.below hB1
    have hP : smE.In (w.alloc (.cells #[.int .i64 y.x.s, .int .i64 y.x.t, .int .i64 y.x.p, .slice y.A y.x.es.length y.c] 36)) w.heap.size y := El.In.new (E := smE) w y _ rfl
    have f2 : IntKind.i64.wrap (y.x.s + 1) = y.x.s + 1 := by rw [IntKind.wrap_i64]; omega
    clear hok
    go_enter Try.func48, Try.ntmps48
    go_wp2_with fail
    refine (CW.out _ hok1).mono ?_
    clear hok1 CW
    generalize w.alloc (.cells #[.int .i64 y.x.s, .int .i64 y.x.t, .int .i64 y.x.p, .slice y.A y.x.es.length y.c] 36) = V1 at *
    rintro r V1 ⟨A1, c1, rfl, hT1, rfl⟩
    have hlc := hT1.2.2
    rcases Int.lt_or_le most 0 with hm | hm
    · have hz : (0 : Int) ≤ (W.length : Int) := by omega
      have hz2 : (0 : Int) ≤ (c1 : Int) := by omega
      have m1 : max most 0 = 0 := by omega
      have m2 : min (0 : Int) (W.length : Int) = 0 := by omega
      obtain ⟨X, hX⟩ : ∃ X, W.take (0) = X := ⟨_, rfl⟩
      have hXl : X.length = 0 := by rw [← hX, List.length_take]; omega
      have hcut := hT1.upTo (m := 0) (by omega)
      rw [hX] at hcut
      have CC := cloneEn_any A1 c1 X V1 (by have := HWL.out; omega) hcut
      rw [hXl] at CC
      have HXL := Lib.hid hXl
      have HX := Lib.hid hX
      clear hXl hcut hT1 hX
      go_wp2_with fail
      refine CC.mono ?_
      rintro r w2 ⟨A', c', rfl, hS, hFr, hb2⟩
      have hFr2 : Frs w.heap.size A' := fun a e => Nat.le_trans hB1.size (hFr a e)
      replace hB1 := below_then hB1 hb2
      have HV := Lib.hid (show fromS y.x place (most) = X by rw [HF.out.1, ← HX.out, show most.toNat = 0 by omega])
      clear CC hb2
      go_wp2_with fail
      refine bodyPost_ret (results_tmp2 rfl _ _ _) rfl ?_
      exact ⟨A', c', by rw [HF.out.2, HV.out, HXL.out]; rfl, by rw [HV.out]; exact hS, hFr2, hB1⟩
    · obtain ⟨M, rfl⟩ : ∃ M : Nat, most = M := ⟨most.toNat, by omega⟩
      have hM0 : (0 : Int) ≤ (M : Int) := hm
      rcases Nat.lt_or_ge W.length M with hW | hW
      · have hW2 : (W.length : Int) < (M : Int) := by omega
        have hW3 : (W.length : Int) ≤ (c1 : Int) := by omega
        have m1 : max (M : Int) 0 = (M : Int) := by omega
        have m2 : min (M : Int) (W.length : Int) = (W.length : Int) := by omega
        obtain ⟨X, hX⟩ : ∃ X, W.take (W.length) = X := ⟨_, rfl⟩
        have hXl : X.length = W.length := by rw [← hX, List.length_take]; omega
        have hcut := hT1.upTo (m := W.length) (by omega)
        rw [hX] at hcut
        have CC := cloneEn_any A1 c1 X V1 (by have := HWL.out; omega) hcut
        rw [hXl] at CC
        have HXL := Lib.hid hXl
        have HX := Lib.hid hX
        clear hXl hcut hT1 hX
        go_wp2_with fail
        refine CC.mono ?_
        rintro r w2 ⟨A', c', rfl, hS, hFr, hb2⟩
        have hFr2 : Frs w.heap.size A' := fun a e => Nat.le_trans hB1.size (hFr a e)
        replace hB1 := below_then hB1 hb2
        have HV := Lib.hid (show fromS y.x place (M) = X by rw [HF.out.1, ← HX.out, List.take_length, show (M : Int).toNat = M from rfl, List.take_of_length_le (Nat.le_of_lt hW)])
        clear CC hb2
        go_wp2_with fail
        refine bodyPost_ret (results_tmp2 rfl _ _ _) rfl ?_
        exact ⟨A', c', by rw [HF.out.2, HV.out, HXL.out]; rfl, by rw [HV.out]; exact hS, hFr2, hB1⟩
      · have hW2 : (M : Int) ≤ (W.length : Int) := by omega
        have hW3 : (M : Int) ≤ (c1 : Int) := by omega
        have m1 : max (M : Int) 0 = (M : Int) := by omega
        have m2 : min (M : Int) (W.length : Int) = (M : Int) := by omega
        obtain ⟨X, hX⟩ : ∃ X, W.take (M) = X := ⟨_, rfl⟩
        have hXl : X.length = M := by rw [← hX, List.length_take]; omega
        have hcut := hT1.upTo (m := M) (by omega)
        rw [hX] at hcut
        have CC := cloneEn_any A1 c1 X V1 (by have := HWL.out; omega) hcut
        rw [hXl] at CC
        have HXL := Lib.hid hXl
        have HX := Lib.hid hX
        clear hXl hcut hT1 hX
        go_wp2_with fail
        refine CC.mono ?_
        rintro r w2 ⟨A', c', rfl, hS, hFr, hb2⟩
        have hFr2 : Frs w.heap.size A' := fun a e => Nat.le_trans hB1.size (hFr a e)
        replace hB1 := below_then hB1 hb2
        have HV := Lib.hid (show fromS y.x place (M) = X by rw [HF.out.1, ← HX.out, show (M : Int).toNat = M from rfl])
        clear CC hb2
        go_wp2_with fail
        refine bodyPost_ret (results_tmp2 rfl _ _ _) rfl ?_
        exact ⟨A', c', by rw [HF.out.2, HV.out, HXL.out]; rfl, by rw [HV.out]; exact hS, hFr2, hB1⟩
  · obtain rfl : place = q := by omega
    obtain rfl : place - y.x.s = d := by omega
    clear hd
    have CW := Lib.hid (fun (wx : World) (h : y.ok wx) => window_any y.A y.c y.x.es (place - y.x.s) wx h)
    generalize winL y.x.es (place - y.x.s) = W at *
    have hB1 := below_alloc (Below.refl w.heap.size w) (.cells #[.int .i64 y.x.s, .int .i64 y.x.t, .int .i64 y.x.p, .slice y.A y.x.es.length y.c] 36)
    have hok1 := hok.below hB1
    have hP : smE.In (w.alloc (.cells #[.int .i64 y.x.s, .int .i64 y.x.t, .int .i64 y.x.p, .slice y.A y.x.es.length y.c] 36)) w.heap.size y := El.In.new (E := smE) w y _ rfl
    have f2 : IntKind.i64.wrap (place + 1) = place + 1 := by rw [IntKind.wrap_i64]; omega
    clear hok
    go_enter Try.func48, Try.ntmps48
    go_wp2_with fail
    refine (CW.out _ hok1).mono ?_
    clear hok1 CW
    generalize w.alloc (.cells #[.int .i64 y.x.s, .int .i64 y.x.t, .int .i64 y.x.p, .slice y.A y.x.es.length y.c] 36) = V1 at *
    rintro r V1 ⟨A1, c1, rfl, hT1, rfl⟩
    have hlc := hT1.2.2
    rcases Int.lt_or_le most 0 with hm | hm
    · have hz : (0 : Int) ≤ (W.length : Int) := by omega
      have hz2 : (0 : Int) ≤ (c1 : Int) := by omega
      have m1 : max most 0 = 0 := by omega
      have m2 : min (0 : Int) (W.length : Int) = 0 := by omega
      obtain ⟨X, hX⟩ : ∃ X, W.take (0) = X := ⟨_, rfl⟩
      have hXl : X.length = 0 := by rw [← hX, List.length_take]; omega
      have hcut := hT1.upTo (m := 0) (by omega)
      rw [hX] at hcut
      have CC := cloneEn_any A1 c1 X V1 (by have := HWL.out; omega) hcut
      rw [hXl] at CC
      have HXL := Lib.hid hXl
      have HX := Lib.hid hX
      clear hXl hcut hT1 hX
      go_wp2_with fail
      refine CC.mono ?_
      rintro r w2 ⟨A', c', rfl, hS, hFr, hb2⟩
      have hFr2 : Frs w.heap.size A' := fun a e => Nat.le_trans hB1.size (hFr a e)
      replace hB1 := below_then hB1 hb2
      have HV := Lib.hid (show fromS y.x place (most) = X by rw [HF.out.1, ← HX.out, show most.toNat = 0 by omega])
      clear CC hb2
      go_wp2_with fail
      refine bodyPost_ret (results_tmp2 rfl _ _ _) rfl ?_
      exact ⟨A', c', by rw [HF.out.2, HV.out, HXL.out]; rfl, by rw [HV.out]; exact hS, hFr2, hB1⟩
    · obtain ⟨M, rfl⟩ : ∃ M : Nat, most = M := ⟨most.toNat, by omega⟩
      have hM0 : (0 : Int) ≤ (M : Int) := hm
      rcases Nat.lt_or_ge W.length M with hW | hW
      · have hW2 : (W.length : Int) < (M : Int) := by omega
        have hW3 : (W.length : Int) ≤ (c1 : Int) := by omega
        have m1 : max (M : Int) 0 = (M : Int) := by omega
        have m2 : min (M : Int) (W.length : Int) = (W.length : Int) := by omega
        obtain ⟨X, hX⟩ : ∃ X, W.take (W.length) = X := ⟨_, rfl⟩
        have hXl : X.length = W.length := by rw [← hX, List.length_take]; omega
        have hcut := hT1.upTo (m := W.length) (by omega)
        rw [hX] at hcut
        have CC := cloneEn_any A1 c1 X V1 (by have := HWL.out; omega) hcut
        rw [hXl] at CC
        have HXL := Lib.hid hXl
        have HX := Lib.hid hX
        clear hXl hcut hT1 hX
        go_wp2_with fail
        refine CC.mono ?_
        rintro r w2 ⟨A', c', rfl, hS, hFr, hb2⟩
        have hFr2 : Frs w.heap.size A' := fun a e => Nat.le_trans hB1.size (hFr a e)
        replace hB1 := below_then hB1 hb2
        have HV := Lib.hid (show fromS y.x place (M) = X by rw [HF.out.1, ← HX.out, List.take_length, show (M : Int).toNat = M from rfl, List.take_of_length_le (Nat.le_of_lt hW)])
        clear CC hb2
        go_wp2_with fail
        refine bodyPost_ret (results_tmp2 rfl _ _ _) rfl ?_
        exact ⟨A', c', by rw [HF.out.2, HV.out, HXL.out]; rfl, by rw [HV.out]; exact hS, hFr2, hB1⟩
      · have hW2 : (M : Int) ≤ (W.length : Int) := by omega
        have hW3 : (M : Int) ≤ (c1 : Int) := by omega
        have m1 : max (M : Int) 0 = (M : Int) := by omega
        have m2 : min (M : Int) (W.length : Int) = (M : Int) := by omega
        obtain ⟨X, hX⟩ : ∃ X, W.take (M) = X := ⟨_, rfl⟩
        have hXl : X.length = M := by rw [← hX, List.length_take]; omega
        have hcut := hT1.upTo (m := M) (by omega)
        rw [hX] at hcut
        have CC := cloneEn_any A1 c1 X V1 (by have := HWL.out; omega) hcut
        rw [hXl] at CC
        have HXL := Lib.hid hXl
        have HX := Lib.hid hX
        clear hXl hcut hT1 hX
        go_wp2_with fail
        refine CC.mono ?_
        rintro r w2 ⟨A', c', rfl, hS, hFr, hb2⟩
        have hFr2 : Frs w.heap.size A' := fun a e => Nat.le_trans hB1.size (hFr a e)
        replace hB1 := below_then hB1 hb2
        have HV := Lib.hid (show fromS y.x place (M) = X by rw [HF.out.1, ← HX.out, show (M : Int).toNat = M from rfl])
        clear CC hb2
        go_wp2_with fail
        refine bodyPost_ret (results_tmp2 rfl _ _ _) rfl ?_
        exact ⟨A', c', by rw [HF.out.2, HV.out, HXL.out]; rfl, by rw [HV.out]; exact hS, hFr2, hB1⟩
end Go.Proofs.Ytnglpkfkepfkkaa

/- The program's relays: upward, Down. -/
namespace Go.Proofs.Ytnglpkfkepfkkaa
open Go.RowKit Nam Cod Pln

theorem frE_cellsR (x : Fw) : ∀ v ∈ frE.c x, (∃ k, v = .int .i64 k) ∨ ∃ a m c, v = .slice a m c := by
  intro v hv
  simp only [frE, List.mem_cons, List.not_mem_nil, or_false] at hv
  rcases hv with rfl | rfl | rfl | rfl | rfl | rfl | rfl | rfl | rfl | rfl | rfl | rfl | rfl | rfl <;> first | exact Or.inl ⟨_, rfl⟩ | exact Or.inr ⟨_, _, _, rfl⟩
theorem frE_cellR {w : World} {n i : Nat} {v : Value} {x : Fw} (hZ : frE.In w n x) (h : w.cell? ⟨n, i, none⟩ = some v) : (∃ k, v = .int .i64 k) ∨ ∃ a m c, v = .slice a m c := by
  rw [hZ.cell] at h
  exact frE_cellsR x v (List.mem_of_getElem? h)
theorem frE_nineR {w : World} {n off : Nat} {x : Fw} {r : Rp} (hZ : frE.In w n x) : ¬ rpE.At w n off r := fun ha => by
  have hI : ∀ j, j < 9 → ∃ k, (frE.c x)[off + j]? = some (.int .i64 k) := fun j hj => by
    match j, hj with
    | 0, _ => exact ⟨_, (hZ.cell _).symm.trans (ha 0 _ rfl)⟩
    | 1, _ => exact ⟨_, (hZ.cell _).symm.trans (ha 1 _ rfl)⟩
    | 2, _ => exact ⟨_, (hZ.cell _).symm.trans (ha 2 _ rfl)⟩
    | 3, _ => exact ⟨_, (hZ.cell _).symm.trans (ha 3 _ rfl)⟩
    | 4, _ => exact ⟨_, (hZ.cell _).symm.trans (ha 4 _ rfl)⟩
    | 5, _ => exact ⟨_, (hZ.cell _).symm.trans (ha 5 _ rfl)⟩
    | 6, _ => exact ⟨_, (hZ.cell _).symm.trans (ha 6 _ rfl)⟩
    | 7, _ => exact ⟨_, (hZ.cell _).symm.trans (ha 7 _ rfl)⟩
    | 8, _ => exact ⟨_, (hZ.cell _).symm.trans (ha 8 _ rfl)⟩
  have hno : ∀ i, i = 4 ∨ i = 8 ∨ i = 13 → ∀ k, (frE.c x)[i]? ≠ some (.int .i64 k) := fun i hi k h => by
    rcases hi with rfl | rfl | rfl <;> (injection h with h; cases h)
  rcases Nat.lt_or_ge off 14 with h26 | h26
  · have hcase : ∃ j, j < 9 ∧ (off + j = 4 ∨ off + j = 8 ∨ off + j = 13) := by
      rcases Nat.lt_or_ge off 5 with h | h
      · exact ⟨4 - off, by omega, by omega⟩
      · exact ⟨13 - off, by omega, by omega⟩
    obtain ⟨j, hj, hc⟩ := hcase
    obtain ⟨k, hk⟩ := hI j hj
    exact hno _ hc k hk
  · obtain ⟨k, hk⟩ := hI 0 (by omega)
    rw [List.getElem?_eq_none (by rw [frE.len]; show 14 ≤ off + 0; omega)] at hk
    cases hk
theorem Fw.ok.keepZ19 {w w' : World} {x z : Fw} {n : Nat} (h : x.ok w) (hZ : frE.In w n z) (hg : w.grownBy w' (some n)) : x.ok w' := by
  have ho : ∀ off y, ¬ opE.At w n off y := fun off y ha => by
    rcases frE_cellR hZ (ha 6 _ rfl) with ⟨_, h⟩ | ⟨_, _, _, h⟩ <;> cases h
  have he : ∀ off y, ¬ enE.At w n off y := fun off y ha => by
    rcases frE_cellR hZ (ha 9 _ rfl) with ⟨_, h⟩ | ⟨_, _, _, h⟩ <;> cases h
  have hgf : ∀ off y, ¬ gfE.At w n off y := fun off y ha => by
    rcases frE_cellR hZ (ha 4 _ rfl) with ⟨_, h⟩ | ⟨_, _, _, h⟩ <;> cases h
  exact ⟨h.o.keepRK (fun o _ => ho o _) hg, h.r.keepRK (fun o _ => frE_nineR hZ) hg, h.e.keepRK (fun o _ => he o _) hg, h.g.keepRK (fun o _ => hgf o _) hg⟩
def UpS (n1 n2 : Nat) (p : Pnw) (x : Rlw) (w : World) : Prop := pnE.In w n1 p ∧ ryE.In w n2 x
def upW (p : Pn) (up : Int) (x : Rlw) (A : Option Addr) (c : Nat) (B : Option Addr) (d : Nat) : Fw := ⟨A, c, B, d, none, 0, none, 0, upF p up x.v⟩
set_option maxRecDepth 100000 in
set_option maxHeartbeats 8000000 in
theorem upward19_any (p : Pnw) (x : Rlw) (w : World) (up : Int) (n : Nat) (hPR : Pln.Right p.p) (hn : n ≤ 60) (hr : RlR p.p up n x.v) (hT : inE.Sl w p.A p.p.u) (hx : x.ok w) :
    Calls Try.prog 25 #[.agg #[.slice p.A p.p.u.length p.c, .int .i64 p.p.q, .int .i64 p.p.r, .int .i64 p.p.b, .int .i64 p.p.l, .int .i64 p.p.w, .int .i64 p.p.c, .int .i64 p.p.k, .int .i64 p.p.i], .agg #[.int .i64 x.node, .int .i64 x.boot, .int .i64 x.above, .int .i64 x.st.s, .int .i64 x.st.t, .int .i64 x.st.p, .slice x.eA x.st.es.length x.ec, .int .i64 x.q.f, .int .i64 x.q.g, .slice x.qA x.q.os.length x.qc, .slice x.kA x.ks.length x.kc, .slice x.rA x.rs.length x.rc, .slice x.gA x.gs.length x.gc, .slice none 0 0, .slice none 0 0, .int .i64 0, .slice none 0 0, .slice none 0 0, .slice none 0 0, .slice none 0 0, .int .i64 0, .int .i64 0, .int .i64 0, .int .i64 0, .slice none 0 0, .int .i64 0]] w fun e w' => ∃ y : Fw, e = .returned (.agg #[.int .i64 y.x.a, .int .i64 y.x.b, .int .i64 y.x.boot, .int .i64 y.x.first, .slice y.oA y.x.os.length y.oc, .int .i64 y.x.pos, .slice y.rA y.x.rs.length y.rc, .int .i64 y.x.start, .slice y.eA y.x.es.length y.ec, .int .i64 y.x.ack, .int .i64 y.x.grant, .int .i64 y.x.s, .int .i64 y.x.t, .slice y.gA y.x.gs.length y.gc]) ∧ y.ok w' ∧ y.x = upF p.p up x.v ∧ Below w.heap.size w w' := by
  have hP : pnE.In (((w.alloc (.cells #[.slice p.A p.p.u.length p.c, .int .i64 p.p.q, .int .i64 p.p.r, .int .i64 p.p.b, .int .i64 p.p.l, .int .i64 p.p.w, .int .i64 p.p.c, .int .i64 p.p.k, .int .i64 p.p.i] 33)).alloc (.cells #[.int .i64 x.node, .int .i64 x.boot, .int .i64 x.above, .int .i64 x.st.s, .int .i64 x.st.t, .int .i64 x.st.p, .slice x.eA x.st.es.length x.ec, .int .i64 x.q.f, .int .i64 x.q.g, .slice x.qA x.q.os.length x.qc, .slice x.kA x.ks.length x.kc, .slice x.rA x.rs.length x.rc, .slice x.gA x.gs.length x.gc, .slice none 0 0, .slice none 0 0, .int .i64 0, .slice none 0 0, .slice none 0 0, .slice none 0 0, .slice none 0 0, .int .i64 0, .int .i64 0, .int .i64 0, .int .i64 0, .slice none 0 0, .int .i64 0] 48)).alloc (.cells #[.int .i64 0, .int .i64 0, .int .i64 0, .int .i64 0, .slice none 0 0, .int .i64 0, .slice none 0 0, .int .i64 0, .slice none 0 0, .int .i64 0, .int .i64 0, .int .i64 0, .int .i64 0, .slice none 0 0] 28)) w.heap.size p := ((El.In.new (E := pnE) w p _ rfl).alloc _).alloc _
  have hE : ryE.In (((w.alloc (.cells #[.slice p.A p.p.u.length p.c, .int .i64 p.p.q, .int .i64 p.p.r, .int .i64 p.p.b, .int .i64 p.p.l, .int .i64 p.p.w, .int .i64 p.p.c, .int .i64 p.p.k, .int .i64 p.p.i] 33)).alloc (.cells #[.int .i64 x.node, .int .i64 x.boot, .int .i64 x.above, .int .i64 x.st.s, .int .i64 x.st.t, .int .i64 x.st.p, .slice x.eA x.st.es.length x.ec, .int .i64 x.q.f, .int .i64 x.q.g, .slice x.qA x.q.os.length x.qc, .slice x.kA x.ks.length x.kc, .slice x.rA x.rs.length x.rc, .slice x.gA x.gs.length x.gc, .slice none 0 0, .slice none 0 0, .int .i64 0, .slice none 0 0, .slice none 0 0, .slice none 0 0, .slice none 0 0, .int .i64 0, .int .i64 0, .int .i64 0, .int .i64 0, .slice none 0 0, .int .i64 0] 48)).alloc (.cells #[.int .i64 0, .int .i64 0, .int .i64 0, .int .i64 0, .slice none 0 0, .int .i64 0, .slice none 0 0, .int .i64 0, .slice none 0 0, .int .i64 0, .int .i64 0, .int .i64 0, .int .i64 0, .slice none 0 0] 28)) (w.heap.size + 1) x := by
    have h := (El.In.new (E := ryE) (w.alloc (.cells #[.slice p.A p.p.u.length p.c, .int .i64 p.p.q, .int .i64 p.p.r, .int .i64 p.p.b, .int .i64 p.p.l, .int .i64 p.p.w, .int .i64 p.p.c, .int .i64 p.p.k, .int .i64 p.p.i] 33)) x _ rfl).alloc (.cells #[.int .i64 0, .int .i64 0, .int .i64 0, .int .i64 0, .slice none 0 0, .int .i64 0, .slice none 0 0, .int .i64 0, .slice none 0 0, .int .i64 0, .int .i64 0, .int .i64 0, .int .i64 0, .slice none 0 0] 28)
    rw [alloc_size] at h; exact h
  have hZ : frE.In (((w.alloc (.cells #[.slice p.A p.p.u.length p.c, .int .i64 p.p.q, .int .i64 p.p.r, .int .i64 p.p.b, .int .i64 p.p.l, .int .i64 p.p.w, .int .i64 p.p.c, .int .i64 p.p.k, .int .i64 p.p.i] 33)).alloc (.cells #[.int .i64 x.node, .int .i64 x.boot, .int .i64 x.above, .int .i64 x.st.s, .int .i64 x.st.t, .int .i64 x.st.p, .slice x.eA x.st.es.length x.ec, .int .i64 x.q.f, .int .i64 x.q.g, .slice x.qA x.q.os.length x.qc, .slice x.kA x.ks.length x.kc, .slice x.rA x.rs.length x.rc, .slice x.gA x.gs.length x.gc, .slice none 0 0, .slice none 0 0, .int .i64 0, .slice none 0 0, .slice none 0 0, .slice none 0 0, .slice none 0 0, .int .i64 0, .int .i64 0, .int .i64 0, .int .i64 0, .slice none 0 0, .int .i64 0] 48)).alloc (.cells #[.int .i64 0, .int .i64 0, .int .i64 0, .int .i64 0, .slice none 0 0, .int .i64 0, .slice none 0 0, .int .i64 0, .slice none 0 0, .int .i64 0, .int .i64 0, .int .i64 0, .int .i64 0, .slice none 0 0] 28)) (w.heap.size + 2) zeroFw := by
    have h := El.In.new (E := frE) ((w.alloc (.cells #[.slice p.A p.p.u.length p.c, .int .i64 p.p.q, .int .i64 p.p.r, .int .i64 p.p.b, .int .i64 p.p.l, .int .i64 p.p.w, .int .i64 p.p.c, .int .i64 p.p.k, .int .i64 p.p.i] 33)).alloc (.cells #[.int .i64 x.node, .int .i64 x.boot, .int .i64 x.above, .int .i64 x.st.s, .int .i64 x.st.t, .int .i64 x.st.p, .slice x.eA x.st.es.length x.ec, .int .i64 x.q.f, .int .i64 x.q.g, .slice x.qA x.q.os.length x.qc, .slice x.kA x.ks.length x.kc, .slice x.rA x.rs.length x.rc, .slice x.gA x.gs.length x.gc, .slice none 0 0, .slice none 0 0, .int .i64 0, .slice none 0 0, .slice none 0 0, .slice none 0 0, .slice none 0 0, .int .i64 0, .int .i64 0, .int .i64 0, .int .i64 0, .slice none 0 0, .int .i64 0] 48)) zeroFw #[.int .i64 0, .int .i64 0, .int .i64 0, .int .i64 0, .slice none 0 0, .int .i64 0, .slice none 0 0, .int .i64 0, .slice none 0 0, .int .i64 0, .int .i64 0, .int .i64 0, .int .i64 0, .slice none 0 0] rfl
    rw [alloc_size, alloc_size] at h; exact h
  have hB := below_alloc (below_alloc (below_alloc (Below.refl w.heap.size w) (.cells #[.slice p.A p.p.u.length p.c, .int .i64 p.p.q, .int .i64 p.p.r, .int .i64 p.p.b, .int .i64 p.p.l, .int .i64 p.p.w, .int .i64 p.p.c, .int .i64 p.p.k, .int .i64 p.p.i] 33)) (.cells #[.int .i64 x.node, .int .i64 x.boot, .int .i64 x.above, .int .i64 x.st.s, .int .i64 x.st.t, .int .i64 x.st.p, .slice x.eA x.st.es.length x.ec, .int .i64 x.q.f, .int .i64 x.q.g, .slice x.qA x.q.os.length x.qc, .slice x.kA x.ks.length x.kc, .slice x.rA x.rs.length x.rc, .slice x.gA x.gs.length x.gc, .slice none 0 0, .slice none 0 0, .int .i64 0, .slice none 0 0, .slice none 0 0, .slice none 0 0, .slice none 0 0, .int .i64 0, .int .i64 0, .int .i64 0, .int .i64 0, .slice none 0 0, .int .i64 0] 48)) (.cells #[.int .i64 0, .int .i64 0, .int .i64 0, .int .i64 0, .slice none 0 0, .int .i64 0, .slice none 0 0, .int .i64 0, .slice none 0 0, .int .i64 0, .int .i64 0, .int .i64 0, .int .i64 0, .slice none 0 0] 28)
  have hok := hx.below hB
  have HT := Lib.hid hT
  have HL := Lib.hid (lens19 hPR hr)
  have CPA := Lib.hid (fun (wx : World) (h : inE.Sl wx p.A p.p.u) => parent19_any p x.node up wx ⟨Int.le_of_lt hr.node.1, hr.node.2.1⟩ h)
  have CO := Lib.hid (fun (wx : World) (h : SlV opE wx x.qA x.qc x.q.os) => quOut_any x.Q p.p.b wx (qn19 hPR (by omega) hr) h)
  have CR := Lib.hid (fun (wx : World) (h : SlV rpE wx x.rA x.rc x.rs) => cloneRp_any x.rA x.rc x.rs wx (by have h2 : x.rs.length ≤ 12 := (lens19 hPR hr).2.2.2.1; omega) h)
  clear hx hT hr hPR hn
  go_enter Try.func25, Try.ntmps25
  go_upto_region 1 with fail
  try simp only [alloc_size, Nat.add_assoc, Nat.reduceAdd]
  generalize ((w.alloc (.cells #[.slice p.A p.p.u.length p.c, .int .i64 p.p.q, .int .i64 p.p.r, .int .i64 p.p.b, .int .i64 p.p.l, .int .i64 p.p.w, .int .i64 p.p.c, .int .i64 p.p.k, .int .i64 p.p.i] 33)).alloc (.cells #[.int .i64 x.node, .int .i64 x.boot, .int .i64 x.above, .int .i64 x.st.s, .int .i64 x.st.t, .int .i64 x.st.p, .slice x.eA x.st.es.length x.ec, .int .i64 x.q.f, .int .i64 x.q.g, .slice x.qA x.q.os.length x.qc, .slice x.kA x.ks.length x.kc, .slice x.rA x.rs.length x.rc, .slice x.gA x.gs.length x.gc, .slice none 0 0, .slice none 0 0, .int .i64 0, .slice none 0 0, .slice none 0 0, .slice none 0 0, .slice none 0 0, .int .i64 0, .int .i64 0, .int .i64 0, .int .i64 0, .slice none 0 0, .int .i64 0] 48)).alloc (.cells #[.int .i64 0, .int .i64 0, .int .i64 0, .int .i64 0, .slice none 0 0, .int .i64 0, .slice none 0 0, .int .i64 0, .slice none 0 0, .int .i64 0, .int .i64 0, .int .i64 0, .int .i64 0, .slice none 0 0] 28) = W at *
  obtain ⟨n1, h1⟩ : ∃ n1, w.heap.size = n1 := ⟨_, rfl⟩
  obtain ⟨n2, h2⟩ : ∃ n2, w.heap.size + 1 = n2 := ⟨_, rfl⟩
  obtain ⟨n3, h3⟩ : ∃ n3, w.heap.size + 2 = n3 := ⟨_, rfl⟩
  have hw3 : w.heap.size ≤ n3 := by omega
  rw [h3] at hZ ⊢
  rw [h2] at hE ⊢
  rw [h1] at hP ⊢
  clear h1 h2 h3
  have c0 : W.cell? ⟨n2, 0, none⟩ = some (.int .i64 x.node) := hE.cell 0
  go_wp2_with (first | (refine El.load pnRow rfl _ rfl n1 0 rfl p hP.at #[.slice p.A p.p.u.length p.c, .int .i64 p.p.q, .int .i64 p.p.r, .int .i64 p.p.b, .int .i64 p.p.l, .int .i64 p.p.w, .int .i64 p.p.c, .int .i64 p.p.k, .int .i64 p.p.i] rfl ?_) | fail)
  refine (CPA.out _ (HT.out.below hB)).mono ?_
  rintro e w2 ⟨rfl, hb2⟩
  replace hP := hP.below hb2
  replace hE := hE.below hb2
  replace hZ := hZ.below hb2
  replace hok := hok.below hb2
  replace hB := below_then hB hb2
  clear hb2 CPA c0
  go_upto_region 2 with fail
  refine region_anyG (S := UpS n1 n2 p x) 20 (by kernel_rfl) ?_
  have hd : Below w2.heap.size w2 w2.drew := (Below.refl _ _).drew
  replace hE : ryE.In w2.drew n2 x := hE
  replace hZ : frE.In w2.drew n3 zeroFw := hZ
  replace hP : pnE.In w2.drew n1 p := hP
  replace hok := hok.below hd
  replace hB := hB.drew
  clear hd
  generalize w2.drew = X at *
  have hS : UpS n1 n2 p x X := ⟨hP, hE⟩
  refine anyG_take (i := 0) (v := .pointer (some ⟨n2, 0, none⟩)) rfl (by kernel_rfl) (by kernel_rfl) (by kernel_rfl) (by kernel_rfl) (by kernel_rfl) (fun _ _ _ h => h) (Or.inl ⟨by rfl, fun w' hSw => by go_simp⟩) hS ?_
  try simp only [Act.put, List.setIfInBounds_toArray, List.set_cons_zero, List.set_cons_succ]
  refine anyG_take (i := 1) (v := .int .i64 x.node) rfl (by kernel_rfl) (by kernel_rfl) (by kernel_rfl) (by kernel_rfl) (by kernel_rfl) (fun _ _ _ h => h) (Or.inl ⟨by rfl, fun w' hSw => by (have s : w'.cell? ⟨n2, 0, none⟩ = some (.int .i64 x.node) := hSw.2.cell 0; go_simp)⟩) hS ?_
  try simp only [Act.put, List.setIfInBounds_toArray, List.set_cons_zero, List.set_cons_succ]
  refine anyG_take (i := 2) (v := .int .i64 up) rfl (by kernel_rfl) (by kernel_rfl) (by kernel_rfl) (by kernel_rfl) (by kernel_rfl) (fun _ _ _ h => h) (Or.inl ⟨by rfl, fun w' hSw => by go_simp⟩) hS ?_
  try simp only [Act.put, List.setIfInBounds_toArray, List.set_cons_zero, List.set_cons_succ]
  refine anyG_take (i := 3) (v := .pointer (some ⟨n2, 1, none⟩)) rfl (by kernel_rfl) (by kernel_rfl) (by kernel_rfl) (by kernel_rfl) (by kernel_rfl) (fun _ _ _ h => h) (Or.inl ⟨by rfl, fun w' hSw => by go_simp⟩) hS ?_
  try simp only [Act.put, List.setIfInBounds_toArray, List.set_cons_zero, List.set_cons_succ]
  refine anyG_take (i := 4) (v := .int .i64 x.boot) rfl (by kernel_rfl) (by kernel_rfl) (by kernel_rfl) (by kernel_rfl) (by kernel_rfl) (fun _ _ _ h => h) (Or.inl ⟨by rfl, fun w' hSw => by (have s : w'.cell? ⟨n2, 1, none⟩ = some (.int .i64 x.boot) := hSw.2.cell 1; go_simp)⟩) hS ?_
  try simp only [Act.put, List.setIfInBounds_toArray, List.set_cons_zero, List.set_cons_succ]
  refine anyG_take (i := 5) (v := .pointer (some ⟨n2, 7, none⟩)) rfl (by kernel_rfl) (by kernel_rfl) (by kernel_rfl) (by kernel_rfl) (by kernel_rfl) (fun _ _ _ h => h) (Or.inl ⟨by rfl, fun w' hSw => by go_simp⟩) hS ?_
  try simp only [Act.put, List.setIfInBounds_toArray, List.set_cons_zero, List.set_cons_succ]
  refine anyG_take (i := 6) (v := .pointer (some ⟨n2, 7, none⟩)) rfl (by kernel_rfl) (by kernel_rfl) (by kernel_rfl) (by kernel_rfl) (by kernel_rfl) (fun _ _ _ h => h) (Or.inl ⟨by rfl, fun w' hSw => by go_simp⟩) hS ?_
  try simp only [Act.put, List.setIfInBounds_toArray, List.set_cons_zero, List.set_cons_succ]
  refine anyG_take (i := 7) (v := .int .i64 x.q.f) rfl (by kernel_rfl) (by kernel_rfl) (by kernel_rfl) (by kernel_rfl) (by kernel_rfl) (fun _ _ _ h => h) (Or.inl ⟨by rfl, fun w' hSw => by (have s : w'.cell? ⟨n2, 7, none⟩ = some (.int .i64 x.q.f) := hSw.2.cell 7; go_simp)⟩) hS ?_
  try simp only [Act.put, List.setIfInBounds_toArray, List.set_cons_zero, List.set_cons_succ]
  refine anyG_take (i := 8) (v := .pointer (some ⟨n2, 7, none⟩)) rfl (by kernel_rfl) (by kernel_rfl) (by kernel_rfl) (by kernel_rfl) (by kernel_rfl) (fun _ _ _ h => h) (Or.inl ⟨by rfl, fun w' hSw => by go_simp⟩) hS ?_
  try simp only [Act.put, List.setIfInBounds_toArray, List.set_cons_zero, List.set_cons_succ]
  refine anyG_take (i := 9) (v := .agg #[.int .i64 x.Q.x.f, .int .i64 x.Q.x.g, .slice x.Q.A x.Q.x.os.length x.Q.c]) rfl (by kernel_rfl) (by kernel_rfl) (by kernel_rfl) (by kernel_rfl) (by kernel_rfl) (fun _ _ _ h => h) (Or.inl ⟨by rfl, fun w' hSw => El.exec_loadK quRow (.tmp 22) rfl rfl (ry_q hSw.2) _ rfl⟩) hS ?_
  try simp only [Act.put, List.setIfInBounds_toArray, List.set_cons_zero, List.set_cons_succ]
  refine anyG_take (i := 10) (v := .pointer (some ⟨n1, 3, none⟩)) rfl (by kernel_rfl) (by kernel_rfl) (by kernel_rfl) (by kernel_rfl) (by kernel_rfl) (fun _ _ _ h => h) (Or.inl ⟨by rfl, fun w' hSw => by go_simp⟩) hS ?_
  try simp only [Act.put, List.setIfInBounds_toArray, List.set_cons_zero, List.set_cons_succ]
  refine anyG_take (i := 11) (v := .int .i64 p.p.b) rfl (by kernel_rfl) (by kernel_rfl) (by kernel_rfl) (by kernel_rfl) (by kernel_rfl) (fun _ _ _ h => h) (Or.inl ⟨by rfl, fun w' hSw => by (have s : w'.cell? ⟨n1, 3, none⟩ = some (.int .i64 p.p.b) := hSw.1.cell 3; go_simp)⟩) hS ?_
  try simp only [Act.put, List.setIfInBounds_toArray, List.set_cons_zero, List.set_cons_succ]
  refine anyG_take (i := 13) (v := .pointer (some ⟨n2, 3, none⟩)) rfl (by kernel_rfl) (by kernel_rfl) (by kernel_rfl) (by kernel_rfl) (by kernel_rfl) (fun _ _ _ h => h) (Or.inl ⟨by rfl, fun w' hSw => by go_simp⟩) hS ?_
  try simp only [Act.put, List.setIfInBounds_toArray, List.set_cons_zero, List.set_cons_succ]
  refine anyG_take (i := 14) (v := .pointer (some ⟨n2, 5, none⟩)) rfl (by kernel_rfl) (by kernel_rfl) (by kernel_rfl) (by kernel_rfl) (by kernel_rfl) (fun _ _ _ h => h) (Or.inl ⟨by rfl, fun w' hSw => by go_simp⟩) hS ?_
  try simp only [Act.put, List.setIfInBounds_toArray, List.set_cons_zero, List.set_cons_succ]
  refine anyG_take (i := 15) (v := .int .i64 x.st.p) rfl (by kernel_rfl) (by kernel_rfl) (by kernel_rfl) (by kernel_rfl) (by kernel_rfl) (fun _ _ _ h => h) (Or.inl ⟨by rfl, fun w' hSw => by (have s : w'.cell? ⟨n2, 5, none⟩ = some (.int .i64 x.st.p) := hSw.2.cell 5; go_simp)⟩) hS ?_
  try simp only [Act.put, List.setIfInBounds_toArray, List.set_cons_zero, List.set_cons_succ]
  refine anyG_take (i := 16) (v := .pointer (some ⟨n2, 11, none⟩)) rfl (by kernel_rfl) (by kernel_rfl) (by kernel_rfl) (by kernel_rfl) (by kernel_rfl) (fun _ _ _ h => h) (Or.inl ⟨by rfl, fun w' hSw => by go_simp⟩) hS ?_
  try simp only [Act.put, List.setIfInBounds_toArray, List.set_cons_zero, List.set_cons_succ]
  refine anyG_take (i := 17) (v := .slice x.rA x.rs.length x.rc) rfl (by kernel_rfl) (by kernel_rfl) (by kernel_rfl) (by kernel_rfl) (by kernel_rfl) (fun _ _ _ h => h) (Or.inl ⟨by rfl, fun w' hSw => by (have s : w'.cell? ⟨n2, 11, none⟩ = some (.slice x.rA x.rs.length x.rc) := hSw.2.cell 11; go_simp)⟩) hS ?_
  try simp only [Act.put, List.setIfInBounds_toArray, List.set_cons_zero, List.set_cons_succ]
  refine anyG_step (rs := [12]) (by kernel_rfl) (by simp) ?_
  refine AllG.cons rfl (fun K hK => ?_) AllG.nil
  go_simp
  refine (CO.out X hok.q).mono ?_
  rintro e W5 ⟨A1, c1, rfl, hS1, hb5⟩
  replace hP := hP.below hb5
  replace hE := hE.below hb5
  replace hZ := hZ.below hb5
  replace hok := hok.below hb5
  replace hB := below_then hB hb5
  clear hb5
  try go_wp2_with fail
  refine hK.out _ _ (⟨hP, hE⟩ : UpS n1 n2 p x W5) ?_
  try simp only [Act.put, List.setIfInBounds_toArray, List.set_cons_zero, List.set_cons_succ]
  clear hK hS
  have hS : UpS n1 n2 p x W5 := ⟨hP, hE⟩
  refine anyG_step (rs := [18]) (by kernel_rfl) (by simp) ?_
  refine AllG.cons rfl (fun K hK => ?_) AllG.nil
  go_simp
  refine (CR.out W5 hok.r).mono ?_
  rintro e W6 ⟨A2, c2, rfl, hS2, _, hb6⟩
  replace hP := hP.below hb6
  replace hE := hE.below hb6
  replace hZ := hZ.below hb6
  replace hok := hok.below hb6
  replace hB := below_then hB hb6
  replace hS1 := SlV.below hS1 hb6
  clear hb6
  try go_wp2_with fail
  refine hK.out _ _ (⟨hP, hE⟩ : UpS n1 n2 p x W6) ?_
  try simp only [Act.put, List.setIfInBounds_toArray, List.set_cons_zero, List.set_cons_succ]
  clear hK hS
  have hS : UpS n1 n2 p x W6 := ⟨hP, hE⟩
  refine anyG_plain (i := 19) (v := .agg #[.int .i64 (upW p.p up x A1 c1 A2 c2).x.a, .int .i64 (upW p.p up x A1 c1 A2 c2).x.b, .int .i64 (upW p.p up x A1 c1 A2 c2).x.boot, .int .i64 (upW p.p up x A1 c1 A2 c2).x.first, .slice (upW p.p up x A1 c1 A2 c2).oA (upW p.p up x A1 c1 A2 c2).x.os.length (upW p.p up x A1 c1 A2 c2).oc, .int .i64 (upW p.p up x A1 c1 A2 c2).x.pos, .slice (upW p.p up x A1 c1 A2 c2).rA (upW p.p up x A1 c1 A2 c2).x.rs.length (upW p.p up x A1 c1 A2 c2).rc, .int .i64 (upW p.p up x A1 c1 A2 c2).x.start, .slice (upW p.p up x A1 c1 A2 c2).eA (upW p.p up x A1 c1 A2 c2).x.es.length (upW p.p up x A1 c1 A2 c2).ec, .int .i64 (upW p.p up x A1 c1 A2 c2).x.ack, .int .i64 (upW p.p up x A1 c1 A2 c2).x.grant, .int .i64 (upW p.p up x A1 c1 A2 c2).x.s, .int .i64 (upW p.p up x A1 c1 A2 c2).x.t, .slice (upW p.p up x A1 c1 A2 c2).gA (upW p.p up x A1 c1 A2 c2).x.gs.length (upW p.p up x A1 c1 A2 c2).gc]) rfl (by kernel_rfl) (by kernel_rfl) (by kernel_rfl) (by kernel_rfl) (fun _ _ _ h => h) (Or.inl ⟨by rfl, fun w' => by (go_simp; exact ⟨rfl, rfl, rfl, rfl, ⟨rfl, rfl, rfl⟩, rfl, ⟨rfl, rfl, rfl⟩, rfl, ⟨rfl, rfl, rfl⟩, rfl, rfl, rfl, rfl, rfl, rfl, rfl⟩)⟩) (fun _ => hS) ?_
  try simp only [Act.put, List.setIfInBounds_toArray, List.set_cons_zero, List.set_cons_succ]
  refine anyG_step (rs := [20]) (by kernel_rfl) (by simp) ?_
  refine AllG.last (n := 20) rfl (fun K hK => ?_)
  refine El.step_store frRow rfl _ _ rfl n3 (upW p.p up x A1 c1 A2 c2) #[.int .i64 (upW p.p up x A1 c1 A2 c2).x.a, .int .i64 (upW p.p up x A1 c1 A2 c2).x.b, .int .i64 (upW p.p up x A1 c1 A2 c2).x.boot, .int .i64 (upW p.p up x A1 c1 A2 c2).x.first, .slice (upW p.p up x A1 c1 A2 c2).oA (upW p.p up x A1 c1 A2 c2).x.os.length (upW p.p up x A1 c1 A2 c2).oc, .int .i64 (upW p.p up x A1 c1 A2 c2).x.pos, .slice (upW p.p up x A1 c1 A2 c2).rA (upW p.p up x A1 c1 A2 c2).x.rs.length (upW p.p up x A1 c1 A2 c2).rc, .int .i64 (upW p.p up x A1 c1 A2 c2).x.start, .slice (upW p.p up x A1 c1 A2 c2).eA (upW p.p up x A1 c1 A2 c2).x.es.length (upW p.p up x A1 c1 A2 c2).ec, .int .i64 (upW p.p up x A1 c1 A2 c2).x.ack, .int .i64 (upW p.p up x A1 c1 A2 c2).x.grant, .int .i64 (upW p.p up x A1 c1 A2 c2).x.s, .int .i64 (upW p.p up x A1 c1 A2 c2).x.t, .slice (upW p.p up x A1 c1 A2 c2).gA (upW p.p up x A1 c1 A2 c2).x.gs.length (upW p.p up x A1 c1 A2 c2).gc] rfl rfl rfl zeroFw hZ ?_
  refine hK.out _ _ ?_
  try simp only [Act.put, List.setIfInBounds_toArray, List.set_cons_zero, List.set_cons_succ]
  clear hK hS
  refine anyG_done (by kernel_rfl) ?_ _
  have hfo : (upW p.p up x A1 c1 A2 c2).ok W6 := ⟨hS1, hS2, SlV.nil _ _, SlV.nil _ _⟩
  go_wp2_with fail
  refine El.ret1 frRow (hZ.set (upW p.p up x A1 c1 A2 c2) _ rfl) rfl rfl rfl _ rfl ?_
  exact ⟨upW p.p up x A1 c1 A2 c2, rfl, Fw.ok.keepZ19 hfo hZ (by_row _ _ _), rfl, below_setRow hB hw3 _⟩
end Go.Proofs.Ytnglpkfkepfkkaa

/- The program's relays: Down. -/
namespace Go.Proofs.Ytnglpkfkepfkkaa
open Go.RowKit Nam Cod Pln

/-- Where a frame's lists don't lie. -/
def Fw.off (f : Fw) (g : Nat) : Prop := (0 < f.x.os.length → ∀ a, f.oA = some a → a.block ≠ g) ∧ (0 < f.x.rs.length → ∀ a, f.rA = some a → a.block ≠ g) ∧ (0 < f.x.es.length → ∀ a, f.eA = some a → a.block ≠ g) ∧ (0 < f.x.gs.length → ∀ a, f.gA = some a → a.block ≠ g)
theorem SlV.keepO19 {α : Type} {E : El α} {w w' : World} {A : Option Addr} {c : Nat} {row : Option Nat} {l : List α} (h : SlV E w A c l) (hb : 0 < l.length → ∀ a, A = some a → row ≠ some a.block) (hg : w.grownBy w' row) : SlV E w' A c l := by
  refine ⟨fun h0 => ?_, h.2⟩
  obtain ⟨b1, off, e, hl, hc⟩ := h.1 h0
  have h1 := hb h0 _ e
  exact ⟨b1, off, e, Nat.lt_of_lt_of_le hl hg.size, fun i hi => (hc i hi).grown hg (fun e => h1 e.symm)⟩
theorem Fw.ok.keepG19 {w w' : World} {f : Fw} {row : Option Nat} (h : f.ok w) (ho : ∀ g, row = some g → f.off g) (hg : w.grownBy w' row) : f.ok w' :=
  ⟨h.o.keepO19 (fun h0 a e e2 => (ho _ e2).1 h0 a e rfl) hg, h.r.keepO19 (fun h0 a e e2 => (ho _ e2).2.1 h0 a e rfl) hg, h.e.keepO19 (fun h0 a e e2 => (ho _ e2).2.2.1 h0 a e rfl) hg, h.g.keepO19 (fun h0 a e e2 => (ho _ e2).2.2.2 h0 a e rfl) hg⟩
theorem Fw.ok.off_new {w : World} {f : Fw} (h : f.ok w) : f.off w.heap.size :=
  ⟨fun h0 a e => Nat.ne_of_lt (SlV.lt h.o h0 a e), fun h0 a e => Nat.ne_of_lt (SlV.lt h.r h0 a e), fun h0 a e => Nat.ne_of_lt (SlV.lt h.e h0 a e), fun h0 a e => Nat.ne_of_lt (SlV.lt h.g h0 a e)⟩
def dwW (x : Rlw) (k : Kin) (gr : Int) : Fw := ⟨none, 0, none, 0, none, 0, none, 0, ⟨x.node, k.n, x.boot, 1, 0, 0, k.r, gr, x.st.s, x.st.t, [], [], [], []⟩⟩
def enW (y : Fw) (st : Int) (A : Option Addr) (c : Nat) (l : List En) : Fw := { y with eA := A, ec := c, x := { y.x with start := st, es := l } }
def giW (y : Fw) (A : Option Addr) (c : Nat) (l : List Gf) : Fw := { y with gA := A, gc := c, x := { y.x with gs := l } }
theorem giv_next (u : List Int) (kn : Int) {l : List Gf} {k : Nat} (hk : k < l.length) : (l.take (k + 1)).filter (fun g => belowU u g.d kn) = (l.take k).filter (fun g => belowU u g.d kn) ++ (if belowU u l[k].d kn = true then [l[k]] else []) := by
  rw [List.take_succ_eq_append_getElem hk, List.filter_append]
  congr 1
  by_cases c : belowU u l[k].d kn = true
  · rw [if_pos c, List.filter_cons_of_pos (by exact c)]; rfl
  · rw [if_neg c, List.filter_cons_of_neg (by exact c)]; rfl
set_option maxRecDepth 100000 in
set_option maxHeartbeats 8000000 in
theorem down19_any (p : Pnw) (x : Rlw) (kn : Kin) (room : Int) (A : Option Addr) (c : Nat) (gs : List Gf) (w : World) (up : Int) (n : Nat) (hPR : Pln.Right p.p) (hn : n ≤ 60) (hr : RlR p.p up n x.v) (hk : (0 ≤ kn.r ∧ kn.r ≤ 10000) ∧ 0 ≤ kn.p ∧ kn.p ≤ 1099511627776) (hrm : -1000 ≤ room ∧ room ≤ 1000) (hgl : gs.length ≤ 1000) (hT : inE.Sl w p.A p.p.u) (hx : x.ok w) (hg : SlV gfE w A c gs) :
    Calls Try.prog 26 #[.agg #[.slice p.A p.p.u.length p.c, .int .i64 p.p.q, .int .i64 p.p.r, .int .i64 p.p.b, .int .i64 p.p.l, .int .i64 p.p.w, .int .i64 p.p.c, .int .i64 p.p.k, .int .i64 p.p.i], .agg #[.int .i64 x.node, .int .i64 x.boot, .int .i64 x.above, .int .i64 x.st.s, .int .i64 x.st.t, .int .i64 x.st.p, .slice x.eA x.st.es.length x.ec, .int .i64 x.q.f, .int .i64 x.q.g, .slice x.qA x.q.os.length x.qc, .slice x.kA x.ks.length x.kc, .slice x.rA x.rs.length x.rc, .slice x.gA x.gs.length x.gc, .slice none 0 0, .slice none 0 0, .int .i64 0, .slice none 0 0, .slice none 0 0, .slice none 0 0, .slice none 0 0, .int .i64 0, .int .i64 0, .int .i64 0, .int .i64 0, .slice none 0 0, .int .i64 0], .agg #[.int .i64 kn.n, .int .i64 kn.r, .int .i64 kn.p, .int .i64 kn.b], .int .i64 room, .slice A gs.length c] w fun e w' => ∃ y : Fw, e = .returned (.agg #[.int .i64 y.x.a, .int .i64 y.x.b, .int .i64 y.x.boot, .int .i64 y.x.first, .slice y.oA y.x.os.length y.oc, .int .i64 y.x.pos, .slice y.rA y.x.rs.length y.rc, .int .i64 y.x.start, .slice y.eA y.x.es.length y.ec, .int .i64 y.x.ack, .int .i64 y.x.grant, .int .i64 y.x.s, .int .i64 y.x.t, .slice y.gA y.x.gs.length y.gc]) ∧ y.ok w' ∧ y.x = downF p.p x.v kn room gs ∧ (∀ g, g < w.heap.size → y.off g) ∧ Below w.heap.size w w' := by
  have hP : pnE.In ((((w.alloc (.cells #[.slice p.A p.p.u.length p.c, .int .i64 p.p.q, .int .i64 p.p.r, .int .i64 p.p.b, .int .i64 p.p.l, .int .i64 p.p.w, .int .i64 p.p.c, .int .i64 p.p.k, .int .i64 p.p.i] 33)).alloc (.cells #[.int .i64 x.node, .int .i64 x.boot, .int .i64 x.above, .int .i64 x.st.s, .int .i64 x.st.t, .int .i64 x.st.p, .slice x.eA x.st.es.length x.ec, .int .i64 x.q.f, .int .i64 x.q.g, .slice x.qA x.q.os.length x.qc, .slice x.kA x.ks.length x.kc, .slice x.rA x.rs.length x.rc, .slice x.gA x.gs.length x.gc, .slice none 0 0, .slice none 0 0, .int .i64 0, .slice none 0 0, .slice none 0 0, .slice none 0 0, .slice none 0 0, .int .i64 0, .int .i64 0, .int .i64 0, .int .i64 0, .slice none 0 0, .int .i64 0] 48)).alloc (.cells #[.int .i64 kn.n, .int .i64 kn.r, .int .i64 kn.p, .int .i64 kn.b] 69)).alloc (.cells #[.int .i64 0, .int .i64 0, .int .i64 0, .int .i64 0, .slice none 0 0, .int .i64 0, .slice none 0 0, .int .i64 0, .slice none 0 0, .int .i64 0, .int .i64 0, .int .i64 0, .int .i64 0, .slice none 0 0] 28)) w.heap.size p := (((El.In.new (E := pnE) w p _ rfl).alloc _).alloc _).alloc _
  have hE : ryE.In ((((w.alloc (.cells #[.slice p.A p.p.u.length p.c, .int .i64 p.p.q, .int .i64 p.p.r, .int .i64 p.p.b, .int .i64 p.p.l, .int .i64 p.p.w, .int .i64 p.p.c, .int .i64 p.p.k, .int .i64 p.p.i] 33)).alloc (.cells #[.int .i64 x.node, .int .i64 x.boot, .int .i64 x.above, .int .i64 x.st.s, .int .i64 x.st.t, .int .i64 x.st.p, .slice x.eA x.st.es.length x.ec, .int .i64 x.q.f, .int .i64 x.q.g, .slice x.qA x.q.os.length x.qc, .slice x.kA x.ks.length x.kc, .slice x.rA x.rs.length x.rc, .slice x.gA x.gs.length x.gc, .slice none 0 0, .slice none 0 0, .int .i64 0, .slice none 0 0, .slice none 0 0, .slice none 0 0, .slice none 0 0, .int .i64 0, .int .i64 0, .int .i64 0, .int .i64 0, .slice none 0 0, .int .i64 0] 48)).alloc (.cells #[.int .i64 kn.n, .int .i64 kn.r, .int .i64 kn.p, .int .i64 kn.b] 69)).alloc (.cells #[.int .i64 0, .int .i64 0, .int .i64 0, .int .i64 0, .slice none 0 0, .int .i64 0, .slice none 0 0, .int .i64 0, .slice none 0 0, .int .i64 0, .int .i64 0, .int .i64 0, .int .i64 0, .slice none 0 0] 28)) (w.heap.size + 1) x := by
    have h := ((El.In.new (E := ryE) (w.alloc (.cells #[.slice p.A p.p.u.length p.c, .int .i64 p.p.q, .int .i64 p.p.r, .int .i64 p.p.b, .int .i64 p.p.l, .int .i64 p.p.w, .int .i64 p.p.c, .int .i64 p.p.k, .int .i64 p.p.i] 33)) x _ rfl).alloc (.cells #[.int .i64 kn.n, .int .i64 kn.r, .int .i64 kn.p, .int .i64 kn.b] 69)).alloc (.cells #[.int .i64 0, .int .i64 0, .int .i64 0, .int .i64 0, .slice none 0 0, .int .i64 0, .slice none 0 0, .int .i64 0, .slice none 0 0, .int .i64 0, .int .i64 0, .int .i64 0, .int .i64 0, .slice none 0 0] 28)
    rw [alloc_size] at h; exact h
  have hK : kinE.In ((((w.alloc (.cells #[.slice p.A p.p.u.length p.c, .int .i64 p.p.q, .int .i64 p.p.r, .int .i64 p.p.b, .int .i64 p.p.l, .int .i64 p.p.w, .int .i64 p.p.c, .int .i64 p.p.k, .int .i64 p.p.i] 33)).alloc (.cells #[.int .i64 x.node, .int .i64 x.boot, .int .i64 x.above, .int .i64 x.st.s, .int .i64 x.st.t, .int .i64 x.st.p, .slice x.eA x.st.es.length x.ec, .int .i64 x.q.f, .int .i64 x.q.g, .slice x.qA x.q.os.length x.qc, .slice x.kA x.ks.length x.kc, .slice x.rA x.rs.length x.rc, .slice x.gA x.gs.length x.gc, .slice none 0 0, .slice none 0 0, .int .i64 0, .slice none 0 0, .slice none 0 0, .slice none 0 0, .slice none 0 0, .int .i64 0, .int .i64 0, .int .i64 0, .int .i64 0, .slice none 0 0, .int .i64 0] 48)).alloc (.cells #[.int .i64 kn.n, .int .i64 kn.r, .int .i64 kn.p, .int .i64 kn.b] 69)).alloc (.cells #[.int .i64 0, .int .i64 0, .int .i64 0, .int .i64 0, .slice none 0 0, .int .i64 0, .slice none 0 0, .int .i64 0, .slice none 0 0, .int .i64 0, .int .i64 0, .int .i64 0, .int .i64 0, .slice none 0 0] 28)) (w.heap.size + 2) kn := by
    have h := (El.In.new (E := kinE) ((w.alloc (.cells #[.slice p.A p.p.u.length p.c, .int .i64 p.p.q, .int .i64 p.p.r, .int .i64 p.p.b, .int .i64 p.p.l, .int .i64 p.p.w, .int .i64 p.p.c, .int .i64 p.p.k, .int .i64 p.p.i] 33)).alloc (.cells #[.int .i64 x.node, .int .i64 x.boot, .int .i64 x.above, .int .i64 x.st.s, .int .i64 x.st.t, .int .i64 x.st.p, .slice x.eA x.st.es.length x.ec, .int .i64 x.q.f, .int .i64 x.q.g, .slice x.qA x.q.os.length x.qc, .slice x.kA x.ks.length x.kc, .slice x.rA x.rs.length x.rc, .slice x.gA x.gs.length x.gc, .slice none 0 0, .slice none 0 0, .int .i64 0, .slice none 0 0, .slice none 0 0, .slice none 0 0, .slice none 0 0, .int .i64 0, .int .i64 0, .int .i64 0, .int .i64 0, .slice none 0 0, .int .i64 0] 48)) kn _ rfl).alloc (.cells #[.int .i64 0, .int .i64 0, .int .i64 0, .int .i64 0, .slice none 0 0, .int .i64 0, .slice none 0 0, .int .i64 0, .slice none 0 0, .int .i64 0, .int .i64 0, .int .i64 0, .int .i64 0, .slice none 0 0] 28)
    rw [alloc_size, alloc_size] at h; exact h
  have hZ : frE.In ((((w.alloc (.cells #[.slice p.A p.p.u.length p.c, .int .i64 p.p.q, .int .i64 p.p.r, .int .i64 p.p.b, .int .i64 p.p.l, .int .i64 p.p.w, .int .i64 p.p.c, .int .i64 p.p.k, .int .i64 p.p.i] 33)).alloc (.cells #[.int .i64 x.node, .int .i64 x.boot, .int .i64 x.above, .int .i64 x.st.s, .int .i64 x.st.t, .int .i64 x.st.p, .slice x.eA x.st.es.length x.ec, .int .i64 x.q.f, .int .i64 x.q.g, .slice x.qA x.q.os.length x.qc, .slice x.kA x.ks.length x.kc, .slice x.rA x.rs.length x.rc, .slice x.gA x.gs.length x.gc, .slice none 0 0, .slice none 0 0, .int .i64 0, .slice none 0 0, .slice none 0 0, .slice none 0 0, .slice none 0 0, .int .i64 0, .int .i64 0, .int .i64 0, .int .i64 0, .slice none 0 0, .int .i64 0] 48)).alloc (.cells #[.int .i64 kn.n, .int .i64 kn.r, .int .i64 kn.p, .int .i64 kn.b] 69)).alloc (.cells #[.int .i64 0, .int .i64 0, .int .i64 0, .int .i64 0, .slice none 0 0, .int .i64 0, .slice none 0 0, .int .i64 0, .slice none 0 0, .int .i64 0, .int .i64 0, .int .i64 0, .int .i64 0, .slice none 0 0] 28)) (w.heap.size + 3) zeroFw := by
    have h := El.In.new (E := frE) (((w.alloc (.cells #[.slice p.A p.p.u.length p.c, .int .i64 p.p.q, .int .i64 p.p.r, .int .i64 p.p.b, .int .i64 p.p.l, .int .i64 p.p.w, .int .i64 p.p.c, .int .i64 p.p.k, .int .i64 p.p.i] 33)).alloc (.cells #[.int .i64 x.node, .int .i64 x.boot, .int .i64 x.above, .int .i64 x.st.s, .int .i64 x.st.t, .int .i64 x.st.p, .slice x.eA x.st.es.length x.ec, .int .i64 x.q.f, .int .i64 x.q.g, .slice x.qA x.q.os.length x.qc, .slice x.kA x.ks.length x.kc, .slice x.rA x.rs.length x.rc, .slice x.gA x.gs.length x.gc, .slice none 0 0, .slice none 0 0, .int .i64 0, .slice none 0 0, .slice none 0 0, .slice none 0 0, .slice none 0 0, .int .i64 0, .int .i64 0, .int .i64 0, .int .i64 0, .slice none 0 0, .int .i64 0] 48)).alloc (.cells #[.int .i64 kn.n, .int .i64 kn.r, .int .i64 kn.p, .int .i64 kn.b] 69)) zeroFw #[.int .i64 0, .int .i64 0, .int .i64 0, .int .i64 0, .slice none 0 0, .int .i64 0, .slice none 0 0, .int .i64 0, .slice none 0 0, .int .i64 0, .int .i64 0, .int .i64 0, .int .i64 0, .slice none 0 0] rfl
    rw [alloc_size, alloc_size, alloc_size] at h; exact h
  have hB := below_alloc (below_alloc (below_alloc (below_alloc (Below.refl w.heap.size w) (.cells #[.slice p.A p.p.u.length p.c, .int .i64 p.p.q, .int .i64 p.p.r, .int .i64 p.p.b, .int .i64 p.p.l, .int .i64 p.p.w, .int .i64 p.p.c, .int .i64 p.p.k, .int .i64 p.p.i] 33)) (.cells #[.int .i64 x.node, .int .i64 x.boot, .int .i64 x.above, .int .i64 x.st.s, .int .i64 x.st.t, .int .i64 x.st.p, .slice x.eA x.st.es.length x.ec, .int .i64 x.q.f, .int .i64 x.q.g, .slice x.qA x.q.os.length x.qc, .slice x.kA x.ks.length x.kc, .slice x.rA x.rs.length x.rc, .slice x.gA x.gs.length x.gc, .slice none 0 0, .slice none 0 0, .int .i64 0, .slice none 0 0, .slice none 0 0, .slice none 0 0, .slice none 0 0, .int .i64 0, .int .i64 0, .int .i64 0, .int .i64 0, .slice none 0 0, .int .i64 0] 48)) (.cells #[.int .i64 kn.n, .int .i64 kn.r, .int .i64 kn.p, .int .i64 kn.b] 69)) (.cells #[.int .i64 0, .int .i64 0, .int .i64 0, .int .i64 0, .slice none 0 0, .int .i64 0, .slice none 0 0, .int .i64 0, .slice none 0 0, .int .i64 0, .int .i64 0, .int .i64 0, .int .i64 0, .slice none 0 0] 28)
  have HG := Lib.hid hg
  have HT := Lib.hid hT
  have HXO := Lib.hid hx
  have CB := Lib.hid (fun (d : Int) (wx : World) (h : inE.Sl wx p.A p.p.u) => pBelow_any p d kn.n wx h hPR.shp)
  have CF := Lib.hid (fun (wx : World) (h : SlV enE wx x.eA x.ec x.st.es) => smFromF_any x.S kn.p p.p.b wx (sn19 hPR hr) (by omega) h)
  obtain ⟨mr, hmr⟩ : ∃ mr, max room 0 = mr := ⟨_, rfl⟩
  obtain ⟨gr, hgr⟩ : ∃ gr, kn.r + mr = gr := ⟨_, rfl⟩
  have hwr : IntKind.i64.wrap (kn.r + mr) = gr := by rw [IntKind.wrap_i64]; omega
  have HGR := Lib.hid (show kn.r + max 0 room = gr by rw [Int.max_comm, hmr]; exact hgr)
  obtain ⟨fp, hfp⟩ : ∃ fp, fromP x.S.x kn.p = fp := ⟨_, rfl⟩
  obtain ⟨fs, hfs⟩ : ∃ fs, fromS x.S.x kn.p p.p.b = fs := ⟨_, rfl⟩
  rw [hfp, hfs] at CF
  have HDF := Lib.hid (show downF p.p x.v kn room gs = ⟨x.node, kn.n, x.boot, 1, 0, fp, kn.r, gr, x.st.s, x.st.t, [], [], fs, gs.filter fun g => belowU p.p.u g.d kn.n⟩ by
    rw [← hfp, ← hfs, ← HGR.out]; rfl)
  clear hg hT hx hr hPR hn hgr hk hrm hfp hfs
  go_enter Try.func26, Try.ntmps26
  go_upto_region 1 with fail
  try simp only [alloc_size, Nat.add_assoc, Nat.reduceAdd]
  generalize (((w.alloc (.cells #[.slice p.A p.p.u.length p.c, .int .i64 p.p.q, .int .i64 p.p.r, .int .i64 p.p.b, .int .i64 p.p.l, .int .i64 p.p.w, .int .i64 p.p.c, .int .i64 p.p.k, .int .i64 p.p.i] 33)).alloc (.cells #[.int .i64 x.node, .int .i64 x.boot, .int .i64 x.above, .int .i64 x.st.s, .int .i64 x.st.t, .int .i64 x.st.p, .slice x.eA x.st.es.length x.ec, .int .i64 x.q.f, .int .i64 x.q.g, .slice x.qA x.q.os.length x.qc, .slice x.kA x.ks.length x.kc, .slice x.rA x.rs.length x.rc, .slice x.gA x.gs.length x.gc, .slice none 0 0, .slice none 0 0, .int .i64 0, .slice none 0 0, .slice none 0 0, .slice none 0 0, .slice none 0 0, .int .i64 0, .int .i64 0, .int .i64 0, .int .i64 0, .slice none 0 0, .int .i64 0] 48)).alloc (.cells #[.int .i64 kn.n, .int .i64 kn.r, .int .i64 kn.p, .int .i64 kn.b] 69)).alloc (.cells #[.int .i64 0, .int .i64 0, .int .i64 0, .int .i64 0, .slice none 0 0, .int .i64 0, .slice none 0 0, .int .i64 0, .slice none 0 0, .int .i64 0, .int .i64 0, .int .i64 0, .int .i64 0, .slice none 0 0] 28) = W at *
  obtain ⟨n1, h1⟩ : ∃ n1, w.heap.size = n1 := ⟨_, rfl⟩
  obtain ⟨n2, h2⟩ : ∃ n2, w.heap.size + 1 = n2 := ⟨_, rfl⟩
  obtain ⟨n3, h3⟩ : ∃ n3, w.heap.size + 2 = n3 := ⟨_, rfl⟩
  obtain ⟨n4, h4⟩ : ∃ n4, w.heap.size + 3 = n4 := ⟨_, rfl⟩
  have hw4 : w.heap.size ≤ n4 := by omega
  rw [h4] at hZ ⊢
  rw [h3] at hK ⊢
  rw [h2] at hE ⊢
  rw [h1] at hP ⊢
  clear h1 h2 h3 h4
  have h1W : n1 < W.heap.size := hP.lt
  have h3W : n3 < W.heap.size := hK.lt
  have h4W : n4 < W.heap.size := hZ.lt
  have hwW : w.heap.size ≤ W.heap.size := hB.size
  have c0 : W.cell? ⟨n2, 0, none⟩ = some (.int .i64 x.node) := hE.cell 0
  have c1 : W.cell? ⟨n2, 1, none⟩ = some (.int .i64 x.boot) := hE.cell 1
  have c3 : W.cell? ⟨n2, 3, none⟩ = some (.int .i64 x.st.s) := hE.cell 3
  have c4 : W.cell? ⟨n2, 4, none⟩ = some (.int .i64 x.st.t) := hE.cell 4
  have k0 : W.cell? ⟨n3, 0, none⟩ = some (.int .i64 kn.n) := hK.cell 0
  have k1 : W.cell? ⟨n3, 1, none⟩ = some (.int .i64 kn.r) := hK.cell 1
  have hF : frE.In (W.alloc (.cells #[.int .i64 x.node, .int .i64 kn.n, .int .i64 x.boot, .int .i64 1, .slice none 0 0, .int .i64 0, .slice none 0 0, .int .i64 0, .slice none 0 0, .int .i64 kn.r, .int .i64 gr, .int .i64 x.st.s, .int .i64 x.st.t, .slice none 0 0] 28)) W.heap.size (dwW x kn gr) := El.In.new (E := frE) W (dwW x kn gr) _ rfl
  have hal := below_alloc (Below.refl W.heap.size W) (.cells #[.int .i64 x.node, .int .i64 kn.n, .int .i64 x.boot, .int .i64 1, .slice none 0 0, .int .i64 0, .slice none 0 0, .int .i64 0, .slice none 0 0, .int .i64 kn.r, .int .i64 gr, .int .i64 x.st.s, .int .i64 x.st.t, .slice none 0 0] 28)
  go_upto_region 2 with fail
  clear c0 c1 c3 c4 k0 k1 hwr hmr
  replace hP := hP.below hal
  replace hE := hE.below hal
  replace hK := hK.below hal
  replace hZ := hZ.below hal
  replace hB := below_then hB hal
  clear hal
  generalize W.alloc (.cells #[.int .i64 x.node, .int .i64 kn.n, .int .i64 x.boot, .int .i64 1, .slice none 0 0, .int .i64 0, .slice none 0 0, .int .i64 0, .slice none 0 0, .int .i64 kn.r, .int .i64 gr, .int .i64 x.st.s, .int .i64 x.st.t, .slice none 0 0] 28) = V at *
  generalize W.heap.size = n5 at *
  have h5V : n5 < V.heap.size := hF.lt
  have p3 : V.cell? ⟨n1, 3, none⟩ = some (.int .i64 p.p.b) := hP.cell 3
  have k2 : V.cell? ⟨n3, 2, none⟩ = some (.int .i64 kn.p) := hK.cell 2
  have hs3 := ry_s hE
  go_wp2_with (first | (refine El.load smRow rfl _ rfl n2 3 rfl x.S hs3 #[.int .i64 x.S.x.s, .int .i64 x.S.x.t, .int .i64 x.S.x.p, .slice x.S.A x.S.x.es.length x.S.c] rfl ?_) | fail)
  refine (CF.out _ (SlV.below HXO.out.e hB)).mono ?_
  rintro e w3 ⟨eA, ec, rfl, hes, hfr, hb3⟩
  replace hP := hP.below hb3
  replace hK := hK.below hb3
  replace hF := hF.below hb3
  replace hZ := hZ.below hb3
  replace hB := below_then hB hb3
  clear hb3 CF p3 k2 hE hs3
  have q7 : w3.cell? ⟨n5, 7, none⟩ = some (.int .i64 0) := hF.cell 7
  have q8 : w3.cell? ⟨n5, 8, none⟩ = some (.slice none 0 0) := hF.cell 8
  have qf := hF.frozen
  go_upto_region 3 with fail
  clear q7 q8 qf
  have g1 := by_cell2 (by_cell w3 n5 7 (.int .i64 fp)) 8 (.slice eA fs.length ec)
  have HEB0 := Lib.hid (fun (h0 : 0 < fs.length) (a : Addr) (e : eA = some a) => SlV.lt hes h0 a e)
  replace hes := SlV.keepRK hes (fun o _ ha => by rcases frE_cellR hF (ha 9 _ rfl) with ⟨_, h⟩ | ⟨_, _, _, h⟩ <;> cases h) g1
  replace hF := (hF.put ({ dwW x kn gr with x := { (dwW x kn gr).x with start := fp } } : Fw) 7 (.int .i64 fp) rfl).put (enW (dwW x kn gr) fp eA ec fs) 8 (.slice eA fs.length ec) rfl
  replace hP := (hP.other n5 7 (.int .i64 fp) (by omega)).other n5 8 (.slice eA fs.length ec) (by omega)
  replace hK := (hK.other n5 7 (.int .i64 fp) (by omega)).other n5 8 (.slice eA fs.length ec) (by omega)
  replace hZ := (hZ.other n5 7 (.int .i64 fp) (by omega)).other n5 8 (.slice eA fs.length ec) (by omega)
  replace hB := Below.setCell (Below.setCell hB (p := ⟨n5, 7, none⟩) hwW (.int .i64 fp)) (p := ⟨n5, 8, none⟩) hwW (.slice eA fs.length ec)
  have hN5 := g1.size
  clear g1
  generalize (w3.setCell ⟨n5, 7, none⟩ (.int .i64 fp)).setCell ⟨n5, 8, none⟩ (.slice eA fs.length ec) = V3 at *
  obtain ⟨Y, hY⟩ : ∃ Y, enW (dwW x kn gr) fp eA ec fs = Y := ⟨_, rfl⟩
  rw [hY] at hF
  have HY := Lib.hid hY
  clear hY
  obtain ⟨N5, hN⟩ : ∃ N5, V3.heap.size = N5 := ⟨_, rfl⟩
  rw [hN] at hN5
  have h5N : n5 < N5 := by rw [← hN]; exact hF.lt
  have h1N : n1 < N5 := by rw [← hN]; exact hP.lt
  have h3N : n3 < N5 := by rw [← hN]; exact hK.lt
  have h4N : n4 < N5 := by rw [← hN]; exact hZ.lt
  have hwN : w.heap.size ≤ N5 := by rw [← hN]; exact hB.size
  have HEB := Lib.hid (fun (h0 : 0 < fs.length) (a : Addr) (e : eA = some a) => (show n5 < a.block ∧ a.block < N5 from ⟨Nat.lt_of_lt_of_le h5V (hfr a e), Nat.lt_of_lt_of_le (HEB0.out h0 a e) hN5⟩))
  have hO : gfE.Own V3 N5 (.slice none ((gs.take 0).filter fun g => belowU p.p.u g.d kn.n).length 0) ((gs.take 0).filter fun g => belowU p.p.u g.d kn.n) := El.Own.nil (E := gfE) V3 N5
  have hBN : N5 ≤ V3.heap.size := by omega
  have hF9 : frE.In V3 n5 (giW Y none 0 ((gs.take 0).filter fun g => belowU p.p.u g.d kn.n)) := by
    rw [← HY.out] at hF ⊢
    exact hF
  clear hF hN hN5 hfr HEB0
  go_wp2_with fail
  go_loopw [48] (fun y wr => ∃ (k : Nat) (A0 : Option Addr) (c0 : Nat), k ≤ gs.length ∧ y = .int .i64 k ∧ N5 ≤ wr.heap.size ∧ gfE.Own wr N5 (.slice A0 ((gs.take k).filter fun g => belowU p.p.u g.d kn.n).length c0) ((gs.take k).filter fun g => belowU p.p.u g.d kn.n) ∧ frE.In wr n5 (giW Y A0 c0 ((gs.take k).filter fun g => belowU p.p.u g.d kn.n)) ∧ SlV enE wr eA ec fs ∧ pnE.In wr n1 p ∧ kinE.In wr n3 kn ∧ frE.In wr n4 zeroFw ∧ Below w.heap.size w wr) (fun y _ => gs.length - (intOf y).toNat)
  case atStart => exact ⟨0, none, 0, Nat.zero_le _, rfl, hBN, hO, hF9, hes, hP, hK, hZ, hB⟩
  case round =>
    clear hBN hO hF9 hes hP hK hZ hB
    obtain ⟨k, A0, c0, hk, rfl, hBN, hO, hF, hes, hP, hK, hZ, hB⟩ := hrel
    by_cases hkl : k < gs.length
    · have f2 : decide ((k : Int) < (gs.length : Int)) = true := decide_eq_true (by omega)
      obtain ⟨b, off, eG, hbw, hc⟩ := (SlV.below HG.out hB).1 (by omega)
      have hx := gfIdxH (cap := c) eG hkl
      have hat : gfE.At wr b (off + k * 5) gs[k] := hc k hkl
      have HNX := Lib.hid (giv_next p.p.u kn.n hkl)
      have HLE := Lib.hid (show ((gs.take k).filter fun g => belowU p.p.u g.d kn.n).length ≤ 1000 from Nat.le_trans (List.length_filter_le _ _) (by rw [List.length_take]; omega))
      obtain ⟨g, hg⟩ : ∃ g, gs[k] = g := ⟨_, rfl⟩
      rw [hg] at hat HNX
      clear hg hc eG
      generalize ((gs.take k).filter fun g => belowU p.p.u g.d kn.n) = L at *
      have hN : gfE.In (wr.alloc (.cells #[.int .i64 g.d, .int .i64 g.i, .int .i64 g.c, .int .i64 g.t, .string g.s] 57)) wr.heap.size g := El.In.new (E := gfE) wr g _ rfl
      have hal := below_alloc (Below.refl wr.heap.size wr) (.cells #[.int .i64 g.d, .int .i64 g.i, .int .i64 g.c, .int .i64 g.t, .string g.s] 57)
      replace hP := hP.below hal
      replace hK := hK.below hal
      replace hF := hF.below hal
      replace hZ := hZ.below hal
      replace hB := below_then hB hal
      replace hO := hO.below hal
      replace hes := SlV.below hes hal
      replace hBN := Nat.le_trans hBN hal.size
      clear hal
      go_upto_region 6 with (first | (refine El.load gfRow rfl _ rfl b (off + k * 5) rfl g hat #[.int .i64 g.d, .int .i64 g.i, .int .i64 g.c, .int .i64 g.t, .string g.s] rfl ?_) | fail)
      clear hat hx hbw
      generalize wr.alloc (.cells #[.int .i64 g.d, .int .i64 g.i, .int .i64 g.c, .int .i64 g.t, .string g.s] 57) = U at *
      generalize wr.heap.size = n13 at *
      have k0 : U.cell? ⟨n3, 0, none⟩ = some (.int .i64 kn.n) := hK.cell 0
      have g0 : U.cell? ⟨n13, 0, none⟩ = some (.int .i64 g.d) := hN.cell 0
      have C := CB.out g.d U (HT.out.below hB)
      obtain ⟨bb, hbb⟩ : ∃ bb, belowU p.p.u g.d kn.n = bb := ⟨_, rfl⟩
      rw [hbb] at C HNX
      clear hbb
      go_wp2_with (first | (refine El.load pnRow rfl _ rfl n1 0 rfl p hP.at #[.slice p.A p.p.u.length p.c, .int .i64 p.p.q, .int .i64 p.p.r, .int .i64 p.p.b, .int .i64 p.p.l, .int .i64 p.p.w, .int .i64 p.p.c, .int .i64 p.p.k, .int .i64 p.p.i] rfl ?_) | fail)
      refine C.mono ?_
      rintro e w7 ⟨rfl, hb7⟩
      replace hP := hP.below hb7
      replace hK := hK.below hb7
      replace hF := hF.below hb7
      replace hZ := hZ.below hb7
      replace hB := below_then hB hb7
      replace hO := hO.below hb7
      replace hes := SlV.below hes hb7
      replace hN := hN.below hb7
      replace hBN := Nat.le_trans hBN hb7.size
      clear hb7 C k0 g0
      cases bb with
      | false =>
        have HNV := Lib.hid (show ((gs.take (k + 1)).filter fun g => belowU p.p.u g.d kn.n) = L by rw [HNX.out, if_neg (by decide), List.append_nil])
        clear hN
        go_wp2_with fail
        go_roundw
        case rel => exact ⟨k + 1, A0, c0, by omega, by go_num, hBN, by rw [HNV.out]; exact hO, by rw [HNV.out]; exact hF, hes, hP, hK, hZ, hB⟩
        case measure => simp [intOf]; omega
      | true =>
        have HNV := Lib.hid (show ((gs.take (k + 1)).filter fun g => belowU p.p.u g.d kn.n) = L ++ [g] by rw [HNX.out, if_pos rfl])
        have c13 : w7.cell? ⟨n5, 13, none⟩ = some (.slice A0 L.length c0) := hF.cell 13
        have hT2 : gfE.Sl (w7.alloc (.cells #[.int .i64 g.d, .int .i64 g.i, .int .i64 g.c, .int .i64 g.t, .string g.s] 57)) (some ⟨w7.heap.size, 0, none⟩) [g] := (El.In.new (E := gfE) w7 g _ rfl).sl
        have hal := below_alloc (Below.refl w7.heap.size w7) (.cells #[.int .i64 g.d, .int .i64 g.i, .int .i64 g.c, .int .i64 g.t, .string g.s] 57)
        have hO2 := hO.below hal
        have hF2 := hF.below hal
        have hP2 := hP.below hal
        have hK2 := hK.below hal
        have hZ2 := hZ.below hal
        have hes2 := SlV.below hes hal
        have hB2 := below_then hB hal
        have hBs := Nat.le_trans hBN hal.size
        have HN5 := Lib.hid hO2.lt
        clear hal hO hF hP hK hZ hes hB hBN
        go_wp2_with (first | (at_builtin; refine El.wpList_app gfInn rfl _ _ rfl N5 _ L [g] rfl hO2 (some ⟨w7.heap.size, 0, none⟩) 1 1 rfl rfl hT2 (fun e => by cases e) (by have := HLE.out; rw [List.length_singleton]; omega) hBs ?_; intro v' w5 hO5 hg5 _; have hF5 := hF2.keep hg5 (fun e => by have := (HN5.out _ e.symm).1; omega); have c13' := hF5.cell 13; have qf := hF5.frozen; (obtain ⟨L2, hL2⟩ : ∃ L2, L ++ [g] = L2 := ⟨_, rfl⟩); rw [hL2] at hO5; have HL2 := Lib.hid hL2; clear hL2; obtain ⟨A1, c1, rfl, _⟩ := SlV.own hO5) | (refine El.load gfRow rfl _ rfl n13 0 rfl g hN.at #[.int .i64 g.d, .int .i64 g.i, .int .i64 g.c, .int .i64 g.t, .string g.s] rfl ?_) | fail)
        have hg1 := by_cell w5 n5 13 (.slice A1 L2.length c1)
        have hes5 := SlV.keepO19 hes2 (fun h0 a e e2 => by have h1 := (HN5.out _ e2).1; have h2 := (HEB.out h0 a e).2; omega) hg5
        have hes6 := SlV.keepRK hes5 (fun o _ ha => by rcases frE_cellR hF5 (ha 9 _ rfl) with ⟨_, h⟩ | ⟨_, _, _, h⟩ <;> cases h) hg1
        have hP5 := hP2.keep hg5 (fun e => by have := (HN5.out _ e.symm).1; omega)
        have hK5 := hK2.keep hg5 (fun e => by have := (HN5.out _ e.symm).1; omega)
        have hZ5 := hZ2.keep hg5 (fun e => by have := (HN5.out _ e.symm).1; omega)
        have hB5 := hB2.grown hg5 hB2.size (fun k e => by have h1 := (HN5.out _ e).1; omega)
        have hlo5 := hO5.lt
        clear c13 c13' qf hes5 hN
        go_roundw
        case rel =>
          refine ⟨k + 1, A1, c1, by omega, by go_num, ?_, ?_, ?_, hes6, hP5.other n5 13 _ (by omega), hK5.other n5 13 _ (by omega), hZ5.other n5 13 _ (by omega), Below.setCell hB5 (p := ⟨n5, 13, none⟩) hwW _⟩
          · exact Nat.le_trans (Nat.le_trans hBs hg5.size) hg1.size
          · rw [HNV.out, HL2.out]
            exact hO5.kept hg1 (Or.inr (fun e => by have := (hlo5 _ e).1; omega))
          · rw [HNV.out, HL2.out]
            exact hF5.put (giW Y A1 c1 L2) 13 _ rfl
        case measure => simp [intOf]; omega
    · obtain rfl : k = gs.length := by omega
      rw [List.take_length] at hO hF
      obtain ⟨LG, hLG⟩ : ∃ LG, (gs.filter fun g => belowU p.p.u g.d kn.n) = LG := ⟨_, rfl⟩
      rw [hLG] at hO hF HDF
      obtain ⟨Z, hZZ⟩ : ∃ Z, giW Y A0 c0 LG = Z := ⟨_, rfl⟩
      have HV := Lib.hid (show Z.x = downF p.p x.v kn room gs by rw [HDF.out, ← hZZ, ← HY.out]; rfl)
      have hok : Z.ok wr := by
        obtain ⟨A2, c2, e2, hS⟩ := SlV.own hO
        injection e2 with e2 _ e3
        subst e2 e3
        rw [← hZZ, ← HY.out]
        exact ⟨SlV.nil _ _, SlV.nil _ _, hes, hS⟩
      have HOF := Lib.hid (fun (g : Nat) (hg : g < w.heap.size) => (show Z.off g by
        rw [← hZZ, ← HY.out]
        refine ⟨fun h0 => absurd h0 (Nat.lt_irrefl 0), fun h0 => absurd h0 (Nat.lt_irrefl 0), fun h0 a e => ?_, fun h0 a e => ?_⟩
        · have := (HEB.out h0 a e).1; omega
        · have e2 : A0 = some a := e
          have h2 := (hO.lt a.block (by rw [e2]; rfl)).1; omega))
      rw [hZZ] at hF
      clear hZZ hLG hO hes hkl hk
      go_wp2_with (first | (refine El.load frRow rfl _ rfl n5 0 rfl Z hF.at #[.int .i64 Z.x.a, .int .i64 Z.x.b, .int .i64 Z.x.boot, .int .i64 Z.x.first, .slice Z.oA Z.x.os.length Z.oc, .int .i64 Z.x.pos, .slice Z.rA Z.x.rs.length Z.rc, .int .i64 Z.x.start, .slice Z.eA Z.x.es.length Z.ec, .int .i64 Z.x.ack, .int .i64 Z.x.grant, .int .i64 Z.x.s, .int .i64 Z.x.t, .slice Z.gA Z.x.gs.length Z.gc] rfl ?_) | (refine El.store frRow rfl _ _ rfl n4 Z #[.int .i64 Z.x.a, .int .i64 Z.x.b, .int .i64 Z.x.boot, .int .i64 Z.x.first, .slice Z.oA Z.x.os.length Z.oc, .int .i64 Z.x.pos, .slice Z.rA Z.x.rs.length Z.rc, .int .i64 Z.x.start, .slice Z.eA Z.x.es.length Z.ec, .int .i64 Z.x.ack, .int .i64 Z.x.grant, .int .i64 Z.x.s, .int .i64 Z.x.t, .slice Z.gA Z.x.gs.length Z.gc] rfl rfl rfl zeroFw hZ ?_) | fail)
      refine El.ret1 frRow (hZ.set Z _ rfl) rfl rfl rfl _ rfl ?_
      exact ⟨Z, rfl, hok.keepZ19 hZ (by_row _ _ _), HV.out, HOF.out, below_setRow hB hw4 _⟩
end Go.Proofs.Ytnglpkfkepfkkaa
