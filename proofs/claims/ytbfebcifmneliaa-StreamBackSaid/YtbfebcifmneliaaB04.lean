/- Texts laid one behind the other: He, Hf, Hg, Hi, Hh, Hj, Hk, Hl, Ed. -/
import Derived.Test.YtbfebcifmneliaaB03
import Derived.Deep.CutBlock
/- The document's From and Print of streams. -/
namespace Go.Proofs.Ytbfebcifmneliaa
open Go.RowKit Nam Cod

theorem take_next {l : List En} {d m : Nat} (hd : d ≤ m) (h : m < l.length) : (l.drop d).take (m + 1 - d) = (l.drop d).take (m - d) ++ [l[m]] := by
  obtain ⟨j, rfl⟩ : ∃ j, m = d + j := ⟨m - d, by omega⟩
  have e1 : d + j + 1 - d = j + 1 := by omega
  have e2 : d + j - d = j := by omega
  rw [e1, e2, List.take_succ_eq_append_getElem (by rw [List.length_drop]; omega), List.getElem_drop]
set_option maxRecDepth 100000 in
set_option maxHeartbeats 4000000 in
theorem refSmFrom_any (y : Sw) (place most : Int) (w : World) (hn : SmN y.x) (hpl : -1000000000000000 ≤ place ∧ place ≤ 1000000000000000) (hok : y.ok w) :
    Calls Try.prog 15 #[.agg #[.int .i64 y.x.s, .int .i64 y.x.t, .int .i64 y.x.p, .slice y.A y.x.es.length y.c], .int .i64 place, .int .i64 most] w fun r w' => ∃ (A : Option Addr) (c : Nat), r = .returned (.tuple #[.int .i64 (fromP y.x place), .slice A (fromS y.x place most).length c]) ∧ SlV enE w' A c (fromS y.x place most) ∧ Below w.heap.size w w' := by
  have hP : smE.In (w.alloc (.cells #[.int .i64 y.x.s, .int .i64 y.x.t, .int .i64 y.x.p, .slice y.A y.x.es.length y.c] 27)) w.heap.size y := El.In.new (E := smE) w y _ rfl
  have hB := below_alloc (Below.refl w.heap.size w) (.cells #[.int .i64 y.x.s, .int .i64 y.x.t, .int .i64 y.x.p, .slice y.A y.x.es.length y.c] 27)
  have HT := Lib.hid hok.1
  have hs := hn.s
  have hl := hn.l
  obtain ⟨q, hq⟩ : ∃ q, max place y.x.s = q := ⟨_, rfl⟩
  obtain ⟨d, hd⟩ : ∃ d : Nat, q - y.x.s = d := ⟨(q - y.x.s).toNat, by omega⟩
  have HF := Lib.hid (show fromS y.x place most = (y.x.es.drop d).take most.toNat ∧ fromP y.x place = q + 1 from ⟨by unfold fromS; rw [hq, hd]; rfl, by unfold fromP; rw [hq]⟩)
  have hqb : -1000000000000000 ≤ q ∧ q ≤ 1000000000000000 := by omega
  have w1 : IntKind.i64.wrap (q - y.x.s) = (d : Int) := by rw [IntKind.wrap_i64]; omega
  have w2 : IntKind.i64.wrap (q + 1) = q + 1 := by rw [IntKind.wrap_i64]; omega
  have hdb : d ≤ 2000000000000000 := by omega
  obtain ⟨p0, p1, p2, p3⟩ := smIn4 hP
  have hmx : (place < y.x.s ∧ y.x.s = q ∧ Hid (d = 0)) ∨ (y.x.s ≤ place ∧ place = q ∧ Hid (0 = 0)) := by
    rcases Int.lt_or_le place y.x.s with h | h
    · exact Or.inl ⟨h, by omega, Lib.hid (by omega)⟩
    · exact Or.inr ⟨h, by omega, Lib.hid rfl⟩
  clear hn hok hq hd
  rcases hmx with ⟨hmx, hqq, HD0⟩ | ⟨hmx, hqq, HD0⟩
  all_goals
    subst hqq
    go_enter Try.func15, Try.ntmps15
    go_wp2_with fail
    clear p0 p1 p2 p3 w1
    generalize w.alloc (.cells #[.int .i64 y.x.s, .int .i64 y.x.t, .int .i64 y.x.p, .slice y.A y.x.es.length y.c] 27) = W0 at *
    obtain ⟨n1, hn1⟩ : ∃ n, w.heap.size = n := ⟨_, rfl⟩
    rw [hn1] at hP ⊢
    clear hn1
    obtain ⟨B, hBe⟩ : ∃ B, W0.heap.size = B := ⟨_, rfl⟩
    have hnB : n1 < B := by have := hP.lt; omega
    have hBw : B ≤ W0.heap.size := by omega
    have hwB : w.heap.size ≤ B := by have := hB.size; omega
    clear hBe
    go_loopw [8, 9] (fun v i wr => ∃ (m : Nat) (v1 : Value), Hid (d ≤ m ∧ m - d ≤ most.toNat ∧ m ≤ 3000000000000000) ∧ i = .int .i64 m ∧ v = v1 ∧ smE.In wr n1 y ∧ enE.Own wr B v1 ((y.x.es.drop d).take (m - d)) ∧ B ≤ wr.heap.size ∧ Below w.heap.size w wr) (fun _ i _ => y.x.es.length - (intOf i).toNat)
    case atStart => exact ⟨d, _, Lib.hid ⟨Nat.le_refl _, by omega, by omega⟩, (by first | rfl | (rw [HD0.out]; rfl)), rfl, hP, by rw [Nat.sub_self]; exact El.Own.nil W0 B, hBw, hB⟩
    case round =>
      clear hP hB hBw
      obtain ⟨m, v1, hm, rfl, rfl, hP, hO, hBw, hB⟩ := hrel
      obtain ⟨p0, p1, p2, p3⟩ := smIn4 hP
      by_cases hjn : m < y.x.es.length
      · have hlj : ((y.x.es.drop d).take (m - d)).length = m - d := by rw [List.length_take, List.length_drop]; omega
        have HNX := Lib.hid (take_next hm.out.1 hjn)
        obtain ⟨b, off, eA, hbw, hc⟩ := HT.out (by omega)
        have hx := enIdxH (cap := y.c) eA hjn
        have hat : enE.At wr b (off + m * 10) y.x.es[m] := (hc m hjn).below hB hbw
        have f1 : decide ((m : Int) < (y.x.es.length : Int)) = true := decide_eq_true (by omega)
        have f3 : (m : Int) < (y.x.es.length : Int) := by omega
        by_cases hjw : ((m - d : Nat) : Int) < most
        · obtain ⟨L, hL⟩ : ∃ L, (y.x.es.drop d).take (m - d) = L := ⟨_, rfl⟩
          rw [hL] at hO hlj HNX
          clear hL
          obtain ⟨x, hx0⟩ : ∃ x, y.x.es[m] = x := ⟨_, rfl⟩
          rw [hx0] at hat HNX
          clear hx0
          obtain ⟨A', c', rfl, _⟩ := SlV.own hO
          have hE : enE.Sl (wr.alloc (.cells #[.int .i64 x.k, .int .i64 x.d, .int .i64 x.i, .int .i64 x.o.C, .int .i64 x.o.D, .int .i64 x.o.I, .int .i64 x.o.M, .int .i64 x.o.K, .int .i64 x.o.U, .string x.o.s] 37)) (some ⟨wr.heap.size, 0, none⟩) [x] := (El.In.new (E := enE) wr x _ rfl).sl
          have hal := below_alloc (Below.refl wr.heap.size wr) (.cells #[.int .i64 x.k, .int .i64 x.d, .int .i64 x.i, .int .i64 x.o.C, .int .i64 x.o.D, .int .i64 x.o.I, .int .i64 x.o.M, .int .i64 x.o.K, .int .i64 x.o.U, .string x.o.s] 37)
          have hO2 := hO.below hal
          have hP2 := hP.below hal
          have hB2 := hB.trans (hal.mono hB.size)
          have hBw2 := Nat.le_trans hBw hal.size
          have f2 : decide ((L.length : Int) < most) = true := decide_eq_true (by omega)
          have HLJ := Lib.hid hlj
          have HJW := Lib.hid hjw
          clear hc eA hO hal hP hB hlj hBw hjw
          go_wp2_with (first | (refine El.load enRow rfl _ rfl b (off + m * 10) rfl x hat #[.int .i64 x.k, .int .i64 x.d, .int .i64 x.i, .int .i64 x.o.C, .int .i64 x.o.D, .int .i64 x.o.I, .int .i64 x.o.M, .int .i64 x.o.K, .int .i64 x.o.U, .string x.o.s] rfl ?_) | (at_builtin; refine El.wpList_app enInn rfl _ _ rfl B (.slice A' L.length c') L [x] rfl hO2 (some ⟨wr.heap.size, 0, none⟩) 1 1 rfl rfl hE (fun e => by cases e) (by have := HLJ.out; rw [List.length_singleton]; omega) hBw2 ?_; intro v3 w3 hO3 hg3 _; have hP3 := hP2.keep hg3 (fun e => by have := (hO2.lt _ e.symm).1; omega); have hB3 := hB2.grown hg3 hB2.size (fun k e => by have := (hO2.lt k e).1; omega); have hBw3 := Nat.le_trans hBw2 hg3.size; clear hO2 hP2 hB2 hBw2) | fail)
          exact ⟨⟨m + 1, v3, Lib.hid (by have := hm.out; have := HJW.out; omega), by go_num, rfl, hP3, by rw [HNX.out]; exact hO3, hBw3, hB3⟩, by simp [intOf]; omega⟩
        · have hje : m - d = most.toNat := by have := hm.out; omega
          have HR := Lib.hid (show (y.x.es.drop d).take (m - d) = fromS y.x place most by rw [HF.out.1, hje])
          rw [HR.out] at hO hlj
          obtain ⟨L, hL⟩ : ∃ L, fromS y.x place most = L := ⟨_, rfl⟩
          rw [hL] at hO hlj
          have HL := Lib.hid hL
          obtain ⟨A', c', rfl, hS⟩ := SlV.own hO
          have f2 : decide ((L.length : Int) < most) = false := decide_eq_false (by omega)
          clear hc eA hO hje hlj HR hjw hL
          go_wp2_with fail
          refine bodyPost_ret (results_tmp2 rfl _ _ _) rfl ?_
          exact ⟨A', c', by rw [HF.out.2, HL.out]; rfl, by rw [HL.out]; exact hS, hB⟩
      · have hje : (y.x.es.drop d).take (m - d) = fromS y.x place most := by
          have := hm.out
          rw [HF.out.1, List.take_of_length_le (by rw [List.length_drop]; omega), List.take_of_length_le (by rw [List.length_drop]; omega)]
        obtain ⟨L, hL⟩ : ∃ L, fromS y.x place most = L := ⟨_, rfl⟩
        rw [hje, hL] at hO
        have HL := Lib.hid hL
        obtain ⟨A', c', rfl, hS⟩ := SlV.own hO
        have f1 : decide ((m : Int) < (y.x.es.length : Int)) = false := decide_eq_false (by omega)
        have f4 : decide (m < y.x.es.length) = false := decide_eq_false hjn
        clear hO hje hL
        go_wp2_with fail
        refine bodyPost_ret (results_tmp2 rfl _ _ _) rfl ?_
        exact ⟨A', c', by rw [HF.out.2, HL.out]; rfl, by rw [HL.out]; exact hS, hB⟩

theorem entBytes_le {e : En} (h : EnW e) (hs : e.o.s.size ≤ 1000000) : (entBytes e).size ≤ 1000100 := by
  have h1 := bytesOf_le10 h.k
  have h2 := bytesOf_le10 h.d
  have h3 := bytesOf_le10 h.i
  have h4 := mvBytes_le h.o hs
  unfold entBytes
  split
  · rw [ByteArray.size_append]; omega
  · rw [ByteArray.size_append, ByteArray.size_append]; omega
theorem ecat_le2 : ∀ l : List En, (∀ e ∈ l, EnW e ∧ e.o.s.size ≤ 1000000) → (ecat l).size ≤ 1000100 * l.length
  | [], _ => Nat.zero_le _
  | e :: l, h => by
    have h1 := entBytes_le (h e (by simp)).1 (h e (by simp)).2
    have h2 := ecat_le2 l (fun x hx => h x (by simp [hx]))
    rw [ecat, ByteArray.size_append, List.length_cons]; omega
set_option maxRecDepth 100000 in
set_option maxHeartbeats 4000000 in
theorem refSmPrint_any (y : Sw) (w : World) (hn : SmN y.x) (hok : y.ok w) (hw : ∀ e ∈ y.x.es, EnW e ∧ e.o.s.size ≤ 1000000) :
    Calls Try.prog 22 #[.agg #[.int .i64 y.x.s, .int .i64 y.x.t, .int .i64 y.x.p, .slice y.A y.x.es.length y.c]] w fun r w' => r = .returned (.string (stmBytes y.x)) ∧ Below w.heap.size w w' := by
  have hP : smE.In (w.alloc (.cells #[.int .i64 y.x.s, .int .i64 y.x.t, .int .i64 y.x.p, .slice y.A y.x.es.length y.c] 27)) w.heap.size y := El.In.new (E := smE) w y _ rfl
  have hB := below_alloc (Below.refl w.heap.size w) (.cells #[.int .i64 y.x.s, .int .i64 y.x.t, .int .i64 y.x.p, .slice y.A y.x.es.length y.c] 27)
  have HT := Lib.hid hok.1
  have HW := Lib.hid hw
  have hs := hn.s
  have ht := hn.t
  have hp := hn.p
  have hl := hn.l
  have C1 := Lib.hid (fun wx => refNum_any y.x.s wx (by omega) (by omega))
  have C2 := Lib.hid (fun wx => refNum_any y.x.t wx (by omega) (by omega))
  have C3 := Lib.hid (fun wx => refNum_any y.x.p wx (by omega) (by omega))
  have z1 := bytesOf_le10 (n := y.x.s) (by unfold i64; omega)
  have z2 := bytesOf_le10 (n := y.x.t) (by unfold i64; omega)
  have z3 := bytesOf_le10 (n := y.x.p) (by unfold i64; omega)
  have HV := Lib.hid (show stmBytes y.x = bytesOf y.x.s ++ bytesOf y.x.t ++ bytesOf y.x.p ++ ecat y.x.es from rfl)
  generalize bytesOf y.x.s = x1 at *
  generalize bytesOf y.x.t = x2 at *
  generalize bytesOf y.x.p = x3 at *
  obtain ⟨p0, p1, p2, p3⟩ := smIn4 hP
  clear hn hok hw
  go_enter Try.func22, Try.ntmps22
  go_wp2_with fail
  generalize w.alloc (.cells #[.int .i64 y.x.s, .int .i64 y.x.t, .int .i64 y.x.p, .slice y.A y.x.es.length y.c] 27) = W at *
  obtain ⟨n1, hn1⟩ : ∃ n, w.heap.size = n := ⟨_, rfl⟩
  rw [hn1] at p0 p1 p2 p3 hP ⊢
  clear hn1
  have k0 := cell_regrown p0
  have k1 := cell_regrown p1
  have k2 := cell_regrown p2
  clear p0 p1 p2 p3
  have d1 : ∀ d os, Calls Try.prog 37 #[.int .i64 y.x.s] (Sort.grow (redrawn W d) os) fun e w'' => e = .returned (.string x1) ∧ ∃ p : Regrown, w'' = Sort.grow (redrawn W p.d) p.os := fun d os => Calls.regrown_of (C1.out _)
  have d2 : ∀ d os, Calls Try.prog 37 #[.int .i64 y.x.t] (Sort.grow (redrawn W d) os) fun e w'' => e = .returned (.string x2) ∧ ∃ p : Regrown, w'' = Sort.grow (redrawn W p.d) p.os := fun d os => Calls.regrown_of (C2.out _)
  have d3 : ∀ d os, Calls Try.prog 37 #[.int .i64 y.x.p] (Sort.grow (redrawn W d) os) fun e w'' => e = .returned (.string x3) ∧ ∃ p : Regrown, w'' = Sort.grow (redrawn W p.d) p.os := fun d os => Calls.regrown_of (C3.out _)
  refine wp_region_quiet_below (by kernel_rfl) (by kernel_rfl) ?_
  repeat (go_big_quiet_step ((with_reducible (first | exact d1 _ _ | exact d2 _ _ | exact d3 _ _))))
  refine wpQuiet_nil ?_
  intro _ hw'
  obtain ⟨⟨dq, osq⟩, hw''⟩ := hw'
  subst hw''
  clear d1 d2 d3 k0 k1 k2 C1 C2 C3
  have hgr := below_regrown W dq osq
  replace hP := hP.below hgr
  replace hB := below_then hB hgr
  clear hgr
  generalize Sort.grow (redrawn W dq) osq = W1 at *
  have hpre : (x1 ++ x2 ++ x3).size ≤ 30 := by rw [ByteArray.size_append, ByteArray.size_append]; omega
  go_wp2_with fail
  clear z1 z2 z3
  generalize x1 ++ x2 ++ x3 = X at *
  go_loopw [3, 4] (fun v i wr => ∃ k : Nat, k ≤ y.x.es.length ∧ i = .int .i64 k ∧ v = .string (X ++ ecat (y.x.es.take k)) ∧ smE.In wr n1 y ∧ Below w.heap.size w wr) (fun _ i _ => y.x.es.length - (intOf i).toNat)
  case atStart =>
    refine ⟨0, Nat.zero_le _, rfl, ?_, hP, hB⟩
    rw [List.take_zero, show X ++ ecat [] = X from L_inj (by rw [L_app]; show L X ++ L ⟨#[]⟩ = _; simp [L])]
  case round =>
    clear hP hB
    obtain ⟨k, hk, rfl, rfl, hP, hB⟩ := hrel
    obtain ⟨p0, p1, p2, p3⟩ := smIn4 hP
    by_cases hkl : k < y.x.es.length
    · obtain ⟨b, off, eA, hbw, hc⟩ := HT.out (by omega)
      have hx := enIdxH (cap := y.c) eA hkl
      have hat : enE.At wr b (off + k * 10) y.x.es[k] := (hc k hkl).below hB hbw
      obtain ⟨hwd, hsz⟩ := HW.out y.x.es[k] (List.getElem_mem _)
      have HCN := Lib.hid (show X ++ ecat (y.x.es.take (k + 1)) = X ++ ecat (y.x.es.take k) ++ entBytes y.x.es[k] by rw [ecat_next _ k hkl, ByteArray.append_assoc])
      have hle := ecat_le2 (y.x.es.take k) (fun e he => HW.out e (List.mem_of_mem_take he))
      rw [List.length_take] at hle
      have hxl := entBytes_le hwd hsz
      have hsm : (X ++ ecat (y.x.es.take k)).size ≤ 60000000000 := by rw [ByteArray.size_append]; omega
      generalize y.x.es[k] = x at *
      have HP := Lib.hid (fun wx => refEntPrint_any x wx hwd hsz)
      generalize X ++ ecat (y.x.es.take k) = T at *
      generalize entBytes x = P at *
      clear hc eA hwd hle
      go_wp2_with (first | (refine El.load enRow rfl _ rfl b (off + k * 10) rfl x hat #[.int .i64 x.k, .int .i64 x.d, .int .i64 x.i, .int .i64 x.o.C, .int .i64 x.o.D, .int .i64 x.o.I, .int .i64 x.o.M, .int .i64 x.o.K, .int .i64 x.o.U, .string x.o.s] rfl ?_) | fail)
      refine (HP.out _).mono ?_
      rintro r w2 ⟨rfl, hb2⟩
      replace hP := hP.below hb2
      replace hB := below_then hB hb2
      clear p0 p1 p2 p3
      go_wp2_with fail
      exact ⟨⟨k + 1, by omega, by go_num, by rw [HCN.out], hP, hB⟩, by simp [intOf]; omega⟩
    · obtain rfl : k = y.x.es.length := by omega
      have hV : X ++ ecat (y.x.es.take y.x.es.length) = stmBytes y.x := by rw [List.take_length, HV.out]
      rw [hV]
      clear hV
      go_wp2_with fail
      go_ret
      exact ⟨rfl, hB⟩
end Go.Proofs.Ytbfebcifmneliaa

/- Of law 12: steps in memory; some, step. -/
namespace Go.Proofs.Ytbfebcifmneliaa
open Go.RowKit Nam Cod

structure Aw where
  A : Option Addr
  c : Nat
  v : Ac
def acE : El Aw where
  e := 30
  k := 4
  c y := [.int .i64 y.v.k, .int .i64 y.v.a, .int .i64 y.v.b, .slice y.A y.v.es.length y.c]
  len _ := rfl
  one p u h := by
    simp only [List.mem_cons, List.not_mem_nil, or_false] at h
    rcases h with rfl | rfl | rfl | rfl <;> rfl
  pos := by decide
theorem acRow : acE.Row Try.prog := ⟨by kernel_rfl, _, Try.underlying30, rfl⟩
theorem acIn4 {w : World} {b : Nat} {y : Aw} (h : acE.In w b y) : w.cell? ⟨b, 0, none⟩ = some (.int .i64 y.v.k) ∧ w.cell? ⟨b, 1, none⟩ = some (.int .i64 y.v.a) ∧ w.cell? ⟨b, 2, none⟩ = some (.int .i64 y.v.b) ∧ w.cell? ⟨b, 3, none⟩ = some (.slice y.A y.v.es.length y.c) :=
  ⟨h.cell 0, h.cell 1, h.cell 2, h.cell 3⟩
def Aw.ok (y : Aw) (w : World) : Prop := SlV enE w y.A y.c y.v.es
theorem Aw.ok.below {y : Aw} {W w : World} (h : y.ok W) (hb : Below W.heap.size W w) : y.ok w := SlV.below h hb

set_option maxRecDepth 100000 in
set_option maxHeartbeats 2000000 in
theorem some12_any (n : Nat) (hn : n ≤ 1000000000000000) (w : World) : Calls Try.prog 11 #[.int .i64 n] w fun r w' => r = .returned (.agg #[.int .i64 (someE n).k, .int .i64 (someE n).d, .int .i64 (someE n).i, .int .i64 (someE n).o.C, .int .i64 (someE n).o.D, .int .i64 (someE n).o.I, .int .i64 (someE n).o.M, .int .i64 (someE n).o.K, .int .i64 (someE n).o.U, .string (someE n).o.s]) ∧ Below w.heap.size w w' := by
  have h3 : IntKind.i64.wrap (1 + (n : Int) % 100) = 1 + (n : Int) % 100 := by rw [IntKind.wrap_i64]; omega
  have hZ : enE.In (w.alloc (.cells #[.int .i64 0, .int .i64 0, .int .i64 0, .int .i64 0, .int .i64 0, .int .i64 0, .int .i64 0, .int .i64 0, .int .i64 0, .string ⟨#[]⟩] 37)) w.heap.size zeroEn := El.In.new (E := enE) w zeroEn #[.int .i64 0, .int .i64 0, .int .i64 0, .int .i64 0, .int .i64 0, .int .i64 0, .int .i64 0, .int .i64 0, .int .i64 0, .string ⟨#[]⟩] rfl
  have hB := below_alloc (Below.refl w.heap.size w) (.cells #[.int .i64 0, .int .i64 0, .int .i64 0, .int .i64 0, .int .i64 0, .int .i64 0, .int .i64 0, .int .i64 0, .int .i64 0, .string ⟨#[]⟩] 37)
  go_enter Try.func11, Try.ntmps11
  go_wp2_with (first | (refine El.store enRow rfl _ _ rfl w.heap.size (someE n) #[.int .i64 2, .int .i64 ((n : Int) % 8), .int .i64 (1 + (n : Int) % 100), .int .i64 0, .int .i64 0, .int .i64 0, .int .i64 0, .int .i64 0, .int .i64 0, .string ⟨#[]⟩] rfl rfl rfl zeroEn hZ ?_) | fail)
  refine El.ret1 enRow (hZ.set (someE n) _ rfl) rfl rfl rfl _ rfl ?_
  exact ⟨rfl, below_setRow hB (Nat.le_refl _) _⟩

def PS4 (n1 : Nat) (z : Sw) (w : World) : Prop := w.cell? ⟨n1, 0, none⟩ = some (.int .i64 z.x.s) ∧ w.cell? ⟨n1, 1, none⟩ = some (.int .i64 z.x.t) ∧ w.cell? ⟨n1, 2, none⟩ = some (.int .i64 z.x.p) ∧ w.cell? ⟨n1, 3, none⟩ = some (.slice z.A z.x.es.length z.c)
set_option maxRecDepth 100000 in
set_option maxHeartbeats 2000000 in
theorem step12_any (H : StreamCalls) (y : Sw) (a : Aw) (w : World) (hn : SmN y.x) (hr : SmR y.x) (ha : -1000000000000000 ≤ a.v.a ∧ a.v.a ≤ 1000000000000000) (hl : a.v.es.length ≤ 5000) (hy : y.ok w) (hv : a.ok w) : Calls Try.prog 9 #[.agg #[.int .i64 y.x.s, .int .i64 y.x.t, .int .i64 y.x.p, .slice y.A y.x.es.length y.c], .agg #[.int .i64 a.v.k, .int .i64 a.v.a, .int .i64 a.v.b, .slice a.A a.v.es.length a.c]] w fun r w' => ∃ z : Sw, r = .returned (.agg #[.int .i64 z.x.s, .int .i64 z.x.t, .int .i64 z.x.p, .slice z.A z.x.es.length z.c]) ∧ z.x = stepS y.x a.v ∧ z.ok w' ∧ Below w.heap.size w w' := by
  have hP : smE.In (((w.alloc (.cells #[.int .i64 y.x.s, .int .i64 y.x.t, .int .i64 y.x.p, .slice y.A y.x.es.length y.c] 27)).alloc (.cells #[.int .i64 a.v.k, .int .i64 a.v.a, .int .i64 a.v.b, .slice a.A a.v.es.length a.c] 30)).alloc (.cells #[.int .i64 0, .int .i64 0, .int .i64 0, .slice none 0 0] 27)) w.heap.size y := ((El.In.new (E := smE) w y _ rfl).alloc _).alloc _
  have hZ : smE.In (((w.alloc (.cells #[.int .i64 y.x.s, .int .i64 y.x.t, .int .i64 y.x.p, .slice y.A y.x.es.length y.c] 27)).alloc (.cells #[.int .i64 a.v.k, .int .i64 a.v.a, .int .i64 a.v.b, .slice a.A a.v.es.length a.c] 30)).alloc (.cells #[.int .i64 0, .int .i64 0, .int .i64 0, .slice none 0 0] 27)) (w.heap.size + 2) zeroSw := by
    have h := El.In.new (E := smE) ((w.alloc (.cells #[.int .i64 y.x.s, .int .i64 y.x.t, .int .i64 y.x.p, .slice y.A y.x.es.length y.c] 27)).alloc (.cells #[.int .i64 a.v.k, .int .i64 a.v.a, .int .i64 a.v.b, .slice a.A a.v.es.length a.c] 30)) zeroSw #[.int .i64 0, .int .i64 0, .int .i64 0, .slice none 0 0] rfl
    rw [alloc_size, alloc_size] at h
    exact h
  have hB := below_alloc (below_alloc (below_alloc (Below.refl w.heap.size w) (.cells #[.int .i64 y.x.s, .int .i64 y.x.t, .int .i64 y.x.p, .slice y.A y.x.es.length y.c] 27)) (.cells #[.int .i64 a.v.k, .int .i64 a.v.a, .int .i64 a.v.b, .slice a.A a.v.es.length a.c] 30)) (.cells #[.int .i64 0, .int .i64 0, .int .i64 0, .slice none 0 0] 27)
  have HY := Lib.hid (fun (wx : World) (hb : Below w.heap.size w wx) => hy.below hb)
  have HV := Lib.hid (fun (wx : World) (hb : Below w.heap.size w wx) => hv.below hb)
  have HN := Lib.hid hn
  have HR := Lib.hid hr
  have hpp : 0 ≤ y.x.p ∧ y.x.p ≤ 1000000000000000 := ⟨by have := hr.s0; have := hr.sp; omega, hn.p.2⟩
  clear hy hv hn hr
  go_enter Try.func9, Try.ntmps9
  by_cases k0 : a.v.k = 0
  · have e0 : (a.v.k == 0) = true := by simp [k0]
    have hs : stepS y.x a.v = pushS y.x (someE y.x.p) := by unfold stepS; rw [if_pos k0]
    have HS := Lib.hid hs
    clear k0 hs
    go_wp2_with fail
    generalize (((w.alloc (.cells #[.int .i64 y.x.s, .int .i64 y.x.t, .int .i64 y.x.p, .slice y.A y.x.es.length y.c] 27)).alloc (.cells #[.int .i64 a.v.k, .int .i64 a.v.a, .int .i64 a.v.b, .slice a.A a.v.es.length a.c] 30)).alloc (.cells #[.int .i64 0, .int .i64 0, .int .i64 0, .slice none 0 0] 27)) = W at *
    obtain ⟨n1, hn1⟩ : ∃ n, w.heap.size = n := ⟨_, rfl⟩
    have hn2 : w.heap.size ≤ n1 + 2 := by omega
    rw [hn1] at hP hZ ⊢
    clear hn1
    obtain ⟨p, hp⟩ : ∃ p : Nat, y.x.p = p := ⟨y.x.p.toNat, by omega⟩
    have HSO := Lib.hid (fun wx => by
      have h := some12_any p (by omega) wx
      rw [← hp] at h
      exact h)
    clear hp
    have CP := Lib.hid (fun (wx : World) (hb : Below w.heap.size w wx) => H.push y (someE y.x.p) wx HN.out (HY.out _ hb))
    generalize someE y.x.p = x at *
    refine region_anyG (S := PS4 n1 y) 5 (by kernel_rfl) ?_
    replace hP : smE.In W.drew n1 y := hP
    replace hZ : smE.In W.drew (n1 + 2) zeroSw := hZ
    replace hB := hB.drew
    generalize W.drew = U at *
    have hS : PS4 n1 y U := smIn4 hP
    refine anyG_take (i := 0) (v := .agg #[.int .i64 y.x.s, .int .i64 y.x.t, .int .i64 y.x.p, .slice y.A y.x.es.length y.c]) rfl (by kernel_rfl) (by kernel_rfl) (by kernel_rfl) (by kernel_rfl) (by kernel_rfl) (fun _ _ _ h => h) (Or.inl ⟨by rfl, fun w' hSw => by (obtain ⟨m0, m1, m2, m3⟩ := hSw; go_simp)⟩) hS ?_
    try simp only [Act.put, List.setIfInBounds_toArray, List.set_cons_zero, List.set_cons_succ]
    refine anyG_take (i := 1) (v := .pointer (some ⟨n1, 2, none⟩)) rfl (by kernel_rfl) (by kernel_rfl) (by kernel_rfl) (by kernel_rfl) (by kernel_rfl) (fun _ _ _ h => h) (Or.inl ⟨by rfl, fun w' hSw => by (obtain ⟨m0, m1, m2, m3⟩ := hSw; go_simp)⟩) hS ?_
    try simp only [Act.put, List.setIfInBounds_toArray, List.set_cons_zero, List.set_cons_succ]
    refine anyG_take (i := 2) (v := .int .i64 y.x.p) rfl (by kernel_rfl) (by kernel_rfl) (by kernel_rfl) (by kernel_rfl) (by kernel_rfl) (fun _ _ _ h => h) (Or.inl ⟨by rfl, fun w' hSw => by (obtain ⟨m0, m1, m2, m3⟩ := hSw; go_simp)⟩) hS ?_
    try simp only [Act.put, List.setIfInBounds_toArray, List.set_cons_zero, List.set_cons_succ]
    refine anyG_step (rs := [3]) (by kernel_rfl) (by simp) ?_
    refine AllG.cons rfl (fun K hK => ?_) AllG.nil
    go_simp
    refine (HSO.out U).mono ?_
    rintro r w1 ⟨rfl, hb1⟩
    replace hP := hP.below hb1
    replace hZ := hZ.below hb1
    replace hB := hB.trans (hb1.mono hB.size)
    clear hb1 hS HSO
    try go_wp2_with fail
    have hS : PS4 n1 y w1 := smIn4 hP
    refine hK.out _ _ hS ?_
    try simp only [Act.put, List.setIfInBounds_toArray, List.set_cons_zero, List.set_cons_succ]
    clear hK
    refine anyG_step (rs := [4]) (by kernel_rfl) (by simp) ?_
    refine AllG.cons rfl (fun K hK => ?_) AllG.nil
    go_simp
    refine (CP.out w1 hB).mono ?_
    rintro r w2 ⟨z, rfl, hz0, ho, hb2⟩
    have hz := Lib.hid hz0
    clear hz0
    replace hP := hP.below hb2
    replace hZ := hZ.below hb2
    replace hB := hB.trans (hb2.mono hB.size)
    clear hS CP
    try go_wp2_with fail
    refine hK.out _ _ (smIn4 hP : PS4 n1 y w2) ?_
    try simp only [Act.put, List.setIfInBounds_toArray, List.set_cons_zero, List.set_cons_succ]
    clear hK
    refine anyG_step (rs := [5]) (by kernel_rfl) (by simp) ?_
    refine AllG.last (n := 5) rfl (fun K hK => ?_)
    refine El.step_store smRow rfl _ _ rfl (n1 + 2) z #[.int .i64 z.x.s, .int .i64 z.x.t, .int .i64 z.x.p, .slice z.A z.x.es.length z.c] rfl rfl rfl zeroSw hZ ?_
    refine hK.out _ _ ?_
    clear hK
    refine anyG_done (by kernel_rfl) ?_ _
    go_wp2_with fail
    refine El.ret1 smRow (hZ.set z _ rfl) rfl rfl rfl _ rfl ?_
    exact ⟨z, rfl, hz.out.trans HS.out.symm, SlV.keepN ho (by_row _ (n1 + 2) _) (sm_off ho.1 hZ), below_setRow hB hn2 _⟩
  · have e0 : (a.v.k == 0) = false := by simp [k0]
    by_cases k1 : a.v.k = 1
    · have e1 : (a.v.k == 1) = true := by simp [k1]
      have hs : stepS y.x a.v = takeS y.x a.v.a a.v.es := by unfold stepS; rw [if_neg k0, if_pos k1]
      have HS := Lib.hid hs
      clear k0 k1 hs
      go_wp2_with fail
      generalize (((w.alloc (.cells #[.int .i64 y.x.s, .int .i64 y.x.t, .int .i64 y.x.p, .slice y.A y.x.es.length y.c] 27)).alloc (.cells #[.int .i64 a.v.k, .int .i64 a.v.a, .int .i64 a.v.b, .slice a.A a.v.es.length a.c] 30)).alloc (.cells #[.int .i64 0, .int .i64 0, .int .i64 0, .slice none 0 0] 27)) = W at *
      obtain ⟨n1, hn1⟩ : ∃ n, w.heap.size = n := ⟨_, rfl⟩
      have hn2 : w.heap.size ≤ n1 + 2 := by omega
      rw [hn1] at hP hZ ⊢
      clear hn1
      refine (H.take y a.v.a a.A a.c a.v.es W HN.out ha hl (HY.out _ hB) (HV.out _ hB)).mono ?_
      rintro r w2 ⟨z, rfl, hz0, ho, hb2⟩
      have hz := Lib.hid hz0
      clear hz0
      replace hZ := hZ.below hb2
      replace hB := hB.trans (hb2.mono hB.size)
      clear hb2
      go_wp2_with (first | (refine El.store smRow rfl _ _ rfl (n1 + 2) z #[.int .i64 z.x.s, .int .i64 z.x.t, .int .i64 z.x.p, .slice z.A z.x.es.length z.c] rfl rfl rfl zeroSw hZ ?_) | fail)
      refine El.ret1 smRow (hZ.set z _ rfl) rfl rfl rfl _ rfl ?_
      exact ⟨z, rfl, hz.out.trans HS.out.symm, SlV.keepN ho (by_row _ (n1 + 2) _) (sm_off ho.1 hZ), below_setRow hB hn2 _⟩
    · have e1 : (a.v.k == 1) = false := by simp [k1]
      by_cases k2 : a.v.k = 2
      · have e2 : (a.v.k == 2) = true := by simp [k2]
        have hs : stepS y.x a.v = settleS y.x a.v.a a.v.b := by unfold stepS; rw [if_neg k0, if_neg k1, if_pos k2]
        have HS := Lib.hid hs
        clear k0 k1 k2 hs
        go_wp2_with fail
        generalize (((w.alloc (.cells #[.int .i64 y.x.s, .int .i64 y.x.t, .int .i64 y.x.p, .slice y.A y.x.es.length y.c] 27)).alloc (.cells #[.int .i64 a.v.k, .int .i64 a.v.a, .int .i64 a.v.b, .slice a.A a.v.es.length a.c] 30)).alloc (.cells #[.int .i64 0, .int .i64 0, .int .i64 0, .slice none 0 0] 27)) = W at *
        obtain ⟨n1, hn1⟩ : ∃ n, w.heap.size = n := ⟨_, rfl⟩
        have hn2 : w.heap.size ≤ n1 + 2 := by omega
        rw [hn1] at hP hZ ⊢
        clear hn1
        refine (H.settle y a.v.a a.v.b W HN.out HR.out ha (HY.out _ hB)).mono ?_
        rintro r w2 ⟨z, rfl, hz0, ho, hb2⟩
        have hz := Lib.hid hz0
        clear hz0
        replace hZ := hZ.below hb2
        replace hB := hB.trans (hb2.mono hB.size)
        clear hb2
        go_wp2_with (first | (refine El.store smRow rfl _ _ rfl (n1 + 2) z #[.int .i64 z.x.s, .int .i64 z.x.t, .int .i64 z.x.p, .slice z.A z.x.es.length z.c] rfl rfl rfl zeroSw hZ ?_) | fail)
        refine El.ret1 smRow (hZ.set z _ rfl) rfl rfl rfl _ rfl ?_
        exact ⟨z, rfl, hz.out.trans HS.out.symm, SlV.keepN ho (by_row _ (n1 + 2) _) (sm_off ho.1 hZ), below_setRow hB hn2 _⟩
      · have e2 : (a.v.k == 2) = false := by simp [k2]
        have hs : stepS y.x a.v = y.x := by unfold stepS; rw [if_neg k0, if_neg k1, if_neg k2]
        have HS := Lib.hid hs
        clear k0 k1 k2 hs
        go_wp2_with (first | (refine El.store smRow rfl _ _ rfl (w.heap.size + 2) y #[.int .i64 y.x.s, .int .i64 y.x.t, .int .i64 y.x.p, .slice y.A y.x.es.length y.c] rfl rfl rfl zeroSw hZ ?_) | fail)
        refine El.ret1 smRow (hZ.set y _ rfl) rfl rfl rfl _ rfl ?_
        exact ⟨y, rfl, HS.out.symm, HY.out _ (below_setRow hB (by omega) _), below_setRow hB (by omega) _⟩
end Go.Proofs.Ytbfebcifmneliaa

/- Of law 12: fine. -/
namespace Go.Proofs.Ytbfebcifmneliaa
open Go.RowKit Nam Cod

theorem acIdxH {A : Option Addr} {b off len cap k : Nat} (hA : A = some ⟨b, off, none⟩) (h : k < len) : ∀ w, (Instr.indexAt 22 (.slice A len cap) (.int .i64 k)).run Try.prog w = .ok (.pointer (some ⟨b, off + k * 4, none⟩)) w := fun w => by
  subst hA
  have h2 : (k : Int) < (len : Int) := by omega
  go_simp
theorem acAtH {w : World} {b o : Nat} {y : Aw} (h : acE.At w b o y) : w.cell? ⟨b, o, none⟩ = some (.int .i64 y.v.k) ∧ w.cell? ⟨b, o + 1, none⟩ = some (.int .i64 y.v.a) ∧ w.cell? ⟨b, o + 2, none⟩ = some (.int .i64 y.v.b) ∧ w.cell? ⟨b, o + 3, none⟩ = some (.slice y.A y.v.es.length y.c) :=
  ⟨h 0 _ rfl, h 1 _ rfl, h 2 _ rfl, h 3 _ rfl⟩
/-- A slice of steps, and what they hold. -/
def AcsV (w : World) (A : Option Addr) (l : List Aw) : Prop := acE.Sl w A l ∧ ∀ a ∈ l, a.ok w ∧ ∀ e ∈ a.v.es, e.o.s.size ≤ 9223372036854775807
theorem AcsV.below {W w : World} {A : Option Addr} {l : List Aw} (h : AcsV W A l) (hb : Below W.heap.size W w) : AcsV w A l := ⟨h.1.below hb, fun a ha => ⟨(h.2 a ha).1.below hb, (h.2 a ha).2⟩⟩
def acts (l : List Aw) : List Ac := l.map (·.v)

set_option maxRecDepth 100000 in
set_option maxHeartbeats 4000000 in
theorem fine12_any (A : Option Addr) (c : Nat) (l : List Aw) (w : World) (hL : AcsV w A l) (bv : Bool) (hbv : bv = true ↔ fineL (acts l)) : Calls Try.prog 7 #[.slice A l.length c] w fun r w' => r = .returned (.bool bv) ∧ Below w.heap.size w w' := by
  have HBV := Lib.hid hbv
  have HL := Lib.hid hL
  have hlen : (acts l).length = l.length := List.length_map _
  have HLEN := Lib.hid hlen
  clear hbv hL hlen
  have NO : ¬ fineL (acts l) → bv = false := fun h => by
    cases bv
    · rfl
    · exact absurd (HBV.out.1 rfl) h
  go_enter Try.func7, Try.ntmps7
  by_cases h60 : l.length ≤ 60
  · have hN := Below.refl w.heap.size w
    have HC0 := Lib.hid (fun (j : Nat) (h : j < l.length) (hj : j < 0) => (absurd hj (Nat.not_lt_zero j) : fineC l[j].v))
    go_wp2_with fail
    go_loopw [3] (fun i wr => ∃ k : Nat, k ≤ l.length ∧ i = .int .i64 k ∧ Hid (∀ (j : Nat) (h : j < l.length), j < k → fineC l[j].v) ∧ Below w.heap.size w wr) (fun i _ => l.length - (intOf i).toNat)
    case atStart => exact ⟨0, Nat.zero_le _, rfl, HC0, hN⟩
    case round =>
      clear hN HC0
      obtain ⟨k, hk, rfl, HC, hN⟩ := hrel
      by_cases hkl : k < l.length
      · obtain ⟨b, off, eA, hbw, hc⟩ := HL.out.1 (by omega)
        have hx := acIdxH (cap := c) eA hkl
        have hat : acE.At wr b (off + k * 4) l[k] := (hc k hkl).below hN hbw
        have HOK := Lib.hid (HL.out.2 l[k] (List.getElem_mem hkl))
        have NOK : ¬ fineC l[k].v → bv = false := fun h => NO (fun hf => h (hf.2 _ (List.mem_map.2 ⟨l[k], List.getElem_mem hkl, rfl⟩)))
        have YES : fineC l[k].v → Hid (∀ (j : Nat) (h : j < l.length), j < k + 1 → fineC l[j].v) := fun h => Lib.hid (fun j hj hjk => by
          by_cases e : j < k
          · exact HC.out j hj e
          · obtain rfl : j = k := by omega
            exact h)
        generalize l[k] = x at *
        obtain ⟨q0, q1, q2, q3⟩ := acAtH hat
        obtain ⟨xA, xc, xk, xa, xb, xes⟩ := x
        dsimp only at q0 q1 q2 q3 HOK NOK YES
        clear hc eA
        replace NOK := Lib.hid NOK
        replace YES := Lib.hid YES
        replace NO := Lib.hid NO
        by_cases c1 : xes.length ≤ 20
        · by_cases c2 : -1000 ≤ xa
          · by_cases c3 : xa ≤ 1000000
            · by_cases c4 : 0 ≤ xb
              · by_cases c5 : xb ≤ 1000000
                · have HD0 := Lib.hid (fun (j : Nat) (h : j < xes.length) (hj : j < 0) => (absurd hj (Nat.not_lt_zero j) : entB xes[j] = true))
                  go_wp2_with fail
                  go_loopw [4] (fun i2 ws => ∃ m : Nat, m ≤ xes.length ∧ i2 = .int .i64 m ∧ Hid (∀ (j : Nat) (h : j < xes.length), j < m → entB xes[j] = true) ∧ acE.At ws b (off + k * 4) ⟨xA, xc, ⟨xk, xa, xb, xes⟩⟩ ∧ Below w.heap.size w ws) (fun i2 _ => xes.length - (intOf i2).toNat)
                  case atStart => exact ⟨0, Nat.zero_le _, rfl, HD0, hat, hN⟩
                  case round =>
                    clear hN HD0 q0 q1 q2 q3 hat
                    obtain ⟨m, hm, rfl, HD, hat, hN⟩ := hrel
                    obtain ⟨q0, q1, q2, q3⟩ := acAtH hat
                    dsimp only at q0 q1 q2 q3
                    by_cases hml : m < xes.length
                    · have HE : enE.Sl w xA xes := HOK.out.1.1
                      obtain ⟨b2, off2, eE, hbw2, hc2⟩ := HE (by omega)
                      have hy := enIdxH (cap := xc) eE hml
                      have hat2 : enE.At _ b2 (off2 + m * 10) xes[m] := (hc2 m hml).below hN hbw2
                      have HR := Lib.hid (fun wx => refEntRight_any xes[m] wx (HOK.out.2 _ (List.getElem_mem hml)))
                      have NOE : entB xes[m] = false → bv = false := fun h => NOK.out (fun hf => by
                        have := hf.2.2.2.2.2 _ (List.getElem_mem hml)
                        rw [h] at this
                        cases this)
                      have YESE : entB xes[m] = true → Hid (∀ (j : Nat) (h : j < xes.length), j < m + 1 → entB xes[j] = true) := fun h => Lib.hid (fun j hj hjm => by
                        by_cases e : j < m
                        · exact HD.out j hj e
                        · obtain rfl : j = m := by omega
                          exact h)
                      replace NOE := Lib.hid NOE
                      replace YESE := Lib.hid YESE
                      generalize xes[m] = x at *
                      obtain ⟨s0, s1, s2, s3, s4, s5, s6, s7, s8, s9⟩ := enAtH hat2
                      clear hc2 eE HE hat2
                      go_wp2_with fail
                      clear s0 s1 s2 s3 s4 s5 s6 s7 s8 s9 q0 q1 q2 q3
                      refine (HR.out _).mono ?_
                      rintro r w2 ⟨rfl, hb2⟩
                      have hbr := Nat.lt_of_lt_of_le hbw hN.size
                      replace hat := hat.below hb2 hbr
                      replace hN := hN.trans (hb2.mono hN.size)
                      clear hb2 HR
                      cases hx2 : entB x
                      · obtain rfl := NOE.out hx2
                        clear hx2
                        go_wp2_with fail
                        go_ret
                        exact ⟨rfl, hN⟩
                      · replace YESE := YESE.out hx2
                        clear hx2
                        go_wp2_with fail
                        exact ⟨⟨m + 1, by omega, by go_num, YESE, hat, hN⟩, by simp [intOf]; omega⟩
                    · obtain rfl : m = xes.length := by omega
                      replace YES := YES.out ⟨c1, c2, c3, c4, c5, fun e he => by
                        obtain ⟨j, hj, rfl⟩ := List.mem_iff_getElem.1 he
                        exact HD.out j hj hj⟩
                      go_wp2_with fail
                      exact ⟨⟨k + 1, by omega, by go_num, YES, hN⟩, by simp [intOf]; omega⟩
                · obtain rfl := NOK.out (fun h => c5 h.2.2.2.2.1)
                  go_wp2_with fail
                  go_ret
                  exact ⟨rfl, hN⟩
              · obtain rfl := NOK.out (fun h => c4 h.2.2.2.1)
                go_wp2_with fail
                go_ret
                exact ⟨rfl, hN⟩
            · obtain rfl := NOK.out (fun h => c3 h.2.2.1)
              go_wp2_with fail
              go_ret
              exact ⟨rfl, hN⟩
          · obtain rfl := NOK.out (fun h => c2 h.2.1)
            go_wp2_with fail
            go_ret
            exact ⟨rfl, hN⟩
        · obtain rfl := NOK.out (fun h => c1 h.1)
          go_wp2_with fail
          go_ret
          exact ⟨rfl, hN⟩
      · obtain rfl : k = l.length := by omega
        obtain rfl : bv = true := HBV.out.2 ⟨by rw [HLEN.out]; exact h60, fun y hy => by
          obtain ⟨a, ha, rfl⟩ := List.mem_map.1 hy
          obtain ⟨j, hj, rfl⟩ := List.mem_iff_getElem.1 ha
          exact HC.out j hj hj⟩
        go_wp2_with fail
        go_ret
        exact ⟨rfl, hN⟩
  · obtain rfl := NO (fun h => h60 (by have := h.1; rw [HLEN.out] at this; exact this))
    have hN := Below.refl w.heap.size w
    go_wp2_with fail
    go_ret
    exact ⟨rfl, hN⟩
end Go.Proofs.Ytbfebcifmneliaa

/- Steps among the arguments, opened. -/
namespace Go.Proofs.Ytbfebcifmneliaa
open Go.ChangeShapes Go.WideShapes Go.ChangeAt Go.RowKit Go.Deep Nam Cod

theorem cellsAc : Try.prog.cellsOf 30 = 4 := by kernel_rfl
theorem cellsEns : Try.prog.cellsOf 25 = 1 := by kernel_rfl
set_option maxRecDepth 100000 in
theorem read_ac {H : Type} {enc : TypeId × Value → H} {W : World} {fuel : Nat} {cs : List Value} {x : DataW H × List MemPlace}
    (h : DataW.trod enc Try.prog W 0 (fun _ => true) true fuel 30 cs = some x) : ∃ a : Aw, cs = acE.c a ∧ a.ok W ∧ ∀ e ∈ a.v.es, e.o.s.size ≤ 9223372036854775807 := by
  obtain ⟨xs, n, _, _, hl, hlen, hf⟩ := DataW.trod_struct Try.underlying30 h
  have hl10 : cs.length = 4 := hl.trans cellsAc
  have hl4 : xs.length = 4 := hlen
  match cs, hl10, xs, hl4 with
  | [c0, c1, c2, c3], _, [y0, y1, y2, y3], _ =>
    have h0 := hf 0 _ rfl
    have h1 := hf 1 _ rfl
    have h2 := hf 2 _ rfl
    have h3 := hf 3 _ rfl
    simp [cellsEns, cells3] at h0 h1 h2 h3
    obtain ⟨k, e0, _, _⟩ := DataW.trod_int Try.underlying3 h0
    obtain ⟨d, e1, _, _⟩ := DataW.trod_int Try.underlying3 h1
    obtain ⟨i, e2, _, _⟩ := DataW.trod_int Try.underlying3 h2
    obtain ⟨A, c, l, e3, hS, hw⟩ := open_cells enE (fun e => EnW e ∧ e.o.s.size ≤ maxLen) Try.underlying25 cellsEn (fun h => read_en h) h3
    simp at e0 e1 e2 e3
    subst e0 e1 e2 e3
    exact ⟨⟨A, c, ⟨k, d, i, l⟩⟩, rfl, hS, fun e he => Nat.le_trans (hw e he).2 (by unfold maxLen; omega)⟩
instance : Inhabited Aw := ⟨⟨none, 0, ⟨0, 0, 0, []⟩⟩⟩
set_option maxRecDepth 100000 in
theorem open_acs {H : Type} {enc : TypeId × Value → H} {W : World} {base : Nat} {v : Value} {d : DataW H} {ps : List MemPlace}
    (hv : Value.okWide Try.prog W .any base 22 v) (h : DataW.Trod enc Try.prog W 0 (fun _ => true) true 22 v d ps) :
    ∃ (A : Option Addr) (cap : Nat) (l : List Aw), v = .slice A l.length cap ∧ AcsV W A l := by
  obtain ⟨A, cap, l, rfl, hS, _, _, hw⟩ := open_list acE (fun a => a.ok W ∧ ∀ e ∈ a.v.es, e.o.s.size ≤ 9223372036854775807) Try.underlying22 cellsAc (fun h => read_ac h) hv h
  exact ⟨A, cap, l, rfl, hS, hw⟩
end Go.Proofs.Ytbfebcifmneliaa

/- Of law 12: awake. -/
namespace Go.Proofs.Ytbfebcifmneliaa
open Go.RowKit Nam Cod

def L3 : List En := [someE 1, someE 2, someE 3]
def S3 : Sm := ⟨0, 0, 3, L3⟩
def T3 : Sm := ⟨2, 5, 3, [someE 3]⟩
def U3 : Sm := ⟨9, 5, 9, []⟩
theorem s3_cells {w : World} {n c : Nat} {A : Option Addr} (h : smE.In w n ⟨A, c, S3⟩) : w.cell? ⟨n, 0, none⟩ = some (.int .i64 0) ∧ w.cell? ⟨n, 1, none⟩ = some (.int .i64 0) ∧ w.cell? ⟨n, 2, none⟩ = some (.int .i64 3) ∧ w.cell? ⟨n, 3, none⟩ = some (.slice A 3 c) := smIn4 h
theorem t3_cells {w : World} {n c : Nat} {A : Option Addr} (h : smE.In w n ⟨A, c, T3⟩) : w.cell? ⟨n, 0, none⟩ = some (.int .i64 2) ∧ w.cell? ⟨n, 1, none⟩ = some (.int .i64 5) ∧ w.cell? ⟨n, 2, none⟩ = some (.int .i64 3) ∧ w.cell? ⟨n, 3, none⟩ = some (.slice A 1 c) := smIn4 h
theorem u3_cells {w : World} {n c : Nat} {A : Option Addr} (h : smE.In w n ⟨A, c, U3⟩) : w.cell? ⟨n, 0, none⟩ = some (.int .i64 9) ∧ w.cell? ⟨n, 1, none⟩ = some (.int .i64 5) ∧ w.cell? ⟨n, 2, none⟩ = some (.int .i64 9) ∧ w.cell? ⟨n, 3, none⟩ = some (.slice A 0 c) := smIn4 h
theorem s3_take : takeS zeroSm 1 L3 = S3 := rfl
theorem t3_settle : settleS S3 2 5 = T3 := rfl
theorem t3_from : fromS T3 0 9 = [someE 3] := rfl
theorem t3_fromP : fromP T3 0 = 3 := rfl
theorem u3_settle : settleS T3 9 1 = U3 := rfl
theorem s3_five : takeS S3 5 [someE 5] = S3 := rfl
theorem s3_low : lowS S3 = 1099511627777 := rfl
theorem s3_N : SmN S3 := ⟨by decide, by decide, by decide, by decide⟩
theorem t3_N : SmN T3 := ⟨by decide, by decide, by decide, by decide⟩
theorem u3_N : SmN U3 := ⟨by decide, by decide, by decide, by decide⟩
theorem s3_R : SmR S3 := s3_take ▸ takeS_R L3 1 zeroSm_R (by intro e he; rcases List.mem_cons.1 he with rfl | he; exact someE_ok; rcases List.mem_cons.1 he with rfl | he; exact someE_ok; rcases List.mem_cons.1 he with rfl | he; exact someE_ok; cases he) (by decide)
theorem t3_R : SmR T3 := t3_settle ▸ settleS_R s3_R (by decide) (by decide)
theorem u3_R : SmR U3 := u3_settle ▸ settleS_R t3_R (by decide) (by decide)

set_option maxRecDepth 100000 in
set_option maxHeartbeats 4000000 in
theorem awake12_any (H : StreamCalls) (w : World) : Calls Try.prog 8 #[] w fun e w' => e = .returned (.bool true) ∧ Below w.heap.size w w' := by
  have HS1 := Lib.hid (fun (wx : World) => (show Calls Try.prog 11 #[.int .i64 1] wx fun r w' => r = .returned (.agg #[.int .i64 2, .int .i64 1, .int .i64 2, .int .i64 0, .int .i64 0, .int .i64 0, .int .i64 0, .int .i64 0, .int .i64 0, .string ⟨#[]⟩]) ∧ Below wx.heap.size wx w' from some12_any 1 (by decide) wx))
  have HS2 := Lib.hid (fun (wx : World) => (show Calls Try.prog 11 #[.int .i64 2] wx fun r w' => r = .returned (.agg #[.int .i64 2, .int .i64 2, .int .i64 3, .int .i64 0, .int .i64 0, .int .i64 0, .int .i64 0, .int .i64 0, .int .i64 0, .string ⟨#[]⟩]) ∧ Below wx.heap.size wx w' from some12_any 2 (by decide) wx))
  have HS3 := Lib.hid (fun (wx : World) => (show Calls Try.prog 11 #[.int .i64 3] wx fun r w' => r = .returned (.agg #[.int .i64 2, .int .i64 3, .int .i64 4, .int .i64 0, .int .i64 0, .int .i64 0, .int .i64 0, .int .i64 0, .int .i64 0, .string ⟨#[]⟩]) ∧ Below wx.heap.size wx w' from some12_any 3 (by decide) wx))
  have HS5 := Lib.hid (fun (wx : World) => (show Calls Try.prog 11 #[.int .i64 5] wx fun r w' => r = .returned (.agg #[.int .i64 2, .int .i64 5, .int .i64 6, .int .i64 0, .int .i64 0, .int .i64 0, .int .i64 0, .int .i64 0, .int .i64 0, .string ⟨#[]⟩]) ∧ Below wx.heap.size wx w' from some12_any 5 (by decide) wx))
  have HT1 := Lib.hid (fun (n : Nat) (wx : World) (hS : enE.Sl wx (some ⟨n, 0, none⟩) L3) => (show Calls Try.prog 26 #[.agg #[.int .i64 0, .int .i64 0, .int .i64 0, .slice none 0 0], .int .i64 1, .slice (some ⟨n, 0, none⟩) 3 3] wx fun r w' => ∃ A' c', r = .returned (.agg #[.int .i64 0, .int .i64 0, .int .i64 3, .slice A' 3 c']) ∧ SlV enE w' A' c' L3 ∧ Below wx.heap.size wx w' from (H.take zeroSw 1 (some ⟨n, 0, none⟩) 3 L3 wx ⟨by decide, by decide, by decide, by decide⟩ (by decide) (by decide) (SlV.nil enE wx) ⟨hS, (fun e => by cases e), Nat.le_refl _⟩).mono (by
    rintro r w' ⟨⟨A, c, x⟩, rfl, hx, ho, hb⟩
    obtain rfl : x = S3 := hx
    exact ⟨A, c, rfl, ho, hb⟩)))
  have HT2 := Lib.hid (fun (A : Option Addr) (c : Nat) (wx : World) (hS : SlV enE wx A c L3) => (show Calls Try.prog 25 #[.agg #[.int .i64 0, .int .i64 0, .int .i64 3, .slice A 3 c], .int .i64 2, .int .i64 5] wx fun r w' => ∃ A' c', r = .returned (.agg #[.int .i64 2, .int .i64 5, .int .i64 3, .slice A' 1 c']) ∧ SlV enE w' A' c' [someE 3] ∧ Below wx.heap.size wx w' from (H.settle ⟨A, c, S3⟩ 2 5 wx s3_N s3_R (by decide) hS).mono (by
    rintro r w' ⟨⟨A, c, x⟩, rfl, hx, ho, hb⟩
    obtain rfl : x = T3 := hx
    exact ⟨A, c, rfl, ho, hb⟩)))
  have HT4 := Lib.hid (fun (A : Option Addr) (c : Nat) (wx : World) (hS : SlV enE wx A c [someE 3]) => (show Calls Try.prog 25 #[.agg #[.int .i64 2, .int .i64 5, .int .i64 3, .slice A 1 c], .int .i64 9, .int .i64 1] wx fun r w' => ∃ A' c', r = .returned (.agg #[.int .i64 9, .int .i64 5, .int .i64 9, .slice A' 0 c']) ∧ SlV enE w' A' c' [] ∧ Below wx.heap.size wx w' from (H.settle ⟨A, c, T3⟩ 9 1 wx t3_N t3_R (by decide) hS).mono (by
    rintro r w' ⟨⟨A, c, x⟩, rfl, hx, ho, hb⟩
    obtain rfl : x = U3 := hx
    exact ⟨A, c, rfl, ho, hb⟩)))
  have HT5 := Lib.hid (fun (n : Nat) (A : Option Addr) (c : Nat) (wx : World) (hS : SlV enE wx A c L3) (hF : enE.Sl wx (some ⟨n, 0, none⟩) [someE 5]) => (show Calls Try.prog 26 #[.agg #[.int .i64 0, .int .i64 0, .int .i64 3, .slice A 3 c], .int .i64 5, .slice (some ⟨n, 0, none⟩) 1 1] wx fun r w' => ∃ A' c', r = .returned (.agg #[.int .i64 0, .int .i64 0, .int .i64 3, .slice A' 3 c']) ∧ SlV enE w' A' c' L3 ∧ Below wx.heap.size wx w' from (H.take ⟨A, c, S3⟩ 5 (some ⟨n, 0, none⟩) 1 [someE 5] wx s3_N (by decide) (by decide) hS ⟨hF, (fun e => by cases e), Nat.le_refl _⟩).mono (by
    rintro r w' ⟨⟨A, c, x⟩, rfl, hx, ho, hb⟩
    obtain rfl : x = S3 := hx
    exact ⟨A, c, rfl, ho, hb⟩)))
  have HFR := Lib.hid (fun (A : Option Addr) (c : Nat) (wx : World) (hS : SlV enE wx A c [someE 3]) => (show Calls Try.prog 14 #[.agg #[.int .i64 2, .int .i64 5, .int .i64 3, .slice A 1 c], .int .i64 0, .int .i64 9] wx fun r w' => ∃ A' c', r = .returned (.tuple #[.int .i64 3, .slice A' 1 c']) ∧ Below wx.heap.size wx w' from (H.from_ ⟨A, c, T3⟩ 0 9 wx t3_N t3_R (by decide) hS).mono (by
    rintro r w' ⟨A, c, rfl, ho, hb⟩
    exact ⟨A, c, rfl, hb⟩)))
  have HLW := Lib.hid (fun (A : Option Addr) (c : Nat) (wx : World) (hS : SlV enE wx A c L3) => (show Calls Try.prog 18 #[.agg #[.int .i64 0, .int .i64 0, .int .i64 3, .slice A 3 c]] wx fun r w' => r = .returned (.int .i64 1099511627777) ∧ Below wx.heap.size wx w' from H.lowest ⟨A, c, S3⟩ wx s3_N hS))
  have HRT := Lib.hid (fun (A : Option Addr) (c : Nat) (wx : World) (hS : SlV enE wx A c []) => (show Calls Try.prog 20 #[.agg #[.int .i64 9, .int .i64 5, .int .i64 9, .slice A 0 c]] wx fun r w' => r = .returned (.bool true) ∧ Below wx.heap.size wx w' from H.right ⟨A, c, U3⟩ wx u3_N u3_R hS (fun e he => by cases he)))
  have hB := Below.refl w.heap.size w
  go_enter Try.func8, Try.ntmps8
  go_wp2_with (first | ((with_reducible first | refine (HS1.out _).mono ?_ | refine (HS2.out _).mono ?_ | refine (HS3.out _).mono ?_); rintro r w1 ⟨rfl, hb1⟩; replace hB := hB.trans (hb1.mono hB.size); clear hb1) | fail)
  have hL : enE.Sl (w1.alloc (.cells #[.int .i64 2, .int .i64 1, .int .i64 2, .int .i64 0, .int .i64 0, .int .i64 0, .int .i64 0, .int .i64 0, .int .i64 0, .string ⟨#[]⟩, .int .i64 2, .int .i64 2, .int .i64 3, .int .i64 0, .int .i64 0, .int .i64 0, .int .i64 0, .int .i64 0, .int .i64 0, .string ⟨#[]⟩, .int .i64 2, .int .i64 3, .int .i64 4, .int .i64 0, .int .i64 0, .int .i64 0, .int .i64 0, .int .i64 0, .int .i64 0, .string ⟨#[]⟩] 37)) (some ⟨w1.heap.size, 0, none⟩) L3 := El.Sl.row (E := enE) w1 L3 _ rfl
  have hal := below_alloc (Below.refl w1.heap.size w1) (.cells #[.int .i64 2, .int .i64 1, .int .i64 2, .int .i64 0, .int .i64 0, .int .i64 0, .int .i64 0, .int .i64 0, .int .i64 0, .string ⟨#[]⟩, .int .i64 2, .int .i64 2, .int .i64 3, .int .i64 0, .int .i64 0, .int .i64 0, .int .i64 0, .int .i64 0, .int .i64 0, .string ⟨#[]⟩, .int .i64 2, .int .i64 3, .int .i64 4, .int .i64 0, .int .i64 0, .int .i64 0, .int .i64 0, .int .i64 0, .int .i64 0, .string ⟨#[]⟩] 37)
  replace hB := hB.trans (hal.mono hB.size)
  clear hal HS1 HS2 HS3
  refine (HT1.out _ _ hL).mono ?_
  clear hL HT1
  rintro r w2 ⟨A2, c2, rfl, hS2, hb2⟩
  replace hB := hB.trans (hb2.mono hB.size)
  clear hb2
  have hP : smE.In (w2.alloc (.cells #[.int .i64 0, .int .i64 0, .int .i64 3, .slice A2 3 c2] 27)) w2.heap.size ⟨A2, c2, S3⟩ := El.In.new (E := smE) w2 ⟨A2, c2, S3⟩ _ rfl
  have hal := below_alloc (Below.refl w2.heap.size w2) (.cells #[.int .i64 0, .int .i64 0, .int .i64 3, .slice A2 3 c2] 27)
  replace hS2 := hS2.below hal
  replace hB := hB.trans (hal.mono hB.size)
  clear hal
  go_wp2_with fail
  generalize w2.alloc (.cells #[.int .i64 0, .int .i64 0, .int .i64 3, .slice A2 3 c2] 27) = W2 at *
  obtain ⟨n1, hn1⟩ : ∃ n, w2.heap.size = n := ⟨_, rfl⟩
  rw [hn1] at hP ⊢
  clear hn1
  refine (HT2.out _ _ _ hS2).mono ?_
  clear HT2
  rintro r w3 ⟨A3, c3, rfl, hS3, hb3⟩
  replace hP := hP.below hb3
  replace hS2 := hS2.below hb3
  replace hB := hB.trans (hb3.mono hB.size)
  clear hb3
  have hQ : smE.In (w3.alloc (.cells #[.int .i64 2, .int .i64 5, .int .i64 3, .slice A3 1 c3] 27)) w3.heap.size ⟨A3, c3, T3⟩ := El.In.new (E := smE) w3 ⟨A3, c3, T3⟩ _ rfl
  have hal := below_alloc (Below.refl w3.heap.size w3) (.cells #[.int .i64 2, .int .i64 5, .int .i64 3, .slice A3 1 c3] 27)
  replace hP := hP.below hal
  replace hS2 := hS2.below hal
  replace hS3 := hS3.below hal
  replace hB := hB.trans (hal.mono hB.size)
  clear hal
  go_wp2_with fail
  generalize w3.alloc (.cells #[.int .i64 2, .int .i64 5, .int .i64 3, .slice A3 1 c3] 27) = W3 at *
  obtain ⟨n2, hn2⟩ : ∃ n, w3.heap.size = n := ⟨_, rfl⟩
  rw [hn2] at hQ ⊢
  clear hn2
  refine (HFR.out _ _ _ hS3).mono ?_
  clear HFR
  rintro r w4 ⟨A4, c4, rfl, hb4⟩
  replace hP := hP.below hb4
  replace hQ := hQ.below hb4
  replace hS2 := hS2.below hb4
  replace hS3 := hS3.below hb4
  replace hB := hB.trans (hb4.mono hB.size)
  clear hb4
  obtain ⟨q0, q1, q2, q3⟩ := smIn4 hQ
  dsimp only [T3, List.length] at q0 q1 q2 q3
  go_wp2_with fail
  clear q0 q1 q2 q3
  refine (HT4.out _ _ _ hS3).mono ?_
  clear HT4 hS3
  rintro r w5 ⟨A5, c5, rfl, hS5, hb5⟩
  replace hP := hP.below hb5
  replace hQ := hQ.below hb5
  replace hS2 := hS2.below hb5
  replace hB := hB.trans (hb5.mono hB.size)
  clear hb5
  have hU : smE.In (w5.alloc (.cells #[.int .i64 9, .int .i64 5, .int .i64 9, .slice A5 0 c5] 27)) w5.heap.size ⟨A5, c5, U3⟩ := El.In.new (E := smE) w5 ⟨A5, c5, U3⟩ _ rfl
  have hal := below_alloc (Below.refl w5.heap.size w5) (.cells #[.int .i64 9, .int .i64 5, .int .i64 9, .slice A5 0 c5] 27)
  replace hP := hP.below hal
  replace hQ := hQ.below hal
  replace hS2 := hS2.below hal
  replace hS5 := hS5.below hal
  replace hB := hB.trans (hal.mono hB.size)
  clear hal
  obtain ⟨p0, p1, p2, p3⟩ := smIn4 hP
  obtain ⟨q0, q1, q2, q3⟩ := smIn4 hQ
  dsimp only [S3, T3, L3, List.length] at p0 p1 p2 p3 q0 q1 q2 q3
  go_wp2_with fail
  clear p0 p1 p2 p3 q0 q1 q2 q3
  generalize w5.alloc (.cells #[.int .i64 9, .int .i64 5, .int .i64 9, .slice A5 0 c5] 27) = W5 at *
  obtain ⟨n3, hn3⟩ : ∃ n, w5.heap.size = n := ⟨_, rfl⟩
  rw [hn3] at hU ⊢
  clear hn3
  replace hP : smE.In W5.drew n1 ⟨A2, c2, S3⟩ := hP
  replace hQ : smE.In W5.drew n2 ⟨A3, c3, T3⟩ := hQ
  replace hU : smE.In W5.drew n3 ⟨A5, c5, U3⟩ := hU
  replace hS2 : SlV enE W5.drew A2 c2 L3 := hS2
  replace hS5 : SlV enE W5.drew A5 c5 [] := hS5
  replace hB := hB.drew
  have hfd : ∀ (A : Option Addr) (c : Nat) (wx : World), (Instr.field 27 (.agg #[.int .i64 0, .int .i64 0, .int .i64 3, .slice A 3 c]) 2).run Try.prog wx = .ok (.int .i64 3) wx := fun _ _ _ => by kernel_rfl
  simp only [List.append_eq, List.cons_append, List.nil_append]
  go_region_held3 (fun w' => (w'.cell? ⟨n1, 0, none⟩ = some (.int .i64 0) ∧ w'.cell? ⟨n1, 1, none⟩ = some (.int .i64 0) ∧ w'.cell? ⟨n1, 2, none⟩ = some (.int .i64 3) ∧ w'.cell? ⟨n1, 3, none⟩ = some (.slice A2 3 c2)) ∧ (w'.cell? ⟨n2, 0, none⟩ = some (.int .i64 2) ∧ w'.cell? ⟨n2, 1, none⟩ = some (.int .i64 5) ∧ w'.cell? ⟨n2, 2, none⟩ = some (.int .i64 3) ∧ w'.cell? ⟨n2, 3, none⟩ = some (.slice A3 1 c3)) ∧ (w'.cell? ⟨n3, 0, none⟩ = some (.int .i64 9) ∧ w'.cell? ⟨n3, 1, none⟩ = some (.int .i64 5) ∧ w'.cell? ⟨n3, 2, none⟩ = some (.int .i64 9) ∧ w'.cell? ⟨n3, 3, none⟩ = some (.slice A5 0 c5))) (with_reducible first | exact ⟨s3_cells hP, t3_cells hQ, u3_cells hU⟩ | exact ⟨s3_cells hPa, t3_cells hQa, u3_cells hUa⟩) (first | (go_at_call 11; (with_reducible refine (HS5.out _).mono ?_); rintro r w6 ⟨rfl, hb6⟩; have hP := hP.below hb6; have hQ := hQ.below hb6; have hU := hU.below hb6; have hS2 := hS2.below hb6; have hS5 := hS5.below hb6; have hB := hB.trans (hb6.mono hB.size); have hL : enE.Sl (w6.alloc (.cells #[.int .i64 2, .int .i64 5, .int .i64 6, .int .i64 0, .int .i64 0, .int .i64 0, .int .i64 0, .int .i64 0, .int .i64 0, .string ⟨#[]⟩] 37)) (some ⟨w6.heap.size, 0, none⟩) [someE 5] := El.Sl.row (E := enE) w6 [someE 5] _ rfl; have hal := below_alloc (Below.refl w6.heap.size w6) (.cells #[.int .i64 2, .int .i64 5, .int .i64 6, .int .i64 0, .int .i64 0, .int .i64 0, .int .i64 0, .int .i64 0, .int .i64 0, .string ⟨#[]⟩] 37); have hPa := hP.below hal; have hQa := hQ.below hal; have hUa := hU.below hal; have hS2a := hS2.below hal; have hS5a := hS5.below hal; have hBa := hB.trans (hal.mono hB.size)) | (go_at_call 26; (with_reducible refine (HT5.out _ _ _ _ hS2a hL).mono ?_); rintro r w7 ⟨A7, c7, rfl, _, hb7⟩; have hP := hPa.below hb7; have hQ := hQa.below hb7; have hU := hUa.below hb7; have hS2 := hS2a.below hb7; have hS5 := hS5a.below hb7; have hB := hBa.trans (hb7.mono hBa.size)) | (go_at_call 18; (with_reducible refine (HLW.out _ _ _ hS2).mono ?_); rintro r w8 ⟨rfl, hb8⟩; have hP := hP.below hb8; have hQ := hQ.below hb8; have hU := hU.below hb8; have hS5 := hS5.below hb8; have hB := hB.trans (hb8.mono hB.size)) | (go_at_call 20; (with_reducible refine (HRT.out _ _ _ hS5).mono ?_); rintro r w9 ⟨rfl, hb9⟩; have hP := hP.below hb9; have hQ := hQ.below hb9; have hU := hU.below hb9; have hB := hB.trans (hb9.mono hB.size)))
  go_wp2_with fail
  go_ret
  exact ⟨rfl, hB⟩
end Go.Proofs.Ytbfebcifmneliaa

/- Of law 12: a step of a play; StreamLeast, given the program's calls. -/
namespace Go.Proofs.Ytbfebcifmneliaa
open Go.ChangeShapes Go.WideShapes Go.ChangeAt Go.RowKit Go.Deep Nam Cod

theorem SmR.n {x : Sm} (h : SmR x) (hl : x.es.length ≤ 50000) : SmN x := by
  have h1 := h.s0
  have h2 := h.t0
  have h3 := h.sp
  have h4 := h.pm
  have h5 := h.tm
  exact ⟨by omega, by omega, by omega, hl⟩
theorem acts_len (l : List Aw) : (acts l).length = l.length := List.length_map _
theorem acts_get {l : List Aw} {k : Nat} (h : k < l.length) : (acts l)[k]'(by rw [acts_len]; exact h) = l[k].v := by
  unfold acts; rw [List.getElem_map]
theorem play_step (H : StreamCalls) {l : List Aw} (hf : fineL (acts l)) {k : Nat} (hkl : k < l.length) {y : Sw} (hy : y.x = playS ((acts l).take k)) (a : Aw) (ha : l[k] = a) (wx : World) (ho : y.ok wx) (hv : a.ok wx) :
    Calls Try.prog 9 #[.agg #[.int .i64 y.x.s, .int .i64 y.x.t, .int .i64 y.x.p, .slice y.A y.x.es.length y.c], .agg #[.int .i64 a.v.k, .int .i64 a.v.a, .int .i64 a.v.b, .slice a.A a.v.es.length a.c]] wx fun r w' => ∃ z : Sw, r = .returned (.agg #[.int .i64 z.x.s, .int .i64 z.x.t, .int .i64 z.x.p, .slice z.A z.x.es.length z.c]) ∧ z.x = playS ((acts l).take (k + 1)) ∧ z.ok w' ∧ Below wx.heap.size wx w' := by
  subst ha
  have hk : k < (acts l).length := by rw [acts_len]; exact hkl
  have hK := playS_K hf k (by omega)
  rw [← hy] at hK
  have hC := hf.2 _ (List.getElem_mem hk)
  rw [acts_get hkl] at hC
  obtain ⟨c1, c2, c3, c4, c5, c6⟩ := hC
  have hk60 := hf.1
  refine (step12_any H y l[k] wx (hK.n (by omega)) hK.toSmR (by omega) (by omega) ho hv).mono ?_
  rintro r w' ⟨z, hr, hz, hzo, hb⟩
  exact ⟨z, hr, by rw [hz, playS_next _ k hk, acts_get hkl, hy], hzo, hb⟩
theorem played {l : List Aw} (hf : fineL (acts l)) {y : Sw} (hy : y.x = playS ((acts l).take l.length)) : SmR y.x ∧ SmN y.x := by
  have hK := playS_K hf l.length (by rw [acts_len]; exact Nat.le_refl _)
  rw [← hy] at hK
  have h60 := hf.1
  rw [acts_len] at h60
  exact ⟨hK.toSmR, hK.n (by omega)⟩
def PLS (n1 : Nat) (z : Sw) (b o : Nat) (a : Aw) (w : World) : Prop := PS4 n1 z w ∧ (w.cell? ⟨b, o, none⟩ = some (.int .i64 a.v.k) ∧ w.cell? ⟨b, o + 1, none⟩ = some (.int .i64 a.v.a) ∧ w.cell? ⟨b, o + 2, none⟩ = some (.int .i64 a.v.b) ∧ w.cell? ⟨b, o + 3, none⟩ = some (.slice a.A a.v.es.length a.c))


set_option maxRecDepth 100000 in
theorem least12_no (H : StreamCalls) (A : Option Addr) (c : Nat) (l : List Aw) (place : Int) (w : World) (hL : AcsV w A l) (h : ¬ (fineL (acts l) ∧ -1000 ≤ place ∧ place ≤ 1000000)) : Calls Try.prog 6 #[.slice A l.length c, .int .i64 place] w fun e w' => e = .returned (.bool true) ∧ Below w.heap.size w w' := by
  by_cases hf : fineL (acts l)
  · have CF := Lib.hid (fine12_any A c l w hL true ⟨fun _ => hf, fun _ => rfl⟩)
    rcases (show place < -1000 ∨ (-1000 ≤ place ∧ 1000000 < place) from (by
      rcases Int.lt_or_le place (-1000) with h1 | h1
      · exact Or.inl h1
      · rcases Int.lt_or_le 1000000 place with h2 | h2
        · exact Or.inr ⟨h1, h2⟩
        · exact absurd ⟨hf, h1, h2⟩ h)) with h1 | ⟨h1, h2⟩
    all_goals
      clear h hf
      go_enter Try.func6, Try.ntmps6
      go_wp2_with fail
      refine CF.out.mono ?_
      rintro r w1 ⟨rfl, hN⟩
      go_wp2_with fail
      refine (awake12_any H _).mono ?_
      rintro r w2 ⟨rfl, hb2⟩
      go_wp2_with fail
      go_ret
      exact ⟨rfl, below_then hN hb2⟩
  · have CF := Lib.hid (fine12_any A c l w hL false ⟨(fun h => by cases h), fun h => absurd h hf⟩)
    clear h hf
    go_enter Try.func6, Try.ntmps6
    go_wp2_with fail
    refine CF.out.mono ?_
    rintro r w1 ⟨rfl, hN⟩
    go_wp2_with fail
    refine (awake12_any H _).mono ?_
    rintro r w2 ⟨rfl, hb2⟩
    go_wp2_with fail
    go_ret
    exact ⟨rfl, below_then hN hb2⟩

def foundB (n : Int) (l : List En) : Bool := decide (n = 1099511627777) || l.any fun e => decide (e.k = 1) && decide (e.o.C = n)
theorem foundB_next (n : Int) (l : List En) (k : Nat) (h : k < l.length) : foundB n (l.take (k + 1)) = (foundB n (l.take k) || (decide (l[k].k = 1) && decide (l[k].o.C = n))) := by
  unfold foundB
  rw [List.take_succ_eq_append_getElem h, List.any_append, List.any_cons, List.any_nil, Bool.or_false, Bool.or_assoc]
theorem foundB_all (x : Sm) : foundB (lowS x) x.es = true := by
  unfold foundB lowS
  rcases (low_fold x.es 1099511627777).2.2 with h | ⟨e, he, hk, h⟩
  · rw [h]; simp
  · rw [Bool.or_eq_true]
    right
    rw [List.any_eq_true]
    exact ⟨e, he, by rw [hk, ← h]; simp⟩

set_option maxRecDepth 100000 in
set_option maxHeartbeats 4000000 in
theorem least12_yes (H : StreamCalls) (A : Option Addr) (c : Nat) (l : List Aw) (place : Int) (w : World) (hL : AcsV w A l) (hf : fineL (acts l)) (h1 : -1000 ≤ place) (h2 : place ≤ 1000000) : Calls Try.prog 6 #[.slice A l.length c, .int .i64 place] w fun e w' => e = .returned (.bool true) ∧ Below w.heap.size w w' := by
  have CF := Lib.hid (fine12_any A c l w hL true ⟨fun _ => hf, fun _ => rfl⟩)
  have HF := Lib.hid hf
  have HL := Lib.hid hL
  have h60 : l.length ≤ 60 := by have := hf.1; rw [acts_len] at this; exact this
  clear hf hL
  go_enter Try.func6, Try.ntmps6
  go_wp2_with fail
  refine CF.out.mono ?_
  rintro r w1 ⟨rfl, hN⟩
  clear CF
  go_wp2_with fail
  have hZ : smE.In (w1.alloc (.cells #[.int .i64 0, .int .i64 0, .int .i64 0, .slice none 0 0] 27)) w1.heap.size zeroSw := El.In.new (E := smE) w1 zeroSw #[.int .i64 0, .int .i64 0, .int .i64 0, .slice none 0 0] rfl
  have hN2 := below_then hN (below_alloc (Below.refl w1.heap.size w1) (.cells #[.int .i64 0, .int .i64 0, .int .i64 0, .slice none 0 0] 27))
  have hwn1 : w.heap.size ≤ w1.heap.size := hN.size
  clear hN
  generalize w1.alloc (.cells #[.int .i64 0, .int .i64 0, .int .i64 0, .slice none 0 0] 27) = W1 at *
  obtain ⟨n1, hn1⟩ : ∃ n, w1.heap.size = n := ⟨_, rfl⟩
  rw [hn1] at hZ hwn1 ⊢
  clear hn1
  go_loopw [6] (fun i wr => ∃ (k : Nat) (y : Sw), k ≤ l.length ∧ i = .int .i64 k ∧ Hid (y.x = playS ((acts l).take k)) ∧ y.ok wr ∧ smE.In wr n1 y ∧ Below w.heap.size w wr) (fun i _ => l.length - (intOf i).toNat)
  case atStart => exact ⟨0, zeroSw, Nat.zero_le _, rfl, Lib.hid rfl, SlV.nil enE W1, hZ, hN2⟩
  case round =>
    clear hZ hN2
    obtain ⟨k, y, hk, rfl, hy, ho, hP, hN⟩ := hrel
    by_cases hkl : k < l.length
    · skip
      obtain ⟨b, off, eA, hbw, hc⟩ := HL.out.1 (by omega)
      have hx := acIdxH (cap := c) eA hkl
      have hat : acE.At wr b (off + k * 4) l[k] := (hc k hkl).below hN hbw
      have hbr := Nat.lt_of_lt_of_le hbw hN.size
      have HV := Lib.hid (fun (wx : World) (hb : Below w.heap.size w wx) => (HL.out.2 l[k] (List.getElem_mem hkl)).1.below hb)
      have HS := Lib.hid (fun (wx : World) (ho : y.ok wx) (hv : (l[k]).ok wx) => play_step H HF.out hkl hy.out l[k] rfl wx ho hv)
      generalize l[k] = a at *
      clear hc eA
      go_wp2_with fail
      refine region_anyG (S := PLS n1 y b (off + k * 4) a) 6 (by kernel_rfl) ?_
      replace hP : smE.In wr.drew n1 y := hP
      replace hat : acE.At wr.drew b (off + k * 4) a := hat
      replace ho : y.ok wr.drew := ho
      replace hN := hN.drew
      replace hbr : b < wr.drew.heap.size := hbr
      generalize wr.drew = U at *
      have hS : PLS n1 y b (off + k * 4) a U := ⟨smIn4 hP, acAtH hat⟩
      refine anyG_take (i := 0) (v := .agg #[.int .i64 y.x.s, .int .i64 y.x.t, .int .i64 y.x.p, .slice y.A y.x.es.length y.c]) rfl (by kernel_rfl) (by kernel_rfl) (by kernel_rfl) (by kernel_rfl) (by kernel_rfl) (fun _ _ _ h => h) (Or.inl ⟨by rfl, fun w' hSw => by (obtain ⟨⟨m0, m1, m2, m3⟩, s0, s1, s2, s3⟩ := hSw; go_simp)⟩) hS ?_
      try simp only [Act.put, List.setIfInBounds_toArray, List.set_cons_zero, List.set_cons_succ]
      refine anyG_take (i := 1) (v := .slice A l.length c) rfl (by kernel_rfl) (by kernel_rfl) (by kernel_rfl) (by kernel_rfl) (by kernel_rfl) (fun _ _ _ h => h) (Or.inl ⟨by rfl, fun w' hSw => by (obtain ⟨⟨m0, m1, m2, m3⟩, s0, s1, s2, s3⟩ := hSw; go_simp)⟩) hS ?_
      try simp only [Act.put, List.setIfInBounds_toArray, List.set_cons_zero, List.set_cons_succ]
      refine anyG_take (i := 2) (v := .int .i64 k) rfl (by kernel_rfl) (by kernel_rfl) (by kernel_rfl) (by kernel_rfl) (by kernel_rfl) (fun _ _ _ h => h) (Or.inl ⟨by rfl, fun w' hSw => by (obtain ⟨⟨m0, m1, m2, m3⟩, s0, s1, s2, s3⟩ := hSw; go_simp)⟩) hS ?_
      try simp only [Act.put, List.setIfInBounds_toArray, List.set_cons_zero, List.set_cons_succ]
      refine anyG_take (i := 3) (v := .pointer (some ⟨b, off + k * 4, none⟩)) rfl (by kernel_rfl) (by kernel_rfl) (by kernel_rfl) (by kernel_rfl) (by kernel_rfl) (fun _ _ _ h => h) (Or.inl ⟨by rfl, fun w' hSw => by (obtain ⟨⟨m0, m1, m2, m3⟩, s0, s1, s2, s3⟩ := hSw; go_simp)⟩) hS ?_
      try simp only [Act.put, List.setIfInBounds_toArray, List.set_cons_zero, List.set_cons_succ]
      refine anyG_take (i := 4) (v := .agg #[.int .i64 a.v.k, .int .i64 a.v.a, .int .i64 a.v.b, .slice a.A a.v.es.length a.c]) rfl (by kernel_rfl) (by kernel_rfl) (by kernel_rfl) (by kernel_rfl) (by kernel_rfl) (fun _ _ _ h => h) (Or.inl ⟨by rfl, fun w' hSw => by (obtain ⟨⟨m0, m1, m2, m3⟩, s0, s1, s2, s3⟩ := hSw; go_simp)⟩) hS ?_
      try simp only [Act.put, List.setIfInBounds_toArray, List.set_cons_zero, List.set_cons_succ]
      refine anyG_step (rs := [5]) (by kernel_rfl) (by simp) ?_
      refine AllG.cons rfl (fun K hK => ?_) AllG.nil
      go_simp
      refine (HS.out U ho (HV.out U hN)).mono ?_
      rintro r w1 ⟨z, rfl, hz0, hzo, hb1⟩
      have hz := Lib.hid hz0
      clear hz0 hS
      replace hP := hP.below hb1
      replace hat := hat.below hb1 hbr
      replace hN := hN.trans (hb1.mono hN.size)
      clear ho hb1
      try go_wp2_with fail
      refine hK.out _ _ (⟨smIn4 hP, acAtH hat⟩ : PLS n1 y b (off + k * 4) a w1) ?_
      try simp only [Act.put, List.setIfInBounds_toArray, List.set_cons_zero, List.set_cons_succ]
      clear hK
      refine anyG_step (rs := [6]) (by kernel_rfl) (by simp) ?_
      refine AllG.last (n := 6) rfl (fun K hK => ?_)
      refine El.step_store smRow rfl _ _ rfl n1 z #[.int .i64 z.x.s, .int .i64 z.x.t, .int .i64 z.x.p, .slice z.A z.x.es.length z.c] rfl rfl rfl y hP ?_
      refine hK.out _ _ ?_
      clear hK
      refine anyG_done (by kernel_rfl) ?_ _
      have hP2 := hP.set z #[.int .i64 z.x.s, .int .i64 z.x.t, .int .i64 z.x.p, .slice z.A z.x.es.length z.c] rfl
      have hzo2 : z.ok (w1.setRow n1 #[.int .i64 z.x.s, .int .i64 z.x.t, .int .i64 z.x.p, .slice z.A z.x.es.length z.c]) := SlV.keepN hzo (by_row _ n1 _) (sm_off hzo.1 hP)
      have hN2 := below_setRow hN hwn1 #[.int .i64 z.x.s, .int .i64 z.x.t, .int .i64 z.x.p, .slice z.A z.x.es.length z.c]
      clear hP hat hzo hN
      go_wp2_with fail
      exact ⟨⟨k + 1, z, by omega, by go_num, hz, hzo2, hP2, hN2⟩, by simp [intOf]; omega⟩
    · obtain rfl : k = l.length := by omega
      obtain ⟨hR, hNN⟩ := played HF.out hy.out
      have HR := Lib.hid hR
      have HNN := Lib.hid hNN
      obtain ⟨n, hn⟩ : ∃ n, lowS y.x = n := ⟨_, rfl⟩
      have HLO := Lib.hid (show ∀ e ∈ y.x.es, e.k = 1 → n ≤ e.o.C from hn ▸ (low_fold y.x.es 1099511627777).2.1)
      have HFD := Lib.hid (show foundB n y.x.es = true from hn ▸ foundB_all y.x)
      have HST := Lib.hid (show n ≤ lowS (settleS y.x place 0) from hn ▸ lowS_settle y.x place 0)
      have CL := Lib.hid (fun (wx : World) (ho : y.ok wx) => (by
        have h := H.lowest y wx hNN ho
        rw [hn] at h
        exact h : Calls Try.prog 18 #[.agg #[.int .i64 y.x.s, .int .i64 y.x.t, .int .i64 y.x.p, .slice y.A y.x.es.length y.c]] wx fun r w' => r = .returned (.int .i64 n) ∧ Below wx.heap.size wx w'))
      have CS := Lib.hid (fun (wx : World) (ho : y.ok wx) => H.settle y place 0 wx hNN hR (by omega) ho)
      have hlen := hNN.l
      clear hn hR hNN hy HF HL hkl hk h60
      obtain ⟨p0, p1, p2, p3⟩ := smIn4 hP
      go_wp2_with fail
      refine (CL.out _ ho).mono ?_
      rintro r w2 ⟨rfl, hb2⟩
      replace hP := hP.below hb2
      replace ho := ho.below hb2
      replace hN := below_then hN hb2
      clear hb2 CL p0 p1 p2 p3
      obtain ⟨fb, hfb⟩ : ∃ fb, (n == 1099511627777) = fb := ⟨_, rfl⟩
      have HFB := Lib.hid (show fb = foundB n (y.x.es.take 0) by rw [← hfb]; unfold foundB; simp; rfl)
      go_wp2_with fail
      clear hfb
      go_loopw [8, 9] (fun v i wr => ∃ (k : Nat) (fb : Bool), k ≤ y.x.es.length ∧ i = .int .i64 k ∧ v = .bool fb ∧ Hid (fb = foundB n (y.x.es.take k)) ∧ y.ok wr ∧ smE.In wr n1 y ∧ Below w.heap.size w wr) (fun _ i _ => y.x.es.length - (intOf i).toNat)
      case atStart => exact ⟨0, fb, Nat.zero_le _, rfl, rfl, HFB, ho, hP, hN⟩
      case round =>
        clear HFB ho hP hN
        obtain ⟨k, fb, hk, rfl, rfl, hfb, ho, hP, hN⟩ := hrel
        obtain ⟨p0, p1, p2, p3⟩ := smIn4 hP
        by_cases hkl : k < y.x.es.length
        · obtain ⟨b, off, eA, hbw, hc⟩ := ho.1 (by omega)
          have hx := enIdxH (cap := y.c) eA hkl
          have hat : enE.At wr b (off + k * 10) y.x.es[k] := hc k hkl
          obtain ⟨s0, s1, s2, s3, s4, s5, s6, s7, s8, s9⟩ := enAtH hat
          have hlo := HLO.out _ (List.getElem_mem hkl)
          have hnx := foundB_next n y.x.es k hkl
          rw [← hfb.out] at hnx
          generalize y.x.es[k] = x at *
          have HNX := Lib.hid hnx
          clear hc hat eA hnx
          by_cases h1 : x.k = 1
          · have e1 : (x.k == 1) = true := beq_iff_eq.2 h1
            have hlo := hlo h1
            have e2 : decide (x.o.C < n) = false := decide_eq_false (by omega)
            obtain ⟨eb, heb⟩ : ∃ eb, (x.o.C == n) = eb := ⟨_, rfl⟩
            have hnx : foundB n (y.x.es.take (k + 1)) = (fb || eb) := by
              rw [HNX.out, ← heb, h1]; simp; rfl
            replace HNX := Lib.hid hnx
            clear h1 hnx
            cases fb
            · go_wp2_with fail
              exact ⟨⟨k + 1, eb, by omega, by go_num, rfl, Lib.hid HNX.out.symm, ho, hP, hN⟩, by simp [intOf]; omega⟩
            · go_wp2_with fail
              exact ⟨⟨k + 1, true, by omega, by go_num, rfl, Lib.hid HNX.out.symm, ho, hP, hN⟩, by simp [intOf]; omega⟩
          · have e1 : (x.k == 1) = false := beq_eq_false_iff_ne.2 h1
            have hnx : foundB n (y.x.es.take (k + 1)) = fb := by
              rw [HNX.out]; simp [h1]
            replace HNX := Lib.hid hnx
            clear h1 hnx hlo
            go_wp2_with fail
            exact ⟨⟨k + 1, fb, by omega, by go_num, rfl, Lib.hid HNX.out.symm, ho, hP, hN⟩, by simp [intOf]; omega⟩
        · obtain rfl : k = y.x.es.length := by omega
          obtain rfl : fb = true := by rw [hfb.out, List.take_length, HFD.out]
          clear hfb HFD HLO
          go_wp2_with fail
          clear p0 p1 p2 p3
          refine (awake12_any H _).mono ?_
          rintro r w2 ⟨rfl, hb2⟩
          replace hP := hP.below hb2
          replace ho := ho.below hb2
          replace hN := below_then hN hb2
          clear hb2
          obtain ⟨p0, p1, p2, p3⟩ := smIn4 hP
          go_wp2_with fail
          refine (CS.out _ ho).mono ?_
          rintro r w3 ⟨z, rfl, hz, hzo, hb3⟩
          have hm : n ≤ lowS z.x := by rw [hz]; exact HST.out
          have CL := Lib.hid (fun wx ho => H.lowest z wx (by
            rw [hz]
            refine (settleS_R HR.out (by omega) (by omega)).n ?_
            obtain ⟨j, hj⟩ := settleS_es y.x place 0
            rw [hj, List.length_drop]; omega) ho)
          generalize lowS z.x = m at *
          clear hz p0 p1 p2 p3
          replace hN := below_then hN hb3
          go_wp2_with fail
          refine (CL.out _ hzo).mono ?_
          rintro r w4 ⟨rfl, hb4⟩
          replace hN := below_then hN hb4
          go_wp2_with fail
          go_ret
          exact ⟨rfl, hN⟩
set_option maxRecDepth 100000 in
theorem least12_lifted (H0 : StreamCalls) (os : Os) (started : os.Started) (H : Type) (enc : TypeId × Value → H) :
    ReturnsInHanded {} Try.checked os 6 .any (Rows.streamLeastSpec.pre6 enc Try.prog Try.f6 Rows.streamLeastRow.domain false) (Rows.streamLeastSpec.post enc Try.prog Try.f6 false true false false) := by
  refine returnsInHanded_of_change (C := Try.checked) own started (by kernel_rfl) Try.func6
    (ChangeSpec.witness6 (enc := enc) (C := Try.checked) false ⟨#[], #[.slice none 0 0, .int .i64 0], []⟩ 8 (by kernel_rfl) (by kernel_rfl) (by kernel_rfl) (by kernel_rfl)) ?_
  intro W base args ds gs before hval0 hW _ _
  have hval : ∀ (j : Nat) t v, Try.f6.params[j]? = some t → args[j]? = some v → Value.okWide Try.prog W .any base t v := hval0
  have hW' := hW
  obtain ⟨p, q, hA0, hV, rfl, _, _⟩ := hW
  have hA : DataW.TrodAll enc Try.prog W 0 (fun _ => true) true Try.f6.params.toList args.toList ds p := hA0
  rw [Try.params6] at hA hval
  obtain ⟨v0, v1, d0, d1, p0, p1, rfl, rfl, rfl, h0, h1⟩ := trodAll_two hA
  obtain ⟨A, c, l, rfl, hL⟩ := open_acs (hval 0 22 v0 rfl rfl) h0
  obtain ⟨place, rfl, _⟩ := open_i64 (hval 1 3 v1 rfl rfl) h1
  have hc : Calls Try.prog 6 #[.slice A l.length c, .int .i64 place] W fun e w' => e = .returned (.bool true) ∧ Below W.heap.size W w' := by
    by_cases h : fineL (acts l) ∧ -1000 ≤ place ∧ place ≤ 1000000
    · exact least12_yes H0 A c l place W hL h.1 h.2.1 h.2.2
    · exact least12_no H0 A c l place W hL h
  refine hc.mono fun e W' ⟨he, hb⟩ => ?_
  subst he
  exact ⟨_, rfl, Frm.law_post (by kernel_rfl) (by kernel_rfl) (by kernel_rfl) Try.underlying4 rfl rfl hW' hb⟩

theorem least12_holds (H0 : StreamCalls) : Rows.StreamLeastSaid :=
  OpenClaim.holds_of_wide 6 Try.f6 rfl rfl rfl rfl rfl rfl rfl ⟨rfl, rfl, rfl, rfl, rfl⟩ rfl rfl rfl rfl rfl (by kernel_rfl) Try.func6 (by kernel_rfl)
    (of_decide_eq_true (by kernel_rfl)) (by unfold Func.isWrapper; first | (rw [if_pos (by decide +kernel)]; kernel_rfl) | (rw [if_neg (by decide +kernel)]; exact ⟨rfl, rfl⟩))
    (fun os started H enc _ => least12_lifted H0 os started H enc)
end Go.Proofs.Ytbfebcifmneliaa

/- StreamFollows, given the program's calls. -/
namespace Go.Proofs.Ytbfebcifmneliaa
open Go.ChangeShapes Go.WideShapes Go.ChangeAt Go.RowKit Go.Deep Nam Cod

set_option maxRecDepth 100000 in
theorem follows12_no (H : StreamCalls) (A : Option Addr) (c : Nat) (l : List Aw) (cut most : Int) (w : World) (hL : AcsV w A l) (h : ¬ fineL (acts l)) : Calls Try.prog 5 #[.slice A l.length c, .int .u8 cut, .int .u8 most] w fun e w' => e = .returned (.bool true) ∧ Below w.heap.size w w' := by
  have CF := Lib.hid (fine12_any A c l w hL false ⟨(fun h => by cases h), fun hf => absurd hf h⟩)
  clear h
  go_enter Try.func5, Try.ntmps5
  go_wp2_with fail
  refine CF.out.mono ?_
  rintro r w1 ⟨rfl, hN⟩
  go_wp2_with fail
  refine (awake12_any H _).mono ?_
  rintro r w2 ⟨rfl, hb2⟩
  go_wp2_with fail
  go_ret
  exact ⟨rfl, below_then hN hb2⟩

theorem partS_N {x : Sm} (h : SmR x) (hl : x.es.length ≤ 500) {m : Nat} (hm : m ≤ x.es.length) : SmN (partS x m) := by
  have h1 := h.s0
  have h2 := h.t0
  have h3 := h.sp
  have h4 := h.pm
  have h5 := h.tm
  refine ⟨?_, ?_, ?_, ?_⟩
  · show _ ≤ x.s ∧ x.s ≤ _; omega
  · show _ ≤ x.t ∧ x.t ≤ _; omega
  · show _ ≤ x.s + (m : Int) ∧ x.s + (m : Int) ≤ _; omega
  · show (x.es.take m).length ≤ _
    rw [List.length_take]; omega
theorem SlV.cut {w : World} {A : Option Addr} {c : Nat} {l : List En} {m : Nat} (h : SlV enE w A c l) (hm : m ≤ l.length) : SlV enE w A c (l.take m) := by
  refine ⟨fun h0 => ?_, h.2.1, ?_⟩
  · rw [List.length_take] at h0
    obtain ⟨b, off, e, hb, hc⟩ := h.1 (by omega)
    refine ⟨b, off, e, hb, fun k hk => ?_⟩
    rw [List.getElem_take]
    exact hc k (by rw [List.length_take] at hk; omega)
  · rw [List.length_take]; have := h.2.2; omega
theorem part_take (H : StreamCalls) {x : Sm} (hR : SmR x) (h5 : x.es.length ≤ 500) {z : Sw} {m W : Nat} (hz : z.x = partS x m) (hm : m ≤ x.es.length) (A : Option Addr) (c : Nat) (at_ : Int) (ha : at_ = x.s + m + 1) (n : Nat) (hn : n = ((x.es.drop m).take W).length) (wx : World) (ho : z.ok wx) (hS : SlV enE wx A c ((x.es.drop m).take W)) :
    Calls Try.prog 26 #[.agg #[.int .i64 z.x.s, .int .i64 z.x.t, .int .i64 z.x.p, .slice z.A z.x.es.length z.c], .int .i64 at_, .slice A n c] wx fun r w' => ∃ z2 : Sw, r = .returned (.agg #[.int .i64 z2.x.s, .int .i64 z2.x.t, .int .i64 z2.x.p, .slice z2.A z2.x.es.length z2.c]) ∧ z2.x = partS x (min (m + W) x.es.length) ∧ z2.ok w' ∧ Below wx.heap.size wx w' := by
  subst ha hn
  have h0 := hR.s0
  have h1 := hR.sp
  have h2 := hR.pm
  refine (H.take z (x.s + m + 1) A c _ wx (by rw [hz]; exact partS_N hR h5 hm) (by omega) (by rw [List.length_take, List.length_drop]; omega) ho hS).mono ?_
  rintro r w' ⟨z2, hr, hz2, hzo, hb⟩
  exact ⟨z2, hr, by rw [hz2, hz, partS_take hm], hzo, hb⟩
def FOL (n1 n2 : Nat) (y z : Sw) (w : World) : Prop := PS4 n1 y w ∧ PS4 n2 z w
set_option maxRecDepth 100000 in
set_option maxHeartbeats 4000000 in
theorem follows12_yes (H : StreamCalls) (A : Option Addr) (c : Nat) (l : List Aw) (cut most : Int) (hc0 : 0 ≤ cut) (hc1 : cut ≤ 255) (hm0 : 0 ≤ most) (hm1 : most ≤ 255) (w : World) (hL : AcsV w A l) (hf : fineL (acts l)) : Calls Try.prog 5 #[.slice A l.length c, .int .u8 cut, .int .u8 most] w fun e w' => e = .returned (.bool true) ∧ Below w.heap.size w w' := by
  have CF := Lib.hid (fine12_any A c l w hL true ⟨fun _ => hf, fun _ => rfl⟩)
  have HF := Lib.hid hf
  have HL := Lib.hid hL
  have h60 : l.length ≤ 60 := by have := hf.1; rw [acts_len] at this; exact this
  clear hf hL
  go_enter Try.func5, Try.ntmps5
  go_wp2_with fail
  refine CF.out.mono ?_
  rintro r w1 ⟨rfl, hN⟩
  clear CF
  go_wp2_with fail
  have hZ : smE.In (w1.alloc (.cells #[.int .i64 0, .int .i64 0, .int .i64 0, .slice none 0 0] 27)) w1.heap.size zeroSw := El.In.new (E := smE) w1 zeroSw #[.int .i64 0, .int .i64 0, .int .i64 0, .slice none 0 0] rfl
  have hN2 := below_then hN (below_alloc (Below.refl w1.heap.size w1) (.cells #[.int .i64 0, .int .i64 0, .int .i64 0, .slice none 0 0] 27))
  have hwn1 : w.heap.size ≤ w1.heap.size := hN.size
  clear hN
  generalize w1.alloc (.cells #[.int .i64 0, .int .i64 0, .int .i64 0, .slice none 0 0] 27) = W1 at *
  obtain ⟨n1, hn1⟩ : ∃ n, w1.heap.size = n := ⟨_, rfl⟩
  rw [hn1] at hZ hwn1 ⊢
  clear hn1
  go_loopw [8] (fun i wr => ∃ (k : Nat) (y : Sw), k ≤ l.length ∧ i = .int .i64 k ∧ Hid (y.x = playS ((acts l).take k)) ∧ y.ok wr ∧ smE.In wr n1 y ∧ Below w.heap.size w wr) (fun i _ => l.length - (intOf i).toNat)
  case atStart => exact ⟨0, zeroSw, Nat.zero_le _, rfl, Lib.hid rfl, SlV.nil enE W1, hZ, hN2⟩
  case round =>
    clear hZ hN2
    obtain ⟨k, y, hk, rfl, hy, ho, hP, hN⟩ := hrel
    by_cases hkl : k < l.length
    · skip
      obtain ⟨b, off, eA, hbw, hc⟩ := HL.out.1 (by omega)
      have hx := acIdxH (cap := c) eA hkl
      have hat : acE.At wr b (off + k * 4) l[k] := (hc k hkl).below hN hbw
      have hbr := Nat.lt_of_lt_of_le hbw hN.size
      have HV := Lib.hid (fun (wx : World) (hb : Below w.heap.size w wx) => (HL.out.2 l[k] (List.getElem_mem hkl)).1.below hb)
      have HS := Lib.hid (fun (wx : World) (ho : y.ok wx) (hv : (l[k]).ok wx) => play_step H HF.out hkl hy.out l[k] rfl wx ho hv)
      generalize l[k] = a at *
      clear hc eA
      go_wp2_with fail
      refine region_anyG (S := PLS n1 y b (off + k * 4) a) 6 (by kernel_rfl) ?_
      replace hP : smE.In wr.drew n1 y := hP
      replace hat : acE.At wr.drew b (off + k * 4) a := hat
      replace ho : y.ok wr.drew := ho
      replace hN := hN.drew
      replace hbr : b < wr.drew.heap.size := hbr
      generalize wr.drew = U at *
      have hS : PLS n1 y b (off + k * 4) a U := ⟨smIn4 hP, acAtH hat⟩
      refine anyG_take (i := 0) (v := .agg #[.int .i64 y.x.s, .int .i64 y.x.t, .int .i64 y.x.p, .slice y.A y.x.es.length y.c]) rfl (by kernel_rfl) (by kernel_rfl) (by kernel_rfl) (by kernel_rfl) (by kernel_rfl) (fun _ _ _ h => h) (Or.inl ⟨by rfl, fun w' hSw => by (obtain ⟨⟨m0, m1, m2, m3⟩, s0, s1, s2, s3⟩ := hSw; go_simp)⟩) hS ?_
      try simp only [Act.put, List.setIfInBounds_toArray, List.set_cons_zero, List.set_cons_succ]
      refine anyG_take (i := 1) (v := .slice A l.length c) rfl (by kernel_rfl) (by kernel_rfl) (by kernel_rfl) (by kernel_rfl) (by kernel_rfl) (fun _ _ _ h => h) (Or.inl ⟨by rfl, fun w' hSw => by (obtain ⟨⟨m0, m1, m2, m3⟩, s0, s1, s2, s3⟩ := hSw; go_simp)⟩) hS ?_
      try simp only [Act.put, List.setIfInBounds_toArray, List.set_cons_zero, List.set_cons_succ]
      refine anyG_take (i := 2) (v := .int .i64 k) rfl (by kernel_rfl) (by kernel_rfl) (by kernel_rfl) (by kernel_rfl) (by kernel_rfl) (fun _ _ _ h => h) (Or.inl ⟨by rfl, fun w' hSw => by (obtain ⟨⟨m0, m1, m2, m3⟩, s0, s1, s2, s3⟩ := hSw; go_simp)⟩) hS ?_
      try simp only [Act.put, List.setIfInBounds_toArray, List.set_cons_zero, List.set_cons_succ]
      refine anyG_take (i := 3) (v := .pointer (some ⟨b, off + k * 4, none⟩)) rfl (by kernel_rfl) (by kernel_rfl) (by kernel_rfl) (by kernel_rfl) (by kernel_rfl) (fun _ _ _ h => h) (Or.inl ⟨by rfl, fun w' hSw => by (obtain ⟨⟨m0, m1, m2, m3⟩, s0, s1, s2, s3⟩ := hSw; go_simp)⟩) hS ?_
      try simp only [Act.put, List.setIfInBounds_toArray, List.set_cons_zero, List.set_cons_succ]
      refine anyG_take (i := 4) (v := .agg #[.int .i64 a.v.k, .int .i64 a.v.a, .int .i64 a.v.b, .slice a.A a.v.es.length a.c]) rfl (by kernel_rfl) (by kernel_rfl) (by kernel_rfl) (by kernel_rfl) (by kernel_rfl) (fun _ _ _ h => h) (Or.inl ⟨by rfl, fun w' hSw => by (obtain ⟨⟨m0, m1, m2, m3⟩, s0, s1, s2, s3⟩ := hSw; go_simp)⟩) hS ?_
      try simp only [Act.put, List.setIfInBounds_toArray, List.set_cons_zero, List.set_cons_succ]
      refine anyG_step (rs := [5]) (by kernel_rfl) (by simp) ?_
      refine AllG.cons rfl (fun K hK => ?_) AllG.nil
      go_simp
      refine (HS.out U ho (HV.out U hN)).mono ?_
      rintro r w1 ⟨z, rfl, hz0, hzo, hb1⟩
      have hz := Lib.hid hz0
      clear hz0 hS
      replace hP := hP.below hb1
      replace hat := hat.below hb1 hbr
      replace hN := hN.trans (hb1.mono hN.size)
      clear ho hb1
      try go_wp2_with fail
      refine hK.out _ _ (⟨smIn4 hP, acAtH hat⟩ : PLS n1 y b (off + k * 4) a w1) ?_
      try simp only [Act.put, List.setIfInBounds_toArray, List.set_cons_zero, List.set_cons_succ]
      clear hK
      refine anyG_step (rs := [6]) (by kernel_rfl) (by simp) ?_
      refine AllG.last (n := 6) rfl (fun K hK => ?_)
      refine El.step_store smRow rfl _ _ rfl n1 z #[.int .i64 z.x.s, .int .i64 z.x.t, .int .i64 z.x.p, .slice z.A z.x.es.length z.c] rfl rfl rfl y hP ?_
      refine hK.out _ _ ?_
      clear hK
      refine anyG_done (by kernel_rfl) ?_ _
      have hP2 := hP.set z #[.int .i64 z.x.s, .int .i64 z.x.t, .int .i64 z.x.p, .slice z.A z.x.es.length z.c] rfl
      have hzo2 : z.ok (w1.setRow n1 #[.int .i64 z.x.s, .int .i64 z.x.t, .int .i64 z.x.p, .slice z.A z.x.es.length z.c]) := SlV.keepN hzo (by_row _ n1 _) (sm_off hzo.1 hP)
      have hN2 := below_setRow hN hwn1 #[.int .i64 z.x.s, .int .i64 z.x.t, .int .i64 z.x.p, .slice z.A z.x.es.length z.c]
      clear hP hat hzo hN
      go_wp2_with fail
      exact ⟨⟨k + 1, z, by omega, by go_num, hz, hzo2, hP2, hN2⟩, by simp [intOf]; omega⟩
    · obtain rfl : k = l.length := by omega
      obtain ⟨hR, hNN⟩ := played HF.out hy.out
      have HR := Lib.hid hR
      have HNN := Lib.hid hNN
      have hlen := hR.len
      have hs0 := hR.s0
      have hsp := hR.sp
      have hpm := hR.pm
      have ht0 := hR.t0
      have htm := hR.tm
      have HLEN := Lib.hid hlen
      clear hR hNN hy HF HL hkl hk h60 hlen
      obtain ⟨p0, p1, p2, p3⟩ := smIn4 hP
      by_cases h500 : 500 < y.x.p
      · go_wp2_with fail
        refine (awake12_any H _).mono ?_
        rintro r w2 ⟨rfl, hb2⟩
        go_wp2_with fail
        go_ret
        exact ⟨rfl, below_then hN hb2⟩
      · have h5 : y.x.es.length ≤ 500 := by have := HLEN.out; omega
        obtain ⟨m0, hm0'⟩ : ∃ m0 : Nat, cut % ((y.x.es.length : Int) + 1) = m0 := ⟨(cut % ((y.x.es.length : Int) + 1)).toNat, by have := Int.emod_nonneg cut (show (y.x.es.length : Int) + 1 ≠ 0 by omega); omega⟩
        have hm0l : m0 ≤ y.x.es.length := by have := Int.emod_lt_of_pos cut (show 0 < (y.x.es.length : Int) + 1 by omega); omega
        go_wp2_with fail
        go_quiet (fail)
        go_wp2_with fail
        replace ho : y.ok (wr.drewN nq) := ho
        replace hP : smE.In (wr.drewN nq) n1 y := hP
        replace hN := below_drew hN nq
        clear p0 p1 p2 p3 hm0'
        generalize wr.drewN nq = V at *
        refine (H.settle zeroSw y.x.s y.x.t V ⟨by decide, by decide, by decide, by decide⟩ zeroSm_R (by omega) (SlV.nil enE V)).mono ?_
        rintro r w2 ⟨z, rfl, hz0, hzo, hb2⟩
        have hz := Lib.hid (show z.x = partS y.x 0 from hz0.trans (partS_start HR.out))
        clear hz0
        replace hP := hP.below hb2
        replace ho := ho.below hb2
        replace hN := below_then hN hb2
        clear hb2
        have hQ : smE.In (w2.alloc (.cells #[.int .i64 z.x.s, .int .i64 z.x.t, .int .i64 z.x.p, .slice z.A z.x.es.length z.c] 27)) w2.heap.size z := El.In.new (E := smE) w2 z _ rfl
        have hal := below_alloc (Below.refl w2.heap.size w2) (.cells #[.int .i64 z.x.s, .int .i64 z.x.t, .int .i64 z.x.p, .slice z.A z.x.es.length z.c] 27)
        have hn12 : n1 < w2.heap.size := hP.lt
        have hwn2 : w.heap.size ≤ w2.heap.size := hN.size
        replace hP := hP.below hal
        replace ho := ho.below hal
        replace hzo := hzo.below hal
        replace hN := below_then hN hal
        clear hal
        obtain ⟨p0, p1, p2, p3⟩ := smIn4 hP
        go_wp2_with fail
        generalize w2.alloc (.cells #[.int .i64 z.x.s, .int .i64 z.x.t, .int .i64 z.x.p, .slice z.A z.x.es.length z.c] 27) = W2 at *
        obtain ⟨n2, hn2⟩ : ∃ n, w2.heap.size = n := ⟨_, rfl⟩
        rw [hn2] at hQ hn12 hwn2 ⊢
        clear hn2 p0 p1 p2 p3
        have CA := Lib.hid (fun (wx : World) (ho : y.ok wx) => (by
          have h := H.from_ y y.x.s 1000 wx HNN.out HR.out (by omega) ho
          rw [from_all HR.out (by omega)] at h
          exact h : Calls Try.prog 14 #[.agg #[.int .i64 y.x.s, .int .i64 y.x.t, .int .i64 y.x.p, .slice y.A y.x.es.length y.c], .int .i64 y.x.s, .int .i64 1000] wx fun r w' => ∃ (A : Option Addr) (c : Nat), r = .returned (.tuple #[.int .i64 (fromP y.x y.x.s), .slice A y.x.es.length c]) ∧ SlV enE w' A c y.x.es ∧ Below wx.heap.size wx w'))
        generalize fromP y.x y.x.s = P0 at *
        refine (CA.out _ ho).mono ?_
        rintro r w3 ⟨A3, c3, rfl, hS3, hb3⟩
        replace hP := hP.below hb3
        replace hQ := hQ.below hb3
        replace ho := ho.below hb3
        replace hzo := hzo.below hb3
        replace hN := below_then hN hb3
        clear hb3 CA
        go_wp2_with fail
        refine region_anyG (S := FOL n1 n2 y z) 14 (by kernel_rfl) ?_
        replace hP : smE.In w3.drew n1 y := hP
        replace hQ : smE.In w3.drew n2 z := hQ
        replace ho : y.ok w3.drew := ho
        replace hzo : z.ok w3.drew := hzo
        replace hS3 : SlV enE w3.drew A3 c3 y.x.es := hS3
        replace hN := hN.drew
        generalize w3.drew = U at *
        have hS : FOL n1 n2 y z U := ⟨smIn4 hP, smIn4 hQ⟩
        have hjc : m0 ≤ c3 := Nat.le_trans hm0l hS3.2.2
        have hA3 : (if c3 = 0 then A3 else Option.map (fun x => x.add (0 * 10)) A3) = A3 := by
          split
          · rfl
          · cases A3 with
            | none => rfl
            | some a => simp [Addr.add]
        have wr1 : IntKind.i64.wrap (y.x.s + 1) = y.x.s + 1 := by rw [IntKind.wrap_i64]; omega
        have wr2 : IntKind.i64.wrap (y.x.s + (m0 : Int) - y.x.s) = m0 := by rw [IntKind.wrap_i64]; omega
        refine anyG_take (i := 0) (v := .agg #[.int .i64 z.x.s, .int .i64 z.x.t, .int .i64 z.x.p, .slice z.A z.x.es.length z.c]) rfl (by kernel_rfl) (by kernel_rfl) (by kernel_rfl) (by kernel_rfl) (by kernel_rfl) (fun _ _ _ h => h) (Or.inl ⟨by rfl, fun w' hSw => by (obtain ⟨⟨g0, g1, g2, g3⟩, s0, s1, s2, s3⟩ := hSw; go_simp)⟩) hS ?_
        try simp only [Act.put, List.setIfInBounds_toArray, List.set_cons_zero, List.set_cons_succ]
        refine anyG_take (i := 1) (v := .pointer (some ⟨n1, 0, none⟩)) rfl (by kernel_rfl) (by kernel_rfl) (by kernel_rfl) (by kernel_rfl) (by kernel_rfl) (fun _ _ _ h => h) (Or.inl ⟨by rfl, fun w' hSw => by (obtain ⟨⟨g0, g1, g2, g3⟩, s0, s1, s2, s3⟩ := hSw; go_simp)⟩) hS ?_
        try simp only [Act.put, List.setIfInBounds_toArray, List.set_cons_zero, List.set_cons_succ]
        refine anyG_take (i := 2) (v := .int .i64 y.x.s) rfl (by kernel_rfl) (by kernel_rfl) (by kernel_rfl) (by kernel_rfl) (by kernel_rfl) (fun _ _ _ h => h) (Or.inl ⟨by rfl, fun w' hSw => by (obtain ⟨⟨g0, g1, g2, g3⟩, s0, s1, s2, s3⟩ := hSw; go_simp)⟩) hS ?_
        try simp only [Act.put, List.setIfInBounds_toArray, List.set_cons_zero, List.set_cons_succ]
        refine anyG_take (i := 3) (v := .int .i64 (y.x.s + 1)) rfl (by kernel_rfl) (by kernel_rfl) (by kernel_rfl) (by kernel_rfl) (by kernel_rfl) (fun _ _ _ h => h) (Or.inl ⟨by rfl, fun w' hSw => by (obtain ⟨⟨g0, g1, g2, g3⟩, s0, s1, s2, s3⟩ := hSw; go_simp)⟩) hS ?_
        try simp only [Act.put, List.setIfInBounds_toArray, List.set_cons_zero, List.set_cons_succ]
        refine anyG_take (i := 4) (v := .slice A3 y.x.es.length c3) rfl (by kernel_rfl) (by kernel_rfl) (by kernel_rfl) (by kernel_rfl) (by kernel_rfl) (fun _ _ _ h => h) (Or.inl ⟨by rfl, fun w' hSw => by (obtain ⟨⟨g0, g1, g2, g3⟩, s0, s1, s2, s3⟩ := hSw; go_simp)⟩) hS ?_
        try simp only [Act.put, List.setIfInBounds_toArray, List.set_cons_zero, List.set_cons_succ]
        refine anyG_take (i := 5) (v := .slice A3 y.x.es.length c3) rfl (by kernel_rfl) (by kernel_rfl) (by kernel_rfl) (by kernel_rfl) (by kernel_rfl) (fun _ _ _ h => h) (Or.inl ⟨by rfl, fun w' hSw => by (obtain ⟨⟨g0, g1, g2, g3⟩, s0, s1, s2, s3⟩ := hSw; go_simp)⟩) hS ?_
        try simp only [Act.put, List.setIfInBounds_toArray, List.set_cons_zero, List.set_cons_succ]
        refine anyG_take (i := 6) (v := .int .i64 y.x.es.length) rfl (by kernel_rfl) (by kernel_rfl) (by kernel_rfl) (by kernel_rfl) (by kernel_rfl) (fun _ _ _ h => h) (Or.inl ⟨by rfl, fun w' hSw => by (obtain ⟨⟨g0, g1, g2, g3⟩, s0, s1, s2, s3⟩ := hSw; go_simp)⟩) hS ?_
        try simp only [Act.put, List.setIfInBounds_toArray, List.set_cons_zero, List.set_cons_succ]
        refine anyG_take (i := 7) (v := .int .i64 (y.x.s + (m0 : Int))) rfl (by kernel_rfl) (by kernel_rfl) (by kernel_rfl) (by kernel_rfl) (by kernel_rfl) (fun _ _ _ h => h) (Or.inl ⟨by rfl, fun w' hSw => by (obtain ⟨⟨g0, g1, g2, g3⟩, s0, s1, s2, s3⟩ := hSw; go_simp)⟩) hS ?_
        try simp only [Act.put, List.setIfInBounds_toArray, List.set_cons_zero, List.set_cons_succ]
        refine anyG_take (i := 8) (v := .pointer (some ⟨n1, 0, none⟩)) rfl (by kernel_rfl) (by kernel_rfl) (by kernel_rfl) (by kernel_rfl) (by kernel_rfl) (fun _ _ _ h => h) (Or.inl ⟨by rfl, fun w' hSw => by (obtain ⟨⟨g0, g1, g2, g3⟩, s0, s1, s2, s3⟩ := hSw; go_simp)⟩) hS ?_
        try simp only [Act.put, List.setIfInBounds_toArray, List.set_cons_zero, List.set_cons_succ]
        refine anyG_take (i := 9) (v := .int .i64 y.x.s) rfl (by kernel_rfl) (by kernel_rfl) (by kernel_rfl) (by kernel_rfl) (by kernel_rfl) (fun _ _ _ h => h) (Or.inl ⟨by rfl, fun w' hSw => by (obtain ⟨⟨g0, g1, g2, g3⟩, s0, s1, s2, s3⟩ := hSw; go_simp)⟩) hS ?_
        try simp only [Act.put, List.setIfInBounds_toArray, List.set_cons_zero, List.set_cons_succ]
        refine anyG_take (i := 10) (v := .int .i64 m0) rfl (by kernel_rfl) (by kernel_rfl) (by kernel_rfl) (by kernel_rfl) (by kernel_rfl) (fun _ _ _ h => h) (Or.inl ⟨by rfl, fun w' hSw => by (obtain ⟨⟨g0, g1, g2, g3⟩, s0, s1, s2, s3⟩ := hSw; go_simp)⟩) hS ?_
        try simp only [Act.put, List.setIfInBounds_toArray, List.set_cons_zero, List.set_cons_succ]
        refine anyG_take (i := 11) (v := .int .i64 m0) rfl (by kernel_rfl) (by kernel_rfl) (by kernel_rfl) (by kernel_rfl) (by kernel_rfl) (fun _ _ _ h => h) (Or.inl ⟨by rfl, fun w' hSw => by (obtain ⟨⟨g0, g1, g2, g3⟩, s0, s1, s2, s3⟩ := hSw; go_simp; omega)⟩) hS ?_
        try simp only [Act.put, List.setIfInBounds_toArray, List.set_cons_zero, List.set_cons_succ]
        refine anyG_take (i := 12) (v := .slice A3 m0 c3) rfl (by kernel_rfl) (by kernel_rfl) (by kernel_rfl) (by kernel_rfl) (by kernel_rfl) (fun _ _ _ h => h) (Or.inl ⟨by rfl, fun w' hSw => by (obtain ⟨⟨g0, g1, g2, g3⟩, s0, s1, s2, s3⟩ := hSw; go_simp)⟩) hS ?_
        try simp only [Act.put, List.setIfInBounds_toArray, List.set_cons_zero, List.set_cons_succ]
        have CT := Lib.hid (fun (wx : World) (ho : z.ok wx) (hS : SlV enE wx A3 c3 y.x.es) => (by
          have h := part_take H HR.out h5 (m := 0) (W := m0) hz.out (Nat.zero_le _) A3 c3 (y.x.s + 1) (by omega) m0 (by rw [List.drop_zero, List.length_take]; omega) wx ho (by rw [List.drop_zero]; exact hS.cut hm0l)
          rw [show min (0 + m0) y.x.es.length = m0 by omega] at h
          exact h : Calls Try.prog 26 #[.agg #[.int .i64 z.x.s, .int .i64 z.x.t, .int .i64 z.x.p, .slice z.A z.x.es.length z.c], .int .i64 (y.x.s + 1), .slice A3 m0 c3] wx fun r w' => ∃ z2 : Sw, r = .returned (.agg #[.int .i64 z2.x.s, .int .i64 z2.x.t, .int .i64 z2.x.p, .slice z2.A z2.x.es.length z2.c]) ∧ z2.x = partS y.x m0 ∧ z2.ok w' ∧ Below wx.heap.size wx w'))
        refine anyG_step (rs := [13]) (by kernel_rfl) (by simp) ?_
        refine AllG.cons rfl (fun K hK => ?_) AllG.nil
        go_simp
        refine (CT.out U hzo hS3).mono ?_
        rintro r w4 ⟨z2, rfl, hz2, hzo2, hb4⟩
        replace hz2 := Lib.hid hz2
        replace hP := hP.below hb4
        replace hQ := hQ.below hb4
        replace ho := ho.below hb4
        replace hN := below_then hN hb4
        clear hb4 CT hS hA3 wr1 wr2 hS3 hjc
        try go_wp2_with fail
        refine hK.out _ _ (⟨smIn4 hP, smIn4 hQ⟩ : FOL n1 n2 y z w4) ?_
        try simp only [Act.put, List.setIfInBounds_toArray, List.set_cons_zero, List.set_cons_succ]
        clear hK
        refine anyG_step (rs := [14]) (by kernel_rfl) (by simp) ?_
        refine AllG.last (n := 14) rfl (fun K hK => ?_)
        refine El.step_store smRow rfl _ _ rfl n2 z2 #[.int .i64 z2.x.s, .int .i64 z2.x.t, .int .i64 z2.x.p, .slice z2.A z2.x.es.length z2.c] rfl rfl rfl z hQ ?_
        refine hK.out _ _ ?_
        clear hK
        refine anyG_done (by kernel_rfl) ?_ _
        have hQ2 := hQ.set z2 #[.int .i64 z2.x.s, .int .i64 z2.x.t, .int .i64 z2.x.p, .slice z2.A z2.x.es.length z2.c] rfl
        have hzo3 : z2.ok (w4.setRow n2 #[.int .i64 z2.x.s, .int .i64 z2.x.t, .int .i64 z2.x.p, .slice z2.A z2.x.es.length z2.c]) := SlV.keepN hzo2 (by_row _ n2 _) (sm_off hzo2.1 hQ)
        have ho3 : y.ok (w4.setRow n2 #[.int .i64 z2.x.s, .int .i64 z2.x.t, .int .i64 z2.x.p, .slice z2.A z2.x.es.length z2.c]) := SlV.keepN ho (by_row _ n2 _) (sm_off ho.1 hQ)
        have hP3 := hP.rowN n2 #[.int .i64 z2.x.s, .int .i64 z2.x.t, .int .i64 z2.x.p, .slice z2.A z2.x.es.length z2.c] (by omega)
        have hN3 := below_setRow hN hwn2 #[.int .i64 z2.x.s, .int .i64 z2.x.t, .int .i64 z2.x.p, .slice z2.A z2.x.es.length z2.c]
        clear hP hQ ho hzo hzo2 hN hz
        generalize w4.setRow n2 #[.int .i64 z2.x.s, .int .i64 z2.x.t, .int .i64 z2.x.p, .slice z2.A z2.x.es.length z2.c] = W4 at *
        go_wp2_with fail
        go_loopw [13] (fun i wr => ∃ (k m : Nat) (z : Sw), k ≤ m ∧ m ≤ y.x.es.length ∧ i = .int .i64 k ∧ Hid (z.x = partS y.x m) ∧ z.ok wr ∧ y.ok wr ∧ smE.In wr n1 y ∧ smE.In wr n2 z ∧ Below w.heap.size w wr) (fun i _ => y.x.es.length - (intOf i).toNat)
        case atStart => exact ⟨0, m0, z2, Nat.zero_le _, hm0l, rfl, hz2, hzo3, ho3, hP3, hQ2, hN3⟩
        case round =>
          clear hP3 hQ2 ho3 hzo3 hN3 hz2 hm0l
          obtain ⟨k, m, z, hkm, hm, rfl, hz, hzo, ho, hP, hQ, hN⟩ := hrel
          obtain ⟨p0, p1, p2, p3⟩ := smIn4 hP
          obtain ⟨q0, q1, q2, q3⟩ := smIn4 hQ
          have hzp : z.x.p = y.x.s + m := by rw [hz.out]; rfl
          have hyp := HLEN.out
          have HZP := Lib.hid hzp
          by_cases hml : m < y.x.es.length
          · have hlt : z.x.p < y.x.p := by omega
            clear hzp hyp
            go_wp2_with fail
            have hw1 : 1 ≤ 1 + most % 5 ∧ 1 + most % 5 ≤ 5 := by omega
            obtain ⟨wd, hwd⟩ : ∃ wd : Int, 1 + most % 5 = wd := ⟨_, rfl⟩
            rw [hwd] at hw1 ⊢
            clear hwd
            obtain ⟨W, hW⟩ : ∃ W : Nat, wd.toNat = W := ⟨_, rfl⟩
            have hW1 : 1 ≤ W := by omega
            obtain ⟨n, hn⟩ : ∃ n, ((y.x.es.drop m).take W).length = n := ⟨_, rfl⟩
            have CF := Lib.hid ((by
              have h := H.from_ y z.x.p wd wr HNN.out HR.out (by have := HZP.out; omega) ho
              rw [HZP.out, (partS_from m wd).1, (partS_from (x := y.x) m wd).2, hW, hn] at h
              rw [HZP.out]
              exact h : Calls Try.prog 14 #[.agg #[.int .i64 y.x.s, .int .i64 y.x.t, .int .i64 y.x.p, .slice y.A y.x.es.length y.c], .int .i64 z.x.p, .int .i64 wd] wr fun r w' => ∃ (A : Option Addr) (c : Nat), r = .returned (.tuple #[.int .i64 (y.x.s + m + 1), .slice A n c]) ∧ SlV enE w' A c ((y.x.es.drop m).take W) ∧ Below wr.heap.size wr w'))
            have CT := Lib.hid (fun (A : Option Addr) (c : Nat) (wx : World) ho hS => part_take H HR.out h5 hz.out hm A c (y.x.s + m + 1) rfl n hn.symm wx ho hS)
            clear hW hn hlt
            refine CF.out.mono ?_
            rintro r w5 ⟨A5, c5, rfl, hS5, hb5⟩
            clear p0 p1 p2 p3 q0 q1 q2 q3 CF
            replace hP := hP.below hb5
            replace hQ := hQ.below hb5
            replace ho := ho.below hb5
            replace hzo := hzo.below hb5
            replace hN := below_then hN hb5
            clear hb5
            obtain ⟨q0, q1, q2, q3⟩ := smIn4 hQ
            go_wp2_with fail
            refine (CT.out _ _ _ hzo hS5).mono ?_
            rintro r w6 ⟨z2, rfl, hz2, hzo2, hb6⟩
            replace hz2 := Lib.hid hz2
            replace hP := hP.below hb6
            replace hQ := hQ.below hb6
            replace ho := ho.below hb6
            replace hN := below_then hN hb6
            clear hb6 CT q0 q1 q2 q3 hS5 hzo
            go_wp2_with (first | (refine El.store smRow rfl _ _ rfl n2 z2 #[.int .i64 z2.x.s, .int .i64 z2.x.t, .int .i64 z2.x.p, .slice z2.A z2.x.es.length z2.c] rfl rfl rfl z hQ ?_) | fail)
            refine ⟨⟨k + 1, min (m + W) y.x.es.length, z2, by omega, by omega, by go_num, hz2, SlV.keepN hzo2 (by_row _ n2 _) (sm_off hzo2.1 hQ), SlV.keepN ho (by_row _ n2 _) (sm_off ho.1 hQ), hP.rowN n2 _ (by omega), hQ.set z2 _ rfl, below_setRow hN hwn2 _⟩, by simp [intOf]; omega⟩
          · have hlt : ¬ z.x.p < y.x.p := by omega
            have hzy : z.x = y.x := by
              have : m = y.x.es.length := by omega
              rw [hz.out, this, partS_all HR.out]
            have CS := Lib.hid (fun (wx : World) (hy : y.ok wx) (hz : z.ok wx) => refSameSm_any y z wx hzy hy hz (by omega))
            clear hzp hyp hzy
            go_wp2_with fail
            refine (awake12_any H _).mono ?_
            rintro r w5 ⟨rfl, hb5⟩
            replace hP := hP.below hb5
            replace hQ := hQ.below hb5
            replace ho := ho.below hb5
            replace hzo := hzo.below hb5
            replace hN := below_then hN hb5
            clear hb5 p0 p1 p2 p3 q0 q1 q2 q3
            obtain ⟨p0, p1, p2, p3⟩ := smIn4 hP
            obtain ⟨q0, q1, q2, q3⟩ := smIn4 hQ
            go_wp2_with fail
            refine (CS.out _ ho hzo).mono ?_
            rintro r w6 ⟨rfl, hb6⟩
            replace hN := below_then hN hb6
            go_wp2_with fail
            go_ret
            exact ⟨rfl, hN⟩
set_option maxRecDepth 100000 in
theorem follows12_lifted (H0 : StreamCalls) (os : Os) (started : os.Started) (H : Type) (enc : TypeId × Value → H) :
    ReturnsInHanded {} Try.checked os 5 .any (Rows.streamFollowsSpec.pre6 enc Try.prog Try.f5 Rows.streamFollowsRow.domain false) (Rows.streamFollowsSpec.post enc Try.prog Try.f5 false true false false) := by
  refine returnsInHanded_of_change (C := Try.checked) own started (by kernel_rfl) Try.func5
    (ChangeSpec.witness6 (enc := enc) (C := Try.checked) false ⟨#[], #[.slice none 0 0, .int .u8 0, .int .u8 0], []⟩ 8 (by kernel_rfl) (by kernel_rfl) (by kernel_rfl) (by kernel_rfl)) ?_
  intro W base args ds gs before hval0 hW _ _
  have hval : ∀ (j : Nat) t v, Try.f5.params[j]? = some t → args[j]? = some v → Value.okWide Try.prog W .any base t v := hval0
  have hW' := hW
  obtain ⟨p, q, hA0, hV, rfl, _, _⟩ := hW
  have hA : DataW.TrodAll enc Try.prog W 0 (fun _ => true) true Try.f5.params.toList args.toList ds p := hA0
  rw [Try.params5] at hA hval
  obtain ⟨v0, v1, v2, d0, d1, d2, p0, p1, p2, rfl, rfl, rfl, h0, h1, h2⟩ := trodAll_three hA
  obtain ⟨A, c, l, rfl, hL⟩ := open_acs (hval 0 22 v0 rfl rfl) h0
  obtain ⟨cut, rfl, hc0, hc1⟩ := open_u8 (hval 1 5 v1 rfl rfl) h1
  obtain ⟨most, rfl, hm0, hm1⟩ := open_u8 (hval 2 5 v2 rfl rfl) h2
  have hc : Calls Try.prog 5 #[.slice A l.length c, .int .u8 cut, .int .u8 most] W fun e w' => e = .returned (.bool true) ∧ Below W.heap.size W w' := by
    by_cases h : fineL (acts l)
    · exact follows12_yes H0 A c l cut most hc0 hc1 hm0 hm1 W hL h
    · exact follows12_no H0 A c l cut most W hL h
  refine hc.mono fun e W' ⟨he, hb⟩ => ?_
  subst he
  exact ⟨_, rfl, Frm.law_post (by kernel_rfl) (by kernel_rfl) (by kernel_rfl) Try.underlying4 rfl rfl hW' hb⟩

theorem follows12_holds (H0 : StreamCalls) : Rows.StreamFollowsSaid :=
  OpenClaim.holds_of_wide 5 Try.f5 rfl rfl rfl rfl rfl rfl rfl ⟨rfl, rfl, rfl, rfl, rfl⟩ rfl rfl rfl rfl rfl (by kernel_rfl) Try.func5 (by kernel_rfl)
    (of_decide_eq_true (by kernel_rfl)) (by unfold Func.isWrapper; first | (rw [if_pos (by decide +kernel)]; kernel_rfl) | (rw [if_neg (by decide +kernel)]; exact ⟨rfl, rfl⟩))
    (fun os started H enc _ => follows12_lifted H0 os started H enc)
end Go.Proofs.Ytbfebcifmneliaa

/- StreamPlays, given the program's calls. -/
namespace Go.Proofs.Ytbfebcifmneliaa
open Go.ChangeShapes Go.WideShapes Go.ChangeAt Go.RowKit Go.Deep Nam Cod

set_option maxRecDepth 100000 in
theorem plays12_no (H : StreamCalls) (A : Option Addr) (c : Nat) (l : List Aw) (place most : Int) (w : World) (hL : AcsV w A l) (h : ¬ (fineL (acts l) ∧ -1000 ≤ place ∧ place ≤ 1000000)) : Calls Try.prog 3 #[.slice A l.length c, .int .i64 place, .int .i64 most] w fun e w' => e = .returned (.bool true) ∧ Below w.heap.size w w' := by
  by_cases hf : fineL (acts l)
  · have CF := Lib.hid (fine12_any A c l w hL true ⟨fun _ => hf, fun _ => rfl⟩)
    rcases (show place < -1000 ∨ (-1000 ≤ place ∧ 1000000 < place) from (by
      rcases Int.lt_or_le place (-1000) with h1 | h1
      · exact Or.inl h1
      · rcases Int.lt_or_le 1000000 place with h2 | h2
        · exact Or.inr ⟨h1, h2⟩
        · exact absurd ⟨hf, h1, h2⟩ h)) with h1 | ⟨h1, h2⟩
    all_goals
      clear h hf
      go_enter Try.func3, Try.ntmps3
      go_wp2_with fail
      refine CF.out.mono ?_
      rintro r w1 ⟨rfl, hN⟩
      go_wp2_with fail
      refine (awake12_any H _).mono ?_
      rintro r w2 ⟨rfl, hb2⟩
      go_wp2_with fail
      go_ret
      exact ⟨rfl, below_then hN hb2⟩
  · have CF := Lib.hid (fine12_any A c l w hL false ⟨(fun h => by cases h), fun h => absurd h hf⟩)
    clear h hf
    go_enter Try.func3, Try.ntmps3
    go_wp2_with fail
    refine CF.out.mono ?_
    rintro r w1 ⟨rfl, hN⟩
    go_wp2_with fail
    refine (awake12_any H _).mono ?_
    rintro r w2 ⟨rfl, hb2⟩
    go_wp2_with fail
    go_ret
    exact ⟨rfl, below_then hN hb2⟩

/-- The document's step, by kinds. -/
theorem ref_step {l : List Aw} (hf : fineL (acts l)) {k : Nat} (hkl : k < l.length) {y : Sw} (hy : y.x = playS ((acts l).take k)) (a : Aw) (ha : l[k] = a) :
    (a.v.k = 0 → ∀ wx, y.ok wx → Calls Try.prog 10 #[.agg #[.int .i64 y.x.s, .int .i64 y.x.t, .int .i64 y.x.p, .slice y.A y.x.es.length y.c], .agg #[.int .i64 (someE y.x.p).k, .int .i64 (someE y.x.p).d, .int .i64 (someE y.x.p).i, .int .i64 (someE y.x.p).o.C, .int .i64 (someE y.x.p).o.D, .int .i64 (someE y.x.p).o.I, .int .i64 (someE y.x.p).o.M, .int .i64 (someE y.x.p).o.K, .int .i64 (someE y.x.p).o.U, .string (someE y.x.p).o.s]] wx fun r w' => ∃ z : Sw, r = .returned (.agg #[.int .i64 z.x.s, .int .i64 z.x.t, .int .i64 z.x.p, .slice z.A z.x.es.length z.c]) ∧ z.x = playS ((acts l).take (k + 1)) ∧ z.ok w' ∧ Below wx.heap.size wx w') ∧
    (a.v.k = 1 → ∀ wx, y.ok wx → a.ok wx → Calls Try.prog 12 #[.agg #[.int .i64 y.x.s, .int .i64 y.x.t, .int .i64 y.x.p, .slice y.A y.x.es.length y.c], .int .i64 a.v.a, .slice a.A a.v.es.length a.c] wx fun r w' => ∃ z : Sw, r = .returned (.agg #[.int .i64 z.x.s, .int .i64 z.x.t, .int .i64 z.x.p, .slice z.A z.x.es.length z.c]) ∧ z.x = playS ((acts l).take (k + 1)) ∧ z.ok w' ∧ Below wx.heap.size wx w') ∧
    (a.v.k = 2 → ∀ wx, y.ok wx → Calls Try.prog 13 #[.agg #[.int .i64 y.x.s, .int .i64 y.x.t, .int .i64 y.x.p, .slice y.A y.x.es.length y.c], .int .i64 a.v.a, .int .i64 a.v.b] wx fun r w' => ∃ z : Sw, r = .returned (.agg #[.int .i64 z.x.s, .int .i64 z.x.t, .int .i64 z.x.p, .slice z.A z.x.es.length z.c]) ∧ z.x = playS ((acts l).take (k + 1)) ∧ z.ok w' ∧ Below wx.heap.size wx w') ∧
    (¬ a.v.k = 0 → ¬ a.v.k = 1 → ¬ a.v.k = 2 → y.x = playS ((acts l).take (k + 1))) ∧ 0 ≤ y.x.p ∧ y.x.p ≤ 1000000000000000 := by
  subst ha
  have hk : k < (acts l).length := by rw [acts_len]; exact hkl
  have hK := playS_K hf k (by omega)
  rw [← hy] at hK
  have hC := hf.2 _ (List.getElem_mem hk)
  rw [acts_get hkl] at hC
  obtain ⟨c1, c2, c3, c4, c5, c6⟩ := hC
  have hk60 := hf.1
  have hN := hK.n (by omega)
  have hnx : playS ((acts l).take (k + 1)) = stepS y.x l[k].v := by rw [playS_next _ k hk, acts_get hkl, hy]
  have hp0 := hK.toSmR.s0
  have hp1 := hK.toSmR.sp
  have hp2 := hK.toSmR.pm
  rw [hnx]
  unfold stepS
  refine ⟨fun h => ?_, fun h => ?_, fun h => ?_, fun h h1 h2 => ?_, by omega, by omega⟩
  · intro wx ho
    rw [if_pos h]
    exact refSmPush_any y _ wx (by omega) (by have := hN.l; omega) ho
  · intro wx ho hv
    rw [if_neg (by omega), if_pos h]
    exact refSmTake_any y l[k].v.a l[k].A l[k].c l[k].v.es wx hN (by omega) (by omega) ho hv
  · intro wx ho
    rw [if_neg (by omega), if_neg (by omega), if_pos h]
    exact refSmSettle_any y l[k].v.a l[k].v.b wx hN hK.toSmR (by omega) ho
  · rw [if_neg h, if_neg h1, if_neg h2]
theorem ent12_tiny {e : En} (h : entB e = true) : e.o.s.size ≤ 16 := by
  by_cases h1 : e.k = 1
  · exact (opB_wide (entB_one h h1).2.2).2.2.1
  · rw [(entB_two h h1).2.2]; exact Nat.zero_le _
theorem ent12_wide {e : En} (h : entB e = true) : EnW e := by
  by_cases h1 : e.k = 1
  · obtain ⟨h2, h3, h4⟩ := entB_one h h1
    exact ⟨i64_of (by omega), i64_of (by omega), i64_of (by omega), (opB_wide h4).1⟩
  · obtain ⟨h2, h3, h4⟩ := entB_two h h1
    refine ⟨i64_of (by omega), i64_of (by omega), i64_of (by omega), ?_⟩
    rw [h4]
    exact ⟨i64_of (by decide), i64_of (by decide), i64_of (by decide), i64_of (by decide), i64_of (by decide), i64_of (by decide)⟩
theorem playS_more {l : List Aw} (hf : fineL (acts l)) {k : Nat} (hk : k ≤ l.length) {x : Sm} (hx : x = playS ((acts l).take k)) : SmR x ∧ SmN x ∧ (∀ e ∈ x.es, EnW e ∧ e.o.s.size ≤ 1000) := by
  have hK := playS_K hf k (by rw [acts_len]; exact hk)
  rw [← hx] at hK
  have h60 := hf.1
  rw [acts_len] at h60
  exact ⟨hK.toSmR, hK.n (by omega), fun e he => ⟨ent12_wide (hK.ok e he), Nat.le_trans (ent12_tiny (hK.ok e he)) (by decide)⟩⟩

theorem smIn4' {w : World} {n c : Nat} {A : Option Addr} {x : Sm} (h : smE.In w n ⟨A, c, x⟩) : w.cell? ⟨n, 0, none⟩ = some (.int .i64 x.s) ∧ w.cell? ⟨n, 1, none⟩ = some (.int .i64 x.t) ∧ w.cell? ⟨n, 2, none⟩ = some (.int .i64 x.p) ∧ w.cell? ⟨n, 3, none⟩ = some (.slice A x.es.length c) := smIn4 h
set_option maxRecDepth 100000 in
set_option maxHeartbeats 4000000 in
theorem plays12_yes (H : StreamCalls) (A : Option Addr) (c : Nat) (l : List Aw) (place most : Int) (w : World) (hL : AcsV w A l) (hf : fineL (acts l)) (h1 : -1000 ≤ place) (h2 : place ≤ 1000000) : Calls Try.prog 3 #[.slice A l.length c, .int .i64 place, .int .i64 most] w fun e w' => e = .returned (.bool true) ∧ Below w.heap.size w w' := by
  have CF := Lib.hid (fine12_any A c l w hL true ⟨fun _ => hf, fun _ => rfl⟩)
  have HF := Lib.hid hf
  have HL := Lib.hid hL
  have h60 : l.length ≤ 60 := by have := hf.1; rw [acts_len] at this; exact this
  clear hf hL
  go_enter Try.func3, Try.ntmps3
  go_wp2_with fail
  refine CF.out.mono ?_
  rintro r w1 ⟨rfl, hN⟩
  clear CF
  go_wp2_with fail
  have hZ : smE.In ((w1.alloc (.cells #[.int .i64 0, .int .i64 0, .int .i64 0, .slice none 0 0] 27)).alloc (.cells #[.int .i64 0, .int .i64 0, .int .i64 0, .slice none 0 0] 27)) w1.heap.size zeroSw := (El.In.new (E := smE) w1 zeroSw #[.int .i64 0, .int .i64 0, .int .i64 0, .slice none 0 0] rfl).alloc _
  have hZ2 : smE.In ((w1.alloc (.cells #[.int .i64 0, .int .i64 0, .int .i64 0, .slice none 0 0] 27)).alloc (.cells #[.int .i64 0, .int .i64 0, .int .i64 0, .slice none 0 0] 27)) (w1.alloc (.cells #[.int .i64 0, .int .i64 0, .int .i64 0, .slice none 0 0] 27)).heap.size zeroSw := El.In.new (E := smE) (w1.alloc (.cells #[.int .i64 0, .int .i64 0, .int .i64 0, .slice none 0 0] 27)) zeroSw #[.int .i64 0, .int .i64 0, .int .i64 0, .slice none 0 0] rfl
  rw [alloc_size] at hZ2
  have hN2 := below_then hN (below_alloc (below_alloc (Below.refl w1.heap.size w1) (.cells #[.int .i64 0, .int .i64 0, .int .i64 0, .slice none 0 0] 27)) (.cells #[.int .i64 0, .int .i64 0, .int .i64 0, .slice none 0 0] 27))
  have hwn1 : w.heap.size ≤ w1.heap.size := hN.size
  clear hN
  generalize (w1.alloc (.cells #[.int .i64 0, .int .i64 0, .int .i64 0, .slice none 0 0] 27)).alloc (.cells #[.int .i64 0, .int .i64 0, .int .i64 0, .slice none 0 0] 27) = W1 at *
  obtain ⟨n1, hn1⟩ : ∃ n, w1.heap.size = n := ⟨_, rfl⟩
  rw [hn1] at hZ hZ2 hwn1 ⊢
  clear hn1
  obtain ⟨n2, hn2⟩ : ∃ n, n1 + 1 = n := ⟨_, rfl⟩
  have hn12 : n1 < n2 := by omega
  have hwn2 : w.heap.size ≤ n2 := by omega
  rw [hn2] at hZ2 ⊢
  clear hn2
  go_loopw [9] (fun i wr => ∃ (k : Nat) (y t : Sw), k ≤ l.length ∧ i = .int .i64 k ∧ Hid (y.x = playS ((acts l).take k)) ∧ Hid (t.x = playS ((acts l).take k)) ∧ y.ok wr ∧ t.ok wr ∧ smE.In wr n1 y ∧ smE.In wr n2 t ∧ Below w.heap.size w wr) (fun i _ => l.length - (intOf i).toNat)
  case atStart => exact ⟨0, zeroSw, zeroSw, Nat.zero_le _, rfl, Lib.hid rfl, Lib.hid rfl, SlV.nil enE W1, SlV.nil enE W1, hZ, hZ2, hN2⟩
  case round =>
    clear hZ hZ2 hN2
    obtain ⟨k, y, t, hk, rfl, hy, ht, ho, hto, hP, hT, hN⟩ := hrel
    by_cases hkl : k < l.length
    · obtain ⟨b, off, eA, hbw, hc⟩ := HL.out.1 (by omega)
      have hx := acIdxH (cap := c) eA hkl
      have HAT := Lib.hid (fun (wx : World) (hb : Below w.heap.size w wx) => (show acE.At wx b (off + k * 4) l[k] from (hc k hkl).below hb hbw))
      have HV := Lib.hid (fun (wx : World) (hb : Below w.heap.size w wx) => (HL.out.2 l[k] (List.getElem_mem hkl)).1.below hb)
      have HS := Lib.hid (fun (wx : World) (ho : y.ok wx) (hv : (l[k]).ok wx) => play_step H HF.out hkl hy.out l[k] rfl wx ho hv)
      obtain ⟨r0, r1, r2, r3, r4, r5⟩ := ref_step HF.out hkl ht.out l[k] rfl
      replace r0 := Lib.hid r0
      replace r1 := Lib.hid r1
      replace r2 := Lib.hid r2
      replace r3 := Lib.hid r3
      have HM := Lib.hid (fun (x : Sm) (hx : x = playS ((acts l).take (k + 1))) => playS_more HF.out hkl hx)
      generalize l[k] = a at *
      clear hc eA
      go_wp2_with fail
      refine region_anyG (S := PLS n1 y b (off + k * 4) a) 6 (by kernel_rfl) ?_
      replace hP : smE.In wr.drew n1 y := hP
      replace hT : smE.In wr.drew n2 t := hT
      replace ho : y.ok wr.drew := ho
      replace hto : t.ok wr.drew := hto
      replace hN := hN.drew
      generalize wr.drew = U at *
      have hS : PLS n1 y b (off + k * 4) a U := ⟨smIn4 hP, acAtH (HAT.out _ hN)⟩
      refine anyG_take (i := 0) (v := .agg #[.int .i64 y.x.s, .int .i64 y.x.t, .int .i64 y.x.p, .slice y.A y.x.es.length y.c]) rfl (by kernel_rfl) (by kernel_rfl) (by kernel_rfl) (by kernel_rfl) (by kernel_rfl) (fun _ _ _ h => h) (Or.inl ⟨by rfl, fun w' hSw => by (obtain ⟨⟨m0, m1, m2, m3⟩, s0, s1, s2, s3⟩ := hSw; go_simp)⟩) hS ?_
      try simp only [Act.put, List.setIfInBounds_toArray, List.set_cons_zero, List.set_cons_succ]
      refine anyG_take (i := 1) (v := .slice A l.length c) rfl (by kernel_rfl) (by kernel_rfl) (by kernel_rfl) (by kernel_rfl) (by kernel_rfl) (fun _ _ _ h => h) (Or.inl ⟨by rfl, fun w' hSw => by (obtain ⟨⟨m0, m1, m2, m3⟩, s0, s1, s2, s3⟩ := hSw; go_simp)⟩) hS ?_
      try simp only [Act.put, List.setIfInBounds_toArray, List.set_cons_zero, List.set_cons_succ]
      refine anyG_take (i := 2) (v := .int .i64 k) rfl (by kernel_rfl) (by kernel_rfl) (by kernel_rfl) (by kernel_rfl) (by kernel_rfl) (fun _ _ _ h => h) (Or.inl ⟨by rfl, fun w' hSw => by (obtain ⟨⟨m0, m1, m2, m3⟩, s0, s1, s2, s3⟩ := hSw; go_simp)⟩) hS ?_
      try simp only [Act.put, List.setIfInBounds_toArray, List.set_cons_zero, List.set_cons_succ]
      refine anyG_take (i := 3) (v := .pointer (some ⟨b, off + k * 4, none⟩)) rfl (by kernel_rfl) (by kernel_rfl) (by kernel_rfl) (by kernel_rfl) (by kernel_rfl) (fun _ _ _ h => h) (Or.inl ⟨by rfl, fun w' hSw => by (obtain ⟨⟨m0, m1, m2, m3⟩, s0, s1, s2, s3⟩ := hSw; go_simp)⟩) hS ?_
      try simp only [Act.put, List.setIfInBounds_toArray, List.set_cons_zero, List.set_cons_succ]
      refine anyG_take (i := 4) (v := .agg #[.int .i64 a.v.k, .int .i64 a.v.a, .int .i64 a.v.b, .slice a.A a.v.es.length a.c]) rfl (by kernel_rfl) (by kernel_rfl) (by kernel_rfl) (by kernel_rfl) (by kernel_rfl) (fun _ _ _ h => h) (Or.inl ⟨by rfl, fun w' hSw => by (obtain ⟨⟨m0, m1, m2, m3⟩, s0, s1, s2, s3⟩ := hSw; go_simp)⟩) hS ?_
      try simp only [Act.put, List.setIfInBounds_toArray, List.set_cons_zero, List.set_cons_succ]
      refine anyG_step (rs := [5]) (by kernel_rfl) (by simp) ?_
      refine AllG.cons rfl (fun K hK => ?_) AllG.nil
      go_simp
      refine (HS.out U ho (HV.out U hN)).mono ?_
      rintro r w1 ⟨z, rfl, hz0, hzo, hb1⟩
      have hz := Lib.hid hz0
      clear hz0 hS
      replace hP := hP.below hb1
      replace hT := hT.below hb1
      replace hto := hto.below hb1
      replace hN := below_then hN hb1
      clear ho hb1 hy HS
      try go_wp2_with fail
      refine hK.out _ _ (⟨smIn4 hP, acAtH (HAT.out _ hN)⟩ : PLS n1 y b (off + k * 4) a w1) ?_
      try simp only [Act.put, List.setIfInBounds_toArray, List.set_cons_zero, List.set_cons_succ]
      clear hK
      refine anyG_step (rs := [6]) (by kernel_rfl) (by simp) ?_
      refine AllG.last (n := 6) rfl (fun K hK => ?_)
      refine El.step_store smRow rfl _ _ rfl n1 z #[.int .i64 z.x.s, .int .i64 z.x.t, .int .i64 z.x.p, .slice z.A z.x.es.length z.c] rfl rfl rfl y hP ?_
      refine hK.out _ _ ?_
      clear hK
      refine anyG_done (by kernel_rfl) ?_ _
      have hzo2 : z.ok (w1.setRow n1 #[.int .i64 z.x.s, .int .i64 z.x.t, .int .i64 z.x.p, .slice z.A z.x.es.length z.c]) := SlV.keepN hzo (by_row _ n1 _) (sm_off hzo.1 hP)
      have hto2 : t.ok (w1.setRow n1 #[.int .i64 z.x.s, .int .i64 z.x.t, .int .i64 z.x.p, .slice z.A z.x.es.length z.c]) := SlV.keepN hto (by_row _ n1 _) (sm_off hto.1 hP)
      replace hP := hP.set z #[.int .i64 z.x.s, .int .i64 z.x.t, .int .i64 z.x.p, .slice z.A z.x.es.length z.c] rfl
      replace hT := hT.rowN n1 #[.int .i64 z.x.s, .int .i64 z.x.t, .int .i64 z.x.p, .slice z.A z.x.es.length z.c] (by omega)
      replace hN := below_setRow hN hwn1 #[.int .i64 z.x.s, .int .i64 z.x.t, .int .i64 z.x.p, .slice z.A z.x.es.length z.c]
      clear hzo hto
      have hzo := hzo2
      have hto := hto2
      clear hzo2 hto2
      generalize w1.setRow n1 #[.int .i64 z.x.s, .int .i64 z.x.t, .int .i64 z.x.p, .slice z.A z.x.es.length z.c] = W2 at *
      have hat := HAT.out _ hN
      obtain ⟨q0, q1, q2, q3⟩ := acAtH hat
      go_upto_block 2 with fail
      go_cut [] from 43 to 78 (fun wx => ∃ t2 : Sw, Hid (t2.x = playS ((acts l).take (k + 1))) ∧ t2.ok wx ∧ z.ok wx ∧ smE.In wx n1 z ∧ smE.In wx n2 t2 ∧ Below w.heap.size w wx)
      case first =>
        by_cases k0 : a.v.k = 0
        · have e0 : (a.v.k == 0) = true := by simp [k0]
          have C := Lib.hid (r0.out k0)
          clear k0 r0 r1 r2 r3
          obtain ⟨p, hp⟩ : ∃ p : Nat, t.x.p = p := ⟨t.x.p.toNat, by omega⟩
          have HSO := Lib.hid (fun wx => by
            have h := some12_any p (by omega) wx
            rw [← hp] at h
            exact h)
          clear hp
          generalize someE t.x.p = x at *
          go_wp2_with fail
          refine region_anyG (S := PS4 n2 t) 5 (by kernel_rfl) ?_
          replace hP : smE.In W2.drew n1 z := hP
          replace hT : smE.In W2.drew n2 t := hT
          replace hzo : z.ok W2.drew := hzo
          replace hto : t.ok W2.drew := hto
          replace hN := hN.drew
          generalize W2.drew = U at *
          have hS : PS4 n2 t U := smIn4 hT
          refine anyG_take (i := 0) (v := .agg #[.int .i64 t.x.s, .int .i64 t.x.t, .int .i64 t.x.p, .slice t.A t.x.es.length t.c]) rfl (by kernel_rfl) (by kernel_rfl) (by kernel_rfl) (by kernel_rfl) (by kernel_rfl) (fun _ _ _ h => h) (Or.inl ⟨by rfl, fun w' hSw => by (obtain ⟨m0, m1, m2, m3⟩ := hSw; go_simp)⟩) hS ?_
          try simp only [Act.put, List.setIfInBounds_toArray, List.set_cons_zero, List.set_cons_succ]
          refine anyG_take (i := 1) (v := .pointer (some ⟨n2, 2, none⟩)) rfl (by kernel_rfl) (by kernel_rfl) (by kernel_rfl) (by kernel_rfl) (by kernel_rfl) (fun _ _ _ h => h) (Or.inl ⟨by rfl, fun w' hSw => by (obtain ⟨m0, m1, m2, m3⟩ := hSw; go_simp)⟩) hS ?_
          try simp only [Act.put, List.setIfInBounds_toArray, List.set_cons_zero, List.set_cons_succ]
          refine anyG_take (i := 2) (v := .int .i64 t.x.p) rfl (by kernel_rfl) (by kernel_rfl) (by kernel_rfl) (by kernel_rfl) (by kernel_rfl) (fun _ _ _ h => h) (Or.inl ⟨by rfl, fun w' hSw => by (obtain ⟨m0, m1, m2, m3⟩ := hSw; go_simp)⟩) hS ?_
          try simp only [Act.put, List.setIfInBounds_toArray, List.set_cons_zero, List.set_cons_succ]
          refine anyG_step (rs := [3]) (by kernel_rfl) (by simp) ?_
          refine AllG.cons rfl (fun K hK => ?_) AllG.nil
          go_simp
          refine (HSO.out U).mono ?_
          rintro r w1 ⟨rfl, hb1⟩
          replace hP := hP.below hb1
          replace hT := hT.below hb1
          replace hzo := hzo.below hb1
          replace hN := below_then hN hb1
          replace hto := hto.below hb1
          clear hb1 hS HSO
          try go_wp2_with fail
          have hS : PS4 n2 t w1 := smIn4 hT
          refine hK.out _ _ hS ?_
          try simp only [Act.put, List.setIfInBounds_toArray, List.set_cons_zero, List.set_cons_succ]
          clear hK
          refine anyG_step (rs := [4]) (by kernel_rfl) (by simp) ?_
          refine AllG.cons rfl (fun K hK => ?_) AllG.nil
          go_simp
          refine (C.out w1 hto).mono ?_
          rintro r w3 ⟨t2, rfl, ht2, ht2o, hb2⟩
          replace hP := hP.below hb2
          replace hT := hT.below hb2
          replace hzo := hzo.below hb2
          replace hN := below_then hN hb2
          replace ht2 := Lib.hid ht2
          clear hb2 hS C hto
          try go_wp2_with fail
          refine hK.out _ _ (smIn4 hT : PS4 n2 t w3) ?_
          try simp only [Act.put, List.setIfInBounds_toArray, List.set_cons_zero, List.set_cons_succ]
          clear hK
          refine anyG_step (rs := [5]) (by kernel_rfl) (by simp) ?_
          refine AllG.last (n := 5) rfl (fun K hK => ?_)
          refine El.step_store smRow rfl _ _ rfl n2 t2 #[.int .i64 t2.x.s, .int .i64 t2.x.t, .int .i64 t2.x.p, .slice t2.A t2.x.es.length t2.c] rfl rfl rfl t hT ?_
          refine hK.out _ _ ?_
          clear hK
          refine anyG_done (by kernel_rfl) ?_ _
          have ht2o' : t2.ok (w3.setRow n2 #[.int .i64 t2.x.s, .int .i64 t2.x.t, .int .i64 t2.x.p, .slice t2.A t2.x.es.length t2.c]) := SlV.keepN ht2o (by_row w3 n2 _) (sm_off ht2o.1 hT)
          have hzo' : z.ok (w3.setRow n2 #[.int .i64 t2.x.s, .int .i64 t2.x.t, .int .i64 t2.x.p, .slice t2.A t2.x.es.length t2.c]) := SlV.keepN hzo (by_row w3 n2 _) (sm_off hzo.1 hT)
          go_wp2_with fail
          go_meet
          exact ⟨t2, ht2, ht2o', hzo', hP.rowN n2 _ (by omega), hT.set t2 _ rfl, below_setRow hN hwn2 _⟩
        · have e0 : (a.v.k == 0) = false := by simp [k0]
          by_cases k1 : a.v.k = 1
          · have e1 : (a.v.k == 1) = true := by simp [k1]
            have C := Lib.hid (r1.out k1)
            clear k0 k1 r0 r1 r2 r3
            go_wp2_with fail
            refine region_anyG (S := PLS n2 t b (off + k * 4) a) 12 (by kernel_rfl) ?_
            replace hP : smE.In W2.drew n1 z := hP
            replace hT : smE.In W2.drew n2 t := hT
            replace hzo : z.ok W2.drew := hzo
            replace hto : t.ok W2.drew := hto
            replace hN := hN.drew
            generalize W2.drew = U at *
            have hS : PLS n2 t b (off + k * 4) a U := ⟨smIn4 hT, acAtH (HAT.out _ hN)⟩
            refine anyG_take (i := 0) (v := .agg #[.int .i64 t.x.s, .int .i64 t.x.t, .int .i64 t.x.p, .slice t.A t.x.es.length t.c]) rfl (by kernel_rfl) (by kernel_rfl) (by kernel_rfl) (by kernel_rfl) (by kernel_rfl) (fun _ _ _ h => h) (Or.inl ⟨by rfl, fun w' hSw => by (obtain ⟨⟨m0, m1, m2, m3⟩, s0, s1, s2, s3⟩ := hSw; go_simp)⟩) hS ?_
            try simp only [Act.put, List.setIfInBounds_toArray, List.set_cons_zero, List.set_cons_succ]
            refine anyG_take (i := 1) (v := .slice A l.length c) rfl (by kernel_rfl) (by kernel_rfl) (by kernel_rfl) (by kernel_rfl) (by kernel_rfl) (fun _ _ _ h => h) (Or.inl ⟨by rfl, fun w' hSw => by (obtain ⟨⟨m0, m1, m2, m3⟩, s0, s1, s2, s3⟩ := hSw; go_simp)⟩) hS ?_
            try simp only [Act.put, List.setIfInBounds_toArray, List.set_cons_zero, List.set_cons_succ]
            refine anyG_take (i := 2) (v := .int .i64 k) rfl (by kernel_rfl) (by kernel_rfl) (by kernel_rfl) (by kernel_rfl) (by kernel_rfl) (fun _ _ _ h => h) (Or.inl ⟨by rfl, fun w' hSw => by (obtain ⟨⟨m0, m1, m2, m3⟩, s0, s1, s2, s3⟩ := hSw; go_simp)⟩) hS ?_
            try simp only [Act.put, List.setIfInBounds_toArray, List.set_cons_zero, List.set_cons_succ]
            refine anyG_take (i := 3) (v := .pointer (some ⟨b, off + k * 4, none⟩)) rfl (by kernel_rfl) (by kernel_rfl) (by kernel_rfl) (by kernel_rfl) (by kernel_rfl) (fun _ _ _ h => h) (Or.inl ⟨by rfl, fun w' hSw => by (obtain ⟨⟨m0, m1, m2, m3⟩, s0, s1, s2, s3⟩ := hSw; go_simp)⟩) hS ?_
            try simp only [Act.put, List.setIfInBounds_toArray, List.set_cons_zero, List.set_cons_succ]
            refine anyG_take (i := 4) (v := .pointer (some ⟨b, off + k * 4 + 1, none⟩)) rfl (by kernel_rfl) (by kernel_rfl) (by kernel_rfl) (by kernel_rfl) (by kernel_rfl) (fun _ _ _ h => h) (Or.inl ⟨by rfl, fun w' hSw => by (obtain ⟨⟨m0, m1, m2, m3⟩, s0, s1, s2, s3⟩ := hSw; go_simp)⟩) hS ?_
            try simp only [Act.put, List.setIfInBounds_toArray, List.set_cons_zero, List.set_cons_succ]
            refine anyG_take (i := 5) (v := .int .i64 a.v.a) rfl (by kernel_rfl) (by kernel_rfl) (by kernel_rfl) (by kernel_rfl) (by kernel_rfl) (fun _ _ _ h => h) (Or.inl ⟨by rfl, fun w' hSw => by (obtain ⟨⟨m0, m1, m2, m3⟩, s0, s1, s2, s3⟩ := hSw; go_simp)⟩) hS ?_
            try simp only [Act.put, List.setIfInBounds_toArray, List.set_cons_zero, List.set_cons_succ]
            refine anyG_take (i := 6) (v := .slice A l.length c) rfl (by kernel_rfl) (by kernel_rfl) (by kernel_rfl) (by kernel_rfl) (by kernel_rfl) (fun _ _ _ h => h) (Or.inl ⟨by rfl, fun w' hSw => by (obtain ⟨⟨m0, m1, m2, m3⟩, s0, s1, s2, s3⟩ := hSw; go_simp)⟩) hS ?_
            try simp only [Act.put, List.setIfInBounds_toArray, List.set_cons_zero, List.set_cons_succ]
            refine anyG_take (i := 7) (v := .int .i64 k) rfl (by kernel_rfl) (by kernel_rfl) (by kernel_rfl) (by kernel_rfl) (by kernel_rfl) (fun _ _ _ h => h) (Or.inl ⟨by rfl, fun w' hSw => by (obtain ⟨⟨m0, m1, m2, m3⟩, s0, s1, s2, s3⟩ := hSw; go_simp)⟩) hS ?_
            try simp only [Act.put, List.setIfInBounds_toArray, List.set_cons_zero, List.set_cons_succ]
            refine anyG_take (i := 8) (v := .pointer (some ⟨b, off + k * 4, none⟩)) rfl (by kernel_rfl) (by kernel_rfl) (by kernel_rfl) (by kernel_rfl) (by kernel_rfl) (fun _ _ _ h => h) (Or.inl ⟨by rfl, fun w' hSw => by (obtain ⟨⟨m0, m1, m2, m3⟩, s0, s1, s2, s3⟩ := hSw; go_simp)⟩) hS ?_
            try simp only [Act.put, List.setIfInBounds_toArray, List.set_cons_zero, List.set_cons_succ]
            refine anyG_take (i := 9) (v := .pointer (some ⟨b, off + k * 4 + 3, none⟩)) rfl (by kernel_rfl) (by kernel_rfl) (by kernel_rfl) (by kernel_rfl) (by kernel_rfl) (fun _ _ _ h => h) (Or.inl ⟨by rfl, fun w' hSw => by (obtain ⟨⟨m0, m1, m2, m3⟩, s0, s1, s2, s3⟩ := hSw; go_simp)⟩) hS ?_
            try simp only [Act.put, List.setIfInBounds_toArray, List.set_cons_zero, List.set_cons_succ]
            refine anyG_take (i := 10) (v := .slice a.A a.v.es.length a.c) rfl (by kernel_rfl) (by kernel_rfl) (by kernel_rfl) (by kernel_rfl) (by kernel_rfl) (fun _ _ _ h => h) (Or.inl ⟨by rfl, fun w' hSw => by (obtain ⟨⟨m0, m1, m2, m3⟩, s0, s1, s2, s3⟩ := hSw; go_simp)⟩) hS ?_
            try simp only [Act.put, List.setIfInBounds_toArray, List.set_cons_zero, List.set_cons_succ]
            refine anyG_step (rs := [11]) (by kernel_rfl) (by simp) ?_
            refine AllG.cons rfl (fun K hK => ?_) AllG.nil
            go_simp
            refine (C.out U hto (HV.out _ hN)).mono ?_
            rintro r w3 ⟨t2, rfl, ht2, ht2o, hb2⟩
            replace hP := hP.below hb2
            replace hT := hT.below hb2
            replace hzo := hzo.below hb2
            replace hN := below_then hN hb2
            replace ht2 := Lib.hid ht2
            clear hb2 hS C hto
            try go_wp2_with fail
            refine hK.out _ _ (⟨smIn4 hT, acAtH (HAT.out _ hN)⟩ : PLS n2 t b (off + k * 4) a w3) ?_
            try simp only [Act.put, List.setIfInBounds_toArray, List.set_cons_zero, List.set_cons_succ]
            clear hK
            refine anyG_step (rs := [12]) (by kernel_rfl) (by simp) ?_
            refine AllG.last (n := 12) rfl (fun K hK => ?_)
            refine El.step_store smRow rfl _ _ rfl n2 t2 #[.int .i64 t2.x.s, .int .i64 t2.x.t, .int .i64 t2.x.p, .slice t2.A t2.x.es.length t2.c] rfl rfl rfl t hT ?_
            refine hK.out _ _ ?_
            clear hK
            refine anyG_done (by kernel_rfl) ?_ _
            have ht2o' : t2.ok (w3.setRow n2 #[.int .i64 t2.x.s, .int .i64 t2.x.t, .int .i64 t2.x.p, .slice t2.A t2.x.es.length t2.c]) := SlV.keepN ht2o (by_row w3 n2 _) (sm_off ht2o.1 hT)
            have hzo' : z.ok (w3.setRow n2 #[.int .i64 t2.x.s, .int .i64 t2.x.t, .int .i64 t2.x.p, .slice t2.A t2.x.es.length t2.c]) := SlV.keepN hzo (by_row w3 n2 _) (sm_off hzo.1 hT)
            go_wp2_with fail
            go_meet
            exact ⟨t2, ht2, ht2o', hzo', hP.rowN n2 _ (by omega), hT.set t2 _ rfl, below_setRow hN hwn2 _⟩
          · have e1 : (a.v.k == 1) = false := by simp [k1]
            by_cases k2 : a.v.k = 2
            · have e2 : (a.v.k == 2) = true := by simp [k2]
              have C := Lib.hid (r2.out k2)
              clear k0 k1 k2 r0 r1 r2 r3
              go_wp2_with fail
              refine region_anyG (S := PLS n2 t b (off + k * 4) a) 12 (by kernel_rfl) ?_
              replace hP : smE.In W2.drew n1 z := hP
              replace hT : smE.In W2.drew n2 t := hT
              replace hzo : z.ok W2.drew := hzo
              replace hto : t.ok W2.drew := hto
              replace hN := hN.drew
              generalize W2.drew = U at *
              have hS : PLS n2 t b (off + k * 4) a U := ⟨smIn4 hT, acAtH (HAT.out _ hN)⟩
              refine anyG_take (i := 0) (v := .agg #[.int .i64 t.x.s, .int .i64 t.x.t, .int .i64 t.x.p, .slice t.A t.x.es.length t.c]) rfl (by kernel_rfl) (by kernel_rfl) (by kernel_rfl) (by kernel_rfl) (by kernel_rfl) (fun _ _ _ h => h) (Or.inl ⟨by rfl, fun w' hSw => by (obtain ⟨⟨m0, m1, m2, m3⟩, s0, s1, s2, s3⟩ := hSw; go_simp)⟩) hS ?_
              try simp only [Act.put, List.setIfInBounds_toArray, List.set_cons_zero, List.set_cons_succ]
              refine anyG_take (i := 1) (v := .slice A l.length c) rfl (by kernel_rfl) (by kernel_rfl) (by kernel_rfl) (by kernel_rfl) (by kernel_rfl) (fun _ _ _ h => h) (Or.inl ⟨by rfl, fun w' hSw => by (obtain ⟨⟨m0, m1, m2, m3⟩, s0, s1, s2, s3⟩ := hSw; go_simp)⟩) hS ?_
              try simp only [Act.put, List.setIfInBounds_toArray, List.set_cons_zero, List.set_cons_succ]
              refine anyG_take (i := 2) (v := .int .i64 k) rfl (by kernel_rfl) (by kernel_rfl) (by kernel_rfl) (by kernel_rfl) (by kernel_rfl) (fun _ _ _ h => h) (Or.inl ⟨by rfl, fun w' hSw => by (obtain ⟨⟨m0, m1, m2, m3⟩, s0, s1, s2, s3⟩ := hSw; go_simp)⟩) hS ?_
              try simp only [Act.put, List.setIfInBounds_toArray, List.set_cons_zero, List.set_cons_succ]
              refine anyG_take (i := 3) (v := .pointer (some ⟨b, off + k * 4, none⟩)) rfl (by kernel_rfl) (by kernel_rfl) (by kernel_rfl) (by kernel_rfl) (by kernel_rfl) (fun _ _ _ h => h) (Or.inl ⟨by rfl, fun w' hSw => by (obtain ⟨⟨m0, m1, m2, m3⟩, s0, s1, s2, s3⟩ := hSw; go_simp)⟩) hS ?_
              try simp only [Act.put, List.setIfInBounds_toArray, List.set_cons_zero, List.set_cons_succ]
              refine anyG_take (i := 4) (v := .pointer (some ⟨b, off + k * 4 + 1, none⟩)) rfl (by kernel_rfl) (by kernel_rfl) (by kernel_rfl) (by kernel_rfl) (by kernel_rfl) (fun _ _ _ h => h) (Or.inl ⟨by rfl, fun w' hSw => by (obtain ⟨⟨m0, m1, m2, m3⟩, s0, s1, s2, s3⟩ := hSw; go_simp)⟩) hS ?_
              try simp only [Act.put, List.setIfInBounds_toArray, List.set_cons_zero, List.set_cons_succ]
              refine anyG_take (i := 5) (v := .int .i64 a.v.a) rfl (by kernel_rfl) (by kernel_rfl) (by kernel_rfl) (by kernel_rfl) (by kernel_rfl) (fun _ _ _ h => h) (Or.inl ⟨by rfl, fun w' hSw => by (obtain ⟨⟨m0, m1, m2, m3⟩, s0, s1, s2, s3⟩ := hSw; go_simp)⟩) hS ?_
              try simp only [Act.put, List.setIfInBounds_toArray, List.set_cons_zero, List.set_cons_succ]
              refine anyG_take (i := 6) (v := .slice A l.length c) rfl (by kernel_rfl) (by kernel_rfl) (by kernel_rfl) (by kernel_rfl) (by kernel_rfl) (fun _ _ _ h => h) (Or.inl ⟨by rfl, fun w' hSw => by (obtain ⟨⟨m0, m1, m2, m3⟩, s0, s1, s2, s3⟩ := hSw; go_simp)⟩) hS ?_
              try simp only [Act.put, List.setIfInBounds_toArray, List.set_cons_zero, List.set_cons_succ]
              refine anyG_take (i := 7) (v := .int .i64 k) rfl (by kernel_rfl) (by kernel_rfl) (by kernel_rfl) (by kernel_rfl) (by kernel_rfl) (fun _ _ _ h => h) (Or.inl ⟨by rfl, fun w' hSw => by (obtain ⟨⟨m0, m1, m2, m3⟩, s0, s1, s2, s3⟩ := hSw; go_simp)⟩) hS ?_
              try simp only [Act.put, List.setIfInBounds_toArray, List.set_cons_zero, List.set_cons_succ]
              refine anyG_take (i := 8) (v := .pointer (some ⟨b, off + k * 4, none⟩)) rfl (by kernel_rfl) (by kernel_rfl) (by kernel_rfl) (by kernel_rfl) (by kernel_rfl) (fun _ _ _ h => h) (Or.inl ⟨by rfl, fun w' hSw => by (obtain ⟨⟨m0, m1, m2, m3⟩, s0, s1, s2, s3⟩ := hSw; go_simp)⟩) hS ?_
              try simp only [Act.put, List.setIfInBounds_toArray, List.set_cons_zero, List.set_cons_succ]
              refine anyG_take (i := 9) (v := .pointer (some ⟨b, off + k * 4 + 2, none⟩)) rfl (by kernel_rfl) (by kernel_rfl) (by kernel_rfl) (by kernel_rfl) (by kernel_rfl) (fun _ _ _ h => h) (Or.inl ⟨by rfl, fun w' hSw => by (obtain ⟨⟨m0, m1, m2, m3⟩, s0, s1, s2, s3⟩ := hSw; go_simp)⟩) hS ?_
              try simp only [Act.put, List.setIfInBounds_toArray, List.set_cons_zero, List.set_cons_succ]
              refine anyG_take (i := 10) (v := .int .i64 a.v.b) rfl (by kernel_rfl) (by kernel_rfl) (by kernel_rfl) (by kernel_rfl) (by kernel_rfl) (fun _ _ _ h => h) (Or.inl ⟨by rfl, fun w' hSw => by (obtain ⟨⟨m0, m1, m2, m3⟩, s0, s1, s2, s3⟩ := hSw; go_simp)⟩) hS ?_
              try simp only [Act.put, List.setIfInBounds_toArray, List.set_cons_zero, List.set_cons_succ]
              refine anyG_step (rs := [11]) (by kernel_rfl) (by simp) ?_
              refine AllG.cons rfl (fun K hK => ?_) AllG.nil
              go_simp
              refine (C.out U hto).mono ?_
              rintro r w3 ⟨t2, rfl, ht2, ht2o, hb2⟩
              replace hP := hP.below hb2
              replace hT := hT.below hb2
              replace hzo := hzo.below hb2
              replace hN := below_then hN hb2
              replace ht2 := Lib.hid ht2
              clear hb2 hS C hto
              try go_wp2_with fail
              refine hK.out _ _ (⟨smIn4 hT, acAtH (HAT.out _ hN)⟩ : PLS n2 t b (off + k * 4) a w3) ?_
              try simp only [Act.put, List.setIfInBounds_toArray, List.set_cons_zero, List.set_cons_succ]
              clear hK
              refine anyG_step (rs := [12]) (by kernel_rfl) (by simp) ?_
              refine AllG.last (n := 12) rfl (fun K hK => ?_)
              refine El.step_store smRow rfl _ _ rfl n2 t2 #[.int .i64 t2.x.s, .int .i64 t2.x.t, .int .i64 t2.x.p, .slice t2.A t2.x.es.length t2.c] rfl rfl rfl t hT ?_
              refine hK.out _ _ ?_
              clear hK
              refine anyG_done (by kernel_rfl) ?_ _
              have ht2o' : t2.ok (w3.setRow n2 #[.int .i64 t2.x.s, .int .i64 t2.x.t, .int .i64 t2.x.p, .slice t2.A t2.x.es.length t2.c]) := SlV.keepN ht2o (by_row w3 n2 _) (sm_off ht2o.1 hT)
              have hzo' : z.ok (w3.setRow n2 #[.int .i64 t2.x.s, .int .i64 t2.x.t, .int .i64 t2.x.p, .slice t2.A t2.x.es.length t2.c]) := SlV.keepN hzo (by_row w3 n2 _) (sm_off hzo.1 hT)
              go_wp2_with fail
              go_meet
              exact ⟨t2, ht2, ht2o', hzo', hP.rowN n2 _ (by omega), hT.set t2 _ rfl, below_setRow hN hwn2 _⟩
            · have e2 : (a.v.k == 2) = false := by simp [k2]
              have h3 := Lib.hid (r3.out k0 k1 k2)
              clear k0 k1 k2 r0 r1 r2 r3
              go_wp2_with fail
              go_meet
              exact ⟨t, h3, hto, hzo, hP, hT, hN⟩
      case rest =>
        obtain ⟨t2, ht2, ht2o, hzo, hP, hT, hN⟩ := hcut
        obtain ⟨hR, hNN, hWD⟩ := HM.out _ hz.out
        have hzt : t2.x = z.x := by rw [ht2.out, hz.out]
        obtain ⟨A2, c2, x2⟩ := t2
        dsimp only at hzt
        subst hzt
        have hl5 := hNN.l
        have CA := Lib.hid (fun (wx : World) (ho : z.ok wx) => H.from_ z place most wx hNN hR (by omega) ho)
        have CB := Lib.hid (fun (wx : World) (ho : Sw.ok ⟨A2, c2, z.x⟩ wx) => (show Calls Try.prog 15 #[.agg #[.int .i64 z.x.s, .int .i64 z.x.t, .int .i64 z.x.p, .slice A2 z.x.es.length c2], .int .i64 place, .int .i64 most] wx fun r w' => ∃ (A : Option Addr) (c : Nat), r = .returned (.tuple #[.int .i64 (fromP z.x place), .slice A (fromS z.x place most).length c]) ∧ SlV enE w' A c (fromS z.x place most) ∧ Below wx.heap.size wx w' from refSmFrom_any ⟨A2, c2, z.x⟩ place most wx hNN (by omega) ho))
        have CSM := Lib.hid (fun (wx : World) (hz : z.ok wx) (ht : Sw.ok ⟨A2, c2, z.x⟩ wx) => (show Calls Try.prog 16 #[.agg #[.int .i64 z.x.s, .int .i64 z.x.t, .int .i64 z.x.p, .slice z.A z.x.es.length z.c], .agg #[.int .i64 z.x.s, .int .i64 z.x.t, .int .i64 z.x.p, .slice A2 z.x.es.length c2]] wx fun r w' => r = .returned (.bool true) ∧ Below wx.heap.size wx w' from refSameSm_any z ⟨A2, c2, z.x⟩ wx rfl hz ht (by omega)))
        have CLW := Lib.hid (fun (wx : World) (ho : z.ok wx) => H.lowest z wx hNN ho)
        have CLR := Lib.hid (fun (wx : World) (ho : Sw.ok ⟨A2, c2, z.x⟩ wx) => (show Calls Try.prog 19 #[.agg #[.int .i64 z.x.s, .int .i64 z.x.t, .int .i64 z.x.p, .slice A2 z.x.es.length c2]] wx fun r w' => r = .returned (.int .i64 (lowS z.x)) ∧ Below wx.heap.size wx w' from refSmLowest_any ⟨A2, c2, z.x⟩ wx ho (by show z.x.es.length ≤ _; omega)))
        have CRT := Lib.hid (fun (wx : World) (ho : z.ok wx) => H.right z wx hNN hR ho (fun e he => ⟨(hWD e he).1, Nat.le_trans (hWD e he).2 (by decide)⟩))
        have hLl : (fromS z.x place most).length ≤ 100000 := by unfold fromS; rw [List.length_take, List.length_drop]; omega
        generalize fromS z.x place most = Lf at *
        generalize fromP z.x place = P0 at *
        generalize lowS z.x = m0 at *
        have CSE := Lib.hid (fun (wx : World) (A B : Option Addr) (cA cB : Nat) (hA : SlV enE wx A cA Lf) (hB : SlV enE wx B cB Lf) => refSameEn_any A B cA cB Lf wx hA.1 hB.1 hLl)
        clear hR hNN hWD HM ht r0 r1 r2 r3
        obtain ⟨p0, p1, p2, p3⟩ := smIn4 hP
        go_wp2_with fail
        refine (CA.out _ hzo).mono ?_
        rintro r w4 ⟨A4, c4, rfl, hS4, hb4⟩
        clear p0 p1 p2 p3 CA
        replace hP := hP.below hb4
        replace hT := hT.below hb4
        replace hzo := hzo.below hb4
        replace ht2o := ht2o.below hb4
        replace hN := below_then hN hb4
        clear hb4
        obtain ⟨q0, q1, q2, q3⟩ := smIn4' hT
        go_wp2_with fail
        refine (CB.out _ ht2o).mono ?_
        rintro r w5 ⟨A5, c5, rfl, hS5, hb5⟩
        clear q0 q1 q2 q3 CB
        replace hP := hP.below hb5
        replace hT := hT.below hb5
        replace hzo := hzo.below hb5
        replace ht2o := ht2o.below hb5
        replace hS4 := hS4.below hb5
        replace hN := below_then hN hb5
        clear hb5
        go_wp2_with fail
        replace hP : smE.In w5.drew n1 z := hP
        replace hT : smE.In w5.drew n2 ⟨A2, c2, z.x⟩ := hT
        replace hzo : z.ok w5.drew := hzo
        replace ht2o : Sw.ok ⟨A2, c2, z.x⟩ w5.drew := ht2o
        replace hS4 : SlV enE w5.drew A4 c4 Lf := hS4
        replace hS5 : SlV enE w5.drew A5 c5 Lf := hS5
        replace hN := hN.drew
        go_region_held3 (fun w' => (w'.cell? ⟨n1, 0, none⟩ = some (.int .i64 z.x.s) ∧ w'.cell? ⟨n1, 1, none⟩ = some (.int .i64 z.x.t) ∧ w'.cell? ⟨n1, 2, none⟩ = some (.int .i64 z.x.p) ∧ w'.cell? ⟨n1, 3, none⟩ = some (.slice z.A z.x.es.length z.c)) ∧ (w'.cell? ⟨n2, 0, none⟩ = some (.int .i64 z.x.s) ∧ w'.cell? ⟨n2, 1, none⟩ = some (.int .i64 z.x.t) ∧ w'.cell? ⟨n2, 2, none⟩ = some (.int .i64 z.x.p) ∧ w'.cell? ⟨n2, 3, none⟩ = some (.slice A2 z.x.es.length c2))) (with_reducible exact ⟨smIn4 hP, smIn4' hT⟩) (first | (go_at_call 16; (with_reducible refine (CSM.out _ hzo ht2o).mono ?_); rintro r w6 ⟨rfl, hb6⟩; have hP := hP.below hb6; have hT := hT.below hb6; have hzo := hzo.below hb6; have ht2o := ht2o.below hb6; have hN := below_then hN hb6; have hS4 := hS4.below hb6; have hS5 := hS5.below hb6) | (go_at_call 17; (with_reducible refine (CSE.out _ _ _ _ _ hS4 hS5).mono ?_); rintro r w6 ⟨rfl, hb6⟩; have hP := hP.below hb6; have hT := hT.below hb6; have hzo := hzo.below hb6; have ht2o := ht2o.below hb6; have hN := below_then hN hb6) | (go_at_call 18; (with_reducible refine (CLW.out _ hzo).mono ?_); rintro r w6 ⟨rfl, hb6⟩; have hP := hP.below hb6; have hT := hT.below hb6; have hzo := hzo.below hb6; have ht2o := ht2o.below hb6; have hN := below_then hN hb6) | (go_at_call 19; (with_reducible refine (CLR.out _ ht2o).mono ?_); rintro r w6 ⟨rfl, hb6⟩; have hP := hP.below hb6; have hT := hT.below hb6; have hzo := hzo.below hb6; have ht2o := ht2o.below hb6; have hN := below_then hN hb6) | (go_at_call 20; (with_reducible refine (CRT.out _ hzo).mono ?_); rintro r w6 ⟨rfl, hb6⟩; have hP := hP.below hb6; have hT := hT.below hb6; have hzo := hzo.below hb6; have ht2o := ht2o.below hb6; have hN := below_then hN hb6))
        go_wp2_with fail
        exact ⟨⟨k + 1, z, ⟨A2, c2, z.x⟩, by omega, by go_num, hz, ht2, hzo, ht2o, hP, hT, hN⟩, by simp [intOf]; omega⟩
    · obtain rfl : k = l.length := by omega
      obtain ⟨hR, hNN, hWD⟩ := playS_more HF.out (Nat.le_refl _) hy.out
      have hzt : t.x = y.x := by rw [ht.out, hy.out]
      obtain ⟨A2, c2, x2⟩ := t
      dsimp only at hzt
      subst hzt
      obtain ⟨z, hzy⟩ : ∃ z, y = z := ⟨_, rfl⟩
      subst hzy
      have hzo := ho
      have ht2o := hto
      have CAW := Lib.hid (fun (wx : World) => awake12_any H wx)
      have CPR := Lib.hid (fun (wx : World) (ho : y.ok wx) => H.print y wx hNN ho hWD)
      have CPX := Lib.hid (fun (wx : World) (ho : Sw.ok ⟨A2, c2, y.x⟩ wx) => (show Calls Try.prog 22 #[.agg #[.int .i64 y.x.s, .int .i64 y.x.t, .int .i64 y.x.p, .slice A2 y.x.es.length c2]] wx fun r w' => r = .returned (.string (stmBytes y.x)) ∧ Below wx.heap.size wx w' from refSmPrint_any ⟨A2, c2, y.x⟩ wx hNN ho (fun e he => ⟨(hWD e he).1, Nat.le_trans (hWD e he).2 (by decide)⟩)))
      generalize stmBytes y.x = BY at *
      clear hR hNN hWD ht ho hto hy
      go_wp2_with fail
      replace hP : smE.In wr.drew n1 y := hP
      replace hT : smE.In wr.drew n2 ⟨A2, c2, y.x⟩ := hT
      replace hzo : y.ok wr.drew := hzo
      replace ht2o : Sw.ok ⟨A2, c2, y.x⟩ wr.drew := ht2o
      replace hN := hN.drew
      go_region_held3 (fun w' => (w'.cell? ⟨n1, 0, none⟩ = some (.int .i64 y.x.s) ∧ w'.cell? ⟨n1, 1, none⟩ = some (.int .i64 y.x.t) ∧ w'.cell? ⟨n1, 2, none⟩ = some (.int .i64 y.x.p) ∧ w'.cell? ⟨n1, 3, none⟩ = some (.slice y.A y.x.es.length y.c)) ∧ (w'.cell? ⟨n2, 0, none⟩ = some (.int .i64 y.x.s) ∧ w'.cell? ⟨n2, 1, none⟩ = some (.int .i64 y.x.t) ∧ w'.cell? ⟨n2, 2, none⟩ = some (.int .i64 y.x.p) ∧ w'.cell? ⟨n2, 3, none⟩ = some (.slice A2 y.x.es.length c2))) (with_reducible exact ⟨smIn4 hP, smIn4' hT⟩) (first | (go_at_call 8; (with_reducible refine (CAW.out _).mono ?_); rintro r w6 ⟨rfl, hb6⟩; have hP := hP.below hb6; have hT := hT.below hb6; have hzo := hzo.below hb6; have ht2o := ht2o.below hb6; have hN := below_then hN hb6) | (go_at_call 21; (with_reducible refine (CPR.out _ hzo).mono ?_); rintro r w6 ⟨rfl, hb6⟩; have hP := hP.below hb6; have hT := hT.below hb6; have hzo := hzo.below hb6; have ht2o := ht2o.below hb6; have hN := below_then hN hb6) | (go_at_call 22; (with_reducible refine (CPX.out _ ht2o).mono ?_); rintro r w6 ⟨rfl, hb6⟩; have hP := hP.below hb6; have hT := hT.below hb6; have hzo := hzo.below hb6; have ht2o := ht2o.below hb6; have hN := below_then hN hb6))
      go_wp2_with fail
      go_ret
      exact ⟨rfl, hN⟩
set_option maxRecDepth 100000 in
theorem plays12_lifted (H0 : StreamCalls) (os : Os) (started : os.Started) (H : Type) (enc : TypeId × Value → H) :
    ReturnsInHanded {} Try.checked os 3 .any (Rows.streamPlaysSpec.pre6 enc Try.prog Try.f3 Rows.streamPlaysRow.domain false) (Rows.streamPlaysSpec.post enc Try.prog Try.f3 false true false false) := by
  refine returnsInHanded_of_change (C := Try.checked) own started (by kernel_rfl) Try.func3
    (ChangeSpec.witness6 (enc := enc) (C := Try.checked) false ⟨#[], #[.slice none 0 0, .int .i64 0, .int .i64 0], []⟩ 8 (by kernel_rfl) (by kernel_rfl) (by kernel_rfl) (by kernel_rfl)) ?_
  intro W base args ds gs before hval0 hW _ _
  have hval : ∀ (j : Nat) t v, Try.f3.params[j]? = some t → args[j]? = some v → Value.okWide Try.prog W .any base t v := hval0
  have hW' := hW
  obtain ⟨p, q, hA0, hV, rfl, _, _⟩ := hW
  have hA : DataW.TrodAll enc Try.prog W 0 (fun _ => true) true Try.f3.params.toList args.toList ds p := hA0
  rw [Try.params3] at hA hval
  obtain ⟨v0, v1, v2, d0, d1, d2, p0, p1, p2, rfl, rfl, rfl, h0, h1, h2⟩ := trodAll_three hA
  obtain ⟨A, c, l, rfl, hL⟩ := open_acs (hval 0 22 v0 rfl rfl) h0
  obtain ⟨place, rfl, _⟩ := open_i64 (hval 1 3 v1 rfl rfl) h1
  obtain ⟨most, rfl, _⟩ := open_i64 (hval 2 3 v2 rfl rfl) h2
  have hc : Calls Try.prog 3 #[.slice A l.length c, .int .i64 place, .int .i64 most] W fun e w' => e = .returned (.bool true) ∧ Below W.heap.size W w' := by
    by_cases h : fineL (acts l) ∧ -1000 ≤ place ∧ place ≤ 1000000
    · exact plays12_yes H0 A c l place most W hL h.1 h.2.1 h.2.2
    · exact plays12_no H0 A c l place most W hL h
  refine hc.mono fun e W' ⟨he, hb⟩ => ?_
  subst he
  exact ⟨_, rfl, Frm.law_post (by kernel_rfl) (by kernel_rfl) (by kernel_rfl) Try.underlying4 rfl rfl hW' hb⟩

theorem plays12_holds (H0 : StreamCalls) : Rows.StreamPlaysSaid :=
  OpenClaim.holds_of_wide 3 Try.f3 rfl rfl rfl rfl rfl rfl rfl ⟨rfl, rfl, rfl, rfl, rfl⟩ rfl rfl rfl rfl rfl (by kernel_rfl) Try.func3 (by kernel_rfl)
    (of_decide_eq_true (by kernel_rfl)) (by unfold Func.isWrapper; first | (rw [if_pos (by decide +kernel)]; kernel_rfl) | (rw [if_neg (by decide +kernel)]; exact ⟨rfl, rfl⟩))
    (fun os started H enc _ => plays12_lifted H0 os started H enc)
end Go.Proofs.Ytbfebcifmneliaa

/- The document's Read and Parse of entries. -/
namespace Go.Proofs.Ytbfebcifmneliaa
open Go.RowKit Nam Cod

/-- An operation stored in an entry's block. -/
theorem wpList_store_enOp {ops : Array Oper} {rest : List Oper} {o : Oper} {a : Act} {w : World} {Q : Exit → Act → World → Prop} (hgd : o.guard = none) (x y : Operand) (ho : o.op = .store 35 x y)
    (b : Nat) (p : En) (m : Mv) (hx : a.eval x = .pointer (some ⟨b, 3, none⟩)) (hy : a.eval y = .agg #[.int .i64 m.C, .int .i64 m.D, .int .i64 m.I, .int .i64 m.M, .int .i64 m.K, .int .i64 m.U, .string m.s]) (hg : enE.In w b p)
    (h : wpList Try.prog ops Q rest (a.put o.dst undef) (w.setRow b #[.int .i64 ({ p with o := m } : En).k, .int .i64 ({ p with o := m } : En).d, .int .i64 ({ p with o := m } : En).i, .int .i64 ({ p with o := m } : En).o.C, .int .i64 ({ p with o := m } : En).o.D, .int .i64 ({ p with o := m } : En).o.I, .int .i64 ({ p with o := m } : En).o.M, .int .i64 ({ p with o := m } : En).o.K, .int .i64 ({ p with o := m } : En).o.U, .string ({ p with o := m } : En).o.s])) : wpList Try.prog ops Q (o :: rest) a w :=
  wpList_plain hgd fun _ hK => by
    have hs := run_storeCells_at (P := Try.prog) b 3 37 [.int .i64 m.C, .int .i64 m.D, .int .i64 m.I, .int .i64 m.M, .int .i64 m.K, .int .i64 m.U, .string m.s] 0 (enE.c p).toArray w hg (by show 3 + 0 + 7 ≤ 10; omega) (by
      intro v hv
      simp only [List.mem_cons, List.not_mem_nil, or_false] at hv
      rcases hv with rfl | rfl | rfl | rfl | rfl | rfl | rfl <;> rfl)
    have hv : (storeVar 35 ⟨b, 3, none⟩ (.agg #[.int .i64 m.C, .int .i64 m.D, .int .i64 m.I, .int .i64 m.M, .int .i64 m.K, .int .i64 m.U, .string m.s])).run Try.prog w = .ok () (w.setRow b #[.int .i64 ({ p with o := m } : En).k, .int .i64 ({ p with o := m } : En).d, .int .i64 ({ p with o := m } : En).i, .int .i64 ({ p with o := m } : En).o.C, .int .i64 ({ p with o := m } : En).o.D, .int .i64 ({ p with o := m } : En).o.I, .int .i64 ({ p with o := m } : En).o.M, .int .i64 ({ p with o := m } : En).o.K, .int .i64 ({ p with o := m } : En).o.U, .string ({ p with o := m } : En).o.s]) := by
      have hR := op_size
      cases hq : Try.prog.info? 35 with
      | none => simp [hq] at hR
      | some inf =>
        have hinf : inf.size = 7 := by simpa [hq] using hR
        simp [storeVar, sizeOf, typeInfo, hq, Value.cells, hinf, hs]
        rfl
    unfold Oper.wp execOp
    simp only [ho, hx, hy, Instr.storeAt, Instr.sureAddr, Sem.run_bind, Sem.run_pure, Result.andThen_ok, hv]
    exact hK _ _ h

theorem isNum_one {s : ByteArray} {p : Nat} {bad : Bool} {q : Nat} {b1 : Bool} (h : numStep s p bad 1 q b1) : isNum s p bad = some (1, q) ∧ b1 = false := by
  rcases h with ⟨h1, h2⟩ | ⟨_, h2, _⟩
  · exact ⟨h1, h2⟩
  · cases h2
theorem ent_op_good {s : ByteArray} {p : Nat} {bad : Bool} {q1 q2 : Nat} {b1 : Bool} {o : Mv} (h1 : numStep s p bad 1 q1 b1) (h2 : opStep s q1 b1 o q2 false) : isEnt s p bad = some (⟨1, 0, 0, o⟩, q2) ∧ entB ⟨1, 0, 0, o⟩ = true := by
  obtain ⟨g1, rfl⟩ := isNum_one h1
  rcases h2 with ⟨g2, _⟩ | ⟨_, _, h⟩
  · refine ⟨?_, entB_op (op_bytes g2).1⟩
    unfold isEnt
    rw [g1, Option.bind_some, if_pos rfl, g2, Option.bind_some]
  · cases h
theorem ent_op_ill {s : ByteArray} {p : Nat} {bad : Bool} {q1 q2 : Nat} {b1 : Bool} {o : Mv} (h1 : numStep s p bad 1 q1 b1) (h2 : opStep s q1 b1 o q2 true) : isEnt s p bad = none := by
  obtain ⟨g1, rfl⟩ := isNum_one h1
  rcases h2 with ⟨_, h⟩ | ⟨g2, _, _⟩
  · cases h
  · unfold isEnt
    rw [g1, Option.bind_some, if_pos rfl, g2]; rfl
theorem ent_two_good {s : ByteArray} {p : Nat} {bad : Bool} {k d i : Int} {q1 q2 q3 : Nat} {b1 b2 : Bool} (hk : ¬ k = 1) (h1 : numStep s p bad k q1 b1) (h2 : numStep s q1 b1 d q2 b2) (h3 : numStep s q2 b2 i q3 false) : isEnt s p bad = if entB ⟨k, d, i, zeroMv⟩ = true then some (⟨k, d, i, zeroMv⟩, q3) else none := by
  obtain ⟨rfl, g3⟩ := h3.good
  obtain ⟨rfl, g2⟩ := h2.good
  unfold isEnt
  rw [h1.back, Option.bind_some, if_neg hk, g2, Option.bind_some, g3, Option.bind_some]
theorem ent_two_ill {s : ByteArray} {p : Nat} {bad : Bool} {k d i : Int} {q1 q2 q3 : Nat} {b1 b2 : Bool} (hk : ¬ k = 1) (h1 : numStep s p bad k q1 b1) (h2 : numStep s q1 b1 d q2 b2) (h3 : numStep s q2 b2 i q3 true) : isEnt s p bad = none := by
  unfold isEnt
  cases b1
  · rw [h1.back, Option.bind_some, if_neg hk]
    cases b2
    · rw [h2.back, Option.bind_some, h3.ill]; rfl
    · rw [h2.ill]; rfl
  · rw [h1.ill]; rfl

end Go.Proofs.Ytbfebcifmneliaa
