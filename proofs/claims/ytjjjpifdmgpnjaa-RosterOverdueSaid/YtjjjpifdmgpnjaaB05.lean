/- Texts laid one behind the other: Dm, Dn, Do, Dp, Dq, Ds. -/
import Derived.Test.YtjjjpifdmgpnjaaB04
import Derived.Lib.MinMax
import Derived.Lib.QuietBelow
import Derived.BigQuiet
import Derived.Deep.CutRange
import Derived.Deep.RegionHeld3
/- The program's members: New, Find, Put. -/
namespace Go.Proofs.Ytjjjpifdmgpnjaa
open Go.RowKit Cod

theorem cellLtD {w : World} {b i : Nat} {v : Value} (h : w.cell? ⟨b, i, none⟩ = some v) : b < w.heap.size := World.block_lt_of_cell? _ _ h
set_option maxRecDepth 100000 in
set_option maxHeartbeats 2000000 in
theorem mbFind1_any (m : Mb) (n : Nat) (d : Int) (w : World) (h : w.cell? ⟨n, 0, none⟩ = some (.int .i64 d)) : Calls Try.prog 31 #[.agg #[.int .i64 m.d, .int .i64 m.i, .bool m.w, .int .i64 m.n, .int .i64 m.l, .int .i64 m.o, .int .i64 m.r.d, .int .i64 m.r.i, .int .i64 m.r.b, .int .i64 m.r.t, .int .i64 m.r.m, .int .i64 m.r.p, .int .i64 m.r.c, .int .i64 m.r.s, .int .i64 m.r.k, .string m.f], .pointer (some ⟨n, 0, none⟩)] w fun e w' => e = .returned (.bool (decide (m.d = d))) ∧ Below w.heap.size w w' := by
  have hP : mbE.In (w.alloc (.cells #[.int .i64 m.d, .int .i64 m.i, .bool m.w, .int .i64 m.n, .int .i64 m.l, .int .i64 m.o, .int .i64 m.r.d, .int .i64 m.r.i, .int .i64 m.r.b, .int .i64 m.r.t, .int .i64 m.r.m, .int .i64 m.r.p, .int .i64 m.r.c, .int .i64 m.r.s, .int .i64 m.r.k, .string m.f] 39)) w.heap.size m := El.In.new (E := mbE) w m _ rfl
  have hB := below_alloc (Below.refl w.heap.size w) (.cells #[.int .i64 m.d, .int .i64 m.i, .bool m.w, .int .i64 m.n, .int .i64 m.l, .int .i64 m.o, .int .i64 m.r.d, .int .i64 m.r.i, .int .i64 m.r.b, .int .i64 m.r.t, .int .i64 m.r.m, .int .i64 m.r.p, .int .i64 m.r.c, .int .i64 m.r.s, .int .i64 m.r.k, .string m.f] 39)
  have hlt := cellLtD h
  rw [← (bcell hB).1 _ _ hlt] at h
  have p0 := (mbIn16 hP).1
  clear hP
  obtain ⟨bv, hbv⟩ : ∃ bv, decide (m.d = d) = bv := ⟨_, rfl⟩
  have f1 : (m.d == d) = bv := hbv
  rw [hbv]
  clear hbv
  go_enter Try.func31, Try.ntmps31
  go_upto_region 1 with fail
  generalize w.alloc (.cells #[.int .i64 m.d, .int .i64 m.i, .bool m.w, .int .i64 m.n, .int .i64 m.l, .int .i64 m.o, .int .i64 m.r.d, .int .i64 m.r.i, .int .i64 m.r.b, .int .i64 m.r.t, .int .i64 m.r.m, .int .i64 m.r.p, .int .i64 m.r.c, .int .i64 m.r.s, .int .i64 m.r.k, .string m.f] 39) = W at *
  go_wp2_with fail
  go_ret
  exact ⟨rfl, hB⟩

set_option maxRecDepth 100000 in
set_option maxHeartbeats 2000000 in
theorem mbIndex_any (A : Option Addr) (cap : Nat) (l : List Mb) (n : Nat) (d : Int) (w : World) (hl : l.length ≤ 1000) (h : w.cell? ⟨n, 0, none⟩ = some (.int .i64 d)) (hT : mbE.Sl w A l) :
    Calls Try.prog 30 #[.slice A l.length cap, .func (.func 31) #[] #[.pointer (some ⟨n, 0, none⟩)]] w fun e w' => e = .returned (.int .i64 (findM l d)) ∧ Below w.heap.size w w' := by
  have hlt := cellLtD h
  have HF := Lib.hid (fun (r : Mb) (wx : World) (hb : Below w.heap.size w wx) => mbFind1_any r n d wx (by rw [(bcell hb).1 _ _ hlt]; exact h))
  have HC0 := Lib.hid (fun (j : Nat) (h : j < l.length) (hj : j < 0) => (absurd hj (Nat.not_lt_zero j) : l[j].d ≠ d))
  have hB := Below.refl w.heap.size w
  have HT := Lib.hid hT
  clear h hT
  go_enter Try.func30, Try.ntmps30
  go_wp2_with fail
  go_loopw [8] (fun y wr => ∃ k : Nat, k ≤ l.length ∧ y = .int .i64 k ∧ Hid (∀ j (h : j < l.length), j < k → l[j].d ≠ d) ∧ Below w.heap.size w wr) (fun y _ => l.length - (intOf y).toNat)
  case atStart => exact ⟨0, Nat.zero_le _, rfl, HC0, hB⟩
  case round =>
    clear HC0 hB
    obtain ⟨k, hk, rfl, HK, hB⟩ := hrel
    by_cases hkl : k < l.length
    · obtain ⟨b, off, eA, hbw, hc⟩ := HT.out (by omega)
      have hx := mbIdx (cap := cap) eA hkl
      have hat : mbE.At wr b (off + k * 16) l[k] := (hc k hkl).below hB hbw
      have HC := Lib.hid (HF.out l[k] wr hB)
      by_cases hd : l[k].d = d
      · have hv : findM l d = k := by
          have e := cutM_is hk HK.out (fun _ => hd)
          unfold findM; rw [e, if_pos hkl]
        have HV := Lib.hid hv
        rw [show decide (l[k].d = d) = true from decide_eq_true hd] at HC
        generalize l[k] = x at *
        clear hc eA hv hd
        go_wp2_with (first | (refine El.load mbRow rfl _ rfl b (off + k * 16) rfl x hat #[.int .i64 x.d, .int .i64 x.i, .bool x.w, .int .i64 x.n, .int .i64 x.l, .int .i64 x.o, .int .i64 x.r.d, .int .i64 x.r.i, .int .i64 x.r.b, .int .i64 x.r.t, .int .i64 x.r.m, .int .i64 x.r.p, .int .i64 x.r.c, .int .i64 x.r.s, .int .i64 x.r.k, .string x.f] rfl ?_) | (go_at_call 31; (with_reducible refine (HC.out).mono ?_); rintro e w1 ⟨rfl, hb1⟩))
        go_ret
        exact ⟨by rw [HV.out]; rfl, below_then hB hb1⟩
      · have HN := Lib.hid (fun (j : Nat) (h : j < l.length) (hj : j < k + 1) => (by
          by_cases e : j < k
          · exact HK.out j h e
          · obtain rfl : j = k := by omega
            exact hd : l[j].d ≠ d))
        rw [show decide (l[k].d = d) = false from decide_eq_false hd] at HC
        generalize l[k] = x at *
        clear hc eA hd
        go_wp2_with (first | (refine El.load mbRow rfl _ rfl b (off + k * 16) rfl x hat #[.int .i64 x.d, .int .i64 x.i, .bool x.w, .int .i64 x.n, .int .i64 x.l, .int .i64 x.o, .int .i64 x.r.d, .int .i64 x.r.i, .int .i64 x.r.b, .int .i64 x.r.t, .int .i64 x.r.m, .int .i64 x.r.p, .int .i64 x.r.c, .int .i64 x.r.s, .int .i64 x.r.k, .string x.f] rfl ?_) | (go_at_call 31; (with_reducible refine (HC.out).mono ?_); rintro e w1 ⟨rfl, hb1⟩))
        exact ⟨⟨k + 1, by omega, by go_num, HN, below_then hB hb1⟩, by simp [intOf]; omega⟩
    · obtain rfl : k = l.length := by omega
      have hv : findM l d = -1 := by
        have e := cutM_is hk HK.out (fun h => absurd h (Nat.lt_irrefl _))
        unfold findM; rw [e, if_neg (Nat.lt_irrefl _)]
      have HV := Lib.hid hv
      clear hv
      go_wp2_with fail
      go_ret
      exact ⟨by rw [HV.out]; rfl, hB⟩

set_option maxRecDepth 100000 in
set_option maxHeartbeats 2000000 in
theorem mbFind_any (A : Option Addr) (c : Nat) (l : List Mb) (d : Int) (w : World) (hl : l.length ≤ 1000) (hT : mbE.Sl w A l) :
    Calls Try.prog 12 #[.slice A l.length c, .int .i64 d] w fun e w' => e = .returned (.int .i64 (findM l d)) ∧ Below w.heap.size w w' := by
  have hB := below_alloc (Below.refl w.heap.size w) (.cells #[.int .i64 d] 3)
  have hc : (w.alloc (.cells #[.int .i64 d] 3)).cell? ⟨w.heap.size, 0, none⟩ = some (.int .i64 d) := by go_simp
  have hT2 := hT.below hB
  have HC := Lib.hid (mbIndex_any A c l w.heap.size d _ hl hc hT2)
  clear hc hT hT2
  generalize findM l d = k at *
  go_enter Try.func12, Try.ntmps12
  go_upto_region 1 with fail
  generalize w.alloc (.cells #[.int .i64 d] 3) = W at *
  go_wp2_with fail
  refine HC.out.mono ?_
  rintro e w1 ⟨rfl, hb1⟩
  go_wp2_with fail
  go_ret
  exact ⟨rfl, below_then hB hb1⟩

set_option maxRecDepth 100000 in
theorem cloneMbD_any (A : Option Addr) (c : Nat) (l : List Mb) (w : World) (hl : l.length ≤ 1000) (hT : SlV mbE w A c l) :
    Calls Try.prog 45 #[.slice A l.length c] w fun e w' => ∃ v, e = .returned v ∧ mbE.Own w' w.heap.size v l ∧ Below w.heap.size w w' := by
  obtain ⟨hT, hz, hlc⟩ := hT
  have q : ∀ (w : World) (a : Option Addr) (n c n' c' : Nat), (binOp .eql 22 (.slice a n c) (.slice none n' c')).run Try.prog w = .ok (.bool a.isNone) w := fun w a n c n' c' => Lib.run_eql_slice_nil w _ _ a n c n' c' Try.underlying22
  cases A with
  | none =>
    obtain rfl := hT.none_nil
    obtain rfl := hz rfl
    go_enter Try.func45, Try.ntmps45
    go_wp2
    go_ret
    exact ⟨_, rfl, El.Own.nil (E := mbE) w w.heap.size, Below.refl _ _⟩
  | some a =>
    go_enter Try.func45, Try.ntmps45
    have hE := El.Own.empty (E := mbE) w w.heap.size (Nat.le_refl _)
    have hb0 := below_alloc (Below.refl w.heap.size w) (.cells #[] 39)
    go_wp2_with (at_builtin; refine El.wpList_app mbInn rfl _ _ rfl w.heap.size _ [] l rfl hE (some a) _ c rfl rfl (hT.below hb0) (fun e => by cases e) (by simp; omega) (by simp) ?_; intro v' w2 hown hg _)
    go_wp2
    go_ret
    exact ⟨v', rfl, hown, below_own hb0 hg (hE.rows)⟩

set_option maxRecDepth 100000 in
set_option maxHeartbeats 4000000 in
theorem mbPut_any (A : Option Addr) (c : Nat) (l : List Mb) (m : Mb) (w : World) (hl : l.length ≤ 1000) (hT0 : SlV mbE w A c l) : Calls Try.prog 25 #[.slice A l.length c, .agg #[.int .i64 m.d, .int .i64 m.i, .bool m.w, .int .i64 m.n, .int .i64 m.l, .int .i64 m.o, .int .i64 m.r.d, .int .i64 m.r.i, .int .i64 m.r.b, .int .i64 m.r.t, .int .i64 m.r.m, .int .i64 m.r.p, .int .i64 m.r.c, .int .i64 m.r.s, .int .i64 m.r.k, .string m.f]] w fun e w' => ∃ (A' : Option Addr) (c' : Nat), e = .returned (.slice A' l.length c') ∧ SlV mbE w' A' c' (putM l m) ∧ Below w.heap.size w w' := by
  have hP : mbE.In (w.alloc (.cells #[.int .i64 m.d, .int .i64 m.i, .bool m.w, .int .i64 m.n, .int .i64 m.l, .int .i64 m.o, .int .i64 m.r.d, .int .i64 m.r.i, .int .i64 m.r.b, .int .i64 m.r.t, .int .i64 m.r.m, .int .i64 m.r.p, .int .i64 m.r.c, .int .i64 m.r.s, .int .i64 m.r.k, .string m.f] 39)) w.heap.size m := El.In.new (E := mbE) w m _ rfl
  have hB := below_alloc (Below.refl w.heap.size w) (.cells #[.int .i64 m.d, .int .i64 m.i, .bool m.w, .int .i64 m.n, .int .i64 m.l, .int .i64 m.o, .int .i64 m.r.d, .int .i64 m.r.i, .int .i64 m.r.b, .int .i64 m.r.t, .int .i64 m.r.m, .int .i64 m.r.p, .int .i64 m.r.c, .int .i64 m.r.s, .int .i64 m.r.k, .string m.f] 39)
  have C1 := Lib.hid (cloneMbD_any A c l _ hl (SlV.below hT0 hB))
  clear hT0
  go_enter Try.func25, Try.ntmps25
  go_upto_region 1 with fail
  generalize w.alloc (.cells #[.int .i64 m.d, .int .i64 m.i, .bool m.w, .int .i64 m.n, .int .i64 m.l, .int .i64 m.o, .int .i64 m.r.d, .int .i64 m.r.i, .int .i64 m.r.b, .int .i64 m.r.t, .int .i64 m.r.m, .int .i64 m.r.p, .int .i64 m.r.c, .int .i64 m.r.s, .int .i64 m.r.k, .string m.f] 39) = W at *
  obtain ⟨n1, hn1⟩ : ∃ n, w.heap.size = n := ⟨_, rfl⟩
  rw [hn1] at hP ⊢
  clear hn1
  have hlt := hP.lt
  have hws := hB.size
  go_wp2_with fail
  refine C1.out.mono ?_
  rintro e w2 ⟨v, rfl, hO, hb2⟩
  replace hP := hP.below hb2
  replace hB := below_then hB hb2
  obtain ⟨A', c', rfl, hS⟩ := SlV.own hO
  have C2 := Lib.hid (mbFind_any A' c' l m.d w2 hl hS.1)
  have p0 := (mbIn16 hP).1
  clear hb2 C1
  go_wp2_with fail
  refine C2.out.mono ?_
  rintro e w3 ⟨rfl, hb3⟩
  replace hP := hP.below hb3
  replace hB := below_then hB hb3
  replace hO := hO.below hb3
  replace hS := SlV.below hS hb3
  clear hb3 C2 p0
  rcases findM_cases l m.d with hf | ⟨k, hf, hk⟩
  · have HV := Lib.hid (putM_none hf)
    rw [hf]
    clear hf
    go_wp2_with fail
    go_ret
    exact ⟨A', c', rfl, by rw [HV.out]; exact hS, hB⟩
  · have HV := Lib.hid (putM_at hf).2
    rw [hf]
    clear hf hS
    obtain ⟨g, rfl⟩ := own_at hO (by omega)
    have f1 : decide ((0 : Int) ≤ (k : Int)) = true := decide_eq_true (by omega)
    go_wp2_with (first | (refine El.load mbRow rfl _ rfl n1 0 rfl m hP.at #[.int .i64 m.d, .int .i64 m.i, .bool m.w, .int .i64 m.n, .int .i64 m.l, .int .i64 m.o, .int .i64 m.r.d, .int .i64 m.r.i, .int .i64 m.r.b, .int .i64 m.r.t, .int .i64 m.r.m, .int .i64 m.r.p, .int .i64 m.r.c, .int .i64 m.r.s, .int .i64 m.r.k, .string m.f] rfl ?_) | (refine El.wpList_setAt mbRow rfl _ _ rfl W.heap.size g c' k l m hO hk #[.int .i64 m.d, .int .i64 m.i, .bool m.w, .int .i64 m.n, .int .i64 m.l, .int .i64 m.o, .int .i64 m.r.d, .int .i64 m.r.i, .int .i64 m.r.b, .int .i64 m.r.t, .int .i64 m.r.m, .int .i64 m.r.p, .int .i64 m.r.c, .int .i64 m.r.s, .int .i64 m.r.k, .string m.f] rfl rfl rfl ?_; intro w7 hO7 hg7 _) | fail)
    have hO8 := (SlV.own hO7)
    obtain ⟨A8, c8, e8, hS8⟩ := hO8
    injection e8 with e9 _ e10
    subst e9 e10
    go_wp2_with fail
    go_ret
    exact ⟨_, _, rfl, by rw [HV.out]; exact hS8, hB.grown hg7 hB.size (fun k hk => by have := hO.rows k (by rw [← hk]; rfl); omega)⟩

set_option maxRecDepth 100000 in
set_option maxHeartbeats 4000000 in
theorem mbNew_any (A : Option Addr) (c : Nat) (l : List Int) (w : World) (hl : l.length ≤ 1000) (hT : inE.Sl w A l) :
    Calls Try.prog 23 #[.slice A l.length c] w fun e w' => ∃ (A' : Option Addr) (c' : Nat), e = .returned (.slice A' l.length c') ∧ SlV mbE w' A' c' (l.map newMb) ∧ Below w.heap.size w w' := by
  have hB := Below.refl w.heap.size w
  have HT := Lib.hid hT
  clear hT
  have hO := El.Own.nil (E := mbE) w w.heap.size
  go_enter Try.func23, Try.ntmps23
  go_wp2_with fail
  go_loopw [3, 9] (fun p y wr => ∃ (k : Nat) (v : Value), k ≤ l.length ∧ y = .int .i64 k ∧ p = v ∧ mbE.Own wr w.heap.size v ((l.take k).map newMb) ∧ Below w.heap.size w wr) (fun _ y _ => l.length - (intOf y).toNat)
  case atStart => exact ⟨0, _, Nat.zero_le _, rfl, rfl, hO, hB⟩
  case round =>
    clear hB hO
    obtain ⟨k, v, hk, rfl, rfl, hO, hB⟩ := hrel
    by_cases hkl : k < l.length
    · obtain ⟨b, off, eA, hbw, hc⟩ := HT.out (by omega)
      have hx := inIdx (cap := c) eA hkl
      have hcw := inAt1 (show inE.At w b (off + k * 1) l[k] from hc k hkl)
      rw [Nat.mul_one] at hcw
      have hcr := ((bcell hB).1 b (off + k) hbw).trans hcw
      have HNX := Lib.hid (show (l.take (k + 1)).map newMb = (l.take k).map newMb ++ [newMb l[k]] by rw [List.take_succ_eq_append_getElem hkl, List.map_append]; rfl)
      have HLE := Lib.hid (show ((l.take k).map newMb).length ≤ 1000 by rw [List.length_map, List.length_take]; omega)
      generalize l[k] = d at *
      generalize (l.take k).map newMb = LO at *
      clear hc eA hcw
      obtain ⟨A0, c0, rfl, _⟩ := SlV.own hO
      have hR : rpE.In (wr.alloc (.cells #[.int .i64 d, .int .i64 1, .int .i64 0, .int .i64 0, .int .i64 1, .int .i64 0, .int .i64 0, .int .i64 0, .int .i64 0] 37)) wr.heap.size ⟨d, 1, 0, 0, 1, 0, 0, 0, 0⟩ := El.In.new (E := rpE) wr ⟨d, 1, 0, 0, 1, 0, 0, 0, 0⟩ _ rfl
      have hal := below_alloc (Below.refl wr.heap.size wr) (.cells #[.int .i64 d, .int .i64 1, .int .i64 0, .int .i64 0, .int .i64 1, .int .i64 0, .int .i64 0, .int .i64 0, .int .i64 0] 37)
      replace hB := below_then hB hal
      replace hO := hO.below hal
      clear hal
      go_upto_region 6 with fail
      clear hcr hx hbw
      generalize wr.alloc (.cells #[.int .i64 d, .int .i64 1, .int .i64 0, .int .i64 0, .int .i64 1, .int .i64 0, .int .i64 0, .int .i64 0, .int .i64 0] 37) = U at *
      generalize wr.heap.size = n at *
      obtain ⟨r0, r1, r2, r3, r4, r5, r6, r7, r8⟩ := rpIn9 hR
      clear hR
      have he : mbE.Sl (U.alloc (.cells #[.int .i64 d, .int .i64 1, .bool true, .int .i64 0, .int .i64 0, .int .i64 0, .int .i64 d, .int .i64 1, .int .i64 0, .int .i64 0, .int .i64 1, .int .i64 0, .int .i64 0, .int .i64 0, .int .i64 0, .string ⟨#[]⟩] 39)) (some ⟨U.heap.size, 0, none⟩) [newMb d] := (El.In.new (E := mbE) U (newMb d) _ rfl).sl
      have hal := below_alloc (Below.refl U.heap.size U) (.cells #[.int .i64 d, .int .i64 1, .bool true, .int .i64 0, .int .i64 0, .int .i64 0, .int .i64 d, .int .i64 1, .int .i64 0, .int .i64 0, .int .i64 1, .int .i64 0, .int .i64 0, .int .i64 0, .int .i64 0, .string ⟨#[]⟩] 39)
      replace hO := hO.below hal
      replace hB := below_then hB hal
      have hBs := hB.size
      clear hal
      go_wp2_with (first | (at_builtin; refine El.wpList_app mbInn rfl _ _ rfl w.heap.size _ LO [newMb d] rfl hO (some ⟨U.heap.size, 0, none⟩) 1 1 rfl rfl he (fun e => by cases e) (by have := HLE.out; rw [List.length_singleton]; omega) hBs ?_; intro v' w5 hO5 hg5 _) | fail)
      have hB5 := hB.grown hg5 hB.size (fun k e => (hO.lt k e).1)
      go_wp2_with fail
      exact ⟨⟨k + 1, v', by omega, by go_num, rfl, by rw [HNX.out]; exact hO5, hB5⟩, by simp [intOf]; omega⟩
    · obtain rfl : k = l.length := by omega
      rw [List.take_length] at hO
      obtain ⟨A', c', rfl, hS⟩ := SlV.own hO
      rw [List.length_map]
      go_wp2_with fail
      go_ret
      exact ⟨A', c', rfl, hS, hB⟩
end Go.Proofs.Ytjjjpifdmgpnjaa

/- The program's members: Stable, Counter, Overdue. -/
namespace Go.Proofs.Ytjjjpifdmgpnjaa
open Go.RowKit Cod

set_option maxRecDepth 100000 in
theorem mbPos_any (x : Mb) (w : World) : Calls Try.prog 33 #[.agg #[.int .i64 x.d, .int .i64 x.i, .bool x.w, .int .i64 x.n, .int .i64 x.l, .int .i64 x.o, .int .i64 x.r.d, .int .i64 x.r.i, .int .i64 x.r.b, .int .i64 x.r.t, .int .i64 x.r.m, .int .i64 x.r.p, .int .i64 x.r.c, .int .i64 x.r.s, .int .i64 x.r.k, .string x.f]] w fun e w' => e = .returned (.int .i64 x.r.p) ∧ Below w.heap.size w w' := by
  have hP : mbE.In (w.alloc (.cells #[.int .i64 x.d, .int .i64 x.i, .bool x.w, .int .i64 x.n, .int .i64 x.l, .int .i64 x.o, .int .i64 x.r.d, .int .i64 x.r.i, .int .i64 x.r.b, .int .i64 x.r.t, .int .i64 x.r.m, .int .i64 x.r.p, .int .i64 x.r.c, .int .i64 x.r.s, .int .i64 x.r.k, .string x.f] 39)) w.heap.size x := El.In.new (E := mbE) w x _ rfl
  have hB := below_alloc (Below.refl w.heap.size w) (.cells #[.int .i64 x.d, .int .i64 x.i, .bool x.w, .int .i64 x.n, .int .i64 x.l, .int .i64 x.o, .int .i64 x.r.d, .int .i64 x.r.i, .int .i64 x.r.b, .int .i64 x.r.t, .int .i64 x.r.m, .int .i64 x.r.p, .int .i64 x.r.c, .int .i64 x.r.s, .int .i64 x.r.k, .string x.f] 39)
  obtain ⟨_, _, _, _, _, _, _, _, _, _, _, h11, _, _, _, _⟩ := mbIn16 hP
  clear hP
  go_enter Try.func33, Try.ntmps33
  go_upto_region 1 with fail
  generalize w.alloc (.cells #[.int .i64 x.d, .int .i64 x.i, .bool x.w, .int .i64 x.n, .int .i64 x.l, .int .i64 x.o, .int .i64 x.r.d, .int .i64 x.r.i, .int .i64 x.r.b, .int .i64 x.r.t, .int .i64 x.r.m, .int .i64 x.r.p, .int .i64 x.r.c, .int .i64 x.r.s, .int .i64 x.r.k, .string x.f] 39) = W at *
  go_wp2_with fail
  go_ret
  exact ⟨rfl, hB⟩
def reachM (m : Mb) : Int := if m.r.s = m.n then m.r.c else m.l
set_option maxRecDepth 100000 in
theorem mbReached_any (x : Mb) (w : World) : Calls Try.prog 34 #[.agg #[.int .i64 x.d, .int .i64 x.i, .bool x.w, .int .i64 x.n, .int .i64 x.l, .int .i64 x.o, .int .i64 x.r.d, .int .i64 x.r.i, .int .i64 x.r.b, .int .i64 x.r.t, .int .i64 x.r.m, .int .i64 x.r.p, .int .i64 x.r.c, .int .i64 x.r.s, .int .i64 x.r.k, .string x.f]] w fun e w' => e = .returned (.int .i64 (reachM x)) ∧ Below w.heap.size w w' := by
  have hP : mbE.In (w.alloc (.cells #[.int .i64 x.d, .int .i64 x.i, .bool x.w, .int .i64 x.n, .int .i64 x.l, .int .i64 x.o, .int .i64 x.r.d, .int .i64 x.r.i, .int .i64 x.r.b, .int .i64 x.r.t, .int .i64 x.r.m, .int .i64 x.r.p, .int .i64 x.r.c, .int .i64 x.r.s, .int .i64 x.r.k, .string x.f] 39)) w.heap.size x := El.In.new (E := mbE) w x _ rfl
  have hB := below_alloc (Below.refl w.heap.size w) (.cells #[.int .i64 x.d, .int .i64 x.i, .bool x.w, .int .i64 x.n, .int .i64 x.l, .int .i64 x.o, .int .i64 x.r.d, .int .i64 x.r.i, .int .i64 x.r.b, .int .i64 x.r.t, .int .i64 x.r.m, .int .i64 x.r.p, .int .i64 x.r.c, .int .i64 x.r.s, .int .i64 x.r.k, .string x.f] 39)
  obtain ⟨_, _, _, h3, h4, _, _, _, _, _, _, _, h12, h13, _, _⟩ := mbIn16 hP
  clear hP
  by_cases he : x.r.s = x.n
  · have f1 : (x.r.s == x.n) = true := beq_iff_eq.2 he
    have hv : reachM x = x.r.c := by unfold reachM; rw [if_pos he]
    rw [hv]
    clear he hv
    go_enter Try.func34, Try.ntmps34
    go_upto_region 1 with fail
    generalize w.alloc (.cells #[.int .i64 x.d, .int .i64 x.i, .bool x.w, .int .i64 x.n, .int .i64 x.l, .int .i64 x.o, .int .i64 x.r.d, .int .i64 x.r.i, .int .i64 x.r.b, .int .i64 x.r.t, .int .i64 x.r.m, .int .i64 x.r.p, .int .i64 x.r.c, .int .i64 x.r.s, .int .i64 x.r.k, .string x.f] 39) = W at *
    go_wp2_with fail
    go_ret
    exact ⟨rfl, hB⟩
  · have f1 : (x.r.s == x.n) = false := beq_eq_false_iff_ne.2 he
    have hv : reachM x = x.l := by unfold reachM; rw [if_neg he]
    rw [hv]
    clear he hv
    go_enter Try.func34, Try.ntmps34
    go_upto_region 1 with fail
    generalize w.alloc (.cells #[.int .i64 x.d, .int .i64 x.i, .bool x.w, .int .i64 x.n, .int .i64 x.l, .int .i64 x.o, .int .i64 x.r.d, .int .i64 x.r.i, .int .i64 x.r.b, .int .i64 x.r.t, .int .i64 x.r.m, .int .i64 x.r.p, .int .i64 x.r.c, .int .i64 x.r.s, .int .i64 x.r.k, .string x.f] 39) = W at *
    go_wp2_with fail
    go_ret
    exact ⟨rfl, hB⟩

theorem cntM1_reach (t : Int) (x : Mb) : cntM1 t x = if x.w = true then min t (reachM x) else t := by
  unfold cntM1 reachM
  split
  · split <;> rfl
  · rfl
set_option maxRecDepth 100000 in
set_option maxHeartbeats 2000000 in
theorem leastPos_any (A : Option Addr) (c : Nat) (l : List Mb) (t0 : Int) (w : World) (hl : l.length ≤ 1000) (hT : mbE.Sl w A l) : Calls Try.prog 32 #[.slice A l.length c, .int .i64 t0, .func (.func 33) #[] #[]] w fun e w' => e = .returned (.int .i64 (l.foldl stabM1 t0)) ∧ Below w.heap.size w w' := by
  have hB := Below.refl w.heap.size w
  have HT := Lib.hid hT
  clear hT
  go_enter Try.func32, Try.ntmps32
  go_wp2_with fail
  go_loopw [1, 11] (fun p y wr => ∃ k : Nat, k ≤ l.length ∧ y = .int .i64 k ∧ p = .int .i64 ((l.take k).foldl stabM1 t0) ∧ Below w.heap.size w wr) (fun _ y _ => l.length - (intOf y).toNat)
  case atStart => exact ⟨0, Nat.zero_le _, rfl, rfl, hB⟩
  case round =>
    clear hB
    obtain ⟨k, hk, rfl, rfl, hB⟩ := hrel
    by_cases hkl : k < l.length
    · obtain ⟨b, off, eA, hbw, hc⟩ := HT.out (by omega)
      have hx := mbIdx (cap := c) eA hkl
      have hat : mbE.At wr b (off + k * 16) l[k] := (hc k hkl).below hB hbw
      have HNX := Lib.hid (show (l.take (k + 1)).foldl stabM1 t0 = stabM1 ((l.take k).foldl stabM1 t0) l[k] by rw [List.take_succ_eq_append_getElem hkl, List.foldl_append]; rfl)
      generalize l[k] = x at *
      generalize (l.take k).foldl stabM1 t0 = t at *
      obtain ⟨g, hg⟩ : ∃ g, x.r.p = g := ⟨_, rfl⟩
      have C := Lib.hid (fun wx => (show Calls Try.prog 33 #[.agg #[.int .i64 x.d, .int .i64 x.i, .bool x.w, .int .i64 x.n, .int .i64 x.l, .int .i64 x.o, .int .i64 x.r.d, .int .i64 x.r.i, .int .i64 x.r.b, .int .i64 x.r.t, .int .i64 x.r.m, .int .i64 x.r.p, .int .i64 x.r.c, .int .i64 x.r.s, .int .i64 x.r.k, .string x.f]] wx fun e w' => e = .returned (.int .i64 g) ∧ Below wx.heap.size wx w' from (mbPos_any x wx).mono fun e w' h => by rw [← hg]; exact h))
      have HV := Lib.hid (show stabM1 t x = if x.w = true then min t g else t by rw [← hg]; rfl)
      have hE : mbE.In (wr.alloc (.cells #[.int .i64 x.d, .int .i64 x.i, .bool x.w, .int .i64 x.n, .int .i64 x.l, .int .i64 x.o, .int .i64 x.r.d, .int .i64 x.r.i, .int .i64 x.r.b, .int .i64 x.r.t, .int .i64 x.r.m, .int .i64 x.r.p, .int .i64 x.r.c, .int .i64 x.r.s, .int .i64 x.r.k, .string x.f] 39)) wr.heap.size x := El.In.new (E := mbE) wr x _ rfl
      have hal := below_alloc (Below.refl wr.heap.size wr) (.cells #[.int .i64 x.d, .int .i64 x.i, .bool x.w, .int .i64 x.n, .int .i64 x.l, .int .i64 x.o, .int .i64 x.r.d, .int .i64 x.r.i, .int .i64 x.r.b, .int .i64 x.r.t, .int .i64 x.r.m, .int .i64 x.r.p, .int .i64 x.r.c, .int .i64 x.r.s, .int .i64 x.r.k, .string x.f] 39)
      replace hB := below_then hB hal
      clear hal hc eA hg
      go_upto_region 4 with (first | (refine El.load mbRow rfl _ rfl b (off + k * 16) rfl x hat #[.int .i64 x.d, .int .i64 x.i, .bool x.w, .int .i64 x.n, .int .i64 x.l, .int .i64 x.o, .int .i64 x.r.d, .int .i64 x.r.i, .int .i64 x.r.b, .int .i64 x.r.t, .int .i64 x.r.m, .int .i64 x.r.p, .int .i64 x.r.c, .int .i64 x.r.s, .int .i64 x.r.k, .string x.f] rfl ?_) | fail)
      clear hat hx hbw
      generalize wr.alloc (.cells #[.int .i64 x.d, .int .i64 x.i, .bool x.w, .int .i64 x.n, .int .i64 x.l, .int .i64 x.o, .int .i64 x.r.d, .int .i64 x.r.i, .int .i64 x.r.b, .int .i64 x.r.t, .int .i64 x.r.m, .int .i64 x.r.p, .int .i64 x.r.c, .int .i64 x.r.s, .int .i64 x.r.k, .string x.f] 39) = V at *
      generalize wr.heap.size = n at *
      obtain ⟨_, _, h2, _, _, _, _, _, _, _, _, _, _, _, _, _⟩ := mbIn16 hE
      cases hw : x.w with
      | true =>
        rw [hw] at h2
        have hv : stabM1 t x = min t g := by rw [HV.out, hw, if_pos rfl]
        rcases Int.le_total t g with h | h
        · have hm : min t g = t := Int.min_eq_left h
          have HVV := Lib.hid (hv.trans hm)
          clear hv h hw
          go_wp2_with (first | (refine El.load mbRow rfl _ rfl n 0 rfl x hE.at #[.int .i64 x.d, .int .i64 x.i, .bool x.w, .int .i64 x.n, .int .i64 x.l, .int .i64 x.o, .int .i64 x.r.d, .int .i64 x.r.i, .int .i64 x.r.b, .int .i64 x.r.t, .int .i64 x.r.m, .int .i64 x.r.p, .int .i64 x.r.c, .int .i64 x.r.s, .int .i64 x.r.k, .string x.f] rfl ?_) | fail)
          refine (C.out _).mono ?_
          rintro e w3 ⟨rfl, hb3⟩
          replace hB := below_then hB hb3
          clear hE h2
          go_wp2_with fail
          exact ⟨⟨k + 1, by omega, by go_num, by rw [HNX.out, HVV.out], hB⟩, by simp [intOf]; omega⟩
        · have hm : min t g = g := Int.min_eq_right h
          have HVV := Lib.hid (hv.trans hm)
          clear hv h hw
          go_wp2_with (first | (refine El.load mbRow rfl _ rfl n 0 rfl x hE.at #[.int .i64 x.d, .int .i64 x.i, .bool x.w, .int .i64 x.n, .int .i64 x.l, .int .i64 x.o, .int .i64 x.r.d, .int .i64 x.r.i, .int .i64 x.r.b, .int .i64 x.r.t, .int .i64 x.r.m, .int .i64 x.r.p, .int .i64 x.r.c, .int .i64 x.r.s, .int .i64 x.r.k, .string x.f] rfl ?_) | fail)
          refine (C.out _).mono ?_
          rintro e w3 ⟨rfl, hb3⟩
          replace hB := below_then hB hb3
          clear hE h2
          go_wp2_with fail
          exact ⟨⟨k + 1, by omega, by go_num, by rw [HNX.out, HVV.out], hB⟩, by simp [intOf]; omega⟩
      | false =>
        rw [hw] at h2
        have hv : stabM1 t x = t := by rw [HV.out, hw, if_neg (by decide)]
        have HVV := Lib.hid hv
        clear hv hw hE
        go_wp2_with fail
        exact ⟨⟨k + 1, by omega, by go_num, by rw [HNX.out, HVV.out], hB⟩, by simp [intOf]; omega⟩
    · obtain rfl : k = l.length := by omega
      rw [List.take_length]
      go_wp2_with fail
      go_ret
      exact ⟨rfl, hB⟩
set_option maxRecDepth 100000 in
set_option maxHeartbeats 2000000 in
theorem leastReach_any (A : Option Addr) (c : Nat) (l : List Mb) (t0 : Int) (w : World) (hl : l.length ≤ 1000) (hT : mbE.Sl w A l) : Calls Try.prog 32 #[.slice A l.length c, .int .i64 t0, .func (.func 34) #[] #[]] w fun e w' => e = .returned (.int .i64 (l.foldl cntM1 t0)) ∧ Below w.heap.size w w' := by
  have hB := Below.refl w.heap.size w
  have HT := Lib.hid hT
  clear hT
  go_enter Try.func32, Try.ntmps32
  go_wp2_with fail
  go_loopw [1, 11] (fun p y wr => ∃ k : Nat, k ≤ l.length ∧ y = .int .i64 k ∧ p = .int .i64 ((l.take k).foldl cntM1 t0) ∧ Below w.heap.size w wr) (fun _ y _ => l.length - (intOf y).toNat)
  case atStart => exact ⟨0, Nat.zero_le _, rfl, rfl, hB⟩
  case round =>
    clear hB
    obtain ⟨k, hk, rfl, rfl, hB⟩ := hrel
    by_cases hkl : k < l.length
    · obtain ⟨b, off, eA, hbw, hc⟩ := HT.out (by omega)
      have hx := mbIdx (cap := c) eA hkl
      have hat : mbE.At wr b (off + k * 16) l[k] := (hc k hkl).below hB hbw
      have HNX := Lib.hid (show (l.take (k + 1)).foldl cntM1 t0 = cntM1 ((l.take k).foldl cntM1 t0) l[k] by rw [List.take_succ_eq_append_getElem hkl, List.foldl_append]; rfl)
      generalize l[k] = x at *
      generalize (l.take k).foldl cntM1 t0 = t at *
      obtain ⟨g, hg⟩ : ∃ g, reachM x = g := ⟨_, rfl⟩
      have C := Lib.hid (fun wx => (show Calls Try.prog 34 #[.agg #[.int .i64 x.d, .int .i64 x.i, .bool x.w, .int .i64 x.n, .int .i64 x.l, .int .i64 x.o, .int .i64 x.r.d, .int .i64 x.r.i, .int .i64 x.r.b, .int .i64 x.r.t, .int .i64 x.r.m, .int .i64 x.r.p, .int .i64 x.r.c, .int .i64 x.r.s, .int .i64 x.r.k, .string x.f]] wx fun e w' => e = .returned (.int .i64 g) ∧ Below wx.heap.size wx w' from (mbReached_any x wx).mono fun e w' h => by rw [← hg]; exact h))
      have HV := Lib.hid (show cntM1 t x = if x.w = true then min t g else t by rw [← hg]; exact cntM1_reach t x)
      have hE : mbE.In (wr.alloc (.cells #[.int .i64 x.d, .int .i64 x.i, .bool x.w, .int .i64 x.n, .int .i64 x.l, .int .i64 x.o, .int .i64 x.r.d, .int .i64 x.r.i, .int .i64 x.r.b, .int .i64 x.r.t, .int .i64 x.r.m, .int .i64 x.r.p, .int .i64 x.r.c, .int .i64 x.r.s, .int .i64 x.r.k, .string x.f] 39)) wr.heap.size x := El.In.new (E := mbE) wr x _ rfl
      have hal := below_alloc (Below.refl wr.heap.size wr) (.cells #[.int .i64 x.d, .int .i64 x.i, .bool x.w, .int .i64 x.n, .int .i64 x.l, .int .i64 x.o, .int .i64 x.r.d, .int .i64 x.r.i, .int .i64 x.r.b, .int .i64 x.r.t, .int .i64 x.r.m, .int .i64 x.r.p, .int .i64 x.r.c, .int .i64 x.r.s, .int .i64 x.r.k, .string x.f] 39)
      replace hB := below_then hB hal
      clear hal hc eA hg
      go_upto_region 4 with (first | (refine El.load mbRow rfl _ rfl b (off + k * 16) rfl x hat #[.int .i64 x.d, .int .i64 x.i, .bool x.w, .int .i64 x.n, .int .i64 x.l, .int .i64 x.o, .int .i64 x.r.d, .int .i64 x.r.i, .int .i64 x.r.b, .int .i64 x.r.t, .int .i64 x.r.m, .int .i64 x.r.p, .int .i64 x.r.c, .int .i64 x.r.s, .int .i64 x.r.k, .string x.f] rfl ?_) | fail)
      clear hat hx hbw
      generalize wr.alloc (.cells #[.int .i64 x.d, .int .i64 x.i, .bool x.w, .int .i64 x.n, .int .i64 x.l, .int .i64 x.o, .int .i64 x.r.d, .int .i64 x.r.i, .int .i64 x.r.b, .int .i64 x.r.t, .int .i64 x.r.m, .int .i64 x.r.p, .int .i64 x.r.c, .int .i64 x.r.s, .int .i64 x.r.k, .string x.f] 39) = V at *
      generalize wr.heap.size = n at *
      obtain ⟨_, _, h2, _, _, _, _, _, _, _, _, _, _, _, _, _⟩ := mbIn16 hE
      cases hw : x.w with
      | true =>
        rw [hw] at h2
        have hv : cntM1 t x = min t g := by rw [HV.out, hw, if_pos rfl]
        rcases Int.le_total t g with h | h
        · have hm : min t g = t := Int.min_eq_left h
          have HVV := Lib.hid (hv.trans hm)
          clear hv h hw
          go_wp2_with (first | (refine El.load mbRow rfl _ rfl n 0 rfl x hE.at #[.int .i64 x.d, .int .i64 x.i, .bool x.w, .int .i64 x.n, .int .i64 x.l, .int .i64 x.o, .int .i64 x.r.d, .int .i64 x.r.i, .int .i64 x.r.b, .int .i64 x.r.t, .int .i64 x.r.m, .int .i64 x.r.p, .int .i64 x.r.c, .int .i64 x.r.s, .int .i64 x.r.k, .string x.f] rfl ?_) | fail)
          refine (C.out _).mono ?_
          rintro e w3 ⟨rfl, hb3⟩
          replace hB := below_then hB hb3
          clear hE h2
          go_wp2_with fail
          exact ⟨⟨k + 1, by omega, by go_num, by rw [HNX.out, HVV.out], hB⟩, by simp [intOf]; omega⟩
        · have hm : min t g = g := Int.min_eq_right h
          have HVV := Lib.hid (hv.trans hm)
          clear hv h hw
          go_wp2_with (first | (refine El.load mbRow rfl _ rfl n 0 rfl x hE.at #[.int .i64 x.d, .int .i64 x.i, .bool x.w, .int .i64 x.n, .int .i64 x.l, .int .i64 x.o, .int .i64 x.r.d, .int .i64 x.r.i, .int .i64 x.r.b, .int .i64 x.r.t, .int .i64 x.r.m, .int .i64 x.r.p, .int .i64 x.r.c, .int .i64 x.r.s, .int .i64 x.r.k, .string x.f] rfl ?_) | fail)
          refine (C.out _).mono ?_
          rintro e w3 ⟨rfl, hb3⟩
          replace hB := below_then hB hb3
          clear hE h2
          go_wp2_with fail
          exact ⟨⟨k + 1, by omega, by go_num, by rw [HNX.out, HVV.out], hB⟩, by simp [intOf]; omega⟩
      | false =>
        rw [hw] at h2
        have hv : cntM1 t x = t := by rw [HV.out, hw, if_neg (by decide)]
        have HVV := Lib.hid hv
        clear hv hw hE
        go_wp2_with fail
        exact ⟨⟨k + 1, by omega, by go_num, by rw [HNX.out, HVV.out], hB⟩, by simp [intOf]; omega⟩
    · obtain rfl : k = l.length := by omega
      rw [List.take_length]
      go_wp2_with fail
      go_ret
      exact ⟨rfl, hB⟩
set_option maxRecDepth 100000 in
theorem mbStable_any (A : Option Addr) (c : Nat) (l : List Mb) (pos : Int) (w : World) (hl : l.length ≤ 1000) (hT : mbE.Sl w A l) : Calls Try.prog 14 #[.slice A l.length c, .int .i64 pos] w fun e w' => e = .returned (.int .i64 (stabM l pos)) ∧ Below w.heap.size w w' := by
  have C := Lib.hid (leastPos_any A c l pos w hl hT)
  have HV := Lib.hid (show stabM l pos = l.foldl stabM1 pos from rfl)
  generalize l.foldl stabM1 pos = v at *
  rw [HV.out]
  go_enter Try.func14, Try.ntmps14
  go_wp2_with fail
  refine C.out.mono ?_
  rintro e w1 ⟨rfl, hb1⟩
  go_wp2_with fail
  go_ret
  exact ⟨rfl, hb1⟩
set_option maxRecDepth 100000 in
theorem mbCounter_any (A : Option Addr) (c : Nat) (l : List Mb) (clock lowest : Int) (w : World) (hl : l.length ≤ 1000) (hT : mbE.Sl w A l) (hlo : -1152921504606846976 ≤ lowest) (hhi : lowest ≤ 9223372036854775807) : Calls Try.prog 16 #[.slice A l.length c, .int .i64 clock, .int .i64 lowest] w fun e w' => e = .returned (.int .i64 (cntrM l clock lowest)) ∧ Below w.heap.size w w' := by
  have hs : IntKind.i64.wrap (lowest - 1) = lowest - 1 := by rw [IntKind.wrap_i64]; omega
  obtain ⟨t0, ht0⟩ : ∃ t, min clock (lowest - 1) = t := ⟨_, rfl⟩
  have C := Lib.hid (leastReach_any A c l t0 w hl hT)
  have HV0 := Lib.hid (show cntrM l clock lowest = l.foldl cntM1 t0 by unfold cntrM; rw [ht0])
  generalize l.foldl cntM1 t0 = v at *
  rw [HV0.out]
  clear hlo hhi
  go_enter Try.func16, Try.ntmps16
  go_wp2_with fail
  refine C.out.mono ?_
  rintro e w1 ⟨rfl, hb1⟩
  go_wp2_with fail
  go_ret
  exact ⟨rfl, hb1⟩

set_option maxRecDepth 100000 in
set_option maxHeartbeats 4000000 in
theorem mbOverdue_any (A B : Option Addr) (c d : Nat) (l : List Mb) (h : List Int) (now lease : Int) (w : World) (hl : l.length ≤ 1000) (hlh : h.length ≤ 1000) (hT : mbE.Sl w A l) (hH : inE.Sl w B h) (hh : ∀ n ∈ h, -1099511627776 ≤ n ∧ n ≤ 1099511627776) (hnow : -1099511627776 ≤ now ∧ now ≤ 1099511627776) :
    Calls Try.prog 20 #[.slice A l.length c, .slice B h.length d, .int .i64 now, .int .i64 lease] w fun e w' => ∃ (A' : Option Addr) (c' : Nat), e = .returned (.slice A' (overdueM l h now lease).length c') ∧ SlV inE w' A' c' (overdueM l h now lease) ∧ Below w.heap.size w w' := by
  have hB := Below.refl w.heap.size w
  have HT := Lib.hid hT
  have HH := Lib.hid hH
  have HHH := Lib.hid hh
  clear hT hH hh
  have hO := El.Own.nil (E := inE) w w.heap.size
  go_enter Try.func20, Try.ntmps20
  go_wp2_with fail
  go_loopw [9, 15] (fun p y wr => ∃ (k : Nat) (v : Value), k ≤ l.length ∧ y = .int .i64 k ∧ p = v ∧ inE.Own wr w.heap.size v (overdueM (l.take k) h now lease) ∧ Below w.heap.size w wr) (fun _ y _ => l.length - (intOf y).toNat)
  case atStart => exact ⟨0, _, Nat.zero_le _, rfl, rfl, hO, hB⟩
  case round =>
    clear hB hO
    obtain ⟨k, v, hk, rfl, rfl, hO, hB⟩ := hrel
    by_cases hkl : k < l.length
    · obtain ⟨b, off, eA, hbw, hc⟩ := HT.out (by omega)
      have hx := mbIdx (cap := c) eA hkl
      have hat : mbE.At wr b (off + k * 16) l[k] := (hc k hkl).below hB hbw
      have HNX := Lib.hid (overdueM_next (h := h) (now := now) (lease := lease) hkl)
      have hle := overdueM_le (l.take k) h now lease
      rw [List.length_take] at hle
      generalize l[k] = x at *
      obtain ⟨LO, hLO⟩ : ∃ L, overdueM (l.take k) h now lease = L := ⟨_, rfl⟩
      rw [hLO] at HNX hO hle
      have HLE := Lib.hid (show LO.length ≤ 1000 by omega)
      clear hle hLO
      obtain ⟨A0, c0, rfl, _⟩ := SlV.own hO
      have HV := Lib.hid (show overM h now lease x = (x.w && (decide (0 ≤ x.d ∧ x.d < h.length) && decide (lease < now - h.getD x.d.toNat 0))) from rfl)
      have hE : mbE.In (wr.alloc (.cells #[.int .i64 x.d, .int .i64 x.i, .bool x.w, .int .i64 x.n, .int .i64 x.l, .int .i64 x.o, .int .i64 x.r.d, .int .i64 x.r.i, .int .i64 x.r.b, .int .i64 x.r.t, .int .i64 x.r.m, .int .i64 x.r.p, .int .i64 x.r.c, .int .i64 x.r.s, .int .i64 x.r.k, .string x.f] 39)) wr.heap.size x := El.In.new (E := mbE) wr x _ rfl
      have hal := below_alloc (Below.refl wr.heap.size wr) (.cells #[.int .i64 x.d, .int .i64 x.i, .bool x.w, .int .i64 x.n, .int .i64 x.l, .int .i64 x.o, .int .i64 x.r.d, .int .i64 x.r.i, .int .i64 x.r.b, .int .i64 x.r.t, .int .i64 x.r.m, .int .i64 x.r.p, .int .i64 x.r.c, .int .i64 x.r.s, .int .i64 x.r.k, .string x.f] 39)
      replace hB := below_then hB hal
      replace hO := hO.below hal
      clear hal hc eA
      go_upto_region 5 with (first | (refine El.load mbRow rfl _ rfl b (off + k * 16) rfl x hat #[.int .i64 x.d, .int .i64 x.i, .bool x.w, .int .i64 x.n, .int .i64 x.l, .int .i64 x.o, .int .i64 x.r.d, .int .i64 x.r.i, .int .i64 x.r.b, .int .i64 x.r.t, .int .i64 x.r.m, .int .i64 x.r.p, .int .i64 x.r.c, .int .i64 x.r.s, .int .i64 x.r.k, .string x.f] rfl ?_) | fail)
      clear hat hx hbw
      generalize wr.alloc (.cells #[.int .i64 x.d, .int .i64 x.i, .bool x.w, .int .i64 x.n, .int .i64 x.l, .int .i64 x.o, .int .i64 x.r.d, .int .i64 x.r.i, .int .i64 x.r.b, .int .i64 x.r.t, .int .i64 x.r.m, .int .i64 x.r.p, .int .i64 x.r.c, .int .i64 x.r.s, .int .i64 x.r.k, .string x.f] 39) = V at *
      generalize wr.heap.size = n at *
      have hlt := hE.lt
      obtain ⟨h0, _, h2, _, _, _, _, _, _, _, _, _, _, _, _, _⟩ := mbIn16 hE
      by_cases hd0 : 0 ≤ x.d
      · obtain ⟨j, hj⟩ : ∃ j : Nat, x.d = j := ⟨x.d.toNat, by omega⟩
        rw [hj] at h0
        have f0 : decide ((0 : Int) ≤ (j : Int)) = true := decide_eq_true (by omega)
        by_cases hjl : j < h.length
        · have f1 : decide ((j : Int) < (h.length : Int)) = true := decide_eq_true (by omega)
          have f2 : decide (j < h.length) = true := decide_eq_true hjl
          cases hw : x.w with
          | false =>
            rw [hw] at h2
            clear hj hjl hd0
            have hv : overM h now lease x = false := by rw [HV.out, hw]; rfl
            have HNV := Lib.hid (show overdueM (l.take (k + 1)) h now lease = LO by rw [HNX.out, hv]; simp)
            clear hv
            go_wp2_with fail
            exact ⟨⟨k + 1, _, by omega, by go_num, rfl, by rw [HNV.out]; exact hO, hB⟩, by simp [intOf]; omega⟩
          | true =>
            rw [hw] at h2
            obtain ⟨b2, off2, eB, hbw2, hc2⟩ := HH.out (by omega)
            have hx2 := inIdx (cap := d) eB hjl
            have hat2 : inE.At V b2 (off2 + j * 1) h[j] := (hc2 j hjl).below hB hbw2
            have hcell : V.cell? ⟨b2, off2 + j, none⟩ = some (.int .i64 h[j]) := by
              have := inAt1 hat2
              rw [Nat.mul_one] at this
              exact this
            have hm := HHH.out h[j] (List.getElem_mem _)
            have hgd : h.getD x.d.toNat 0 = h[j] := by rw [hj, Int.toNat_natCast, List.getD_eq_getElem?_getD, List.getElem?_eq_getElem hjl]; rfl
            have HGD := Lib.hid hgd
            have HJ := Lib.hid hj
            have HJL := Lib.hid hjl
            generalize h[j] = hv at *
            have hs : IntKind.i64.wrap (now - hv) = now - hv := by rw [IntKind.wrap_i64]; omega
            clear hc2 eB hat2 hgd hj hm hjl hd0
            by_cases hls : lease < now - hv
            · have f3 : decide (lease < now - hv) = true := decide_eq_true hls
              have HVT := Lib.hid (show overM h now lease x = true by rw [HV.out, hw, HGD.out, f3, decide_eq_true (show 0 ≤ x.d ∧ x.d < h.length by have := HJ.out; have := HJL.out; omega)]; rfl)
              have HNV := Lib.hid (show overdueM (l.take (k + 1)) h now lease = LO ++ [(j : Int)] by rw [HNX.out, HVT.out, if_pos rfl, HJ.out])
              have hal2 := below_alloc (Below.refl V.heap.size V) (.cells #[.int .i64 (j : Int)] 3)
              have hO2 := hO.below hal2
              have hT2 : inE.Sl (V.alloc (.cells #[.int .i64 (j : Int)] 3)) (some ⟨V.heap.size, 0, none⟩) [(j : Int)] := (El.In.new (E := inE) V (j : Int) _ rfl).sl
              have hB2 := below_then hB hal2
              have hBs := hB2.size
              clear hal2 hO hls hE
              go_wp2_with (first | (at_builtin; refine El.wpList_app inInnT rfl _ _ rfl w.heap.size _ LO [(j : Int)] rfl hO2 (some ⟨V.heap.size, 0, none⟩) 1 1 rfl rfl hT2 (fun e => by cases e) (by have := HLE.out; rw [List.length_singleton]; omega) hBs ?_; intro v' w5 hO5 hg5 _) | fail)
              have hB5 := hB2.grown hg5 hB2.size (fun k e => (hO2.lt k e).1)
              go_wp2_with fail
              exact ⟨⟨k + 1, v', by omega, by go_num, rfl, by rw [HNV.out]; exact hO5, hB5⟩, by simp [intOf]; omega⟩
            · have f3 : decide (lease < now - hv) = false := decide_eq_false hls
              clear hls
              have hv : overM h now lease x = false := by rw [HV.out, hw, HGD.out, f3, Bool.and_false, Bool.and_false]
              have HNV := Lib.hid (show overdueM (l.take (k + 1)) h now lease = LO by rw [HNX.out, hv]; simp)
              clear hv
              go_wp2_with fail
              exact ⟨⟨k + 1, _, by omega, by go_num, rfl, by rw [HNV.out]; exact hO, hB⟩, by simp [intOf]; omega⟩
        · have f1 : decide ((j : Int) < (h.length : Int)) = false := decide_eq_false (by omega)
          have f2 : decide (j < h.length) = false := decide_eq_false hjl
          have HJ := Lib.hid hj
          have HJL := Lib.hid hjl
          clear hj hjl hd0
          cases hw : x.w with
          | false =>
            rw [hw] at h2
            have hv : overM h now lease x = false := by rw [HV.out, hw]; rfl
            have HNV := Lib.hid (show overdueM (l.take (k + 1)) h now lease = LO by rw [HNX.out, hv]; simp)
            clear hv
            go_wp2_with fail
            exact ⟨⟨k + 1, _, by omega, by go_num, rfl, by rw [HNV.out]; exact hO, hB⟩, by simp [intOf]; omega⟩
          | true =>
            rw [hw] at h2
            have hv : overM h now lease x = false := by rw [HV.out, hw, decide_eq_false (show ¬ (0 ≤ x.d ∧ x.d < h.length) by have := HJ.out; have := HJL.out; omega)]; rfl
            have HNV := Lib.hid (show overdueM (l.take (k + 1)) h now lease = LO by rw [HNX.out, hv]; simp)
            clear hv
            go_wp2_with fail
            exact ⟨⟨k + 1, _, by omega, by go_num, rfl, by rw [HNV.out]; exact hO, hB⟩, by simp [intOf]; omega⟩
      · have f0 : decide ((0 : Int) ≤ x.d) = false := decide_eq_false hd0
        have HD0 := Lib.hid hd0
        clear hd0
        cases hw : x.w with
        | false =>
          rw [hw] at h2
          have hv : overM h now lease x = false := by rw [HV.out, hw]; rfl
          have HNV := Lib.hid (show overdueM (l.take (k + 1)) h now lease = LO by rw [HNX.out, hv]; simp)
          clear hv
          go_wp2_with fail
          exact ⟨⟨k + 1, _, by omega, by go_num, rfl, by rw [HNV.out]; exact hO, hB⟩, by simp [intOf]; omega⟩
        | true =>
          rw [hw] at h2
          have hv : overM h now lease x = false := by rw [HV.out, hw, decide_eq_false (show ¬ (0 ≤ x.d ∧ x.d < h.length) by have := HD0.out; omega)]; rfl
          have HNV := Lib.hid (show overdueM (l.take (k + 1)) h now lease = LO by rw [HNX.out, hv]; simp)
          clear hv
          go_wp2_with fail
          exact ⟨⟨k + 1, _, by omega, by go_num, rfl, by rw [HNV.out]; exact hO, hB⟩, by simp [intOf]; omega⟩
    · obtain rfl : k = l.length := by omega
      rw [List.take_length] at hO
      obtain ⟨A', c', rfl, hS⟩ := SlV.own hO
      go_wp2_with fail
      go_ret
      exact ⟨A', c', rfl, hS, hB⟩
end Go.Proofs.Ytjjjpifdmgpnjaa

/- The program's members: rightCount, right. -/
namespace Go.Proofs.Ytjjjpifdmgpnjaa
open Go.RowKit Cod

def cntD (n : Int) : Bool := decide (0 ≤ n ∧ n ≤ 1099511627776)
set_option maxRecDepth 100000 in
theorem mbCount_any (n : Int) (w : World) : Calls Try.prog 49 #[.int .i64 n] w fun e w' => e = .returned (.bool (cntD n)) ∧ w = w' := by
  have hd : cntD n = (decide (0 ≤ n) && decide (n ≤ 1099511627776)) := by unfold cntD; simp
  rw [hd]
  generalize hv : (decide (0 ≤ n) && decide (n ≤ 1099511627776)) = v
  cases f1 : decide (0 ≤ n) with
  | false =>
    rw [f1, Bool.false_and] at hv
    subst hv
    go_enter Try.func49, Try.ntmps49
    go_wp2_with fail
    go_ret
    exact ⟨rfl, rfl⟩
  | true =>
    rw [f1, Bool.true_and] at hv
    go_enter Try.func49, Try.ntmps49
    go_wp2_with fail
    go_ret
    exact ⟨rfl, rfl⟩
theorem mbB_parts (x : Mb) : mbB x = (decide (x.d = x.r.d) && (rpB x.r && (decide (1 ≤ x.i) && (decide (x.i ≤ 1099511627776) && (cntD x.n && (cntD x.l && (cntD x.o && decide (x.f.size ≤ 65536)))))))) := by
  rw [Bool.eq_iff_iff, mbB_iff]
  unfold cntD
  simp only [Bool.and_eq_true, decide_eq_true_iff]
  constructor
  · intro h
    exact ⟨h.rd.symm, rpB_iff.2 h.r, h.i.1, h.i.2, h.n, h.l, h.o, h.f⟩
  · rintro ⟨h1, h2, h3, h4, h5, h6, h7, h8⟩
    have hr := rpB_iff.1 h2
    exact ⟨by rw [h1]; exact hr.d, ⟨h3, h4⟩, h5, h6, h7, h1.symm, h8, hr⟩
set_option maxRecDepth 100000 in
set_option maxHeartbeats 4000000 in
theorem mbRight1_any (x : Mb) (w : World) (hs : x.f.size ≤ 1000000) : Calls Try.prog 28 #[.agg #[.int .i64 x.d, .int .i64 x.i, .bool x.w, .int .i64 x.n, .int .i64 x.l, .int .i64 x.o, .int .i64 x.r.d, .int .i64 x.r.i, .int .i64 x.r.b, .int .i64 x.r.t, .int .i64 x.r.m, .int .i64 x.r.p, .int .i64 x.r.c, .int .i64 x.r.s, .int .i64 x.r.k, .string x.f]] w fun e w' => e = .returned (.bool (mbB x)) ∧ Below w.heap.size w w' := by
  have hP : mbE.In (w.alloc (.cells #[.int .i64 x.d, .int .i64 x.i, .bool x.w, .int .i64 x.n, .int .i64 x.l, .int .i64 x.o, .int .i64 x.r.d, .int .i64 x.r.i, .int .i64 x.r.b, .int .i64 x.r.t, .int .i64 x.r.m, .int .i64 x.r.p, .int .i64 x.r.c, .int .i64 x.r.s, .int .i64 x.r.k, .string x.f] 39)) w.heap.size x := El.In.new (E := mbE) w x _ rfl
  have hB := below_alloc (Below.refl w.heap.size w) (.cells #[.int .i64 x.d, .int .i64 x.i, .bool x.w, .int .i64 x.n, .int .i64 x.l, .int .i64 x.o, .int .i64 x.r.d, .int .i64 x.r.i, .int .i64 x.r.b, .int .i64 x.r.t, .int .i64 x.r.m, .int .i64 x.r.p, .int .i64 x.r.c, .int .i64 x.r.s, .int .i64 x.r.k, .string x.f] 39)
  have hv := mbB_parts x
  have CR := Lib.hid (fun wx => rpRight_any x.r wx)
  have CN := Lib.hid (fun wx => mbCount_any x.n wx)
  have CL := Lib.hid (fun wx => mbCount_any x.l wx)
  have CO := Lib.hid (fun wx => mbCount_any x.o wx)
  go_enter Try.func28, Try.ntmps28
  go_upto_region 1 with fail
  generalize w.alloc (.cells #[.int .i64 x.d, .int .i64 x.i, .bool x.w, .int .i64 x.n, .int .i64 x.l, .int .i64 x.o, .int .i64 x.r.d, .int .i64 x.r.i, .int .i64 x.r.b, .int .i64 x.r.t, .int .i64 x.r.m, .int .i64 x.r.p, .int .i64 x.r.c, .int .i64 x.r.s, .int .i64 x.r.k, .string x.f] 39) = W at *
  obtain ⟨n, hn⟩ : ∃ n, w.heap.size = n := ⟨_, rfl⟩
  rw [hn] at hP ⊢
  clear hn
  obtain ⟨p0, p1, p2, p3, p4, p5, p6, p7, p8, p9, p10, p11, p12, p13, p14, p15⟩ := mbIn16 hP
  cases f0 : decide (x.d = x.r.d) with
  | false =>
    rw [f0, Bool.false_and] at hv
    have g0 : (x.d == x.r.d) = false := f0
    have HV := Lib.hid hv
    clear hv
    go_wp2_with fail
    go_ret
    exact ⟨by rw [HV.out]; rfl, hB⟩
  | true =>
    rw [f0, Bool.true_and] at hv
    have g0 : (x.d == x.r.d) = true := f0
    cases f1 : rpB x.r with
    | false =>
      rw [f1, Bool.false_and] at hv
      rw [f1] at CR
      clear f1
      have HV := Lib.hid hv
      clear hv
      go_wp2_with fail
      refine (CR.out _).mono ?_
      rintro e w1 ⟨rfl, hb1⟩
      replace hP := hP.below hb1
      replace hB := below_then hB hb1
      clear hb1 CR p0 p1 p2 p3 p4 p5 p6 p7 p8 p9 p10 p11 p12 p13 p14 p15
      obtain ⟨p0, p1, p2, p3, p4, p5, p6, p7, p8, p9, p10, p11, p12, p13, p14, p15⟩ := mbIn16 hP
      go_wp2_with fail
      go_ret
      exact ⟨by rw [HV.out]; rfl, hB⟩
    | true =>
      rw [f1, Bool.true_and] at hv
      rw [f1] at CR
      clear f1
      cases f2 : decide (1 ≤ x.i) with
      | false =>
        rw [f2, Bool.false_and] at hv
        have HV := Lib.hid hv
        clear hv
        go_wp2_with fail
        refine (CR.out _).mono ?_
        rintro e w1 ⟨rfl, hb1⟩
        replace hP := hP.below hb1
        replace hB := below_then hB hb1
        clear hb1 CR p0 p1 p2 p3 p4 p5 p6 p7 p8 p9 p10 p11 p12 p13 p14 p15
        obtain ⟨p0, p1, p2, p3, p4, p5, p6, p7, p8, p9, p10, p11, p12, p13, p14, p15⟩ := mbIn16 hP
        go_wp2_with fail
        go_ret
        exact ⟨by rw [HV.out]; rfl, hB⟩
      | true =>
        rw [f2, Bool.true_and] at hv
        cases f3 : decide (x.i ≤ 1099511627776) with
        | false =>
          rw [f3, Bool.false_and] at hv
          have HV := Lib.hid hv
          clear hv
          go_wp2_with fail
          refine (CR.out _).mono ?_
          rintro e w1 ⟨rfl, hb1⟩
          replace hP := hP.below hb1
          replace hB := below_then hB hb1
          clear hb1 CR p0 p1 p2 p3 p4 p5 p6 p7 p8 p9 p10 p11 p12 p13 p14 p15
          obtain ⟨p0, p1, p2, p3, p4, p5, p6, p7, p8, p9, p10, p11, p12, p13, p14, p15⟩ := mbIn16 hP
          go_wp2_with fail
          go_ret
          exact ⟨by rw [HV.out]; rfl, hB⟩
        | true =>
          rw [f3, Bool.true_and] at hv
          cases f4 : cntD x.n with
          | false =>
            rw [f4, Bool.false_and] at hv
            rw [f4] at CN
            clear f4
            have HV := Lib.hid hv
            clear hv
            go_wp2_with fail
            refine (CR.out _).mono ?_
            rintro e w1 ⟨rfl, hb1⟩
            replace hP := hP.below hb1
            replace hB := below_then hB hb1
            clear hb1 CR p0 p1 p2 p3 p4 p5 p6 p7 p8 p9 p10 p11 p12 p13 p14 p15
            obtain ⟨p0, p1, p2, p3, p4, p5, p6, p7, p8, p9, p10, p11, p12, p13, p14, p15⟩ := mbIn16 hP
            go_wp2_with fail
            refine (CN.out _).mono ?_
            rintro e w2 ⟨rfl, rfl⟩
            go_wp2_with fail
            go_ret
            exact ⟨by rw [HV.out]; rfl, hB⟩
          | true =>
            rw [f4, Bool.true_and] at hv
            rw [f4] at CN
            clear f4
            cases f5 : cntD x.l with
            | false =>
              rw [f5, Bool.false_and] at hv
              rw [f5] at CL
              clear f5
              have HV := Lib.hid hv
              clear hv
              go_wp2_with fail
              refine (CR.out _).mono ?_
              rintro e w1 ⟨rfl, hb1⟩
              replace hP := hP.below hb1
              replace hB := below_then hB hb1
              clear hb1 CR p0 p1 p2 p3 p4 p5 p6 p7 p8 p9 p10 p11 p12 p13 p14 p15
              obtain ⟨p0, p1, p2, p3, p4, p5, p6, p7, p8, p9, p10, p11, p12, p13, p14, p15⟩ := mbIn16 hP
              go_wp2_with fail
              refine (CN.out _).mono ?_
              rintro e w2 ⟨rfl, rfl⟩
              go_wp2_with fail
              refine (CL.out _).mono ?_
              rintro e w2 ⟨rfl, rfl⟩
              go_wp2_with fail
              go_ret
              exact ⟨by rw [HV.out]; rfl, hB⟩
            | true =>
              rw [f5, Bool.true_and] at hv
              rw [f5] at CL
              clear f5
              cases f6 : cntD x.o with
              | false =>
                rw [f6, Bool.false_and] at hv
                rw [f6] at CO
                clear f6
                have HV := Lib.hid hv
                clear hv
                go_wp2_with fail
                refine (CR.out _).mono ?_
                rintro e w1 ⟨rfl, hb1⟩
                replace hP := hP.below hb1
                replace hB := below_then hB hb1
                clear hb1 CR p0 p1 p2 p3 p4 p5 p6 p7 p8 p9 p10 p11 p12 p13 p14 p15
                obtain ⟨p0, p1, p2, p3, p4, p5, p6, p7, p8, p9, p10, p11, p12, p13, p14, p15⟩ := mbIn16 hP
                go_wp2_with fail
                refine (CN.out _).mono ?_
                rintro e w2 ⟨rfl, rfl⟩
                go_wp2_with fail
                refine (CL.out _).mono ?_
                rintro e w2 ⟨rfl, rfl⟩
                go_wp2_with fail
                refine (CO.out _).mono ?_
                rintro e w2 ⟨rfl, rfl⟩
                go_wp2_with fail
                go_ret
                exact ⟨by rw [HV.out]; rfl, hB⟩
              | true =>
                rw [f6, Bool.true_and] at hv
                rw [f6] at CO
                clear f6
                cases f7 : decide (x.f.size ≤ 65536) with
                | false =>
                  rw [f7] at hv
                  have g7 : decide ((x.f.size : Int) ≤ 65536) = false := by rw [← f7]; exact decide_eq_decide.2 (by omega)
                  have HV := Lib.hid hv
                  clear hv
                  go_wp2_with fail
                  refine (CR.out _).mono ?_
                  rintro e w1 ⟨rfl, hb1⟩
                  replace hP := hP.below hb1
                  replace hB := below_then hB hb1
                  clear hb1 CR p0 p1 p2 p3 p4 p5 p6 p7 p8 p9 p10 p11 p12 p13 p14 p15
                  obtain ⟨p0, p1, p2, p3, p4, p5, p6, p7, p8, p9, p10, p11, p12, p13, p14, p15⟩ := mbIn16 hP
                  go_wp2_with fail
                  refine (CN.out _).mono ?_
                  rintro e w2 ⟨rfl, rfl⟩
                  go_wp2_with fail
                  refine (CL.out _).mono ?_
                  rintro e w2 ⟨rfl, rfl⟩
                  go_wp2_with fail
                  refine (CO.out _).mono ?_
                  rintro e w2 ⟨rfl, rfl⟩
                  go_wp2_with fail
                  go_ret
                  exact ⟨by rw [HV.out]; rfl, hB⟩
                | true =>
                  rw [f7] at hv
                  have g7 : decide ((x.f.size : Int) ≤ 65536) = true := by rw [← f7]; exact decide_eq_decide.2 (by omega)
                  have HV := Lib.hid hv
                  clear hv
                  go_wp2_with fail
                  refine (CR.out _).mono ?_
                  rintro e w1 ⟨rfl, hb1⟩
                  replace hP := hP.below hb1
                  replace hB := below_then hB hb1
                  clear hb1 CR p0 p1 p2 p3 p4 p5 p6 p7 p8 p9 p10 p11 p12 p13 p14 p15
                  obtain ⟨p0, p1, p2, p3, p4, p5, p6, p7, p8, p9, p10, p11, p12, p13, p14, p15⟩ := mbIn16 hP
                  go_wp2_with fail
                  refine (CN.out _).mono ?_
                  rintro e w2 ⟨rfl, rfl⟩
                  go_wp2_with fail
                  refine (CL.out _).mono ?_
                  rintro e w2 ⟨rfl, rfl⟩
                  go_wp2_with fail
                  refine (CO.out _).mono ?_
                  rintro e w2 ⟨rfl, rfl⟩
                  go_wp2_with fail
                  go_ret
                  exact ⟨by rw [HV.out]; rfl, hB⟩
end Go.Proofs.Ytjjjpifdmgpnjaa

/- The program's members: Right. -/
namespace Go.Proofs.Ytjjjpifdmgpnjaa
open Go.RowKit Cod

set_option maxRecDepth 100000 in
set_option maxHeartbeats 8000000 in
theorem mbRight_any (A : Option Addr) (c : Nat) (l : List Mb) (w : World) (hl : l.length ≤ 1000) (hT : mbE.Sl w A l) (hw : ∀ m ∈ l, m.f.size ≤ 1000000) : Calls Try.prog 10 #[.slice A l.length c] w fun e w' => e = .returned (.bool (mbsB l)) ∧ Below w.heap.size w w' := by
  by_cases h8 : l.length ≤ 8
  · have f1 : decide ((8 : Int) < (l.length : Int)) = false := decide_eq_false (by omega)
    have f2 : decide (8 < l.length) = false := decide_eq_false (by omega)
    have hB := Below.refl w.heap.size w
    have HT := Lib.hid hT
    have HW := Lib.hid hw
    have HL := Lib.hid h8
    have HC0 := Lib.hid (fun (j : Nat) (h : j < l.length) (hj : j < 0) => (absurd hj (Nat.not_lt_zero j) : mbB l[j] = true ∧ (0 < j → (l.getD (j - 1) zeroMb).d < l[j].d)))
    clear hT hw h8
    go_enter Try.func10, Try.ntmps10
    go_wp2_with fail
    go_loopw [10] (fun y wr => ∃ k : Nat, k ≤ l.length ∧ y = .int .i64 k ∧ Hid (goodM l k) ∧ Below w.heap.size w wr) (fun y _ => l.length - (intOf y).toNat)
    case atStart => exact ⟨0, Nat.zero_le _, rfl, HC0, hB⟩
    case round =>
      clear HC0 hB f1 f2
      obtain ⟨k, hk, rfl, HK, hB⟩ := hrel
      by_cases hkl : k < l.length
      · obtain ⟨b, off, eA, hbw, hc⟩ := HT.out (by omega)
        have hx := mbIdx (cap := c) eA hkl
        have hat : mbE.At wr b (off + k * 16) l[k] := (hc k hkl).below hB hbw
        have HPV := Lib.hid (show 0 < k → mbE.At wr b (off + (k - 1) * 16) (l.getD (k - 1) zeroMb) from fun h0 => by
          have h := (hc (k - 1) (by omega)).below hB hbw
          rw [List.getD_eq_getElem?_getD, List.getElem?_eq_getElem (show k - 1 < l.length by omega)]
          exact h)
        have HX1 := Lib.hid (show 0 < k → _ from fun h0 => mbIdx (cap := c) (k := k - 1) (len := l.length) eA (by omega))
        have hsz := HW.out l[k] (List.getElem_mem _)
        have HNX := Lib.hid (fun h1 h2 => goodM_next HK.out hkl h1 h2)
        have HOUT := Lib.hid (mbsB_out hkl)
        generalize l[k] = x at *
        generalize l.getD (k - 1) zeroMb = y at *
        have HRR := Lib.hid (fun wx => mbRight1_any x wx hsz)
        generalize mbB x = bx at *
        have hE : mbE.In (wr.alloc (.cells #[.int .i64 x.d, .int .i64 x.i, .bool x.w, .int .i64 x.n, .int .i64 x.l, .int .i64 x.o, .int .i64 x.r.d, .int .i64 x.r.i, .int .i64 x.r.b, .int .i64 x.r.t, .int .i64 x.r.m, .int .i64 x.r.p, .int .i64 x.r.c, .int .i64 x.r.s, .int .i64 x.r.k, .string x.f] 39)) wr.heap.size x := El.In.new (E := mbE) wr x _ rfl
        have hal := below_alloc (Below.refl wr.heap.size wr) (.cells #[.int .i64 x.d, .int .i64 x.i, .bool x.w, .int .i64 x.n, .int .i64 x.l, .int .i64 x.o, .int .i64 x.r.d, .int .i64 x.r.i, .int .i64 x.r.b, .int .i64 x.r.t, .int .i64 x.r.m, .int .i64 x.r.p, .int .i64 x.r.c, .int .i64 x.r.s, .int .i64 x.r.k, .string x.f] 39)
        have hbr := Nat.lt_of_lt_of_le hbw hB.size
        replace HPV := Lib.hid (fun h0 => ((mbAt16 ((HPV.out h0).below hal hbr)).1))
        replace hB := below_then hB hal
        clear hc eA hal hbr hsz
        go_upto_region 6 with (first | (refine El.load mbRow rfl _ rfl b (off + k * 16) rfl x hat #[.int .i64 x.d, .int .i64 x.i, .bool x.w, .int .i64 x.n, .int .i64 x.l, .int .i64 x.o, .int .i64 x.r.d, .int .i64 x.r.i, .int .i64 x.r.b, .int .i64 x.r.t, .int .i64 x.r.m, .int .i64 x.r.p, .int .i64 x.r.c, .int .i64 x.r.s, .int .i64 x.r.k, .string x.f] rfl ?_) | fail)
        clear hat hbw
        generalize wr.alloc (.cells #[.int .i64 x.d, .int .i64 x.i, .bool x.w, .int .i64 x.n, .int .i64 x.l, .int .i64 x.o, .int .i64 x.r.d, .int .i64 x.r.i, .int .i64 x.r.b, .int .i64 x.r.t, .int .i64 x.r.m, .int .i64 x.r.p, .int .i64 x.r.c, .int .i64 x.r.s, .int .i64 x.r.k, .string x.f] 39) = V at *
        generalize wr.heap.size = n at *
        go_cut [32] from 15 to 33 (fun v wx => v = .bool (!(bx && (decide (k = 0) || decide (y.d < x.d)))) ∧ Below w.heap.size w wx)
        case first =>
          refine wp_region_quiet_below (by kernel_rfl) (by as_aux_lemma => kernel_rfl) ?_
          obtain ⟨g0, g1, g2, g3, g4, g5, g6, g7, g8, g9, g10, g11, g12, g13, g14, g15⟩ := mbIn16 hE
          have k0 := cell_regrown g0
          have k1 := cell_regrown g1
          have k2 := cell_regrown g2
          have k3 := cell_regrown g3
          have k4 := cell_regrown g4
          have k5 := cell_regrown g5
          have k6 := cell_regrown g6
          have k7 := cell_regrown g7
          have k8 := cell_regrown g8
          have k9 := cell_regrown g9
          have k10 := cell_regrown g10
          have k11 := cell_regrown g11
          have k12 := cell_regrown g12
          have k13 := cell_regrown g13
          have k14 := cell_regrown g14
          have k15 := cell_regrown g15
          clear g0 g1 g2 g3 g4 g5 g6 g7 g8 g9 g10 g11 g12 g13 g14 g15 hE HNX HOUT
          have d1 : ∀ d os, Calls Try.prog 28 #[.agg #[.int .i64 x.d, .int .i64 x.i, .bool x.w, .int .i64 x.n, .int .i64 x.l, .int .i64 x.o, .int .i64 x.r.d, .int .i64 x.r.i, .int .i64 x.r.b, .int .i64 x.r.t, .int .i64 x.r.m, .int .i64 x.r.p, .int .i64 x.r.c, .int .i64 x.r.s, .int .i64 x.r.k, .string x.f]] (Sort.grow (redrawn V d) os) fun e w'' => e = .returned (.bool bx) ∧ ∃ p : Regrown, w'' = Sort.grow (redrawn V p.d) p.os := fun d os => Calls.regrown_of (HRR.out _)
          clear HRR
          go_big_quiet_step ((with_reducible (exact d1 _ _)))
          clear k1 k2 k3 k4 k5 k6 k7 k8 k9 k10 k11 k12 k13 k14 k15
          cases bx with
          | false =>
            have HV := Lib.hid (show (!(false && (decide (k = 0) || decide (y.d < x.d)))) = true from rfl)
            repeat (go_big_quiet_step ((with_reducible (exact d1 _ _))))
            refine wpQuiet_nil ?_
            intro _ hw'
            obtain ⟨⟨dq, osq⟩, hw''⟩ := hw'
            subst hw''
            go_wp2_with fail
            go_meet
            exact ⟨by rw [HV.out], below_then hB (below_regrown V dq osq)⟩
          | true =>
            by_cases hk0 : k = 0
            · have e1 : decide ((0 : Int) < (k : Int)) = false := decide_eq_false (by omega)
              have e2 : decide (0 < k) = false := decide_eq_false (by omega)
              have HV := Lib.hid (show (!(true && (decide (k = 0) || decide (y.d < x.d)))) = false from by rw [decide_eq_true hk0]; rfl)
              clear hk0
              repeat (go_big_quiet_step ((with_reducible (exact d1 _ _))))
              refine wpQuiet_nil ?_
              intro _ hw'
              obtain ⟨⟨dq, osq⟩, hw''⟩ := hw'
              subst hw''
              go_wp2_with fail
              go_meet
              exact ⟨by rw [HV.out], below_then hB (below_regrown V dq osq)⟩
            · have e1 : decide ((0 : Int) < (k : Int)) = true := decide_eq_true (by omega)
              have e2 : decide (0 < k) = true := decide_eq_true (by omega)
              have e3 : IntKind.i64.wrap ((k : Int) - 1) = ((k - 1 : Nat) : Int) := by rw [IntKind.wrap_i64]; omega
              have hx1 := HX1.out (by omega)
              have kp := cell_regrown (HPV.out (by omega))
              by_cases hp : x.d ≤ y.d
              · have e4 : decide (x.d ≤ y.d) = true := decide_eq_true hp
                have HV := Lib.hid (show (!(true && (decide (k = 0) || decide (y.d < x.d)))) = true from by rw [decide_eq_false hk0, decide_eq_false (show ¬ y.d < x.d by omega)]; rfl)
                clear hk0 hp
                repeat (go_big_quiet_step ((with_reducible (exact d1 _ _))))
                refine wpQuiet_nil ?_
                intro _ hw'
                obtain ⟨⟨dq, osq⟩, hw''⟩ := hw'
                subst hw''
                go_wp2_with fail
                go_meet
                exact ⟨by rw [HV.out], below_then hB (below_regrown V dq osq)⟩
              · have e4 : decide (x.d ≤ y.d) = false := decide_eq_false hp
                have HV := Lib.hid (show (!(true && (decide (k = 0) || decide (y.d < x.d)))) = false from by rw [decide_eq_false hk0, decide_eq_true (show y.d < x.d by omega)]; rfl)
                clear hk0 hp
                repeat (go_big_quiet_step ((with_reducible (exact d1 _ _))))
                refine wpQuiet_nil ?_
                intro _ hw'
                obtain ⟨⟨dq, osq⟩, hw''⟩ := hw'
                subst hw''
                go_wp2_with fail
                go_meet
                exact ⟨by rw [HV.out], below_then hB (below_regrown V dq osq)⟩
        case rest =>
          obtain ⟨rfl, hB⟩ := hcut
          clear HRR hE HPV HX1
          as_aux_lemma =>
            cases hg : (bx && (decide (k = 0) || decide (y.d < x.d))) with
            | true =>
              rw [Bool.and_eq_true, Bool.or_eq_true, decide_eq_true_iff, decide_eq_true_iff] at hg
              have HN := Lib.hid (HNX.out hg.1 (fun h0 => by
                rcases hg.2 with h | h
                · omega
                · exact h))
              clear hg HNX HOUT
              go_wp2_with fail
              go_roundw
              case rel =>
                exact ⟨k + 1, by omega, by go_num, HN, hB⟩
              case measure => simp [intOf]; omega
            | false =>
              have HV := Lib.hid (HOUT.out (fun h => by
                rw [h.1, Bool.true_and, Bool.or_eq_false_iff, decide_eq_false_iff_not, decide_eq_false_iff_not] at hg
                exact hg.2 (h.2 (by omega))))
              clear hg HNX HOUT
              go_wp2_with fail
              go_ret
              exact ⟨by rw [HV.out]; rfl, hB⟩
      · obtain rfl : k = l.length := by omega
        have HV := Lib.hid (goodM_all HK.out HL.out)
        go_wp2_with fail
        go_ret
        exact ⟨by rw [HV.out]; rfl, hB⟩
  · have HV := Lib.hid (mbsB_long h8)
    have f1 : decide ((8 : Int) < (l.length : Int)) = true := decide_eq_true (by omega)
    have f2 : decide (8 < l.length) = true := decide_eq_true (by omega)
    clear h8
    go_enter Try.func10, Try.ntmps10
    go_wp2_with fail
    go_ret
    exact ⟨by rw [HV.out]; rfl, Below.refl _ _⟩
end Go.Proofs.Ytjjjpifdmgpnjaa

/- The program's members: Print. -/
namespace Go.Proofs.Ytjjjpifdmgpnjaa
open Go.RowKit Nam Cod

set_option maxRecDepth 100000 in
set_option maxHeartbeats 8000000 in
theorem mbPrint_any (A : Option Addr) (c : Nat) (l : List Mb) (w : World) (hl : l.length ≤ 1000) (hT : mbE.Sl w A l) (hw : ∀ m ∈ l, MbW m) (hz : (mbK.part l).size ≤ 1000000) : Calls Try.prog 18 #[.slice A l.length c] w fun e w' => e = .returned (.string (mbK.part l)) ∧ Below w.heap.size w w' := by
  have HT := Lib.hid hT
  have HW := Lib.hid hw
  have hbd := builder_new w
  have hB := below_alloc (Below.refl w.heap.size w) (.cells #[.pointer none, .slice none 0 0] 55)
  have hlt : w.heap.size < (w.alloc (.cells #[.pointer none, .slice none 0 0] 55)).heap.size := by rw [alloc_size]; omega
  unfold Kd.part at hz
  rw [ByteArray.size_append] at hz
  have C0 := Lib.hid (fun wx => num_any (l.length : Int) wx (by omega) (by omega))
  have HV := Lib.hid (show mbK.part l = bytesOf l.length ++ mbK.cat l from rfl)
  generalize bytesOf (l.length : Int) = N at *
  clear hT hw
  go_enter Try.func18, Try.ntmps18
  go_upto_region 2 with fail
  generalize w.alloc (.cells #[.pointer none, .slice none 0 0] 55) = W at *
  obtain ⟨nb, hnb⟩ : ∃ n, w.heap.size = n := ⟨_, rfl⟩
  have hwb : w.heap.size ≤ nb := by omega
  rw [hnb] at hbd hlt ⊢
  clear hnb
  go_wp2_with fail
  refine (C0.out _).mono ?_
  rintro e w1 ⟨rfl, hb1⟩
  replace hbd := builder_below hbd hb1
  replace hB := below_then hB hb1
  replace hlt := Nat.lt_of_lt_of_le hlt hb1.size
  clear hb1 C0
  go_wp2_with fail
  refine (wstr_any nb nb _ N _ hbd (by simp only [List.length_nil]; omega) (Nat.le_of_lt hlt)).mono ?_
  rintro e w2 ⟨rfl, hbd2, hN2, _⟩
  rw [List.nil_append] at hbd2
  replace hB := hB.trans (hN2.mono hwb)
  have hst : N = N ++ mbK.cat (l.take 0) := by rw [List.take_zero]; exact L_inj (by rw [L_app]; show L N = L N ++ L ⟨#[]⟩; simp [L])
  rw [hst] at hbd2
  clear hst hN2 hbd hlt
  go_wp2_with fail
  go_loopw [12] (fun i wr => ∃ k : Nat, k ≤ l.length ∧ i = .int .i64 k ∧ Lib.IsBuilder 55 5 nb nb (Lib.strCells (N ++ mbK.cat (l.take k))) wr ∧ Below w.heap.size w wr) (fun i _ => l.length - (intOf i).toNat)
  case atStart => exact ⟨0, Nat.zero_le _, rfl, hbd2, hB⟩
  case round =>
    clear hB hbd2
    obtain ⟨k, hk, rfl, hbd, hB⟩ := hrel
    have hlt : nb < wr.heap.size := by rcases hbd with h | h <;> exact h.lt
    by_cases hkl : k < l.length
    · obtain ⟨b, off, eA, hbw, hc⟩ := HT.out (by omega)
      have hx := mbIdx (cap := c) eA hkl
      have hat : mbE.At wr b (off + k * 16) l[k] := (hc k hkl).below hB hbw
      have hit := mbK.item_le l k hkl
      have HNX := Lib.hid (show N ++ mbK.cat (l.take (k + 1)) = N ++ mbK.cat (l.take k) ++ mbBytes l[k] by rw [mbK.cat_next l k hkl, ByteArray.append_assoc]; rfl)
      obtain ⟨i1, i2, i3, i4, i5, i6, i7⟩ := HW.out l[k] (List.getElem_mem _)
      have hbb : (mbK.b l[k]).size = (mbBytes l[k]).size := rfl
      generalize l[k] = x at *
      have hss : (N ++ mbK.cat (l.take k)).size = N.size + (mbK.cat (l.take k)).size := ByteArray.size_append
      generalize N ++ mbK.cat (l.take k) = Z at *
      have C1 := Lib.hid (fun wx => num_any x.d wx i1.1 i1.2)
      have C2 := Lib.hid (fun wx => num_any x.i wx i2.1 i2.2)
      have C3 := Lib.hid (fun wx => bit_any x.w wx)
      have C4 := Lib.hid (fun wx => num_any x.n wx i3.1 i3.2)
      have C5 := Lib.hid (fun wx => num_any x.l wx i4.1 i4.2)
      have C6 := Lib.hid (fun wx => num_any x.o wx i5.1 i5.2)
      have C7 := Lib.hid (fun wx => rpPrint_any x.r wx i6)
      have C8 := Lib.hid (fun wx => text_any x.f wx i7)
      have HX := Lib.hid (show mbBytes x = bytesOf x.d ++ bytesOf x.i ++ bitOf x.w ++ bytesOf x.n ++ bytesOf x.l ++ bytesOf x.o ++ rpBytes x.r ++ textOf x.f from rfl)
      have hzx : (mbBytes x).size = (bytesOf x.d).size + (bytesOf x.i).size + (bitOf x.w).size + (bytesOf x.n).size + (bytesOf x.l).size + (bytesOf x.o).size + (rpBytes x.r).size + (textOf x.f).size := by rw [HX.out]; simp only [ByteArray.size_append]
      generalize mbBytes x = B at *
      generalize bytesOf x.d = x1 at *
      generalize bytesOf x.i = x2 at *
      generalize bitOf x.w = x3 at *
      generalize bytesOf x.n = x4 at *
      generalize bytesOf x.l = x5 at *
      generalize bytesOf x.o = x6 at *
      generalize rpBytes x.r = x7 at *
      generalize textOf x.f = x8 at *
      have HNV := Lib.hid (show N ++ mbK.cat (l.take (k + 1)) = Z ++ (x1 ++ x2 ++ x3) ++ (x4 ++ x5 ++ x6) ++ x7 ++ x8 by rw [HNX.out, HX.out]; simp only [ByteArray.append_assoc])
      have y1 : ¬ 9223372036854775807 < x1.size + x2.size := by omega
      have y2 : ¬ 9223372036854775807 < x1.size + x2.size + x3.size := by omega
      have y3 : ¬ 9223372036854775807 < x4.size + x5.size := by omega
      have y4 : ¬ 9223372036854775807 < x4.size + x5.size + x6.size := by omega
      have hZ : Z.size ≤ 1000000 := by omega
      have u1 : x1.size ≤ 1000000 := by omega
      have u2 : x2.size ≤ 1000000 := by omega
      have u3 : x3.size ≤ 1000000 := by omega
      have u4 : x4.size ≤ 1000000 := by omega
      have u5 : x5.size ≤ 1000000 := by omega
      have u6 : x6.size ≤ 1000000 := by omega
      have u7 : x7.size ≤ 1000000 := by omega
      have u8 : x8.size ≤ 1000000 := by omega
      have hP : mbE.In (wr.alloc (.cells #[.int .i64 x.d, .int .i64 x.i, .bool x.w, .int .i64 x.n, .int .i64 x.l, .int .i64 x.o, .int .i64 x.r.d, .int .i64 x.r.i, .int .i64 x.r.b, .int .i64 x.r.t, .int .i64 x.r.m, .int .i64 x.r.p, .int .i64 x.r.c, .int .i64 x.r.s, .int .i64 x.r.k, .string x.f] 39)) wr.heap.size x := El.In.new (E := mbE) wr x _ rfl
      have hal := below_alloc (Below.refl wr.heap.size wr) (.cells #[.int .i64 x.d, .int .i64 x.i, .bool x.w, .int .i64 x.n, .int .i64 x.l, .int .i64 x.o, .int .i64 x.r.d, .int .i64 x.r.i, .int .i64 x.r.b, .int .i64 x.r.t, .int .i64 x.r.m, .int .i64 x.r.p, .int .i64 x.r.c, .int .i64 x.r.s, .int .i64 x.r.k, .string x.f] 39)
      have hne : wr.heap.size ≠ nb := by omega
      replace hB := below_then hB hal
      replace hbd := builder_below hbd hal
      replace hlt := Nat.lt_of_lt_of_le hlt hal.size
      clear hal hc eA i1 i2 i3 i4 i5 i6 i7 hit hss hzx hbb HNX HX
      go_upto_region 6 with (first | (refine El.load mbRow rfl _ rfl b (off + k * 16) rfl x hat #[.int .i64 x.d, .int .i64 x.i, .bool x.w, .int .i64 x.n, .int .i64 x.l, .int .i64 x.o, .int .i64 x.r.d, .int .i64 x.r.i, .int .i64 x.r.b, .int .i64 x.r.t, .int .i64 x.r.m, .int .i64 x.r.p, .int .i64 x.r.c, .int .i64 x.r.s, .int .i64 x.r.k, .string x.f] rfl ?_) | fail)
      clear hat hx hbw
      generalize wr.alloc (.cells #[.int .i64 x.d, .int .i64 x.i, .bool x.w, .int .i64 x.n, .int .i64 x.l, .int .i64 x.o, .int .i64 x.r.d, .int .i64 x.r.i, .int .i64 x.r.b, .int .i64 x.r.t, .int .i64 x.r.m, .int .i64 x.r.p, .int .i64 x.r.c, .int .i64 x.r.s, .int .i64 x.r.k, .string x.f] 39) = V at *
      generalize wr.heap.size = n at *
      replace hP : mbE.In V.drew n x := hP
      replace hB := hB.drew
      replace hbd : Lib.IsBuilder 55 5 nb nb (Lib.strCells Z) V.drew := hbd
      replace hlt : nb < V.drew.heap.size := hlt
      have G := fun (wz : World) (h : mbE.In wz n x) => (show wz.cell? ⟨n, 0, none⟩ = some (.int .i64 x.d) ∧ wz.cell? ⟨n, 1, none⟩ = some (.int .i64 x.i) ∧ wz.cell? ⟨n, 2, none⟩ = some (.bool x.w) from by obtain ⟨p0, p1, p2, _⟩ := mbIn16 h; exact ⟨p0, p1, p2⟩)
      have G2 := Lib.hid (fun (wz : World) (h : mbE.In wz n x) => (show wz.cell? ⟨n, 3, none⟩ = some (.int .i64 x.n) ∧ wz.cell? ⟨n, 4, none⟩ = some (.int .i64 x.l) ∧ wz.cell? ⟨n, 5, none⟩ = some (.int .i64 x.o) from by obtain ⟨_, _, _, p0, p1, p2, _⟩ := mbIn16 h; exact ⟨p0, p1, p2⟩))
      go_region_held3 (fun w' => w'.cell? ⟨n, 0, none⟩ = some (.int .i64 x.d) ∧ w'.cell? ⟨n, 1, none⟩ = some (.int .i64 x.i) ∧ w'.cell? ⟨n, 2, none⟩ = some (.bool x.w)) (with_reducible exact G _ hP) (first | (go_at_call 36; (with_reducible first | refine (C1.out _).mono ?_ | refine (C2.out _).mono ?_); rintro e w3 ⟨rfl, hb3⟩; replace hP := hP.below hb3; replace hbd := builder_below hbd hb3; replace hB := below_then hB hb3; replace hlt := Nat.lt_of_lt_of_le hlt hb3.size) | (go_at_call 37; (with_reducible refine (C3.out _).mono ?_); rintro e w3 ⟨rfl, hb3⟩; replace hP := hP.below hb3; replace hbd := builder_below hbd hb3; replace hB := below_then hB hb3; replace hlt := Nat.lt_of_lt_of_le hlt hb3.size) | (go_at_call 35; (with_reducible refine (wstr_any _ _ _ _ _ hbd (by simp only [Lib.strCells_length, ByteArray.size_append]; omega) (Nat.le_of_lt hlt)).mono ?_); rintro e w4 ⟨rfl, hbd4, hN4, hr4⟩; replace hP : mbE.In w4 n x := (hr4 n _ _ _ hP hne (by decide)).trans hP; replace hB := hB.trans (hN4.mono hwb)))
      all_goals
        clear y1 y2 C1 C2 C3 G hr4 hN4 hbd hlt
        rw [← strCells_app] at hbd4
        have hY : (Z ++ (x1 ++ x2 ++ x3)).size ≤ 4000000 := by simp only [ByteArray.size_append]; omega
        generalize Z ++ (x1 ++ x2 ++ x3) = Y at *
        clear u1 u2 u3 hZ
        have hlt : nb < w4.heap.size := by rcases hbd4 with h | h <;> exact h.lt
        go_upto_region 7 with fail
        have G2 := G2.out
        replace hP : mbE.In w4.drew n x := hP
        replace hB := hB.drew
        have hbd : Lib.IsBuilder 55 5 nb nb (Lib.strCells Y) w4.drew := hbd4
        replace hlt : nb < w4.drew.heap.size := hlt
        clear hbd4
        go_region_held3 (fun w' => w'.cell? ⟨n, 3, none⟩ = some (.int .i64 x.n) ∧ w'.cell? ⟨n, 4, none⟩ = some (.int .i64 x.l) ∧ w'.cell? ⟨n, 5, none⟩ = some (.int .i64 x.o)) (with_reducible exact G2 _ hP) (first | (go_at_call 36; (with_reducible first | refine (C4.out _).mono ?_ | refine (C5.out _).mono ?_ | refine (C6.out _).mono ?_); rintro e w3 ⟨rfl, hb3⟩; replace hP := hP.below hb3; replace hbd := builder_below hbd hb3; replace hB := below_then hB hb3; replace hlt := Nat.lt_of_lt_of_le hlt hb3.size) | (go_at_call 35; (with_reducible refine (wstr_any _ _ _ _ _ hbd (by simp only [Lib.strCells_length, ByteArray.size_append]; omega) (Nat.le_of_lt hlt)).mono ?_); rintro e w5 ⟨rfl, hbd5, hN5, hr5⟩; replace hP : mbE.In w5 n x := (hr5 n _ _ _ hP hne (by decide)).trans hP; replace hB := hB.trans (hN5.mono hwb)))
        all_goals
          clear y3 y4 C4 C5 C6 G2 hr5 hN5 hbd hlt
          rw [← strCells_app] at hbd5
          have hY2 : (Y ++ (x4 ++ x5 ++ x6)).size ≤ 8000000 := by simp only [ByteArray.size_append]; omega
          generalize Y ++ (x4 ++ x5 ++ x6) = Y2 at *
          clear u4 u5 u6 hY
          have hlt : nb < w5.heap.size := by rcases hbd5 with h | h <;> exact h.lt
          obtain ⟨_, _, _, _, _, _, p6, p7, p8, p9, p10, p11, p12, p13, p14, _⟩ := mbIn16 hP
          go_wp2_with fail
          refine (C7.out _).mono ?_
          clear p6 p7 p8 p9 p10 p11 p12 p13 p14 C7
          rintro e w6 ⟨rfl, hb6⟩
          replace hP := hP.below hb6
          replace hbd5 := builder_below hbd5 hb6
          replace hB := below_then hB hb6
          replace hlt := Nat.lt_of_lt_of_le hlt hb6.size
          clear hb6
          go_wp2_with fail
          refine (wstr_any _ _ _ _ _ hbd5 (by simp only [Lib.strCells_length]; omega) (Nat.le_of_lt hlt)).mono ?_
          rintro e w7 ⟨rfl, hbd7, hN7, hr7⟩
          replace hP : mbE.In w7 n x := (hr7 n _ _ _ hP hne (by decide)).trans hP
          replace hB := hB.trans (hN7.mono hwb)
          rw [← strCells_app] at hbd7
          have hY3 : (Y2 ++ x7).size ≤ 9000000 := by simp only [ByteArray.size_append]; omega
          generalize Y2 ++ x7 = Y3 at *
          clear u7 hY2 hbd5 hlt hr7 hN7
          have hlt : nb < w7.heap.size := by rcases hbd7 with h | h <;> exact h.lt
          obtain ⟨_, _, _, _, _, _, _, _, _, _, _, _, _, _, _, p15⟩ := mbIn16 hP
          clear hP
          go_wp2_with fail
          refine (C8.out _).mono ?_
          clear p15 C8
          rintro e w8 ⟨rfl, hb8⟩
          replace hbd7 := builder_below hbd7 hb8
          replace hB := below_then hB hb8
          replace hlt := Nat.lt_of_lt_of_le hlt hb8.size
          clear hb8
          go_wp2_with fail
          refine (wstr_any _ _ _ _ _ hbd7 (by simp only [Lib.strCells_length]; omega) (Nat.le_of_lt hlt)).mono ?_
          rintro e w9 ⟨rfl, hbd9, hN9, _⟩
          replace hB := hB.trans (hN9.mono hwb)
          rw [← strCells_app, ← HNV.out] at hbd9
          clear u8 hY3 hbd7 hlt hN9
          go_wp2_with fail
          exact ⟨⟨k + 1, by omega, by go_num, hbd9, hB⟩, by simp [intOf]; omega⟩
    · obtain rfl : k = l.length := by omega
      rw [List.take_length] at hbd
      have C := builder_String_any nb nb (L (N ++ mbK.cat l)) wr hbd (Nat.le_of_lt hlt)
      have he : (⟨(L (N ++ mbK.cat l)).toArray⟩ : ByteArray) = mbK.part l := by rw [HV.out]; exact back_L _
      rw [he] at C
      have HC := Lib.hid C
      clear C he hbd
      go_wp2_with fail
      refine HC.out.mono ?_
      rintro r w5 ⟨rfl, hb5⟩
      go_wp2_with fail
      go_ret
      exact ⟨rfl, hB.trans (hb5.mono hwb)⟩
end Go.Proofs.Ytjjjpifdmgpnjaa

/- The program's members: Read; all calls. -/
namespace Go.Proofs.Ytjjjpifdmgpnjaa
open Go.RowKit Nam Cod

theorem by_ownD {a w w' : World} {b : Nat} {row : Option Nat} (h : a.grownBy w (some b)) (g : w.grownBy w' row) (hrow : ∀ k, row = some k → a.heap.size ≤ k) : a.grownBy w' (some b) :=
  ⟨g.os.trans h.os, g.tape.trans h.tape, g.output.trans h.output, Nat.le_trans h.size g.size, fun k hk hne =>
    (g.block k (Nat.lt_of_lt_of_le hk h.size) (fun e => by have := hrow k e.symm; omega)).trans (h.block k hk hne)⟩
def lenD : Value → Nat
  | .slice _ n _ => n
  | _ => 0
theorem own_lenD {α : Type} {E : El α} {w : World} {B : Nat} {v : Value} {l : List α} (h : E.Own w B v l) : lenD v = l.length := by
  obtain ⟨A, c, rfl, _⟩ := SlV.own h
  rfl
theorem mbW_of {x : Mb} (h : mbRaw x = true) : MbW x := by
  obtain ⟨g1, g2, g3, g4, g5, g6, g7⟩ := mbRaw_iff.1 h
  exact ⟨g1, g2, g3, g4, g5, g7.i64, by omega⟩
theorem isMbs_of {s : ByteArray} {p : Nat} {bad : Bool} {l : List Mb} {q : Nat} (h : mbK.isPart 8 s p bad = some (l, q)) : isMbs s p bad = if mbsB l = true then some (l, q) else none := by
  unfold isMbs
  rw [h, Option.bind_some]
theorem isMbs_none {s : ByteArray} {p : Nat} {bad : Bool} (h : mbK.isPart 8 s p bad = none) : isMbs s p bad = none := by
  unfold isMbs
  rw [h]; rfl
set_option maxRecDepth 100000 in
set_option maxHeartbeats 8000000 in
theorem mbRead_uni (w : World) (b p : Nat) (s : ByteArray) (bad : Bool) (hs : s.size ≤ 1000000) (hp : p ≤ s.size) (hr : Rd 43 w b s p bad) :
    Calls Try.prog 27 #[.pointer (some ⟨b, 0, none⟩)] w fun e w' => ∃ (A : Option Addr) (c : Nat) (l : List Mb) (q : Nat) (bad' : Bool), e = .returned (.slice A l.length c) ∧ SlV mbE w' A c l ∧ Rd 43 w' b s q bad' ∧ q ≤ s.size ∧ w.grownBy w' (some b) ∧ mbsStep s p bad l q bad' := by
  have hbw := hr.lt
  have hGw := by_below (Below.refl w.heap.size w) (some b)
  go_enter Try.func27, Try.ntmps27
  go_wp2_with fail
  refine (cntD_m 8 hs hp hr).mono ?_
  rintro e w1 ⟨n, q0, b0, rfl, hnm, hR, hq0, hg, st⟩
  have HS := Lib.hid (pAt.start (K := mbK) st)
  replace hGw := by_trans hGw hg
  have HNM := Lib.hid hnm
  clear hr hg st hnm
  go_wp2_with fail
  go_loopw [4] (fun x wr => ∃ (v : Value) (l : List Mb) (q : Nat) (bd : Bool), x = v ∧ mbE.Own wr w.heap.size v l ∧ Hid (l.length ≤ n) ∧ Rd 43 wr b s q bd ∧ q ≤ s.size ∧ w.grownBy wr (some b) ∧ Hid (pAt mbK 8 s p bad n l q bd)) (fun x _ => n - lenD x)
  case atStart => exact ⟨_, [], q0, b0, rfl, El.Own.nil w1 w.heap.size, Lib.hid (Nat.zero_le _), hR, hq0, hGw, HS⟩
  case round =>
    clear hR hGw HS hq0
    obtain ⟨v, l, q, bd, rfl, hO, hl, hR, hq, hG, HS⟩ := hrel
    have hlv := own_lenD hO
    obtain ⟨A, c, rfl, hS⟩ := SlV.own hO
    obtain ⟨r0, r1, r2⟩ := hR.cells
    cases bd
    · by_cases hlt : l.length < n
      · have HLE := Lib.hid (show l.length + 1 ≤ 8 by have := HNM.out; omega)
        have f5 : decide ((l.length : Int) < (n : Int)) = true := decide_eq_true (by omega)
        have f6 : decide (l.length < n) = true := decide_eq_true hlt
        have CR := mbRead1_uni hs hq hR
        have HLT := Lib.hid hlt
        clear hS hlv hlt
        go_wp2_with fail
        refine CR.mono ?_
        clear CR hR r0 r1 r2 f5 f6
        rintro e w3 ⟨x, q2, b2, rfl, hR, hq2, hg3, hst⟩
        have HN := Lib.hid (HS.out.next HLT.out hst)
        replace hO := hO.kept hg3 (Or.inr (fun e => by have := (hO.lt b e).1; omega))
        replace hG := by_trans hG hg3
        have hb4 := below_alloc (Below.refl _ w3) (.cells #[.int .i64 x.d, .int .i64 x.i, .bool x.w, .int .i64 x.n, .int .i64 x.l, .int .i64 x.o, .int .i64 x.r.d, .int .i64 x.r.i, .int .i64 x.r.b, .int .i64 x.r.t, .int .i64 x.r.m, .int .i64 x.r.p, .int .i64 x.r.c, .int .i64 x.r.s, .int .i64 x.r.k, .string x.f] 39)
        have hE : mbE.Sl (w3.alloc (.cells #[.int .i64 x.d, .int .i64 x.i, .bool x.w, .int .i64 x.n, .int .i64 x.l, .int .i64 x.o, .int .i64 x.r.d, .int .i64 x.r.i, .int .i64 x.r.b, .int .i64 x.r.t, .int .i64 x.r.m, .int .i64 x.r.p, .int .i64 x.r.c, .int .i64 x.r.s, .int .i64 x.r.k, .string x.f] 39)) (some ⟨w3.heap.size, 0, none⟩) [x] := (El.In.new (E := mbE) w3 x _ rfl).sl
        replace hO := hO.below hb4
        replace hR := hR.below hb4
        replace hG := by_trans hG (by_below hb4 _)
        have hB := hG.size
        clear hg3 hb4 hst
        go_wp2_with (at_builtin; refine El.wpList_app mbInn rfl _ _ rfl w.heap.size _ l [x] rfl hO (some ⟨w3.heap.size, 0, none⟩) 1 1 rfl rfl hE (fun e => by cases e) (by have := HLE.out; rw [List.length_singleton]; omega) hB ?_; intro v' w5 hO5 hg5 _)
        replace hR := hR.keep hg5 (fun e => by have := (hO.lt b e.symm).1; omega)
        replace hG := by_ownD hG hg5 (fun k e => (hO.lt k e).1)
        have hlv5 := own_lenD hO5
        rw [List.length_append, List.length_singleton] at hlv5
        go_wp2
        go_roundw
        case rel => exact ⟨v', l ++ [x], q2, b2, rfl, hO5, Lib.hid (by rw [List.length_append, List.length_singleton]; have := HLT.out; omega), hR, hq2, hG, HN⟩
        case measure =>
          have h1 := HLT.out
          show n - lenD v' < n - l.length
          omega
      · have HP := Lib.hid (HS.out.good hlt hl.out)
        have f5 : decide ((l.length : Int) < (n : Int)) = false := decide_eq_false (by omega)
        have f6 : decide (l.length < n) = false := decide_eq_false hlt
        have hpart : mbK.isPart 8 s p bad = some (l, q) := by
          rcases HP.out with ⟨h, _⟩ | ⟨_, h⟩
          · exact h
          · cases h
        have hraw := (mbK.part_bytes hpart).2.1
        have hms := isMbs_of hpart
        have CR := Lib.hid (mbRight_any A c l wr (by have := HNM.out; have := hl.out; omega) hS.1 (fun m hm => (mbW_of (hraw m hm)).f))
        clear hlv hlt hpart hraw HP HS
        cases hN : mbsB l
        · rw [hN] at CR
          rw [hN, if_neg (by decide)] at hms
          have HG := Lib.hid hms
          clear hms hN hS
          go_wp2_with fail
          refine CR.out.mono ?_
          clear CR r0 r1 r2
          rintro r w6 ⟨rfl, hb6⟩
          replace hR := hR.below hb6
          replace hG := by_trans hG (by_below hb6 _)
          obtain ⟨r0, r1, r2⟩ := hR.cells
          clear hb6
          have hR2 := hR.setBad
          have hG2 := by_set hG 2 (.bool true)
          have rf := hR.frozen
          clear hR hG hO
          go_wp2_with fail
          go_ret
          exact ⟨none, 0, [], q, true, rfl, SlV.nil _ _, hR2, hq, hG2, Or.inr ⟨HG.out, rfl, rfl⟩⟩
        · rw [hN] at CR
          rw [hN, if_pos rfl] at hms
          have HG := Lib.hid hms
          clear hms hN
          go_wp2_with fail
          refine CR.out.mono ?_
          clear CR r0 r1 r2
          rintro r w6 ⟨rfl, hb6⟩
          replace hR := hR.below hb6
          replace hG := by_trans hG (by_below hb6 _)
          replace hS := SlV.below hS hb6
          clear hb6 hO
          go_wp2_with fail
          go_ret
          exact ⟨A, c, l, q, false, rfl, hS, hR, hq, hG, Or.inl ⟨HG.out, rfl⟩⟩
    · have HG := Lib.hid (isMbs_none (by
        rcases HS.out.ill with ⟨_, h⟩ | ⟨h, _⟩
        · cases h
        · exact h))
      clear hS HS
      by_cases hlt : l.length < n
      · have f5 : decide ((l.length : Int) < (n : Int)) = true := decide_eq_true (by omega)
        have f6 : decide (l.length < n) = true := decide_eq_true hlt
        clear hlv hlt
        have hR2 := hR.setBad
        have hG2 := by_set hG 2 (.bool true)
        have rf := hR.frozen
        clear hR hG hO
        go_wp2_with fail
        go_ret
        exact ⟨none, 0, [], q, true, rfl, SlV.nil _ _, hR2, hq, hG2, Or.inr ⟨HG.out, rfl, rfl⟩⟩
      · have f5 : decide ((l.length : Int) < (n : Int)) = false := decide_eq_false (by omega)
        have f6 : decide (l.length < n) = false := decide_eq_false hlt
        clear hlv hlt
        have hR2 := hR.setBad
        have hG2 := by_set hG 2 (.bool true)
        have rf := hR.frozen
        clear hR hG hO
        go_wp2_with fail
        go_ret
        exact ⟨none, 0, [], q, true, rfl, SlV.nil _ _, hR2, hq, hG2, Or.inr ⟨HG.out, rfl, rfl⟩⟩

theorem rosterCalls : RosterCalls where
  new A c l w hl hT := mbNew_any A c l w hl hT.1
  find A c l d w hl hT := mbFind_any A c l d w hl hT.1
  put A c l m w hl hT := mbPut_any A c l m w hl hT
  stable A c l pos w hl hT := mbStable_any A c l pos w hl hT.1
  counter A c l clock lowest w hl hT h1 h2 := mbCounter_any A c l clock lowest w hl hT.1 h1 h2
  overdue A B c d l h now lease w hl hlh hT hH hh hn := mbOverdue_any A B c d l h now lease w hl hlh hT.1 hH.1 hh hn
  right A c l w hl hT hw := mbRight_any A c l w hl hT.1 (fun m hm => (hw m hm).f)
  print A c l w hl hT hw hz := mbPrint_any A c l w hl hT.1 hw hz
  read w b p s bad hs hp hr := mbRead_uni w b p s bad hs hp hr
end Go.Proofs.Ytjjjpifdmgpnjaa
