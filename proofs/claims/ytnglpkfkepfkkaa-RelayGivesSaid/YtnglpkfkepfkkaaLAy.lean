/- The law RelayGives: each gift that a relay has goes to the kid that it is for, or that is above it, alone; none that isn't wanted any more. No condition. -/
import Derived.Test.YtnglpkfkepfkkaaB10
import Derived.BigQuiet
import Derived.Deep.QuietTactic
/- The law RelayGives. -/
namespace Go.Proofs.Ytnglpkfkepfkkaa
open Go.RowKit Nam Cod Pln

/-- What goes to a kid. -/
def givK (gs : List Gf) (k : Int) : List Gf := gs.filter fun g => belowU P19.u g.d k
theorem below19_at {d : Int} (h : d = 2 ∨ d = 3) (k : Int) (hk : k = 2 ∨ k = 3) : belowU P19.u d k = decide (d = k) := by
  rcases h with rfl | rfl <;> rcases hk with rfl | rfl <;> rfl
theorem givK_d {n : Nat} {x : Rlv} (h : RlR P19 0 n x) {k : Int} (hk : k = 2 ∨ k = 3) : ∀ g ∈ givK x.gs k, g.d = k ∧ g ∈ x.gs := fun g hg => by
  obtain ⟨h1, h2⟩ := List.mem_filter.1 hg
  obtain ⟨_, g2, g3, _⟩ := h.gs.2 g h1
  rw [node19 h] at g2 g3
  rw [below19_at (below19 g3 g2) k hk] at h2
  exact ⟨of_decide_eq_true h2, h1⟩
theorem split19 : ∀ (l : List Gf), (∀ g ∈ l, g.d = 2 ∨ g.d = 3) → (givK l 2).length + (givK l 3).length = l.length
  | [], _ => rfl
  | g :: l, h => by
    have ih := split19 l fun y hy => h y (List.mem_cons_of_mem _ hy)
    unfold givK at ih ⊢
    rw [List.filter_cons, List.filter_cons]
    have hg := h g (List.mem_cons_self ..)
    rw [below19_at hg 2 (Or.inl rfl), below19_at hg 3 (Or.inr rfl)]
    rcases hg with hg | hg
    · rw [hg]
      simp only [decide_true, if_true, show decide ((2 : Int) = 3) = false from rfl, Bool.false_eq_true, if_false, List.length_cons]
      omega
    · rw [hg]
      simp only [decide_true, if_true, show decide ((3 : Int) = 2) = false from rfl, Bool.false_eq_true, if_false, List.length_cons]
      omega
theorem gives19_v {n : Nat} {x : Rlv} (h : RlR P19 0 n x) : (givK x.gs 2).length + (givK x.gs 3).length = x.gs.length ∧ x.gs.length ≤ 2 := by
  have hd : ∀ g ∈ x.gs, g.d = 2 ∨ g.d = 3 := fun g hg => by
    obtain ⟨_, g2, g3, _⟩ := h.gs.2 g hg
    rw [node19 h] at g2 g3
    exact below19 g3 g2
  refine ⟨split19 x.gs hd, ?_⟩
  have := ris_lenG 4 x.gs 2 h.gs.1 (fun g hg => by have := hd g hg; omega) (fun g hg => by have := hd g hg; omega) (by omega)
  omega
theorem want19 {g : Gf} {rs : List Rp} (h : wantedG g rs = true) : ∀ r ∈ rs, ¬ (r.d = g.d ∧ (g.i < r.i ∨ (r.i = g.i ∧ r.m = 1))) := fun r hr hc => by
  unfold wantedG at h
  rw [Bool.not_eq_true', List.any_eq_false] at h
  have h1 := h r hr
  apply h1
  unfold outG
  rcases hc with ⟨h2, h3 | ⟨h3, h4⟩⟩
  · rw [decide_eq_true h2, decide_eq_true h3]; rfl
  · rw [decide_eq_true h2, decide_eq_true h3, decide_eq_true h4]; simp
theorem two_of {α : Type} : ∀ {l : List α}, l.length = 2 → ∃ a b, l = [a, b]
  | [a, b], _ => ⟨a, b, rfl⟩
  | [], h => by cases h
  | [_], h => by cases h
  | _ :: _ :: _ :: t, h => by simp at h
theorem three_of {α : Type} : ∀ {l : List α}, l.length = 3 → ∃ a b c, l = [a, b, c]
  | [a, b, c], _ => ⟨a, b, c, rfl⟩
  | [], h => by cases h
  | [_], h => by cases h
  | [_, _], h => by cases h
  | _ :: _ :: _ :: _ :: t, h => by simp at h
theorem frames19 {n : Nat} {x : Rlv} (h : RlR P19 0 n x) {L : List Fw} (hL : L.map Fw.x = framesR P19 0 x) : ∃ F0 F1 F2, L = [F0, F1, F2] ∧ F0.x.gs = [] ∧ (F1.x.b = 2 ∧ F1.x.gs = givK x.gs 2) ∧ (F2.x.b = 3 ∧ F2.x.gs = givK x.gs 3) := by
  have hk := kids19 h
  obtain ⟨k2, k3, hks⟩ := two_of (show x.ks.length = 2 by
    have := congrArg List.length hk
    rw [List.length_map] at this; exact this)
  rw [hks] at hk
  have e2 : k2.n = 2 := by
    have h2 := congrArg (·[0]?) hk
    simpa using h2
  have e3 : k3.n = 3 := by
    have h2 := congrArg (·[1]?) hk
    simpa using h2
  unfold framesR at hL
  rw [hks] at hL
  have hlen : L.length = 3 := by
    have := congrArg List.length hL
    rw [List.length_map] at this; exact this
  obtain ⟨F0, F1, F2, rfl⟩ := three_of hlen
  have h0 : F0.x = upF P19 0 x := by
    have h2 := congrArg (·[0]?) hL
    simpa using h2
  have h1 : F1.x = downF P19 x k2 (P19.r - x.q.os.length) x.gs := by
    have h2 := congrArg (·[1]?) hL
    simpa using h2
  have h2 : F2.x = downF P19 x k3 (P19.r - x.q.os.length) x.gs := by
    have h2 := congrArg (·[2]?) hL
    simpa using h2
  refine ⟨F0, F1, F2, rfl, by rw [h0]; rfl, ⟨by rw [h1]; exact e2, ?_⟩, ⟨by rw [h2]; exact e3, ?_⟩⟩
  · rw [h1]
    show x.gs.filter (fun g => belowU P19.u g.d k2.n) = _
    rw [e2]; rfl
  · rw [h2]
    show x.gs.filter (fun g => belowU P19.u g.d k3.n) = _
    rw [e3]; rfl
set_option maxRecDepth 100000 in
set_option maxHeartbeats 16000000 in
theorem gives19_any (H : RelayCalls) (HA : ∀ wx : World, Calls Try.prog 6 #[] wx fun e w' => e = .returned (.bool true) ∧ Below wx.heap.size wx w')
    (A : Option Addr) (c : Nat) (l : List Fw) (w : World) (hF0 : FsV w A c l) (hn : ∀ f ∈ l, FrN f.x ∧ FrLen f.x) :
    Calls Try.prog 4 #[.slice A l.length c] w fun e w' => e = .returned (.bool true) ∧ Below w.heap.size w w' := by
  have HF := Lib.hid hF0
  have C1 := fine19_any A c l w hF0 hn
  obtain ⟨b1, hb1⟩ : ∃ b1, fineB l = b1 := ⟨_, rfl⟩
  rw [hb1] at C1
  have HL := Lib.hid hb1
  clear hF0 hn hb1
  go_enter Try.func4, Try.ntmps4
  go_wp2_with fail
  refine C1.mono ?_
  rintro e w1 ⟨rfl, hB⟩
  clear C1
  cases b1 with
  | false =>
    go_wp2_with fail
    refine (HA _).mono ?_
    rintro e w9 ⟨rfl, hb9⟩
    go_wp2_with fail
    go_ret
    exact ⟨rfl, below_then hB hb9⟩
  | true =>
    have HL40 := Lib.hid (show l.length ≤ 40 by
      have h := HL.out
      unfold fineB at h
      rw [Bool.and_eq_true, decide_eq_true_iff] at h
      exact h.1)
    have HLF := Lib.hid (fun g (hg : g ∈ l) => (show FrR g.x ∧ g.x.s ≤ 1073741824 by
      have h := HL.out
      unfold fineB at h
      rw [Bool.and_eq_true, List.all_eq_true] at h
      have h2 := h.2 g hg
      rw [Bool.and_eq_true, decide_eq_true_iff] at h2
      exact ⟨frB_iff.1 h2.1, h2.2⟩))
    go_wp2_with fail
    refine (some19_any _).mono ?_
    rintro e w3 ⟨m, rfl, hT, hb3⟩
    replace hB := below_then hB hb3
    clear hb3
    have hP : pnE.In (w3.alloc (.cells #[.slice (some ⟨m, 0, none⟩) 4 4, .int .i64 2, .int .i64 2, .int .i64 2, .int .i64 20, .int .i64 2, .int .i64 32, .int .i64 4, .int .i64 16] 33)) w3.heap.size (pl19 m) := El.In.new (E := pnE) w3 (pl19 m) _ rfl
    have hal := below_alloc (Below.refl w3.heap.size w3) (.cells #[.slice (some ⟨m, 0, none⟩) 4 4, .int .i64 2, .int .i64 2, .int .i64 2, .int .i64 20, .int .i64 2, .int .i64 32, .int .i64 4, .int .i64 16] 33)
    replace hT := hT.below hal
    replace hB := below_then hB hal
    clear hal
    go_upto_region 4 with fail
    generalize w3.alloc (.cells #[.slice (some ⟨m, 0, none⟩) 4 4, .int .i64 2, .int .i64 2, .int .i64 2, .int .i64 20, .int .i64 2, .int .i64 32, .int .i64 4, .int .i64 16] 33) = W4 at *
    generalize w3.heap.size = n1 at *
    go_wp2_with (first | (refine El.load pnRow rfl _ rfl n1 0 rfl (pl19 m) hP.at #[.slice (some ⟨m, 0, none⟩) 4 4, .int .i64 2, .int .i64 2, .int .i64 2, .int .i64 20, .int .i64 2, .int .i64 32, .int .i64 4, .int .i64 16] rfl ?_) | fail)
    refine (newAt19 H m _ hT).mono ?_
    rintro e w5 ⟨x0, rfl, hx0, hvx0, hb5⟩
    replace hP := hP.below hb5
    replace hT := hT.below hb5
    replace hB := below_then hB hb5
    clear hb5
    have hZ4 : ryE.In (w5.alloc (.cells #[.int .i64 0, .int .i64 0, .int .i64 0, .int .i64 0, .int .i64 0, .int .i64 0, .slice none 0 0, .int .i64 0, .int .i64 0, .slice none 0 0, .slice none 0 0, .slice none 0 0, .slice none 0 0, .slice none 0 0, .slice none 0 0, .int .i64 0, .slice none 0 0, .slice none 0 0, .slice none 0 0, .slice none 0 0, .int .i64 0, .int .i64 0, .int .i64 0, .int .i64 0, .slice none 0 0, .int .i64 0] 48)) w5.heap.size Rlw.zero := El.In.new (E := ryE) w5 Rlw.zero _ rfl
    go_upto_region 5 with (first | (refine wpList_alloc_ry rfl rfl ?_) | (refine El.store ryRow rfl _ _ rfl w5.heap.size x0 #[.int .i64 x0.node, .int .i64 x0.boot, .int .i64 x0.above, .int .i64 x0.st.s, .int .i64 x0.st.t, .int .i64 x0.st.p, .slice x0.eA x0.st.es.length x0.ec, .int .i64 x0.q.f, .int .i64 x0.q.g, .slice x0.qA x0.q.os.length x0.qc, .slice x0.kA x0.ks.length x0.kc, .slice x0.rA x0.rs.length x0.rc, .slice x0.gA x0.gs.length x0.gc, .slice none 0 0, .slice none 0 0, .int .i64 0, .slice none 0 0, .slice none 0 0, .slice none 0 0, .slice none 0 0, .int .i64 0, .int .i64 0, .int .i64 0, .int .i64 0, .slice none 0 0, .int .i64 0] rfl rfl rfl Rlw.zero hZ4 ?_) | fail)
    have hdn := below_setRow (below_alloc (Below.refl w5.heap.size w5) (.cells #[.int .i64 0, .int .i64 0, .int .i64 0, .int .i64 0, .int .i64 0, .int .i64 0, .slice none 0 0, .int .i64 0, .int .i64 0, .slice none 0 0, .slice none 0 0, .slice none 0 0, .slice none 0 0, .slice none 0 0, .slice none 0 0, .int .i64 0, .slice none 0 0, .slice none 0 0, .slice none 0 0, .slice none 0 0, .int .i64 0, .int .i64 0, .int .i64 0, .int .i64 0, .slice none 0 0, .int .i64 0] 48)) (Nat.le_refl _) #[.int .i64 x0.node, .int .i64 x0.boot, .int .i64 x0.above, .int .i64 x0.st.s, .int .i64 x0.st.t, .int .i64 x0.st.p, .slice x0.eA x0.st.es.length x0.ec, .int .i64 x0.q.f, .int .i64 x0.q.g, .slice x0.qA x0.q.os.length x0.qc, .slice x0.kA x0.ks.length x0.kc, .slice x0.rA x0.rs.length x0.rc, .slice x0.gA x0.gs.length x0.gc, .slice none 0 0, .slice none 0 0, .int .i64 0, .slice none 0 0, .slice none 0 0, .slice none 0 0, .slice none 0 0, .int .i64 0, .int .i64 0, .int .i64 0, .int .i64 0, .slice none 0 0, .int .i64 0]
    have hE := hZ4.set x0 #[.int .i64 x0.node, .int .i64 x0.boot, .int .i64 x0.above, .int .i64 x0.st.s, .int .i64 x0.st.t, .int .i64 x0.st.p, .slice x0.eA x0.st.es.length x0.ec, .int .i64 x0.q.f, .int .i64 x0.q.g, .slice x0.qA x0.q.os.length x0.qc, .slice x0.kA x0.ks.length x0.kc, .slice x0.rA x0.rs.length x0.rc, .slice x0.gA x0.gs.length x0.gc, .slice none 0 0, .slice none 0 0, .int .i64 0, .slice none 0 0, .slice none 0 0, .slice none 0 0, .slice none 0 0, .int .i64 0, .int .i64 0, .int .i64 0, .int .i64 0, .slice none 0 0, .int .i64 0] rfl
    have hnw : w.heap.size ≤ w5.heap.size := hB.size
    have hn12 : n1 < w5.heap.size := hP.lt
    have hm2 : m < w5.heap.size := inSl_lt19 hT (by show 0 < 4; omega)
    have hz := hx0.below hdn
    replace hP := hP.below hdn
    replace hT := hT.below hdn
    replace hB := below_then hB hdn
    have HV0 := Lib.hid (show x0.v = rlL (l.take 0) from hvx0)
    clear hdn hZ4 hx0 hvx0
    generalize (w5.alloc (.cells #[.int .i64 0, .int .i64 0, .int .i64 0, .int .i64 0, .int .i64 0, .int .i64 0, .slice none 0 0, .int .i64 0, .int .i64 0, .slice none 0 0, .slice none 0 0, .slice none 0 0, .slice none 0 0, .slice none 0 0, .slice none 0 0, .int .i64 0, .slice none 0 0, .slice none 0 0, .slice none 0 0, .slice none 0 0, .int .i64 0, .int .i64 0, .int .i64 0, .int .i64 0, .slice none 0 0, .int .i64 0] 48)).setRow w5.heap.size #[.int .i64 x0.node, .int .i64 x0.boot, .int .i64 x0.above, .int .i64 x0.st.s, .int .i64 x0.st.t, .int .i64 x0.st.p, .slice x0.eA x0.st.es.length x0.ec, .int .i64 x0.q.f, .int .i64 x0.q.g, .slice x0.qA x0.q.os.length x0.qc, .slice x0.kA x0.ks.length x0.kc, .slice x0.rA x0.rs.length x0.rc, .slice x0.gA x0.gs.length x0.gc, .slice none 0 0, .slice none 0 0, .int .i64 0, .slice none 0 0, .slice none 0 0, .slice none 0 0, .slice none 0 0, .int .i64 0, .int .i64 0, .int .i64 0, .int .i64 0, .slice none 0 0, .int .i64 0] = W6 at *
    generalize w5.heap.size = n2 at *
    go_wp2_with fail
    go_loopw [5] (fun i wr => ∃ (k : Nat) (z : Rlw), k ≤ l.length ∧ i = .int .i64 k ∧ Hid (z.v = rlL (l.take k)) ∧ ryE.In wr n2 z ∧ z.ok wr ∧ pnE.In wr n1 (pl19 m) ∧ inE.Sl wr (some ⟨m, 0, none⟩) [-1, 0, 1, 1] ∧ Below w.heap.size w wr) (fun i _ => l.length - (intOf i).toNat)
    case atStart => exact ⟨0, x0, Nat.zero_le _, rfl, HV0, hE, hz, hP, hT, hB⟩
    case round =>
      clear hE hz hP hT hB
      obtain ⟨k, z, hk, rfl, HV, hE, hz, hP, hT, hB⟩ := hrel
      by_cases hkl : k < l.length
      · have f1 : decide ((k : Int) < (l.length : Int)) = true := decide_eq_true (by omega)
        have f2 : decide (k < l.length) = true := decide_eq_true hkl
        obtain ⟨b, off, eA, hbw, hc⟩ := HF.out.s.1 (by omega)
        obtain ⟨g, hg⟩ : ∃ g, l[k] = g := ⟨_, rfl⟩
        have hat : frE.At wr b (off + k * 14) g := by
          have h : frE.At wr b (off + k * 14) l[k] := (hc k hkl).below hB hbw
          rw [hg] at h; exact h
        have hbr : b < wr.heap.size := Nat.lt_of_lt_of_le hbw hB.size
        have hix := frIdx19 (cap := c) eA hkl
        clear eA
        have hgm : g ∈ l := by rw [← hg]; exact List.getElem_mem hkl
        obtain ⟨N, hN⟩ : ∃ N, (takeR P19 0 (rlL (l.take k)) g.x).2 = N := ⟨_, rfl⟩
        have HED := Lib.hid (show takeR P19 0 (rlL (l.take k)) g.x = (rlL (l.take (k + 1)), N) from Prod.ext (by rw [rlL_next hkl, hg]) hN)
        have HG := Lib.hid (And.intro (HLF.out g hgm) (HF.out.o g hgm))
        clear hc hg hN hgm
        go_upto_region 8 with fail
        refine region_anyG (S := SlS n1 n2 m z b (off + k * 14) g) 10 (by kernel_rfl) ?_
        replace hP : pnE.In wr.drew n1 (pl19 m) := hP
        replace hE : ryE.In wr.drew n2 z := hE
        replace hat : frE.At wr.drew b (off + k * 14) g := hat
        replace hbr : b < wr.drew.heap.size := hbr
        replace hz := hz.below (Below.refl wr.heap.size wr).drew
        replace hT := hT.below (Below.refl wr.heap.size wr).drew
        replace hB := hB.drew
        generalize wr.drew = V at *
        have hS : SlS n1 n2 m z b (off + k * 14) g V := ⟨hP, hE, hat⟩
        refine anyG_take (i := 0) (v := .agg #[.slice (some ⟨m, 0, none⟩) 4 4, .int .i64 2, .int .i64 2, .int .i64 2, .int .i64 20, .int .i64 2, .int .i64 32, .int .i64 4, .int .i64 16]) rfl (by kernel_rfl) (by kernel_rfl) (by kernel_rfl) (by kernel_rfl) (by kernel_rfl) (fun _ _ _ h => h) (Or.inl ⟨by rfl, fun w' hSw => El.exec_loadK pnRow (.tmp 3) rfl rfl hSw.1.at _ rfl⟩) hS ?_
        try simp only [Act.put, List.setIfInBounds_toArray, List.set_cons_zero, List.set_cons_succ]
        refine anyG_take (i := 1) (v := .agg #[.int .i64 z.node, .int .i64 z.boot, .int .i64 z.above, .int .i64 z.st.s, .int .i64 z.st.t, .int .i64 z.st.p, .slice z.eA z.st.es.length z.ec, .int .i64 z.q.f, .int .i64 z.q.g, .slice z.qA z.q.os.length z.qc, .slice z.kA z.ks.length z.kc, .slice z.rA z.rs.length z.rc, .slice z.gA z.gs.length z.gc, .slice none 0 0, .slice none 0 0, .int .i64 0, .slice none 0 0, .slice none 0 0, .slice none 0 0, .slice none 0 0, .int .i64 0, .int .i64 0, .int .i64 0, .int .i64 0, .slice none 0 0, .int .i64 0]) rfl (by kernel_rfl) (by kernel_rfl) (by kernel_rfl) (by kernel_rfl) (by kernel_rfl) (fun _ _ _ h => h) (Or.inl ⟨by rfl, fun w' hSw => El.exec_loadK ryRow (.tmp 4) rfl rfl hSw.2.1.at _ rfl⟩) hS ?_
        try simp only [Act.put, List.setIfInBounds_toArray, List.set_cons_zero, List.set_cons_succ]
        refine anyG_take (i := 2) (v := .slice A l.length c) rfl (by kernel_rfl) (by kernel_rfl) (by kernel_rfl) (by kernel_rfl) (by kernel_rfl) (fun _ _ _ h => h) (Or.inl ⟨by rfl, fun w' hSw => by go_simp⟩) hS ?_
        try simp only [Act.put, List.setIfInBounds_toArray, List.set_cons_zero, List.set_cons_succ]
        refine anyG_take (i := 3) (v := .int .i64 k) rfl (by kernel_rfl) (by kernel_rfl) (by kernel_rfl) (by kernel_rfl) (by kernel_rfl) (fun _ _ _ h => h) (Or.inl ⟨by rfl, fun w' hSw => by go_simp⟩) hS ?_
        try simp only [Act.put, List.setIfInBounds_toArray, List.set_cons_zero, List.set_cons_succ]
        refine anyG_take (i := 4) (v := .pointer (some ⟨b, off + k * 14, none⟩)) rfl (by kernel_rfl) (by kernel_rfl) (by kernel_rfl) (by kernel_rfl) (by kernel_rfl) (fun _ _ _ h => h) (Or.inl ⟨by rfl, fun w' hSw => by go_simp⟩) hS ?_
        try simp only [Act.put, List.setIfInBounds_toArray, List.set_cons_zero, List.set_cons_succ]
        refine anyG_take (i := 5) (v := .agg #[.int .i64 g.x.a, .int .i64 g.x.b, .int .i64 g.x.boot, .int .i64 g.x.first, .slice g.oA g.x.os.length g.oc, .int .i64 g.x.pos, .slice g.rA g.x.rs.length g.rc, .int .i64 g.x.start, .slice g.eA g.x.es.length g.ec, .int .i64 g.x.ack, .int .i64 g.x.grant, .int .i64 g.x.s, .int .i64 g.x.t, .slice g.gA g.x.gs.length g.gc]) rfl (by kernel_rfl) (by kernel_rfl) (by kernel_rfl) (by kernel_rfl) (by kernel_rfl) (fun _ _ _ h => h) (Or.inl ⟨by rfl, fun w' hSw => El.exec_loadK frRow (.tmp 31) rfl rfl hSw.2.2 _ rfl⟩) hS ?_
        try simp only [Act.put, List.setIfInBounds_toArray, List.set_cons_zero, List.set_cons_succ]
        refine anyG_step (rs := [6]) (by kernel_rfl) (by simp) ?_
        refine AllG.cons rfl (fun K hK => ?_) AllG.nil
        go_simp
        refine (takeAt19 H m z g V k (by have := HL40.out; omega) hT hz (Fw.ok.below HG.out.2 hB) HV.out (rlL_r HL.out k hk) HG.out.1.1.tk HG.out.1.2 HED.out).mono ?_
        rintro e W7 ⟨z6, rfl, hz6, hvz6, hb6⟩
        replace hP := hP.below hb6
        replace hE := hE.below hb6
        replace hat := hat.below hb6 hbr
        replace hT := hT.below hb6
        replace hB := below_then hB hb6
        clear hb6
        try go_wp2_with fail
        refine hK.out _ _ (⟨hP, hE, hat⟩ : SlS n1 n2 m z b (off + k * 14) g W7) ?_
        try simp only [Act.put, List.setIfInBounds_toArray, List.set_cons_zero, List.set_cons_succ]
        clear hK hS
        have hS : SlS n1 n2 m z b (off + k * 14) g W7 := ⟨hP, hE, hat⟩
        refine anyG_plain (i := 7) (v := .tuple #[.agg #[.int .i64 z6.node, .int .i64 z6.boot, .int .i64 z6.above, .int .i64 z6.st.s, .int .i64 z6.st.t, .int .i64 z6.st.p, .slice z6.eA z6.st.es.length z6.ec, .int .i64 z6.q.f, .int .i64 z6.q.g, .slice z6.qA z6.q.os.length z6.qc, .slice z6.kA z6.ks.length z6.kc, .slice z6.rA z6.rs.length z6.rc, .slice z6.gA z6.gs.length z6.gc, .slice none 0 0, .slice none 0 0, .int .i64 0, .slice none 0 0, .slice none 0 0, .slice none 0 0, .slice none 0 0, .int .i64 0, .int .i64 0, .int .i64 0, .int .i64 0, .slice none 0 0, .int .i64 0], .int .i64 N]) rfl (by kernel_rfl) (by kernel_rfl) (by kernel_rfl) (by kernel_rfl) (fun _ _ _ h => h) (Or.inl ⟨by rfl, fun w' => by go_simp⟩) (fun _ => hS) ?_
        try simp only [Act.put, List.setIfInBounds_toArray, List.set_cons_zero, List.set_cons_succ]
        refine anyG_plain (i := 8) (v := .agg #[.int .i64 z6.node, .int .i64 z6.boot, .int .i64 z6.above, .int .i64 z6.st.s, .int .i64 z6.st.t, .int .i64 z6.st.p, .slice z6.eA z6.st.es.length z6.ec, .int .i64 z6.q.f, .int .i64 z6.q.g, .slice z6.qA z6.q.os.length z6.qc, .slice z6.kA z6.ks.length z6.kc, .slice z6.rA z6.rs.length z6.rc, .slice z6.gA z6.gs.length z6.gc, .slice none 0 0, .slice none 0 0, .int .i64 0, .slice none 0 0, .slice none 0 0, .slice none 0 0, .slice none 0 0, .int .i64 0, .int .i64 0, .int .i64 0, .int .i64 0, .slice none 0 0, .int .i64 0]) rfl (by kernel_rfl) (by kernel_rfl) (by kernel_rfl) (by kernel_rfl) (fun _ _ _ h => h) (Or.inl ⟨by rfl, fun w' => by go_simp⟩) (fun _ => hS) ?_
        try simp only [Act.put, List.setIfInBounds_toArray, List.set_cons_zero, List.set_cons_succ]
        refine anyG_plain (i := 9) (v := .int .i64 N) rfl (by kernel_rfl) (by kernel_rfl) (by kernel_rfl) (by kernel_rfl) (fun _ _ _ h => h) (Or.inl ⟨by rfl, fun w' => by go_simp⟩) (fun _ => hS) ?_
        try simp only [Act.put, List.setIfInBounds_toArray, List.set_cons_zero, List.set_cons_succ]
        refine anyG_step (rs := [10]) (by kernel_rfl) (by simp) ?_
        refine AllG.last (n := 10) rfl (fun K hK => ?_)
        refine El.step_store ryRow rfl _ _ rfl n2 z6 #[.int .i64 z6.node, .int .i64 z6.boot, .int .i64 z6.above, .int .i64 z6.st.s, .int .i64 z6.st.t, .int .i64 z6.st.p, .slice z6.eA z6.st.es.length z6.ec, .int .i64 z6.q.f, .int .i64 z6.q.g, .slice z6.qA z6.q.os.length z6.qc, .slice z6.kA z6.ks.length z6.kc, .slice z6.rA z6.rs.length z6.rc, .slice z6.gA z6.gs.length z6.gc, .slice none 0 0, .slice none 0 0, .int .i64 0, .slice none 0 0, .slice none 0 0, .slice none 0 0, .slice none 0 0, .int .i64 0, .int .i64 0, .int .i64 0, .int .i64 0, .slice none 0 0, .int .i64 0] rfl rfl rfl z hE ?_
        refine hK.out _ _ ?_
        try simp only [Act.put, List.setIfInBounds_toArray, List.set_cons_zero, List.set_cons_succ]
        clear hK hS
        refine anyG_done (by kernel_rfl) ?_ _
        have hgr := by_row W7 n2 #[.int .i64 z6.node, .int .i64 z6.boot, .int .i64 z6.above, .int .i64 z6.st.s, .int .i64 z6.st.t, .int .i64 z6.st.p, .slice z6.eA z6.st.es.length z6.ec, .int .i64 z6.q.f, .int .i64 z6.q.g, .slice z6.qA z6.q.os.length z6.qc, .slice z6.kA z6.ks.length z6.kc, .slice z6.rA z6.rs.length z6.rc, .slice z6.gA z6.gs.length z6.gc, .slice none 0 0, .slice none 0 0, .int .i64 0, .slice none 0 0, .slice none 0 0, .slice none 0 0, .slice none 0 0, .int .i64 0, .int .i64 0, .int .i64 0, .int .i64 0, .slice none 0 0, .int .i64 0]
        have hz7 := hz6.keepB hE hgr
        replace hP := hP.keep hgr (fun e => by have := Option.some.inj e; omega)
        replace hT := inSl_keep19 hT (by omega) hgr
        replace hE := hE.set z6 #[.int .i64 z6.node, .int .i64 z6.boot, .int .i64 z6.above, .int .i64 z6.st.s, .int .i64 z6.st.t, .int .i64 z6.st.p, .slice z6.eA z6.st.es.length z6.ec, .int .i64 z6.q.f, .int .i64 z6.q.g, .slice z6.qA z6.q.os.length z6.qc, .slice z6.kA z6.ks.length z6.kc, .slice z6.rA z6.rs.length z6.rc, .slice z6.gA z6.gs.length z6.gc, .slice none 0 0, .slice none 0 0, .int .i64 0, .slice none 0 0, .slice none 0 0, .slice none 0 0, .slice none 0 0, .int .i64 0, .int .i64 0, .int .i64 0, .int .i64 0, .slice none 0 0, .int .i64 0] rfl
        replace hB := below_setRow hB hnw #[.int .i64 z6.node, .int .i64 z6.boot, .int .i64 z6.above, .int .i64 z6.st.s, .int .i64 z6.st.t, .int .i64 z6.st.p, .slice z6.eA z6.st.es.length z6.ec, .int .i64 z6.q.f, .int .i64 z6.q.g, .slice z6.qA z6.q.os.length z6.qc, .slice z6.kA z6.ks.length z6.kc, .slice z6.rA z6.rs.length z6.rc, .slice z6.gA z6.gs.length z6.gc, .slice none 0 0, .slice none 0 0, .int .i64 0, .slice none 0 0, .slice none 0 0, .slice none 0 0, .slice none 0 0, .int .i64 0, .int .i64 0, .int .i64 0, .int .i64 0, .slice none 0 0, .int .i64 0]
        have HV6 := Lib.hid hvz6
        have hl40 := HL40.out
        clear hgr hz6 hvz6 hz hat hbr HV hix
        generalize W7.setRow n2 #[.int .i64 z6.node, .int .i64 z6.boot, .int .i64 z6.above, .int .i64 z6.st.s, .int .i64 z6.st.t, .int .i64 z6.st.p, .slice z6.eA z6.st.es.length z6.ec, .int .i64 z6.q.f, .int .i64 z6.q.g, .slice z6.qA z6.q.os.length z6.qc, .slice z6.kA z6.ks.length z6.kc, .slice z6.rA z6.rs.length z6.rc, .slice z6.gA z6.gs.length z6.gc, .slice none 0 0, .slice none 0 0, .int .i64 0, .slice none 0 0, .slice none 0 0, .slice none 0 0, .slice none 0 0, .int .i64 0, .int .i64 0, .int .i64 0, .int .i64 0, .slice none 0 0, .int .i64 0] = W8 at *
        go_wp2_with fail
        go_roundw
        case rel => exact ⟨k + 1, z6, by omega, by go_num, HV6, hE, hz7, hP, hT, hB⟩
        case measure => simp [intOf]; omega
      · obtain rfl : k = l.length := by omega
        rw [List.take_length] at HV
        have HR := Lib.hid (by have h := rlL_r HL.out l.length (Nat.le_refl _); rw [List.take_length] at h; exact h : RlR P19 0 l.length (rlL l))
        rw [← HV.out] at HR
        have hl40 := HL40.out
        clear hk hkl
        go_wp2_with (first | (refine El.load pnRow rfl _ rfl n1 0 rfl (pl19 m) hP.at #[.slice (some ⟨m, 0, none⟩) 4 4, .int .i64 2, .int .i64 2, .int .i64 2, .int .i64 20, .int .i64 2, .int .i64 32, .int .i64 4, .int .i64 16] rfl ?_) | (refine El.load ryRow rfl _ rfl n2 0 rfl z hE.at #[.int .i64 z.node, .int .i64 z.boot, .int .i64 z.above, .int .i64 z.st.s, .int .i64 z.st.t, .int .i64 z.st.p, .slice z.eA z.st.es.length z.ec, .int .i64 z.q.f, .int .i64 z.q.g, .slice z.qA z.q.os.length z.qc, .slice z.kA z.ks.length z.kc, .slice z.rA z.rs.length z.rc, .slice z.gA z.gs.length z.gc, .slice none 0 0, .slice none 0 0, .int .i64 0, .slice none 0 0, .slice none 0 0, .slice none 0 0, .slice none 0 0, .int .i64 0, .int .i64 0, .int .i64 0, .int .i64 0, .slice none 0 0, .int .i64 0] rfl ?_) | fail)
        refine (H.frames (pl19 m) z _ 0 l.length P19_r (by omega) HR.out hT hz).mono ?_
        rintro e w9 ⟨AF, cF, L, rfl, hFs, hLv, hb9⟩
        replace hE := hE.below hb9
        replace hz := hz.below hb9
        replace hB := below_then hB hb9
        obtain ⟨F0, F1, F2, rfl, g0, ⟨t1, g1⟩, t2, g2⟩ := frames19 HR.out hLv
        clear hb9 hP hT hLv
        obtain ⟨bF, oF, eF, hbF, hcF⟩ := hFs.s.1 (by show 0 < 3; omega)
        have a0 : frE.At w9 bF oF F0 := by
          have h := hcF 0 (by show 0 < 3; omega)
          rw [Nat.zero_mul, Nat.add_zero] at h
          exact h
        have a1 : frE.At w9 bF (oF + 14) F1 := by
          have h := hcF 1 (by show 1 < 3; omega)
          rw [Nat.one_mul] at h
          exact h
        have a2 : frE.At w9 bF (oF + 28) F2 := hcF 2 (by show 2 < 3; omega)
        have HG1 := Lib.hid (show SlV gfE w9 F1.gA F1.gc F1.x.gs from (hFs.o F1 (by simp)).g)
        have HG2 := Lib.hid (show SlV gfE w9 F2.gA F2.gc F2.x.gs from (hFs.o F2 (by simp)).g)
        have s13 : w9.cell? ⟨bF, oF + 13, none⟩ = some (.slice F0.gA F0.x.gs.length F0.gc) := a0 13 _ rfl
        rw [g0] at s13
        clear hFs hcF a0 g0
        subst eF
        go_upto_region 12 with fail
        have HWT := Lib.hid (fun (g : Gf) (hg : g ∈ z.gs) => want19 (HR.out.gs.2 g hg).2.2.2)
        have HD1 := Lib.hid (fun (g : Gf) (hg : g ∈ F1.x.gs) => (show g.d = 2 ∧ g ∈ z.gs by rw [g1] at hg; exact givK_d HR.out (Or.inl rfl) g hg))
        have HD2 := Lib.hid (fun (g : Gf) (hg : g ∈ F2.x.gs) => (show g.d = 3 ∧ g ∈ z.gs by rw [g2] at hg; exact givK_d HR.out (Or.inr rfl) g hg))
        obtain ⟨N1, hN1⟩ : ∃ N1, F1.x.gs.length = N1 := ⟨_, rfl⟩
        obtain ⟨N2, hN2⟩ : ∃ N2, F2.x.gs.length = N2 := ⟨_, rfl⟩
        have HNN := Lib.hid (show N1 + N2 = z.gs.length ∧ z.gs.length ≤ 2 by
          have h := gives19_v HR.out
          rw [← hN1, ← hN2, g1, g2]; exact h)
        have hrl : z.rs.length ≤ 50000 := (few19 HR.out).2.2.2.2.1
        have HN1 := Lib.hid hN1
        have HN2 := Lib.hid hN2
        have HA1 := Lib.hid a1
        have HA2 := Lib.hid a2
        have HT1 := Lib.hid t1
        have HT2 := Lib.hid t2
        have HZO := Lib.hid hz.r
        have hNN2 : N1 + N2 ≤ 2 := by have := HNN.out; omega
        clear hN1 hN2 g1 g2 a1 a2 t1 t2 s13 HR hz HV
        go_wp2_with fail
        go_loopw [7, 8] (fun x y wq => ∃ (kk : Nat) (nn : Nat), ((kk = 1 ∧ nn = 0) ∨ (kk = 2 ∧ N1 = nn) ∨ (kk = 3 ∧ N1 + N2 = nn)) ∧ x = .int .i64 nn ∧ y = .int .i64 kk ∧ ryE.In wq n2 z ∧ Below w9.heap.size w9 wq ∧ Below w.heap.size w wq) (fun _ y _ => 3 - (intOf y).toNat)
        case atStart => exact ⟨1, 0, Or.inl ⟨rfl, rfl⟩, rfl, rfl, hE, Below.refl _ _, hB⟩
        case round =>
          clear hE hB
          obtain ⟨kk, nn, hkk, rfl, rfl, hE, hB9, hB⟩ := hrel
          rcases hkk with ⟨rfl, rfl⟩ | ⟨rfl, rfl⟩ | ⟨rfl, rfl⟩
          · simp only [show ((1 : Nat) : Int) = (1 : Int) from rfl, show ((0 : Nat) : Int) = (0 : Int) from rfl]
            have hxF : ∀ w, (Instr.indexAt 22 (.slice (some ⟨bF, oF, none⟩) 3 cF) (.int .i64 1)).run Try.prog w = .ok (.pointer (some ⟨bF, oF + 14, none⟩)) w := fun w => by go_simp
            go_wp2_with fail
            go_loopw [7, 9] (fun x y wv => ∃ (j : Nat), j ≤ N1 ∧ x = .int .i64 ((j : Nat) : Int) ∧ y = .int .i64 j ∧ ryE.In wv n2 z ∧ Below w9.heap.size w9 wv ∧ Below w.heap.size w wv) (fun _ y _ => N1 - (intOf y).toNat)
            case atStart => exact ⟨0, Nat.zero_le _, rfl, rfl, hE, hB9, hB⟩
            case round =>
              clear hE hB9 hB
              obtain ⟨j, hj, rfl, rfl, hE, hB9, hB⟩ := hrel
              have hat : frE.At wr bF (oF + 14) F1 := (HA1).out.below hB9 hbF
              have s13 : wr.cell? ⟨bF, oF + 14 + 13, none⟩ = some (.slice F1.gA N1 F1.gc) := by
                have h : wr.cell? ⟨bF, oF + 14 + 13, none⟩ = some (.slice F1.gA F1.x.gs.length F1.gc) := hat 13 _ rfl
                rw [(HN1).out] at h; exact h
              have s1 : wr.cell? ⟨bF, oF + 14 + 1, none⟩ = some (.int .i64 2) := by
                have h : wr.cell? ⟨bF, oF + 14 + 1, none⟩ = some (.int .i64 F1.x.b) := hat 1 _ rfl
                rw [(HT1).out] at h; exact h
              clear hat
              by_cases hjl : j < N1
              · have f1 : decide ((j : Int) < (N1 : Int)) = true := decide_eq_true (by omega)
                have f2 : decide (j < N1) = true := decide_eq_true hjl
                obtain ⟨bg, og, eg, hbg, hcg⟩ := (HG1).out.1 (by rw [(HN1).out]; omega)
                obtain ⟨g, hg⟩ : ∃ g, F1.x.gs[j]'(by rw [(HN1).out]; exact hjl) = g := ⟨_, rfl⟩
                have hag : gfE.At wr bg (og + j * 5) g := by
                  have h : gfE.At wr bg (og + j * 5) (F1.x.gs[j]'(by rw [(HN1).out]; exact hjl)) := (hcg j (by rw [(HN1).out]; exact hjl)).below hB9 hbg
                  rw [hg] at h; exact h
                have HGD := Lib.hid ((HD1).out g (by rw [← hg]; exact List.getElem_mem _))
                have ixg := gfIdxH (cap := F1.gc) (len := N1) eg hjl
                clear hg hcg hbg eg
                go_upto_region 20 with (first | (refine El.load gfRow rfl _ rfl bg (og + j * 5) rfl g hag #[.int .i64 g.d, .int .i64 g.i, .int .i64 g.c, .int .i64 g.t, .string g.s] rfl ?_) | fail)
                have hG := El.In.new (E := gfE) wr g #[.int .i64 g.d, .int .i64 g.i, .int .i64 g.c, .int .i64 g.t, .string g.s] rfl
                have hal := below_alloc (Below.refl wr.heap.size wr) (.cells #[.int .i64 g.d, .int .i64 g.i, .int .i64 g.c, .int .i64 g.t, .string g.s] 57)
                have h21 : bF < wr.heap.size := Nat.lt_of_lt_of_le hbF hB9.size
                replace s1 := ((bcell hal).1 bF (oF + 14 + 1) h21).trans s1
                replace hE := hE.below hal
                replace hB9 := below_then hB9 hal
                replace hB := below_then hB hal
                replace hG : gfE.In (wr.alloc (.cells #[.int .i64 g.d, .int .i64 g.i, .int .i64 g.c, .int .i64 g.t, .string g.s] 57)) wr.heap.size g := hG
                clear hal s13 hag ixg h21
                generalize wr.alloc (.cells #[.int .i64 g.d, .int .i64 g.i, .int .i64 g.c, .int .i64 g.t, .string g.s] 57) = W10 at *
                generalize wr.heap.size = n10 at *
                have q0 : W10.cell? ⟨n10, 0, none⟩ = some (.int .i64 2) := by rw [← HGD.out.1]; exact hG.cell 0
                go_upto_region 21 with fail
                go_quiet (fail)
                replace hE : ryE.In (W10.drewN nq) n2 z := hE
                replace hG : gfE.In (W10.drewN nq) n10 g := hG
                replace hB9 := below_drew hB9 nq
                replace hB := below_drew hB nq
                clear q0 s1
                generalize W10.drewN nq = W11 at *
                go_wp2_with fail
                go_loopw [11] (fun x wv => ∃ (i : Nat), i ≤ z.rs.length ∧ x = .int .i64 i ∧ ryE.In wv n2 z ∧ gfE.In wv n10 g ∧ Below w9.heap.size w9 wv ∧ Below w.heap.size w wv) (fun x _ => z.rs.length - (intOf x).toNat)
                case atStart => exact ⟨0, Nat.zero_le _, rfl, hE, hG, hB9, hB⟩
                case round =>
                  clear hE hG hB9 hB
                  obtain ⟨i, hi, rfl, hE, hG, hB9, hB⟩ := hrel
                  have s11 : wr.cell? ⟨n2, 11, none⟩ = some (.slice z.rA z.rs.length z.rc) := hE.cell 11
                  by_cases hil : i < z.rs.length
                  · have f3 : decide ((i : Int) < (z.rs.length : Int)) = true := decide_eq_true (by omega)
                    obtain ⟨br, or1, er, hbr, hcr⟩ := HZO.out.1 (by omega)
                    obtain ⟨x, hx⟩ : ∃ x, z.rs[i] = x := ⟨_, rfl⟩
                    have har : rpE.At wr br (or1 + i * 9) x := by
                      have h : rpE.At wr br (or1 + i * 9) z.rs[i] := (hcr i hil).below hB9 hbr
                      rw [hx] at h; exact h
                    have HNX := Lib.hid (HWT.out g HGD.out.2 x (by rw [← hx]; exact List.getElem_mem hil))
                    have ixr := rpIdxH (cap := z.rc) er hil
                    clear hx hcr hbr er
                    go_upto_region 27 with (first | (refine El.load rpRow rfl _ rfl br (or1 + i * 9) rfl x har #[.int .i64 x.d, .int .i64 x.i, .int .i64 x.b, .int .i64 x.t, .int .i64 x.m, .int .i64 x.p, .int .i64 x.c, .int .i64 x.s, .int .i64 x.k] rfl ?_) | fail)
                    have hX := El.In.new (E := rpE) wr x #[.int .i64 x.d, .int .i64 x.i, .int .i64 x.b, .int .i64 x.t, .int .i64 x.m, .int .i64 x.p, .int .i64 x.c, .int .i64 x.s, .int .i64 x.k] rfl
                    have hal := below_alloc (Below.refl wr.heap.size wr) (.cells #[.int .i64 x.d, .int .i64 x.i, .int .i64 x.b, .int .i64 x.t, .int .i64 x.m, .int .i64 x.p, .int .i64 x.c, .int .i64 x.s, .int .i64 x.k] 59)
                    replace hE := hE.below hal
                    replace hG := hG.below hal
                    replace hB9 := below_then hB9 hal
                    replace hB := below_then hB hal
                    clear hal s11 har ixr
                    replace hX : rpE.In (wr.alloc (.cells #[.int .i64 x.d, .int .i64 x.i, .int .i64 x.b, .int .i64 x.t, .int .i64 x.m, .int .i64 x.p, .int .i64 x.c, .int .i64 x.s, .int .i64 x.k] 59)) wr.heap.size x := hX
                    generalize wr.alloc (.cells #[.int .i64 x.d, .int .i64 x.i, .int .i64 x.b, .int .i64 x.t, .int .i64 x.m, .int .i64 x.p, .int .i64 x.c, .int .i64 x.s, .int .i64 x.k] 59) = W12 at *
                    generalize wr.heap.size = n12 at *
                    obtain ⟨x0, x1, _, _, x4, _⟩ := rpIn9 hX
                    obtain ⟨q0, q1, _⟩ := gfIn5 hG
                    rw [HGD.out.1] at q0
                    clear hX
                    cases h1 : decide (x.d = 2) with
                    | false =>
                      have e1 : (x.d == 2) = false := h1
                      clear h1
                      go_wp2_with fail
                      go_roundw
                      case rel => exact ⟨i + 1, by omega, by go_num, hE, hG, hB9, hB⟩
                      case measure => simp [intOf]; omega
                    | true =>
                      have e1 : (x.d == 2) = true := h1
                      have HXD := Lib.hid (show x.d = g.d by rw [HGD.out.1]; exact of_decide_eq_true h1)
                      have h2 : decide (g.i < x.i) = false := decide_eq_false (fun h => HNX.out ⟨HXD.out, Or.inl h⟩)
                      cases h3 : decide (x.i = g.i) with
                      | false =>
                        have e3 : (x.i == g.i) = false := h3
                        clear h1
                        go_wp2_with fail
                        go_roundw
                        case rel => exact ⟨i + 1, by omega, by go_num, hE, hG, hB9, hB⟩
                        case measure => simp [intOf]; omega
                      | true =>
                        have e3 : (x.i == g.i) = true := h3
                        have hm : x.m ≠ 1 := fun h => HNX.out ⟨HXD.out, Or.inr ⟨of_decide_eq_true h3, h⟩⟩
                        have h4 : decide (x.m = 1) = false := decide_eq_false hm
                        have e4 : (x.m == 1) = false := h4
                        clear hm
                        clear h1
                        go_wp2_with fail
                        go_roundw
                        case rel => exact ⟨i + 1, by omega, by go_num, hE, hG, hB9, hB⟩
                        case measure => simp [intOf]; omega
                  · have f3 : decide ((i : Int) < (z.rs.length : Int)) = false := decide_eq_false (by omega)
                    have f4 : decide (i < z.rs.length) = false := decide_eq_false hil
                    clear hi hil hG
                    go_wp2_with fail
                    go_roundw
                    case rel => exact ⟨j + 1, by omega, by go_num, by go_num, hE, hB9, hB⟩
                    case measure => simp [intOf]; omega
              · have hje : j = N1 := by omega
                have f1 : decide ((j : Int) < (N1 : Int)) = false := decide_eq_false (by omega)
                have f2 : decide (j < N1) = false := decide_eq_false hjl
                have HJE := Lib.hid hje
                clear hj hjl hje
                go_wp2_with fail
                go_roundw
                case rel => exact ⟨_, _, Or.inr (Or.inl ⟨rfl, HJE.out.symm⟩), rfl, rfl, hE, hB9, hB⟩
                case measure => simp [intOf]
          · simp only [show ((2 : Nat) : Int) = (2 : Int) from rfl]
            have hxF : ∀ w, (Instr.indexAt 22 (.slice (some ⟨bF, oF, none⟩) 3 cF) (.int .i64 2)).run Try.prog w = .ok (.pointer (some ⟨bF, oF + 28, none⟩)) w := fun w => by go_simp
            go_wp2_with fail
            go_loopw [7, 9] (fun x y wv => ∃ (j : Nat), j ≤ N2 ∧ x = .int .i64 ((N1 + j : Nat) : Int) ∧ y = .int .i64 j ∧ ryE.In wv n2 z ∧ Below w9.heap.size w9 wv ∧ Below w.heap.size w wv) (fun _ y _ => N2 - (intOf y).toNat)
            case atStart => exact ⟨0, Nat.zero_le _, rfl, rfl, hE, hB9, hB⟩
            case round =>
              clear hE hB9 hB
              obtain ⟨j, hj, rfl, rfl, hE, hB9, hB⟩ := hrel
              have hat : frE.At wr bF (oF + 28) F2 := (HA2).out.below hB9 hbF
              have s13 : wr.cell? ⟨bF, oF + 28 + 13, none⟩ = some (.slice F2.gA N2 F2.gc) := by
                have h : wr.cell? ⟨bF, oF + 28 + 13, none⟩ = some (.slice F2.gA F2.x.gs.length F2.gc) := hat 13 _ rfl
                rw [(HN2).out] at h; exact h
              have s1 : wr.cell? ⟨bF, oF + 28 + 1, none⟩ = some (.int .i64 3) := by
                have h : wr.cell? ⟨bF, oF + 28 + 1, none⟩ = some (.int .i64 F2.x.b) := hat 1 _ rfl
                rw [(HT2).out] at h; exact h
              clear hat
              by_cases hjl : j < N2
              · have f1 : decide ((j : Int) < (N2 : Int)) = true := decide_eq_true (by omega)
                have f2 : decide (j < N2) = true := decide_eq_true hjl
                obtain ⟨bg, og, eg, hbg, hcg⟩ := (HG2).out.1 (by rw [(HN2).out]; omega)
                obtain ⟨g, hg⟩ : ∃ g, F2.x.gs[j]'(by rw [(HN2).out]; exact hjl) = g := ⟨_, rfl⟩
                have hag : gfE.At wr bg (og + j * 5) g := by
                  have h : gfE.At wr bg (og + j * 5) (F2.x.gs[j]'(by rw [(HN2).out]; exact hjl)) := (hcg j (by rw [(HN2).out]; exact hjl)).below hB9 hbg
                  rw [hg] at h; exact h
                have HGD := Lib.hid ((HD2).out g (by rw [← hg]; exact List.getElem_mem _))
                have ixg := gfIdxH (cap := F2.gc) (len := N2) eg hjl
                clear hg hcg hbg eg
                go_upto_region 20 with (first | (refine El.load gfRow rfl _ rfl bg (og + j * 5) rfl g hag #[.int .i64 g.d, .int .i64 g.i, .int .i64 g.c, .int .i64 g.t, .string g.s] rfl ?_) | fail)
                have hG := El.In.new (E := gfE) wr g #[.int .i64 g.d, .int .i64 g.i, .int .i64 g.c, .int .i64 g.t, .string g.s] rfl
                have hal := below_alloc (Below.refl wr.heap.size wr) (.cells #[.int .i64 g.d, .int .i64 g.i, .int .i64 g.c, .int .i64 g.t, .string g.s] 57)
                have h21 : bF < wr.heap.size := Nat.lt_of_lt_of_le hbF hB9.size
                replace s1 := ((bcell hal).1 bF (oF + 28 + 1) h21).trans s1
                replace hE := hE.below hal
                replace hB9 := below_then hB9 hal
                replace hB := below_then hB hal
                replace hG : gfE.In (wr.alloc (.cells #[.int .i64 g.d, .int .i64 g.i, .int .i64 g.c, .int .i64 g.t, .string g.s] 57)) wr.heap.size g := hG
                clear hal s13 hag ixg h21
                generalize wr.alloc (.cells #[.int .i64 g.d, .int .i64 g.i, .int .i64 g.c, .int .i64 g.t, .string g.s] 57) = W10 at *
                generalize wr.heap.size = n10 at *
                have q0 : W10.cell? ⟨n10, 0, none⟩ = some (.int .i64 3) := by rw [← HGD.out.1]; exact hG.cell 0
                go_upto_region 21 with fail
                go_quiet (fail)
                replace hE : ryE.In (W10.drewN nq) n2 z := hE
                replace hG : gfE.In (W10.drewN nq) n10 g := hG
                replace hB9 := below_drew hB9 nq
                replace hB := below_drew hB nq
                clear q0 s1
                generalize W10.drewN nq = W11 at *
                go_wp2_with fail
                go_loopw [11] (fun x wv => ∃ (i : Nat), i ≤ z.rs.length ∧ x = .int .i64 i ∧ ryE.In wv n2 z ∧ gfE.In wv n10 g ∧ Below w9.heap.size w9 wv ∧ Below w.heap.size w wv) (fun x _ => z.rs.length - (intOf x).toNat)
                case atStart => exact ⟨0, Nat.zero_le _, rfl, hE, hG, hB9, hB⟩
                case round =>
                  clear hE hG hB9 hB
                  obtain ⟨i, hi, rfl, hE, hG, hB9, hB⟩ := hrel
                  have s11 : wr.cell? ⟨n2, 11, none⟩ = some (.slice z.rA z.rs.length z.rc) := hE.cell 11
                  by_cases hil : i < z.rs.length
                  · have f3 : decide ((i : Int) < (z.rs.length : Int)) = true := decide_eq_true (by omega)
                    obtain ⟨br, or1, er, hbr, hcr⟩ := HZO.out.1 (by omega)
                    obtain ⟨x, hx⟩ : ∃ x, z.rs[i] = x := ⟨_, rfl⟩
                    have har : rpE.At wr br (or1 + i * 9) x := by
                      have h : rpE.At wr br (or1 + i * 9) z.rs[i] := (hcr i hil).below hB9 hbr
                      rw [hx] at h; exact h
                    have HNX := Lib.hid (HWT.out g HGD.out.2 x (by rw [← hx]; exact List.getElem_mem hil))
                    have ixr := rpIdxH (cap := z.rc) er hil
                    clear hx hcr hbr er
                    go_upto_region 27 with (first | (refine El.load rpRow rfl _ rfl br (or1 + i * 9) rfl x har #[.int .i64 x.d, .int .i64 x.i, .int .i64 x.b, .int .i64 x.t, .int .i64 x.m, .int .i64 x.p, .int .i64 x.c, .int .i64 x.s, .int .i64 x.k] rfl ?_) | fail)
                    have hX := El.In.new (E := rpE) wr x #[.int .i64 x.d, .int .i64 x.i, .int .i64 x.b, .int .i64 x.t, .int .i64 x.m, .int .i64 x.p, .int .i64 x.c, .int .i64 x.s, .int .i64 x.k] rfl
                    have hal := below_alloc (Below.refl wr.heap.size wr) (.cells #[.int .i64 x.d, .int .i64 x.i, .int .i64 x.b, .int .i64 x.t, .int .i64 x.m, .int .i64 x.p, .int .i64 x.c, .int .i64 x.s, .int .i64 x.k] 59)
                    replace hE := hE.below hal
                    replace hG := hG.below hal
                    replace hB9 := below_then hB9 hal
                    replace hB := below_then hB hal
                    clear hal s11 har ixr
                    replace hX : rpE.In (wr.alloc (.cells #[.int .i64 x.d, .int .i64 x.i, .int .i64 x.b, .int .i64 x.t, .int .i64 x.m, .int .i64 x.p, .int .i64 x.c, .int .i64 x.s, .int .i64 x.k] 59)) wr.heap.size x := hX
                    generalize wr.alloc (.cells #[.int .i64 x.d, .int .i64 x.i, .int .i64 x.b, .int .i64 x.t, .int .i64 x.m, .int .i64 x.p, .int .i64 x.c, .int .i64 x.s, .int .i64 x.k] 59) = W12 at *
                    generalize wr.heap.size = n12 at *
                    obtain ⟨x0, x1, _, _, x4, _⟩ := rpIn9 hX
                    obtain ⟨q0, q1, _⟩ := gfIn5 hG
                    rw [HGD.out.1] at q0
                    clear hX
                    cases h1 : decide (x.d = 3) with
                    | false =>
                      have e1 : (x.d == 3) = false := h1
                      clear h1
                      go_wp2_with fail
                      go_roundw
                      case rel => exact ⟨i + 1, by omega, by go_num, hE, hG, hB9, hB⟩
                      case measure => simp [intOf]; omega
                    | true =>
                      have e1 : (x.d == 3) = true := h1
                      have HXD := Lib.hid (show x.d = g.d by rw [HGD.out.1]; exact of_decide_eq_true h1)
                      have h2 : decide (g.i < x.i) = false := decide_eq_false (fun h => HNX.out ⟨HXD.out, Or.inl h⟩)
                      cases h3 : decide (x.i = g.i) with
                      | false =>
                        have e3 : (x.i == g.i) = false := h3
                        clear h1
                        go_wp2_with fail
                        go_roundw
                        case rel => exact ⟨i + 1, by omega, by go_num, hE, hG, hB9, hB⟩
                        case measure => simp [intOf]; omega
                      | true =>
                        have e3 : (x.i == g.i) = true := h3
                        have hm : x.m ≠ 1 := fun h => HNX.out ⟨HXD.out, Or.inr ⟨of_decide_eq_true h3, h⟩⟩
                        have h4 : decide (x.m = 1) = false := decide_eq_false hm
                        have e4 : (x.m == 1) = false := h4
                        clear hm
                        clear h1
                        go_wp2_with fail
                        go_roundw
                        case rel => exact ⟨i + 1, by omega, by go_num, hE, hG, hB9, hB⟩
                        case measure => simp [intOf]; omega
                  · have f3 : decide ((i : Int) < (z.rs.length : Int)) = false := decide_eq_false (by omega)
                    have f4 : decide (i < z.rs.length) = false := decide_eq_false hil
                    clear hi hil hG
                    go_wp2_with fail
                    go_roundw
                    case rel => exact ⟨j + 1, by omega, by go_num, by go_num, hE, hB9, hB⟩
                    case measure => simp [intOf]; omega
              · have hje : j = N2 := by omega
                have f1 : decide ((j : Int) < (N2 : Int)) = false := decide_eq_false (by omega)
                have f2 : decide (j < N2) = false := decide_eq_false hjl
                have HJE := Lib.hid hje
                clear hj hjl hje
                go_wp2_with fail
                go_roundw
                case rel => exact ⟨_, _, Or.inr (Or.inr ⟨rfl, by rw [HJE.out]⟩), rfl, rfl, hE, hB9, hB⟩
                case measure => simp [intOf]
          · simp only [show ((3 : Nat) : Int) = (3 : Int) from rfl]
            go_wp2_with fail
            refine (HA _).mono ?_
            rintro e wA ⟨rfl, hbA⟩
            replace hE := hE.below hbA
            replace hB := below_then hB hbA
            have c12 : wA.cell? ⟨n2, 12, none⟩ = some (.slice z.gA z.gs.length z.gc) := hE.cell 12
            have hgl := HNN.out.1
            rw [← hgl] at c12
            have f7 : decide (((N1 + N2 : Nat) : Int) ≤ 2) = true := decide_eq_true (by omega)
            clear hgl hE hbA
            obtain ⟨NN, hNN⟩ : ∃ NN, N1 + N2 = NN := ⟨_, rfl⟩
            rw [hNN] at c12 f7 ⊢
            clear hNN
            go_wp2_with fail
            go_ret
            exact ⟨rfl, hB⟩
end Go.Proofs.Ytnglpkfkepfkkaa

namespace Go.Proofs.Ytnglpkfkepfkkaa
open Go.ChangeShapes Go.WideShapes Go.ChangeAt Go.RowKit Go.Deep Nam Cod Pln
set_option maxRecDepth 100000 in
theorem gives19_lifted (os : Os) (started : os.Started) (H : Type) (enc : TypeId × Value → H) :
    ReturnsInHanded {} Try.checked os 4 .any (Rows.relayGivesSpec.pre6 enc Try.prog Try.f4 Rows.relayGivesRow.domain false) (Rows.relayGivesSpec.post enc Try.prog Try.f4 false true false false) := by
  refine handed_sized19 (C := Try.checked) own started (by kernel_rfl) Try.func4
    (ChangeSpec.witness6 (enc := enc) (C := Try.checked) false ⟨#[], #[.slice none 0 0], []⟩ 8 (by kernel_rfl) (by kernel_rfl) (by kernel_rfl) (by kernel_rfl)) ?_
  intro W base args ds gs before hval0 hW hL0
  have hval : ∀ (j : Nat) t v, Try.f4.params[j]? = some t → args[j]? = some v → Value.okWide Try.prog W .any base t v := hval0
  have hW' := hW
  obtain ⟨p, q, hA0, hV, rfl, _, _⟩ := hW
  have hA : DataW.TrodAll enc Try.prog W 0 (fun _ => true) true Try.f4.params.toList args.toList ds p := hA0
  rw [Try.params4] at hA hval
  obtain ⟨v0, d0, rfl, rfl, h0⟩ := trodAll_one hA
  simp only [Try.params4, List.cons_append, List.nil_append, DataW.weightsEach, List.all_append, Bool.and_eq_true] at hL0
  obtain ⟨A, c, l, rfl, hS, hn⟩ := open_frs (hval 0 22 v0 rfl rfl) h0 hL0.1
  have hc : Calls Try.prog 4 #[.slice A l.length c] W fun e w' => e = .returned (.bool true) ∧ Below W.heap.size W w' := by
    exact gives19_any relayCalls (fun wx => awake19_any relayCalls wx) A c l W hS hn
  refine hc.mono fun e W' ⟨he, hb⟩ => ?_
  subst he
  exact ⟨_, rfl, Frm.law_post (by kernel_rfl) (by kernel_rfl) (by kernel_rfl) Try.underlying4 rfl rfl hW' hb⟩

theorem gives19_holds : Rows.RelayGivesSaid :=
  OpenClaim.holds_of_wide 4 Try.f4 rfl rfl rfl rfl rfl rfl rfl ⟨rfl, rfl, rfl, rfl, rfl⟩ rfl rfl rfl rfl rfl (by kernel_rfl) Try.func4 (by kernel_rfl)
    (of_decide_eq_true (by kernel_rfl)) (by unfold Func.isWrapper; first | (rw [if_pos (by decide +kernel)]; kernel_rfl) | (rw [if_neg (by decide +kernel)]; exact ⟨rfl, rfl⟩))
    (fun os started H enc _ => gives19_lifted os started H enc)
end Go.Proofs.Ytnglpkfkepfkkaa
