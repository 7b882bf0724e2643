/- GiftThaws is proved: what any text thaws to is the document's answer. No condition. -/
import Derived.Test.YtfpgfclmmdihjaaGreatB08
namespace Go.Proofs.YtfpgfclmmdihjaaGreat
open Go.ChangeShapes Go.WideShapes Go.ChangeAt Go.RowKit Go.Deep Nam Cod Tre Pst

theorem El.quiet_load {α : Type} {E : El α} {P : Program} (R : El.Row E P) {C : World → Prop} {o : Oper} {a : Act} {K : Act → Prop} (x : Operand) (ho : o.op = .load E.e x) (b off : Nat) (hx : a.eval x = .pointer (some ⟨b, off, none⟩)) (p : α) (hg : ∀ w, C w → E.At w b off p) (cs : Array Value) (hc : cs = (E.c p).toArray) (h : K (a.put o.dst (.agg cs))) : o.quiet P a C K := by
  subst hc
  refine ⟨.agg (E.c p).toArray, fun w hw => ?_, h⟩
  unfold Oper.quietAt execOp
  simp only [ho, hx, Instr.loadAt, Instr.sureAddr, Sem.run_bind, Sem.run_pure, Result.andThen_ok, El.run_load R (hg w hw)]
  exact ⟨rfl, rfl⟩
theorem past_few {s : ByteArray} {p q : Nat} {bad : Bool} {V : Pv} (h : isPast s p bad = some (V, q)) (hs : s.size ≤ 3000) : V.base.length ≤ 62 ∧ V.ops.length ≤ 430 ∧ V.us.length ≤ 430 ∧ V.now.length ≤ 500 := by
  unfold isPast at h
  simp only [Option.bind_eq_some_iff] at h
  obtain ⟨a, ha, b, _, c, hc, h⟩ := h
  split at h
  · injection h with h
    injection h with h _
    subst h
    have h1 : a.1.length ≤ 62 := tree_len (isTree_tree (show isTree s p bad = some (a.1, a.2) from ha))
    have h2 : c.1.length ≤ 430 := part_few (show opK.isPart 4096 s b.2 false = some (c.1, c.2) from hc) hs
    have h3 := foldL_len1 a.1 (mvs c.1)
    have h4 := foldL_len a.1 (mvs c.1)
    have h5 : (mvs c.1).length = c.1.length := by simp [mvs]
    refine ⟨h1, h2, ?_, ?_⟩
    · show (foldL a.1 (mvs c.1)).2.length ≤ 430
      omega
    · show (foldL a.1 (mvs c.1)).1.length ≤ 500
      omega
  · cases h
theorem snapP_few {s : ByteArray} (hs : s.size ≤ 3000) : ∀ V q, isSnapP s = some (V, q) → V.ops.length ≤ 800 := fun V q h => by
  unfold isSnapP at h
  simp only [Option.bind_eq_some_iff] at h
  obtain ⟨a, _, b, _, h⟩ := h
  have := (past_few h hs).2.1
  omega
theorem snap_small {s : ByteArray} {x : Sn} (hs : s.size ≤ 3000) (h : isSnap s = some x) : x.p.base.length ≤ 50000 ∧ x.p.ops.length ≤ 50000 ∧ x.p.us.length ≤ 50000 ∧ x.p.now.length ≤ 50000 ∧ x.l.length ≤ 50000 := by
  unfold isSnap at h
  simp only [Option.bind_eq_some_iff] at h
  obtain ⟨a, _, b, _, c, hc, d, hd, h⟩ := h
  split at h
  · injection h with h
    subst h
    obtain ⟨h1, h2, h3, h4⟩ := past_few (show isPast s b.2 false = some (c.1, c.2) from hc) hs
    have h5 : d.1.length ≤ 12 := by
      unfold isCns at hd
      rw [Option.bind_eq_some_iff] at hd
      obtain ⟨e, he, hd⟩ := hd
      split at hd
      · injection hd with hd
        subst hd
        have := (cnK.part_bytes (show cnK.isPart 12 s c.2 false = some (e.1, e.2) from he)).1
        omega
      · cases hd
    exact ⟨by show c.1.base.length ≤ _; omega, by show c.1.ops.length ≤ _; omega, by show c.1.us.length ≤ _; omega, by show c.1.now.length ≤ _; omega, by show d.1.length ≤ _; omega⟩
  · cases h
theorem two_alike {s : ByteArray} {x y : Sw} {b1 b2 : Bool} (hs : s.size ≤ 3000) (h1 : (isSnap s = some x.v ∧ b1 = true) ∨ (isSnap s = none ∧ x = Sw.zero ∧ b1 = false)) (h2 : (isSnap s = some y.v ∧ b2 = true) ∨ (isSnap s = none ∧ y = Sw.zero ∧ b2 = false)) :
    b1 = b2 ∧ x.v = y.v ∧ x.y.base.length ≤ 50000 ∧ x.y.ops.length ≤ 50000 ∧ x.y.us.length ≤ 50000 ∧ x.y.now.length ≤ 50000 ∧ x.l.length ≤ 50000 := by
  rcases h1 with ⟨h1, rfl⟩ | ⟨h1, rfl, rfl⟩
  · rcases h2 with ⟨h2, rfl⟩ | ⟨h2, rfl, rfl⟩
    · rw [h1] at h2
      exact ⟨rfl, Option.some.inj h2, snap_small hs h1⟩
    · rw [h1] at h2; cases h2
  · rcases h2 with ⟨h2, rfl⟩ | ⟨h2, rfl, rfl⟩
    · rw [h1] at h2; cases h2
    · exact ⟨rfl, rfl, Nat.zero_le _, Nat.zero_le _, Nat.zero_le _, Nat.zero_le _, Nat.zero_le _⟩
set_option maxRecDepth 100000 in
set_option maxHeartbeats 16000000 in
theorem thaws17_yes (H : GiftCalls) (s : ByteArray) (x0 x1 : Int) (r : Rp) (w : World) (hs : s.size ≤ 3000) (hx0 : i64 x0) (hx1 : i64 x1) (hz : x0 ≤ 1099511627776) : Calls Tryz.prog 3 #[.string s, .agg #[.int .i64 x0, .int .i64 x1], .agg #[.int .i64 r.d, .int .i64 r.i, .int .i64 r.b, .int .i64 r.t, .int .i64 r.m, .int .i64 r.p, .int .i64 r.c, .int .i64 r.s, .int .i64 r.k]] w fun e w' => e = .returned (.bool true) ∧ Below w.heap.size w w' := by
  have hP : rpE.In ((w.alloc (.cells #[.int .i64 x0, .int .i64 x1] 22)).alloc (.cells #[.int .i64 r.d, .int .i64 r.i, .int .i64 r.b, .int .i64 r.t, .int .i64 r.m, .int .i64 r.p, .int .i64 r.c, .int .i64 r.s, .int .i64 r.k] 24)) (w.heap.size + 1) r := by
    have h := El.In.new (E := rpE) (w.alloc (.cells #[.int .i64 x0, .int .i64 x1] 22)) r #[.int .i64 r.d, .int .i64 r.i, .int .i64 r.b, .int .i64 r.t, .int .i64 r.m, .int .i64 r.p, .int .i64 r.c, .int .i64 r.s, .int .i64 r.k] rfl
    rw [alloc_size] at h; exact h
  have hB := below_alloc (below_alloc (Below.refl w.heap.size w) (.cells #[.int .i64 x0, .int .i64 x1] 22)) (.cells #[.int .i64 r.d, .int .i64 r.i, .int .i64 r.b, .int .i64 r.t, .int .i64 r.m, .int .i64 r.p, .int .i64 r.c, .int .i64 r.s, .int .i64 r.k] 24)
  have hm0 : ((w.alloc (.cells #[.int .i64 x0, .int .i64 x1] 22)).alloc (.cells #[.int .i64 r.d, .int .i64 r.i, .int .i64 r.b, .int .i64 r.t, .int .i64 r.m, .int .i64 r.p, .int .i64 r.c, .int .i64 r.s, .int .i64 r.k] 24)).cell? ⟨w.heap.size, 0, none⟩ = some (.int .i64 x0) := by go_simp
  have hm1 : ((w.alloc (.cells #[.int .i64 x0, .int .i64 x1] 22)).alloc (.cells #[.int .i64 r.d, .int .i64 r.i, .int .i64 r.b, .int .i64 r.t, .int .i64 r.m, .int .i64 r.p, .int .i64 r.c, .int .i64 r.s, .int .i64 r.k] 24)).cell? ⟨w.heap.size, 1, none⟩ = some (.int .i64 x1) := by go_simp
  have e1 : decide ((3000 : Int) < (s.size : Int)) = false := decide_eq_false (by omega)
  have e2 : decide (3000 < s.size) = false := decide_eq_false (by omega)
  have e3 : decide ((1099511627776 : Int) < x0) = false := decide_eq_false (by omega)
  go_enter Tryz.func3, Tryz.ntmps3
  go_upto_region 1 with fail
  generalize (w.alloc (.cells #[.int .i64 x0, .int .i64 x1] 22)).alloc (.cells #[.int .i64 r.d, .int .i64 r.i, .int .i64 r.b, .int .i64 r.t, .int .i64 r.m, .int .i64 r.p, .int .i64 r.c, .int .i64 r.s, .int .i64 r.k] 24) = W at *
  obtain ⟨n2, hn2⟩ : ∃ n, w.heap.size + 1 = n := ⟨_, rfl⟩
  obtain ⟨n1, hn1⟩ : ∃ n, w.heap.size = n := ⟨_, rfl⟩
  rw [hn2] at hP ⊢
  rw [hn1] at hm0 hm1 ⊢
  clear hn1 hn2
  have hw1 : n1 < W.heap.size := World.block_lt_of_cell? _ _ hm0
  go_wp2_with fail
  refine (H.thaw s W (by omega) (snapP_few hs)).mono ?_
  rintro e w1 ⟨x, b1, rfl, hx, hb1, hv1⟩
  replace hm0 := ((bcell hb1).1 n1 0 hw1).trans hm0
  replace hm1 := ((bcell hb1).1 n1 1 hw1).trans hm1
  replace hP := hP.below hb1
  replace hw1 := Nat.lt_of_lt_of_le hw1 hb1.size
  replace hB := below_then hB hb1
  have HV1 := Lib.hid hv1
  clear hb1 e1 e2 e3 hv1
  -- w1 world, x value, hX its name of In, n7 block's name, 4 region, V3 world's new name
  have hZ : stE.In (w1.alloc (.cells #[.int .i64 0, .int .i64 0, .int .i64 0, .int .i64 0, .int .i64 0, .int .i64 0, .slice none 0 0, .int .i64 0, .int .i64 0, .slice none 0 0, .slice none 0 0, .slice none 0 0, .slice none 0 0, .slice none 0 0, .slice none 0 0, .int .i64 0, .slice none 0 0, .slice none 0 0, .slice none 0 0, .slice none 0 0, .int .i64 0, .int .i64 0, .int .i64 0, .int .i64 0, .slice none 0 0, .int .i64 0] 43)) w1.heap.size Sw.zero := El.In.new (E := stE) w1 Sw.zero _ rfl
  have hal := below_alloc (Below.refl w1.heap.size w1) (.cells #[.int .i64 0, .int .i64 0, .int .i64 0, .int .i64 0, .int .i64 0, .int .i64 0, .slice none 0 0, .int .i64 0, .int .i64 0, .slice none 0 0, .slice none 0 0, .slice none 0 0, .slice none 0 0, .slice none 0 0, .slice none 0 0, .int .i64 0, .slice none 0 0, .slice none 0 0, .slice none 0 0, .slice none 0 0, .int .i64 0, .int .i64 0, .int .i64 0, .int .i64 0, .slice none 0 0, .int .i64 0] 43)
  go_upto_region 4 with (first | (refine wpList_alloc_st rfl rfl ?_) | (refine El.store stRow rfl _ _ rfl w1.heap.size x #[.int .i64 0, .int .i64 0, .int .i64 0, .int .i64 x.pos, .int .i64 x.y.t, .int .i64 x.pos, .slice none 0 0, .int .i64 0, .int .i64 0, .slice none 0 0, .slice none 0 0, .slice none 0 0, .slice none 0 0, .slice none 0 0, .slice x.y.bA x.y.base.length x.y.bc, .int .i64 x.y.t, .slice x.y.oA x.y.ops.length x.y.oc, .slice x.y.uA x.y.us.length x.y.uc, .slice x.y.wA x.y.now.length x.y.wc, .slice x.cA x.l.length x.cc, .int .i64 0, .int .i64 0, .int .i64 x.clock, .int .i64 0, .slice none 0 0, .int .i64 0] rfl rfl rfl Sw.zero hZ ?_) | fail)
  have hX : stE.In ((w1.alloc (.cells #[.int .i64 0, .int .i64 0, .int .i64 0, .int .i64 0, .int .i64 0, .int .i64 0, .slice none 0 0, .int .i64 0, .int .i64 0, .slice none 0 0, .slice none 0 0, .slice none 0 0, .slice none 0 0, .slice none 0 0, .slice none 0 0, .int .i64 0, .slice none 0 0, .slice none 0 0, .slice none 0 0, .slice none 0 0, .int .i64 0, .int .i64 0, .int .i64 0, .int .i64 0, .slice none 0 0, .int .i64 0] 43)).setRow w1.heap.size #[.int .i64 0, .int .i64 0, .int .i64 0, .int .i64 x.pos, .int .i64 x.y.t, .int .i64 x.pos, .slice none 0 0, .int .i64 0, .int .i64 0, .slice none 0 0, .slice none 0 0, .slice none 0 0, .slice none 0 0, .slice none 0 0, .slice x.y.bA x.y.base.length x.y.bc, .int .i64 x.y.t, .slice x.y.oA x.y.ops.length x.y.oc, .slice x.y.uA x.y.us.length x.y.uc, .slice x.y.wA x.y.now.length x.y.wc, .slice x.cA x.l.length x.cc, .int .i64 0, .int .i64 0, .int .i64 x.clock, .int .i64 0, .slice none 0 0, .int .i64 0]) w1.heap.size x := hZ.set x _ rfl
  have hbs := below_setRow hal (Nat.le_refl _) #[.int .i64 0, .int .i64 0, .int .i64 0, .int .i64 x.pos, .int .i64 x.y.t, .int .i64 x.pos, .slice none 0 0, .int .i64 0, .int .i64 0, .slice none 0 0, .slice none 0 0, .slice none 0 0, .slice none 0 0, .slice none 0 0, .slice x.y.bA x.y.base.length x.y.bc, .int .i64 x.y.t, .slice x.y.oA x.y.ops.length x.y.oc, .slice x.y.uA x.y.us.length x.y.uc, .slice x.y.wA x.y.now.length x.y.wc, .slice x.cA x.l.length x.cc, .int .i64 0, .int .i64 0, .int .i64 x.clock, .int .i64 0, .slice none 0 0, .int .i64 0]
  replace hm0 := ((bcell hbs).1 n1 0 hw1).trans hm0
  replace hm1 := ((bcell hbs).1 n1 1 hw1).trans hm1
  replace hP := hP.below hbs
  replace hx := hx.below hbs
  replace hw1 := Nat.lt_of_lt_of_le hw1 hbs.size
  replace hB := below_then hB hbs
  clear hZ hal hbs
  generalize (w1.alloc (.cells #[.int .i64 0, .int .i64 0, .int .i64 0, .int .i64 0, .int .i64 0, .int .i64 0, .slice none 0 0, .int .i64 0, .int .i64 0, .slice none 0 0, .slice none 0 0, .slice none 0 0, .slice none 0 0, .slice none 0 0, .slice none 0 0, .int .i64 0, .slice none 0 0, .slice none 0 0, .slice none 0 0, .slice none 0 0, .int .i64 0, .int .i64 0, .int .i64 0, .int .i64 0, .slice none 0 0, .int .i64 0] 43)).setRow w1.heap.size #[.int .i64 0, .int .i64 0, .int .i64 0, .int .i64 x.pos, .int .i64 x.y.t, .int .i64 x.pos, .slice none 0 0, .int .i64 0, .int .i64 0, .slice none 0 0, .slice none 0 0, .slice none 0 0, .slice none 0 0, .slice none 0 0, .slice x.y.bA x.y.base.length x.y.bc, .int .i64 x.y.t, .slice x.y.oA x.y.ops.length x.y.oc, .slice x.y.uA x.y.us.length x.y.uc, .slice x.y.wA x.y.now.length x.y.wc, .slice x.cA x.l.length x.cc, .int .i64 0, .int .i64 0, .int .i64 x.clock, .int .i64 0, .slice none 0 0, .int .i64 0] = V3 at *
  generalize w1.heap.size = n7 at *
  go_wp2_with fail
  refine (refThaw_any s V3 hs).mono ?_
  rintro e w2 ⟨y, b2, rfl, hy, hb2, hv2⟩
  replace hm0 := ((bcell hb2).1 n1 0 hw1).trans hm0
  replace hm1 := ((bcell hb2).1 n1 1 hw1).trans hm1
  replace hP := hP.below hb2
  replace hX := hX.below hb2
  replace hx := hx.below hb2
  replace hw1 := Nat.lt_of_lt_of_le hw1 hb2.size
  replace hB := below_then hB hb2
  obtain ⟨hbb, hvv, l1, l2, l3, l4, l5⟩ := two_alike hs HV1.out hv2
  clear hb2 hv2 HV1
  subst hbb
  have HSM := Lib.hid (fun (wx : World) (hb : Below w2.heap.size w2 wx) => same17_any x y wx (hx.below hb) (hy.below hb) hvv l1 l2 l3 l4 l5)
  clear hvv l1 l2 l3 l4 l5 hx hy
  -- w2 world, y value, hY its name of In, n9 block's name, 5 region, V4 world's new name
  have hZ : stE.In (w2.alloc (.cells #[.int .i64 0, .int .i64 0, .int .i64 0, .int .i64 0, .int .i64 0, .int .i64 0, .slice none 0 0, .int .i64 0, .int .i64 0, .slice none 0 0, .slice none 0 0, .slice none 0 0, .slice none 0 0, .slice none 0 0, .slice none 0 0, .int .i64 0, .slice none 0 0, .slice none 0 0, .slice none 0 0, .slice none 0 0, .int .i64 0, .int .i64 0, .int .i64 0, .int .i64 0, .slice none 0 0, .int .i64 0] 43)) w2.heap.size Sw.zero := El.In.new (E := stE) w2 Sw.zero _ rfl
  have hal := below_alloc (Below.refl w2.heap.size w2) (.cells #[.int .i64 0, .int .i64 0, .int .i64 0, .int .i64 0, .int .i64 0, .int .i64 0, .slice none 0 0, .int .i64 0, .int .i64 0, .slice none 0 0, .slice none 0 0, .slice none 0 0, .slice none 0 0, .slice none 0 0, .slice none 0 0, .int .i64 0, .slice none 0 0, .slice none 0 0, .slice none 0 0, .slice none 0 0, .int .i64 0, .int .i64 0, .int .i64 0, .int .i64 0, .slice none 0 0, .int .i64 0] 43)
  go_upto_region 5 with (first | (refine wpList_alloc_st rfl rfl ?_) | (refine El.store stRow rfl _ _ rfl w2.heap.size y #[.int .i64 0, .int .i64 0, .int .i64 0, .int .i64 y.pos, .int .i64 y.y.t, .int .i64 y.pos, .slice none 0 0, .int .i64 0, .int .i64 0, .slice none 0 0, .slice none 0 0, .slice none 0 0, .slice none 0 0, .slice none 0 0, .slice y.y.bA y.y.base.length y.y.bc, .int .i64 y.y.t, .slice y.y.oA y.y.ops.length y.y.oc, .slice y.y.uA y.y.us.length y.y.uc, .slice y.y.wA y.y.now.length y.y.wc, .slice y.cA y.l.length y.cc, .int .i64 0, .int .i64 0, .int .i64 y.clock, .int .i64 0, .slice none 0 0, .int .i64 0] rfl rfl rfl Sw.zero hZ ?_) | fail)
  have hY : stE.In ((w2.alloc (.cells #[.int .i64 0, .int .i64 0, .int .i64 0, .int .i64 0, .int .i64 0, .int .i64 0, .slice none 0 0, .int .i64 0, .int .i64 0, .slice none 0 0, .slice none 0 0, .slice none 0 0, .slice none 0 0, .slice none 0 0, .slice none 0 0, .int .i64 0, .slice none 0 0, .slice none 0 0, .slice none 0 0, .slice none 0 0, .int .i64 0, .int .i64 0, .int .i64 0, .int .i64 0, .slice none 0 0, .int .i64 0] 43)).setRow w2.heap.size #[.int .i64 0, .int .i64 0, .int .i64 0, .int .i64 y.pos, .int .i64 y.y.t, .int .i64 y.pos, .slice none 0 0, .int .i64 0, .int .i64 0, .slice none 0 0, .slice none 0 0, .slice none 0 0, .slice none 0 0, .slice none 0 0, .slice y.y.bA y.y.base.length y.y.bc, .int .i64 y.y.t, .slice y.y.oA y.y.ops.length y.y.oc, .slice y.y.uA y.y.us.length y.y.uc, .slice y.y.wA y.y.now.length y.y.wc, .slice y.cA y.l.length y.cc, .int .i64 0, .int .i64 0, .int .i64 y.clock, .int .i64 0, .slice none 0 0, .int .i64 0]) w2.heap.size y := hZ.set y _ rfl
  have hbs := below_setRow hal (Nat.le_refl _) #[.int .i64 0, .int .i64 0, .int .i64 0, .int .i64 y.pos, .int .i64 y.y.t, .int .i64 y.pos, .slice none 0 0, .int .i64 0, .int .i64 0, .slice none 0 0, .slice none 0 0, .slice none 0 0, .slice none 0 0, .slice none 0 0, .slice y.y.bA y.y.base.length y.y.bc, .int .i64 y.y.t, .slice y.y.oA y.y.ops.length y.y.oc, .slice y.y.uA y.y.us.length y.y.uc, .slice y.y.wA y.y.now.length y.y.wc, .slice y.cA y.l.length y.cc, .int .i64 0, .int .i64 0, .int .i64 y.clock, .int .i64 0, .slice none 0 0, .int .i64 0]
  replace hm0 := ((bcell hbs).1 n1 0 hw1).trans hm0
  replace hm1 := ((bcell hbs).1 n1 1 hw1).trans hm1
  replace hP := hP.below hbs
  replace hX := hX.below hbs
  replace hw1 := Nat.lt_of_lt_of_le hw1 hbs.size
  replace hB := below_then hB hbs
  have hq := hbs
  clear hZ hal hbs
  generalize (w2.alloc (.cells #[.int .i64 0, .int .i64 0, .int .i64 0, .int .i64 0, .int .i64 0, .int .i64 0, .slice none 0 0, .int .i64 0, .int .i64 0, .slice none 0 0, .slice none 0 0, .slice none 0 0, .slice none 0 0, .slice none 0 0, .slice none 0 0, .int .i64 0, .slice none 0 0, .slice none 0 0, .slice none 0 0, .slice none 0 0, .int .i64 0, .int .i64 0, .int .i64 0, .int .i64 0, .slice none 0 0, .int .i64 0] 43)).setRow w2.heap.size #[.int .i64 0, .int .i64 0, .int .i64 0, .int .i64 y.pos, .int .i64 y.y.t, .int .i64 y.pos, .slice none 0 0, .int .i64 0, .int .i64 0, .slice none 0 0, .slice none 0 0, .slice none 0 0, .slice none 0 0, .slice none 0 0, .slice y.y.bA y.y.base.length y.y.bc, .int .i64 y.y.t, .slice y.y.oA y.y.ops.length y.y.oc, .slice y.y.uA y.y.us.length y.y.uc, .slice y.y.wA y.y.now.length y.y.wc, .slice y.cA y.l.length y.cc, .int .i64 0, .int .i64 0, .int .i64 y.clock, .int .i64 0, .slice none 0 0, .int .i64 0] = V4 at *
  have HSQ := Lib.hid (fun (wx : World) (hb : Below V4.heap.size V4 wx) => HSM.out wx (below_then hq hb))
  clear hq HSM
  generalize w2.heap.size = n9 at *
  have hC := Below.refl V4.heap.size V4
  obtain ⟨r0, r1, r2, r3, r4, r5, r6, r7, r8⟩ := rpIn9 hP
  go_wp2_with fail
  refine (H.cut s x0 x1 r V4 (by omega) hx0 hz hx1).mono ?_
  rintro e w3 ⟨g, pb, hg1, rfl, hb⟩
  clear r0 r1 r2 r3 r4 r5 r6 r7 r8
  replace hm0 := ((bcell hb).1 n1 0 hw1).trans hm0
  replace hm1 := ((bcell hb).1 n1 1 hw1).trans hm1
  replace hP := hP.below hb
  replace hX := hX.below hb
  replace hY := hY.below hb
  replace hw1 := Nat.lt_of_lt_of_le hw1 hb.size
  replace hB := below_then hB hb
  replace hC := below_then hC hb
  clear hb
  have hZ : gfE.In (w3.alloc (.cells #[.int .i64 0, .int .i64 0, .int .i64 0, .int .i64 0, .string ⟨#[]⟩] 47)) w3.heap.size zeroGf := El.In.new (E := gfE) w3 zeroGf _ rfl
  have hal := below_alloc (Below.refl w3.heap.size w3) (.cells #[.int .i64 0, .int .i64 0, .int .i64 0, .int .i64 0, .string ⟨#[]⟩] 47)
  go_upto_region 6 with (first | (refine El.store gfRow rfl _ _ rfl w3.heap.size g #[.int .i64 g.d, .int .i64 g.i, .int .i64 g.c, .int .i64 g.t, .string g.s] rfl rfl rfl zeroGf hZ ?_) | fail)
  have hG1 : gfE.In ((w3.alloc (.cells #[.int .i64 0, .int .i64 0, .int .i64 0, .int .i64 0, .string ⟨#[]⟩] 47)).setRow w3.heap.size #[.int .i64 g.d, .int .i64 g.i, .int .i64 g.c, .int .i64 g.t, .string g.s]) w3.heap.size g := hZ.set g _ rfl
  have hbs := below_setRow hal (Nat.le_refl _) #[.int .i64 g.d, .int .i64 g.i, .int .i64 g.c, .int .i64 g.t, .string g.s]
  replace hm0 := ((bcell hbs).1 n1 0 hw1).trans hm0
  replace hm1 := ((bcell hbs).1 n1 1 hw1).trans hm1
  replace hP := hP.below hbs
  replace hX := hX.below hbs
  replace hY := hY.below hbs
  replace hw1 := Nat.lt_of_lt_of_le hw1 hbs.size
  replace hB := below_then hB hbs
  replace hC := below_then hC hbs
  clear hZ hal hbs
  generalize (w3.alloc (.cells #[.int .i64 0, .int .i64 0, .int .i64 0, .int .i64 0, .string ⟨#[]⟩] 47)).setRow w3.heap.size #[.int .i64 g.d, .int .i64 g.i, .int .i64 g.c, .int .i64 g.t, .string g.s] = V5 at *
  generalize w3.heap.size = n11 at *
  obtain ⟨r0, r1, r2, r3, r4, r5, r6, r7, r8⟩ := rpIn9 hP
  go_wp2_with fail
  refine (refCut_any s x0 x1 r V5 (by omega) hx0 hz hx1).mono ?_
  rintro e w4 ⟨g2, pb2, hg2, rfl, hb⟩
  clear r0 r1 r2 r3 r4 r5 r6 r7 r8
  replace hm0 := ((bcell hb).1 n1 0 hw1).trans hm0
  replace hm1 := ((bcell hb).1 n1 1 hw1).trans hm1
  replace hP := hP.below hb
  replace hX := hX.below hb
  replace hY := hY.below hb
  replace hw1 := Nat.lt_of_lt_of_le hw1 hb.size
  replace hB := below_then hB hb
  replace hC := below_then hC hb
  replace hG1 := hG1.below hb
  clear hb
  have hZ : gfE.In (w4.alloc (.cells #[.int .i64 0, .int .i64 0, .int .i64 0, .int .i64 0, .string ⟨#[]⟩] 47)) w4.heap.size zeroGf := El.In.new (E := gfE) w4 zeroGf _ rfl
  have hal := below_alloc (Below.refl w4.heap.size w4) (.cells #[.int .i64 0, .int .i64 0, .int .i64 0, .int .i64 0, .string ⟨#[]⟩] 47)
  go_upto_region 7 with (first | (refine El.store gfRow rfl _ _ rfl w4.heap.size g2 #[.int .i64 g2.d, .int .i64 g2.i, .int .i64 g2.c, .int .i64 g2.t, .string g2.s] rfl rfl rfl zeroGf hZ ?_) | fail)
  have hG2 : gfE.In ((w4.alloc (.cells #[.int .i64 0, .int .i64 0, .int .i64 0, .int .i64 0, .string ⟨#[]⟩] 47)).setRow w4.heap.size #[.int .i64 g2.d, .int .i64 g2.i, .int .i64 g2.c, .int .i64 g2.t, .string g2.s]) w4.heap.size g2 := hZ.set g2 _ rfl
  have hbs := below_setRow hal (Nat.le_refl _) #[.int .i64 g2.d, .int .i64 g2.i, .int .i64 g2.c, .int .i64 g2.t, .string g2.s]
  replace hm0 := ((bcell hbs).1 n1 0 hw1).trans hm0
  replace hm1 := ((bcell hbs).1 n1 1 hw1).trans hm1
  replace hP := hP.below hbs
  replace hX := hX.below hbs
  replace hY := hY.below hbs
  replace hw1 := Nat.lt_of_lt_of_le hw1 hbs.size
  replace hB := below_then hB hbs
  replace hC := below_then hC hbs
  replace hG1 := hG1.below hbs
  clear hZ hal hbs
  generalize (w4.alloc (.cells #[.int .i64 0, .int .i64 0, .int .i64 0, .int .i64 0, .string ⟨#[]⟩] 47)).setRow w4.heap.size #[.int .i64 g2.d, .int .i64 g2.i, .int .i64 g2.c, .int .i64 g2.t, .string g2.s] = V6 at *
  generalize w4.heap.size = n13 at *
  have hgg := hg1.symm.trans hg2
  injection hgg with hgg hpb
  subst hgg hpb
  clear hg1 hg2 hP
  have HA := Lib.hid (fun wx => awake17_any H wx)
  have HK := Lib.hid (fun wx => H.chunks s x0 wx (by omega) hx0 hz)
  have HR := Lib.hid (fun wx => (refChunks_any s x0 wx (by omega) hx0 hz).mono (fun e w' h => (⟨h.1, by rw [← h.2]; exact Below.refl _ _⟩ : e = .returned (.int .i64 (chunksV s.size x0)) ∧ Below wx.heap.size wx w')))
  have HC := Lib.hid hC
  clear hC
  generalize chunksV s.size x0 = N at *
  have d1 : ∀ d' os, Calls Tryz.prog 4 #[] (Sort.grow (redrawn V6 d') os) fun e w'' => e = .returned (.bool true) ∧ ∃ p : Regrown, w'' = Sort.grow (redrawn V6 p.d) p.os := fun d' os => Calls.regrown_of (HA.out _)
  have d2 : ∀ d' os, Calls Tryz.prog 9 #[.agg #[.int .i64 0, .int .i64 0, .int .i64 0, .int .i64 x.pos, .int .i64 x.y.t, .int .i64 x.pos, .slice none 0 0, .int .i64 0, .int .i64 0, .slice none 0 0, .slice none 0 0, .slice none 0 0, .slice none 0 0, .slice none 0 0, .slice x.y.bA x.y.base.length x.y.bc, .int .i64 x.y.t, .slice x.y.oA x.y.ops.length x.y.oc, .slice x.y.uA x.y.us.length x.y.uc, .slice x.y.wA x.y.now.length x.y.wc, .slice x.cA x.l.length x.cc, .int .i64 0, .int .i64 0, .int .i64 x.clock, .int .i64 0, .slice none 0 0, .int .i64 0], .agg #[.int .i64 0, .int .i64 0, .int .i64 0, .int .i64 y.pos, .int .i64 y.y.t, .int .i64 y.pos, .slice none 0 0, .int .i64 0, .int .i64 0, .slice none 0 0, .slice none 0 0, .slice none 0 0, .slice none 0 0, .slice none 0 0, .slice y.y.bA y.y.base.length y.y.bc, .int .i64 y.y.t, .slice y.y.oA y.y.ops.length y.y.oc, .slice y.y.uA y.y.us.length y.y.uc, .slice y.y.wA y.y.now.length y.y.wc, .slice y.cA y.l.length y.cc, .int .i64 0, .int .i64 0, .int .i64 y.clock, .int .i64 0, .slice none 0 0, .int .i64 0]] (Sort.grow (redrawn V6 d') os) fun e w'' => e = .returned (.bool true) ∧ ∃ p : Regrown, w'' = Sort.grow (redrawn V6 p.d) p.os := fun d' os => Calls.regrown_of (HSQ.out _ (below_then HC.out (below_regrown V6 d' os)))
  have d3 : ∀ d' os, Calls Tryz.prog 10 #[.string s, .int .i64 x0] (Sort.grow (redrawn V6 d') os) fun e w'' => e = .returned (.int .i64 N) ∧ ∃ p : Regrown, w'' = Sort.grow (redrawn V6 p.d) p.os := fun d' os => Calls.regrown_of (HK.out _)
  have d4 : ∀ d' os, Calls Tryz.prog 11 #[.string s, .int .i64 x0] (Sort.grow (redrawn V6 d') os) fun e w'' => e = .returned (.int .i64 N) ∧ ∃ p : Regrown, w'' = Sort.grow (redrawn V6 p.d) p.os := fun d' os => Calls.regrown_of (HR.out _)
  have m0 := cell_regrown hm0
  have HX := Lib.hid (fun (w' : World) (h : ∃ p : Regrown, w' = Sort.grow (redrawn V6 p.d) p.os) => (by obtain ⟨p, rfl⟩ := h; exact (hX.below (below_regrown V6 p.d p.os)).at : stE.At w' n7 0 x))
  have HY := Lib.hid (fun (w' : World) (h : ∃ p : Regrown, w' = Sort.grow (redrawn V6 p.d) p.os) => (by obtain ⟨p, rfl⟩ := h; exact (hY.below (below_regrown V6 p.d p.os)).at : stE.At w' n9 0 y))
  have HG1 := Lib.hid (fun (w' : World) (h : ∃ p : Regrown, w' = Sort.grow (redrawn V6 p.d) p.os) => (by obtain ⟨p, rfl⟩ := h; exact (hG1.below (below_regrown V6 p.d p.os)).at : gfE.At w' n11 0 g))
  have HG2 := Lib.hid (fun (w' : World) (h : ∃ p : Regrown, w' = Sort.grow (redrawn V6 p.d) p.os) => (by obtain ⟨p, rfl⟩ := h; exact (hG2.below (below_regrown V6 p.d p.os)).at : gfE.At w' n13 0 g))
  clear hm0 hm1 hX hY hG1 hG2 HSQ HA HK HR HC
  refine wp_region_quiet_below (by kernel_rfl) (by as_aux_lemma => kernel_rfl) ?_
  repeat (first | (go_big_quiet_want; (first | (refine El.quiet_load stRow (.tmp 7) rfl n7 0 rfl x HX.out #[.int .i64 0, .int .i64 0, .int .i64 0, .int .i64 x.pos, .int .i64 x.y.t, .int .i64 x.pos, .slice none 0 0, .int .i64 0, .int .i64 0, .slice none 0 0, .slice none 0 0, .slice none 0 0, .slice none 0 0, .slice none 0 0, .slice x.y.bA x.y.base.length x.y.bc, .int .i64 x.y.t, .slice x.y.oA x.y.ops.length x.y.oc, .slice x.y.uA x.y.us.length x.y.uc, .slice x.y.wA x.y.now.length x.y.wc, .slice x.cA x.l.length x.cc, .int .i64 0, .int .i64 0, .int .i64 x.clock, .int .i64 0, .slice none 0 0, .int .i64 0] rfl ?_) | (refine El.quiet_load stRow (.tmp 9) rfl n9 0 rfl y HY.out #[.int .i64 0, .int .i64 0, .int .i64 0, .int .i64 y.pos, .int .i64 y.y.t, .int .i64 y.pos, .slice none 0 0, .int .i64 0, .int .i64 0, .slice none 0 0, .slice none 0 0, .slice none 0 0, .slice none 0 0, .slice none 0 0, .slice y.y.bA y.y.base.length y.y.bc, .int .i64 y.y.t, .slice y.y.oA y.y.ops.length y.y.oc, .slice y.y.uA y.y.us.length y.y.uc, .slice y.y.wA y.y.now.length y.y.wc, .slice y.cA y.l.length y.cc, .int .i64 0, .int .i64 0, .int .i64 y.clock, .int .i64 0, .slice none 0 0, .int .i64 0] rfl ?_) | (refine El.quiet_load gfRow (.tmp 11) rfl n11 0 rfl g HG1.out #[.int .i64 g.d, .int .i64 g.i, .int .i64 g.c, .int .i64 g.t, .string g.s] rfl ?_) | (refine El.quiet_load gfRow (.tmp 13) rfl n13 0 rfl g HG2.out #[.int .i64 g.d, .int .i64 g.i, .int .i64 g.c, .int .i64 g.t, .string g.s] rfl ?_)); go_big_quiet_on; try simp only [Act.put, List.setIfInBounds_toArray, List.set_cons_zero, List.set_cons_succ]) | go_big_quiet_step ((with_reducible (first | exact d1 _ _ | exact d2 _ _ | exact d3 _ _ | exact d4 _ _))))
  refine wpQuiet_nil ?_
  intro _ hw'
  obtain ⟨⟨dq, osq⟩, hw''⟩ := hw'
  subst hw''
  go_wp2_with fail
  go_ret
  exact ⟨rfl, below_then hB (below_regrown V6 dq osq)⟩
set_option maxRecDepth 100000 in
set_option maxHeartbeats 4000000 in
theorem thaws17_no (H : GiftCalls) (s : ByteArray) (x0 x1 : Int) (r : Rp) (w : World) (hsz : s.size ≤ 9223372036854775807) (h : 3000 < s.size ∨ 1099511627776 < x0) : Calls Tryz.prog 3 #[.string s, .agg #[.int .i64 x0, .int .i64 x1], .agg #[.int .i64 r.d, .int .i64 r.i, .int .i64 r.b, .int .i64 r.t, .int .i64 r.m, .int .i64 r.p, .int .i64 r.c, .int .i64 r.s, .int .i64 r.k]] w fun e w' => e = .returned (.bool true) ∧ Below w.heap.size w w' := by
  have hP : rpE.In ((w.alloc (.cells #[.int .i64 x0, .int .i64 x1] 22)).alloc (.cells #[.int .i64 r.d, .int .i64 r.i, .int .i64 r.b, .int .i64 r.t, .int .i64 r.m, .int .i64 r.p, .int .i64 r.c, .int .i64 r.s, .int .i64 r.k] 24)) (w.heap.size + 1) r := by
    have h := El.In.new (E := rpE) (w.alloc (.cells #[.int .i64 x0, .int .i64 x1] 22)) r #[.int .i64 r.d, .int .i64 r.i, .int .i64 r.b, .int .i64 r.t, .int .i64 r.m, .int .i64 r.p, .int .i64 r.c, .int .i64 r.s, .int .i64 r.k] rfl
    rw [alloc_size] at h; exact h
  have hB := below_alloc (below_alloc (Below.refl w.heap.size w) (.cells #[.int .i64 x0, .int .i64 x1] 22)) (.cells #[.int .i64 r.d, .int .i64 r.i, .int .i64 r.b, .int .i64 r.t, .int .i64 r.m, .int .i64 r.p, .int .i64 r.c, .int .i64 r.s, .int .i64 r.k] 24)
  have hm0 : ((w.alloc (.cells #[.int .i64 x0, .int .i64 x1] 22)).alloc (.cells #[.int .i64 r.d, .int .i64 r.i, .int .i64 r.b, .int .i64 r.t, .int .i64 r.m, .int .i64 r.p, .int .i64 r.c, .int .i64 r.s, .int .i64 r.k] 24)).cell? ⟨w.heap.size, 0, none⟩ = some (.int .i64 x0) := by go_simp
  clear hP
  go_enter Tryz.func3, Tryz.ntmps3
  go_upto_region 1 with fail
  generalize (w.alloc (.cells #[.int .i64 x0, .int .i64 x1] 22)).alloc (.cells #[.int .i64 r.d, .int .i64 r.i, .int .i64 r.b, .int .i64 r.t, .int .i64 r.m, .int .i64 r.p, .int .i64 r.c, .int .i64 r.s, .int .i64 r.k] 24) = W at *
  by_cases h1 : 3000 < s.size
  · have e1 : decide ((3000 : Int) < (s.size : Int)) = true := decide_eq_true (by omega)
    have e2 : decide (3000 < s.size) = true := decide_eq_true h1
    go_wp2_with fail
    refine (awake17_any H _).mono ?_
    rintro r w1 ⟨rfl, hb1⟩
    go_wp2_with fail
    go_ret
    exact ⟨rfl, below_then hB hb1⟩
  · have e1 : decide ((3000 : Int) < (s.size : Int)) = false := decide_eq_false (by omega)
    have e2 : decide (3000 < s.size) = false := decide_eq_false h1
    have e3 : decide ((1099511627776 : Int) < x0) = true := decide_eq_true (by omega)
    go_wp2_with fail
    refine (awake17_any H _).mono ?_
    rintro r w1 ⟨rfl, hb1⟩
    go_wp2_with fail
    go_ret
    exact ⟨rfl, below_then hB hb1⟩
set_option maxRecDepth 100000 in
theorem thaws17_lifted (H0 : GiftCalls) (os : Os) (started : os.Started) (H : Type) (enc : TypeId × Value → H) :
    ReturnsInHanded {} Tryz.checked os 3 .any (Rows.giftThawsSpec.pre6 enc Tryz.prog Tryz.f3 Rows.giftThawsRow.domain false) (Rows.giftThawsSpec.post enc Tryz.prog Tryz.f3 false true false false) := by
  refine returnsInHanded_of_change (C := Tryz.checked) own started (by kernel_rfl) Tryz.func3
    (ChangeSpec.witness6 (enc := enc) (C := Tryz.checked) false ⟨#[], #[.string ⟨#[]⟩, .agg #[.int .i64 0, .int .i64 0], .agg #[.int .i64 0, .int .i64 0, .int .i64 0, .int .i64 0, .int .i64 0, .int .i64 0, .int .i64 0, .int .i64 0, .int .i64 0]], []⟩ 8 (by kernel_rfl) (by kernel_rfl) (by kernel_rfl) (by kernel_rfl)) ?_
  intro W base args ds gs before hval0 hW _ _
  have hval : ∀ (j : Nat) t v, Tryz.f3.params[j]? = some t → args[j]? = some v → Value.okWide Tryz.prog W .any base t v := hval0
  have hW' := hW
  obtain ⟨p, q, hA0, hV, rfl, _, _⟩ := hW
  have hA : DataW.TrodAll enc Tryz.prog W 0 (fun _ => true) true Tryz.f3.params.toList args.toList ds p := hA0
  rw [Tryz.params3] at hA hval
  obtain ⟨v0, v1, v2, d0, d1, d2, p0, p1, p2, rfl, rfl, rfl, h0, h1, h2⟩ := trodAll_three hA
  obtain ⟨s, rfl, hsz⟩ := open_str (hval 0 9 v0 rfl rfl) h0
  obtain ⟨x0, x1, rfl, i0, i1⟩ := open_int2P (hval 1 22 v1 rfl rfl) h1
  obtain ⟨r, rfl, _⟩ := open_rp (hval 2 24 v2 rfl rfl) h2
  have hc : Calls Tryz.prog 3 #[.string s, .agg #[.int .i64 x0, .int .i64 x1], .agg #[.int .i64 r.d, .int .i64 r.i, .int .i64 r.b, .int .i64 r.t, .int .i64 r.m, .int .i64 r.p, .int .i64 r.c, .int .i64 r.s, .int .i64 r.k]] W fun e w' => e = .returned (.bool true) ∧ Below W.heap.size W w' := by
    by_cases h : s.size ≤ 3000 ∧ x0 ≤ 1099511627776
    · exact thaws17_yes H0 s x0 x1 r W h.1 i0 i1 h.2
    · exact thaws17_no H0 s x0 x1 r W (by unfold maxLen at hsz; omega) (by omega)
  refine hc.mono fun e W' ⟨he, hb⟩ => ?_
  subst he
  exact ⟨_, rfl, Frm.law_post (by kernel_rfl) (by kernel_rfl) (by kernel_rfl) Tryz.underlying4 rfl rfl hW' hb⟩

theorem thaws17_holds (H0 : GiftCalls) : Rows.GiftThawsSaid :=
  OpenClaim.holds_of_wide 3 Tryz.f3 rfl rfl rfl rfl rfl rfl rfl ⟨rfl, rfl, rfl, rfl, rfl⟩ rfl rfl rfl rfl rfl (by kernel_rfl) Tryz.func3 (by kernel_rfl)
    (of_decide_eq_true (by kernel_rfl)) (by unfold Func.isWrapper; first | (rw [if_pos (by decide +kernel)]; kernel_rfl) | (rw [if_neg (by decide +kernel)]; exact ⟨rfl, rfl⟩))
    (fun os started H enc _ => thaws17_lifted H0 os started H enc)
end Go.Proofs.YtfpgfclmmdihjaaGreat

namespace Go.Proofs.YtfpgfclmmdihjaaGreat
theorem giftThaws_all : Rows.GiftThawsSaid := thaws17_holds giftCalls
end Go.Proofs.YtfpgfclmmdihjaaGreat
