/- Texts laid one behind the other: Ed, Tn, To, Uo, Ee, Ek, Ef, El, Wa, Em, Eo, Eg. -/
import Derived.Test.YtllgmkbmdnpnoaaB04
import Derived.Lib.QuietBelow
import Derived.Lib.SmallJoins
import Derived.Deep.SlicePairs
import Derived.ChangeSlices
import Derived.ChangeShapes
import Derived.Test.YtllgmkbmdnpnoaaRows
import Derived.Deep.RegionHeld3
/- The document's Read and Parse of entries. -/
namespace Go.Proofs.Ytllgmkbmdnpnoaa
open Go.RowKit Nam Cod

/-- An operation stored in an entry's block. -/
theorem wpList_store_enOp {ops : Array Oper} {rest : List Oper} {o : Oper} {a : Act} {w : World} {Q : Exit → Act → World → Prop} (hgd : o.guard = none) (x y : Operand) (ho : o.op = .store 25 x y)
    (b : Nat) (p : En) (m : Mv) (hx : a.eval x = .pointer (some ⟨b, 3, none⟩)) (hy : a.eval y = .agg #[.int .i64 m.C, .int .i64 m.D, .int .i64 m.I, .int .i64 m.M, .int .i64 m.K, .int .i64 m.U, .string m.s]) (hg : enE.In w b p)
    (h : wpList Try.prog ops Q rest (a.put o.dst undef) (w.setRow b #[.int .i64 ({ p with o := m } : En).k, .int .i64 ({ p with o := m } : En).d, .int .i64 ({ p with o := m } : En).i, .int .i64 ({ p with o := m } : En).o.C, .int .i64 ({ p with o := m } : En).o.D, .int .i64 ({ p with o := m } : En).o.I, .int .i64 ({ p with o := m } : En).o.M, .int .i64 ({ p with o := m } : En).o.K, .int .i64 ({ p with o := m } : En).o.U, .string ({ p with o := m } : En).o.s])) : wpList Try.prog ops Q (o :: rest) a w :=
  wpList_plain hgd fun _ hK => by
    have hs := run_storeCells_at (P := Try.prog) b 3 27 [.int .i64 m.C, .int .i64 m.D, .int .i64 m.I, .int .i64 m.M, .int .i64 m.K, .int .i64 m.U, .string m.s] 0 (enE.c p).toArray w hg (by show 3 + 0 + 7 ≤ 10; omega) (by
      intro v hv
      simp only [List.mem_cons, List.not_mem_nil, or_false] at hv
      rcases hv with rfl | rfl | rfl | rfl | rfl | rfl | rfl <;> rfl)
    have hv : (storeVar 25 ⟨b, 3, none⟩ (.agg #[.int .i64 m.C, .int .i64 m.D, .int .i64 m.I, .int .i64 m.M, .int .i64 m.K, .int .i64 m.U, .string m.s])).run Try.prog w = .ok () (w.setRow b #[.int .i64 ({ p with o := m } : En).k, .int .i64 ({ p with o := m } : En).d, .int .i64 ({ p with o := m } : En).i, .int .i64 ({ p with o := m } : En).o.C, .int .i64 ({ p with o := m } : En).o.D, .int .i64 ({ p with o := m } : En).o.I, .int .i64 ({ p with o := m } : En).o.M, .int .i64 ({ p with o := m } : En).o.K, .int .i64 ({ p with o := m } : En).o.U, .string ({ p with o := m } : En).o.s]) := by
      have hR := op_size
      cases hq : Try.prog.info? 25 with
      | none => simp [hq] at hR
      | some inf =>
        have hinf : inf.size = 7 := by simpa [hq] using hR
        simp [storeVar, sizeOf, typeInfo, hq, Value.cells, hinf, hs]
        rfl
    unfold Oper.wp execOp
    simp only [ho, hx, hy, Instr.storeAt, Instr.sureAddr, Sem.run_bind, Sem.run_pure, Result.andThen_ok, hv]
    exact hK _ _ h

theorem isNum_one {s : ByteArray} {p : Nat} {bad : Bool} {q : Nat} {b1 : Bool} (h : numStep s p bad 1 q b1) : isNum s p bad = some (1, q) ∧ b1 = false := by
  rcases h with ⟨h1, h2⟩ | ⟨_, h2, _⟩
  · exact ⟨h1, h2⟩
  · cases h2
theorem ent_op_good {s : ByteArray} {p : Nat} {bad : Bool} {q1 q2 : Nat} {b1 : Bool} {o : Mv} (h1 : numStep s p bad 1 q1 b1) (h2 : opStep s q1 b1 o q2 false) : isEnt s p bad = some (⟨1, 0, 0, o⟩, q2) ∧ entB ⟨1, 0, 0, o⟩ = true := by
  obtain ⟨g1, rfl⟩ := isNum_one h1
  rcases h2 with ⟨g2, _⟩ | ⟨_, _, h⟩
  · refine ⟨?_, entB_op (op_bytes g2).1⟩
    unfold isEnt
    rw [g1, Option.bind_some, if_pos rfl, g2, Option.bind_some]
  · cases h
theorem ent_op_ill {s : ByteArray} {p : Nat} {bad : Bool} {q1 q2 : Nat} {b1 : Bool} {o : Mv} (h1 : numStep s p bad 1 q1 b1) (h2 : opStep s q1 b1 o q2 true) : isEnt s p bad = none := by
  obtain ⟨g1, rfl⟩ := isNum_one h1
  rcases h2 with ⟨_, h⟩ | ⟨g2, _, _⟩
  · cases h
  · unfold isEnt
    rw [g1, Option.bind_some, if_pos rfl, g2]; rfl
theorem ent_two_good {s : ByteArray} {p : Nat} {bad : Bool} {k d i : Int} {q1 q2 q3 : Nat} {b1 b2 : Bool} (hk : ¬ k = 1) (h1 : numStep s p bad k q1 b1) (h2 : numStep s q1 b1 d q2 b2) (h3 : numStep s q2 b2 i q3 false) : isEnt s p bad = if entB ⟨k, d, i, zeroMv⟩ = true then some (⟨k, d, i, zeroMv⟩, q3) else none := by
  obtain ⟨rfl, g3⟩ := h3.good
  obtain ⟨rfl, g2⟩ := h2.good
  unfold isEnt
  rw [h1.back, Option.bind_some, if_neg hk, g2, Option.bind_some, g3, Option.bind_some]
theorem ent_two_ill {s : ByteArray} {p : Nat} {bad : Bool} {k d i : Int} {q1 q2 q3 : Nat} {b1 b2 : Bool} (hk : ¬ k = 1) (h1 : numStep s p bad k q1 b1) (h2 : numStep s q1 b1 d q2 b2) (h3 : numStep s q2 b2 i q3 true) : isEnt s p bad = none := by
  unfold isEnt
  cases b1
  · rw [h1.back, Option.bind_some, if_neg hk]
    cases b2
    · rw [h2.back, Option.bind_some, h3.ill]; rfl
    · rw [h2.ill]; rfl
  · rw [h1.ill]; rfl

set_option maxRecDepth 100000 in
set_option maxHeartbeats 4000000 in
theorem refEntRead_uni {w : World} {b p : Nat} {s : ByteArray} {bad : Bool} (hs : s.size ≤ 1000000) (hp : p ≤ s.size) (hr : Rd 55 w b s p bad) :
    Calls Try.prog 29 #[.pointer (some ⟨b, 0, none⟩)] w fun r w' => ∃ (x : En) (q : Nat) (bad' : Bool), r = .returned (.agg #[.int .i64 x.k, .int .i64 x.d, .int .i64 x.i, .int .i64 x.o.C, .int .i64 x.o.D, .int .i64 x.o.I, .int .i64 x.o.M, .int .i64 x.o.K, .int .i64 x.o.U, .string x.o.s]) ∧ Rd 55 w' b s q bad' ∧ q ≤ s.size ∧ w.grownBy w' (some b) ∧ entStep s p bad x q bad' := by
  have hbw := hr.lt
  go_enter Try.func29, Try.ntmps29
  go_wp2_with fail
  have hZ := El.In.new (E := enE) w zeroEn #[.int .i64 0, .int .i64 0, .int .i64 0, .int .i64 0, .int .i64 0, .int .i64 0, .int .i64 0, .int .i64 0, .int .i64 0, .string ⟨#[]⟩] rfl
  have hB := below_alloc (Below.refl w.heap.size w) (.cells #[.int .i64 0, .int .i64 0, .int .i64 0, .int .i64 0, .int .i64 0, .int .i64 0, .int .i64 0, .int .i64 0, .int .i64 0, .string ⟨#[]⟩] 27)
  have hR := hr.below hB
  have hG := by_below hB (some b)
  obtain ⟨n2, h2⟩ : ∃ n, w.heap.size = n := ⟨_, rfl⟩
  have hn2 : w.heap.size ≤ n2 := by omega
  have e2 : b ≠ n2 := by omega
  have i2 : some n2 ≠ some b := fun e => e2 (Option.some.inj e).symm
  replace hZ : enE.In (w.alloc (.cells #[.int .i64 0, .int .i64 0, .int .i64 0, .int .i64 0, .int .i64 0, .int .i64 0, .int .i64 0, .int .i64 0, .int .i64 0, .string ⟨#[]⟩] 27)) w.heap.size zeroEn := hZ
  generalize w.alloc (.cells #[.int .i64 0, .int .i64 0, .int .i64 0, .int .i64 0, .int .i64 0, .int .i64 0, .int .i64 0, .int .i64 0, .int .i64 0, .string ⟨#[]⟩] 27) = W0 at *
  rw [h2] at hZ ⊢
  clear h2 hB hr
  refine (refNum_uni hs hp hR).mono ?_
  clear hR
  rintro e w1 ⟨k, q1, b1, rfl, hR, q1s, hg, st1⟩
  replace hZ := hZ.keep hg i2
  replace hG := by_trans hG hg
  clear hg
  have hE : enE.In (w1.alloc (.cells #[.int .i64 k, .int .i64 0, .int .i64 0, .int .i64 0, .int .i64 0, .int .i64 0, .int .i64 0, .int .i64 0, .int .i64 0, .string ⟨#[]⟩] 27)) w1.heap.size ⟨k, 0, 0, zeroMv⟩ := El.In.new (E := enE) w1 ⟨k, 0, 0, zeroMv⟩ _ rfl
  have hal := below_alloc (Below.refl w1.heap.size w1) (.cells #[.int .i64 k, .int .i64 0, .int .i64 0, .int .i64 0, .int .i64 0, .int .i64 0, .int .i64 0, .int .i64 0, .int .i64 0, .string ⟨#[]⟩] 27)
  have hR1 := hR.below hal
  have hZ1 := hZ.below hal
  have hG1 := by_trans hG (by_below hal _)
  have hbn : b < w1.heap.size := hR.lt
  have hn2n : n2 < w1.heap.size := hZ.lt
  have hwn : w.heap.size ≤ w1.heap.size := by omega
  by_cases hk : k = 1
  · subst hk
    clear hR hZ hG hal
    go_wp2_with fail
    generalize w1.alloc (.cells #[.int .i64 1, .int .i64 0, .int .i64 0, .int .i64 0, .int .i64 0, .int .i64 0, .int .i64 0, .int .i64 0, .int .i64 0, .string ⟨#[]⟩] 27) = W1 at *
    obtain ⟨n3, h3⟩ : ∃ n, w1.heap.size = n := ⟨_, rfl⟩
    rw [h3] at hE hbn hn2n hwn ⊢
    clear h3
    refine (opRefRead_uni hs q1s hR1).mono ?_
    rintro e w2 ⟨o, q2, b2, rfl, hR2, q2s, hg2, st2⟩
    replace hE := hE.keep hg2 (fun e => by have := Option.some.inj e; omega)
    replace hZ1 := hZ1.keep hg2 i2
    replace hG1 := by_trans hG1 hg2
    clear hg2 hR1
    have hS3 : enE.In (w2.setRow n3 #[.int .i64 1, .int .i64 0, .int .i64 0, .int .i64 o.C, .int .i64 o.D, .int .i64 o.I, .int .i64 o.M, .int .i64 o.K, .int .i64 o.U, .string o.s]) n3 ⟨1, 0, 0, o⟩ := hE.set ⟨1, 0, 0, o⟩ _ rfl
    have hR3 := hR2.row n3 #[.int .i64 1, .int .i64 0, .int .i64 0, .int .i64 o.C, .int .i64 o.D, .int .i64 o.I, .int .i64 o.M, .int .i64 o.K, .int .i64 o.U, .string o.s] (by omega)
    have hZ3 := hZ1.rowN n3 #[.int .i64 1, .int .i64 0, .int .i64 0, .int .i64 o.C, .int .i64 o.D, .int .i64 o.I, .int .i64 o.M, .int .i64 o.K, .int .i64 o.U, .string o.s] (by omega)
    have hG3 := by_setRow hG1 n3 #[.int .i64 1, .int .i64 0, .int .i64 0, .int .i64 o.C, .int .i64 o.D, .int .i64 o.I, .int .i64 o.M, .int .i64 o.K, .int .i64 o.U, .string o.s] hwn
    have hos : o.s.size ≤ 9223372036854775807 := by
      rcases st2 with ⟨h, _⟩ | ⟨_, h, _⟩
      · have := (opB_wide (op_bytes h).1).2.2.1; omega
      · rw [h]; exact Nat.zero_le _
    clear hR2 hZ1 hG1
    cases b2
    · obtain ⟨g1, g2⟩ := ent_op_good st1 st2
      have HG := Lib.hid g1
      have CR := Lib.hid (fun wx => (by
        have h := refEntRight_any ⟨1, 0, 0, o⟩ wx hos
        rw [g2] at h
        exact h : Calls Try.prog 10 #[.agg #[.int .i64 1, .int .i64 0, .int .i64 0, .int .i64 o.C, .int .i64 o.D, .int .i64 o.I, .int .i64 o.M, .int .i64 o.K, .int .i64 o.U, .string o.s]] wx fun r w' => r = .returned (.bool true) ∧ Below wx.heap.size wx w'))
      clear st1 st2 g1 g2
      obtain ⟨p0, p1, p2, p3, p4, p5, p6, p7, p8, p9⟩ := enIn10 hS3
      obtain ⟨r0, r1, r2⟩ := hR3.cells
      dsimp only at p0 p1 p2 p3 p4 p5 p6 p7 p8 p9
      go_wp2_with (first | (refine wpList_store_enOp rfl _ _ rfl n3 ⟨1, 0, 0, zeroMv⟩ o rfl rfl hE ?_) | fail)
      clear p0 p1 p2 p3 p4 p5 p6 p7 p8 p9 r0 r1 r2 hE
      generalize w2.setRow n3 #[.int .i64 1, .int .i64 0, .int .i64 0, .int .i64 o.C, .int .i64 o.D, .int .i64 o.I, .int .i64 o.M, .int .i64 o.K, .int .i64 o.U, .string o.s] = W3 at *
      refine (CR.out _).mono ?_
      rintro e w4 ⟨rfl, hb4⟩
      replace hS3 := hS3.below hb4
      replace hR3 := hR3.below hb4
      replace hZ3 := hZ3.below hb4
      replace hG3 := by_trans hG3 (by_below hb4 _)
      clear hb4 CR
      go_wp2_with (first | (refine El.load enRow rfl _ rfl n3 0 rfl ⟨1, 0, 0, o⟩ hS3.at #[.int .i64 1, .int .i64 0, .int .i64 0, .int .i64 o.C, .int .i64 o.D, .int .i64 o.I, .int .i64 o.M, .int .i64 o.K, .int .i64 o.U, .string o.s] rfl ?_) | (refine El.store enRow rfl _ _ rfl n2 ⟨1, 0, 0, o⟩ #[.int .i64 1, .int .i64 0, .int .i64 0, .int .i64 o.C, .int .i64 o.D, .int .i64 o.I, .int .i64 o.M, .int .i64 o.K, .int .i64 o.U, .string o.s] rfl rfl rfl zeroEn hZ3 ?_) | fail)
      refine El.ret1 enRow (hZ3.set ⟨1, 0, 0, o⟩ _ rfl) rfl rfl rfl #[.int .i64 1, .int .i64 0, .int .i64 0, .int .i64 o.C, .int .i64 o.D, .int .i64 o.I, .int .i64 o.M, .int .i64 o.K, .int .i64 o.U, .string o.s] rfl ?_
      exact ⟨⟨1, 0, 0, o⟩, q2, false, rfl, hR3.row n2 _ e2, q2s, by_setRow hG3 n2 _ hn2, Or.inl ⟨HG.out, rfl⟩⟩
    · have HG := Lib.hid (ent_op_ill st1 st2)
      clear st1 st2
      obtain ⟨r0, r1, r2⟩ := hR3.cells
      have rf := hR3.frozen
      go_wp2_with (first | (refine wpList_store_enOp rfl _ _ rfl n3 ⟨1, 0, 0, zeroMv⟩ o rfl rfl hE ?_) | (refine El.store enRow rfl _ _ rfl n2 zeroEn #[.int .i64 0, .int .i64 0, .int .i64 0, .int .i64 0, .int .i64 0, .int .i64 0, .int .i64 0, .int .i64 0, .int .i64 0, .string ⟨#[]⟩] rfl rfl rfl zeroEn (hZ3.other b 2 (.bool true) e2.symm) ?_) | fail)
      refine El.ret1 enRow ((hZ3.other b 2 (.bool true) e2.symm).set zeroEn _ rfl) rfl rfl rfl #[.int .i64 0, .int .i64 0, .int .i64 0, .int .i64 0, .int .i64 0, .int .i64 0, .int .i64 0, .int .i64 0, .int .i64 0, .string ⟨#[]⟩] rfl ?_
      exact ⟨zeroEn, q2, true, rfl, (hR3.setBad).row n2 _ e2, q2s, by_setRow (by_set hG3 2 (.bool true)) n2 _ hn2, Or.inr ⟨HG.out, rfl, rfl⟩⟩
  · have e1 : (k == 1) = false := beq_eq_false_iff_ne.2 hk
    clear hR hZ hG hal
    go_wp2_with fail
    clear e1
    generalize w1.alloc (.cells #[.int .i64 k, .int .i64 0, .int .i64 0, .int .i64 0, .int .i64 0, .int .i64 0, .int .i64 0, .int .i64 0, .int .i64 0, .string ⟨#[]⟩] 27) = W1 at *
    obtain ⟨n3, h3⟩ : ∃ n, w1.heap.size = n := ⟨_, rfl⟩
    rw [h3] at hE hbn hn2n hwn ⊢
    clear h3
    have e3 : b ≠ n3 := by omega
    have e4 : n2 ≠ n3 := by omega
    have i3 : some n3 ≠ some b := fun e => e3 (Option.some.inj e).symm
    refine (refNum_uni hs q1s hR1).mono ?_
    rintro e w2 ⟨d, q2, b2, rfl, hR2, q2s, hg2, st2⟩
    replace hE := hE.keep hg2 i3
    replace hZ1 := hZ1.keep hg2 i2
    replace hG1 := by_trans hG1 hg2
    clear hg2 hR1
    have hE2 := hE.put ⟨k, d, 0, zeroMv⟩ 1 (.int .i64 d) rfl
    have hZ2 := hZ1.other n3 1 (.int .i64 d) e4
    have hR3 := hR2.other n3 1 (.int .i64 d) e3
    have hG2 := by_setNew hG1 n3 1 (.int .i64 d) hwn
    have kc := hE.cell 1
    have kf := hE.frozen
    replace kc : w2.cell? ⟨n3, 1, none⟩ = some (.int .i64 0) := kc
    clear hE hZ1 hR2 hG1
    go_wp2_with fail
    clear kc kf
    generalize w2.setCell ⟨n3, 1, none⟩ (.int .i64 d) = W2 at *
    refine (refNum_uni hs q2s hR3).mono ?_
    rintro e w3 ⟨i, q3, b3, rfl, hR4, q3s, hg3, st3⟩
    replace hE2 := hE2.keep hg3 i3
    replace hZ2 := hZ2.keep hg3 i2
    replace hG2 := by_trans hG2 hg3
    clear hg3 hR3
    have hE3 := hE2.put ⟨k, d, i, zeroMv⟩ 2 (.int .i64 i) rfl
    have hZ3 := hZ2.other n3 2 (.int .i64 i) e4
    have hR5 := hR4.other n3 2 (.int .i64 i) e3
    have hG3 := by_setNew hG2 n3 2 (.int .i64 i) hwn
    have kc := hE2.cell 2
    have kf := hE2.frozen
    replace kc : w3.cell? ⟨n3, 2, none⟩ = some (.int .i64 0) := kc
    clear hE2 hZ2 hR4 hG2
    cases b3
    · have HG := Lib.hid (ent_two_good hk st1 st2 st3)
      have CR := Lib.hid (fun wx => refEntRight_any ⟨k, d, i, zeroMv⟩ wx (Nat.zero_le _))
      clear st1 st2 st3
      obtain ⟨p0, p1, p2, p3, p4, p5, p6, p7, p8, p9⟩ := enIn10 hE3
      obtain ⟨r0, r1, r2⟩ := hR5.cells
      dsimp only [zeroMv] at p0 p1 p2 p3 p4 p5 p6 p7 p8 p9
      go_wp2_with fail
      clear p0 p1 p2 p3 p4 p5 p6 p7 p8 p9 r0 r1 r2 kc kf
      generalize w3.setCell ⟨n3, 2, none⟩ (.int .i64 i) = W3 at *
      refine (CR.out _).mono ?_
      rintro e w4 ⟨rfl, hb4⟩
      replace hE3 := hE3.below hb4
      replace hR5 := hR5.below hb4
      replace hZ3 := hZ3.below hb4
      replace hG3 := by_trans hG3 (by_below hb4 _)
      clear hb4 CR
      obtain ⟨eb, heb⟩ : ∃ eb, entB ⟨k, d, i, zeroMv⟩ = eb := ⟨_, rfl⟩
      have HG2 := Lib.hid (show isEnt s p bad = if eb = true then some (⟨k, d, i, zeroMv⟩, q3) else none by rw [HG.out, heb])
      rw [heb]
      clear HG heb
      cases eb
      · obtain ⟨r0, r1, r2⟩ := hR5.cells
        have rf := hR5.frozen
        go_wp2_with (first | (refine El.store enRow rfl _ _ rfl n2 zeroEn #[.int .i64 0, .int .i64 0, .int .i64 0, .int .i64 0, .int .i64 0, .int .i64 0, .int .i64 0, .int .i64 0, .int .i64 0, .string ⟨#[]⟩] rfl rfl rfl zeroEn (hZ3.other b 2 (.bool true) e2.symm) ?_) | fail)
        refine El.ret1 enRow ((hZ3.other b 2 (.bool true) e2.symm).set zeroEn _ rfl) rfl rfl rfl #[.int .i64 0, .int .i64 0, .int .i64 0, .int .i64 0, .int .i64 0, .int .i64 0, .int .i64 0, .int .i64 0, .int .i64 0, .string ⟨#[]⟩] rfl ?_
        exact ⟨zeroEn, q3, true, rfl, (hR5.setBad).row n2 _ e2, q3s, by_setRow (by_set hG3 2 (.bool true)) n2 _ hn2, Or.inr ⟨by rw [HG2.out, if_neg (by decide)], rfl, rfl⟩⟩
      · go_wp2_with (first | (refine El.load enRow rfl _ rfl n3 0 rfl ⟨k, d, i, zeroMv⟩ hE3.at #[.int .i64 k, .int .i64 d, .int .i64 i, .int .i64 0, .int .i64 0, .int .i64 0, .int .i64 0, .int .i64 0, .int .i64 0, .string ⟨#[]⟩] rfl ?_) | (refine El.store enRow rfl _ _ rfl n2 ⟨k, d, i, zeroMv⟩ #[.int .i64 k, .int .i64 d, .int .i64 i, .int .i64 0, .int .i64 0, .int .i64 0, .int .i64 0, .int .i64 0, .int .i64 0, .string ⟨#[]⟩] rfl rfl rfl zeroEn hZ3 ?_) | fail)
        refine El.ret1 enRow (hZ3.set ⟨k, d, i, zeroMv⟩ _ rfl) rfl rfl rfl #[.int .i64 k, .int .i64 d, .int .i64 i, .int .i64 0, .int .i64 0, .int .i64 0, .int .i64 0, .int .i64 0, .int .i64 0, .string ⟨#[]⟩] rfl ?_
        exact ⟨⟨k, d, i, zeroMv⟩, q3, false, rfl, hR5.row n2 _ e2, q3s, by_setRow hG3 n2 _ hn2, Or.inl ⟨by simpa using HG2.out, rfl⟩⟩
    · have HG := Lib.hid (ent_two_ill hk st1 st2 st3)
      clear st1 st2 st3 hE3
      obtain ⟨r0, r1, r2⟩ := hR5.cells
      have rf := hR5.frozen
      go_wp2_with (first | (refine El.store enRow rfl _ _ rfl n2 zeroEn #[.int .i64 0, .int .i64 0, .int .i64 0, .int .i64 0, .int .i64 0, .int .i64 0, .int .i64 0, .int .i64 0, .int .i64 0, .string ⟨#[]⟩] rfl rfl rfl zeroEn (hZ3.other b 2 (.bool true) e2.symm) ?_) | fail)
      refine El.ret1 enRow ((hZ3.other b 2 (.bool true) e2.symm).set zeroEn _ rfl) rfl rfl rfl #[.int .i64 0, .int .i64 0, .int .i64 0, .int .i64 0, .int .i64 0, .int .i64 0, .int .i64 0, .int .i64 0, .int .i64 0, .string ⟨#[]⟩] rfl ?_
      exact ⟨zeroEn, q3, true, rfl, (hR5.setBad).row n2 _ e2, q3s, by_setRow (by_set hG3 2 (.bool true)) n2 _ hn2, Or.inr ⟨HG.out, rfl, rfl⟩⟩

set_option maxRecDepth 100000 in
set_option maxHeartbeats 4000000 in
theorem refEntParse_any (s : ByteArray) (w : World) (hs : s.size ≤ 1000000) :
    Calls Try.prog 17 #[.string s] w fun r w' => ∃ (x : En) (ok : Bool), r = .returned (.tuple #[.agg #[.int .i64 x.k, .int .i64 x.d, .int .i64 x.i, .int .i64 x.o.C, .int .i64 x.o.D, .int .i64 x.o.I, .int .i64 x.o.M, .int .i64 x.o.K, .int .i64 x.o.U, .string x.o.s], .bool ok]) ∧ (x = (parseEnt s).getD zeroEn ∧ ok = (parseEnt s).isSome) ∧ Below w.heap.size w w' := by
  go_enter Try.func17, Try.ntmps17
  go_wp2_with fail
  have hR := Rd.new (w.alloc (.cells #[.int .i64 0, .int .i64 0, .int .i64 0, .int .i64 0, .int .i64 0, .int .i64 0, .int .i64 0, .int .i64 0, .int .i64 0, .string ⟨#[]⟩] 27)) 55 s 0 rfl
  rw [show (w.alloc (.cells #[.int .i64 0, .int .i64 0, .int .i64 0, .int .i64 0, .int .i64 0, .int .i64 0, .int .i64 0, .int .i64 0, .int .i64 0, .string ⟨#[]⟩] 27)).heap.size = w.heap.size + 1 from alloc_size _ _] at hR
  have hZ : enE.In ((w.alloc (.cells #[.int .i64 0, .int .i64 0, .int .i64 0, .int .i64 0, .int .i64 0, .int .i64 0, .int .i64 0, .int .i64 0, .int .i64 0, .string ⟨#[]⟩] 27)).alloc (.cells #[.string s, .int .i64 0, .bool false] 55)) w.heap.size zeroEn := (El.In.new (E := enE) w zeroEn #[.int .i64 0, .int .i64 0, .int .i64 0, .int .i64 0, .int .i64 0, .int .i64 0, .int .i64 0, .int .i64 0, .int .i64 0, .string ⟨#[]⟩] rfl).alloc _
  have hB := below_alloc (below_alloc (Below.refl w.heap.size w) (.cells #[.int .i64 0, .int .i64 0, .int .i64 0, .int .i64 0, .int .i64 0, .int .i64 0, .int .i64 0, .int .i64 0, .int .i64 0, .string ⟨#[]⟩] 27)) (.cells #[.string s, .int .i64 0, .bool false] 55)
  generalize (w.alloc (.cells #[.int .i64 0, .int .i64 0, .int .i64 0, .int .i64 0, .int .i64 0, .int .i64 0, .int .i64 0, .int .i64 0, .int .i64 0, .string ⟨#[]⟩] 27)).alloc (.cells #[.string s, .int .i64 0, .bool false] 55) = W0 at *
  obtain ⟨n2, h2⟩ : ∃ n, w.heap.size = n := ⟨_, rfl⟩
  obtain ⟨b, h3⟩ : ∃ n, w.heap.size + 1 = n := ⟨_, rfl⟩
  have hn2 : w.heap.size ≤ n2 := by omega
  have hnb : w.heap.size ≤ b := by omega
  have e2 : b ≠ n2 := by omega
  have i2 : some n2 ≠ some b := fun e => e2 (Option.some.inj e).symm
  rw [h3] at hR ⊢
  rw [h2] at hZ ⊢
  clear h2 h3
  refine (refEntRead_uni hs (Nat.zero_le _) hR).mono ?_
  rintro e w1 ⟨x, q, bad, rfl, hR1, hq, hg, st⟩
  have hB1 := below_by hB hg hnb
  have hZ1 := hZ.keep hg i2
  have hST := Lib.hid st
  clear hB hZ hR hg st
  have hal := below_alloc (Below.refl w1.heap.size w1) (.cells #[.int .i64 x.k, .int .i64 x.d, .int .i64 x.i, .int .i64 x.o.C, .int .i64 x.o.D, .int .i64 x.o.I, .int .i64 x.o.M, .int .i64 x.o.K, .int .i64 x.o.U, .string x.o.s] 27)
  have hO2 : enE.In (w1.alloc (.cells #[.int .i64 x.k, .int .i64 x.d, .int .i64 x.i, .int .i64 x.o.C, .int .i64 x.o.D, .int .i64 x.o.I, .int .i64 x.o.M, .int .i64 x.o.K, .int .i64 x.o.U, .string x.o.s] 27)) w1.heap.size x := El.In.new (E := enE) w1 x _ rfl
  have hR2 := hR1.below hal
  have hZ2 := hZ1.below hal
  have hB2 := hB1.trans (hal.mono hB1.size)
  clear hR1 hZ1 hB1 hal
  go_wp2_with fail
  generalize w1.alloc (.cells #[.int .i64 x.k, .int .i64 x.d, .int .i64 x.i, .int .i64 x.o.C, .int .i64 x.o.D, .int .i64 x.o.I, .int .i64 x.o.M, .int .i64 x.o.K, .int .i64 x.o.U, .string x.o.s] 27) = W2 at *
  have cD := refDone_any hR2
  obtain ⟨d, hd⟩ : ∃ d, isDone s q bad = d := ⟨_, rfl⟩
  rw [hd] at cD
  refine cD.mono ?_
  rintro e w3 ⟨rfl, n, rfl⟩
  have hO3 : enE.In (W2.drewN n) w1.heap.size x := hO2
  have hZ3 : enE.In (W2.drewN n) n2 zeroEn := hZ2
  have hB3 := below_drew hB2 n
  have HD := Lib.hid hd
  clear cD hd hO2 hZ2 hB2 hR2
  generalize W2.drewN n = W3 at *
  cases d
  · have hp : parseEnt s = none := by
      unfold parseEnt
      rcases hST.out with ⟨h, rfl⟩ | ⟨h, _, _⟩
      · rw [h, Option.bind_some, if_neg]
        intro e
        have h := HD.out
        unfold isDone at h
        simp at h; exact h e
      · rw [h]; rfl
    have HP := Lib.hid hp
    clear HD hST hp
    go_wp2_with (first | (refine El.store enRow rfl _ _ rfl n2 zeroEn #[.int .i64 0, .int .i64 0, .int .i64 0, .int .i64 0, .int .i64 0, .int .i64 0, .int .i64 0, .int .i64 0, .int .i64 0, .string ⟨#[]⟩] rfl rfl rfl zeroEn hZ3 ?_) | fail)
    refine El.ret2 enRow (hZ3.set zeroEn _ rfl) rfl rfl rfl rfl #[.int .i64 0, .int .i64 0, .int .i64 0, .int .i64 0, .int .i64 0, .int .i64 0, .int .i64 0, .int .i64 0, .int .i64 0, .string ⟨#[]⟩] rfl ?_
    exact ⟨zeroEn, false, rfl, ⟨by rw [HP.out]; rfl, by rw [HP.out]; rfl⟩, below_setRow hB3 hn2 _⟩
  · have hp : parseEnt s = some x := by
      unfold parseEnt
      have hd := HD.out
      unfold isDone at hd
      rcases hST.out with ⟨h, rfl⟩ | ⟨h, _, rfl⟩
      · rw [h, Option.bind_some, if_pos (by simpa using hd)]
      · simp at hd
    have HP := Lib.hid hp
    clear HD hST hp
    go_wp2_with (first | (refine El.load enRow rfl _ rfl w1.heap.size 0 rfl x hO3.at #[.int .i64 x.k, .int .i64 x.d, .int .i64 x.i, .int .i64 x.o.C, .int .i64 x.o.D, .int .i64 x.o.I, .int .i64 x.o.M, .int .i64 x.o.K, .int .i64 x.o.U, .string x.o.s] rfl ?_) | (refine El.store enRow rfl _ _ rfl n2 x #[.int .i64 x.k, .int .i64 x.d, .int .i64 x.i, .int .i64 x.o.C, .int .i64 x.o.D, .int .i64 x.o.I, .int .i64 x.o.M, .int .i64 x.o.K, .int .i64 x.o.U, .string x.o.s] rfl rfl rfl zeroEn hZ3 ?_) | fail)
    refine El.ret2 enRow (hZ3.set x _ rfl) rfl rfl rfl rfl #[.int .i64 x.k, .int .i64 x.d, .int .i64 x.i, .int .i64 x.o.C, .int .i64 x.o.D, .int .i64 x.o.I, .int .i64 x.o.M, .int .i64 x.o.K, .int .i64 x.o.U, .string x.o.s] rfl ?_
    exact ⟨x, true, rfl, ⟨by rw [HP.out]; rfl, by rw [HP.out]; rfl⟩, below_setRow hB3 hn2 _⟩
end Go.Proofs.Ytllgmkbmdnpnoaa

/- Places and trees as bytes; what may be a tree. -/
namespace Go.Proofs.Ytllgmkbmdnpnoaa
open Go.RowKit Nam Cod Tre

def isPlace (s : ByteArray) (p : Nat) (bad : Bool) : Option (Pl × Nat) :=
  (isNum s p bad).bind fun a => (isNum s a.2 false).bind fun b => (isText s b.2 false 16).bind fun c => some (⟨a.1, b.1, c.1⟩, c.2)
/-- So many places, from p on. -/
def isPlaces (s : ByteArray) : Nat → Nat → Option (List Pl × Nat)
  | 0, p => some ([], p)
  | n + 1, p => (isPlaces s n p).bind fun a => (isPlace s a.2 false).bind fun b => some (a.1 ++ [b.1], b.2)
def okPl (p : Pl) : Bool := decide (2 ≤ p.n ∧ p.n < 64 ∧ 0 ≤ p.u ∧ p.u < 64) && isName (L p.s)
def rising : List Pl → Bool
  | [] => true
  | [_] => true
  | p :: q :: l => decide (p.n < q.n) && rising (q :: l)
def treeB (l : List Pl) : Bool := l.all okPl && (rising l && l.all fun p => !above l p.n p.u)
def isTree (s : ByteArray) (p : Nat) (bad : Bool) : Option (List Pl × Nat) :=
  (isCount s p bad 64).bind fun a => (isPlaces s a.1.toNat a.2).bind fun b => if treeB b.1 = true then some b else none

def plBytes (p : Pl) : ByteArray := bytesOf p.n ++ bytesOf p.u ++ textOf p.s
def catL : List Pl → ByteArray
  | [] => ⟨#[]⟩
  | p :: l => plBytes p ++ catL l
def treeBytes (l : List Pl) : ByteArray := bytesOf l.length ++ catL l
/-- Numbers that a word holds; a text that isn't too long. -/
structure Fit (p : Pl) : Prop where
  n1 : -9223372036854775808 ≤ p.n
  n2 : p.n ≤ 9223372036854775807
  u1 : -9223372036854775808 ≤ p.u
  u2 : p.u ≤ 9223372036854775807
  s : p.s.size ≤ 16

theorem bempty (x : ByteArray) : x ++ (⟨#[]⟩ : ByteArray) = x := by apply L_inj; rw [L_app]; simp [L]
theorem empty_b (x : ByteArray) : (⟨#[]⟩ : ByteArray) ++ x = x := by apply L_inj; rw [L_app]; simp [L]
theorem catL_snoc (l : List Pl) (p : Pl) : catL (l ++ [p]) = catL l ++ plBytes p := by
  induction l with
  | nil => show plBytes p ++ ⟨#[]⟩ = ⟨#[]⟩ ++ plBytes p; rw [bempty, empty_b]
  | cons q l ih => show plBytes q ++ catL (l ++ [p]) = (plBytes q ++ catL l) ++ plBytes p; rw [ih, ByteArray.append_assoc]
theorem catL_app (l m : List Pl) : catL (l ++ m) = catL l ++ catL m := by
  induction l with
  | nil => exact (empty_b _).symm
  | cons q l ih => show plBytes q ++ catL (l ++ m) = (plBytes q ++ catL l) ++ catL m; rw [ih, ByteArray.append_assoc]
theorem okPl_fit {p : Pl} (h : okPl p = true) : Fit p ∧ 2 ≤ p.n ∧ p.n < 64 ∧ 0 ≤ p.u ∧ p.u < 64 ∧ isName (L p.s) = true := by
  unfold okPl at h
  rw [Bool.and_eq_true, decide_eq_true_iff] at h
  have hl := isName_len h.2
  rw [L_len] at hl
  exact ⟨⟨by omega, by omega, by omega, by omega, hl.2⟩, h.1.1, h.1.2.1, h.1.2.2.1, h.1.2.2.2, h.2⟩
theorem plBytes_le {p : Pl} (h : Fit p) : (plBytes p).size ≤ 46 := by
  unfold plBytes textOf
  simp only [ByteArray.size_append]
  have z1 := bytesOf_le p.n h.n1 h.n2
  have z2 := bytesOf_le p.u h.u1 h.u2
  have hs := h.s
  have z3 := bytesOf_le p.s.size (by omega) (by omega)
  omega
theorem catL_le : ∀ (l : List Pl), (∀ p ∈ l, Fit p) → (catL l).size ≤ 46 * l.length
  | [], _ => by show (ByteArray.mk #[]).size ≤ _; exact Nat.zero_le _
  | p :: l, h => by
    have h1 := plBytes_le (h p (by simp))
    have h2 := catL_le l (fun q hq => h q (by simp [hq]))
    show (plBytes p ++ catL l).size ≤ _
    rw [ByteArray.size_append, List.length_cons]; omega

theorem place_there (A Z : ByteArray) (p : Pl) (h : Fit p) : isPlace (A ++ (plBytes p ++ Z)) A.size false = some (p, A.size + (plBytes p).size) := by
  have h1 := num_there A (bytesOf p.u ++ textOf p.s ++ Z) p.n h.n1 h.n2
  have h2 := num_there (A ++ bytesOf p.n) (textOf p.s ++ Z) p.u h.u1 h.u2
  have h3 := text_there (A ++ bytesOf p.n ++ bytesOf p.u) p.s Z 16 (by have := h.s; omega) (by have := h.s; omega)
  have e : A ++ (plBytes p ++ Z) = A ++ (bytesOf p.n ++ (bytesOf p.u ++ textOf p.s ++ Z)) := by unfold plBytes; simp only [ByteArray.append_assoc]
  have e2 : A ++ (plBytes p ++ Z) = A ++ bytesOf p.n ++ (bytesOf p.u ++ (textOf p.s ++ Z)) := by unfold plBytes; simp only [ByteArray.append_assoc]
  have e3 : A ++ (plBytes p ++ Z) = A ++ bytesOf p.n ++ bytesOf p.u ++ (textOf p.s ++ Z) := by unfold plBytes; simp only [ByteArray.append_assoc]
  rw [← e] at h1
  rw [← e2, ByteArray.size_append] at h2
  rw [← e3, ByteArray.size_append, ByteArray.size_append] at h3
  unfold isPlace
  simp only [h1, h2, h3, Option.bind_some]
  unfold plBytes
  simp only [ByteArray.size_append, Nat.add_assoc]
theorem places_there (A Z : ByteArray) (l : List Pl) (h : ∀ p ∈ l, Fit p) : ∀ k, k ≤ l.length → isPlaces (A ++ (catL l ++ Z)) k A.size = some (l.take k, A.size + (catL (l.take k)).size)
  | 0, _ => by unfold isPlaces; simp [catL]; rfl
  | k + 1, hk => by
    have hlt : k < l.length := hk
    have e : catL l ++ Z = catL (l.take k) ++ (plBytes l[k] ++ (catL (l.drop (k + 1)) ++ Z)) := by
      have : l = l.take k ++ (l[k] :: l.drop (k + 1)) := by rw [← List.drop_eq_getElem_cons hlt, List.take_append_drop]
      conv => lhs; rw [this, catL_app]
      show catL (l.take k) ++ (plBytes l[k] ++ catL (l.drop (k + 1))) ++ Z = _
      simp only [ByteArray.append_assoc]
    have hp := place_there (A ++ catL (l.take k)) (catL (l.drop (k + 1)) ++ Z) l[k] (h _ (List.getElem_mem hlt))
    rw [ByteArray.append_assoc, ← e, ByteArray.size_append] at hp
    unfold isPlaces
    rw [places_there A Z l h k (by omega), Option.bind_some]
    simp only [hp, Option.bind_some]
    rw [List.take_succ_eq_append_getElem hlt, catL_snoc, ByteArray.size_append, Nat.add_assoc]
theorem tree_there (A Z : ByteArray) (l : List Pl) (h : treeB l = true) (hl : l.length ≤ 64) : isTree (A ++ (treeBytes l ++ Z)) A.size false = some (l, A.size + (treeBytes l).size) := by
  have hf : ∀ p ∈ l, Fit p := fun p hp => by
    unfold treeB at h
    rw [Bool.and_eq_true, List.all_eq_true] at h
    exact (okPl_fit (h.1 p hp)).1
  have h1 := count_there A (catL l ++ Z) l.length 64 (by omega) (by omega) (by omega)
  have e : A ++ (treeBytes l ++ Z) = A ++ (bytesOf l.length ++ (catL l ++ Z)) := by unfold treeBytes; rw [ByteArray.append_assoc]
  have h2 := places_there (A ++ bytesOf l.length) Z l hf l.length (Nat.le_refl _)
  rw [ByteArray.append_assoc, ← e, ByteArray.size_append, List.take_length] at h2
  rw [← e] at h1
  unfold isTree
  simp only [h1, Option.bind_some, Int.toNat_natCast, h2, h, if_true]
  unfold treeBytes
  rw [ByteArray.size_append, Nat.add_assoc]
theorem rising_cons {p : Pl} : ∀ {l : List Pl}, rising (p :: l) = true → rising l = true ∧ ∀ q ∈ l, p.n < q.n
  | [], _ => ⟨rfl, fun q hq => by cases hq⟩
  | q :: l, h => by
    unfold rising at h
    rw [Bool.and_eq_true, decide_eq_true_iff] at h
    refine ⟨h.2, fun x hx => ?_⟩
    rcases List.mem_cons.1 hx with rfl | hx
    · exact h.1
    · have := (rising_cons h.2).2 x hx; omega
theorem rising_sorted : ∀ {l : List Pl}, rising l = true → Sorted l
  | [], _ => fun i j hi => by simp at hi
  | p :: l, h => fun i j hi hj hij => by
    obtain ⟨h1, h2⟩ := rising_cons h
    cases j with
    | zero => omega
    | succ j =>
      have hj' : j < l.length := by simpa using hj
      cases i with
      | zero => exact h2 _ (List.getElem_mem hj')
      | succ i => exact rising_sorted h1 i j (by simpa using hi) hj' (by omega)
theorem treeB_facts {l : List Pl} (h : treeB l = true) : (∀ p ∈ l, okPl p = true) ∧ Sorted l ∧ NoRing l := by
  unfold treeB at h
  simp only [Bool.and_eq_true, List.all_eq_true, Bool.not_eq_true'] at h
  exact ⟨h.1, rising_sorted h.2.1, h.2.2⟩
/-- Nodes below 64, rising: no more than 62. -/
theorem sorted_len {l : List Pl} (hs : Sorted l) (h : ∀ p ∈ l, 2 ≤ p.n ∧ p.n < 64) : l.length ≤ 62 := by
  have key : ∀ i (hi : i < l.length), (i : Int) + 2 ≤ l[i].n := by
    intro i
    induction i with
    | zero => intro hi; have := (h _ (List.getElem_mem hi)).1; omega
    | succ i ih => intro hi; have h1 := ih (by omega); have h2 := hs i (i + 1) (by omega) hi (by omega); omega
  rcases Nat.lt_or_ge 62 l.length with hlt | hge
  · have h1 := key 62 hlt
    have h2 := (h _ (List.getElem_mem hlt)).2
    omega
  · exact hge
end Go.Proofs.Ytllgmkbmdnpnoaa

/- How the arguments of the laws are opened. -/
namespace Go.Proofs.Ytllgmkbmdnpnoaa
open Go.ChangeShapes Go.WideShapes Go.ChangeAt Go.RowKit Go.Deep Nam Cod Tre

/-- Its numbers are words, its text isn't too long for a machine. -/
def WidePl (p : Pl) : Prop := i64 p.n ∧ i64 p.u ∧ p.s.size ≤ maxLen
theorem add_plain (b o n : Nat) : (⟨b, o, none⟩ : Addr).add n = ⟨b, o + n, none⟩ := Addr.add_lit b o n
theorem long_le {l : List Pl} (h : ∀ p ∈ l, WidePl p) : ∀ p ∈ l, p.s.size ≤ 9223372036854775807 := fun p hp => Nat.le_trans (h p hp).2.2 (by unfold maxLen; omega)
end Go.Proofs.Ytllgmkbmdnpnoaa

/- Slices among the arguments, opened, whatever their elements; bytes as elements. -/
namespace Go.Proofs.Ytllgmkbmdnpnoaa
open Go.ChangeShapes Go.WideShapes Go.ChangeAt Go.RowKit Go.Deep Nam Cod Tre

def byE : El Int where
  e := 5
  k := 1
  c x := [.int .u8 x]
  len _ := rfl
  one p u h := by
    simp only [List.mem_cons, List.not_mem_nil, or_false] at h
    subst h; rfl
  pos := by decide
set_option maxRecDepth 100000 in
theorem open_list {α : Type} (E : El α) (Q : α → Prop) {st : TypeId} (hu : Try.prog.underlying st = some (.slice E.e)) (hk : Try.prog.cellsOf E.e = E.k) [Inhabited α] {H : Type} {enc : TypeId × Value → H} {W : World} {base : Nat} {v : Value} {d : DataW H} {ps : List MemPlace}
    (hrd : ∀ {base : Nat} {sp : Nat → Bool} {held : Bool} {fuel : Nat} {cs : List Value} {x : DataW H × List MemPlace}, DataW.trod enc Try.prog W base sp held fuel E.e cs = some x → ∃ a, cs = E.c a ∧ Q a)
    (hv : Value.okWide Try.prog W .any base st v) (h : DataW.Trod enc Try.prog W 0 (fun _ => true) true st v d ps) :
    ∃ (A : Option Addr) (cap : Nat) (l : List α), v = .slice A l.length cap ∧ E.Sl W A l ∧ l.length ≤ cap ∧ (A = none → cap = 0) ∧ ∀ p ∈ l, Q p := by
  obtain ⟨a0, len, cap, rfl, _⟩ := okWide_slice hu hv
  obtain ⟨fuel, hf⟩ := h
  rcases open_slice hu hf with ⟨hcs, hx⟩ | ⟨a, len', cap', m, n, D, Pls, hcs, _, hle, hm, hmm, hx, hi⟩
  · simp [Value.cells] at hcs
    obtain ⟨rfl, rfl, rfl⟩ := hcs
    exact ⟨none, 0, [], rfl, El.Sl.nil W none, Nat.le_refl _, fun _ => rfl, fun p hp => by cases hp⟩
  · simp [Value.cells] at hcs
    obtain ⟨rfl, rfl, rfl⟩ := hcs
    simp only [if_true] at hmm
    have hv : ∀ i, i < m → ∃ p : α, Q p ∧ W.cells? 0 (a.add (i * E.k)) E.k = some (E.c p) := by
      intro i him
      obtain ⟨cs', h1, h2⟩ := hi i him
      rw [hk] at h1
      obtain ⟨p, rfl, hw⟩ := hrd h2
      exact ⟨p, hw, h1⟩
    obtain ⟨f, hf2⟩ := choose_lt hv
    have hlen : ((List.range len).map f).length = len := by simp
    refine ⟨some a, cap, (List.range len).map f, by rw [hlen], fun h => ?_, by rw [hlen]; exact hle, (fun e => by cases e), fun p hp => ?_⟩
    · rw [hlen] at h
      obtain ⟨bb, off, spot⟩ := a
      have cell : ∀ i, i < len → ∀ j v, (E.c (f i))[j]? = some v → W.cell? (((⟨bb, off, spot⟩ : Addr).add (i * E.k)).add j) = some v := by
        intro i hil j v hv
        obtain ⟨_, _, hcell⟩ := World.cells?_some (hf2 i (by omega)).2
        have hj : j < E.k := by have := (List.getElem?_eq_some_iff.1 hv).1; rw [E.len] at this; exact this
        have := hcell j hj
        rw [this]; exact hv
      have h00 : ∃ v, (E.c (f 0))[0]? = some v := ⟨(E.c (f 0))[0]'(by rw [E.len]; exact E.pos), List.getElem?_eq_getElem _⟩
      obtain ⟨v0, hv0⟩ := h00
      have hspot : spot = none := by
        have := cell 0 h 0 _ hv0
        simpa [Addr.add] using World.cell?_spot this
      subst hspot
      refine ⟨bb, off, rfl, (by have h9 := block_lt_of_cell (cell 0 h 0 _ hv0); rw [add_plain, add_plain] at h9; exact h9), fun i hil => ?_⟩
      have hil' : i < len := by rw [hlen] at hil; exact hil
      have he : ((List.range len).map f)[i] = f i := by simp
      rw [he]
      intro j u hu
      have := cell i hil' j u hu
      rwa [add_plain, add_plain] at this
    · obtain ⟨i, hi2, rfl⟩ := List.mem_map.1 hp
      exact (hf2 i (by have := List.mem_range.1 hi2; omega)).1

set_option maxRecDepth 100000 in
theorem open_bytes {H : Type} {enc : TypeId × Value → H} {W : World} {base : Nat} {v : Value} {d : DataW H} {ps : List MemPlace}
    (hv : Value.okWide Try.prog W .any base 61 v) (h : DataW.Trod enc Try.prog W 0 (fun _ => true) true 61 v d ps) :
    ∃ (A : Option Addr) (cap : Nat) (l : List Int), v = .slice A l.length cap ∧ byE.Sl W A l ∧ l.length ≤ cap ∧ (A = none → cap = 0) ∧ ∀ t ∈ l, 0 ≤ t ∧ t ≤ 255 :=
  open_list byE (fun t => 0 ≤ t ∧ t ≤ 255) Try.underlying61 cells5 (fun h => by
    obtain ⟨x, e, _, wf⟩ := DataW.trod_int Try.underlying5 h
    have hb := bounds_u8 wf
    exact ⟨x, e, by omega, by omega⟩) hv h
set_option maxRecDepth 100000 in
theorem open_u8 {H : Type} {enc : TypeId × Value → H} {W : World} {base : Nat} {sp : Nat → Bool} {v : Value} {d : DataW H} {ps : List MemPlace}
    (hv : Value.okWide Try.prog W .any base 5 v) (h : DataW.Trod enc Try.prog W 0 sp true 5 v d ps) : ∃ t : Int, v = .int .u8 t ∧ 0 ≤ t ∧ t ≤ 255 := by
  obtain ⟨a, rfl, _, _, wf⟩ := open_int Try.underlying5 hv h
  have hb := bounds_u8 wf
  exact ⟨a, rfl, by omega, by omega⟩
/-- A block that is a row of these. -/
theorem El.Sl.row {α : Type} {E : El α} (w : World) (l : List α) (cs : Array Value) (hc : cs = (E.cells l).toArray) : E.Sl (w.alloc (.cells cs E.e)) (some ⟨w.heap.size, 0, none⟩) l := fun _ => by
  subst hc
  refine ⟨w.heap.size, 0, rfl, by rw [alloc_size]; omega, fun i hi j u hu => ?_⟩
  have h := cell_of_row (w.alloc (.cells (E.cells l).toArray E.e)) w.heap.size (i * E.k + j) _ E.e (0, 0) (heap_alloc_new w _)
  rw [show 0 + i * E.k + j = i * E.k + j by omega, h]
  simpa using El.cells_at l i hi j u hu
set_option maxRecDepth 100000 in
/-- A slice among the cells of an argument. -/
theorem open_cells {α : Type} (E : El α) (Q : α → Prop) {st : TypeId} (hu : Try.prog.underlying st = some (.slice E.e)) (hk : Try.prog.cellsOf E.e = E.k) [Inhabited α] {H : Type} {enc : TypeId × Value → H} {W : World} {fuel : Nat} {cs : List Value} {x : DataW H × List MemPlace}
    (hrd : ∀ {base : Nat} {sp : Nat → Bool} {held : Bool} {fuel : Nat} {cs : List Value} {x : DataW H × List MemPlace}, DataW.trod enc Try.prog W base sp held fuel E.e cs = some x → ∃ a, cs = E.c a ∧ Q a)
    (hf : DataW.trod enc Try.prog W 0 (fun _ => true) true fuel st cs = some x) :
    ∃ (A : Option Addr) (cap : Nat) (l : List α), cs = [.slice A l.length cap] ∧ (E.Sl W A l ∧ (A = none → cap = 0) ∧ l.length ≤ cap) ∧ ∀ p ∈ l, Q p := by
  rcases open_slice hu hf with ⟨hcs, hx⟩ | ⟨a, len, cap, m, n, D, Pls, hcs, _, hle, hm, hmm, hx, hi⟩
  · exact ⟨none, 0, [], hcs, ⟨El.Sl.nil W none, fun _ => rfl, Nat.le_refl _⟩, fun p hp => by cases hp⟩
  · simp only [if_true] at hmm
    have hv : ∀ i, i < m → ∃ p : α, Q p ∧ W.cells? 0 (a.add (i * E.k)) E.k = some (E.c p) := by
      intro i him
      obtain ⟨cs', h1, h2⟩ := hi i him
      rw [hk] at h1
      obtain ⟨p, rfl, hw⟩ := hrd h2
      exact ⟨p, hw, h1⟩
    obtain ⟨f, hf2⟩ := choose_lt hv
    have hlen : ((List.range len).map f).length = len := by simp
    refine ⟨some a, cap, (List.range len).map f, by rw [hlen]; exact hcs, ⟨fun h => ?_, (fun e => by cases e), by rw [hlen]; exact hle⟩, fun p hp => ?_⟩
    · rw [hlen] at h
      obtain ⟨bb, off, spot⟩ := a
      have cell : ∀ i, i < len → ∀ j v, (E.c (f i))[j]? = some v → W.cell? (((⟨bb, off, spot⟩ : Addr).add (i * E.k)).add j) = some v := by
        intro i hil j v hv
        obtain ⟨_, _, hcell⟩ := World.cells?_some (hf2 i (by omega)).2
        have hj : j < E.k := by have := (List.getElem?_eq_some_iff.1 hv).1; rw [E.len] at this; exact this
        have := hcell j hj
        rw [this]; exact hv
      have h00 : ∃ v, (E.c (f 0))[0]? = some v := ⟨(E.c (f 0))[0]'(by rw [E.len]; exact E.pos), List.getElem?_eq_getElem _⟩
      obtain ⟨v0, hv0⟩ := h00
      have hspot : spot = none := by
        have := cell 0 h 0 _ hv0
        simpa [Addr.add] using World.cell?_spot this
      subst hspot
      refine ⟨bb, off, rfl, (by have h9 := block_lt_of_cell (cell 0 h 0 _ hv0); rw [add_plain, add_plain] at h9; exact h9), fun i hil => ?_⟩
      have hil' : i < len := by rw [hlen] at hil; exact hil
      have he : ((List.range len).map f)[i] = f i := by simp
      rw [he]
      intro j u hu
      have := cell i hil' j u hu
      rwa [add_plain, add_plain] at this
    · obtain ⟨i, hi2, rfl⟩ := List.mem_map.1 hp
      exact (hf2 i (by have := List.mem_range.1 hi2; omega)).1
end Go.Proofs.Ytllgmkbmdnpnoaa

/- Of the law: awake, same. -/
namespace Go.Proofs.Ytllgmkbmdnpnoaa
open Go.RowKit Nam Cod

def e0 : En := ⟨3, 3, 2, zeroMv⟩
theorem e0_ok : entB e0 = true := by decide
theorem e0_bytes : entBytes e0 = ⟨#[6, 6, 4]⟩ := by
  apply L_inj
  have h : entBytes e0 = bytesOf 3 ++ bytesOf 3 ++ bytesOf 2 := rfl
  rw [h, L_app, L_app]
  show enc (fold 3) ++ enc (fold 3) ++ enc (fold 2) = [6, 6, 4]
  rw [show fold 3 = 6 from rfl, show fold 2 = 4 from rfl, enc_6, enc_4]; rfl
theorem e0_parse : parseEnt ⟨#[6, 6, 4]⟩ = some e0 := by rw [← e0_bytes]; exact eparse_self e0_ok
theorem i64_0 : i64 0 := by unfold i64; decide
theorem e0_wide : EnW e0 := ⟨by unfold i64; decide, by unfold i64; decide, by unfold i64; decide, ⟨i64_0, i64_0, i64_0, i64_0, i64_0, i64_0⟩⟩
theorem e9_no : entB ⟨9, 0, 0, zeroMv⟩ = false := by decide
theorem e0_tally : tally [⟨1, 1, 4⟩, ⟨3, 1, 9⟩] e0 = [⟨1, 1, 4⟩, ⟨3, 2, 0⟩] := by rfl
set_option maxRecDepth 100000 in
set_option maxHeartbeats 4000000 in
theorem awake11_any (H : EntryCalls) (w : World) : Calls Try.prog 8 #[] w fun e w' => e = .returned (.bool true) ∧ Below w.heap.size w w' := by
  have HPR := Lib.hid (fun (wx : World) => (by
    have h := H.print e0 wx e0_wide (Nat.zero_le _)
    rw [e0_bytes] at h
    exact h : Calls Try.prog 11 #[.agg #[.int .i64 3, .int .i64 3, .int .i64 2, .int .i64 0, .int .i64 0, .int .i64 0, .int .i64 0, .int .i64 0, .int .i64 0, .string ⟨#[]⟩]] wx fun r w' => r = .returned (.string ⟨#[6, 6, 4]⟩) ∧ Below wx.heap.size wx w'))
  have HPA := Lib.hid (fun (wx : World) => ((H.parse ⟨#[6, 6, 4]⟩ wx (by decide)).mono (by
    rintro r w' ⟨x, ok, rfl, ⟨h1, h2⟩, hb⟩
    rw [e0_parse] at h1 h2
    subst h1 h2
    exact ⟨rfl, hb⟩) : Calls Try.prog 16 #[.string ⟨#[6, 6, 4]⟩] wx fun r w' => r = .returned (.tuple #[.agg #[.int .i64 3, .int .i64 3, .int .i64 2, .int .i64 0, .int .i64 0, .int .i64 0, .int .i64 0, .int .i64 0, .int .i64 0, .string ⟨#[]⟩], .bool true]) ∧ Below wx.heap.size wx w'))
  have HRT := Lib.hid (fun (wx : World) => (by
    have h := H.right e0 wx (Nat.zero_le _)
    rw [e0_ok] at h
    exact h : Calls Try.prog 9 #[.agg #[.int .i64 3, .int .i64 3, .int .i64 2, .int .i64 0, .int .i64 0, .int .i64 0, .int .i64 0, .int .i64 0, .int .i64 0, .string ⟨#[]⟩]] wx fun r w' => r = .returned (.bool true) ∧ Below wx.heap.size wx w'))
  have HRN := Lib.hid (fun (wx : World) => (by
    have h := H.right ⟨9, 0, 0, zeroMv⟩ wx (Nat.zero_le _)
    rw [e9_no] at h
    exact h : Calls Try.prog 9 #[.agg #[.int .i64 9, .int .i64 0, .int .i64 0, .int .i64 0, .int .i64 0, .int .i64 0, .int .i64 0, .int .i64 0, .int .i64 0, .string ⟨#[]⟩]] wx fun r w' => r = .returned (.bool false) ∧ Below wx.heap.size wx w'))
  have HTL := Lib.hid (fun (n : Nat) (wx : World) (hS : cnE.Sl wx (some ⟨n, 0, none⟩) [⟨1, 1, 4⟩, ⟨3, 1, 9⟩]) => (by
    have h := H.tally (some ⟨n, 0, none⟩) 2 [⟨1, 1, 4⟩, ⟨3, 1, 9⟩] e0 wx (by decide) ⟨hS, (fun e => by cases e), Nat.le_refl _⟩
    rw [e0_tally] at h
    exact h : Calls Try.prog 14 #[.slice (some ⟨n, 0, none⟩) 2 2, .agg #[.int .i64 3, .int .i64 3, .int .i64 2, .int .i64 0, .int .i64 0, .int .i64 0, .int .i64 0, .int .i64 0, .int .i64 0, .string ⟨#[]⟩]] wx fun r w' => ∃ A' c', r = .returned (.slice A' 2 c') ∧ SlV cnE w' A' c' [⟨1, 1, 4⟩, ⟨3, 2, 0⟩] ∧ Below wx.heap.size wx w'))
  have hP : enE.In (w.alloc (.cells #[.int .i64 3, .int .i64 3, .int .i64 2, .int .i64 0, .int .i64 0, .int .i64 0, .int .i64 0, .int .i64 0, .int .i64 0, .string ⟨#[]⟩] 27)) w.heap.size e0 := El.In.new (E := enE) w e0 _ rfl
  have hB := below_alloc (Below.refl w.heap.size w) (.cells #[.int .i64 3, .int .i64 3, .int .i64 2, .int .i64 0, .int .i64 0, .int .i64 0, .int .i64 0, .int .i64 0, .int .i64 0, .string ⟨#[]⟩] 27)
  go_enter Try.func8, Try.ntmps8
  go_wp2_with fail
  generalize w.alloc (.cells #[.int .i64 3, .int .i64 3, .int .i64 2, .int .i64 0, .int .i64 0, .int .i64 0, .int .i64 0, .int .i64 0, .int .i64 0, .string ⟨#[]⟩] 27) = W0 at *
  obtain ⟨n1, hn1⟩ : ∃ n, w.heap.size = n := ⟨_, rfl⟩
  rw [hn1] at hP ⊢
  clear hn1
  refine (HPR.out _).mono ?_
  rintro r w1 ⟨rfl, hb1⟩
  replace hP := hP.below hb1
  replace hB := hB.trans (hb1.mono hB.size)
  clear hb1 HPR
  go_wp2_with fail
  refine (HPA.out _).mono ?_
  rintro r w2 ⟨rfl, hb2⟩
  replace hP := hP.below hb2
  replace hB := hB.trans (hb2.mono hB.size)
  clear hb2 HPA
  have hal := below_alloc (Below.refl w2.heap.size w2) (.cells #[.int .i64 3, .int .i64 3, .int .i64 2, .int .i64 0, .int .i64 0, .int .i64 0, .int .i64 0, .int .i64 0, .int .i64 0, .string ⟨#[]⟩] 27)
  have hX : enE.In (w2.alloc (.cells #[.int .i64 3, .int .i64 3, .int .i64 2, .int .i64 0, .int .i64 0, .int .i64 0, .int .i64 0, .int .i64 0, .int .i64 0, .string ⟨#[]⟩] 27)) w2.heap.size e0 := El.In.new (E := enE) w2 e0 _ rfl
  replace hP := hP.below hal
  replace hB := hB.trans (hal.mono hB.size)
  clear hal
  have hal := below_alloc (Below.refl (w2.alloc (.cells #[.int .i64 3, .int .i64 3, .int .i64 2, .int .i64 0, .int .i64 0, .int .i64 0, .int .i64 0, .int .i64 0, .int .i64 0, .string ⟨#[]⟩] 27)).heap.size (w2.alloc (.cells #[.int .i64 3, .int .i64 3, .int .i64 2, .int .i64 0, .int .i64 0, .int .i64 0, .int .i64 0, .int .i64 0, .int .i64 0, .string ⟨#[]⟩] 27))) (.cells #[.int .i64 1, .int .i64 1, .int .i64 4, .int .i64 3, .int .i64 1, .int .i64 9] 45)
  have hS : cnE.Sl ((w2.alloc (.cells #[.int .i64 3, .int .i64 3, .int .i64 2, .int .i64 0, .int .i64 0, .int .i64 0, .int .i64 0, .int .i64 0, .int .i64 0, .string ⟨#[]⟩] 27)).alloc (.cells #[.int .i64 1, .int .i64 1, .int .i64 4, .int .i64 3, .int .i64 1, .int .i64 9] 45)) (some ⟨(w2.alloc (.cells #[.int .i64 3, .int .i64 3, .int .i64 2, .int .i64 0, .int .i64 0, .int .i64 0, .int .i64 0, .int .i64 0, .int .i64 0, .string ⟨#[]⟩] 27)).heap.size, 0, none⟩) [⟨1, 1, 4⟩, ⟨3, 1, 9⟩] := El.Sl.row (E := cnE) (w2.alloc (.cells #[.int .i64 3, .int .i64 3, .int .i64 2, .int .i64 0, .int .i64 0, .int .i64 0, .int .i64 0, .int .i64 0, .int .i64 0, .string ⟨#[]⟩] 27)) [⟨1, 1, 4⟩, ⟨3, 1, 9⟩] _ rfl
  rw [alloc_size] at hS
  replace hP := hP.below hal
  replace hX := hX.below hal
  replace hB := hB.trans (hal.mono hB.size)
  clear hal
  obtain ⟨p0, p1, p2, p3, p4, p5, p6, p7, p8, p9⟩ := enIn10 hP
  dsimp only [e0, zeroMv] at p0 p1 p2 p3 p4 p5 p6 p7 p8 p9
  go_wp2_with fail
  clear p0 p1 p2 p3 p4 p5 p6 p7 p8 p9
  refine (HTL.out _ _ hS).mono ?_
  rintro r w3 ⟨A', c', rfl, hS3, hb3⟩
  replace hP := hP.below hb3
  replace hX := hX.below hb3
  replace hB := hB.trans (hb3.mono hB.size)
  clear hb3 HTL hS
  obtain ⟨n3, hn3⟩ : ∃ n, w2.heap.size = n := ⟨_, rfl⟩
  rw [hn3] at hX ⊢
  clear hn3
  obtain ⟨p0, p1, p2, p3, p4, p5, p6, p7, p8, p9⟩ := enIn10 hP
  dsimp only [e0, zeroMv] at p0 p1 p2 p3 p4 p5 p6 p7 p8 p9
  go_wp2_with fail
  clear p0 p1 p2 p3 p4 p5 p6 p7 p8 p9
  refine (HRT.out _).mono ?_
  rintro r w4 ⟨rfl, hb4⟩
  replace hP := hP.below hb4
  replace hX := hX.below hb4
  replace hS3 := hS3.below hb4
  replace hB := hB.trans (hb4.mono hB.size)
  clear hb4 HRT
  obtain ⟨p0, p1, p2, p3, p4, p5, p6, p7, p8, p9⟩ := enIn10 hP
  obtain ⟨x0, x1, x2, x3, x4, x5, x6, x7, x8, x9⟩ := enIn10 hX
  dsimp only [e0, zeroMv] at p0 p1 p2 p3 p4 p5 p6 p7 p8 p9 x0 x1 x2 x3 x4 x5 x6 x7 x8 x9
  go_wp2_with fail
  clear p0 p1 p2 p3 p4 p5 p6 p7 p8 p9 x0 x1 x2 x3 x4 x5 x6 x7 x8 x9
  refine (HRN.out _).mono ?_
  rintro r w5 ⟨rfl, hb5⟩
  replace hS3 := hS3.below hb5
  replace hB := hB.trans (hb5.mono hB.size)
  clear hb5 HRN hP hX
  obtain ⟨b, off, hA, hbw, hc⟩ := hS3.1 (by decide)
  have hat : cnE.At w5 b (off + 3) ⟨3, 2, 0⟩ := hc 1 (by decide)
  obtain ⟨s0, s1, s2⟩ := cnAt3 hat
  subst hA
  dsimp only at s0 s1 s2
  clear hS3 hc hat
  go_wp2_with fail
  go_ret
  exact ⟨rfl, hB⟩

theorem cnIdx {A : Option Addr} {b off len cap k : Nat} (hA : A = some ⟨b, off, none⟩) (h : k < len) : ∀ w, (Instr.indexAt 28 (.slice A len cap) (.int .i64 k)).run Try.prog w = .ok (.pointer (some ⟨b, off + k * 3, none⟩)) w := fun w => by
  subst hA
  have h2 : (k : Int) < (len : Int) := by omega
  go_simp
set_option maxRecDepth 100000 in
set_option maxHeartbeats 2000000 in
/-- same of equal lists. -/
theorem same11_any (A B : Option Addr) (cA cB : Nat) (l : List Cn) (w : World) (hA : cnE.Sl w A l) (hB : cnE.Sl w B l) (hl : l.length ≤ 100000) : Calls Try.prog 13 #[.slice A l.length cA, .slice B l.length cB] w fun e w' => e = .returned (.bool true) ∧ Below w.heap.size w w' := by
  go_enter Try.func13, Try.ntmps13
  go_wp2_with fail
  go_loopw [5] (fun y wr => ∃ k : Nat, k ≤ l.length ∧ y = .int .i64 k ∧ Below w.heap.size w wr) (fun y _ => l.length - (intOf y).toNat)
  case atStart => exact ⟨0, Nat.zero_le _, rfl, Below.refl _ _⟩
  case round =>
    obtain ⟨k, hk, rfl, hN⟩ := hrel
    by_cases hkl : k < l.length
    · obtain ⟨b, off, eA, hbw, hc⟩ := hA (by omega)
      obtain ⟨b', off', eB, hbw', hc'⟩ := hB (by omega)
      have hx := cnIdx (cap := cA) eA hkl
      have hy := cnIdx (cap := cB) eB hkl
      have hat : cnE.At wr b (off + k * 3) l[k] := (hc k hkl).below hN hbw
      have hat' : cnE.At wr b' (off' + k * 3) l[k] := (hc' k hkl).below hN hbw'
      obtain ⟨s0, s1, s2⟩ := cnAt3 hat
      obtain ⟨t0, t1, t2⟩ := cnAt3 hat'
      generalize l[k] = x at *
      clear hc hc' hat hat' eA eB
      go_wp2_with fail
      go_quiet (fail)
      go_wp2_with fail
      exact ⟨⟨k + 1, by omega, by go_num, below_drew hN nq⟩, by simp [intOf]; omega⟩
    · obtain rfl : k = l.length := by omega
      go_wp2_with fail
      go_ret
      exact ⟨rfl, hN⟩
end Go.Proofs.Ytllgmkbmdnpnoaa

/- Entries and counts among the arguments, opened. -/
namespace Go.Proofs.Ytllgmkbmdnpnoaa
open Go.ChangeShapes Go.WideShapes Go.ChangeAt Go.RowKit Go.Deep Nam Cod

theorem cellsEn : Try.prog.cellsOf 27 = 10 := by kernel_rfl
theorem cellsCn : Try.prog.cellsOf 45 = 3 := by kernel_rfl
set_option maxRecDepth 100000 in
theorem read_en {H : Type} {enc : TypeId × Value → H} {W : World} {base : Nat} {sp : Nat → Bool} {held : Bool} {fuel : Nat} {cs : List Value} {x : DataW H × List MemPlace}
    (h : DataW.trod enc Try.prog W base sp held fuel 27 cs = some x) : ∃ e : En, cs = enE.c e ∧ EnW e ∧ e.o.s.size ≤ maxLen := by
  obtain ⟨xs, n, _, _, hl, hlen, hf⟩ := DataW.trod_struct Try.underlying27 h
  have hl10 : cs.length = 10 := hl.trans cellsEn
  have hl4 : xs.length = 4 := hlen
  match cs, hl10, xs, hl4 with
  | [c0, c1, c2, c3, c4, c5, c6, c7, c8, c9], _, [y0, y1, y2, y3], _ =>
    have h0 := hf 0 _ rfl
    have h1 := hf 1 _ rfl
    have h2 := hf 2 _ rfl
    have h3 := hf 3 _ rfl
    simp [cells25, cells3] at h0 h1 h2 h3
    obtain ⟨k, e0, _, w0⟩ := DataW.trod_int Try.underlying3 h0
    obtain ⟨d, e1, _, w1⟩ := DataW.trod_int Try.underlying3 h1
    obtain ⟨i, e2, _, w2⟩ := DataW.trod_int Try.underlying3 h2
    obtain ⟨C, D, I, M, K, U, s, e3, w3, ws⟩ := read_op h3
    simp at e0 e1 e2 e3
    obtain ⟨e3, e4, e5, e6, e7, e8, e9⟩ := e3
    subst e0 e1 e2 e3 e4 e5 e6 e7 e8 e9
    have b0 := bounds_i64 w0
    have b1 := bounds_i64 w1
    have b2 := bounds_i64 w2
    have g0 : i64 k := by unfold i64; omega
    have g1 : i64 d := by unfold i64; omega
    have g2 : i64 i := by unfold i64; omega
    exact ⟨⟨k, d, i, ⟨C, D, I, M, K, U, s⟩⟩, rfl, ⟨g0, g1, g2, w3⟩, ws⟩
set_option maxRecDepth 100000 in
theorem read_cn {H : Type} {enc : TypeId × Value → H} {W : World} {base : Nat} {sp : Nat → Bool} {held : Bool} {fuel : Nat} {cs : List Value} {x : DataW H × List MemPlace}
    (h : DataW.trod enc Try.prog W base sp held fuel 45 cs = some x) : ∃ c : Cn, cs = cnE.c c ∧ True := by
  obtain ⟨xs, n, _, _, hl, hlen, hf⟩ := DataW.trod_struct Try.underlying45 h
  have hl10 : cs.length = 3 := hl.trans cellsCn
  have hl4 : xs.length = 3 := hlen
  match cs, hl10, xs, hl4 with
  | [c0, c1, c2], _, [y0, y1, y2], _ =>
    have h0 := hf 0 _ rfl
    have h1 := hf 1 _ rfl
    have h2 := hf 2 _ rfl
    simp [cells3] at h0 h1 h2
    obtain ⟨k, e0, _, _⟩ := DataW.trod_int Try.underlying3 h0
    obtain ⟨d, e1, _, _⟩ := DataW.trod_int Try.underlying3 h1
    obtain ⟨i, e2, _, _⟩ := DataW.trod_int Try.underlying3 h2
    simp at e0 e1 e2
    subst e0 e1 e2
    exact ⟨⟨k, d, i⟩, rfl, trivial⟩
set_option maxRecDepth 100000 in
theorem open_en {H : Type} {enc : TypeId × Value → H} {W : World} {base : Nat} {sp : Nat → Bool} {v : Value} {d : DataW H} {ps : List MemPlace}
    (hv : Value.okWide Try.prog W .any base 27 v) (h : DataW.Trod enc Try.prog W 0 sp true 27 v d ps) : ∃ e : En, v = .agg #[.int .i64 e.k, .int .i64 e.d, .int .i64 e.i, .int .i64 e.o.C, .int .i64 e.o.D, .int .i64 e.o.I, .int .i64 e.o.M, .int .i64 e.o.K, .int .i64 e.o.U, .string e.o.s] ∧ EnW e ∧ e.o.s.size ≤ maxLen := by
  obtain ⟨cs, rfl, _⟩ := okWide_struct Try.underlying27 hv
  obtain ⟨fuel, hf⟩ := h
  obtain ⟨e, he, hw, hs⟩ := read_en hf
  refine ⟨e, ?_, hw, hs⟩
  obtain ⟨l⟩ := cs
  simp [Value.cells] at he
  rw [he]
  rfl
instance : Inhabited En := ⟨zeroEn⟩
instance : Inhabited Cn := ⟨zeroCn⟩
set_option maxRecDepth 100000 in
theorem open_ens {H : Type} {enc : TypeId × Value → H} {W : World} {base : Nat} {v : Value} {d : DataW H} {ps : List MemPlace}
    (hv : Value.okWide Try.prog W .any base 38 v) (h : DataW.Trod enc Try.prog W 0 (fun _ => true) true 38 v d ps) :
    ∃ (A : Option Addr) (cap : Nat) (l : List En), v = .slice A l.length cap ∧ enE.Sl W A l ∧ l.length ≤ cap ∧ (A = none → cap = 0) ∧ ∀ e ∈ l, EnW e ∧ e.o.s.size ≤ maxLen :=
  open_list enE (fun e => EnW e ∧ e.o.s.size ≤ maxLen) Try.underlying38 cellsEn (fun h => read_en h) hv h
set_option maxRecDepth 100000 in
theorem open_cns {H : Type} {enc : TypeId × Value → H} {W : World} {base : Nat} {v : Value} {d : DataW H} {ps : List MemPlace}
    (hv : Value.okWide Try.prog W .any base 28 v) (h : DataW.Trod enc Try.prog W 0 (fun _ => true) true 28 v d ps) :
    ∃ (A : Option Addr) (cap : Nat) (l : List Cn), v = .slice A l.length cap ∧ cnE.Sl W A l ∧ l.length ≤ cap ∧ (A = none → cap = 0) ∧ ∀ c ∈ l, True :=
  open_list cnE (fun _ => True) Try.underlying28 cellsCn (fun h => read_cn h) hv h
end Go.Proofs.Ytllgmkbmdnpnoaa

/- EntryTells, given the program's calls: whether anything may be an entry, its bytes, what any counts come to behind it, are the document's. -/
namespace Go.Proofs.Ytllgmkbmdnpnoaa
open Go.ChangeShapes Go.WideShapes Go.ChangeAt Go.RowKit Go.Deep Nam Cod

set_option maxRecDepth 100000 in
set_option maxHeartbeats 2000000 in
theorem tells11_long (H : EntryCalls) (e : En) (A : Option Addr) (cap : Nat) (l : List Cn) (w : World) (h : 1000 < e.o.s.size ∨ 100 < l.length) (hs : e.o.s.size ≤ maxLen) :
    Calls Try.prog 3 #[.agg #[.int .i64 e.k, .int .i64 e.d, .int .i64 e.i, .int .i64 e.o.C, .int .i64 e.o.D, .int .i64 e.o.I, .int .i64 e.o.M, .int .i64 e.o.K, .int .i64 e.o.U, .string e.o.s], .slice A l.length cap] w fun r w' => r = .returned (.bool true) ∧ Below w.heap.size w w' := by
  have hE : enE.In (w.alloc (.cells #[.int .i64 e.k, .int .i64 e.d, .int .i64 e.i, .int .i64 e.o.C, .int .i64 e.o.D, .int .i64 e.o.I, .int .i64 e.o.M, .int .i64 e.o.K, .int .i64 e.o.U, .string e.o.s] 27)) w.heap.size e := El.In.new (E := enE) w e _ rfl
  have hB := below_alloc (Below.refl w.heap.size w) (.cells #[.int .i64 e.k, .int .i64 e.d, .int .i64 e.i, .int .i64 e.o.C, .int .i64 e.o.D, .int .i64 e.o.I, .int .i64 e.o.M, .int .i64 e.o.K, .int .i64 e.o.U, .string e.o.s] 27)
  obtain ⟨p0, p1, p2, p3, p4, p5, p6, p7, p8, p9⟩ := enIn10 hE
  unfold maxLen at hs
  by_cases h1 : 1000 < e.o.s.size
  · clear h hE
    go_enter Try.func3, Try.ntmps3
    go_wp2_with fail
    refine (awake11_any H _).mono ?_
    rintro r w1 ⟨rfl, hb1⟩
    go_wp2_with fail
    go_ret
    exact ⟨rfl, hB.trans (hb1.mono hB.size)⟩
  · have h2 : 100 < l.length := by omega
    clear h hE
    go_enter Try.func3, Try.ntmps3
    go_wp2_with fail
    refine (awake11_any H _).mono ?_
    rintro r w1 ⟨rfl, hb1⟩
    go_wp2_with fail
    go_ret
    exact ⟨rfl, hB.trans (hb1.mono hB.size)⟩

set_option maxRecDepth 100000 in
set_option maxHeartbeats 4000000 in
theorem tells11_walk (H : EntryCalls) (e : En) (A : Option Addr) (cap : Nat) (l : List Cn) (w : World) (h1 : e.o.s.size ≤ 1000) (h2 : l.length ≤ 100) (hw : EnW e) (hT : SlV cnE w A cap l) :
    Calls Try.prog 3 #[.agg #[.int .i64 e.k, .int .i64 e.d, .int .i64 e.i, .int .i64 e.o.C, .int .i64 e.o.D, .int .i64 e.o.I, .int .i64 e.o.M, .int .i64 e.o.K, .int .i64 e.o.U, .string e.o.s], .slice A l.length cap] w fun r w' => r = .returned (.bool true) ∧ Below w.heap.size w w' := by
  have hP : enE.In (w.alloc (.cells #[.int .i64 e.k, .int .i64 e.d, .int .i64 e.i, .int .i64 e.o.C, .int .i64 e.o.D, .int .i64 e.o.I, .int .i64 e.o.M, .int .i64 e.o.K, .int .i64 e.o.U, .string e.o.s] 27)) w.heap.size e := El.In.new (E := enE) w e _ rfl
  have hB := below_alloc (Below.refl w.heap.size w) (.cells #[.int .i64 e.k, .int .i64 e.d, .int .i64 e.i, .int .i64 e.o.C, .int .i64 e.o.D, .int .i64 e.o.I, .int .i64 e.o.M, .int .i64 e.o.K, .int .i64 e.o.U, .string e.o.s] 27)
  have HA := Lib.hid (fun (wx : World) => awake11_any H wx)
  have HR := Lib.hid (fun (wx : World) => H.right e wx (by omega))
  have HRR := Lib.hid (fun (wx : World) => refEntRight_any e wx (by omega))
  have HPR := Lib.hid (fun (wx : World) => H.print e wx hw (by omega))
  have HRP := Lib.hid (fun (wx : World) => refEntPrint_any e wx hw (by omega))
  have HTL := Lib.hid (fun (wx : World) (hb : Below w.heap.size w wx) => H.tally A cap l e wx (by omega) (hT.below hb))
  have HRT := Lib.hid (fun (wx : World) (hb : Below w.heap.size w wx) => refTally_any A cap l e wx (by omega) (hT.below hb))
  have hlt := tally_len l e
  generalize entB e = eb at *
  generalize entBytes e = S at *
  generalize tally l e = M at *
  have HS := Lib.hid (fun (A1 A2 : Option Addr) (c1 c2 : Nat) (wx : World) (g1 : SlV cnE wx A1 c1 M) (g2 : SlV cnE wx A2 c2 M) => same11_any A1 A2 c1 c2 M wx g1.1 g2.1 (by omega))
  obtain ⟨p0, p1, p2, p3, p4, p5, p6, p7, p8, p9⟩ := enIn10 hP
  clear hT hw hlt
  go_enter Try.func3, Try.ntmps3
  go_wp2_with fail
  clear p0 p1 p2 p3 p4 p5 p6 p7 p8 p9
  generalize w.alloc (.cells #[.int .i64 e.k, .int .i64 e.d, .int .i64 e.i, .int .i64 e.o.C, .int .i64 e.o.D, .int .i64 e.o.I, .int .i64 e.o.M, .int .i64 e.o.K, .int .i64 e.o.U, .string e.o.s] 27) = W0 at *
  obtain ⟨n1, hn1⟩ : ∃ n, w.heap.size = n := ⟨_, rfl⟩
  rw [hn1] at hP ⊢
  clear hn1
  replace hP : enE.In W0.drew n1 e := hP
  replace hB := hB.drew
  go_region_held3 (fun w' => w'.cell? ⟨n1, 0, none⟩ = some (.int .i64 e.k) ∧ w'.cell? ⟨n1, 1, none⟩ = some (.int .i64 e.d) ∧ w'.cell? ⟨n1, 2, none⟩ = some (.int .i64 e.i) ∧ w'.cell? ⟨n1, 3, none⟩ = some (.int .i64 e.o.C) ∧ w'.cell? ⟨n1, 4, none⟩ = some (.int .i64 e.o.D) ∧ w'.cell? ⟨n1, 5, none⟩ = some (.int .i64 e.o.I) ∧ w'.cell? ⟨n1, 6, none⟩ = some (.int .i64 e.o.M) ∧ w'.cell? ⟨n1, 7, none⟩ = some (.int .i64 e.o.K) ∧ w'.cell? ⟨n1, 8, none⟩ = some (.int .i64 e.o.U) ∧ w'.cell? ⟨n1, 9, none⟩ = some (.string e.o.s)) (with_reducible exact enIn10 hP) (first | (go_at_call 8; (with_reducible refine (HA.out _).mono ?_); rintro r w4 ⟨rfl, hb4⟩; have hP := hP.below hb4; have hB := hB.trans (hb4.mono hB.size)) | (go_at_call 9; (with_reducible refine (HR.out _).mono ?_); rintro r w4 ⟨rfl, hb4⟩; have hP := hP.below hb4; have hB := hB.trans (hb4.mono hB.size)) | (go_at_call 10; (with_reducible refine (HRR.out _).mono ?_); rintro r w4 ⟨rfl, hb4⟩; have hP := hP.below hb4; have hB := hB.trans (hb4.mono hB.size)) | (go_at_call 11; (with_reducible refine (HPR.out _).mono ?_); rintro r w4 ⟨rfl, hb4⟩; have hP := hP.below hb4; have hB := hB.trans (hb4.mono hB.size)) | (go_at_call 12; (with_reducible refine (HRP.out _).mono ?_); rintro r w4 ⟨rfl, hb4⟩; have hP := hP.below hb4; have hB := hB.trans (hb4.mono hB.size)) | (go_at_call 14; (with_reducible refine (HTL.out _ hB).mono ?_); rintro r w4 ⟨A1, c1, rfl, hS1, hb4⟩; have hP := hP.below hb4; have hB := hB.trans (hb4.mono hB.size)) | (go_at_call 15; (with_reducible refine (HRT.out _ hB).mono ?_); rintro r w4 ⟨A2, c2, rfl, hS2, hb4⟩; have hP := hP.below hb4; have hS1 := hS1.below hb4; have hB := hB.trans (hb4.mono hB.size)) | (go_at_call 13; (with_reducible refine (HS.out A1 A2 c1 c2 _ hS1 hS2).mono ?_); rintro r w4 ⟨rfl, hb4⟩; have hP := hP.below hb4; have hB := hB.trans (hb4.mono hB.size)))
  go_wp2_with fail
  go_ret
  exact ⟨rfl, hB⟩
set_option maxRecDepth 100000 in
theorem tells11_lifted (H0 : EntryCalls) (os : Os) (started : os.Started) (H : Type) (enc : TypeId × Value → H) :
    ReturnsInHanded {} Try.checked os 3 .any (Rows.entryTellsSpec.pre6 enc Try.prog Try.f3 Rows.entryTellsRow.domain false) (Rows.entryTellsSpec.post enc Try.prog Try.f3 false true false false) := by
  refine returnsInHanded_of_change (C := Try.checked) own started (by kernel_rfl) Try.func3
    (ChangeSpec.witness6 (enc := enc) (C := Try.checked) false ⟨#[], #[.agg #[.int .i64 0, .int .i64 0, .int .i64 0, .int .i64 0, .int .i64 0, .int .i64 0, .int .i64 0, .int .i64 0, .int .i64 0, .string ⟨#[]⟩], .slice none 0 0], []⟩ 8 (by kernel_rfl) (by kernel_rfl) (by kernel_rfl) (by kernel_rfl)) ?_
  intro W base args ds gs before hval0 hW _ _
  have hval : ∀ (j : Nat) t v, Try.f3.params[j]? = some t → args[j]? = some v → Value.okWide Try.prog W .any base t v := hval0
  have hW' := hW
  obtain ⟨p, q, hA0, hV, rfl, _, _⟩ := hW
  have hA : DataW.TrodAll enc Try.prog W 0 (fun _ => true) true Try.f3.params.toList args.toList ds p := hA0
  rw [Try.params3] at hA hval
  obtain ⟨v0, v1, d0, d1, p0, p1, rfl, rfl, rfl, h0, h1⟩ := trodAll_two hA
  obtain ⟨e, rfl, hw, hs⟩ := open_en (hval 0 27 v0 rfl rfl) h0
  obtain ⟨A, cap, l, rfl, hT, hcap, hn, _⟩ := open_cns (hval 1 28 v1 rfl rfl) h1
  have hc : Calls Try.prog 3 #[.agg #[.int .i64 e.k, .int .i64 e.d, .int .i64 e.i, .int .i64 e.o.C, .int .i64 e.o.D, .int .i64 e.o.I, .int .i64 e.o.M, .int .i64 e.o.K, .int .i64 e.o.U, .string e.o.s], .slice A l.length cap] W fun e w' => e = .returned (.bool true) ∧ Below W.heap.size W w' := by
    by_cases h : 1000 < e.o.s.size ∨ 100 < l.length
    · exact tells11_long H0 e A cap l W h hs
    · exact tells11_walk H0 e A cap l W (by omega) (by omega) hw ⟨hT, hn, hcap⟩
  refine hc.mono fun e W' ⟨he, hb⟩ => ?_
  subst he
  exact ⟨_, rfl, Frm.law_post (by kernel_rfl) (by kernel_rfl) (by kernel_rfl) Try.underlying4 rfl rfl hW' hb⟩

theorem tells11_holds (H0 : EntryCalls) : Rows.EntryTellsSaid :=
  OpenClaim.holds_of_wide 3 Try.f3 rfl rfl rfl rfl rfl rfl rfl ⟨rfl, rfl, rfl, rfl, rfl⟩ rfl rfl rfl rfl rfl (by kernel_rfl) Try.func3 (by kernel_rfl)
    (of_decide_eq_true (by kernel_rfl)) (by unfold Func.isWrapper; first | (rw [if_pos (by decide +kernel)]; kernel_rfl) | (rw [if_neg (by decide +kernel)]; exact ⟨rfl, rfl⟩))
    (fun os started H enc _ => tells11_lifted H0 os started H enc)
end Go.Proofs.Ytllgmkbmdnpnoaa

/- The program's entries: Right, Print. -/
namespace Go.Proofs.Ytllgmkbmdnpnoaa
open Go.RowKit Nam Cod

theorem op_mv (m : Mv) (w : World) (hs : m.s.size ≤ 9223372036854775807) :
    Calls Try.prog 20 #[.agg #[.int .i64 m.C, .int .i64 m.D, .int .i64 m.I, .int .i64 m.M, .int .i64 m.K, .int .i64 m.U, .string m.s]] w fun e w' => e = .returned (.bool (okB m)) ∧ Below w.heap.size w w' := opRight_any m.C m.D m.I m.M m.K m.U m.s w hs
theorem opP_mv (m : Mv) (w : World) (hw : Wide m.C m.D m.I m.M m.K m.U) (hs : m.s.size ≤ 1000000) :
    Calls Try.prog 24 #[.agg #[.int .i64 m.C, .int .i64 m.D, .int .i64 m.I, .int .i64 m.M, .int .i64 m.K, .int .i64 m.U, .string m.s]] w fun e w' => e = .returned (.string m.bytes) ∧ Below w.heap.size w w' := opPrint_any m.C m.D m.I m.M m.K m.U m.s w hw hs

set_option maxRecDepth 100000 in
theorem life_any (d i : Int) (w : World) : Calls Try.prog 21 #[.int .i64 d, .int .i64 i] w fun r w' => r = .returned (.bool (lifeB d i)) ∧ Below w.heap.size w w' := by
  by_cases h3 : 0 ≤ d ∧ d < 12 ∧ 1 ≤ i ∧ i ≤ 1099511627776
  · have hl : lifeB d i = true := decide_eq_true h3
    rw [hl]
    obtain ⟨h4, h5, h6, h7⟩ := h3
    clear hl
    go_enter Try.func21, Try.ntmps21
    go_wp2_with fail
    go_ret
    exact ⟨rfl, Below.refl _ _⟩
  · have hl : lifeB d i = false := decide_eq_false h3
    rw [hl]
    clear hl
    rcases (show d < 0 ∨ (0 ≤ d ∧ 12 ≤ d) ∨ (0 ≤ d ∧ d < 12 ∧ i < 1) ∨ (0 ≤ d ∧ d < 12 ∧ 1 ≤ i ∧ 1099511627776 < i) by omega) with h4 | ⟨h4, h5⟩ | ⟨h4, h5, h6⟩ | ⟨h4, h5, h6, h7⟩
    all_goals
      clear h3
      try have f7 : decide (i ≤ 1099511627776) = false := decide_eq_false (by omega)
      go_enter Try.func21, Try.ntmps21
      go_wp2_with fail
      go_ret
      exact ⟨rfl, Below.refl _ _⟩

set_option maxRecDepth 100000 in
set_option maxHeartbeats 2000000 in
theorem entRight_any (e : En) (w : World) (hs : e.o.s.size ≤ 9223372036854775807) : Calls Try.prog 9 #[.agg #[.int .i64 e.k, .int .i64 e.d, .int .i64 e.i, .int .i64 e.o.C, .int .i64 e.o.D, .int .i64 e.o.I, .int .i64 e.o.M, .int .i64 e.o.K, .int .i64 e.o.U, .string e.o.s]] w fun r w' => r = .returned (.bool (entB e)) ∧ Below w.heap.size w w' := by
  obtain ⟨k, d, i, o⟩ := e
  dsimp only at hs ⊢
  have hE : enE.In (w.alloc (.cells #[.int .i64 (⟨k, d, i, o⟩ : En).k, .int .i64 (⟨k, d, i, o⟩ : En).d, .int .i64 (⟨k, d, i, o⟩ : En).i, .int .i64 (⟨k, d, i, o⟩ : En).o.C, .int .i64 (⟨k, d, i, o⟩ : En).o.D, .int .i64 (⟨k, d, i, o⟩ : En).o.I, .int .i64 (⟨k, d, i, o⟩ : En).o.M, .int .i64 (⟨k, d, i, o⟩ : En).o.K, .int .i64 (⟨k, d, i, o⟩ : En).o.U, .string (⟨k, d, i, o⟩ : En).o.s] 27)) w.heap.size ⟨k, d, i, o⟩ := El.In.new (E := enE) w ⟨k, d, i, o⟩ _ rfl
  have hB := below_alloc (Below.refl w.heap.size w) (.cells #[.int .i64 (⟨k, d, i, o⟩ : En).k, .int .i64 (⟨k, d, i, o⟩ : En).d, .int .i64 (⟨k, d, i, o⟩ : En).i, .int .i64 (⟨k, d, i, o⟩ : En).o.C, .int .i64 (⟨k, d, i, o⟩ : En).o.D, .int .i64 (⟨k, d, i, o⟩ : En).o.I, .int .i64 (⟨k, d, i, o⟩ : En).o.M, .int .i64 (⟨k, d, i, o⟩ : En).o.K, .int .i64 (⟨k, d, i, o⟩ : En).o.U, .string (⟨k, d, i, o⟩ : En).o.s] 27)
  dsimp only at hE hB
  have C1 := (fun wx => op_mv o wx hs)
  have C2 := (fun wx => life_any d i wx)
  by_cases h1 : k = 1
  · subst h1
    have hv : entB ⟨1, d, i, o⟩ = (decide (d = 0 ∧ i = 0) && okB o) := by
      unfold entB; rw [if_pos rfl]
    rw [hv]
    clear hv C2
    generalize okB o = bo at *
    replace C1 := Lib.hid C1
    cases bo
    · rw [Bool.and_false]
      go_enter Try.func9, Try.ntmps9
      go_wp2_with fail
      refine (C1.out _).mono ?_
      rintro r w1 ⟨rfl, hb1⟩
      replace hB := hB.trans (hb1.mono hB.size)
      obtain ⟨p0, p1, p2, p3, p4, p5, p6, p7, p8, p9⟩ := enIn10 (hE.below hb1)
      dsimp only at p0 p1 p2 p3 p4 p5 p6 p7 p8 p9
      clear hb1 hE
      go_wp2_with fail
      go_ret
      exact ⟨rfl, hB⟩
    · rw [Bool.and_true]
      by_cases h3 : d = 0
      · subst h3
        by_cases h4 : i = 0
        · subst h4
          have hv : decide ((0 : Int) = 0 ∧ (0 : Int) = 0) = true := decide_eq_true ⟨rfl, rfl⟩
          rw [hv]
          clear hv
          go_enter Try.func9, Try.ntmps9
          go_wp2_with fail
          refine (C1.out _).mono ?_
          rintro r w1 ⟨rfl, hb1⟩
          replace hB := hB.trans (hb1.mono hB.size)
          obtain ⟨p0, p1, p2, p3, p4, p5, p6, p7, p8, p9⟩ := enIn10 (hE.below hb1)
          dsimp only at p0 p1 p2 p3 p4 p5 p6 p7 p8 p9
          clear hb1 hE
          go_wp2_with fail
          go_ret
          exact ⟨rfl, hB⟩
        · have hv : decide ((0 : Int) = 0 ∧ i = 0) = false := decide_eq_false (fun h => h4 h.2)
          rw [hv]
          clear hv
          have e2 : (i == 0) = false := beq_eq_false_iff_ne.2 h4
          clear h4
          go_enter Try.func9, Try.ntmps9
          go_wp2_with fail
          refine (C1.out _).mono ?_
          rintro r w1 ⟨rfl, hb1⟩
          replace hB := hB.trans (hb1.mono hB.size)
          obtain ⟨p0, p1, p2, p3, p4, p5, p6, p7, p8, p9⟩ := enIn10 (hE.below hb1)
          dsimp only at p0 p1 p2 p3 p4 p5 p6 p7 p8 p9
          clear hb1 hE
          go_wp2_with fail
          go_ret
          exact ⟨rfl, hB⟩
      · have hv : decide (d = 0 ∧ i = 0) = false := decide_eq_false (fun h => h3 h.1)
        rw [hv]
        clear hv
        have e2 : (d == 0) = false := beq_eq_false_iff_ne.2 h3
        clear h3
        go_enter Try.func9, Try.ntmps9
        go_wp2_with fail
        refine (C1.out _).mono ?_
        rintro r w1 ⟨rfl, hb1⟩
        replace hB := hB.trans (hb1.mono hB.size)
        obtain ⟨p0, p1, p2, p3, p4, p5, p6, p7, p8, p9⟩ := enIn10 (hE.below hb1)
        dsimp only at p0 p1 p2 p3 p4 p5 p6 p7 p8 p9
        clear hb1 hE
        go_wp2_with fail
        go_ret
        exact ⟨rfl, hB⟩
  · have e1 : (k == 1) = false := beq_eq_false_iff_ne.2 h1
    by_cases h2 : k = 2 ∨ k = 3
    · have hv : entB ⟨k, d, i, o⟩ = (lifeB d i && zeroB o) := by
        unfold entB
        rw [if_neg h1, if_pos h2]
      rw [hv]
      have q := run_eqMv
      have HZ := Lib.hid (show mvEq o.C o.D o.I o.M o.K o.U o.s 0 0 0 0 0 0 ⟨#[]⟩ = zeroB o from rfl)
      clear hv h1 C1
      generalize lifeB d i = lb at *
      replace C2 := Lib.hid C2
      cases lb
      · rw [Bool.false_and]
        rcases h2 with rfl | rfl
        · skip
          go_enter Try.func9, Try.ntmps9
          go_wp2_with fail
          refine (C2.out _).mono ?_
          rintro r w1 ⟨rfl, hb1⟩
          replace hB := hB.trans (hb1.mono hB.size)
          obtain ⟨p0, p1, p2, p3, p4, p5, p6, p7, p8, p9⟩ := enIn10 (hE.below hb1)
          dsimp only at p0 p1 p2 p3 p4 p5 p6 p7 p8 p9
          clear hb1 hE
          go_wp2_with fail
          go_ret
          exact ⟨rfl, hB⟩
        · skip
          go_enter Try.func9, Try.ntmps9
          go_wp2_with fail
          refine (C2.out _).mono ?_
          rintro r w1 ⟨rfl, hb1⟩
          replace hB := hB.trans (hb1.mono hB.size)
          obtain ⟨p0, p1, p2, p3, p4, p5, p6, p7, p8, p9⟩ := enIn10 (hE.below hb1)
          dsimp only at p0 p1 p2 p3 p4 p5 p6 p7 p8 p9
          clear hb1 hE
          go_wp2_with fail
          go_ret
          exact ⟨rfl, hB⟩
      · rw [Bool.true_and]
        rcases h2 with rfl | rfl
        · skip
          go_enter Try.func9, Try.ntmps9
          go_wp2_with fail
          refine (C2.out _).mono ?_
          rintro r w1 ⟨rfl, hb1⟩
          replace hB := hB.trans (hb1.mono hB.size)
          obtain ⟨p0, p1, p2, p3, p4, p5, p6, p7, p8, p9⟩ := enIn10 (hE.below hb1)
          dsimp only at p0 p1 p2 p3 p4 p5 p6 p7 p8 p9
          clear hb1 hE
          go_wp2_with fail
          go_ret
          exact ⟨by rw [HZ.out]; rfl, hB⟩
        · skip
          go_enter Try.func9, Try.ntmps9
          go_wp2_with fail
          refine (C2.out _).mono ?_
          rintro r w1 ⟨rfl, hb1⟩
          replace hB := hB.trans (hb1.mono hB.size)
          obtain ⟨p0, p1, p2, p3, p4, p5, p6, p7, p8, p9⟩ := enIn10 (hE.below hb1)
          dsimp only at p0 p1 p2 p3 p4 p5 p6 p7 p8 p9
          clear hb1 hE
          go_wp2_with fail
          go_ret
          exact ⟨by rw [HZ.out]; rfl, hB⟩
    · have hv : entB ⟨k, d, i, o⟩ = false := by
        unfold entB
        rw [if_neg h1, if_neg h2]
      rw [hv]
      have e2 : (k == 2) = false := beq_eq_false_iff_ne.2 (fun h => h2 (Or.inl h))
      have e3 : (k == 3) = false := beq_eq_false_iff_ne.2 (fun h => h2 (Or.inr h))
      clear h1 h2 hv
      go_enter Try.func9, Try.ntmps9
      go_wp2_with fail
      go_ret
      exact ⟨rfl, hB⟩

set_option maxRecDepth 100000 in
set_option maxHeartbeats 2000000 in
theorem entPrint_any (e : En) (w : World) (hw : EnW e) (hs : e.o.s.size ≤ 1000000) : Calls Try.prog 11 #[.agg #[.int .i64 e.k, .int .i64 e.d, .int .i64 e.i, .int .i64 e.o.C, .int .i64 e.o.D, .int .i64 e.o.I, .int .i64 e.o.M, .int .i64 e.o.K, .int .i64 e.o.U, .string e.o.s]] w fun r w' => r = .returned (.string (entBytes e)) ∧ Below w.heap.size w w' := by
  obtain ⟨k, d, i, o⟩ := e
  obtain ⟨hk, hd, hi, ho⟩ := hw
  dsimp only at hs hk hd hi ho ⊢
  have hE : enE.In (w.alloc (.cells #[.int .i64 (⟨k, d, i, o⟩ : En).k, .int .i64 (⟨k, d, i, o⟩ : En).d, .int .i64 (⟨k, d, i, o⟩ : En).i, .int .i64 (⟨k, d, i, o⟩ : En).o.C, .int .i64 (⟨k, d, i, o⟩ : En).o.D, .int .i64 (⟨k, d, i, o⟩ : En).o.I, .int .i64 (⟨k, d, i, o⟩ : En).o.M, .int .i64 (⟨k, d, i, o⟩ : En).o.K, .int .i64 (⟨k, d, i, o⟩ : En).o.U, .string (⟨k, d, i, o⟩ : En).o.s] 27)) w.heap.size ⟨k, d, i, o⟩ := El.In.new (E := enE) w ⟨k, d, i, o⟩ _ rfl
  have hB := below_alloc (Below.refl w.heap.size w) (.cells #[.int .i64 (⟨k, d, i, o⟩ : En).k, .int .i64 (⟨k, d, i, o⟩ : En).d, .int .i64 (⟨k, d, i, o⟩ : En).i, .int .i64 (⟨k, d, i, o⟩ : En).o.C, .int .i64 (⟨k, d, i, o⟩ : En).o.D, .int .i64 (⟨k, d, i, o⟩ : En).o.I, .int .i64 (⟨k, d, i, o⟩ : En).o.M, .int .i64 (⟨k, d, i, o⟩ : En).o.K, .int .i64 (⟨k, d, i, o⟩ : En).o.U, .string (⟨k, d, i, o⟩ : En).o.s] 27)
  obtain ⟨p0, p1, p2, p3, p4, p5, p6, p7, p8, p9⟩ := enIn10 hE
  dsimp only at hE hB p0 p1 p2 p3 p4 p5 p6 p7 p8 p9
  have CK := Lib.hid (fun wx => num_any k wx hk.1 hk.2)
  have zk := bytesOf_le10 hk
  by_cases h1 : k = 1
  · subst h1
    have hv : entBytes ⟨1, d, i, o⟩ = bytesOf 1 ++ o.bytes := rfl
    rw [hv]
    have CO := Lib.hid (fun wx => opP_mv o wx ho hs)
    have zo := mvBytes_le ho hs
    generalize bytesOf 1 = B1 at *
    generalize o.bytes = B2 at *
    clear hv hk hd hi ho hE
    go_enter Try.func11, Try.ntmps11
    go_wp2_with fail
    generalize w.alloc (.cells #[.int .i64 1, .int .i64 d, .int .i64 i, .int .i64 o.C, .int .i64 o.D, .int .i64 o.I, .int .i64 o.M, .int .i64 o.K, .int .i64 o.U, .string o.s] 27) = W at *
    obtain ⟨n1, hn1⟩ : ∃ n, w.heap.size = n := ⟨_, rfl⟩
    rw [hn1] at p0 p1 p2 p3 p4 p5 p6 p7 p8 p9 ⊢
    clear hn1
    have k0 := cell_regrown p0
    have k1 := cell_regrown p1
    have k2 := cell_regrown p2
    have k3 := cell_regrown p3
    have k4 := cell_regrown p4
    have k5 := cell_regrown p5
    have k6 := cell_regrown p6
    have k7 := cell_regrown p7
    have k8 := cell_regrown p8
    have k9 := cell_regrown p9
    clear p0 p1 p2 p3 p4 p5 p6 p7 p8 p9
    have d1 : ∀ d os, Calls Try.prog 23 #[.int .i64 1] (Sort.grow (redrawn W d) os) fun e w'' => e = .returned (.string B1) ∧ ∃ p : Regrown, w'' = Sort.grow (redrawn W p.d) p.os := fun d os => Calls.regrown_of (CK.out _)
    have d2 : ∀ d os, Calls Try.prog 24 #[.agg #[.int .i64 o.C, .int .i64 o.D, .int .i64 o.I, .int .i64 o.M, .int .i64 o.K, .int .i64 o.U, .string o.s]] (Sort.grow (redrawn W d) os) fun e w'' => e = .returned (.string B2) ∧ ∃ p : Regrown, w'' = Sort.grow (redrawn W p.d) p.os := fun d os => Calls.regrown_of (CO.out _)
    refine wp_region_quiet_below (by kernel_rfl) (by kernel_rfl) ?_
    repeat (go_big_quiet_step ((with_reducible (first | exact d1 _ _ | exact d2 _ _))))
    refine wpQuiet_nil ?_
    intro _ hw'
    obtain ⟨⟨dq, osq⟩, hw''⟩ := hw'
    subst hw''
    go_wp2
    go_ret
    exact ⟨rfl, below_then hB (below_regrown W dq osq)⟩
  · have hv : entBytes ⟨k, d, i, o⟩ = bytesOf k ++ bytesOf d ++ bytesOf i := by unfold entBytes; rw [if_neg h1]
    rw [hv]
    have e1 : (k == 1) = false := beq_eq_false_iff_ne.2 h1
    have CD := Lib.hid (fun wx => num_any d wx hd.1 hd.2)
    have CI := Lib.hid (fun wx => num_any i wx hi.1 hi.2)
    have zd := bytesOf_le10 hd
    have zi := bytesOf_le10 hi
    generalize bytesOf k = B1 at *
    generalize bytesOf d = B2 at *
    generalize bytesOf i = B3 at *
    clear hv hk hd hi ho hE h1
    go_enter Try.func11, Try.ntmps11
    go_wp2_with fail
    generalize w.alloc (.cells #[.int .i64 k, .int .i64 d, .int .i64 i, .int .i64 o.C, .int .i64 o.D, .int .i64 o.I, .int .i64 o.M, .int .i64 o.K, .int .i64 o.U, .string o.s] 27) = W at *
    obtain ⟨n1, hn1⟩ : ∃ n, w.heap.size = n := ⟨_, rfl⟩
    rw [hn1] at p0 p1 p2 p3 p4 p5 p6 p7 p8 p9 ⊢
    clear hn1
    have k0 := cell_regrown p0
    have k1 := cell_regrown p1
    have k2 := cell_regrown p2
    have k3 := cell_regrown p3
    have k4 := cell_regrown p4
    have k5 := cell_regrown p5
    have k6 := cell_regrown p6
    have k7 := cell_regrown p7
    have k8 := cell_regrown p8
    have k9 := cell_regrown p9
    clear p0 p1 p2 p3 p4 p5 p6 p7 p8 p9
    have d1 : ∀ c os, Calls Try.prog 23 #[.int .i64 k] (Sort.grow (redrawn W c) os) fun e w'' => e = .returned (.string B1) ∧ ∃ p : Regrown, w'' = Sort.grow (redrawn W p.d) p.os := fun c os => Calls.regrown_of (CK.out _)
    have d2 : ∀ c os, Calls Try.prog 23 #[.int .i64 d] (Sort.grow (redrawn W c) os) fun e w'' => e = .returned (.string B2) ∧ ∃ p : Regrown, w'' = Sort.grow (redrawn W p.d) p.os := fun c os => Calls.regrown_of (CD.out _)
    have d3 : ∀ c os, Calls Try.prog 23 #[.int .i64 i] (Sort.grow (redrawn W c) os) fun e w'' => e = .returned (.string B3) ∧ ∃ p : Regrown, w'' = Sort.grow (redrawn W p.d) p.os := fun c os => Calls.regrown_of (CI.out _)
    refine wp_region_quiet_below (by kernel_rfl) (by kernel_rfl) ?_
    repeat (go_big_quiet_step ((with_reducible (first | exact d1 _ _ | exact d2 _ _ | exact d3 _ _))))
    refine wpQuiet_nil ?_
    intro _ hw'
    obtain ⟨⟨dq, osq⟩, hw''⟩ := hw'
    subst hw''
    go_wp2
    go_ret
    exact ⟨rfl, below_then hB (below_regrown W dq osq)⟩
end Go.Proofs.Ytllgmkbmdnpnoaa

/- Of the library, at operations and undos: Clone, Grow, Concat. -/
namespace Go.Proofs.Ytllgmkbmdnpnoaa
open Go.RowKit Tre Cod

def catE {α : Type} (F : Nat → List α) : Nat → List α
  | 0 => []
  | k + 1 => catE F k ++ F k
theorem catE_le {α : Type} (F : Nat → List α) (k : Nat) : ∀ n, k ≤ n → (catE F k).length ≤ (catE F n).length
  | 0, h => by obtain rfl : k = 0 := by omega
               exact Nat.le_refl _
  | n + 1, h => by
    by_cases e : k = n + 1
    · subst e; exact Nat.le_refl _
    · have := catE_le F k n (by omega)
      rw [catE, List.length_append]; omega

theorem infoOp : (Try.prog.info? 25).map (fun i => (i.zero, i.size, i.bytes)) = some (some (.agg #[.int .i64 0, .int .i64 0, .int .i64 0, .int .i64 0, .int .i64 0, .int .i64 0, .string ⟨#[]⟩]), 7, 64) := by kernel_rfl
end Go.Proofs.Ytllgmkbmdnpnoaa

/- The program's entries: Tally. -/
namespace Go.Proofs.Ytllgmkbmdnpnoaa
open Go.RowKit Nam Cod

set_option maxRecDepth 100000 in
theorem cloneCn_any (A : Option Addr) (c : Nat) (l : List Cn) (w : World) (hl : l.length ≤ 50000) (hT : SlV cnE w A c l) :
    Calls Try.prog 28 #[.slice A l.length c] w fun e w' => ∃ A' c', e = .returned (.slice A' l.length c') ∧ SlV cnE w' A' c' l ∧ Frs w.heap.size A' ∧ Below w.heap.size w w' := by
  obtain ⟨hT, hz, hlc⟩ := hT
  have q : ∀ (w : World) (a : Option Addr) (n c n' c' : Nat), (binOp .eql 28 (.slice a n c) (.slice none n' c')).run Try.prog w = .ok (.bool a.isNone) w := fun w a n c n' c' => Lib.run_eql_slice_nil w _ _ a n c n' c' Try.underlying28
  cases A with
  | none =>
    obtain rfl := hT.none_nil
    obtain rfl := hz rfl
    go_enter Try.func28, Try.ntmps28
    go_wp2
    go_ret
    exact ⟨none, 0, rfl, SlV.nil _ _, frs_nil _, Below.refl _ _⟩
  | some a =>
    go_enter Try.func28, Try.ntmps28
    have hE := El.Own.empty (E := cnE) w w.heap.size (Nat.le_refl _)
    have hb0 := below_alloc (Below.refl w.heap.size w) (.cells #[] 45)
    go_wp2_with (at_builtin; refine El.wpList_app cnInn rfl _ _ rfl w.heap.size _ [] l rfl hE (some a) _ c rfl rfl (hT.below hb0) (fun e => by cases e) (by simp; omega) (by simp) ?_; intro v' w2 hown hg _)
    obtain ⟨A', c', rfl, hS⟩ := SlV.own hown
    go_wp2
    go_ret
    exact ⟨A', c', rfl, hS, hown.frs, below_own hb0 hg (hE.rows)⟩

theorem infoCn : (Try.prog.info? 45).map (fun i => (i.zero, i.size, i.bytes)) = some (some (.agg #[.int .i64 0, .int .i64 0, .int .i64 0]), 3, 24) := by kernel_rfl
set_option maxRecDepth 100000 in
theorem growCn_any (B n : Nat) (w : World) (hn : n ≤ 2000) (hB : B ≤ w.heap.size) :
    Calls Try.prog 49 #[.slice none 0 0, .int .i64 n] w fun e w' => ∃ v, e = .returned v ∧ cnE.Own w' B v [] ∧ Below w.heap.size w w' := by
  by_cases h0 : n = 0
  · subst h0
    go_enter Try.func49, Try.ntmps49
    go_wp2
    go_ret
    exact ⟨_, rfl, El.Own.nil _ B, Below.refl _ _⟩
  · obtain ⟨i, hi, hz, hz1, hz2⟩ := info_parts infoCn
    have hr := fun ty => Lib.run_append_nil_zeros (P := Try.prog) w 28 3 ty 45 i _ .i64 .i64 Try.underlying28 Try.underlying3 hi hz n (by omega) (by omega) (by omega) (by rw [hz2]; omega)
    have hg1 : n ≤ grownCap w n 0 45 := grownCap_ge w n 0 _
    have hg2 : grownCap w n 0 45 ≤ maxLen := grownCap_le_maxLen w n 0 45 (by unfold maxLen; omega)
    have hown : cnE.Own (w.drew.alloc (.cells (Builtin.zeroCells (Value.agg #[.int .i64 0, .int .i64 0, .int .i64 0]).cells n ++ Builtin.zeroCells (Value.agg #[.int .i64 0, .int .i64 0, .int .i64 0]).cells (grownCap w n 0 45 - n)) 45)) B (.slice (some ⟨w.heap.size, 0, none⟩) 0 (grownCap w n 0 45)) [] := by
      refine World.ownsRow_made w.drew _ (grownCap w n 0 45) hB hg2 ?_
      rw [Array.size_append, size_zeroCells, size_zeroCells]
      show n * 3 + (grownCap w n 0 45 - n) * 3 = _ * 3
      omega
    have hnx : Below w.heap.size w (w.drew.alloc (.cells (Builtin.zeroCells (Value.agg #[.int .i64 0, .int .i64 0, .int .i64 0]).cells n ++ Builtin.zeroCells (Value.agg #[.int .i64 0, .int .i64 0, .int .i64 0]).cells (grownCap w n 0 45 - n)) 45)) := below_alloc (Below.refl _ w).drew _
    generalize grownCap w n 0 45 = cap at *
    generalize w.drew.alloc (.cells (Builtin.zeroCells (Value.agg #[.int .i64 0, .int .i64 0, .int .i64 0]).cells n ++ Builtin.zeroCells (Value.agg #[.int .i64 0, .int .i64 0, .int .i64 0]).cells (cap - n)) 45) = W at *
    go_enter Try.func49, Try.ntmps49
    go_wp2_with (at_builtin; refine Lib.wpList_append_run _ rfl _ _ 28 3 rfl _ _ rfl rfl _ _ (hr _) ?_)
    go_wp2
    go_ret
    exact ⟨_, rfl, hown, hnx⟩

set_option maxRecDepth 100000 in
theorem concatCn_any (sb : Nat) (F : Nat → List Cn) (A : Nat → Option Addr) (C : Nat → Nat) (w : World) (hcell : ∀ j, j < 3 → w.cell? ⟨sb, j, none⟩ = some (.slice (A j) (F j).length (C j)))
    (hT : ∀ j, j < 3 → cnE.Sl w (A j) (F j)) (hc : ∀ j, j < 3 → A j = none → C j = 0) (hl : (catE F 3).length ≤ 2000) (hsb : sb < w.heap.size) :
    Calls Try.prog 43 #[.slice (some ⟨sb, 0, none⟩) 3 3] w fun e w' => ∃ A' cap', e = .returned (.slice A' (catE F 3).length cap') ∧ SlV cnE w' A' cap' (catE F 3) ∧ Frs w.heap.size A' ∧ Below w.heap.size w w' := by
  have CG := fun n hn => growCn_any w.heap.size n w hn (Nat.le_refl _)
  have hle := fun k h => catE_le F k 3 h
  have HCL := Lib.hid hcell
  have HTT := Lib.hid hT
  have HCC := Lib.hid hc
  clear hcell hT hc
  go_enter Try.func43, Try.ntmps43
  go_wp2
  go_loop [3, 11] (fun x y => ∃ k : Nat, k ≤ 3 ∧ y = .int .i64 k ∧ x = .int .i64 (catE F k).length) (fun _ y => 3 - (intOf y).toNat)
  case atStart => exact ⟨0, Nat.zero_le _, rfl, rfl⟩
  case round =>
    obtain ⟨k, hk, rfl, rfl⟩ := hrel
    by_cases hlt : k < 3
    · have h1 := HCL.out k hlt
      have h2 := hle (k + 1) hlt
      have h3 : (catE F (k + 1)).length = (catE F k).length + (F k).length := by rw [catE, List.length_append]
      have H3 := Lib.hid h3
      have h4 : (catE F k).length + (F k).length ≤ 2000 := by omega
      generalize (catE F k).length = n at *
      generalize (F k).length = m at *
      clear h3
      go_wp2
      go_round
      case rel => exact ⟨k + 1, by omega, by go_num, by rw [H3.out]; go_num⟩
      case measure => simp [intOf]; omega
    · obtain rfl : k = 3 := by omega
      have CG := CG _ hl
      go_wp2_with fail
      refine CG.mono ?_
      rintro e w1 ⟨v, rfl, hown, hb1⟩
      clear CG
      go_wp2
      go_loopw [6, 27] (fun x y wr => ∃ (k : Nat) (v : Value), k ≤ 3 ∧ y = .int .i64 k ∧ x = v ∧ cnE.Own wr w.heap.size v (catE F k) ∧ Below w.heap.size w wr) (fun _ y _ => 3 - (intOf y).toNat)
      case atStart => exact ⟨0, v, Nat.zero_le _, rfl, rfl, hown, hb1⟩
      case round =>
        clear hown hb1
        obtain ⟨k, v, hk, rfl, rfl, hown, hnx⟩ := hrel
        by_cases hlt : k < 3
        · have h1 := HCL.out k hlt
          rw [← (bcell hnx).1 _ _ hsb] at h1
          have h2 := hle (k + 1) hlt
          have h3 : (catE F (k + 1)).length = (catE F k).length + (F k).length := by rw [catE, List.length_append]
          have hTk := (HTT.out k hlt).below hnx
          have hck := HCC.out k hlt
          have hB := hnx.size
          go_wp2_with (at_builtin; refine El.wpList_app cnInn rfl _ _ rfl w.heap.size _ (catE F k) (F k) rfl hown (A k) _ (C k) rfl rfl hTk hck (by omega) hB ?_; intro v' w2 hown2 hg2 _)
          go_roundw
          case rel => exact ⟨k + 1, v', by omega, by go_num, rfl, hown2, hnx.grown hg2 hB (fun j hj => (hown).rows j hj)⟩
          case measure => simp [intOf]; omega
        · obtain rfl : k = 3 := by omega
          obtain ⟨A', cap', rfl, hS⟩ := SlV.own hown
          go_wp2
          go_ret
          exact ⟨A', cap', rfl, hS, hown.frs, hnx⟩
def pickC {α : Type} (a b c : α) : Nat → α
  | 0 => a
  | 1 => b
  | _ => c

set_option maxRecDepth 100000 in
set_option maxHeartbeats 2000000 in
theorem place_any (A : Option Addr) (cap : Nat) (l : List Cn) (d : Int) (w : World) (hl : l.length ≤ 1000) (hT : cnE.Sl w A l) :
    Calls Try.prog 42 #[.slice A l.length cap, .int .i64 d] w fun r w' => r = .returned (.int .i64 (cutC l d)) ∧ Below w.heap.size w w' := by
  have hB := Below.refl w.heap.size w
  go_enter Try.func42, Try.ntmps42
  go_wp2
  go_loopw [9] (fun y wr => ∃ k : Nat, k ≤ cutC l d ∧ y = .int .i64 k ∧ Below w.heap.size w wr) (fun y _ => l.length - (intOf y).toNat)
  case atStart => exact ⟨0, Nat.zero_le _, rfl, hB⟩
  case round =>
    clear hB
    obtain ⟨k, hk, rfl, hB⟩ := hrel
    by_cases hkl : k < l.length
    · obtain ⟨b, off, hA, hbw, hc⟩ := hT (by omega)
      have hat : cnE.At wr b (off + k * 3) l[k] := (hc k hkl).below hB hbw
      have hx : ∀ w, (Instr.indexAt 28 (.slice A l.length cap) (.int .i64 k)).run Try.prog w = .ok (.pointer (some ⟨b, off + k * 3, none⟩)) w := fun w => by
        subst hA
        have h2 : (k : Int) < (l.length : Int) := by omega
        go_simp
      obtain ⟨s0, s1, s2⟩ := cnAt3 hat
      have hki : (k : Int) < (l.length : Int) := by omega
      by_cases hd : l[k].d < d
      · have HN := Lib.hid (cutC_next hk hkl hd)
        have f1 : decide (d ≤ l[k].d) = false := decide_eq_false (by omega)
        clear hc hat hA
        generalize l[k].d = x0 at *
        generalize l[k].i = x1 at *
        generalize l[k].n = x2 at *
        go_wp2_with fail
        go_roundw
        case rel => exact ⟨k + 1, HN.out, by go_num, below_alloc hB _⟩
        case measure => simp [intOf]; omega
      · have HX := Lib.hid (cutC_here hk (Or.inr ⟨hkl, by omega⟩))
        have f1 : decide (d ≤ l[k].d) = true := decide_eq_true (by omega)
        clear hc hat hA
        generalize l[k].d = x0 at *
        generalize l[k].i = x1 at *
        generalize l[k].n = x2 at *
        go_wp2_with fail
        go_ret
        exact ⟨by rw [← HX.out]; rfl, below_alloc hB _⟩
    · have hke : k = l.length := by have := cutC_le l d; omega
      have HX := Lib.hid (show l.length = cutC l d by have := cutC_here hk (Or.inl hke); omega)
      have f1 : decide ((k : Int) < (l.length : Int)) = false := decide_eq_false (by omega)
      have f2 : decide (k < l.length) = false := decide_eq_false (by omega)
      clear hke hkl
      go_wp2_with fail
      go_ret
      exact ⟨by rw [← HX.out]; rfl, hB⟩

set_option maxRecDepth 100000 in
set_option maxHeartbeats 2000000 in
theorem counted_any (A : Option Addr) (cap : Nat) (l : List Cn) (c : Cn) (w : World) (hl : l.length ≤ 1000) (hT : SlV cnE w A cap l) :
    Calls Try.prog 27 #[.slice A l.length cap, .agg #[.int .i64 c.d, .int .i64 c.i, .int .i64 c.n]] w fun r w' => ∃ A' c', r = .returned (.slice A' (putC l c).length c') ∧ SlV cnE w' A' c' (putC l c) ∧ Below w.heap.size w w' := by
  obtain ⟨hT, hz, hlc⟩ := hT
  have hP : cnE.In (w.alloc (.cells #[.int .i64 c.d, .int .i64 c.i, .int .i64 c.n] 45)) w.heap.size c := El.In.new (E := cnE) w c _ rfl
  have hB := below_alloc (Below.refl w.heap.size w) (.cells #[.int .i64 c.d, .int .i64 c.i, .int .i64 c.n] 45)
  have CP := place_any A cap l c.d (w.alloc (.cells #[.int .i64 c.d, .int .i64 c.i, .int .i64 c.n] 45)) hl (hT.below hB)
  have hkl := cutC_le l c.d
  go_enter Try.func27, Try.ntmps27
  go_wp2_with fail
  refine CP.mono ?_
  rintro r w1 ⟨rfl, hb1⟩
  clear CP
  replace hP := hP.below hb1
  replace hB := hB.trans (hb1.mono hB.size)
  clear hb1
  obtain ⟨k, hk⟩ : ∃ k, cutC l c.d = k := ⟨_, rfl⟩
  rw [hk] at hkl ⊢
  have HK := Lib.hid hk.symm
  clear hk
  obtain ⟨q0, q1, q2⟩ := cnIn3 hP
  by_cases h : k < l.length
  · obtain ⟨b, off, hA, hbw, hc⟩ := hT (by omega)
    have hat : cnE.At w1 b (off + k * 3) l[k] := (hc k h).below hB hbw
    have hx : ∀ w, (Instr.indexAt 28 (.slice A l.length cap) (.int .i64 k)).run Try.prog w = .ok (.pointer (some ⟨b, off + k * 3, none⟩)) w := fun w => by
      subst hA
      have h2 : (k : Int) < (l.length : Int) := by omega
      go_simp
    obtain ⟨s0, s1, s2⟩ := cnAt3 hat
    have hki : (k : Int) < (l.length : Int) := by omega
    have hkd : decide ((k : Int) < (l.length : Int)) = true := decide_eq_true hki
    by_cases he : l[k].d = c.d
    · have HTO := Lib.hid (putC_yes HK.out h rfl he)
      have f1 : (l[k].d == c.d) = true := beq_iff_eq.2 he
      obtain ⟨A3, hA3⟩ : ∃ A3, (if cap = k + 1 then A else Option.map (fun x => x.add ((k + 1) * 3)) A) = A3 := ⟨_, rfl⟩
      have hT3 := hT.drop hlc hA3
      have hz3 := El.drop_none hz hA3
      have g0 : (0 : Int) ≤ (k : Int) := by omega
      have g1 : (k : Int) ≤ (cap : Int) := by omega
      have g2 : (k : Int) ≤ (l.length : Int) := by omega
      have g3 : (k : Int) + 1 ≤ (cap : Int) + 1 := by omega
      have g4 : (0 : Int) ≤ (k : Int) + 1 := by omega
      have g5 : (k : Int) + 1 ≤ (l.length : Int) := by omega
      have g6 : (k : Int) + 1 ≤ (cap : Int) := by omega
      have g7 : IntKind.i64.wrap ((k : Int) + 1) = (k : Int) + 1 := by rw [IntKind.wrap_i64]; omega
      clear hc hat hA he
      generalize l[k].d = x0 at *
      go_wp2_with fail
      go_quiet (fail)
      clear f1 q0 q1 q2 s0 s1 s2 hx
      have hB := below_drew hB nq
      replace hP : cnE.In (w1.drewN nq) w.heap.size c := hP
      go_wp2_with fail
      generalize w1.drewN nq = V at *
      have HE1 := Lib.hid (show (l.take k).length = k by rw [List.length_take]; omega)
      have HE3 := Lib.hid (show (l.drop (k + 1)).length = l.length - (k + 1) by simp only [List.length_drop]; try omega)
      have HLN := Lib.hid (show ((([] ++ l.take k) ++ [c]) ++ l.drop (k + 1)).length ≤ 2000 by simp only [List.length_append, List.length_nil, List.length_singleton, HE1.out, HE3.out]; omega)
      have htk := (hT.take k).below hB
      have ht3 := hT3.below hB
      generalize l.take k = L1 at *
      generalize l.drop (k + 1) = L3 at *
      have hBw : Below V.heap.size V ((V.alloc (.cells #[.int .i64 c.d, .int .i64 c.i, .int .i64 c.n] 45)).alloc (.cells #[.slice A k cap, .slice (some ⟨V.heap.size, 0, none⟩) 1 1, .slice A3 (l.length - (k + 1)) (cap - (k + 1))] 28)).drew := (below_alloc (below_alloc (Below.refl _ _) _) _).drew
      have hone : cnE.Sl ((V.alloc (.cells #[.int .i64 c.d, .int .i64 c.i, .int .i64 c.n] 45)).alloc (.cells #[.slice A k cap, .slice (some ⟨V.heap.size, 0, none⟩) 1 1, .slice A3 (l.length - (k + 1)) (cap - (k + 1))] 28)).drew (some ⟨V.heap.size, 0, none⟩) [c] := ((El.In.new (E := cnE) V c #[.int .i64 c.d, .int .i64 c.i, .int .i64 c.n] rfl).alloc _).sl
      have CC := concatCn_any (V.heap.size + 1) (pickC L1 [c] L3) (pickC A (some ⟨V.heap.size, 0, none⟩) A3) (pickC cap 1 (cap - (k + 1))) ((V.alloc (.cells #[.int .i64 c.d, .int .i64 c.i, .int .i64 c.n] 45)).alloc (.cells #[.slice A k cap, .slice (some ⟨V.heap.size, 0, none⟩) 1 1, .slice A3 (l.length - (k + 1)) (cap - (k + 1))] 28)).drew
        (fun j hj => by
          match j, hj with
          | 0, _ => show _ = some (Value.slice A L1.length cap); rw [HE1.out]; go_simp
          | 1, _ => show _ = some (Value.slice (some ⟨V.heap.size, 0, none⟩) 1 1); go_simp
          | 2, _ => show _ = some (Value.slice A3 L3.length (cap - (k + 1))); rw [HE3.out]; go_simp)
        (fun j hj => by
          match j, hj with
          | 0, _ => exact htk.below hBw
          | 1, _ => exact hone
          | 2, _ => exact ht3.below hBw)
        (fun j hj => by
          match j, hj with
          | 0, _ => exact hz
          | 1, _ => intro e; cases e
          | 2, _ => exact hz3)
        HLN.out
        (by simp)
      have ecat : catE (pickC L1 [c] L3) 3 = putC l c := by
        show (([] ++ L1) ++ [c]) ++ L3 = putC l c
        rw [HTO.out, List.nil_append]
      rw [ecat] at CC
      have HCC := Lib.hid CC
      clear CC ecat hone htk ht3 HTO HLN HE1 HE3 hT hT3 hz hz3 hlc hl
      obtain ⟨nc, hnc⟩ : ∃ n, w.heap.size = n := ⟨_, rfl⟩
      rw [hnc] at hP ⊢
      clear hnc
      have hPa : cnE.In (V.alloc (.cells #[.int .i64 c.d, .int .i64 c.i, .int .i64 c.n] 45)).drew nc c := hP.alloc (.cells #[.int .i64 c.d, .int .i64 c.i, .int .i64 c.n] 45)
      have hPb : cnE.In ((V.alloc (.cells #[.int .i64 c.d, .int .i64 c.i, .int .i64 c.n] 45)).alloc (.cells #[.slice A k cap, .slice (some ⟨V.heap.size, 0, none⟩) 1 1, .slice A3 (l.length - (k + 1)) (cap - (k + 1))] 28)).drew nc c := (hP.alloc (.cells #[.int .i64 c.d, .int .i64 c.i, .int .i64 c.n] 45)).alloc (.cells #[.slice A k cap, .slice (some ⟨V.heap.size, 0, none⟩) 1 1, .slice A3 (l.length - (k + 1)) (cap - (k + 1))] 28)
      have hP0 := hP
      replace hP : cnE.In V.drew nc c := hP
      go_region_held3 (fun w' => w'.cell? ⟨nc, 0, none⟩ = some (.int .i64 c.d) ∧ w'.cell? ⟨nc, 1, none⟩ = some (.int .i64 c.i) ∧ w'.cell? ⟨nc, 2, none⟩ = some (.int .i64 c.n)) (with_reducible first | exact cnIn3 hP | exact cnIn3 hPa | exact cnIn3 hPb | exact cnIn3 hP4) (first | (go_at_call 43; (with_reducible refine HCC.out.mono ?_); rintro e W4 ⟨A8, c8, rfl, hS8, hf8, hb8⟩; have hb48 := hBw.trans (hb8.mono hBw.size); have hP4 := hP0.below hb48))
      replace hB := hB.trans (hb48.mono hB.size)
      clear hP0 hPa hPb hP4 HCC hBw hb8 hP hb48
      go_wp2_with fail
      go_ret
      exact ⟨A8, c8, rfl, hS8, hB⟩
    · have HTO := Lib.hid (putC_no HK.out (Or.inr ⟨h, he⟩))
      have f1 : (l[k].d == c.d) = false := beq_eq_false_iff_ne.2 he
      obtain ⟨A3, hA3⟩ : ∃ A3, (if cap = k then A else Option.map (fun x => x.add ((k) * 3)) A) = A3 := ⟨_, rfl⟩
      have hT3 := hT.drop hlc hA3
      have hz3 := El.drop_none hz hA3
      have g0 : (0 : Int) ≤ (k : Int) := by omega
      have g1 : (k : Int) ≤ (cap : Int) := by omega
      have g2 : (k : Int) ≤ (l.length : Int) := by omega
      have g3 : (k : Int) + 1 ≤ (cap : Int) + 1 := by omega
      clear hc hat hA he
      generalize l[k].d = x0 at *
      go_wp2_with fail
      go_quiet (fail)
      clear f1 q0 q1 q2 s0 s1 s2 hx
      have hB := below_drew hB nq
      replace hP : cnE.In (w1.drewN nq) w.heap.size c := hP
      go_wp2_with fail
      generalize w1.drewN nq = V at *
      have HE1 := Lib.hid (show (l.take k).length = k by rw [List.length_take]; omega)
      have HE3 := Lib.hid (show (l.drop (k)).length = l.length - k by simp only [List.length_drop]; try omega)
      have HLN := Lib.hid (show ((([] ++ l.take k) ++ [c]) ++ l.drop (k)).length ≤ 2000 by simp only [List.length_append, List.length_nil, List.length_singleton, HE1.out, HE3.out]; omega)
      have htk := (hT.take k).below hB
      have ht3 := hT3.below hB
      generalize l.take k = L1 at *
      generalize l.drop (k) = L3 at *
      have hBw : Below V.heap.size V ((V.alloc (.cells #[.int .i64 c.d, .int .i64 c.i, .int .i64 c.n] 45)).alloc (.cells #[.slice A k cap, .slice (some ⟨V.heap.size, 0, none⟩) 1 1, .slice A3 (l.length - k) (cap - k)] 28)).drew := (below_alloc (below_alloc (Below.refl _ _) _) _).drew
      have hone : cnE.Sl ((V.alloc (.cells #[.int .i64 c.d, .int .i64 c.i, .int .i64 c.n] 45)).alloc (.cells #[.slice A k cap, .slice (some ⟨V.heap.size, 0, none⟩) 1 1, .slice A3 (l.length - k) (cap - k)] 28)).drew (some ⟨V.heap.size, 0, none⟩) [c] := ((El.In.new (E := cnE) V c #[.int .i64 c.d, .int .i64 c.i, .int .i64 c.n] rfl).alloc _).sl
      have CC := concatCn_any (V.heap.size + 1) (pickC L1 [c] L3) (pickC A (some ⟨V.heap.size, 0, none⟩) A3) (pickC cap 1 (cap - k)) ((V.alloc (.cells #[.int .i64 c.d, .int .i64 c.i, .int .i64 c.n] 45)).alloc (.cells #[.slice A k cap, .slice (some ⟨V.heap.size, 0, none⟩) 1 1, .slice A3 (l.length - k) (cap - k)] 28)).drew
        (fun j hj => by
          match j, hj with
          | 0, _ => show _ = some (Value.slice A L1.length cap); rw [HE1.out]; go_simp
          | 1, _ => show _ = some (Value.slice (some ⟨V.heap.size, 0, none⟩) 1 1); go_simp
          | 2, _ => show _ = some (Value.slice A3 L3.length (cap - k)); rw [HE3.out]; go_simp)
        (fun j hj => by
          match j, hj with
          | 0, _ => exact htk.below hBw
          | 1, _ => exact hone
          | 2, _ => exact ht3.below hBw)
        (fun j hj => by
          match j, hj with
          | 0, _ => exact hz
          | 1, _ => intro e; cases e
          | 2, _ => exact hz3)
        HLN.out
        (by simp)
      have ecat : catE (pickC L1 [c] L3) 3 = putC l c := by
        show (([] ++ L1) ++ [c]) ++ L3 = putC l c
        rw [HTO.out, List.nil_append]
      rw [ecat] at CC
      have HCC := Lib.hid CC
      clear CC ecat hone htk ht3 HTO HLN HE1 HE3 hT hT3 hz hz3 hlc hl
      obtain ⟨nc, hnc⟩ : ∃ n, w.heap.size = n := ⟨_, rfl⟩
      rw [hnc] at hP ⊢
      clear hnc
      have hPa : cnE.In (V.alloc (.cells #[.int .i64 c.d, .int .i64 c.i, .int .i64 c.n] 45)).drew nc c := hP.alloc (.cells #[.int .i64 c.d, .int .i64 c.i, .int .i64 c.n] 45)
      have hPb : cnE.In ((V.alloc (.cells #[.int .i64 c.d, .int .i64 c.i, .int .i64 c.n] 45)).alloc (.cells #[.slice A k cap, .slice (some ⟨V.heap.size, 0, none⟩) 1 1, .slice A3 (l.length - k) (cap - k)] 28)).drew nc c := (hP.alloc (.cells #[.int .i64 c.d, .int .i64 c.i, .int .i64 c.n] 45)).alloc (.cells #[.slice A k cap, .slice (some ⟨V.heap.size, 0, none⟩) 1 1, .slice A3 (l.length - k) (cap - k)] 28)
      have hP0 := hP
      replace hP : cnE.In V.drew nc c := hP
      go_region_held3 (fun w' => w'.cell? ⟨nc, 0, none⟩ = some (.int .i64 c.d) ∧ w'.cell? ⟨nc, 1, none⟩ = some (.int .i64 c.i) ∧ w'.cell? ⟨nc, 2, none⟩ = some (.int .i64 c.n)) (with_reducible first | exact cnIn3 hP | exact cnIn3 hPa | exact cnIn3 hPb | exact cnIn3 hP4) (first | (go_at_call 43; (with_reducible refine HCC.out.mono ?_); rintro e W4 ⟨A8, c8, rfl, hS8, hf8, hb8⟩; have hb48 := hBw.trans (hb8.mono hBw.size); have hP4 := hP0.below hb48))
      replace hB := hB.trans (hb48.mono hB.size)
      clear hP0 hPa hPb hP4 HCC hBw hb8 hP hb48
      go_wp2_with fail
      go_ret
      exact ⟨A8, c8, rfl, hS8, hB⟩
  · have hke : k = l.length := by omega
    have HTO := Lib.hid (putC_no HK.out (Or.inl hke))
    obtain ⟨A3, hA3⟩ : ∃ A3, (if cap = k then A else Option.map (fun x => x.add ((k) * 3)) A) = A3 := ⟨_, rfl⟩
    have hT3 := hT.drop hlc hA3
    have hz3 := El.drop_none hz hA3
    have g0 : (0 : Int) ≤ (k : Int) := by omega
    have g1 : (k : Int) ≤ (cap : Int) := by omega
    have g2 : (k : Int) ≤ (l.length : Int) := by omega
    have g3 : (k : Int) + 1 ≤ (cap : Int) + 1 := by omega
    have hkd : decide ((k : Int) < (l.length : Int)) = false := decide_eq_false (by omega)
    have hkd2 : decide (k < l.length) = false := decide_eq_false (by omega)
    clear hke h
    go_wp2_with fail
    go_quiet (fail)
    clear q0 q1 q2
    have hB := below_drew hB nq
    replace hP : cnE.In (w1.drewN nq) w.heap.size c := hP
    go_wp2_with fail
    generalize w1.drewN nq = V at *
    have HE1 := Lib.hid (show (l.take k).length = k by rw [List.length_take]; omega)
    have HE3 := Lib.hid (show (l.drop (k)).length = l.length - k by simp only [List.length_drop]; try omega)
    have HLN := Lib.hid (show ((([] ++ l.take k) ++ [c]) ++ l.drop (k)).length ≤ 2000 by simp only [List.length_append, List.length_nil, List.length_singleton, HE1.out, HE3.out]; omega)
    have htk := (hT.take k).below hB
    have ht3 := hT3.below hB
    generalize l.take k = L1 at *
    generalize l.drop (k) = L3 at *
    have hBw : Below V.heap.size V ((V.alloc (.cells #[.int .i64 c.d, .int .i64 c.i, .int .i64 c.n] 45)).alloc (.cells #[.slice A k cap, .slice (some ⟨V.heap.size, 0, none⟩) 1 1, .slice A3 (l.length - k) (cap - k)] 28)).drew := (below_alloc (below_alloc (Below.refl _ _) _) _).drew
    have hone : cnE.Sl ((V.alloc (.cells #[.int .i64 c.d, .int .i64 c.i, .int .i64 c.n] 45)).alloc (.cells #[.slice A k cap, .slice (some ⟨V.heap.size, 0, none⟩) 1 1, .slice A3 (l.length - k) (cap - k)] 28)).drew (some ⟨V.heap.size, 0, none⟩) [c] := ((El.In.new (E := cnE) V c #[.int .i64 c.d, .int .i64 c.i, .int .i64 c.n] rfl).alloc _).sl
    have CC := concatCn_any (V.heap.size + 1) (pickC L1 [c] L3) (pickC A (some ⟨V.heap.size, 0, none⟩) A3) (pickC cap 1 (cap - k)) ((V.alloc (.cells #[.int .i64 c.d, .int .i64 c.i, .int .i64 c.n] 45)).alloc (.cells #[.slice A k cap, .slice (some ⟨V.heap.size, 0, none⟩) 1 1, .slice A3 (l.length - k) (cap - k)] 28)).drew
      (fun j hj => by
        match j, hj with
        | 0, _ => show _ = some (Value.slice A L1.length cap); rw [HE1.out]; go_simp
        | 1, _ => show _ = some (Value.slice (some ⟨V.heap.size, 0, none⟩) 1 1); go_simp
        | 2, _ => show _ = some (Value.slice A3 L3.length (cap - k)); rw [HE3.out]; go_simp)
      (fun j hj => by
        match j, hj with
        | 0, _ => exact htk.below hBw
        | 1, _ => exact hone
        | 2, _ => exact ht3.below hBw)
      (fun j hj => by
        match j, hj with
        | 0, _ => exact hz
        | 1, _ => intro e; cases e
        | 2, _ => exact hz3)
      HLN.out
      (by simp)
    have ecat : catE (pickC L1 [c] L3) 3 = putC l c := by
      show (([] ++ L1) ++ [c]) ++ L3 = putC l c
      rw [HTO.out, List.nil_append]
    rw [ecat] at CC
    have HCC := Lib.hid CC
    clear CC ecat hone htk ht3 HTO HLN HE1 HE3 hT hT3 hz hz3 hlc hl
    obtain ⟨nc, hnc⟩ : ∃ n, w.heap.size = n := ⟨_, rfl⟩
    rw [hnc] at hP ⊢
    clear hnc
    have hPa : cnE.In (V.alloc (.cells #[.int .i64 c.d, .int .i64 c.i, .int .i64 c.n] 45)).drew nc c := hP.alloc (.cells #[.int .i64 c.d, .int .i64 c.i, .int .i64 c.n] 45)
    have hPb : cnE.In ((V.alloc (.cells #[.int .i64 c.d, .int .i64 c.i, .int .i64 c.n] 45)).alloc (.cells #[.slice A k cap, .slice (some ⟨V.heap.size, 0, none⟩) 1 1, .slice A3 (l.length - k) (cap - k)] 28)).drew nc c := (hP.alloc (.cells #[.int .i64 c.d, .int .i64 c.i, .int .i64 c.n] 45)).alloc (.cells #[.slice A k cap, .slice (some ⟨V.heap.size, 0, none⟩) 1 1, .slice A3 (l.length - k) (cap - k)] 28)
    have hP0 := hP
    replace hP : cnE.In V.drew nc c := hP
    go_region_held3 (fun w' => w'.cell? ⟨nc, 0, none⟩ = some (.int .i64 c.d) ∧ w'.cell? ⟨nc, 1, none⟩ = some (.int .i64 c.i) ∧ w'.cell? ⟨nc, 2, none⟩ = some (.int .i64 c.n)) (with_reducible first | exact cnIn3 hP | exact cnIn3 hPa | exact cnIn3 hPb | exact cnIn3 hP4) (first | (go_at_call 43; (with_reducible refine HCC.out.mono ?_); rintro e W4 ⟨A8, c8, rfl, hS8, hf8, hb8⟩; have hb48 := hBw.trans (hb8.mono hBw.size); have hP4 := hP0.below hb48))
    replace hB := hB.trans (hb48.mono hB.size)
    clear hP0 hPa hPb hP4 HCC hBw hb8 hP hb48
    go_wp2_with fail
    go_ret
    exact ⟨A8, c8, rfl, hS8, hB⟩

set_option maxRecDepth 100000 in
set_option maxHeartbeats 2000000 in
theorem tally_none (A : Option Addr) (cap : Nat) (l : List Cn) (e : En) (w : World) (hl : l.length ≤ 1000) (hT : SlV cnE w A cap l) (h1 : ¬ e.k = 1) (h3 : ¬ e.k = 3) :
    Calls Try.prog 14 #[.slice A l.length cap, .agg #[.int .i64 e.k, .int .i64 e.d, .int .i64 e.i, .int .i64 e.o.C, .int .i64 e.o.D, .int .i64 e.o.I, .int .i64 e.o.M, .int .i64 e.o.K, .int .i64 e.o.U, .string e.o.s]] w fun r w' => ∃ A' c', r = .returned (.slice A' l.length c') ∧ SlV cnE w' A' c' l ∧ Below w.heap.size w w' := by
  have hP : enE.In (w.alloc (.cells #[.int .i64 e.k, .int .i64 e.d, .int .i64 e.i, .int .i64 e.o.C, .int .i64 e.o.D, .int .i64 e.o.I, .int .i64 e.o.M, .int .i64 e.o.K, .int .i64 e.o.U, .string e.o.s] 27)) w.heap.size e := El.In.new (E := enE) w e _ rfl
  have hB := below_alloc (Below.refl w.heap.size w) (.cells #[.int .i64 e.k, .int .i64 e.d, .int .i64 e.i, .int .i64 e.o.C, .int .i64 e.o.D, .int .i64 e.o.I, .int .i64 e.o.M, .int .i64 e.o.K, .int .i64 e.o.U, .string e.o.s] 27)
  obtain ⟨p0, p1, p2, p3, p4, p5, p6, p7, p8, p9⟩ := enIn10 hP
  have e1 : (e.k == 1) = false := beq_eq_false_iff_ne.2 h1
  have e3 : (e.k == 3) = false := beq_eq_false_iff_ne.2 h3
  have C := Lib.hid (fun w' (hb : Below w.heap.size w w') => cloneCn_any A cap l w' (by omega) ⟨hT.1.below hb, hT.2⟩)
  clear h1 h3 hP hT
  go_enter Try.func14, Try.ntmps14
  go_wp2_with fail
  refine (C.out _ hB).mono ?_
  rintro r w2 ⟨A', c', rfl, hS, _, hb2⟩
  replace hB := hB.trans (hb2.mono hB.size)
  clear hb2 C
  go_wp2_with fail
  go_ret
  exact ⟨A', c', rfl, hS, hB⟩
set_option maxRecDepth 100000 in
set_option maxHeartbeats 2000000 in
theorem tally_some (A : Option Addr) (cap : Nat) (l : List Cn) (e : En) (c : Cn) (w : World) (hl : l.length ≤ 1000) (hT : SlV cnE w A cap l) (h : (e.k = 1 ∧ c = ⟨e.o.D, e.o.I, e.o.M⟩) ∨ (e.k = 3 ∧ c = ⟨e.d, e.i, 0⟩)) :
    Calls Try.prog 14 #[.slice A l.length cap, .agg #[.int .i64 e.k, .int .i64 e.d, .int .i64 e.i, .int .i64 e.o.C, .int .i64 e.o.D, .int .i64 e.o.I, .int .i64 e.o.M, .int .i64 e.o.K, .int .i64 e.o.U, .string e.o.s]] w fun r w' => ∃ A' c', r = .returned (.slice A' (putC l c).length c') ∧ SlV cnE w' A' c' (putC l c) ∧ Below w.heap.size w w' := by
  have hP : enE.In (w.alloc (.cells #[.int .i64 e.k, .int .i64 e.d, .int .i64 e.i, .int .i64 e.o.C, .int .i64 e.o.D, .int .i64 e.o.I, .int .i64 e.o.M, .int .i64 e.o.K, .int .i64 e.o.U, .string e.o.s] 27)) w.heap.size e := El.In.new (E := enE) w e _ rfl
  have hB := below_alloc (Below.refl w.heap.size w) (.cells #[.int .i64 e.k, .int .i64 e.d, .int .i64 e.i, .int .i64 e.o.C, .int .i64 e.o.D, .int .i64 e.o.I, .int .i64 e.o.M, .int .i64 e.o.K, .int .i64 e.o.U, .string e.o.s] 27)
  obtain ⟨p0, p1, p2, p3, p4, p5, p6, p7, p8, p9⟩ := enIn10 hP
  have C := (fun w' (hb : Below w.heap.size w w') => counted_any A cap l c w' hl ⟨hT.1.below hb, hT.2⟩)
  clear hP hT
  rcases h with ⟨h1, rfl⟩ | ⟨h1, rfl⟩
  · replace C := Lib.hid C
    have e1 : (e.k == 1) = true := beq_iff_eq.2 h1
    clear h1
    generalize putC l ⟨e.o.D, e.o.I, e.o.M⟩ = R at *
    go_enter Try.func14, Try.ntmps14
    go_wp2_with fail
    refine (C.out _ hB).mono ?_
    rintro r w2 ⟨A', c', rfl, hS, hb2⟩
    replace hB := hB.trans (hb2.mono hB.size)
    clear hb2 C
    go_wp2_with fail
    go_ret
    exact ⟨A', c', rfl, hS, hB⟩
  · replace C := Lib.hid C
    have e1 : (e.k == 1) = false := beq_eq_false_iff_ne.2 (by omega)
    have e3 : (e.k == 3) = true := beq_iff_eq.2 h1
    clear h1
    generalize putC l ⟨e.d, e.i, 0⟩ = R at *
    go_enter Try.func14, Try.ntmps14
    go_wp2_with fail
    refine (C.out _ hB).mono ?_
    rintro r w2 ⟨A', c', rfl, hS, hb2⟩
    replace hB := hB.trans (hb2.mono hB.size)
    clear hb2 C
    go_wp2_with fail
    go_ret
    exact ⟨A', c', rfl, hS, hB⟩
theorem tally_any (A : Option Addr) (c : Nat) (l : List Cn) (e : En) (w : World) (hl : l.length ≤ 1000) (hT : SlV cnE w A c l) : Calls Try.prog 14 #[.slice A l.length c, .agg #[.int .i64 e.k, .int .i64 e.d, .int .i64 e.i, .int .i64 e.o.C, .int .i64 e.o.D, .int .i64 e.o.I, .int .i64 e.o.M, .int .i64 e.o.K, .int .i64 e.o.U, .string e.o.s]] w fun r w' => ∃ A' c', r = .returned (.slice A' (tally l e).length c') ∧ SlV cnE w' A' c' (tally l e) ∧ Below w.heap.size w w' := by
  by_cases h1 : e.k = 1
  · have hv : tally l e = putC l ⟨e.o.D, e.o.I, e.o.M⟩ := by unfold tally cntOf; rw [if_pos h1]
    rw [hv]
    exact tally_some A c l e _ w hl hT (Or.inl ⟨h1, rfl⟩)
  · by_cases h3 : e.k = 3
    · have hv : tally l e = putC l ⟨e.d, e.i, 0⟩ := by unfold tally cntOf; rw [if_neg h1, if_pos h3]
      rw [hv]
      exact tally_some A c l e _ w hl hT (Or.inr ⟨h3, rfl⟩)
    · have hv : tally l e = l := by unfold tally cntOf; rw [if_neg h1, if_neg h3]
      rw [hv]
      exact tally_none A c l e w hl hT h1 h3
end Go.Proofs.Ytllgmkbmdnpnoaa

/- The program's entries: Read, Parse; all calls. -/
namespace Go.Proofs.Ytllgmkbmdnpnoaa
open Go.RowKit Nam Cod

set_option maxRecDepth 100000 in
set_option maxHeartbeats 4000000 in
theorem entRead_uni {w : World} {b p : Nat} {s : ByteArray} {bad : Bool} (hs : s.size ≤ 1000000) (hp : p ≤ s.size) (hr : Rd 41 w b s p bad) :
    Calls Try.prog 18 #[.pointer (some ⟨b, 0, none⟩)] w fun r w' => ∃ (x : En) (q : Nat) (bad' : Bool), r = .returned (.agg #[.int .i64 x.k, .int .i64 x.d, .int .i64 x.i, .int .i64 x.o.C, .int .i64 x.o.D, .int .i64 x.o.I, .int .i64 x.o.M, .int .i64 x.o.K, .int .i64 x.o.U, .string x.o.s]) ∧ Rd 41 w' b s q bad' ∧ q ≤ s.size ∧ w.grownBy w' (some b) ∧ entStep s p bad x q bad' := by
  have hbw := hr.lt
  go_enter Try.func18, Try.ntmps18
  go_wp2_with fail
  have hZ : enE.In ((w.alloc (.cells #[.int .i64 0, .int .i64 0, .int .i64 0, .int .i64 0, .int .i64 0, .int .i64 0, .int .i64 0, .int .i64 0, .int .i64 0, .string ⟨#[]⟩] 27)).alloc (.cells #[.int .i64 0, .int .i64 0, .int .i64 0, .int .i64 0, .int .i64 0, .int .i64 0, .int .i64 0, .int .i64 0, .int .i64 0, .string ⟨#[]⟩] 27)) w.heap.size zeroEn := (El.In.new (E := enE) w zeroEn #[.int .i64 0, .int .i64 0, .int .i64 0, .int .i64 0, .int .i64 0, .int .i64 0, .int .i64 0, .int .i64 0, .int .i64 0, .string ⟨#[]⟩] rfl).alloc _
  have hY : enE.In ((w.alloc (.cells #[.int .i64 0, .int .i64 0, .int .i64 0, .int .i64 0, .int .i64 0, .int .i64 0, .int .i64 0, .int .i64 0, .int .i64 0, .string ⟨#[]⟩] 27)).alloc (.cells #[.int .i64 0, .int .i64 0, .int .i64 0, .int .i64 0, .int .i64 0, .int .i64 0, .int .i64 0, .int .i64 0, .int .i64 0, .string ⟨#[]⟩] 27)) (w.alloc (.cells #[.int .i64 0, .int .i64 0, .int .i64 0, .int .i64 0, .int .i64 0, .int .i64 0, .int .i64 0, .int .i64 0, .int .i64 0, .string ⟨#[]⟩] 27)).heap.size zeroEn := El.In.new (E := enE) (w.alloc (.cells #[.int .i64 0, .int .i64 0, .int .i64 0, .int .i64 0, .int .i64 0, .int .i64 0, .int .i64 0, .int .i64 0, .int .i64 0, .string ⟨#[]⟩] 27)) zeroEn #[.int .i64 0, .int .i64 0, .int .i64 0, .int .i64 0, .int .i64 0, .int .i64 0, .int .i64 0, .int .i64 0, .int .i64 0, .string ⟨#[]⟩] rfl
  rw [alloc_size] at hY
  have hB := below_alloc (below_alloc (Below.refl w.heap.size w) (.cells #[.int .i64 0, .int .i64 0, .int .i64 0, .int .i64 0, .int .i64 0, .int .i64 0, .int .i64 0, .int .i64 0, .int .i64 0, .string ⟨#[]⟩] 27)) (.cells #[.int .i64 0, .int .i64 0, .int .i64 0, .int .i64 0, .int .i64 0, .int .i64 0, .int .i64 0, .int .i64 0, .int .i64 0, .string ⟨#[]⟩] 27)
  have hR := hr.below hB
  have hG := by_below hB (some b)
  obtain ⟨n3, h3⟩ : ∃ n, w.heap.size + 1 = n := ⟨_, rfl⟩
  obtain ⟨n2, h2⟩ : ∃ n, w.heap.size = n := ⟨_, rfl⟩
  have hn2 : w.heap.size ≤ n2 := by omega
  have hwn : w.heap.size ≤ n3 := by omega
  have e2 : b ≠ n2 := by omega
  have e3 : b ≠ n3 := by omega
  have e4 : n2 ≠ n3 := by omega
  have i2 : some n2 ≠ some b := fun e => e2 (Option.some.inj e).symm
  have i3 : some n3 ≠ some b := fun e => e3 (Option.some.inj e).symm
  generalize (w.alloc (.cells #[.int .i64 0, .int .i64 0, .int .i64 0, .int .i64 0, .int .i64 0, .int .i64 0, .int .i64 0, .int .i64 0, .int .i64 0, .string ⟨#[]⟩] 27)).alloc (.cells #[.int .i64 0, .int .i64 0, .int .i64 0, .int .i64 0, .int .i64 0, .int .i64 0, .int .i64 0, .int .i64 0, .int .i64 0, .string ⟨#[]⟩] 27) = W0 at *
  rw [h3] at hY ⊢
  rw [h2] at hZ ⊢
  clear h2 h3 hB hr
  refine (num_uni hs hp hR).mono ?_
  clear hR
  rintro e w1 ⟨k, q1, b1, rfl, hR, q1s, hg, st1⟩
  replace hZ := hZ.keep hg i2
  replace hY := hY.keep hg i3
  replace hG := by_trans hG hg
  clear hg
  have hE := hY.put ⟨k, 0, 0, zeroMv⟩ 0 (.int .i64 k) rfl
  have hZ1 := hZ.other n3 0 (.int .i64 k) e4
  have hR1 := hR.other n3 0 (.int .i64 k) e3
  have hG1 := by_setNew hG n3 0 (.int .i64 k) hwn
  have kc := hY.cell 0
  have kf := hY.frozen
  replace kc : w1.cell? ⟨n3, 0, none⟩ = some (.int .i64 0) := kc
  clear hY hZ hR hG
  by_cases hk : k = 1
  · subst hk
    go_wp2_with fail
    clear kc kf
    generalize w1.setCell ⟨n3, 0, none⟩ (.int .i64 1) = W1 at *
    refine (opRead_uni hs q1s hR1).mono ?_
    rintro e w2 ⟨o, q2, b2, rfl, hR2, q2s, hg2, st2⟩
    replace hE := hE.keep hg2 (fun e => by have := Option.some.inj e; omega)
    replace hZ1 := hZ1.keep hg2 i2
    replace hG1 := by_trans hG1 hg2
    clear hg2 hR1
    have hS3 : enE.In (w2.setRow n3 #[.int .i64 1, .int .i64 0, .int .i64 0, .int .i64 o.C, .int .i64 o.D, .int .i64 o.I, .int .i64 o.M, .int .i64 o.K, .int .i64 o.U, .string o.s]) n3 ⟨1, 0, 0, o⟩ := hE.set ⟨1, 0, 0, o⟩ _ rfl
    have hR3 := hR2.row n3 #[.int .i64 1, .int .i64 0, .int .i64 0, .int .i64 o.C, .int .i64 o.D, .int .i64 o.I, .int .i64 o.M, .int .i64 o.K, .int .i64 o.U, .string o.s] (by omega)
    have hZ3 := hZ1.rowN n3 #[.int .i64 1, .int .i64 0, .int .i64 0, .int .i64 o.C, .int .i64 o.D, .int .i64 o.I, .int .i64 o.M, .int .i64 o.K, .int .i64 o.U, .string o.s] (by omega)
    have hG3 := by_setRow hG1 n3 #[.int .i64 1, .int .i64 0, .int .i64 0, .int .i64 o.C, .int .i64 o.D, .int .i64 o.I, .int .i64 o.M, .int .i64 o.K, .int .i64 o.U, .string o.s] hwn
    have hos : o.s.size ≤ 9223372036854775807 := by
      rcases st2 with ⟨h, _⟩ | ⟨_, h, _⟩
      · have := (opB_wide (op_bytes h).1).2.2.1; omega
      · rw [h]; exact Nat.zero_le _
    clear hR2 hZ1 hG1
    cases b2
    · obtain ⟨g1, g2⟩ := ent_op_good st1 st2
      have HG := Lib.hid g1
      have CR := Lib.hid (fun wx => (by
        have h := entRight_any ⟨1, 0, 0, o⟩ wx hos
        rw [g2] at h
        exact h : Calls Try.prog 9 #[.agg #[.int .i64 1, .int .i64 0, .int .i64 0, .int .i64 o.C, .int .i64 o.D, .int .i64 o.I, .int .i64 o.M, .int .i64 o.K, .int .i64 o.U, .string o.s]] wx fun r w' => r = .returned (.bool true) ∧ Below wx.heap.size wx w'))
      clear st1 st2 g1 g2
      obtain ⟨p0, p1, p2, p3, p4, p5, p6, p7, p8, p9⟩ := enIn10 hS3
      obtain ⟨r0, r1, r2⟩ := hR3.cells
      dsimp only at p0 p1 p2 p3 p4 p5 p6 p7 p8 p9
      go_wp2_with (first | (refine wpList_store_enOp rfl _ _ rfl n3 ⟨1, 0, 0, zeroMv⟩ o rfl rfl hE ?_) | fail)
      clear p0 p1 p2 p3 p4 p5 p6 p7 p8 p9 r0 r1 r2 hE
      generalize w2.setRow n3 #[.int .i64 1, .int .i64 0, .int .i64 0, .int .i64 o.C, .int .i64 o.D, .int .i64 o.I, .int .i64 o.M, .int .i64 o.K, .int .i64 o.U, .string o.s] = W3 at *
      refine (CR.out _).mono ?_
      rintro e w4 ⟨rfl, hb4⟩
      replace hS3 := hS3.below hb4
      replace hR3 := hR3.below hb4
      replace hZ3 := hZ3.below hb4
      replace hG3 := by_trans hG3 (by_below hb4 _)
      clear hb4 CR
      go_wp2_with (first | (refine El.load enRow rfl _ rfl n3 0 rfl ⟨1, 0, 0, o⟩ hS3.at #[.int .i64 1, .int .i64 0, .int .i64 0, .int .i64 o.C, .int .i64 o.D, .int .i64 o.I, .int .i64 o.M, .int .i64 o.K, .int .i64 o.U, .string o.s] rfl ?_) | (refine El.store enRow rfl _ _ rfl n2 ⟨1, 0, 0, o⟩ #[.int .i64 1, .int .i64 0, .int .i64 0, .int .i64 o.C, .int .i64 o.D, .int .i64 o.I, .int .i64 o.M, .int .i64 o.K, .int .i64 o.U, .string o.s] rfl rfl rfl zeroEn hZ3 ?_) | fail)
      refine El.ret1 enRow (hZ3.set ⟨1, 0, 0, o⟩ _ rfl) rfl rfl rfl #[.int .i64 1, .int .i64 0, .int .i64 0, .int .i64 o.C, .int .i64 o.D, .int .i64 o.I, .int .i64 o.M, .int .i64 o.K, .int .i64 o.U, .string o.s] rfl ?_
      exact ⟨⟨1, 0, 0, o⟩, q2, false, rfl, hR3.row n2 _ e2, q2s, by_setRow hG3 n2 _ hn2, Or.inl ⟨HG.out, rfl⟩⟩
    · have HG := Lib.hid (ent_op_ill st1 st2)
      clear st1 st2
      obtain ⟨r0, r1, r2⟩ := hR3.cells
      have rf := hR3.frozen
      go_wp2_with (first | (refine wpList_store_enOp rfl _ _ rfl n3 ⟨1, 0, 0, zeroMv⟩ o rfl rfl hE ?_) | (refine El.store enRow rfl _ _ rfl n2 zeroEn #[.int .i64 0, .int .i64 0, .int .i64 0, .int .i64 0, .int .i64 0, .int .i64 0, .int .i64 0, .int .i64 0, .int .i64 0, .string ⟨#[]⟩] rfl rfl rfl zeroEn (hZ3.other b 2 (.bool true) e2.symm) ?_) | fail)
      refine El.ret1 enRow ((hZ3.other b 2 (.bool true) e2.symm).set zeroEn _ rfl) rfl rfl rfl #[.int .i64 0, .int .i64 0, .int .i64 0, .int .i64 0, .int .i64 0, .int .i64 0, .int .i64 0, .int .i64 0, .int .i64 0, .string ⟨#[]⟩] rfl ?_
      exact ⟨zeroEn, q2, true, rfl, (hR3.setBad).row n2 _ e2, q2s, by_setRow (by_set hG3 2 (.bool true)) n2 _ hn2, Or.inr ⟨HG.out, rfl, rfl⟩⟩
  · have e1 : (k == 1) = false := beq_eq_false_iff_ne.2 hk
    go_wp2_with fail
    clear kc kf e1
    generalize w1.setCell ⟨n3, 0, none⟩ (.int .i64 k) = W1 at *
    refine (num_uni hs q1s hR1).mono ?_
    rintro e w2 ⟨d, q2, b2, rfl, hR2, q2s, hg2, st2⟩
    replace hE := hE.keep hg2 i3
    replace hZ1 := hZ1.keep hg2 i2
    replace hG1 := by_trans hG1 hg2
    clear hg2 hR1
    have hE2 := hE.put ⟨k, d, 0, zeroMv⟩ 1 (.int .i64 d) rfl
    have hZ2 := hZ1.other n3 1 (.int .i64 d) e4
    have hR3 := hR2.other n3 1 (.int .i64 d) e3
    have hG2 := by_setNew hG1 n3 1 (.int .i64 d) hwn
    have kc := hE.cell 1
    have kf := hE.frozen
    replace kc : w2.cell? ⟨n3, 1, none⟩ = some (.int .i64 0) := kc
    clear hE hZ1 hR2 hG1
    go_wp2_with fail
    clear kc kf
    generalize w2.setCell ⟨n3, 1, none⟩ (.int .i64 d) = W2 at *
    refine (num_uni hs q2s hR3).mono ?_
    rintro e w3 ⟨i, q3, b3, rfl, hR4, q3s, hg3, st3⟩
    replace hE2 := hE2.keep hg3 i3
    replace hZ2 := hZ2.keep hg3 i2
    replace hG2 := by_trans hG2 hg3
    clear hg3 hR3
    have hE3 := hE2.put ⟨k, d, i, zeroMv⟩ 2 (.int .i64 i) rfl
    have hZ3 := hZ2.other n3 2 (.int .i64 i) e4
    have hR5 := hR4.other n3 2 (.int .i64 i) e3
    have hG3 := by_setNew hG2 n3 2 (.int .i64 i) hwn
    have kc := hE2.cell 2
    have kf := hE2.frozen
    replace kc : w3.cell? ⟨n3, 2, none⟩ = some (.int .i64 0) := kc
    clear hE2 hZ2 hR4 hG2
    cases b3
    · have HG := Lib.hid (ent_two_good hk st1 st2 st3)
      have CR := Lib.hid (fun wx => entRight_any ⟨k, d, i, zeroMv⟩ wx (Nat.zero_le _))
      clear st1 st2 st3
      obtain ⟨p0, p1, p2, p3, p4, p5, p6, p7, p8, p9⟩ := enIn10 hE3
      obtain ⟨r0, r1, r2⟩ := hR5.cells
      dsimp only [zeroMv] at p0 p1 p2 p3 p4 p5 p6 p7 p8 p9
      go_wp2_with fail
      clear p0 p1 p2 p3 p4 p5 p6 p7 p8 p9 r0 r1 r2 kc kf
      generalize w3.setCell ⟨n3, 2, none⟩ (.int .i64 i) = W3 at *
      refine (CR.out _).mono ?_
      rintro e w4 ⟨rfl, hb4⟩
      replace hE3 := hE3.below hb4
      replace hR5 := hR5.below hb4
      replace hZ3 := hZ3.below hb4
      replace hG3 := by_trans hG3 (by_below hb4 _)
      clear hb4 CR
      obtain ⟨eb, heb⟩ : ∃ eb, entB ⟨k, d, i, zeroMv⟩ = eb := ⟨_, rfl⟩
      have HG2 := Lib.hid (show isEnt s p bad = if eb = true then some (⟨k, d, i, zeroMv⟩, q3) else none by rw [HG.out, heb])
      rw [heb]
      clear HG heb
      cases eb
      · obtain ⟨r0, r1, r2⟩ := hR5.cells
        have rf := hR5.frozen
        go_wp2_with (first | (refine El.store enRow rfl _ _ rfl n2 zeroEn #[.int .i64 0, .int .i64 0, .int .i64 0, .int .i64 0, .int .i64 0, .int .i64 0, .int .i64 0, .int .i64 0, .int .i64 0, .string ⟨#[]⟩] rfl rfl rfl zeroEn (hZ3.other b 2 (.bool true) e2.symm) ?_) | fail)
        refine El.ret1 enRow ((hZ3.other b 2 (.bool true) e2.symm).set zeroEn _ rfl) rfl rfl rfl #[.int .i64 0, .int .i64 0, .int .i64 0, .int .i64 0, .int .i64 0, .int .i64 0, .int .i64 0, .int .i64 0, .int .i64 0, .string ⟨#[]⟩] rfl ?_
        exact ⟨zeroEn, q3, true, rfl, (hR5.setBad).row n2 _ e2, q3s, by_setRow (by_set hG3 2 (.bool true)) n2 _ hn2, Or.inr ⟨by rw [HG2.out, if_neg (by decide)], rfl, rfl⟩⟩
      · go_wp2_with (first | (refine El.load enRow rfl _ rfl n3 0 rfl ⟨k, d, i, zeroMv⟩ hE3.at #[.int .i64 k, .int .i64 d, .int .i64 i, .int .i64 0, .int .i64 0, .int .i64 0, .int .i64 0, .int .i64 0, .int .i64 0, .string ⟨#[]⟩] rfl ?_) | (refine El.store enRow rfl _ _ rfl n2 ⟨k, d, i, zeroMv⟩ #[.int .i64 k, .int .i64 d, .int .i64 i, .int .i64 0, .int .i64 0, .int .i64 0, .int .i64 0, .int .i64 0, .int .i64 0, .string ⟨#[]⟩] rfl rfl rfl zeroEn hZ3 ?_) | fail)
        refine El.ret1 enRow (hZ3.set ⟨k, d, i, zeroMv⟩ _ rfl) rfl rfl rfl #[.int .i64 k, .int .i64 d, .int .i64 i, .int .i64 0, .int .i64 0, .int .i64 0, .int .i64 0, .int .i64 0, .int .i64 0, .string ⟨#[]⟩] rfl ?_
        exact ⟨⟨k, d, i, zeroMv⟩, q3, false, rfl, hR5.row n2 _ e2, q3s, by_setRow hG3 n2 _ hn2, Or.inl ⟨by simpa using HG2.out, rfl⟩⟩
    · have HG := Lib.hid (ent_two_ill hk st1 st2 st3)
      clear st1 st2 st3 hE3
      obtain ⟨r0, r1, r2⟩ := hR5.cells
      have rf := hR5.frozen
      go_wp2_with (first | (refine El.store enRow rfl _ _ rfl n2 zeroEn #[.int .i64 0, .int .i64 0, .int .i64 0, .int .i64 0, .int .i64 0, .int .i64 0, .int .i64 0, .int .i64 0, .int .i64 0, .string ⟨#[]⟩] rfl rfl rfl zeroEn (hZ3.other b 2 (.bool true) e2.symm) ?_) | fail)
      refine El.ret1 enRow ((hZ3.other b 2 (.bool true) e2.symm).set zeroEn _ rfl) rfl rfl rfl #[.int .i64 0, .int .i64 0, .int .i64 0, .int .i64 0, .int .i64 0, .int .i64 0, .int .i64 0, .int .i64 0, .int .i64 0, .string ⟨#[]⟩] rfl ?_
      exact ⟨zeroEn, q3, true, rfl, (hR5.setBad).row n2 _ e2, q3s, by_setRow (by_set hG3 2 (.bool true)) n2 _ hn2, Or.inr ⟨HG.out, rfl, rfl⟩⟩

set_option maxRecDepth 100000 in
set_option maxHeartbeats 4000000 in
theorem entParse_any (s : ByteArray) (w : World) (hs : s.size ≤ 1000000) :
    Calls Try.prog 16 #[.string s] w fun r w' => ∃ (x : En) (ok : Bool), r = .returned (.tuple #[.agg #[.int .i64 x.k, .int .i64 x.d, .int .i64 x.i, .int .i64 x.o.C, .int .i64 x.o.D, .int .i64 x.o.I, .int .i64 x.o.M, .int .i64 x.o.K, .int .i64 x.o.U, .string x.o.s], .bool ok]) ∧ (x = (parseEnt s).getD zeroEn ∧ ok = (parseEnt s).isSome) ∧ Below w.heap.size w w' := by
  go_enter Try.func16, Try.ntmps16
  go_wp2_with fail
  have hR := Rd.new (w.alloc (.cells #[.int .i64 0, .int .i64 0, .int .i64 0, .int .i64 0, .int .i64 0, .int .i64 0, .int .i64 0, .int .i64 0, .int .i64 0, .string ⟨#[]⟩] 27)) 41 s 0 rfl
  rw [show (w.alloc (.cells #[.int .i64 0, .int .i64 0, .int .i64 0, .int .i64 0, .int .i64 0, .int .i64 0, .int .i64 0, .int .i64 0, .int .i64 0, .string ⟨#[]⟩] 27)).heap.size = w.heap.size + 1 from alloc_size _ _] at hR
  have hZ : enE.In ((w.alloc (.cells #[.int .i64 0, .int .i64 0, .int .i64 0, .int .i64 0, .int .i64 0, .int .i64 0, .int .i64 0, .int .i64 0, .int .i64 0, .string ⟨#[]⟩] 27)).alloc (.cells #[.string s, .int .i64 0, .bool false] 41)) w.heap.size zeroEn := (El.In.new (E := enE) w zeroEn #[.int .i64 0, .int .i64 0, .int .i64 0, .int .i64 0, .int .i64 0, .int .i64 0, .int .i64 0, .int .i64 0, .int .i64 0, .string ⟨#[]⟩] rfl).alloc _
  have hB := below_alloc (below_alloc (Below.refl w.heap.size w) (.cells #[.int .i64 0, .int .i64 0, .int .i64 0, .int .i64 0, .int .i64 0, .int .i64 0, .int .i64 0, .int .i64 0, .int .i64 0, .string ⟨#[]⟩] 27)) (.cells #[.string s, .int .i64 0, .bool false] 41)
  generalize (w.alloc (.cells #[.int .i64 0, .int .i64 0, .int .i64 0, .int .i64 0, .int .i64 0, .int .i64 0, .int .i64 0, .int .i64 0, .int .i64 0, .string ⟨#[]⟩] 27)).alloc (.cells #[.string s, .int .i64 0, .bool false] 41) = W0 at *
  obtain ⟨n2, h2⟩ : ∃ n, w.heap.size = n := ⟨_, rfl⟩
  obtain ⟨b, h3⟩ : ∃ n, w.heap.size + 1 = n := ⟨_, rfl⟩
  have hn2 : w.heap.size ≤ n2 := by omega
  have hnb : w.heap.size ≤ b := by omega
  have e2 : b ≠ n2 := by omega
  have i2 : some n2 ≠ some b := fun e => e2 (Option.some.inj e).symm
  rw [h3] at hR ⊢
  rw [h2] at hZ ⊢
  clear h2 h3
  refine (entRead_uni hs (Nat.zero_le _) hR).mono ?_
  rintro e w1 ⟨x, q, bad, rfl, hR1, hq, hg, st⟩
  have hB1 := below_by hB hg hnb
  have hZ1 := hZ.keep hg i2
  have hST := Lib.hid st
  clear hB hZ hR hg st
  have hal := below_alloc (Below.refl w1.heap.size w1) (.cells #[.int .i64 x.k, .int .i64 x.d, .int .i64 x.i, .int .i64 x.o.C, .int .i64 x.o.D, .int .i64 x.o.I, .int .i64 x.o.M, .int .i64 x.o.K, .int .i64 x.o.U, .string x.o.s] 27)
  have hO2 : enE.In (w1.alloc (.cells #[.int .i64 x.k, .int .i64 x.d, .int .i64 x.i, .int .i64 x.o.C, .int .i64 x.o.D, .int .i64 x.o.I, .int .i64 x.o.M, .int .i64 x.o.K, .int .i64 x.o.U, .string x.o.s] 27)) w1.heap.size x := El.In.new (E := enE) w1 x _ rfl
  have hR2 := hR1.below hal
  have hZ2 := hZ1.below hal
  have hB2 := hB1.trans (hal.mono hB1.size)
  clear hR1 hZ1 hB1 hal
  go_wp2_with fail
  generalize w1.alloc (.cells #[.int .i64 x.k, .int .i64 x.d, .int .i64 x.i, .int .i64 x.o.C, .int .i64 x.o.D, .int .i64 x.o.I, .int .i64 x.o.M, .int .i64 x.o.K, .int .i64 x.o.U, .string x.o.s] 27) = W2 at *
  have cD := done_any hq hR2
  obtain ⟨d, hd⟩ : ∃ d, isDone s q bad = d := ⟨_, rfl⟩
  rw [hd] at cD
  refine cD.mono ?_
  rintro e w3 ⟨rfl, n, rfl⟩
  have hO3 : enE.In (W2.drewN n) w1.heap.size x := hO2
  have hZ3 : enE.In (W2.drewN n) n2 zeroEn := hZ2
  have hB3 := below_drew hB2 n
  have HD := Lib.hid hd
  clear cD hd hO2 hZ2 hB2 hR2
  generalize W2.drewN n = W3 at *
  cases d
  · have hp : parseEnt s = none := by
      unfold parseEnt
      rcases hST.out with ⟨h, rfl⟩ | ⟨h, _, _⟩
      · rw [h, Option.bind_some, if_neg]
        intro e
        have h := HD.out
        unfold isDone at h
        simp at h; exact h e
      · rw [h]; rfl
    have HP := Lib.hid hp
    clear HD hST hp
    go_wp2_with (first | (refine El.store enRow rfl _ _ rfl n2 zeroEn #[.int .i64 0, .int .i64 0, .int .i64 0, .int .i64 0, .int .i64 0, .int .i64 0, .int .i64 0, .int .i64 0, .int .i64 0, .string ⟨#[]⟩] rfl rfl rfl zeroEn hZ3 ?_) | fail)
    refine El.ret2 enRow (hZ3.set zeroEn _ rfl) rfl rfl rfl rfl #[.int .i64 0, .int .i64 0, .int .i64 0, .int .i64 0, .int .i64 0, .int .i64 0, .int .i64 0, .int .i64 0, .int .i64 0, .string ⟨#[]⟩] rfl ?_
    exact ⟨zeroEn, false, rfl, ⟨by rw [HP.out]; rfl, by rw [HP.out]; rfl⟩, below_setRow hB3 hn2 _⟩
  · have hp : parseEnt s = some x := by
      unfold parseEnt
      have hd := HD.out
      unfold isDone at hd
      rcases hST.out with ⟨h, rfl⟩ | ⟨h, _, rfl⟩
      · rw [h, Option.bind_some, if_pos (by simpa using hd)]
      · simp at hd
    have HP := Lib.hid hp
    clear HD hST hp
    go_wp2_with (first | (refine El.load enRow rfl _ rfl w1.heap.size 0 rfl x hO3.at #[.int .i64 x.k, .int .i64 x.d, .int .i64 x.i, .int .i64 x.o.C, .int .i64 x.o.D, .int .i64 x.o.I, .int .i64 x.o.M, .int .i64 x.o.K, .int .i64 x.o.U, .string x.o.s] rfl ?_) | (refine El.store enRow rfl _ _ rfl n2 x #[.int .i64 x.k, .int .i64 x.d, .int .i64 x.i, .int .i64 x.o.C, .int .i64 x.o.D, .int .i64 x.o.I, .int .i64 x.o.M, .int .i64 x.o.K, .int .i64 x.o.U, .string x.o.s] rfl rfl rfl zeroEn hZ3 ?_) | fail)
    refine El.ret2 enRow (hZ3.set x _ rfl) rfl rfl rfl rfl #[.int .i64 x.k, .int .i64 x.d, .int .i64 x.i, .int .i64 x.o.C, .int .i64 x.o.D, .int .i64 x.o.I, .int .i64 x.o.M, .int .i64 x.o.K, .int .i64 x.o.U, .string x.o.s] rfl ?_
    exact ⟨x, true, rfl, ⟨by rw [HP.out]; rfl, by rw [HP.out]; rfl⟩, below_setRow hB3 hn2 _⟩
theorem entryCalls : EntryCalls where
  right e w hs := entRight_any e w hs
  print e w hw hs := entPrint_any e w hw hs
  read _ _ _ _ _ hs hp hr := entRead_uni hs hp hr
  parse s w hs := entParse_any s w hs
  tally A c l e w hl hT := tally_any A c l e w hl hT
end Go.Proofs.Ytllgmkbmdnpnoaa

/- EntryParses, given the program's calls: the entry of any bytes, or that they are none's, is the document's. -/
namespace Go.Proofs.Ytllgmkbmdnpnoaa
open Go.ChangeShapes Go.WideShapes Go.ChangeAt Go.RowKit Go.Deep Nam Cod

set_option maxRecDepth 100000 in
set_option maxHeartbeats 4000000 in
theorem parses11_walk (H : EntryCalls) (s : ByteArray) (w : World) (hs : s.size ≤ maxLen) :
    Calls Try.prog 4 #[.string s] w fun r w' => r = .returned (.bool true) ∧ Below w.heap.size w w' := by
  unfold maxLen at hs
  by_cases h1 : 1000 < s.size
  · go_enter Try.func4, Try.ntmps4
    go_wp2_with fail
    refine (awake11_any H _).mono ?_
    rintro r w1 ⟨rfl, hb1⟩
    go_wp2_with fail
    go_ret
    exact ⟨rfl, hb1⟩
  · have HP := Lib.hid (fun (wx : World) => H.parse s wx (by omega))
    have HR := Lib.hid (fun (wx : World) => refEntParse_any s wx (by omega))
    go_enter Try.func4, Try.ntmps4
    go_wp2_with fail
    refine (HP.out _).mono ?_
    rintro r w1 ⟨x, ok, rfl, ⟨hx, hok⟩, hb1⟩
    have HX := Lib.hid hx
    have HOK := Lib.hid hok
    clear hx hok HP
    have hal := below_alloc (Below.refl w1.heap.size w1) (.cells #[.int .i64 x.k, .int .i64 x.d, .int .i64 x.i, .int .i64 x.o.C, .int .i64 x.o.D, .int .i64 x.o.I, .int .i64 x.o.M, .int .i64 x.o.K, .int .i64 x.o.U, .string x.o.s] 27)
    have hA : enE.In (w1.alloc (.cells #[.int .i64 x.k, .int .i64 x.d, .int .i64 x.i, .int .i64 x.o.C, .int .i64 x.o.D, .int .i64 x.o.I, .int .i64 x.o.M, .int .i64 x.o.K, .int .i64 x.o.U, .string x.o.s] 27)) w1.heap.size x := El.In.new (E := enE) w1 x _ rfl
    have hB := hb1.trans (hal.mono hb1.size)
    clear hal hb1
    go_wp2_with fail
    generalize w1.alloc (.cells #[.int .i64 x.k, .int .i64 x.d, .int .i64 x.i, .int .i64 x.o.C, .int .i64 x.o.D, .int .i64 x.o.I, .int .i64 x.o.M, .int .i64 x.o.K, .int .i64 x.o.U, .string x.o.s] 27) = W1 at *
    obtain ⟨na, hna⟩ : ∃ n, w1.heap.size = n := ⟨_, rfl⟩
    rw [hna] at hA ⊢
    clear hna
    refine (HR.out _).mono ?_
    rintro r w2 ⟨y, ok2, rfl, ⟨hy, hok2⟩, hb2⟩
    obtain rfl : y = x := by rw [hy, HX.out]
    obtain rfl : ok2 = ok := by rw [hok2, HOK.out]
    clear hy hok2 HR HX HOK
    replace hA := hA.below hb2
    replace hB := hB.trans (hb2.mono hB.size)
    clear hb2
    have hal := below_alloc (Below.refl w2.heap.size w2) (.cells #[.int .i64 y.k, .int .i64 y.d, .int .i64 y.i, .int .i64 y.o.C, .int .i64 y.o.D, .int .i64 y.o.I, .int .i64 y.o.M, .int .i64 y.o.K, .int .i64 y.o.U, .string y.o.s] 27)
    have hY : enE.In (w2.alloc (.cells #[.int .i64 y.k, .int .i64 y.d, .int .i64 y.i, .int .i64 y.o.C, .int .i64 y.o.D, .int .i64 y.o.I, .int .i64 y.o.M, .int .i64 y.o.K, .int .i64 y.o.U, .string y.o.s] 27)) w2.heap.size y := El.In.new (E := enE) w2 y _ rfl
    replace hA := hA.below hal
    replace hB := hB.trans (hal.mono hB.size)
    clear hal
    go_wp2_with fail
    generalize w2.alloc (.cells #[.int .i64 y.k, .int .i64 y.d, .int .i64 y.i, .int .i64 y.o.C, .int .i64 y.o.D, .int .i64 y.o.I, .int .i64 y.o.M, .int .i64 y.o.K, .int .i64 y.o.U, .string y.o.s] 27) = W2 at *
    obtain ⟨nb, hnb⟩ : ∃ n, w2.heap.size = n := ⟨_, rfl⟩
    rw [hnb] at hY ⊢
    clear hnb
    refine (awake11_any H _).mono ?_
    rintro r w3 ⟨rfl, hb3⟩
    replace hA := hA.below hb3
    replace hY := hY.below hb3
    replace hB := hB.trans (hb3.mono hB.size)
    clear hb3
    obtain ⟨p0, p1, p2, p3, p4, p5, p6, p7, p8, p9⟩ := enIn10 hA
    obtain ⟨q0, q1, q2, q3, q4, q5, q6, q7, q8, q9⟩ := enIn10 hY
    cases ok2
    · go_wp2_with fail
      go_ret
      exact ⟨rfl, hB⟩
    · go_wp2_with fail
      go_ret
      exact ⟨rfl, hB⟩
set_option maxRecDepth 100000 in
theorem parses11_lifted (H0 : EntryCalls) (os : Os) (started : os.Started) (H : Type) (enc : TypeId × Value → H) :
    ReturnsInHanded {} Try.checked os 4 .any (Rows.entryParsesSpec.pre6 enc Try.prog Try.f4 Rows.entryParsesRow.domain false) (Rows.entryParsesSpec.post enc Try.prog Try.f4 false true false false) := by
  refine returnsInHanded_of_change (C := Try.checked) own started (by kernel_rfl) Try.func4
    (ChangeSpec.witness6 (enc := enc) (C := Try.checked) false ⟨#[], #[.string ⟨#[]⟩], []⟩ 8 (by kernel_rfl) (by kernel_rfl) (by kernel_rfl) (by kernel_rfl)) ?_
  intro W base args ds gs before hval0 hW _ _
  have hval : ∀ (j : Nat) t v, Try.f4.params[j]? = some t → args[j]? = some v → Value.okWide Try.prog W .any base t v := hval0
  have hW' := hW
  obtain ⟨p, q, hA0, hV, rfl, _, _⟩ := hW
  have hA : DataW.TrodAll enc Try.prog W 0 (fun _ => true) true Try.f4.params.toList args.toList ds p := hA0
  rw [Try.params4] at hA hval
  obtain ⟨v0, d0, rfl, rfl, h0⟩ := trodAll_one hA
  obtain ⟨s, rfl, hs⟩ := open_str (hval 0 9 v0 rfl rfl) h0
  have hc : Calls Try.prog 4 #[.string s] W fun e w' => e = .returned (.bool true) ∧ Below W.heap.size W w' := by
    exact parses11_walk H0 s W hs
  refine hc.mono fun e W' ⟨he, hb⟩ => ?_
  subst he
  exact ⟨_, rfl, Frm.law_post (by kernel_rfl) (by kernel_rfl) (by kernel_rfl) Try.underlying4 rfl rfl hW' hb⟩

theorem parses11_holds (H0 : EntryCalls) : Rows.EntryParsesSaid :=
  OpenClaim.holds_of_wide 4 Try.f4 rfl rfl rfl rfl rfl rfl rfl ⟨rfl, rfl, rfl, rfl, rfl⟩ rfl rfl rfl rfl rfl (by kernel_rfl) Try.func4 (by kernel_rfl)
    (of_decide_eq_true (by kernel_rfl)) (by unfold Func.isWrapper; first | (rw [if_pos (by decide +kernel)]; kernel_rfl) | (rw [if_neg (by decide +kernel)]; exact ⟨rfl, rfl⟩))
    (fun os started H enc _ => parses11_lifted H0 os started H enc)
end Go.Proofs.Ytllgmkbmdnpnoaa
