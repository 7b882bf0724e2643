/- PastCounts is proved: a device's operations are those of all its lives; all operations of all devices are all. Conditions: none. -/
import Derived.Test.YtoidondngoljaaaB06
import Derived.Test.YtoidondngoljaaaRows
namespace Go.Proofs.Ytoidondngoljaaa
open Go.ChangeShapes Go.WideShapes Go.ChangeAt Go.RowKit Go.Deep Nam Cod Tre Pst

theorem filter_or {α : Type} (p q : α → Bool) (h : ∀ m, p m = true → q m = true → False) : ∀ l : List α, (l.filter fun m => p m || q m).length = (l.filter p).length + (l.filter q).length
  | [] => rfl
  | m :: l => by
    have ih := filter_or p q h l
    cases hp : p m <;> cases hq : q m
    · simp [List.filter_cons, hp, hq, ih]
    · simp [List.filter_cons, hp, hq, ih]; omega
    · simp [List.filter_cons, hp, hq, ih]; omega
    · exact (h m hp hq).elim
/-- Of d, and of a life that one of the first j has. -/
def inJ (o : List Mv) (d : Int) (j : Nat) (m : Mv) : Bool := decide (m.D = d) && (o.take j).any fun x => decide (x.D = d ∧ x.I = m.I)
def sumJ (o : List Mv) (d : Int) (j : Nat) : Nat := (o.filter (inJ o d j)).length
/-- None of the first k is of d and of this life. -/
def frst (o : List Mv) (d i : Int) (k : Nat) : Bool := (o.take k).all fun x => !decide (x.D = d ∧ x.I = i)
theorem frst_next {o : List Mv} {d i : Int} {k : Nat} (h : k < o.length) : frst o d i (k + 1) = (frst o d i k && !decide (o[k].D = d ∧ o[k].I = i)) := by
  unfold frst
  rw [List.take_succ_eq_append_getElem h, List.all_append]
  simp
theorem sumJ_zero (o : List Mv) (d : Int) : sumJ o d 0 = 0 := by
  unfold sumJ
  have e : inJ o d 0 = fun _ => false := by funext m; unfold inJ; simp
  rw [e]; simp
theorem inJ_next {o : List Mv} {d : Int} {j : Nat} (h : j < o.length) (m : Mv) : inJ o d (j + 1) m = (inJ o d j m || (decide (m.D = d) && decide (o[j].D = d ∧ o[j].I = m.I))) := by
  unfold inJ
  rw [List.take_succ_eq_append_getElem h, List.any_append]
  cases decide (m.D = d) <;> simp
theorem sumJ_first {o : List Mv} {d : Int} {j : Nat} (h : j < o.length) (hd : o[j].D = d) (hf : frst o d o[j].I j = true) : sumJ o d (j + 1) = sumJ o d j + (o.filter fun m => decide (m.D = d ∧ m.I = o[j].I)).length := by
  unfold sumJ
  have e : inJ o d (j + 1) = fun m => inJ o d j m || decide (m.D = d ∧ m.I = o[j].I) := by
    funext m
    rw [inJ_next h, hd]
    congr 1
    rw [Bool.eq_iff_iff]
    simp only [Bool.and_eq_true, decide_eq_true_iff, true_and]
    exact ⟨fun ⟨a, b⟩ => ⟨a, b.symm⟩, fun ⟨a, b⟩ => ⟨a, b.symm⟩⟩
  rw [e]
  refine filter_or _ _ (fun m h1 h2 => ?_) o
  unfold inJ at h1
  rw [Bool.and_eq_true, List.any_eq_true] at h1
  obtain ⟨_, x, hx, hxe⟩ := h1
  unfold frst at hf
  rw [List.all_eq_true] at hf
  have h3 := hf x hx
  simp only [decide_eq_true_iff] at hxe h2
  rw [Bool.not_eq_true', decide_eq_false_iff_not] at h3
  exact h3 ⟨hxe.1, hxe.2.trans h2.2⟩
theorem sumJ_other {o : List Mv} {d : Int} {j : Nat} (h : j < o.length) (hn : ¬ (o[j].D = d ∧ frst o d o[j].I j = true)) : sumJ o d (j + 1) = sumJ o d j := by
  unfold sumJ
  have e : inJ o d (j + 1) = inJ o d j := by
    funext m
    rw [inJ_next h]
    by_cases hd : o[j].D = d
    · have hf : ¬ frst o d o[j].I j = true := fun e => hn ⟨hd, e⟩
      by_cases hm : m.D = d ∧ o[j].I = m.I
      · unfold frst at hf
        rw [List.all_eq_true] at hf
        have h3 : ∃ x ∈ o.take j, x.D = d ∧ x.I = o[j].I := by
          by_cases h4 : ∃ x ∈ o.take j, x.D = d ∧ x.I = o[j].I
          · exact h4
          · exact (hf fun x hx => by rw [Bool.not_eq_true', decide_eq_false_iff_not]; exact fun hh => h4 ⟨x, hx, hh⟩).elim
        obtain ⟨x, hx, h5⟩ := h3
        have h6 : inJ o d j m = true := by
          unfold inJ
          rw [Bool.and_eq_true, List.any_eq_true]
          exact ⟨decide_eq_true hm.1, x, hx, decide_eq_true ⟨h5.1, h5.2.trans hm.2⟩⟩
        rw [h6]; rfl
      · have : (decide (m.D = d) && decide (o[j].D = d ∧ o[j].I = m.I)) = false := by
          rw [Bool.eq_false_iff]
          intro hh
          simp only [Bool.and_eq_true, decide_eq_true_iff] at hh
          exact hm ⟨hh.1, hh.2.2⟩
        rw [this, Bool.or_false]
    · have : (decide (m.D = d) && decide (o[j].D = d ∧ o[j].I = m.I)) = false := by
        rw [Bool.eq_false_iff]
        intro hh
        simp only [Bool.and_eq_true, decide_eq_true_iff] at hh
        exact hd hh.2.1
      rw [this, Bool.or_false]
  rw [e]
theorem sumJ_all (o : List Mv) (d : Int) : sumJ o d o.length = (o.filter fun m => decide (m.D = d)).length := by
  unfold sumJ
  congr 1
  refine List.filter_congr fun m hm => ?_
  unfold inJ
  rw [List.take_length]
  cases hd : decide (m.D = d)
  · rfl
  · rw [Bool.true_and, List.any_eq_true]
    exact ⟨m, hm, decide_eq_true ⟨of_decide_eq_true hd, rfl⟩⟩
def allD (o : List Mv) (d : Nat) : Nat := (o.filter fun m : Mv => decide (m.D < (d : Int))).length
theorem allD_next (o : List Mv) (hd : ∀ m ∈ o, 0 ≤ m.D) (d : Nat) : allD o (d + 1) = allD o d + (o.filter fun m : Mv => decide (m.D = (d : Int))).length := by
  unfold allD
  have e : (fun m : Mv => decide (m.D < ((d + 1 : Nat) : Int))) = fun m => decide (m.D < (d : Int)) || decide (m.D = (d : Int)) := by
    funext m
    rw [Bool.eq_iff_iff]
    simp only [Bool.or_eq_true, decide_eq_true_iff]
    omega
  rw [e]
  exact filter_or _ _ (fun m h1 h2 => by simp only [decide_eq_true_iff] at h1 h2; omega) o
theorem allD_zero (o : List Mv) (hd : ∀ m ∈ o, 0 ≤ m.D) : allD o 0 = 0 := by
  unfold allD
  rw [List.length_eq_zero_iff, List.filter_eq_nil_iff]
  intro m hm
  have := hd m hm
  simp only [decide_eq_true_iff]
  omega
theorem allD_all (o : List Mv) (hd : ∀ m ∈ o, m.D < 12) : allD o 12 = o.length := by
  unfold allD
  congr 1
  rw [List.filter_eq_self]
  intro m hm
  have := hd m hm
  exact decide_eq_true (by omega)
theorem sumJ_le (o : List Mv) (d : Int) (j : Nat) : sumJ o d j ≤ o.length := List.length_filter_le _ _
theorem allD_le (o : List Mv) (d : Nat) : allD o d ≤ o.length := List.length_filter_le _ _

theorem counts_no (A : Option Addr) (c : Nat) (l : List Mv) (w : World) (hsz : ∀ m ∈ l, m.s.size ≤ 9223372036854775807) (hT : opE.Sl w A l) (h : ¬ Fine l) :
    Calls Try.prog 9 #[.slice A l.length c] w fun e w' => e = .returned (.bool true) ∧ Below w.heap.size w w' := by
  have C1 := fine_any A c l w hsz hT false ⟨fun e => (by cases e), fun k => absurd k h⟩
  go_enter Try.func9, Try.ntmps9
  go_wp2_with fail
  refine C1.mono ?_
  rintro e w1 ⟨rfl, hb1⟩
  go_wp2_with fail
  refine (awake_any _).mono ?_
  rintro e w2 ⟨rfl, hb2⟩
  go_wp2_with fail
  go_ret
  exact ⟨rfl, below_then hb1 hb2⟩

set_option maxRecDepth 100000 in
set_option maxHeartbeats 8000000 in
theorem counts_walk (A : Option Addr) (c : Nat) (l : List Mv) (w : World) (hsz : ∀ m ∈ l, m.s.size ≤ 9223372036854775807) (hT : opE.Sl w A l) (hf : Fine l) :
    Calls Try.prog 9 #[.slice A l.length c] w fun e w' => e = .returned (.bool true) ∧ Below w.heap.size w w' := by
  have C1 := fine_any A c l w hsz hT true ⟨fun _ => hf, fun _ => rfl⟩
  obtain ⟨hl, hok⟩ := hf
  have hI := (stG_inv hok [] l.length).1
  have hIl := (stG_inv hok [] l.length).2
  have CG := grown_any A c l none 0 []
  go_enter Try.func9, Try.ntmps9
  go_wp2_with fail
  refine C1.mono ?_
  rintro e w1 ⟨rfl, hb1⟩
  clear C1
  go_wp2_with fail
  refine (CG w1 hl hok (hT.below hb1) (El.Sl.nil w1 none) (fun t h => by cases h)).mono ?_
  rintro e w2 ⟨y, rfl, hy, hyv, hb2⟩
  rw [← hyv] at hI hIl
  have hB := below_then hb1 hb2
  clear hb1 hb2 CG hT hsz
  have hz : pwE.In (w2.alloc (.cells #[.slice none 0 0, .int .i64 0, .slice none 0 0, .slice none 0 0, .slice none 0 0] 29)) w2.heap.size Pw.zero := El.In.new (E := pwE) w2 Pw.zero #[.slice none 0 0, .int .i64 0, .slice none 0 0, .slice none 0 0, .slice none 0 0] rfl
  have hP := hz.set y #[.slice y.bA y.base.length y.bc, .int .i64 y.t, .slice y.oA y.ops.length y.oc, .slice y.uA y.us.length y.uc, .slice y.wA y.now.length y.wc] rfl
  have hbz : Below w2.heap.size w2 ((w2.alloc (.cells #[.slice none 0 0, .int .i64 0, .slice none 0 0, .slice none 0 0, .slice none 0 0] 29)).setRow w2.heap.size #[.slice y.bA y.base.length y.bc, .int .i64 y.t, .slice y.oA y.ops.length y.oc, .slice y.uA y.us.length y.uc, .slice y.wA y.now.length y.wc]) := below_setRow (below_alloc (Below.refl _ _) _) (Nat.le_refl _) _
  go_wp2_with (first | (refine El.store pwRow rfl _ _ rfl w2.heap.size y #[.slice y.bA y.base.length y.bc, .int .i64 y.t, .slice y.oA y.ops.length y.oc, .slice y.uA y.us.length y.uc, .slice y.wA y.now.length y.wc] rfl rfl rfl Pw.zero hz ?_) | fail)
  try simp only [Act.put, List.setIfInBounds_toArray, List.set_cons_zero, List.set_cons_succ]
  replace hy := hy.below hbz
  replace hB := below_then hB hbz
  generalize (w2.alloc (.cells #[.slice none 0 0, .int .i64 0, .slice none 0 0, .slice none 0 0, .slice none 0 0] 29)).setRow w2.heap.size #[.slice y.bA y.base.length y.bc, .int .i64 y.t, .slice y.oA y.ops.length y.oc, .slice y.uA y.us.length y.uc, .slice y.wA y.now.length y.wc] = W at *
  generalize w2.heap.size = n3 at *
  clear hz hbz hyv
  have hD : ∀ m ∈ y.ops, 0 ≤ m.D ∧ m.D < 12 := fun m hm => by have := ok_C (hI.ok m hm); omega
  have hol : y.ops.length ≤ 60 := by have h : y.ops = y.v.ops := rfl; rw [h]; omega
  clear hI hIl hok hl
  obtain ⟨bA, bc, base, t, oA, oc, ops, uA, uc, us, wA, wc, now⟩ := y
  simp only at hD hol
  have HD := Lib.hid hD
  clear hD
  go_loopw [5, 6] (fun xa yi wr => ∃ d : Nat, d ≤ 12 ∧ yi = .int .i64 d ∧ xa = .int .i64 (allD ops d) ∧ pwE.In wr n3 (⟨bA, bc, base, t, oA, oc, ops, uA, uc, us, wA, wc, now⟩ : Pw) ∧ PastOk wr (⟨bA, bc, base, t, oA, oc, ops, uA, uc, us, wA, wc, now⟩ : Pw) ∧ Below w.heap.size w wr) (fun _ yi _ => 12 - (intOf yi).toNat)
  case atStart => exact ⟨0, Nat.zero_le _, rfl, by rw [allD_zero ops (fun m hm => (HD.out m hm).1)]; rfl, hP, hy, hB⟩
  case round =>
    clear hP hy hB
    obtain ⟨d, hd, rfl, rfl, hP, hy, hB⟩ := hrel
    have hal := allD_le ops d
    by_cases hd12 : d < 12
    · go_wp2_with fail
      go_loopw [7, 8] (fun xn yj wr => ∃ i : Nat, i ≤ ops.length ∧ yj = .int .i64 i ∧ xn = .int .i64 (sumJ ops d i) ∧ pwE.In wr n3 (⟨bA, bc, base, t, oA, oc, ops, uA, uc, us, wA, wc, now⟩ : Pw) ∧ PastOk wr (⟨bA, bc, base, t, oA, oc, ops, uA, uc, us, wA, wc, now⟩ : Pw) ∧ Below w.heap.size w wr) (fun _ yj _ => ops.length - (intOf yj).toNat)
      case atStart => exact ⟨0, Nat.zero_le _, rfl, by rw [sumJ_zero]; rfl, hP, hy, hB⟩
      case round =>
        clear hP hy hB
        obtain ⟨i, hi, rfl, rfl, hP, hy, hB⟩ := hrel
        have hsl := sumJ_le ops d i
        have p2 := (pwIn5 hP).2.2.1
        simp only at p2
        by_cases hil : i < ops.length
        · obtain ⟨b, off, hoA, hbw, hc⟩ := hy.o.1 (show 0 < ops.length by omega)
          simp only at hoA hc
          have hat : opE.At wr b (off + i * 7) ops[i] := hc i hil
          have hsf := sumJ_first (o := ops) (d := d) hil
          have hso := sumJ_other (o := ops) (d := d) hil
          obtain ⟨m, hm⟩ : ∃ m, ops[i] = m := ⟨_, rfl⟩
          rw [hm] at hat hsf hso
          have HSF := Lib.hid hsf
          have HM := Lib.hid hm
          have HSO := Lib.hid hso
          subst hoA
          obtain ⟨t0, t1, t2, t3, t4, t5, t6⟩ := opAt hat
          have HC := Lib.hid hc
          have hbw2 := hbw
          clear hsf hso t0 t3 t4 t5 t6 hm hc
          by_cases hmd : m.D = d
          · have HMD := Lib.hid hmd
            have hmb : (m.D == (d : Int)) = true := by rw [hmd]; simp
            clear hmd
            go_wp2_with fail
            go_loopw [9, 10] (fun xf yk wr => ∃ k : Nat, k ≤ i ∧ yk = .int .i64 k ∧ xf = .bool (frst ops d m.I k) ∧ pwE.In wr n3 (⟨bA, bc, base, t, some ⟨b, off, none⟩, oc, ops, uA, uc, us, wA, wc, now⟩ : Pw) ∧ PastOk wr (⟨bA, bc, base, t, some ⟨b, off, none⟩, oc, ops, uA, uc, us, wA, wc, now⟩ : Pw) ∧ Below w.heap.size w wr) (fun _ yk _ => i - (intOf yk).toNat)
            case atStart => exact ⟨0, Nat.zero_le _, rfl, rfl, hP, hy, hB⟩
            case round =>
              clear hP hy hB p2 t1 t2 hat
              obtain ⟨k, hk, rfl, rfl, hP, hy, hB⟩ := hrel
              have p2 := (pwIn5 hP).2.2.1
              simp only at p2
              by_cases hki : k < i
              · have hnx := frst_next (o := ops) (d := d) (i := m.I) (show k < ops.length by omega)
                obtain ⟨b', off', e', hbw', hc'⟩ := hy.o.1 (show 0 < ops.length by omega)
                simp only [Option.some.injEq, Addr.mk.injEq, and_true] at e'
                obtain ⟨rfl, rfl⟩ := e'
                have hatk : opE.At wr b (off + k * 7) ops[k] := hc' k (show k < ops.length by omega)
                have hati : opE.At wr b (off + i * 7) ops[i] := hc' i hil
                rw [HM.out] at hati
                obtain ⟨mk, hmk⟩ : ∃ mk, ops[k]'(by omega) = mk := ⟨_, rfl⟩
                rw [hmk] at hatk hnx
                have HNX := Lib.hid hnx
                obtain ⟨u0, u1, u2, u3, u4, u5, u6⟩ := opAt hatk
                obtain ⟨v0, v1, v2, v3, v4, v5, v6⟩ := opAt hati
                clear hatk hati hc' u0 u3 u4 u5 u6 v0 v1 v3 v4 v5 v6 hmk hnx
                have hkl : k < ops.length := by omega
                cases hfk : frst ops d m.I k
                · rw [hfk] at HNX
                  have HNK := Lib.hid (show frst ops d m.I (k + 1) = false by rw [HNX.out]; rfl)
                  clear hfk
                  go_wp2_with fail
                  go_quiet (fail)
                  go_wp2_with fail
                  exact ⟨⟨k + 1, by omega, by go_num, by rw [HNK.out], hP, hy.below (below_drew (Below.refl _ _) _), hB.trans ((below_drew (Below.refl _ _) _).mono hB.size)⟩, by simp [intOf]; omega⟩
                · rw [hfk] at HNX
                  clear hfk
                  by_cases hkd : mk.D = d
                  · by_cases hki2 : mk.I = m.I
                    · have HNK := Lib.hid (show frst ops d m.I (k + 1) = false by rw [HNX.out, decide_eq_true ⟨hkd, hki2⟩]; rfl)
                      have g1 : (mk.D == (d : Int)) = true := by rw [hkd]; simp
                      have g1a : decide (mk.D = (d : Int)) = true := decide_eq_true hkd
                      have g1b : (mk.D != (d : Int)) = false := by rw [hkd]; simp
                      have g1c : decide (¬ mk.D = (d : Int)) = false := decide_eq_false (fun e => e hkd)
                      have g2 : (mk.I == m.I) = true := by rw [hki2]; simp
                      have g2a : decide (mk.I = m.I) = true := decide_eq_true hki2
                      have g2b : (mk.I != m.I) = false := by rw [hki2]; simp
                      have g2c : decide (¬ mk.I = m.I) = false := decide_eq_false (fun e => e hki2)
                      clear hkd hki2
                      go_wp2_with fail
                      go_quiet (fail)
                      go_wp2_with fail
                      exact ⟨⟨k + 1, by omega, by go_num, by rw [HNK.out], hP, hy.below (below_drew (Below.refl _ _) _), hB.trans ((below_drew (Below.refl _ _) _).mono hB.size)⟩, by simp [intOf]; omega⟩
                    · have HNK := Lib.hid (show frst ops d m.I (k + 1) = true by rw [HNX.out, decide_eq_false (fun h => hki2 h.2)]; rfl)
                      have g1 : (mk.D == (d : Int)) = true := by rw [hkd]; simp
                      have g1a : decide (mk.D = (d : Int)) = true := decide_eq_true hkd
                      have g1b : (mk.D != (d : Int)) = false := by rw [hkd]; simp
                      have g1c : decide (¬ mk.D = (d : Int)) = false := decide_eq_false (fun e => e hkd)
                      have g2 : (mk.I == m.I) = false := beq_eq_false_iff_ne.2 hki2
                      have g2a : decide (mk.I = m.I) = false := decide_eq_false hki2
                      have g2b : (mk.I != m.I) = true := bne_iff_ne.2 hki2
                      have g2c : decide (¬ mk.I = m.I) = true := decide_eq_true hki2
                      clear hkd hki2
                      go_wp2_with fail
                      go_quiet (fail)
                      go_wp2_with fail
                      exact ⟨⟨k + 1, by omega, by go_num, by rw [HNK.out], hP, hy.below (below_drew (Below.refl _ _) _), hB.trans ((below_drew (Below.refl _ _) _).mono hB.size)⟩, by simp [intOf]; omega⟩
                  · have HNK := Lib.hid (show frst ops d m.I (k + 1) = true by rw [HNX.out, decide_eq_false (fun h => hkd h.1)]; rfl)
                    have g1 : (mk.D == (d : Int)) = false := beq_eq_false_iff_ne.2 hkd
                    have g1a : decide (mk.D = (d : Int)) = false := decide_eq_false hkd
                    have g1b : (mk.D != (d : Int)) = true := bne_iff_ne.2 hkd
                    have g1c : decide (¬ mk.D = (d : Int)) = true := decide_eq_true hkd
                    clear hkd
                    go_wp2_with fail
                    go_quiet (fail)
                    go_wp2_with fail
                    exact ⟨⟨k + 1, by omega, by go_num, by rw [HNK.out], hP, hy.below (below_drew (Below.refl _ _) _), hB.trans ((below_drew (Below.refl _ _) _).mono hB.size)⟩, by simp [intOf]; omega⟩
              · obtain rfl : k = i := by omega
                obtain ⟨b', off', e', hbw', hc'⟩ := hy.o.1 (show 0 < ops.length by omega)
                simp only [Option.some.injEq, Addr.mk.injEq, and_true] at e'
                obtain ⟨rfl, rfl⟩ := e'
                have hati : opE.At wr b (off + k * 7) ops[k] := hc' k hil
                rw [HM.out] at hati
                have v2 := (opAt hati).2.2.1
                clear hati hc'
                cases hfk : frst ops d m.I k
                · have HNS := Lib.hid (HSO.out (fun h => by rw [hfk] at h; cases h.2))
                  clear hfk
                  go_wp2_with fail
                  exact ⟨⟨k + 1, by omega, by go_num, by rw [HNS.out], hP, hy, hB⟩, by simp [intOf]; omega⟩
                · have HNS := Lib.hid (HSF.out HMD.out hfk)
                  clear hfk
                  obtain ⟨N, hN⟩ : ∃ N, (ops.filter fun x : Mv => decide (x.D = (d : Int) ∧ x.I = m.I)).length = N := ⟨_, rfl⟩
                  have hNl : N ≤ 60 := by rw [← hN]; exact Nat.le_trans (List.length_filter_le _ _) hol
                  have hov : ownV (Pw.v (⟨bA, bc, base, t, some ⟨b, off, none⟩, oc, ops, uA, uc, us, wA, wc, now⟩ : Pw)) d m.I = N := hN
                  rw [hN] at HNS
                  have CO := fun wx (h : PastOk wx (⟨bA, bc, base, t, some ⟨b, off, none⟩, oc, ops, uA, uc, us, wA, wc, now⟩ : Pw)) => pOwn_any (⟨bA, bc, base, t, some ⟨b, off, none⟩, oc, ops, uA, uc, us, wA, wc, now⟩ : Pw) d m.I wx h (by simp only; omega)
                  rw [hov] at CO
                  simp only at CO
                  have HCO := Lib.hid CO
                  have d1 : ∀ dd os, Calls Try.prog 18 #[.agg #[.slice bA base.length bc, .int .i64 t, .slice (some ⟨b, off, none⟩) ops.length oc, .slice uA us.length uc, .slice wA now.length wc], .int .i64 d, .int .i64 m.I] (Sort.grow (redrawn wr dd) os) fun e w'' => e = .returned (.int .i64 N) ∧ ∃ p : Regrown, w'' = Sort.grow (redrawn wr p.d) p.os := fun dd os => Calls.regrown_of (HCO.out _ (hy.below (below_regrown wr dd os)))
                  obtain ⟨p0, p1, p2', p3, p4⟩ := pwIn5 hP
                  simp only at p0 p1 p2' p3 p4
                  have k0 := cell_regrown p0
                  have k1 := cell_regrown p1
                  have k2 := cell_regrown p2'
                  have k3 := cell_regrown p3
                  have k4 := cell_regrown p4
                  have k5 := cell_regrown v2
                  clear CO hov hN p0 p1 p2' p3 p4
                  go_wp2_with fail
                  refine wp_region_quiet_below (by kernel_rfl) (by kernel_rfl) ?_
                  repeat (go_big_quiet_step ((with_reducible (first | exact d1 _ _))))
                  refine wpQuiet_nil ?_
                  intro _ hw'
                  obtain ⟨⟨dq, osq⟩, hw''⟩ := hw'
                  subst hw''
                  have hq := below_regrown wr dq osq
                  replace hP := hP.below hq
                  replace hy := hy.below hq
                  replace hB := hB.trans (hq.mono hB.size)
                  generalize Sort.grow (redrawn wr dq) osq = W1 at *
                  clear d1 k0 k1 k2 k3 k4 k5 HCO
                  go_wp2_with fail
                  exact ⟨⟨k + 1, by omega, by go_num, by rw [HNS.out]; go_num, hP, hy, hB⟩, by simp [intOf]; omega⟩
          · have HMD := Lib.hid hmd
            have hmb : (m.D == (d : Int)) = false := by simpa using hmd
            clear hmd
            go_wp2_with fail
            go_loopw [9, 10] (fun xf yk wr => ∃ k : Nat, k ≤ i ∧ yk = .int .i64 k ∧ xf = .bool false ∧ pwE.In wr n3 (⟨bA, bc, base, t, some ⟨b, off, none⟩, oc, ops, uA, uc, us, wA, wc, now⟩ : Pw) ∧ PastOk wr (⟨bA, bc, base, t, some ⟨b, off, none⟩, oc, ops, uA, uc, us, wA, wc, now⟩ : Pw) ∧ Below w.heap.size w wr) (fun _ yk _ => i - (intOf yk).toNat)
            case atStart => exact ⟨0, Nat.zero_le _, rfl, rfl, hP, hy, hB⟩
            case round =>
              clear hP hy hB p2 t1 t2 hat
              obtain ⟨k, hk, rfl, rfl, hP, hy, hB⟩ := hrel
              by_cases hki : k < i
              · go_wp2_with fail
                go_quiet (fail)
                go_wp2_with fail
                exact ⟨⟨k + 1, by omega, by go_num, rfl, hP, hy.below (below_drew (Below.refl _ _) _), hB.trans ((below_drew (Below.refl _ _) _).mono hB.size)⟩, by simp [intOf]; omega⟩
              · obtain rfl : k = i := by omega
                have HNS := Lib.hid (HSO.out (fun h => HMD.out h.1))
                go_wp2_with fail
                exact ⟨⟨k + 1, by omega, by go_num, by rw [HNS.out], hP, hy, hB⟩, by simp [intOf]; omega⟩
        · obtain rfl : i = ops.length := by omega
          have CF := pOf_any (⟨bA, bc, base, t, oA, oc, ops, uA, uc, us, wA, wc, now⟩ : Pw) d wr hy (by simp only; omega)
          have hof : ofV (Pw.v (⟨bA, bc, base, t, oA, oc, ops, uA, uc, us, wA, wc, now⟩ : Pw)) d = sumJ ops d ops.length := (sumJ_all ops d).symm
          rw [hof] at CF
          simp only at CF
          have hnx := allD_next ops (fun m hm => (HD.out m hm).1) d
          rw [← sumJ_all] at hnx
          have HNX := Lib.hid hnx
          generalize sumJ ops d ops.length = SN at *
          have HCF := Lib.hid CF
          clear CF hof hnx
          go_wp2_with (first | (refine El.load pwRow rfl _ rfl n3 0 rfl (⟨bA, bc, base, t, oA, oc, ops, uA, uc, us, wA, wc, now⟩ : Pw) hP.at #[.slice bA base.length bc, .int .i64 t, .slice oA ops.length oc, .slice uA us.length uc, .slice wA now.length wc] rfl ?_) | (go_at_call 20; (with_reducible refine HCF.out.mono ?_); rintro e w9 ⟨rfl, hb9⟩))
          exact ⟨⟨d + 1, by omega, by go_num, by rw [HNX.out]; go_num, hP.below hb9, hy.below hb9, hB.trans (hb9.mono hB.size)⟩, by simp [intOf]; omega⟩
    · obtain rfl : d = 12 := by omega
      rw [allD_all ops (fun m hm => (HD.out m hm).2)] at *
      go_wp2_with fail
      refine (awake_any _).mono ?_
      rintro e w9 ⟨rfl, hb9⟩
      have p2 := (pwIn5 (hP.below hb9)).2.2.1
      simp only at p2
      go_wp2_with fail
      go_ret
      exact ⟨rfl, hB.trans (hb9.mono hB.size)⟩

set_option maxRecDepth 100000 in
theorem counts_lifted (os : Os) (started : os.Started) (H : Type) (enc : TypeId × Value → H) :
    ReturnsInHanded {} Try.checked os 9 .any (Rows.pastCountsSpec.pre6 enc Try.prog Try.f9 Rows.pastCountsRow.domain false) (Rows.pastCountsSpec.post enc Try.prog Try.f9 false true false false) := by
  refine returnsInHanded_of_change (C := Try.checked) own started (by kernel_rfl) Try.func9
    (ChangeSpec.witness6 (enc := enc) (C := Try.checked) false ⟨#[], #[.slice none 0 0], []⟩ 8 (by kernel_rfl) (by kernel_rfl) (by kernel_rfl) (by kernel_rfl)) ?_
  intro W base args ds gs before hval0 hW _ _
  have hval : ∀ (j : Nat) t v, Try.f9.params[j]? = some t → args[j]? = some v → Value.okWide Try.prog W .any base t v := hval0
  have hW' := hW
  obtain ⟨p, q, hA0, hV, rfl, _, _⟩ := hW
  have hA : DataW.TrodAll enc Try.prog W 0 (fun _ => true) true Try.f9.params.toList args.toList ds p := hA0
  rw [Try.params9] at hA hval
  obtain ⟨v0, d0, rfl, rfl, h0⟩ := trodAll_one hA
  obtain ⟨A, cap, l, rfl, hT, _, _, hw⟩ := open_ops (hval 0 22 v0 rfl rfl) h0
  have hc : Calls Try.prog 9 #[.slice A l.length cap] W fun e w' => e = .returned (.bool true) ∧ Below W.heap.size W w' := by
    by_cases hf : Fine l
    · exact counts_walk A cap l W (opsz hw) hT hf
    · exact counts_no A cap l W (opsz hw) hT hf
  refine hc.mono fun e W' ⟨he, hb⟩ => ?_
  subst he
  exact ⟨_, rfl, Frm.law_post (by kernel_rfl) (by kernel_rfl) (by kernel_rfl) Try.underlying4 rfl rfl hW' hb⟩

theorem counts_holds : Rows.PastCountsSaid :=
  OpenClaim.holds_of_wide 9 Try.f9 rfl rfl rfl rfl rfl rfl rfl ⟨rfl, rfl, rfl, rfl, rfl⟩ rfl rfl rfl rfl rfl (by kernel_rfl) Try.func9 (by kernel_rfl)
    (of_decide_eq_true (by kernel_rfl)) (by unfold Func.isWrapper; first | (rw [if_pos (by decide +kernel)]; kernel_rfl) | (rw [if_neg (by decide +kernel)]; exact ⟨rfl, rfl⟩))
    (fun os started H enc _ => counts_lifted os started H enc)
end Go.Proofs.Ytoidondngoljaaa
