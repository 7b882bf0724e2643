/- Texts laid one behind the other: Eh, Ei, Ej. -/
import Derived.Test.YtllgmkbmdnpnoaaB05
import Derived.Test.YtllgmkbmdnpnoaaRows
import Derived.Deep.RegionHeld3
/- EntryOrder, given the program's calls: entries that are unlike have unlike bytes. -/
namespace Go.Proofs.Ytllgmkbmdnpnoaa
open Go.ChangeShapes Go.WideShapes Go.ChangeAt Go.RowKit Go.Deep Nam Cod

theorem ent_short {e : En} (h : entB e = true) : e.o.s.size ≤ 1000000 := by
  by_cases h1 : e.k = 1
  · have := (opB_wide (entB_one h h1).2.2).2.2.1; omega
  · rw [(entB_two h h1).2.2]; exact Nat.zero_le _
set_option maxRecDepth 100000 in
set_option maxHeartbeats 2000000 in
theorem order11_no (H : EntryCalls) (a b : En) (w : World) (ha : a.o.s.size ≤ maxLen) (hb : b.o.s.size ≤ maxLen) (h : entB a = false ∨ entB a = true ∧ entB b = false) :
    Calls Try.prog 7 #[.agg #[.int .i64 a.k, .int .i64 a.d, .int .i64 a.i, .int .i64 a.o.C, .int .i64 a.o.D, .int .i64 a.o.I, .int .i64 a.o.M, .int .i64 a.o.K, .int .i64 a.o.U, .string a.o.s], .agg #[.int .i64 b.k, .int .i64 b.d, .int .i64 b.i, .int .i64 b.o.C, .int .i64 b.o.D, .int .i64 b.o.I, .int .i64 b.o.M, .int .i64 b.o.K, .int .i64 b.o.U, .string b.o.s]] w fun r w' => r = .returned (.bool true) ∧ Below w.heap.size w w' := by
  unfold maxLen at ha hb
  have HA := Lib.hid (fun (wx : World) => H.right a wx (by omega))
  have HB := Lib.hid (fun (wx : World) => H.right b wx (by omega))
  have hP : enE.In ((w.alloc (.cells #[.int .i64 a.k, .int .i64 a.d, .int .i64 a.i, .int .i64 a.o.C, .int .i64 a.o.D, .int .i64 a.o.I, .int .i64 a.o.M, .int .i64 a.o.K, .int .i64 a.o.U, .string a.o.s] 27)).alloc (.cells #[.int .i64 b.k, .int .i64 b.d, .int .i64 b.i, .int .i64 b.o.C, .int .i64 b.o.D, .int .i64 b.o.I, .int .i64 b.o.M, .int .i64 b.o.K, .int .i64 b.o.U, .string b.o.s] 27)) w.heap.size a := (El.In.new (E := enE) w a _ rfl).alloc _
  have hQ : enE.In ((w.alloc (.cells #[.int .i64 a.k, .int .i64 a.d, .int .i64 a.i, .int .i64 a.o.C, .int .i64 a.o.D, .int .i64 a.o.I, .int .i64 a.o.M, .int .i64 a.o.K, .int .i64 a.o.U, .string a.o.s] 27)).alloc (.cells #[.int .i64 b.k, .int .i64 b.d, .int .i64 b.i, .int .i64 b.o.C, .int .i64 b.o.D, .int .i64 b.o.I, .int .i64 b.o.M, .int .i64 b.o.K, .int .i64 b.o.U, .string b.o.s] 27)) (w.alloc (.cells #[.int .i64 a.k, .int .i64 a.d, .int .i64 a.i, .int .i64 a.o.C, .int .i64 a.o.D, .int .i64 a.o.I, .int .i64 a.o.M, .int .i64 a.o.K, .int .i64 a.o.U, .string a.o.s] 27)).heap.size b := El.In.new (E := enE) (w.alloc (.cells #[.int .i64 a.k, .int .i64 a.d, .int .i64 a.i, .int .i64 a.o.C, .int .i64 a.o.D, .int .i64 a.o.I, .int .i64 a.o.M, .int .i64 a.o.K, .int .i64 a.o.U, .string a.o.s] 27)) b _ rfl
  rw [alloc_size] at hQ
  have hB := below_alloc (below_alloc (Below.refl w.heap.size w) (.cells #[.int .i64 a.k, .int .i64 a.d, .int .i64 a.i, .int .i64 a.o.C, .int .i64 a.o.D, .int .i64 a.o.I, .int .i64 a.o.M, .int .i64 a.o.K, .int .i64 a.o.U, .string a.o.s] 27)) (.cells #[.int .i64 b.k, .int .i64 b.d, .int .i64 b.i, .int .i64 b.o.C, .int .i64 b.o.D, .int .i64 b.o.I, .int .i64 b.o.M, .int .i64 b.o.K, .int .i64 b.o.U, .string b.o.s] 27)
  rcases h with h | ⟨h, h2⟩
  · rw [h] at HA
    clear ha hb h
    obtain ⟨p0, p1, p2, p3, p4, p5, p6, p7, p8, p9⟩ := enIn10 hP
    obtain ⟨q0, q1, q2, q3, q4, q5, q6, q7, q8, q9⟩ := enIn10 hQ
    go_enter Try.func7, Try.ntmps7
    go_wp2_with fail
    generalize (w.alloc (.cells #[.int .i64 a.k, .int .i64 a.d, .int .i64 a.i, .int .i64 a.o.C, .int .i64 a.o.D, .int .i64 a.o.I, .int .i64 a.o.M, .int .i64 a.o.K, .int .i64 a.o.U, .string a.o.s] 27)).alloc (.cells #[.int .i64 b.k, .int .i64 b.d, .int .i64 b.i, .int .i64 b.o.C, .int .i64 b.o.D, .int .i64 b.o.I, .int .i64 b.o.M, .int .i64 b.o.K, .int .i64 b.o.U, .string b.o.s] 27) = W0 at *
    obtain ⟨n2, hn2⟩ : ∃ n, w.heap.size + 1 = n := ⟨_, rfl⟩
    obtain ⟨n1, hn1⟩ : ∃ n, w.heap.size = n := ⟨_, rfl⟩
    rw [hn2] at hQ ⊢
    rw [hn1] at hP ⊢
    clear hn1 hn2
    refine (HA.out _).mono ?_
    rintro r w1 ⟨rfl, hb1⟩
    replace hB := hB.trans (hb1.mono hB.size)
    clear p0 p1 p2 p3 p4 p5 p6 p7 p8 p9 q0 q1 q2 q3 q4 q5 q6 q7 q8 q9
    go_wp2_with fail
    refine (awake11_any H _).mono ?_
    rintro r w2 ⟨rfl, hb2⟩
    replace hB := hB.trans (hb2.mono hB.size)
    go_wp2_with fail
    go_ret
    exact ⟨rfl, hB⟩
  · rw [h] at HA
    rw [h2] at HB
    clear ha hb h h2
    obtain ⟨p0, p1, p2, p3, p4, p5, p6, p7, p8, p9⟩ := enIn10 hP
    obtain ⟨q0, q1, q2, q3, q4, q5, q6, q7, q8, q9⟩ := enIn10 hQ
    go_enter Try.func7, Try.ntmps7
    go_wp2_with fail
    generalize (w.alloc (.cells #[.int .i64 a.k, .int .i64 a.d, .int .i64 a.i, .int .i64 a.o.C, .int .i64 a.o.D, .int .i64 a.o.I, .int .i64 a.o.M, .int .i64 a.o.K, .int .i64 a.o.U, .string a.o.s] 27)).alloc (.cells #[.int .i64 b.k, .int .i64 b.d, .int .i64 b.i, .int .i64 b.o.C, .int .i64 b.o.D, .int .i64 b.o.I, .int .i64 b.o.M, .int .i64 b.o.K, .int .i64 b.o.U, .string b.o.s] 27) = W0 at *
    obtain ⟨n2, hn2⟩ : ∃ n, w.heap.size + 1 = n := ⟨_, rfl⟩
    obtain ⟨n1, hn1⟩ : ∃ n, w.heap.size = n := ⟨_, rfl⟩
    rw [hn2] at hQ ⊢
    rw [hn1] at hP ⊢
    clear hn1 hn2
    refine (HA.out _).mono ?_
    rintro r w1 ⟨rfl, hb1⟩
    replace hP := hP.below hb1
    replace hQ := hQ.below hb1
    replace hB := hB.trans (hb1.mono hB.size)
    clear p0 p1 p2 p3 p4 p5 p6 p7 p8 p9 q0 q1 q2 q3 q4 q5 q6 q7 q8 q9
    obtain ⟨p0, p1, p2, p3, p4, p5, p6, p7, p8, p9⟩ := enIn10 hP
    obtain ⟨q0, q1, q2, q3, q4, q5, q6, q7, q8, q9⟩ := enIn10 hQ
    go_wp2_with fail
    refine (HB.out _).mono ?_
    rintro r w2 ⟨rfl, hb2⟩
    replace hB := hB.trans (hb2.mono hB.size)
    clear p0 p1 p2 p3 p4 p5 p6 p7 p8 p9 q0 q1 q2 q3 q4 q5 q6 q7 q8 q9
    go_wp2_with fail
    refine (awake11_any H _).mono ?_
    rintro r w3 ⟨rfl, hb3⟩
    replace hB := hB.trans (hb3.mono hB.size)
    go_wp2_with fail
    go_ret
    exact ⟨rfl, hB⟩

set_option maxRecDepth 100000 in
set_option maxHeartbeats 4000000 in
theorem order11_yes (H : EntryCalls) (a b : En) (w : World) (ha : entB a = true) (hb : entB b = true) (hwa : EnW a) (hwb : EnW b) (hsa : a.o.s.size ≤ 1000000) (hsb : b.o.s.size ≤ 1000000) :
    Calls Try.prog 7 #[.agg #[.int .i64 a.k, .int .i64 a.d, .int .i64 a.i, .int .i64 a.o.C, .int .i64 a.o.D, .int .i64 a.o.I, .int .i64 a.o.M, .int .i64 a.o.K, .int .i64 a.o.U, .string a.o.s], .agg #[.int .i64 b.k, .int .i64 b.d, .int .i64 b.i, .int .i64 b.o.C, .int .i64 b.o.D, .int .i64 b.o.I, .int .i64 b.o.M, .int .i64 b.o.K, .int .i64 b.o.U, .string b.o.s]] w fun r w' => r = .returned (.bool true) ∧ Below w.heap.size w w' := by
  have HA := Lib.hid (fun (wx : World) => H.right a wx (by omega))
  have HB := Lib.hid (fun (wx : World) => H.right b wx (by omega))
  have HPA := Lib.hid (fun (wx : World) => H.print a wx hwa hsa)
  have HPB := Lib.hid (fun (wx : World) => H.print b wx hwb hsb)
  have HW := Lib.hid (fun (wx : World) => awake11_any H wx)
  rw [ha] at HA
  rw [hb] at HB
  have q := run_eqEn
  have hiff := @eprint_inj a b ha hb
  have heq := @enEq_iff a b
  have hP : enE.In ((w.alloc (.cells #[.int .i64 a.k, .int .i64 a.d, .int .i64 a.i, .int .i64 a.o.C, .int .i64 a.o.D, .int .i64 a.o.I, .int .i64 a.o.M, .int .i64 a.o.K, .int .i64 a.o.U, .string a.o.s] 27)).alloc (.cells #[.int .i64 b.k, .int .i64 b.d, .int .i64 b.i, .int .i64 b.o.C, .int .i64 b.o.D, .int .i64 b.o.I, .int .i64 b.o.M, .int .i64 b.o.K, .int .i64 b.o.U, .string b.o.s] 27)) w.heap.size a := (El.In.new (E := enE) w a _ rfl).alloc _
  have hQ : enE.In ((w.alloc (.cells #[.int .i64 a.k, .int .i64 a.d, .int .i64 a.i, .int .i64 a.o.C, .int .i64 a.o.D, .int .i64 a.o.I, .int .i64 a.o.M, .int .i64 a.o.K, .int .i64 a.o.U, .string a.o.s] 27)).alloc (.cells #[.int .i64 b.k, .int .i64 b.d, .int .i64 b.i, .int .i64 b.o.C, .int .i64 b.o.D, .int .i64 b.o.I, .int .i64 b.o.M, .int .i64 b.o.K, .int .i64 b.o.U, .string b.o.s] 27)) (w.alloc (.cells #[.int .i64 a.k, .int .i64 a.d, .int .i64 a.i, .int .i64 a.o.C, .int .i64 a.o.D, .int .i64 a.o.I, .int .i64 a.o.M, .int .i64 a.o.K, .int .i64 a.o.U, .string a.o.s] 27)).heap.size b := El.In.new (E := enE) (w.alloc (.cells #[.int .i64 a.k, .int .i64 a.d, .int .i64 a.i, .int .i64 a.o.C, .int .i64 a.o.D, .int .i64 a.o.I, .int .i64 a.o.M, .int .i64 a.o.K, .int .i64 a.o.U, .string a.o.s] 27)) b _ rfl
  rw [alloc_size] at hQ
  have hB := below_alloc (below_alloc (Below.refl w.heap.size w) (.cells #[.int .i64 a.k, .int .i64 a.d, .int .i64 a.i, .int .i64 a.o.C, .int .i64 a.o.D, .int .i64 a.o.I, .int .i64 a.o.M, .int .i64 a.o.K, .int .i64 a.o.U, .string a.o.s] 27)) (.cells #[.int .i64 b.k, .int .i64 b.d, .int .i64 b.i, .int .i64 b.o.C, .int .i64 b.o.D, .int .i64 b.o.I, .int .i64 b.o.M, .int .i64 b.o.K, .int .i64 b.o.U, .string b.o.s] 27)
  obtain ⟨eb, heb⟩ : ∃ eb, enEq a.k a.d a.i a.o.C a.o.D a.o.I a.o.M a.o.K a.o.U a.o.s b.k b.d b.i b.o.C b.o.D b.o.I b.o.M b.o.K b.o.U b.o.s = eb := ⟨_, rfl⟩
  rw [heb] at heq
  have hSS : (entBytes a).toList = (entBytes b).toList ↔ eb = true := by
    rw [toList_iff, heq]
    exact ⟨hiff, fun h => by rw [h]⟩
  clear hiff heq ha hb hwa hwb hsa hsb
  generalize entBytes a = S1 at *
  generalize entBytes b = S2 at *
  obtain ⟨sb, hsb⟩ : ∃ sb, (S1.toList == S2.toList) = sb := ⟨_, rfl⟩
  have hse : sb = eb := by
    rw [← hsb, Bool.eq_iff_iff, beq_iff_eq]
    exact hSS
  subst hse
  clear hSS
  obtain ⟨p0, p1, p2, p3, p4, p5, p6, p7, p8, p9⟩ := enIn10 hP
  obtain ⟨q0, q1, q2, q3, q4, q5, q6, q7, q8, q9⟩ := enIn10 hQ
  go_enter Try.func7, Try.ntmps7
  go_wp2_with fail
  generalize (w.alloc (.cells #[.int .i64 a.k, .int .i64 a.d, .int .i64 a.i, .int .i64 a.o.C, .int .i64 a.o.D, .int .i64 a.o.I, .int .i64 a.o.M, .int .i64 a.o.K, .int .i64 a.o.U, .string a.o.s] 27)).alloc (.cells #[.int .i64 b.k, .int .i64 b.d, .int .i64 b.i, .int .i64 b.o.C, .int .i64 b.o.D, .int .i64 b.o.I, .int .i64 b.o.M, .int .i64 b.o.K, .int .i64 b.o.U, .string b.o.s] 27) = W0 at *
  obtain ⟨n2, hn2⟩ : ∃ n, w.heap.size + 1 = n := ⟨_, rfl⟩
  obtain ⟨n1, hn1⟩ : ∃ n, w.heap.size = n := ⟨_, rfl⟩
  rw [hn2] at hQ ⊢
  rw [hn1] at hP ⊢
  clear hn1 hn2
  refine (HA.out _).mono ?_
  rintro r w1 ⟨rfl, hb1⟩
  replace hP := hP.below hb1
  replace hQ := hQ.below hb1
  replace hB := hB.trans (hb1.mono hB.size)
  clear hb1 HA
  clear p0 p1 p2 p3 p4 p5 p6 p7 p8 p9 q0 q1 q2 q3 q4 q5 q6 q7 q8 q9
  obtain ⟨p0, p1, p2, p3, p4, p5, p6, p7, p8, p9⟩ := enIn10 hP
  obtain ⟨q0, q1, q2, q3, q4, q5, q6, q7, q8, q9⟩ := enIn10 hQ
  go_wp2_with fail
  refine (HB.out _).mono ?_
  rintro r w2 ⟨rfl, hb2⟩
  replace hP := hP.below hb2
  replace hQ := hQ.below hb2
  replace hB := hB.trans (hb2.mono hB.size)
  clear hb2 HB
  clear p0 p1 p2 p3 p4 p5 p6 p7 p8 p9 q0 q1 q2 q3 q4 q5 q6 q7 q8 q9
  go_wp2_with fail
  replace hP : enE.In w2.drew n1 a := hP
  replace hQ : enE.In w2.drew n2 b := hQ
  replace hB := hB.drew
  go_region_held3 (fun w' => (w'.cell? ⟨n1, 0, none⟩ = some (.int .i64 a.k) ∧ w'.cell? ⟨n1, 1, none⟩ = some (.int .i64 a.d) ∧ w'.cell? ⟨n1, 2, none⟩ = some (.int .i64 a.i) ∧ w'.cell? ⟨n1, 3, none⟩ = some (.int .i64 a.o.C) ∧ w'.cell? ⟨n1, 4, none⟩ = some (.int .i64 a.o.D) ∧ w'.cell? ⟨n1, 5, none⟩ = some (.int .i64 a.o.I) ∧ w'.cell? ⟨n1, 6, none⟩ = some (.int .i64 a.o.M) ∧ w'.cell? ⟨n1, 7, none⟩ = some (.int .i64 a.o.K) ∧ w'.cell? ⟨n1, 8, none⟩ = some (.int .i64 a.o.U) ∧ w'.cell? ⟨n1, 9, none⟩ = some (.string a.o.s)) ∧ (w'.cell? ⟨n2, 0, none⟩ = some (.int .i64 b.k) ∧ w'.cell? ⟨n2, 1, none⟩ = some (.int .i64 b.d) ∧ w'.cell? ⟨n2, 2, none⟩ = some (.int .i64 b.i) ∧ w'.cell? ⟨n2, 3, none⟩ = some (.int .i64 b.o.C) ∧ w'.cell? ⟨n2, 4, none⟩ = some (.int .i64 b.o.D) ∧ w'.cell? ⟨n2, 5, none⟩ = some (.int .i64 b.o.I) ∧ w'.cell? ⟨n2, 6, none⟩ = some (.int .i64 b.o.M) ∧ w'.cell? ⟨n2, 7, none⟩ = some (.int .i64 b.o.K) ∧ w'.cell? ⟨n2, 8, none⟩ = some (.int .i64 b.o.U) ∧ w'.cell? ⟨n2, 9, none⟩ = some (.string b.o.s))) (with_reducible exact ⟨enIn10 hP, enIn10 hQ⟩) (first | (go_at_call 8; (with_reducible refine (HW.out _).mono ?_); rintro r w4 ⟨rfl, hb4⟩; have hP := hP.below hb4; have hQ := hQ.below hb4; have hB := hB.trans (hb4.mono hB.size)) | (go_at_call 11; (with_reducible first | refine (HPA.out _).mono ?_ | refine (HPB.out _).mono ?_); rintro r w4 ⟨rfl, hb4⟩; have hP := hP.below hb4; have hQ := hQ.below hb4; have hB := hB.trans (hb4.mono hB.size)))
  go_wp2_with fail
  go_ret
  exact ⟨rfl, hB⟩
set_option maxRecDepth 100000 in
theorem order11_lifted (H0 : EntryCalls) (os : Os) (started : os.Started) (H : Type) (enc : TypeId × Value → H) :
    ReturnsInHanded {} Try.checked os 7 .any (Rows.entryOrderSpec.pre6 enc Try.prog Try.f7 Rows.entryOrderRow.domain false) (Rows.entryOrderSpec.post enc Try.prog Try.f7 false true false false) := by
  refine returnsInHanded_of_change (C := Try.checked) own started (by kernel_rfl) Try.func7
    (ChangeSpec.witness6 (enc := enc) (C := Try.checked) false ⟨#[], #[.agg #[.int .i64 0, .int .i64 0, .int .i64 0, .int .i64 0, .int .i64 0, .int .i64 0, .int .i64 0, .int .i64 0, .int .i64 0, .string ⟨#[]⟩], .agg #[.int .i64 0, .int .i64 0, .int .i64 0, .int .i64 0, .int .i64 0, .int .i64 0, .int .i64 0, .int .i64 0, .int .i64 0, .string ⟨#[]⟩]], []⟩ 8 (by kernel_rfl) (by kernel_rfl) (by kernel_rfl) (by kernel_rfl)) ?_
  intro W base args ds gs before hval0 hW _ _
  have hval : ∀ (j : Nat) t v, Try.f7.params[j]? = some t → args[j]? = some v → Value.okWide Try.prog W .any base t v := hval0
  have hW' := hW
  obtain ⟨p, q, hA0, hV, rfl, _, _⟩ := hW
  have hA : DataW.TrodAll enc Try.prog W 0 (fun _ => true) true Try.f7.params.toList args.toList ds p := hA0
  rw [Try.params7] at hA hval
  obtain ⟨v0, v1, d0, d1, p0, p1, rfl, rfl, rfl, h0, h1⟩ := trodAll_two hA
  obtain ⟨a, rfl, hwa, hsa⟩ := open_en (hval 0 27 v0 rfl rfl) h0
  obtain ⟨b, rfl, hwb, hsb⟩ := open_en (hval 1 27 v1 rfl rfl) h1
  have hc : Calls Try.prog 7 #[.agg #[.int .i64 a.k, .int .i64 a.d, .int .i64 a.i, .int .i64 a.o.C, .int .i64 a.o.D, .int .i64 a.o.I, .int .i64 a.o.M, .int .i64 a.o.K, .int .i64 a.o.U, .string a.o.s], .agg #[.int .i64 b.k, .int .i64 b.d, .int .i64 b.i, .int .i64 b.o.C, .int .i64 b.o.D, .int .i64 b.o.I, .int .i64 b.o.M, .int .i64 b.o.K, .int .i64 b.o.U, .string b.o.s]] W fun e w' => e = .returned (.bool true) ∧ Below W.heap.size W w' := by
    cases ha : entB a with
    | false => exact order11_no H0 a b W hsa hsb (Or.inl ha)
    | true => cases hb : entB b with
      | false => exact order11_no H0 a b W hsa hsb (Or.inr ⟨ha, hb⟩)
      | true => exact order11_yes H0 a b W ha hb hwa hwb (ent_short ha) (ent_short hb)
  refine hc.mono fun e W' ⟨he, hb⟩ => ?_
  subst he
  exact ⟨_, rfl, Frm.law_post (by kernel_rfl) (by kernel_rfl) (by kernel_rfl) Try.underlying4 rfl rfl hW' hb⟩

theorem order11_holds (H0 : EntryCalls) : Rows.EntryOrderSaid :=
  OpenClaim.holds_of_wide 7 Try.f7 rfl rfl rfl rfl rfl rfl rfl ⟨rfl, rfl, rfl, rfl, rfl⟩ rfl rfl rfl rfl rfl (by kernel_rfl) Try.func7 (by kernel_rfl)
    (of_decide_eq_true (by kernel_rfl)) (by unfold Func.isWrapper; first | (rw [if_pos (by decide +kernel)]; kernel_rfl) | (rw [if_neg (by decide +kernel)]; exact ⟨rfl, rfl⟩))
    (fun os started H enc _ => order11_lifted H0 os started H enc)
end Go.Proofs.Ytllgmkbmdnpnoaa

/- EntryBack, given the program's calls: entries that may be, one behind the other, are read as they were; what is read of bytes has just these. -/
namespace Go.Proofs.Ytllgmkbmdnpnoaa
open Go.ChangeShapes Go.WideShapes Go.ChangeAt Go.RowKit Go.Deep Nam Cod

theorem entRead_yes (H : EntryCalls) {w : World} {b p : Nat} {s : ByteArray} {bad : Bool} {x : En} {q : Nat} (hs : s.size ≤ 1000000) (hp : p ≤ s.size) (hr : Rd 41 w b s p bad) (h : isEnt s p bad = some (x, q)) :
    Calls Try.prog 18 #[.pointer (some ⟨b, 0, none⟩)] w fun r w' => r = .returned (.agg #[.int .i64 x.k, .int .i64 x.d, .int .i64 x.i, .int .i64 x.o.C, .int .i64 x.o.D, .int .i64 x.o.I, .int .i64 x.o.M, .int .i64 x.o.K, .int .i64 x.o.U, .string x.o.s]) ∧ Rd 41 w' b s q false ∧ w.grownBy w' (some b) := by
  refine (H.read w b p s bad hs hp hr).mono ?_
  rintro e w' ⟨x', q', bad', rfl, hr', hq, hg, st⟩
  rcases st with ⟨h', rfl⟩ | ⟨h', _⟩
  · rw [h] at h'; cases h'
    exact ⟨rfl, hr', hg⟩
  · rw [h] at h'; cases h'
theorem ent_wide {e : En} (h : entB e = true) : EnW e := by
  by_cases h1 : e.k = 1
  · obtain ⟨h2, h3, h4⟩ := entB_one h h1
    exact ⟨i64_of (by omega), i64_of (by omega), i64_of (by omega), (opB_wide h4).1⟩
  · obtain ⟨h2, h3, h4⟩ := entB_two h h1
    refine ⟨i64_of (by omega), i64_of (by omega), i64_of (by omega), ?_⟩
    rw [h4]
    exact ⟨i64_0, i64_0, i64_0, i64_0, i64_0, i64_0⟩
theorem enIdx {A : Option Addr} {b off len cap k : Nat} (hA : A = some ⟨b, off, none⟩) (h : k < len) : ∀ w, (Instr.indexAt 38 (.slice A len cap) (.int .i64 k)).run Try.prog w = .ok (.pointer (some ⟨b, off + k * 10, none⟩)) w := fun w => by
  subst hA
  have h2 : (k : Int) < (len : Int) := by omega
  go_simp
theorem enAt10 {w : World} {b o : Nat} {x : En} (h : enE.At w b o x) : w.cell? ⟨b, o, none⟩ = some (.int .i64 x.k) ∧ w.cell? ⟨b, o + 1, none⟩ = some (.int .i64 x.d) ∧ w.cell? ⟨b, o + 2, none⟩ = some (.int .i64 x.i) ∧ w.cell? ⟨b, o + 3, none⟩ = some (.int .i64 x.o.C) ∧ w.cell? ⟨b, o + 4, none⟩ = some (.int .i64 x.o.D) ∧ w.cell? ⟨b, o + 5, none⟩ = some (.int .i64 x.o.I) ∧ w.cell? ⟨b, o + 6, none⟩ = some (.int .i64 x.o.M) ∧ w.cell? ⟨b, o + 7, none⟩ = some (.int .i64 x.o.K) ∧ w.cell? ⟨b, o + 8, none⟩ = some (.int .i64 x.o.U) ∧ w.cell? ⟨b, o + 9, none⟩ = some (.string x.o.s) :=
  ⟨h 0 _ rfl, h 1 _ rfl, h 2 _ rfl, h 3 _ rfl, h 4 _ rfl, h 5 _ rfl, h 6 _ rfl, h 7 _ rfl, h 8 _ rfl, h 9 _ rfl⟩

set_option maxRecDepth 100000 in
theorem back11_long (H : EntryCalls) (A : Option Addr) (len cap : Nat) (s : ByteArray) (w : World) (h : 50 < len ∨ 1000 < s.size) (hs : s.size ≤ maxLen) :
    Calls Try.prog 5 #[.slice A len cap, .string s] w fun e w' => e = .returned (.bool true) ∧ Below w.heap.size w w' := by
  unfold maxLen at hs
  by_cases h1 : 50 < len
  · clear h
    go_enter Try.func5, Try.ntmps5
    go_wp2_with fail
    refine (awake11_any H _).mono ?_
    rintro r w1 ⟨rfl, hb1⟩
    go_wp2_with fail
    go_ret
    exact ⟨rfl, hb1⟩
  · have h2 : 1000 < s.size := by omega
    clear h
    go_enter Try.func5, Try.ntmps5
    go_wp2_with fail
    refine (awake11_any H _).mono ?_
    rintro r w1 ⟨rfl, hb1⟩
    go_wp2_with fail
    go_ret
    exact ⟨rfl, hb1⟩

set_option maxRecDepth 100000 in
set_option maxHeartbeats 4000000 in
theorem back11_walk (H : EntryCalls) (A : Option Addr) (cap : Nat) (l : List En) (Z : ByteArray) (w : World) (hl : l.length ≤ 50) (hs : Z.size ≤ 1000) (hw : ∀ e ∈ l, EnW e ∧ e.o.s.size ≤ maxLen) (hT : enE.Sl w A l) :
    Calls Try.prog 5 #[.slice A l.length cap, .string Z] w fun e w' => e = .returned (.bool true) ∧ Below w.heap.size w w' := by
  have HT := Lib.hid hT
  have HW := Lib.hid hw
  clear hT hw
  go_enter Try.func5, Try.ntmps5
  go_wp2_with fail
  go_loopw [5, 6] (fun v i wr => ∃ k : Nat, k ≤ l.length ∧ i = .int .i64 k ∧ v = .string (ecat (l.take k)) ∧ Hid (∀ j (h : j < l.length), j < k → entB l[j] = true) ∧ Below w.heap.size w wr) (fun _ i _ => l.length - (intOf i).toNat)
  case atStart => exact ⟨0, Nat.zero_le _, rfl, rfl, Lib.hid (fun j _ h => absurd h (Nat.not_lt_zero j)), Below.refl _ _⟩
  case round =>
    obtain ⟨k, hk, rfl, rfl, hok, hN⟩ := hrel
    by_cases hkl : k < l.length
    · obtain ⟨b, off, eA, hbw, hc⟩ := HT.out (by omega)
      have hx := enIdx (cap := cap) eA hkl
      have hat : enE.At wr b (off + k * 10) l[k] := (hc k hkl).below hN hbw
      obtain ⟨hwd, hsz⟩ := HW.out l[k] (List.getElem_mem _)
      have hcn := ecat_next l k hkl
      have hle : (ecat (l.take k)).size ≤ 96 * (l.take k).length := ecat_le _ (fun e he => by
        obtain ⟨j, hj, rfl⟩ := List.getElem_of_mem he
        rw [List.length_take] at hj
        rw [List.getElem_take]
        exact hok.out j (by omega) (by omega))
      rw [List.length_take] at hle
      have HOK := Lib.hid (fun (h : entB l[k] = true) => (fun j hj hjk => by
        by_cases e : j = k
        · subst e; exact h
        · exact hok.out j hj (by omega) : ∀ j (h : j < l.length), j < k + 1 → entB l[j] = true))
      have hbr := Nat.lt_of_lt_of_le hbw hN.size
      generalize l[k] = x at *
      unfold maxLen at hsz
      have HR := Lib.hid (fun wx => H.right x wx (by omega))
      have HCN := Lib.hid hcn
      clear hc eA hok hcn
      cases hb : entB x
      · rw [hb] at HR
        clear hb HOK HCN
        obtain ⟨s0, s1, s2, s3, s4, s5, s6, s7, s8, s9⟩ := enAt10 hat
        go_wp2_with (first | (refine El.load enRow rfl _ rfl b (off + k * 10) rfl x hat #[.int .i64 x.k, .int .i64 x.d, .int .i64 x.i, .int .i64 x.o.C, .int .i64 x.o.D, .int .i64 x.o.I, .int .i64 x.o.M, .int .i64 x.o.K, .int .i64 x.o.U, .string x.o.s] rfl ?_) | fail)
        refine (HR.out _).mono ?_
        rintro r w1 ⟨rfl, hb1⟩
        clear s0 s1 s2 s3 s4 s5 s6 s7 s8 s9
        go_wp2_with fail
        refine (awake11_any H _).mono ?_
        rintro r w2 ⟨rfl, hb2⟩
        go_wp2_with fail
        go_ret
        exact ⟨rfl, below_then (below_then hN hb1) hb2⟩
      · rw [hb] at HR
        have HP := Lib.hid (fun wx => H.print x wx hwd (ent_short hb))
        have hxl := ent_le hb
        have HOK1 := Lib.hid (HOK.out hb)
        clear hb HOK
        generalize entBytes x = P at *
        generalize ecat (l.take k) = T at *
        go_wp2_with (first | (refine El.load enRow rfl _ rfl b (off + k * 10) rfl x hat #[.int .i64 x.k, .int .i64 x.d, .int .i64 x.i, .int .i64 x.o.C, .int .i64 x.o.D, .int .i64 x.o.I, .int .i64 x.o.M, .int .i64 x.o.K, .int .i64 x.o.U, .string x.o.s] rfl ?_) | fail)
        refine (HR.out _).mono ?_
        rintro r w1 ⟨rfl, hb1⟩
        have hN1 := below_then hN hb1
        have hat1 := hat.below hb1 hbr
        clear hat hb1 HR
        go_wp2_with (first | (refine El.load enRow rfl _ rfl b (off + k * 10) rfl x hat1 #[.int .i64 x.k, .int .i64 x.d, .int .i64 x.i, .int .i64 x.o.C, .int .i64 x.o.D, .int .i64 x.o.I, .int .i64 x.o.M, .int .i64 x.o.K, .int .i64 x.o.U, .string x.o.s] rfl ?_) | fail)
        refine (HP.out _).mono ?_
        rintro r w2 ⟨rfl, hb2⟩
        go_wp2_with fail
        exact ⟨⟨k + 1, by omega, by go_num, by rw [HCN.out], HOK1, below_then hN1 hb2⟩, by simp [intOf]; omega⟩
    · obtain rfl : k = l.length := by omega
      have hle : (ecat l).size ≤ 96 * l.length := ecat_le _ (fun e he => by
        obtain ⟨j, hj, rfl⟩ := List.getElem_of_mem he
        exact hok.out j hj hj)
      have HAT := Lib.hid (fun k (h : k < l.length) => ecat_at l k h (hok.out k h h))
      have HPS := Lib.hid (fun k => ecat_pos l k)
      rw [List.take_length]
      have hpe : (ecat (l.take l.length)).size = (ecat l).size := by rw [List.take_length]
      have HPE := Lib.hid hpe
      clear hkl hok hpe
      have hr0 := Rd.new wr 41 (ecat l) 0 rfl
      have hB0 := below_alloc hN (.cells #[.string (ecat l), .int .i64 0, .bool false] 41)
      have hsz2 : w.heap.size ≤ wr.heap.size := hN.size
      have hRs : (ecat l).size ≤ 1000000 := by omega
      have HP0 := Lib.hid (show (ecat (l.take 0)).size = 0 from rfl)
      generalize ecat l = R at *
      go_wp2_with fail
      generalize wr.alloc (.cells #[.string R, .int .i64 0, .bool false] 41) = W0 at *
      obtain ⟨B, hB⟩ : ∃ B, wr.heap.size = B := ⟨_, rfl⟩
      rw [hB] at hr0 hsz2 ⊢
      clear hB hN
      go_loopw [8] (fun i wr => ∃ n : Nat, n ≤ l.length ∧ i = .int .i64 n ∧ Rd 41 wr B R (ecat (l.take n)).size false ∧ Below w.heap.size w wr) (fun i _ => l.length - (intOf i).toNat)
      case atStart => exact ⟨0, Nat.zero_le _, rfl, by rw [HP0.out]; exact hr0, hB0⟩
      case round =>
        clear hr0 hB0
        obtain ⟨n, hn, rfl, hr1, hN⟩ := hrel
        by_cases hnl : n < l.length
        · obtain ⟨b, off, eA, hbw, hc⟩ := HT.out (by omega)
          have hx := enIdx (cap := cap) eA hnl
          have hat : enE.At wr b (off + n * 10) l[n] := (hc n hnl).below hN hbw
          have hne : some b ≠ some B := fun e => by have := Option.some.inj e; omega
          have CN := fun (w : World) (hr : Rd 41 w B R (ecat (l.take n)).size false) => entRead_yes H hRs (HPS.out n) hr (HAT.out n hnl)
          generalize l[n] = x at *
          generalize (ecat (l.take n)).size = pn at *
          have CN := Lib.hid CN
          clear hc eA
          go_wp2_with fail
          have hn1 : (n : Int) < (l.length : Int) := by omega
          replace hr1 : Rd 41 wr.drew B R pn false := hr1
          replace hat : enE.At wr.drew b (off + n * 10) x := hat
          replace hN := hN.drew
          go_region_held3 (fun w' => w'.cell? ⟨b, off + n * 10, none⟩ = some (.int .i64 x.k) ∧ w'.cell? ⟨b, off + n * 10 + 1, none⟩ = some (.int .i64 x.d) ∧ w'.cell? ⟨b, off + n * 10 + 2, none⟩ = some (.int .i64 x.i) ∧ w'.cell? ⟨b, off + n * 10 + 3, none⟩ = some (.int .i64 x.o.C) ∧ w'.cell? ⟨b, off + n * 10 + 4, none⟩ = some (.int .i64 x.o.D) ∧ w'.cell? ⟨b, off + n * 10 + 5, none⟩ = some (.int .i64 x.o.I) ∧ w'.cell? ⟨b, off + n * 10 + 6, none⟩ = some (.int .i64 x.o.M) ∧ w'.cell? ⟨b, off + n * 10 + 7, none⟩ = some (.int .i64 x.o.K) ∧ w'.cell? ⟨b, off + n * 10 + 8, none⟩ = some (.int .i64 x.o.U) ∧ w'.cell? ⟨b, off + n * 10 + 9, none⟩ = some (.string x.o.s)) (with_reducible exact enAt10 hat) (first | (go_at_call 18; (with_reducible refine (CN.out _ hr1).mono ?_); rintro r w3 ⟨rfl, hr3, hb3⟩; have hat := hat.grown hb3 hne; have hN := below_by hN hb3 hsz2))
          go_wp2_with fail
          exact ⟨⟨n + 1, by omega, by go_num, hr3, hN⟩, by simp [intOf]; omega⟩
        · obtain rfl : n = l.length := by omega
          rw [HPE.out] at hr1
          have HPA := Lib.hid (fun wx => H.parse Z wx (by omega))
          clear HAT HPS HPE HP0 HT HW
          go_wp2_with fail
          refine (HPA.out _).mono ?_
          rintro r w4 ⟨x, ok, rfl, ⟨hx, hok⟩, hb4⟩
          have hal := below_alloc (Below.refl w4.heap.size w4) (.cells #[.int .i64 x.k, .int .i64 x.d, .int .i64 x.i, .int .i64 x.o.C, .int .i64 x.o.D, .int .i64 x.o.I, .int .i64 x.o.M, .int .i64 x.o.K, .int .i64 x.o.U, .string x.o.s] 27)
          have hX : enE.In (w4.alloc (.cells #[.int .i64 x.k, .int .i64 x.d, .int .i64 x.i, .int .i64 x.o.C, .int .i64 x.o.D, .int .i64 x.o.I, .int .i64 x.o.M, .int .i64 x.o.K, .int .i64 x.o.U, .string x.o.s] 27)) w4.heap.size x := El.In.new (E := enE) w4 x _ rfl
          have hr4 := (hr1.below hb4).below hal
          have hN4 := below_then (below_then hN hb4) hal
          clear hr1 hN hb4 hal HPA
          have hsum : (ok = false ∨ ok = true ∧ entB x = true ∧ entBytes x = Z) := by
            cases hp : parseEnt Z with
            | none => rw [hp] at hok; exact Or.inl hok
            | some e =>
              rw [hp] at hx hok
              obtain rfl : x = e := hx
              exact Or.inr ⟨hok, eparse_bytes hp⟩
          have HSUM := Lib.hid hsum
          clear hx hok hsum
          go_wp2_with fail
          generalize w4.alloc (.cells #[.int .i64 x.k, .int .i64 x.d, .int .i64 x.i, .int .i64 x.o.C, .int .i64 x.o.D, .int .i64 x.o.I, .int .i64 x.o.M, .int .i64 x.o.K, .int .i64 x.o.U, .string x.o.s] 27) = W4 at *
          obtain ⟨nx, hnx⟩ : ∃ n, w4.heap.size = n := ⟨_, rfl⟩
          rw [hnx] at hX ⊢
          clear hnx
          refine (awake11_any H _).mono ?_
          rintro r w5 ⟨rfl, hb5⟩
          replace hX := hX.below hb5
          replace hr4 := hr4.below hb5
          replace hN4 := below_then hN4 hb5
          clear hb5
          have cD := done_any (Nat.le_refl _) hr4
          rw [show isDone R R.size false = true by unfold isDone; simp] at cD
          go_wp2_with fail
          refine cD.mono ?_
          rintro r w6 ⟨rfl, m, rfl⟩
          have hX6 : enE.In (w5.drewN m) nx x := hX
          have hN6 := below_drew hN4 m
          clear hX hr4 hN4 cD
          generalize w5.drewN m = W6 at *
          rcases HSUM.out with rfl | ⟨rfl, h1, h2⟩
          · clear HSUM
            go_wp2_with fail
            go_ret
            exact ⟨rfl, hN6⟩
          · have HR := Lib.hid (fun wx => (by
              have h := H.right x wx (Nat.le_trans (ent_short h1) (by omega))
              rw [h1] at h; exact h : Calls Try.prog 9 #[.agg #[.int .i64 x.k, .int .i64 x.d, .int .i64 x.i, .int .i64 x.o.C, .int .i64 x.o.D, .int .i64 x.o.I, .int .i64 x.o.M, .int .i64 x.o.K, .int .i64 x.o.U, .string x.o.s]] wx fun r w' => r = .returned (.bool true) ∧ Below wx.heap.size wx w'))
            have HP := Lib.hid (fun wx => (by
              have h := H.print x wx (ent_wide h1) (ent_short h1)
              rw [h2] at h; exact h : Calls Try.prog 11 #[.agg #[.int .i64 x.k, .int .i64 x.d, .int .i64 x.i, .int .i64 x.o.C, .int .i64 x.o.D, .int .i64 x.o.I, .int .i64 x.o.M, .int .i64 x.o.K, .int .i64 x.o.U, .string x.o.s]] wx fun r w' => r = .returned (.string Z) ∧ Below wx.heap.size wx w'))
            clear HSUM h1 h2
            obtain ⟨p0, p1, p2, p3, p4, p5, p6, p7, p8, p9⟩ := enIn10 hX6
            go_wp2_with fail
            clear p0 p1 p2 p3 p4 p5 p6 p7 p8 p9
            refine (HR.out _).mono ?_
            rintro r w7 ⟨rfl, hb7⟩
            replace hX6 := hX6.below hb7
            replace hN6 := below_then hN6 hb7
            clear hb7
            obtain ⟨p0, p1, p2, p3, p4, p5, p6, p7, p8, p9⟩ := enIn10 hX6
            go_wp2_with fail
            clear p0 p1 p2 p3 p4 p5 p6 p7 p8 p9
            refine (HP.out _).mono ?_
            rintro r w8 ⟨rfl, hb8⟩
            go_wp2_with fail
            go_ret
            exact ⟨rfl, below_then hN6 hb8⟩
set_option maxRecDepth 100000 in
theorem back11_lifted (H0 : EntryCalls) (os : Os) (started : os.Started) (H : Type) (enc : TypeId × Value → H) :
    ReturnsInHanded {} Try.checked os 5 .any (Rows.entryBackSpec.pre6 enc Try.prog Try.f5 Rows.entryBackRow.domain false) (Rows.entryBackSpec.post enc Try.prog Try.f5 false true false false) := by
  refine returnsInHanded_of_change (C := Try.checked) own started (by kernel_rfl) Try.func5
    (ChangeSpec.witness6 (enc := enc) (C := Try.checked) false ⟨#[], #[.slice none 0 0, .string ⟨#[]⟩], []⟩ 8 (by kernel_rfl) (by kernel_rfl) (by kernel_rfl) (by kernel_rfl)) ?_
  intro W base args ds gs before hval0 hW _ _
  have hval : ∀ (j : Nat) t v, Try.f5.params[j]? = some t → args[j]? = some v → Value.okWide Try.prog W .any base t v := hval0
  have hW' := hW
  obtain ⟨p, q, hA0, hV, rfl, _, _⟩ := hW
  have hA : DataW.TrodAll enc Try.prog W 0 (fun _ => true) true Try.f5.params.toList args.toList ds p := hA0
  rw [Try.params5] at hA hval
  obtain ⟨v0, v1, d0, d1, p0, p1, rfl, rfl, rfl, h0, h1⟩ := trodAll_two hA
  obtain ⟨A, cap, l, rfl, hT, hcap, hn, hw⟩ := open_ens (hval 0 38 v0 rfl rfl) h0
  obtain ⟨s, rfl, hs⟩ := open_str (hval 1 9 v1 rfl rfl) h1
  have hc : Calls Try.prog 5 #[.slice A l.length cap, .string s] W fun e w' => e = .returned (.bool true) ∧ Below W.heap.size W w' := by
    by_cases h : 50 < l.length ∨ 1000 < s.size
    · exact back11_long H0 A l.length cap s W h hs
    · exact back11_walk H0 A cap l s W (by omega) (by omega) hw hT
  refine hc.mono fun e W' ⟨he, hb⟩ => ?_
  subst he
  exact ⟨_, rfl, Frm.law_post (by kernel_rfl) (by kernel_rfl) (by kernel_rfl) Try.underlying4 rfl rfl hW' hb⟩

theorem back11_holds (H0 : EntryCalls) : Rows.EntryBackSaid :=
  OpenClaim.holds_of_wide 5 Try.f5 rfl rfl rfl rfl rfl rfl rfl ⟨rfl, rfl, rfl, rfl, rfl⟩ rfl rfl rfl rfl rfl (by kernel_rfl) Try.func5 (by kernel_rfl)
    (of_decide_eq_true (by kernel_rfl)) (by unfold Func.isWrapper; first | (rw [if_pos (by decide +kernel)]; kernel_rfl) | (rw [if_neg (by decide +kernel)]; exact ⟨rfl, rfl⟩))
    (fun os started H enc _ => back11_lifted H0 os started H enc)
end Go.Proofs.Ytllgmkbmdnpnoaa

/- EntryCounts, given the program's calls: behind entries each device has one count: of its last life, as many as the number of its last operation there. -/
namespace Go.Proofs.Ytllgmkbmdnpnoaa
open Go.ChangeShapes Go.WideShapes Go.ChangeAt Go.RowKit Go.Deep Nam Cod

theorem wantStep_op {d : Int} {v : Cn} {x : En} (h : x.k = 1) (hd : x.o.D = d) : wantStep d v x = ⟨x.o.D, x.o.I, x.o.M⟩ := by
  unfold wantStep cntOf
  rw [if_pos h]
  dsimp only
  rw [if_pos hd]
theorem wantStep_op_no {d : Int} {v : Cn} {x : En} (h : x.k = 1) (hd : ¬ x.o.D = d) : wantStep d v x = v := by
  unfold wantStep cntOf
  rw [if_pos h]
  dsimp only
  rw [if_neg hd]
theorem wantStep_in {d : Int} {v : Cn} {x : En} (h1 : ¬ x.k = 1) (h : x.k = 3) (hd : x.d = d) : wantStep d v x = ⟨x.d, x.i, 0⟩ := by
  unfold wantStep cntOf
  rw [if_neg h1, if_pos h]
  dsimp only
  rw [if_pos hd]
theorem wantStep_in_no {d : Int} {v : Cn} {x : En} (h1 : ¬ x.k = 1) (h : x.k = 3) (hd : ¬ x.d = d) : wantStep d v x = v := by
  unfold wantStep cntOf
  rw [if_neg h1, if_pos h]
  dsimp only
  rw [if_neg hd]
theorem wantStep_none {d : Int} {v : Cn} {x : En} (h1 : ¬ x.k = 1) (h : ¬ x.k = 3) : wantStep d v x = v := by
  unfold wantStep cntOf
  rw [if_neg h1, if_neg h]
theorem enAt_op {w : World} {b o : Nat} {x : En} (h : enE.At w b o x) : opE.At w b (o + 3) x.o := fun j u hu => by
  rw [Nat.add_assoc]
  refine h (3 + j) u ?_
  rw [show (enE.c x) = [.int .i64 x.k, .int .i64 x.d, .int .i64 x.i] ++ opE.c x.o from rfl, List.getElem?_append_right (by simp)]
  simpa using hu
theorem cnIdx1 {A : Option Addr} {b off len cap k : Nat} (hA : A = some ⟨b, off, none⟩) (h0 : 0 < k) (h : k < len) : ∀ w, (Instr.indexAt 28 (.slice A len cap) (.int .i64 ((k : Int) - 1))).run Try.prog w = .ok (.pointer (some ⟨b, off + (k - 1) * 3, none⟩)) w := fun w => by
  subst hA
  have h2 : (k : Int) - 1 < (len : Int) := by omega
  have h3 : (0 : Int) ≤ (k : Int) - 1 := by omega
  have e : (k : Int) - 1 = ((k - 1 : Nat) : Int) := by omega
  rw [e]
  have h4 : ((k - 1 : Nat) : Int) < (len : Int) := by omega
  go_simp

def DIS (b o : Nat) (x : En) (w : World) : Prop := w.cell? ⟨b, o + 1, none⟩ = some (.int .i64 x.d) ∧ w.cell? ⟨b, o + 2, none⟩ = some (.int .i64 x.i)
set_option maxRecDepth 100000 in
theorem counts11_long (H : EntryCalls) (A : Option Addr) (len cap : Nat) (w : World) (h : 60 < len) :
    Calls Try.prog 6 #[.slice A len cap] w fun e w' => e = .returned (.bool true) ∧ Below w.heap.size w w' := by
  go_enter Try.func6, Try.ntmps6
  go_wp2_with fail
  refine (awake11_any H _).mono ?_
  rintro r w1 ⟨rfl, hb1⟩
  go_wp2_with fail
  go_ret
  exact ⟨rfl, hb1⟩

set_option maxRecDepth 100000 in
set_option maxHeartbeats 4000000 in
theorem counts11_walk (H : EntryCalls) (A : Option Addr) (cap : Nat) (l : List En) (w : World) (hl : l.length ≤ 60) (hw : ∀ e ∈ l, EnW e ∧ e.o.s.size ≤ maxLen) (hT : enE.Sl w A l) :
    Calls Try.prog 6 #[.slice A l.length cap] w fun e w' => e = .returned (.bool true) ∧ Below w.heap.size w w' := by
  have HT := Lib.hid hT
  have HW := Lib.hid hw
  clear hT hw
  go_enter Try.func6, Try.ntmps6
  go_wp2_with fail
  go_loopw [3, 4] (fun v i wr => ∃ (k : Nat) (A1 : Option Addr) (c1 : Nat), k ≤ l.length ∧ i = .int .i64 k ∧ v = .slice A1 (tallies (l.take k)).length c1 ∧ SlV cnE wr A1 c1 (tallies (l.take k)) ∧ Below w.heap.size w wr) (fun _ i _ => l.length - (intOf i).toNat)
  case atStart => exact ⟨0, none, 0, Nat.zero_le _, rfl, rfl, SlV.nil cnE w, Below.refl _ _⟩
  case round =>
    obtain ⟨k, A1, c1, hk, rfl, rfl, hM, hN⟩ := hrel
    by_cases hkl : k < l.length
    · obtain ⟨b, off, eA, hbw, hc⟩ := HT.out (by omega)
      have hx := enIdx (cap := cap) eA hkl
      have hat : enE.At wr b (off + k * 10) l[k] := (hc k hkl).below hN hbw
      obtain ⟨hwd, hsz⟩ := HW.out l[k] (List.getElem_mem _)
      have hlen := (tallies_inv l k hk).2.1
      have hnx := tallies_next l k hkl
      have hbr := Nat.lt_of_lt_of_le hbw hN.size
      generalize l[k] = x at *
      unfold maxLen at hsz
      have HR := Lib.hid (fun wx => H.right x wx (by omega))
      have HNX := Lib.hid hnx
      clear hc eA hnx
      cases hb : entB x
      · rw [hb] at HR
        clear hb
        go_wp2_with (first | (refine El.load enRow rfl _ rfl b (off + k * 10) rfl x hat #[.int .i64 x.k, .int .i64 x.d, .int .i64 x.i, .int .i64 x.o.C, .int .i64 x.o.D, .int .i64 x.o.I, .int .i64 x.o.M, .int .i64 x.o.K, .int .i64 x.o.U, .string x.o.s] rfl ?_) | fail)
        refine (HR.out _).mono ?_
        rintro r w1 ⟨rfl, hb1⟩
        go_wp2_with fail
        refine (awake11_any H _).mono ?_
        rintro r w2 ⟨rfl, hb2⟩
        go_wp2_with fail
        go_ret
        exact ⟨rfl, below_then (below_then hN hb1) hb2⟩
      · rw [hb] at HR
        clear hb
        generalize tallies (l.take k) = M at *
        have HTL := Lib.hid (fun wx (hS : SlV cnE wx A1 c1 M) => H.tally A1 c1 M x wx (by omega) hS)
        go_wp2_with (first | (refine El.load enRow rfl _ rfl b (off + k * 10) rfl x hat #[.int .i64 x.k, .int .i64 x.d, .int .i64 x.i, .int .i64 x.o.C, .int .i64 x.o.D, .int .i64 x.o.I, .int .i64 x.o.M, .int .i64 x.o.K, .int .i64 x.o.U, .string x.o.s] rfl ?_) | fail)
        refine (HR.out _).mono ?_
        rintro r w1 ⟨rfl, hb1⟩
        have hN1 := below_then hN hb1
        have hat1 := hat.below hb1 hbr
        have hM1 := hM.below hb1
        clear hat hb1 HR hM hN
        go_wp2_with (first | (refine El.load enRow rfl _ rfl b (off + k * 10) rfl x hat1 #[.int .i64 x.k, .int .i64 x.d, .int .i64 x.i, .int .i64 x.o.C, .int .i64 x.o.D, .int .i64 x.o.I, .int .i64 x.o.M, .int .i64 x.o.K, .int .i64 x.o.U, .string x.o.s] rfl ?_) | fail)
        refine (HTL.out _ hM1).mono ?_
        rintro r w2 ⟨A2, c2, rfl, hM2, hb2⟩
        go_wp2_with fail
        exact ⟨⟨k + 1, A2, c2, by omega, by go_num, by rw [HNX.out], by rw [HNX.out]; exact hM2, below_then hN1 hb2⟩, by simp [intOf]; omega⟩
    · obtain rfl : k = l.length := by omega
      obtain ⟨hris, hlen, hinv⟩ := tallies_inv l l.length (Nat.le_refl _)
      rw [List.take_length] at hM hris hlen hinv ⊢
      generalize tallies l = M at *
      have HRIS := Lib.hid (fun (i : Nat) (h : i < M.length) (h0 : 0 < i) => (List.pairwise_iff_getElem.1 hris (i - 1) i (by omega) h (by omega) : (M[i - 1]'(by omega)).d < M[i].d))
      have HINV := Lib.hid (fun (i : Nat) (h : i < M.length) => hinv M[i] (List.getElem_mem h))
      clear hkl hris hinv
      go_wp2_with fail
      go_loopw [5] (fun i wr => ∃ n : Nat, n ≤ M.length ∧ i = .int .i64 n ∧ SlV cnE wr A1 c1 M ∧ Below w.heap.size w wr) (fun i _ => M.length - (intOf i).toNat)
      case atStart => exact ⟨0, Nat.zero_le _, rfl, hM, hN⟩
      case round =>
        clear hM hN
        obtain ⟨n, hn, rfl, hM, hN⟩ := hrel
        by_cases hnl : n < M.length
        · obtain ⟨b1, off1, eM, hbm, hcm⟩ := hM.1 (by omega)
          have hi1 := cnIdx (cap := c1) eM hnl
          have hlt := fun (h0 : 0 < n) => HRIS.out n hnl h0
          have hinv := HINV.out n hnl
          have hat : cnE.At wr b1 (off1 + n * 3) M[n] := hcm n hnl
          have hne1 : ∀ a, A1 = some a → a.block = b1 := fun a e => by rw [eM] at e; cases e; rfl
          have HQ := Lib.hid (fun (w' : World) (h : SlV cnE w' A1 c1 M) => (by
            obtain ⟨b2, off2, e2, _, hc2⟩ := h.1 (by omega)
            rw [eM] at e2
            cases e2
            exact hc2 n hnl : cnE.At w' b1 (off1 + n * 3) M[n]))
          obtain ⟨mn, hmn⟩ : ∃ mn, M[n] = mn := ⟨_, rfl⟩
          rw [hmn] at hlt hinv hat HQ
          have HINV := Lib.hid hinv
          clear hmn hinv
          by_cases h0 : n = 0
          · have f4 : decide ((0 : Int) < (n : Int)) = false := decide_eq_false (by omega)
            have f5 : decide (0 < n) = false := decide_eq_false (by omega)
            obtain ⟨u0, u1, u2⟩ := cnAt3 hat
            clear hcm hat hlt h0 eM
            go_wp2_with fail
            go_quiet (fail)
            clear f4 f5
            go_wp2_with fail
            have hV : cnE.In ((wr.drewN nq).alloc (.cells #[.int .i64 0, .int .i64 0, .int .i64 0] 45)) wr.heap.size zeroCn := El.In.new (E := cnE) (wr.drewN nq) zeroCn _ rfl
            have hal := below_alloc (Below.refl (wr.drewN nq).heap.size (wr.drewN nq)) (.cells #[.int .i64 0, .int .i64 0, .int .i64 0] 45)
            have hM1 : SlV cnE (wr.drewN nq) A1 c1 M := hM
            have hM2 := hM1.below hal
            have hN2 := below_then (below_drew hN nq) hal
            have hwn : w.heap.size ≤ wr.heap.size := hN.size
            clear hM hM1 hN hal u0 u1 u2
            generalize (wr.drewN nq).alloc (.cells #[.int .i64 0, .int .i64 0, .int .i64 0] 45) = V0 at *
            obtain ⟨nw, hnw⟩ : ∃ m, wr.heap.size = m := ⟨_, rfl⟩
            rw [hnw] at hV hbm hwn ⊢
            clear hnw
            have hA1n : ∀ a, A1 = some a → some a.block ≠ some nw := fun a e e2 => by
              have h1 := hne1 a e
              have h2 := Option.some.inj e2
              omega
            have HV0 := Lib.hid (show wantOf (l.take 0) mn.d = zeroCn from rfl)
            go_loopw [7] (fun y wr => ∃ k : Nat, k ≤ l.length ∧ y = .int .i64 k ∧ cnE.In wr nw (wantOf (l.take k) mn.d) ∧ SlV cnE wr A1 c1 M ∧ Below w.heap.size w wr) (fun y _ => l.length - (intOf y).toNat)
            case atStart => exact ⟨0, Nat.zero_le _, rfl, by rw [HV0.out]; exact hV, hM2, hN2⟩
            case round =>
              clear hV hM2 hN2
              obtain ⟨k, hk, rfl, hV, hM, hN⟩ := hrel
              by_cases hkl : k < l.length
              · obtain ⟨b, off, eA, hbw, hc⟩ := HT.out (by omega)
                have hx := enIdx (cap := cap) eA hkl
                have hX : enE.At wr b (off + k * 10) l[k] := (hc k hkl).below hN hbw
                have HWN := Lib.hid (wantOf_next l k hkl mn.d)
                have hbr := Nat.lt_of_lt_of_le hbw hN.size
                generalize l[k] = x at *
                generalize wantOf (l.take k) mn.d = v at *
                have ho := enAt_op hX
                have hal := below_alloc (Below.refl wr.heap.size wr) (.cells #[.int .i64 x.o.C, .int .i64 x.o.D, .int .i64 x.o.I, .int .i64 x.o.M, .int .i64 x.o.K, .int .i64 x.o.U, .string x.o.s] 25)
                have hO : opE.In (wr.alloc (.cells #[.int .i64 x.o.C, .int .i64 x.o.D, .int .i64 x.o.I, .int .i64 x.o.M, .int .i64 x.o.K, .int .i64 x.o.U, .string x.o.s] 25)) wr.heap.size x.o := El.In.new (E := opE) wr x.o _ rfl
                replace hX := hX.below hal hbr
                replace hV := hV.below hal
                replace hM := hM.below hal
                replace hN := below_then hN hal
                have hki : (k : Int) < (l.length : Int) := by omega
                clear hc eA hal hbr
                go_wp2_with (first | (refine El.load opRow rfl _ rfl b (off + k * 10 + 3) rfl x.o ho #[.int .i64 x.o.C, .int .i64 x.o.D, .int .i64 x.o.I, .int .i64 x.o.M, .int .i64 x.o.K, .int .i64 x.o.U, .string x.o.s] rfl ?_) | fail)
                generalize wr.alloc (.cells #[.int .i64 x.o.C, .int .i64 x.o.D, .int .i64 x.o.I, .int .i64 x.o.M, .int .i64 x.o.K, .int .i64 x.o.U, .string x.o.s] 25) = W1 at *
                obtain ⟨nO, hnO⟩ : ∃ m, wr.heap.size = m := ⟨_, rfl⟩
                rw [hnO] at hO ⊢
                clear hnO ho
                by_cases h1 : x.k = 1
                · have e1 : (x.k == 1) = true := beq_iff_eq.2 h1
                  have e3 : (x.k == 3) = false := beq_eq_false_iff_ne.2 (by omega)
                  by_cases h2 : x.o.D = mn.d
                  · have e2 : (x.o.D == mn.d) = true := beq_iff_eq.2 h2
                    have HW1 := Lib.hid (wantStep_op (v := v) h1 h2)
                    clear h1 h2
                    obtain ⟨s0, s1, s2, s3, s4, s5, s6, s7, s8, s9⟩ := enAt10 hX
                    obtain ⟨o0, o1, o2, o3, o4, o5, o6⟩ := opIn7 hO
                    obtain ⟨u0, u1, u2⟩ := cnAt3 (HQ.out _ hM)
                    go_wp2_with fail
                    go_quiet (fail)
                    clear s0 s1 s2 s3 s4 s5 s6 s7 s8 s9 o0 o1 o2 o3 o4 o5 o6 u0 u1 u2
                    replace hX : enE.At (W1.drewN nq) b (off + k * 10) x := hX
                    replace hO : opE.In (W1.drewN nq) nO x.o := hO
                    replace hM : SlV cnE (W1.drewN nq) A1 c1 M := hM
                    replace hV : cnE.In (W1.drewN nq) nw v := hV
                    replace hN := below_drew hN nq
                    generalize W1.drewN nq = W2 at *
                    clear e1 e2 e3
                    obtain ⟨s0, s1, s2, s3, s4, s5, s6, s7, s8, s9⟩ := enAt10 hX
                    obtain ⟨o0, o1, o2, o3, o4, o5, o6⟩ := opIn7 hO
                    obtain ⟨u0, u1, u2⟩ := cnAt3 (HQ.out _ hM)
                    go_wp2_with (first | (refine El.store cnRow rfl _ _ rfl nw ⟨x.o.D, x.o.I, x.o.M⟩ #[.int .i64 x.o.D, .int .i64 x.o.I, .int .i64 x.o.M] rfl rfl rfl v hV ?_) | fail)
                    exact ⟨⟨k + 1, by omega, by go_num, by rw [HWN.out, HW1.out]; exact hV.set ⟨x.o.D, x.o.I, x.o.M⟩ _ rfl, ⟨hM.1.keep (by_row W2 nw _) hA1n, hM.2⟩, below_setRow hN hwn _⟩, by simp [intOf]; omega⟩
                  · have e2 : (x.o.D == mn.d) = false := beq_eq_false_iff_ne.2 h2
                    have HW1 := Lib.hid (wantStep_op_no (v := v) h1 h2)
                    clear h1 h2
                    obtain ⟨s0, s1, s2, s3, s4, s5, s6, s7, s8, s9⟩ := enAt10 hX
                    obtain ⟨o0, o1, o2, o3, o4, o5, o6⟩ := opIn7 hO
                    obtain ⟨u0, u1, u2⟩ := cnAt3 (HQ.out _ hM)
                    go_wp2_with fail
                    go_quiet (fail)
                    clear s0 s1 s2 s3 s4 s5 s6 s7 s8 s9 o0 o1 o2 o3 o4 o5 o6 u0 u1 u2
                    replace hX : enE.At (W1.drewN nq) b (off + k * 10) x := hX
                    replace hO : opE.In (W1.drewN nq) nO x.o := hO
                    replace hM : SlV cnE (W1.drewN nq) A1 c1 M := hM
                    replace hV : cnE.In (W1.drewN nq) nw v := hV
                    replace hN := below_drew hN nq
                    generalize W1.drewN nq = W2 at *
                    clear e1 e2
                    obtain ⟨s0, s1, s2, s3, s4, s5, s6, s7, s8, s9⟩ := enAt10 hX
                    obtain ⟨o0, o1, o2, o3, o4, o5, o6⟩ := opIn7 hO
                    obtain ⟨u0, u1, u2⟩ := cnAt3 (HQ.out _ hM)
                    go_wp2_with fail
                    go_quiet (fail)
                    clear s0 s1 s2 s3 s4 s5 s6 s7 s8 s9 o0 o1 o2 o3 o4 o5 o6 u0 u1 u2
                    replace hX : enE.At (W2.drewN nq) b (off + k * 10) x := hX
                    replace hO : opE.In (W2.drewN nq) nO x.o := hO
                    replace hM : SlV cnE (W2.drewN nq) A1 c1 M := hM
                    replace hV : cnE.In (W2.drewN nq) nw v := hV
                    replace hN := below_drew hN nq
                    generalize W2.drewN nq = W3 at *
                    go_wp2_with fail
                    exact ⟨⟨k + 1, by omega, by go_num, by rw [HWN.out, HW1.out]; exact hV, hM, hN⟩, by simp [intOf]; omega⟩
                · have e1 : (x.k == 1) = false := beq_eq_false_iff_ne.2 h1
                  by_cases h3 : x.k = 3
                  · have e3 : (x.k == 3) = true := beq_iff_eq.2 h3
                    by_cases h2 : x.d = mn.d
                    · have e2 : (x.d == mn.d) = true := beq_iff_eq.2 h2
                      have HW1 := Lib.hid (wantStep_in (v := v) h1 h3 h2)
                      clear h1 h2 h3
                      obtain ⟨s0, s1, s2, s3, s4, s5, s6, s7, s8, s9⟩ := enAt10 hX
                      obtain ⟨o0, o1, o2, o3, o4, o5, o6⟩ := opIn7 hO
                      obtain ⟨u0, u1, u2⟩ := cnAt3 (HQ.out _ hM)
                      go_wp2_with fail
                      go_quiet (fail)
                      clear s0 s1 s2 s3 s4 s5 s6 s7 s8 s9 o0 o1 o2 o3 o4 o5 o6 u0 u1 u2
                      replace hX : enE.At (W1.drewN nq) b (off + k * 10) x := hX
                      replace hO : opE.In (W1.drewN nq) nO x.o := hO
                      replace hM : SlV cnE (W1.drewN nq) A1 c1 M := hM
                      replace hV : cnE.In (W1.drewN nq) nw v := hV
                      replace hN := below_drew hN nq
                      generalize W1.drewN nq = W2 at *
                      obtain ⟨s0, s1, s2, s3, s4, s5, s6, s7, s8, s9⟩ := enAt10 hX
                      obtain ⟨o0, o1, o2, o3, o4, o5, o6⟩ := opIn7 hO
                      obtain ⟨u0, u1, u2⟩ := cnAt3 (HQ.out _ hM)
                      go_wp2_with fail
                      go_quiet (fail)
                      clear s0 s1 s2 s3 s4 s5 s6 s7 s8 s9 o0 o1 o2 o3 o4 o5 o6 u0 u1 u2
                      replace hX : enE.At (W2.drewN nq) b (off + k * 10) x := hX
                      replace hO : opE.In (W2.drewN nq) nO x.o := hO
                      replace hM : SlV cnE (W2.drewN nq) A1 c1 M := hM
                      replace hV : cnE.In (W2.drewN nq) nw v := hV
                      replace hN := below_drew hN nq
                      generalize W2.drewN nq = W3 at *
                      clear e1 e2 e3
                      go_wp2_with fail
                      have hwn2 := hwn
                      refine region_anyG (S := DIS b (off + k * 10) x) 11 (by kernel_rfl) ?_
                      replace hX : enE.At W3.drew b (off + k * 10) x := hX
                      replace hM : SlV cnE W3.drew A1 c1 M := hM
                      replace hV : cnE.In W3.drew nw v := hV
                      replace hN := hN.drew
                      generalize W3.drew = U at *
                      have hS : DIS b (off + k * 10) x U := ⟨(enAt10 hX).2.1, (enAt10 hX).2.2.1⟩
                      refine anyG_take (i := 0) (v := .slice A l.length cap) rfl (by kernel_rfl) (by kernel_rfl) (by kernel_rfl) (by kernel_rfl) (by kernel_rfl) (fun _ _ _ h => h) (Or.inl ⟨by rfl, fun w' hSw => by (obtain ⟨s1, s2⟩ := hSw; go_simp)⟩) hS ?_
                      try simp only [Act.put, List.setIfInBounds_toArray, List.set_cons_zero, List.set_cons_succ]
                      refine anyG_take (i := 1) (v := .int .i64 k) rfl (by kernel_rfl) (by kernel_rfl) (by kernel_rfl) (by kernel_rfl) (by kernel_rfl) (fun _ _ _ h => h) (Or.inl ⟨by rfl, fun w' hSw => by (obtain ⟨s1, s2⟩ := hSw; go_simp)⟩) hS ?_
                      try simp only [Act.put, List.setIfInBounds_toArray, List.set_cons_zero, List.set_cons_succ]
                      refine anyG_take (i := 2) (v := .pointer (some ⟨b, off + k * 10, none⟩)) rfl (by kernel_rfl) (by kernel_rfl) (by kernel_rfl) (by kernel_rfl) (by kernel_rfl) (fun _ _ _ h => h) (Or.inl ⟨by rfl, fun w' hSw => by (obtain ⟨s1, s2⟩ := hSw; go_simp)⟩) hS ?_
                      try simp only [Act.put, List.setIfInBounds_toArray, List.set_cons_zero, List.set_cons_succ]
                      refine anyG_take (i := 3) (v := .pointer (some ⟨b, off + k * 10 + 1, none⟩)) rfl (by kernel_rfl) (by kernel_rfl) (by kernel_rfl) (by kernel_rfl) (by kernel_rfl) (fun _ _ _ h => h) (Or.inl ⟨by rfl, fun w' hSw => by (obtain ⟨s1, s2⟩ := hSw; go_simp)⟩) hS ?_
                      try simp only [Act.put, List.setIfInBounds_toArray, List.set_cons_zero, List.set_cons_succ]
                      refine anyG_take (i := 4) (v := .int .i64 x.d) rfl (by kernel_rfl) (by kernel_rfl) (by kernel_rfl) (by kernel_rfl) (by kernel_rfl) (fun _ _ _ h => h) (Or.inl ⟨by rfl, fun w' hSw => by (obtain ⟨s1, s2⟩ := hSw; go_simp)⟩) hS ?_
                      try simp only [Act.put, List.setIfInBounds_toArray, List.set_cons_zero, List.set_cons_succ]
                      refine anyG_take (i := 5) (v := .slice A l.length cap) rfl (by kernel_rfl) (by kernel_rfl) (by kernel_rfl) (by kernel_rfl) (by kernel_rfl) (fun _ _ _ h => h) (Or.inl ⟨by rfl, fun w' hSw => by (obtain ⟨s1, s2⟩ := hSw; go_simp)⟩) hS ?_
                      try simp only [Act.put, List.setIfInBounds_toArray, List.set_cons_zero, List.set_cons_succ]
                      refine anyG_take (i := 6) (v := .int .i64 k) rfl (by kernel_rfl) (by kernel_rfl) (by kernel_rfl) (by kernel_rfl) (by kernel_rfl) (fun _ _ _ h => h) (Or.inl ⟨by rfl, fun w' hSw => by (obtain ⟨s1, s2⟩ := hSw; go_simp)⟩) hS ?_
                      try simp only [Act.put, List.setIfInBounds_toArray, List.set_cons_zero, List.set_cons_succ]
                      refine anyG_take (i := 7) (v := .pointer (some ⟨b, off + k * 10, none⟩)) rfl (by kernel_rfl) (by kernel_rfl) (by kernel_rfl) (by kernel_rfl) (by kernel_rfl) (fun _ _ _ h => h) (Or.inl ⟨by rfl, fun w' hSw => by (obtain ⟨s1, s2⟩ := hSw; go_simp)⟩) hS ?_
                      try simp only [Act.put, List.setIfInBounds_toArray, List.set_cons_zero, List.set_cons_succ]
                      refine anyG_take (i := 8) (v := .pointer (some ⟨b, off + k * 10 + 2, none⟩)) rfl (by kernel_rfl) (by kernel_rfl) (by kernel_rfl) (by kernel_rfl) (by kernel_rfl) (fun _ _ _ h => h) (Or.inl ⟨by rfl, fun w' hSw => by (obtain ⟨s1, s2⟩ := hSw; go_simp)⟩) hS ?_
                      try simp only [Act.put, List.setIfInBounds_toArray, List.set_cons_zero, List.set_cons_succ]
                      refine anyG_take (i := 9) (v := .int .i64 x.i) rfl (by kernel_rfl) (by kernel_rfl) (by kernel_rfl) (by kernel_rfl) (by kernel_rfl) (fun _ _ _ h => h) (Or.inl ⟨by rfl, fun w' hSw => by (obtain ⟨s1, s2⟩ := hSw; go_simp)⟩) hS ?_
                      try simp only [Act.put, List.setIfInBounds_toArray, List.set_cons_zero, List.set_cons_succ]
                      refine anyG_take (i := 10) (v := .agg #[.int .i64 x.d, .int .i64 x.i, .int .i64 0]) rfl (by kernel_rfl) (by kernel_rfl) (by kernel_rfl) (by kernel_rfl) (by kernel_rfl) (fun _ _ _ h => h) (Or.inl ⟨by rfl, fun w' hSw => by (obtain ⟨s1, s2⟩ := hSw; go_simp)⟩) hS ?_
                      try simp only [Act.put, List.setIfInBounds_toArray, List.set_cons_zero, List.set_cons_succ]
                      refine anyG_step (rs := [11]) (by kernel_rfl) (by simp) ?_
                      refine AllG.last (n := 11) rfl (fun K hK => ?_)
                      refine El.step_store cnRow rfl _ _ rfl nw ⟨x.d, x.i, 0⟩ #[.int .i64 x.d, .int .i64 x.i, .int .i64 0] rfl rfl rfl v hV ?_
                      refine hK.out _ _ ?_
                      try simp only [Act.put, List.setIfInBounds_toArray, List.set_cons_zero, List.set_cons_succ]
                      clear hK
                      refine anyG_done (by kernel_rfl) ?_ _
                      go_wp2_with fail
                      exact ⟨⟨k + 1, by omega, by go_num, by rw [HWN.out, HW1.out]; exact hV.set ⟨x.d, x.i, 0⟩ _ rfl, ⟨hM.1.keep (by_row U nw _) hA1n, hM.2⟩, below_setRow hN hwn2 _⟩, by simp [intOf]; omega⟩
                    · have e2 : (x.d == mn.d) = false := beq_eq_false_iff_ne.2 h2
                      have HW1 := Lib.hid (wantStep_in_no (v := v) h1 h3 h2)
                      clear h1 h2 h3
                      obtain ⟨s0, s1, s2, s3, s4, s5, s6, s7, s8, s9⟩ := enAt10 hX
                      obtain ⟨o0, o1, o2, o3, o4, o5, o6⟩ := opIn7 hO
                      obtain ⟨u0, u1, u2⟩ := cnAt3 (HQ.out _ hM)
                      go_wp2_with fail
                      go_quiet (fail)
                      clear s0 s1 s2 s3 s4 s5 s6 s7 s8 s9 o0 o1 o2 o3 o4 o5 o6 u0 u1 u2
                      replace hX : enE.At (W1.drewN nq) b (off + k * 10) x := hX
                      replace hO : opE.In (W1.drewN nq) nO x.o := hO
                      replace hM : SlV cnE (W1.drewN nq) A1 c1 M := hM
                      replace hV : cnE.In (W1.drewN nq) nw v := hV
                      replace hN := below_drew hN nq
                      generalize W1.drewN nq = W2 at *
                      obtain ⟨s0, s1, s2, s3, s4, s5, s6, s7, s8, s9⟩ := enAt10 hX
                      obtain ⟨o0, o1, o2, o3, o4, o5, o6⟩ := opIn7 hO
                      obtain ⟨u0, u1, u2⟩ := cnAt3 (HQ.out _ hM)
                      go_wp2_with fail
                      go_quiet (fail)
                      clear s0 s1 s2 s3 s4 s5 s6 s7 s8 s9 o0 o1 o2 o3 o4 o5 o6 u0 u1 u2
                      replace hX : enE.At (W2.drewN nq) b (off + k * 10) x := hX
                      replace hO : opE.In (W2.drewN nq) nO x.o := hO
                      replace hM : SlV cnE (W2.drewN nq) A1 c1 M := hM
                      replace hV : cnE.In (W2.drewN nq) nw v := hV
                      replace hN := below_drew hN nq
                      generalize W2.drewN nq = W3 at *
                      clear e1 e2 e3
                      go_wp2_with fail
                      exact ⟨⟨k + 1, by omega, by go_num, by rw [HWN.out, HW1.out]; exact hV, hM, hN⟩, by simp [intOf]; omega⟩
                  · have e3 : (x.k == 3) = false := beq_eq_false_iff_ne.2 h3
                    have HW1 := Lib.hid (wantStep_none (d := mn.d) (v := v) h1 h3)
                    clear h1 h3
                    obtain ⟨s0, s1, s2, s3, s4, s5, s6, s7, s8, s9⟩ := enAt10 hX
                    obtain ⟨o0, o1, o2, o3, o4, o5, o6⟩ := opIn7 hO
                    obtain ⟨u0, u1, u2⟩ := cnAt3 (HQ.out _ hM)
                    go_wp2_with fail
                    go_quiet (fail)
                    clear s0 s1 s2 s3 s4 s5 s6 s7 s8 s9 o0 o1 o2 o3 o4 o5 o6 u0 u1 u2
                    replace hX : enE.At (W1.drewN nq) b (off + k * 10) x := hX
                    replace hO : opE.In (W1.drewN nq) nO x.o := hO
                    replace hM : SlV cnE (W1.drewN nq) A1 c1 M := hM
                    replace hV : cnE.In (W1.drewN nq) nw v := hV
                    replace hN := below_drew hN nq
                    generalize W1.drewN nq = W2 at *
                    obtain ⟨s0, s1, s2, s3, s4, s5, s6, s7, s8, s9⟩ := enAt10 hX
                    obtain ⟨o0, o1, o2, o3, o4, o5, o6⟩ := opIn7 hO
                    obtain ⟨u0, u1, u2⟩ := cnAt3 (HQ.out _ hM)
                    go_wp2_with fail
                    go_quiet (fail)
                    clear s0 s1 s2 s3 s4 s5 s6 s7 s8 s9 o0 o1 o2 o3 o4 o5 o6 u0 u1 u2
                    replace hX : enE.At (W2.drewN nq) b (off + k * 10) x := hX
                    replace hO : opE.In (W2.drewN nq) nO x.o := hO
                    replace hM : SlV cnE (W2.drewN nq) A1 c1 M := hM
                    replace hV : cnE.In (W2.drewN nq) nw v := hV
                    replace hN := below_drew hN nq
                    generalize W2.drewN nq = W3 at *
                    clear e1 e3
                    go_wp2_with fail
                    exact ⟨⟨k + 1, by omega, by go_num, by rw [HWN.out, HW1.out]; exact hV, hM, hN⟩, by simp [intOf]; omega⟩
              · obtain rfl : k = l.length := by omega
                rw [List.take_length, HINV.out] at hV
                obtain ⟨v0, v1, v2⟩ := cnIn3 hV
                obtain ⟨u0, u1, u2⟩ := cnAt3 (HQ.out _ hM)
                go_wp2_with fail
                go_quiet (fail)
                go_wp2_with fail
                exact ⟨⟨n + 1, by omega, by go_num, hM, below_drew hN nq⟩, by simp [intOf]; omega⟩
          · have hx1 := cnIdx1 (cap := c1) eM (by omega) hnl
            have hat0 : cnE.At wr b1 (off1 + (n - 1) * 3) (M[n - 1]'(by omega)) := hcm (n - 1) (by omega)
            have hlt := hlt (by omega)
            have h0' : 0 < n := by omega
            generalize (M[n - 1]'(by omega)) = m0 at hat0 hlt
            clear h0
            obtain ⟨u0, u1, u2⟩ := cnAt3 hat
            obtain ⟨t0, t1, t2⟩ := cnAt3 hat0
            have f1 : decide (mn.d ≤ m0.d) = false := decide_eq_false (by omega)
            have f2 : IntKind.i64.wrap ((n : Int) - 1) = (n : Int) - 1 := by rw [IntKind.wrap_i64]; omega
            have f3 : (0 : Int) < (n : Int) := by omega
            have f4 : decide ((0 : Int) < (n : Int)) = true := decide_eq_true f3
            have f5 : decide (0 < n) = true := decide_eq_true (by omega)
            clear hcm hat hat0 hlt h0' eM
            go_wp2_with fail
            go_quiet (fail)
            clear f1 f2 f4 f5 t0 t1 t2 hx1
            go_wp2_with fail
            have hV : cnE.In ((wr.drewN nq).alloc (.cells #[.int .i64 0, .int .i64 0, .int .i64 0] 45)) wr.heap.size zeroCn := El.In.new (E := cnE) (wr.drewN nq) zeroCn _ rfl
            have hal := below_alloc (Below.refl (wr.drewN nq).heap.size (wr.drewN nq)) (.cells #[.int .i64 0, .int .i64 0, .int .i64 0] 45)
            have hM1 : SlV cnE (wr.drewN nq) A1 c1 M := hM
            have hM2 := hM1.below hal
            have hN2 := below_then (below_drew hN nq) hal
            have hwn : w.heap.size ≤ wr.heap.size := hN.size
            clear hM hM1 hN hal u0 u1 u2
            generalize (wr.drewN nq).alloc (.cells #[.int .i64 0, .int .i64 0, .int .i64 0] 45) = V0 at *
            obtain ⟨nw, hnw⟩ : ∃ m, wr.heap.size = m := ⟨_, rfl⟩
            rw [hnw] at hV hbm hwn ⊢
            clear hnw
            have hA1n : ∀ a, A1 = some a → some a.block ≠ some nw := fun a e e2 => by
              have h1 := hne1 a e
              have h2 := Option.some.inj e2
              omega
            have HV0 := Lib.hid (show wantOf (l.take 0) mn.d = zeroCn from rfl)
            go_loopw [7] (fun y wr => ∃ k : Nat, k ≤ l.length ∧ y = .int .i64 k ∧ cnE.In wr nw (wantOf (l.take k) mn.d) ∧ SlV cnE wr A1 c1 M ∧ Below w.heap.size w wr) (fun y _ => l.length - (intOf y).toNat)
            case atStart => exact ⟨0, Nat.zero_le _, rfl, by rw [HV0.out]; exact hV, hM2, hN2⟩
            case round =>
              clear hV hM2 hN2
              obtain ⟨k, hk, rfl, hV, hM, hN⟩ := hrel
              by_cases hkl : k < l.length
              · obtain ⟨b, off, eA, hbw, hc⟩ := HT.out (by omega)
                have hx := enIdx (cap := cap) eA hkl
                have hX : enE.At wr b (off + k * 10) l[k] := (hc k hkl).below hN hbw
                have HWN := Lib.hid (wantOf_next l k hkl mn.d)
                have hbr := Nat.lt_of_lt_of_le hbw hN.size
                generalize l[k] = x at *
                generalize wantOf (l.take k) mn.d = v at *
                have ho := enAt_op hX
                have hal := below_alloc (Below.refl wr.heap.size wr) (.cells #[.int .i64 x.o.C, .int .i64 x.o.D, .int .i64 x.o.I, .int .i64 x.o.M, .int .i64 x.o.K, .int .i64 x.o.U, .string x.o.s] 25)
                have hO : opE.In (wr.alloc (.cells #[.int .i64 x.o.C, .int .i64 x.o.D, .int .i64 x.o.I, .int .i64 x.o.M, .int .i64 x.o.K, .int .i64 x.o.U, .string x.o.s] 25)) wr.heap.size x.o := El.In.new (E := opE) wr x.o _ rfl
                replace hX := hX.below hal hbr
                replace hV := hV.below hal
                replace hM := hM.below hal
                replace hN := below_then hN hal
                have hki : (k : Int) < (l.length : Int) := by omega
                clear hc eA hal hbr
                go_wp2_with (first | (refine El.load opRow rfl _ rfl b (off + k * 10 + 3) rfl x.o ho #[.int .i64 x.o.C, .int .i64 x.o.D, .int .i64 x.o.I, .int .i64 x.o.M, .int .i64 x.o.K, .int .i64 x.o.U, .string x.o.s] rfl ?_) | fail)
                generalize wr.alloc (.cells #[.int .i64 x.o.C, .int .i64 x.o.D, .int .i64 x.o.I, .int .i64 x.o.M, .int .i64 x.o.K, .int .i64 x.o.U, .string x.o.s] 25) = W1 at *
                obtain ⟨nO, hnO⟩ : ∃ m, wr.heap.size = m := ⟨_, rfl⟩
                rw [hnO] at hO ⊢
                clear hnO ho
                by_cases h1 : x.k = 1
                · have e1 : (x.k == 1) = true := beq_iff_eq.2 h1
                  have e3 : (x.k == 3) = false := beq_eq_false_iff_ne.2 (by omega)
                  by_cases h2 : x.o.D = mn.d
                  · have e2 : (x.o.D == mn.d) = true := beq_iff_eq.2 h2
                    have HW1 := Lib.hid (wantStep_op (v := v) h1 h2)
                    clear h1 h2
                    obtain ⟨s0, s1, s2, s3, s4, s5, s6, s7, s8, s9⟩ := enAt10 hX
                    obtain ⟨o0, o1, o2, o3, o4, o5, o6⟩ := opIn7 hO
                    obtain ⟨u0, u1, u2⟩ := cnAt3 (HQ.out _ hM)
                    go_wp2_with fail
                    go_quiet (fail)
                    clear s0 s1 s2 s3 s4 s5 s6 s7 s8 s9 o0 o1 o2 o3 o4 o5 o6 u0 u1 u2
                    replace hX : enE.At (W1.drewN nq) b (off + k * 10) x := hX
                    replace hO : opE.In (W1.drewN nq) nO x.o := hO
                    replace hM : SlV cnE (W1.drewN nq) A1 c1 M := hM
                    replace hV : cnE.In (W1.drewN nq) nw v := hV
                    replace hN := below_drew hN nq
                    generalize W1.drewN nq = W2 at *
                    clear e1 e2 e3
                    obtain ⟨s0, s1, s2, s3, s4, s5, s6, s7, s8, s9⟩ := enAt10 hX
                    obtain ⟨o0, o1, o2, o3, o4, o5, o6⟩ := opIn7 hO
                    obtain ⟨u0, u1, u2⟩ := cnAt3 (HQ.out _ hM)
                    go_wp2_with (first | (refine El.store cnRow rfl _ _ rfl nw ⟨x.o.D, x.o.I, x.o.M⟩ #[.int .i64 x.o.D, .int .i64 x.o.I, .int .i64 x.o.M] rfl rfl rfl v hV ?_) | fail)
                    exact ⟨⟨k + 1, by omega, by go_num, by rw [HWN.out, HW1.out]; exact hV.set ⟨x.o.D, x.o.I, x.o.M⟩ _ rfl, ⟨hM.1.keep (by_row W2 nw _) hA1n, hM.2⟩, below_setRow hN hwn _⟩, by simp [intOf]; omega⟩
                  · have e2 : (x.o.D == mn.d) = false := beq_eq_false_iff_ne.2 h2
                    have HW1 := Lib.hid (wantStep_op_no (v := v) h1 h2)
                    clear h1 h2
                    obtain ⟨s0, s1, s2, s3, s4, s5, s6, s7, s8, s9⟩ := enAt10 hX
                    obtain ⟨o0, o1, o2, o3, o4, o5, o6⟩ := opIn7 hO
                    obtain ⟨u0, u1, u2⟩ := cnAt3 (HQ.out _ hM)
                    go_wp2_with fail
                    go_quiet (fail)
                    clear s0 s1 s2 s3 s4 s5 s6 s7 s8 s9 o0 o1 o2 o3 o4 o5 o6 u0 u1 u2
                    replace hX : enE.At (W1.drewN nq) b (off + k * 10) x := hX
                    replace hO : opE.In (W1.drewN nq) nO x.o := hO
                    replace hM : SlV cnE (W1.drewN nq) A1 c1 M := hM
                    replace hV : cnE.In (W1.drewN nq) nw v := hV
                    replace hN := below_drew hN nq
                    generalize W1.drewN nq = W2 at *
                    clear e1 e2
                    obtain ⟨s0, s1, s2, s3, s4, s5, s6, s7, s8, s9⟩ := enAt10 hX
                    obtain ⟨o0, o1, o2, o3, o4, o5, o6⟩ := opIn7 hO
                    obtain ⟨u0, u1, u2⟩ := cnAt3 (HQ.out _ hM)
                    go_wp2_with fail
                    go_quiet (fail)
                    clear s0 s1 s2 s3 s4 s5 s6 s7 s8 s9 o0 o1 o2 o3 o4 o5 o6 u0 u1 u2
                    replace hX : enE.At (W2.drewN nq) b (off + k * 10) x := hX
                    replace hO : opE.In (W2.drewN nq) nO x.o := hO
                    replace hM : SlV cnE (W2.drewN nq) A1 c1 M := hM
                    replace hV : cnE.In (W2.drewN nq) nw v := hV
                    replace hN := below_drew hN nq
                    generalize W2.drewN nq = W3 at *
                    go_wp2_with fail
                    exact ⟨⟨k + 1, by omega, by go_num, by rw [HWN.out, HW1.out]; exact hV, hM, hN⟩, by simp [intOf]; omega⟩
                · have e1 : (x.k == 1) = false := beq_eq_false_iff_ne.2 h1
                  by_cases h3 : x.k = 3
                  · have e3 : (x.k == 3) = true := beq_iff_eq.2 h3
                    by_cases h2 : x.d = mn.d
                    · have e2 : (x.d == mn.d) = true := beq_iff_eq.2 h2
                      have HW1 := Lib.hid (wantStep_in (v := v) h1 h3 h2)
                      clear h1 h2 h3
                      obtain ⟨s0, s1, s2, s3, s4, s5, s6, s7, s8, s9⟩ := enAt10 hX
                      obtain ⟨o0, o1, o2, o3, o4, o5, o6⟩ := opIn7 hO
                      obtain ⟨u0, u1, u2⟩ := cnAt3 (HQ.out _ hM)
                      go_wp2_with fail
                      go_quiet (fail)
                      clear s0 s1 s2 s3 s4 s5 s6 s7 s8 s9 o0 o1 o2 o3 o4 o5 o6 u0 u1 u2
                      replace hX : enE.At (W1.drewN nq) b (off + k * 10) x := hX
                      replace hO : opE.In (W1.drewN nq) nO x.o := hO
                      replace hM : SlV cnE (W1.drewN nq) A1 c1 M := hM
                      replace hV : cnE.In (W1.drewN nq) nw v := hV
                      replace hN := below_drew hN nq
                      generalize W1.drewN nq = W2 at *
                      obtain ⟨s0, s1, s2, s3, s4, s5, s6, s7, s8, s9⟩ := enAt10 hX
                      obtain ⟨o0, o1, o2, o3, o4, o5, o6⟩ := opIn7 hO
                      obtain ⟨u0, u1, u2⟩ := cnAt3 (HQ.out _ hM)
                      go_wp2_with fail
                      go_quiet (fail)
                      clear s0 s1 s2 s3 s4 s5 s6 s7 s8 s9 o0 o1 o2 o3 o4 o5 o6 u0 u1 u2
                      replace hX : enE.At (W2.drewN nq) b (off + k * 10) x := hX
                      replace hO : opE.In (W2.drewN nq) nO x.o := hO
                      replace hM : SlV cnE (W2.drewN nq) A1 c1 M := hM
                      replace hV : cnE.In (W2.drewN nq) nw v := hV
                      replace hN := below_drew hN nq
                      generalize W2.drewN nq = W3 at *
                      clear e1 e2 e3
                      go_wp2_with fail
                      have hwn2 := hwn
                      refine region_anyG (S := DIS b (off + k * 10) x) 11 (by kernel_rfl) ?_
                      replace hX : enE.At W3.drew b (off + k * 10) x := hX
                      replace hM : SlV cnE W3.drew A1 c1 M := hM
                      replace hV : cnE.In W3.drew nw v := hV
                      replace hN := hN.drew
                      generalize W3.drew = U at *
                      have hS : DIS b (off + k * 10) x U := ⟨(enAt10 hX).2.1, (enAt10 hX).2.2.1⟩
                      refine anyG_take (i := 0) (v := .slice A l.length cap) rfl (by kernel_rfl) (by kernel_rfl) (by kernel_rfl) (by kernel_rfl) (by kernel_rfl) (fun _ _ _ h => h) (Or.inl ⟨by rfl, fun w' hSw => by (obtain ⟨s1, s2⟩ := hSw; go_simp)⟩) hS ?_
                      try simp only [Act.put, List.setIfInBounds_toArray, List.set_cons_zero, List.set_cons_succ]
                      refine anyG_take (i := 1) (v := .int .i64 k) rfl (by kernel_rfl) (by kernel_rfl) (by kernel_rfl) (by kernel_rfl) (by kernel_rfl) (fun _ _ _ h => h) (Or.inl ⟨by rfl, fun w' hSw => by (obtain ⟨s1, s2⟩ := hSw; go_simp)⟩) hS ?_
                      try simp only [Act.put, List.setIfInBounds_toArray, List.set_cons_zero, List.set_cons_succ]
                      refine anyG_take (i := 2) (v := .pointer (some ⟨b, off + k * 10, none⟩)) rfl (by kernel_rfl) (by kernel_rfl) (by kernel_rfl) (by kernel_rfl) (by kernel_rfl) (fun _ _ _ h => h) (Or.inl ⟨by rfl, fun w' hSw => by (obtain ⟨s1, s2⟩ := hSw; go_simp)⟩) hS ?_
                      try simp only [Act.put, List.setIfInBounds_toArray, List.set_cons_zero, List.set_cons_succ]
                      refine anyG_take (i := 3) (v := .pointer (some ⟨b, off + k * 10 + 1, none⟩)) rfl (by kernel_rfl) (by kernel_rfl) (by kernel_rfl) (by kernel_rfl) (by kernel_rfl) (fun _ _ _ h => h) (Or.inl ⟨by rfl, fun w' hSw => by (obtain ⟨s1, s2⟩ := hSw; go_simp)⟩) hS ?_
                      try simp only [Act.put, List.setIfInBounds_toArray, List.set_cons_zero, List.set_cons_succ]
                      refine anyG_take (i := 4) (v := .int .i64 x.d) rfl (by kernel_rfl) (by kernel_rfl) (by kernel_rfl) (by kernel_rfl) (by kernel_rfl) (fun _ _ _ h => h) (Or.inl ⟨by rfl, fun w' hSw => by (obtain ⟨s1, s2⟩ := hSw; go_simp)⟩) hS ?_
                      try simp only [Act.put, List.setIfInBounds_toArray, List.set_cons_zero, List.set_cons_succ]
                      refine anyG_take (i := 5) (v := .slice A l.length cap) rfl (by kernel_rfl) (by kernel_rfl) (by kernel_rfl) (by kernel_rfl) (by kernel_rfl) (fun _ _ _ h => h) (Or.inl ⟨by rfl, fun w' hSw => by (obtain ⟨s1, s2⟩ := hSw; go_simp)⟩) hS ?_
                      try simp only [Act.put, List.setIfInBounds_toArray, List.set_cons_zero, List.set_cons_succ]
                      refine anyG_take (i := 6) (v := .int .i64 k) rfl (by kernel_rfl) (by kernel_rfl) (by kernel_rfl) (by kernel_rfl) (by kernel_rfl) (fun _ _ _ h => h) (Or.inl ⟨by rfl, fun w' hSw => by (obtain ⟨s1, s2⟩ := hSw; go_simp)⟩) hS ?_
                      try simp only [Act.put, List.setIfInBounds_toArray, List.set_cons_zero, List.set_cons_succ]
                      refine anyG_take (i := 7) (v := .pointer (some ⟨b, off + k * 10, none⟩)) rfl (by kernel_rfl) (by kernel_rfl) (by kernel_rfl) (by kernel_rfl) (by kernel_rfl) (fun _ _ _ h => h) (Or.inl ⟨by rfl, fun w' hSw => by (obtain ⟨s1, s2⟩ := hSw; go_simp)⟩) hS ?_
                      try simp only [Act.put, List.setIfInBounds_toArray, List.set_cons_zero, List.set_cons_succ]
                      refine anyG_take (i := 8) (v := .pointer (some ⟨b, off + k * 10 + 2, none⟩)) rfl (by kernel_rfl) (by kernel_rfl) (by kernel_rfl) (by kernel_rfl) (by kernel_rfl) (fun _ _ _ h => h) (Or.inl ⟨by rfl, fun w' hSw => by (obtain ⟨s1, s2⟩ := hSw; go_simp)⟩) hS ?_
                      try simp only [Act.put, List.setIfInBounds_toArray, List.set_cons_zero, List.set_cons_succ]
                      refine anyG_take (i := 9) (v := .int .i64 x.i) rfl (by kernel_rfl) (by kernel_rfl) (by kernel_rfl) (by kernel_rfl) (by kernel_rfl) (fun _ _ _ h => h) (Or.inl ⟨by rfl, fun w' hSw => by (obtain ⟨s1, s2⟩ := hSw; go_simp)⟩) hS ?_
                      try simp only [Act.put, List.setIfInBounds_toArray, List.set_cons_zero, List.set_cons_succ]
                      refine anyG_take (i := 10) (v := .agg #[.int .i64 x.d, .int .i64 x.i, .int .i64 0]) rfl (by kernel_rfl) (by kernel_rfl) (by kernel_rfl) (by kernel_rfl) (by kernel_rfl) (fun _ _ _ h => h) (Or.inl ⟨by rfl, fun w' hSw => by (obtain ⟨s1, s2⟩ := hSw; go_simp)⟩) hS ?_
                      try simp only [Act.put, List.setIfInBounds_toArray, List.set_cons_zero, List.set_cons_succ]
                      refine anyG_step (rs := [11]) (by kernel_rfl) (by simp) ?_
                      refine AllG.last (n := 11) rfl (fun K hK => ?_)
                      refine El.step_store cnRow rfl _ _ rfl nw ⟨x.d, x.i, 0⟩ #[.int .i64 x.d, .int .i64 x.i, .int .i64 0] rfl rfl rfl v hV ?_
                      refine hK.out _ _ ?_
                      try simp only [Act.put, List.setIfInBounds_toArray, List.set_cons_zero, List.set_cons_succ]
                      clear hK
                      refine anyG_done (by kernel_rfl) ?_ _
                      go_wp2_with fail
                      exact ⟨⟨k + 1, by omega, by go_num, by rw [HWN.out, HW1.out]; exact hV.set ⟨x.d, x.i, 0⟩ _ rfl, ⟨hM.1.keep (by_row U nw _) hA1n, hM.2⟩, below_setRow hN hwn2 _⟩, by simp [intOf]; omega⟩
                    · have e2 : (x.d == mn.d) = false := beq_eq_false_iff_ne.2 h2
                      have HW1 := Lib.hid (wantStep_in_no (v := v) h1 h3 h2)
                      clear h1 h2 h3
                      obtain ⟨s0, s1, s2, s3, s4, s5, s6, s7, s8, s9⟩ := enAt10 hX
                      obtain ⟨o0, o1, o2, o3, o4, o5, o6⟩ := opIn7 hO
                      obtain ⟨u0, u1, u2⟩ := cnAt3 (HQ.out _ hM)
                      go_wp2_with fail
                      go_quiet (fail)
                      clear s0 s1 s2 s3 s4 s5 s6 s7 s8 s9 o0 o1 o2 o3 o4 o5 o6 u0 u1 u2
                      replace hX : enE.At (W1.drewN nq) b (off + k * 10) x := hX
                      replace hO : opE.In (W1.drewN nq) nO x.o := hO
                      replace hM : SlV cnE (W1.drewN nq) A1 c1 M := hM
                      replace hV : cnE.In (W1.drewN nq) nw v := hV
                      replace hN := below_drew hN nq
                      generalize W1.drewN nq = W2 at *
                      obtain ⟨s0, s1, s2, s3, s4, s5, s6, s7, s8, s9⟩ := enAt10 hX
                      obtain ⟨o0, o1, o2, o3, o4, o5, o6⟩ := opIn7 hO
                      obtain ⟨u0, u1, u2⟩ := cnAt3 (HQ.out _ hM)
                      go_wp2_with fail
                      go_quiet (fail)
                      clear s0 s1 s2 s3 s4 s5 s6 s7 s8 s9 o0 o1 o2 o3 o4 o5 o6 u0 u1 u2
                      replace hX : enE.At (W2.drewN nq) b (off + k * 10) x := hX
                      replace hO : opE.In (W2.drewN nq) nO x.o := hO
                      replace hM : SlV cnE (W2.drewN nq) A1 c1 M := hM
                      replace hV : cnE.In (W2.drewN nq) nw v := hV
                      replace hN := below_drew hN nq
                      generalize W2.drewN nq = W3 at *
                      clear e1 e2 e3
                      go_wp2_with fail
                      exact ⟨⟨k + 1, by omega, by go_num, by rw [HWN.out, HW1.out]; exact hV, hM, hN⟩, by simp [intOf]; omega⟩
                  · have e3 : (x.k == 3) = false := beq_eq_false_iff_ne.2 h3
                    have HW1 := Lib.hid (wantStep_none (d := mn.d) (v := v) h1 h3)
                    clear h1 h3
                    obtain ⟨s0, s1, s2, s3, s4, s5, s6, s7, s8, s9⟩ := enAt10 hX
                    obtain ⟨o0, o1, o2, o3, o4, o5, o6⟩ := opIn7 hO
                    obtain ⟨u0, u1, u2⟩ := cnAt3 (HQ.out _ hM)
                    go_wp2_with fail
                    go_quiet (fail)
                    clear s0 s1 s2 s3 s4 s5 s6 s7 s8 s9 o0 o1 o2 o3 o4 o5 o6 u0 u1 u2
                    replace hX : enE.At (W1.drewN nq) b (off + k * 10) x := hX
                    replace hO : opE.In (W1.drewN nq) nO x.o := hO
                    replace hM : SlV cnE (W1.drewN nq) A1 c1 M := hM
                    replace hV : cnE.In (W1.drewN nq) nw v := hV
                    replace hN := below_drew hN nq
                    generalize W1.drewN nq = W2 at *
                    obtain ⟨s0, s1, s2, s3, s4, s5, s6, s7, s8, s9⟩ := enAt10 hX
                    obtain ⟨o0, o1, o2, o3, o4, o5, o6⟩ := opIn7 hO
                    obtain ⟨u0, u1, u2⟩ := cnAt3 (HQ.out _ hM)
                    go_wp2_with fail
                    go_quiet (fail)
                    clear s0 s1 s2 s3 s4 s5 s6 s7 s8 s9 o0 o1 o2 o3 o4 o5 o6 u0 u1 u2
                    replace hX : enE.At (W2.drewN nq) b (off + k * 10) x := hX
                    replace hO : opE.In (W2.drewN nq) nO x.o := hO
                    replace hM : SlV cnE (W2.drewN nq) A1 c1 M := hM
                    replace hV : cnE.In (W2.drewN nq) nw v := hV
                    replace hN := below_drew hN nq
                    generalize W2.drewN nq = W3 at *
                    clear e1 e3
                    go_wp2_with fail
                    exact ⟨⟨k + 1, by omega, by go_num, by rw [HWN.out, HW1.out]; exact hV, hM, hN⟩, by simp [intOf]; omega⟩
              · obtain rfl : k = l.length := by omega
                rw [List.take_length, HINV.out] at hV
                obtain ⟨v0, v1, v2⟩ := cnIn3 hV
                obtain ⟨u0, u1, u2⟩ := cnAt3 (HQ.out _ hM)
                go_wp2_with fail
                go_quiet (fail)
                go_wp2_with fail
                exact ⟨⟨n + 1, by omega, by go_num, hM, below_drew hN nq⟩, by simp [intOf]; omega⟩
        · obtain rfl : n = M.length := by omega
          go_wp2_with fail
          refine (awake11_any H _).mono ?_
          rintro r w2 ⟨rfl, hb2⟩
          go_wp2_with fail
          go_ret
          exact ⟨rfl, below_then hN hb2⟩
set_option maxRecDepth 100000 in
theorem counts11_lifted (H0 : EntryCalls) (os : Os) (started : os.Started) (H : Type) (enc : TypeId × Value → H) :
    ReturnsInHanded {} Try.checked os 6 .any (Rows.entryCountsSpec.pre6 enc Try.prog Try.f6 Rows.entryCountsRow.domain false) (Rows.entryCountsSpec.post enc Try.prog Try.f6 false true false false) := by
  refine returnsInHanded_of_change (C := Try.checked) own started (by kernel_rfl) Try.func6
    (ChangeSpec.witness6 (enc := enc) (C := Try.checked) false ⟨#[], #[.slice none 0 0], []⟩ 8 (by kernel_rfl) (by kernel_rfl) (by kernel_rfl) (by kernel_rfl)) ?_
  intro W base args ds gs before hval0 hW _ _
  have hval : ∀ (j : Nat) t v, Try.f6.params[j]? = some t → args[j]? = some v → Value.okWide Try.prog W .any base t v := hval0
  have hW' := hW
  obtain ⟨p, q, hA0, hV, rfl, _, _⟩ := hW
  have hA : DataW.TrodAll enc Try.prog W 0 (fun _ => true) true Try.f6.params.toList args.toList ds p := hA0
  rw [Try.params6] at hA hval
  obtain ⟨v0, d0, rfl, rfl, h0⟩ := trodAll_one hA
  obtain ⟨A, cap, l, rfl, hT, hcap, hn, hw⟩ := open_ens (hval 0 38 v0 rfl rfl) h0
  have hc : Calls Try.prog 6 #[.slice A l.length cap] W fun e w' => e = .returned (.bool true) ∧ Below W.heap.size W w' := by
    by_cases h : 60 < l.length
    · exact counts11_long H0 A l.length cap W h
    · exact counts11_walk H0 A cap l W (by omega) hw hT
  refine hc.mono fun e W' ⟨he, hb⟩ => ?_
  subst he
  exact ⟨_, rfl, Frm.law_post (by kernel_rfl) (by kernel_rfl) (by kernel_rfl) Try.underlying4 rfl rfl hW' hb⟩

theorem counts11_holds (H0 : EntryCalls) : Rows.EntryCountsSaid :=
  OpenClaim.holds_of_wide 6 Try.f6 rfl rfl rfl rfl rfl rfl rfl ⟨rfl, rfl, rfl, rfl, rfl⟩ rfl rfl rfl rfl rfl (by kernel_rfl) Try.func6 (by kernel_rfl)
    (of_decide_eq_true (by kernel_rfl)) (by unfold Func.isWrapper; first | (rw [if_pos (by decide +kernel)]; kernel_rfl) | (rw [if_neg (by decide +kernel)]; exact ⟨rfl, rfl⟩))
    (fun os started H enc _ => counts11_lifted H0 os started H enc)
end Go.Proofs.Ytllgmkbmdnpnoaa
