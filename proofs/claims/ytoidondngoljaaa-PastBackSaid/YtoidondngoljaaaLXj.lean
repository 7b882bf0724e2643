/- PastBack is proved: a past is read from its bytes as it was. Conditions: none. -/
import Derived.Test.YtoidondngoljaaaD08
import Derived.Test.YtoidondngoljaaaRows
namespace Go.Proofs.Ytoidondngoljaaa
open Go.ChangeShapes Go.WideShapes Go.ChangeAt Go.RowKit Go.Deep Nam Cod Tre Pst

theorem catM_app : ∀ (b a : List Mv), catM (a ++ b) = catM a ++ catM b
  | [], a => by
    rw [List.append_nil]
    apply L_inj; rw [L_app]
    show _ = L (catM a) ++ L (ByteArray.mk #[])
    simp [L]
  | m :: b, a => by
    have e : a ++ m :: b = (a ++ [m]) ++ b := by rw [List.append_assoc]; rfl
    have e2 : m :: b = [m] ++ b := rfl
    have h0 : catM [m] = m.bytes := by
      have h := catM_snoc [] m
      rw [List.nil_append] at h
      rw [h]
      apply L_inj; rw [L_app]
      show L (ByteArray.mk #[]) ++ _ = _
      simp [L]
    rw [e, catM_app b (a ++ [m]), catM_snoc, e2, catM_app b [m], h0, ByteArray.append_assoc]

/-- Where a past's operation number k stands. -/
def posV (V : Pv) (k : Nat) : Nat := (headV V).size + (catM (V.ops.take k)).size
theorem past_there (V : Pv) (Z : ByteArray) (hI : PInv V) (hl : V.ops.length ≤ 60) : ∃ p1 p2, isTree (pastBytes V ++ Z) 0 false = some (V.base, p1) ∧ p1 ≤ (pastBytes V ++ Z).size ∧ isCount (pastBytes V ++ Z) p1 false 1099511627776 = some (V.t, p2) ∧ p2 ≤ (pastBytes V ++ Z).size ∧
    isCount (pastBytes V ++ Z) p2 false 4096 = some ((V.ops.length : Int), posV V 0) ∧ (∀ k (h : k < V.ops.length), isOp (pastBytes V ++ Z) (posV V k) false = some (V.ops[k], posV V (k + 1))) ∧ (∀ k, k ≤ V.ops.length → posV V k ≤ (pastBytes V ++ Z).size) ∧ posV V V.ops.length = (pastBytes V).size := by
  have hbl := tree_len hI.tree
  have ht0 := hI.t0
  have ht1 := hI.t1
  have hend : posV V V.ops.length = (pastBytes V).size := by unfold posV pastBytes; rw [List.take_length, ByteArray.size_append]
  have hsz : (pastBytes V ++ Z).size = (pastBytes V).size + Z.size := ByteArray.size_append
  have hsp : (pastBytes V).size = (treeBytes V.base).size + (bytesOf V.t).size + (bytesOf V.ops.length).size + (catM V.ops).size := by
    unfold pastBytes headV; simp only [ByteArray.size_append]
  have e1 : pastBytes V ++ Z = treeBytes V.base ++ (bytesOf V.t ++ (bytesOf V.ops.length ++ (catM V.ops ++ Z))) := by unfold pastBytes headV; simp only [ByteArray.append_assoc]
  have e2 : pastBytes V ++ Z = (treeBytes V.base ++ bytesOf V.t) ++ (bytesOf V.ops.length ++ (catM V.ops ++ Z)) := by rw [e1]; simp only [ByteArray.append_assoc]
  have h1 := tree_there ⟨#[]⟩ (bytesOf V.t ++ (bytesOf V.ops.length ++ (catM V.ops ++ Z))) V.base hI.tree (by omega)
  rw [empty_b, ← e1] at h1
  have h0 : (ByteArray.mk #[]).size = 0 := rfl
  rw [h0, Nat.zero_add] at h1
  have h2 := count_there (treeBytes V.base) (bytesOf V.ops.length ++ (catM V.ops ++ Z)) V.t 1099511627776 ht0 ht1 (by omega)
  rw [← e1] at h2
  have h3 := count_there (treeBytes V.base ++ bytesOf V.t) (catM V.ops ++ Z) V.ops.length 4096 (by omega) (by omega) (by omega)
  rw [← e2, ByteArray.size_append] at h3
  refine ⟨_, _, h1, by omega, h2, by omega, ?_, fun k hk => ?_, fun k hk => ?_, hend⟩
  · rw [h3]
    have : posV V 0 = (treeBytes V.base).size + (bytesOf V.t).size + (bytesOf V.ops.length).size := by
      unfold posV headV
      simp only [ByteArray.size_append]
      rw [List.take_zero]
      show _ + (ByteArray.mk #[]).size = _
      rw [h0]; rfl
    rw [this]
  · have hc : catM V.ops = catM (V.ops.take k) ++ (V.ops[k].bytes ++ catM (V.ops.drop (k + 1))) := by
      have h := catM_app (V.ops.drop (k + 1)) (V.ops.take (k + 1))
      rw [List.take_append_drop, catM_next hk rfl, ByteArray.append_assoc] at h
      exact h
    have h4 := op_there (headV V ++ catM (V.ops.take k)) (catM (V.ops.drop (k + 1)) ++ Z) V.ops[k].C V.ops[k].D V.ops[k].I V.ops[k].M V.ops[k].K V.ops[k].U V.ops[k].s (hI.ok _ (List.getElem_mem hk))
    have e3 : pastBytes V ++ Z = (headV V ++ catM (V.ops.take k)) ++ (printOf V.ops[k].C V.ops[k].D V.ops[k].I V.ops[k].M V.ops[k].K V.ops[k].U V.ops[k].s ++ (catM (V.ops.drop (k + 1)) ++ Z)) := by
      unfold pastBytes
      rw [hc]
      unfold Mv.bytes
      simp only [ByteArray.append_assoc]
    rw [← e3, ByteArray.size_append] at h4
    unfold posV
    rw [h4, catM_next hk rfl, ByteArray.size_append, Nat.add_assoc]
    rfl
  · have hc := catM_app (V.ops.drop k) (V.ops.take k)
    rw [List.take_append_drop] at hc
    have h5 : (catM V.ops).size = (catM (V.ops.take k)).size + (catM (V.ops.drop k)).size := by rw [hc, ByteArray.size_append]
    have h6 : (headV V).size = (treeBytes V.base).size + (bytesOf V.t).size + (bytesOf V.ops.length).size := by unfold headV; simp only [ByteArray.size_append]
    unfold posV
    omega

theorem back_no (A : Option Addr) (c : Nat) (l : List Mv) (TA : Option Addr) (tc : Nat) (at_ : List Int) (Z : ByteArray) (w : World) (hsz : ∀ m ∈ l, m.s.size ≤ 9223372036854775807) (hT : opE.Sl w A l) (h : ¬ Fine l ∨ (Fine l ∧ 500 < Z.size)) :
    Calls Try.prog 8 #[.slice A l.length c, .slice TA at_.length tc, .string Z] w fun e w' => e = .returned (.bool true) ∧ Below w.heap.size w w' := by
  rcases h with h | ⟨h, h2⟩
  · have HC1 := Lib.hid (fine_any A c l w hsz hT false ⟨fun e => (by cases e), fun k => absurd k h⟩)
    go_enter Try.func8, Try.ntmps8
    go_wp2_with fail
    refine HC1.out.mono ?_
    rintro e w1 ⟨rfl, hb1⟩
    go_wp2_with fail
    refine (awake_any _).mono ?_
    rintro e w2 ⟨rfl, hb2⟩
    go_wp2_with fail
    go_ret
    exact ⟨rfl, below_then hb1 hb2⟩
  · have HC1 := Lib.hid (fine_any A c l w hsz hT true ⟨fun _ => h, fun _ => rfl⟩)
    go_enter Try.func8, Try.ntmps8
    go_wp2_with fail
    refine HC1.out.mono ?_
    rintro e w1 ⟨rfl, hb1⟩
    go_wp2_with fail
    refine (awake_any _).mono ?_
    rintro e w2 ⟨rfl, hb2⟩
    go_wp2_with fail
    go_ret
    exact ⟨rfl, below_then hb1 hb2⟩

set_option maxRecDepth 100000 in
set_option maxHeartbeats 4000000 in
theorem back_walk (A : Option Addr) (c : Nat) (l : List Mv) (TA : Option Addr) (tc : Nat) (at_ : List Int) (Z : ByteArray) (w : World) (hsz : ∀ m ∈ l, m.s.size ≤ 9223372036854775807) (hT : opE.Sl w A l) (hat0 : byE.Sl w TA at_) (hby : ∀ t ∈ at_, 0 ≤ t ∧ t ≤ 255) (hf : Fine l) (hz : Z.size ≤ 500) :
    Calls Try.prog 8 #[.slice A l.length c, .slice TA at_.length tc, .string Z] w fun e w' => e = .returned (.bool true) ∧ Below w.heap.size w w' := by
  have C1 := fine_any A c l w hsz hT true ⟨fun _ => hf, fun _ => rfl⟩
  obtain ⟨hl, hok⟩ := hf
  have hI := (stG_inv hok at_ l.length).1
  have hIl := (stG_inv hok at_ l.length).2
  have CG := fun wx (h : opE.Sl wx A l) (h2 : byE.Sl wx TA at_) => grown_any A c l TA tc at_ wx hl hok h h2 hby
  obtain ⟨G, hG⟩ : ∃ G, stG l at_ l.length = G := ⟨_, rfl⟩
  rw [hG] at hI hIl CG
  have hGl : G.ops.length ≤ 60 := by omega
  obtain ⟨p1, p2, t1, t2, t3, t4, t5, t6, t7, t8⟩ := past_there G Z hI hGl
  have happ : (pastBytes G ++ Z).size = (pastBytes G).size + Z.size := ByteArray.size_append
  have hTs : (pastBytes G).size ≤ 200000 := by
    have h1 := tree_bytes hI.tree
    have h2 := bytesOf_le G.t (by have := hI.t0; omega) (by have := hI.t1; omega)
    have h3 := bytesOf_le G.ops.length (by omega) (by omega)
    have h4 := catM_le G.ops G.ops.length hI.ok
    rw [List.take_length] at h4
    unfold pastBytes headV
    simp only [ByteArray.size_append]
    omega
  have HREAD := Lib.hid (fun (wx : World) (b : Nat) (hr : Rd 52 wx b (pastBytes G ++ Z) 0 false) => pPastRead_yes (w := wx) (b := b) G (posV G) (by omega) (Nat.zero_le _) hr hI hGl t1 t2 t3 t4 t5 t6 t7)
  rw [t8] at HREAD
  have HPRINT := Lib.hid (fun (y : Pw) (hy : y.v = G) (wx : World) (h : PastOk wx y) => (by
    have hI1 : PInv y.v := by rw [hy]; exact hI
    have ho1 : y.ops.length ≤ 60 := by have h : y.ops = y.v.ops := rfl; rw [h, hy]; omega
    have hb1 : y.base.length ≤ 62 := tree_len hI1.tree
    have ht1 : i64 y.t := by have h0 : 0 ≤ y.t := hI1.t0; have h1 : y.t ≤ 1099511627776 := hI1.t1; unfold i64; omega
    have hh := pPrint_any y wx h (by omega) (by omega) (tree_fit hI1.tree) ht1 hI1.ok (tree_bytes hI1.tree)
    rw [hy] at hh
    exact hh : Calls Try.prog 22 #[.agg #[.slice y.bA y.base.length y.bc, .int .i64 y.t, .slice y.oA y.ops.length y.oc, .slice y.uA y.us.length y.uc, .slice y.wA y.now.length y.wc]] wx fun e w' => e = .returned (.string (pastBytes G)) ∧ Below wx.heap.size wx w'))
  have HSAME := Lib.hid (fun (x y : Pw) (hx : x.v = G) (hy : y.v = G) (wx : World) (h1 : PastOk wx x) (h2 : PastOk wx y) => (by
    have hI1 : PInv x.v := by rw [hx]; exact hI
    have ho1 : x.ops.length ≤ 60 := by have h : x.ops = x.v.ops := rfl; rw [h, hx]; omega
    have hu1 : x.us.length ≤ 60 := by have h := hI1.ulen; have h2 : x.v.ops = x.ops := rfl; rw [h2] at h; have h3 : x.v.us = x.us := rfl; rw [h3] at h; omega
    have hb1 : x.base.length ≤ 62 := tree_len hI1.tree
    have hn1 : x.now.length ≤ 62 := tree_len hI1.ntree
    exact samePast_any x y wx h1 h2 (hy.trans hx.symm) (by omega) (by omega) (by omega) (by omega) : Calls Try.prog 16 #[.agg #[.slice x.bA x.base.length x.bc, .int .i64 x.t, .slice x.oA x.ops.length x.oc, .slice x.uA x.us.length x.uc, .slice x.wA x.now.length x.wc], .agg #[.slice y.bA y.base.length y.bc, .int .i64 y.t, .slice y.oA y.ops.length y.oc, .slice y.uA y.us.length y.uc, .slice y.wA y.now.length y.wc]] wx fun e w' => e = .returned (.bool true) ∧ Below wx.heap.size wx w'))
  clear t1 t2 t3 t4 t5 t6 t7 t8 hI hIl hG hGl
  have HG := Lib.hid CG
  clear CG
  generalize pastBytes G = T at *
  go_enter Try.func8, Try.ntmps8
  go_wp2_with fail
  refine C1.mono ?_
  rintro e w1 ⟨rfl, hb1⟩
  clear C1
  go_wp2_with fail
  refine (HG.out w1 (hT.below hb1) (hat0.below hb1)).mono ?_
  rintro e w2 ⟨y1, rfl, hy1, hv1, hb2⟩
  have hB2 := below_then hb1 hb2
  clear hb1 hb2 HG
  have hz0 : pwE.In (w2.alloc (.cells #[.slice none 0 0, .int .i64 0, .slice none 0 0, .slice none 0 0, .slice none 0 0] 29)) w2.heap.size Pw.zero := El.In.new (E := pwE) w2 Pw.zero #[.slice none 0 0, .int .i64 0, .slice none 0 0, .slice none 0 0, .slice none 0 0] rfl
  have hP1 := hz0.set y1 #[.slice y1.bA y1.base.length y1.bc, .int .i64 y1.t, .slice y1.oA y1.ops.length y1.oc, .slice y1.uA y1.us.length y1.uc, .slice y1.wA y1.now.length y1.wc] rfl
  have hbz : Below w2.heap.size w2 ((w2.alloc (.cells #[.slice none 0 0, .int .i64 0, .slice none 0 0, .slice none 0 0, .slice none 0 0] 29)).setRow w2.heap.size #[.slice y1.bA y1.base.length y1.bc, .int .i64 y1.t, .slice y1.oA y1.ops.length y1.oc, .slice y1.uA y1.us.length y1.uc, .slice y1.wA y1.now.length y1.wc]) := below_setRow (below_alloc (Below.refl _ _) _) (Nat.le_refl _) _
  go_wp2_with (first | (refine El.store pwRow rfl _ _ rfl w2.heap.size y1 #[.slice y1.bA y1.base.length y1.bc, .int .i64 y1.t, .slice y1.oA y1.ops.length y1.oc, .slice y1.uA y1.us.length y1.uc, .slice y1.wA y1.now.length y1.wc] rfl rfl rfl Pw.zero hz0 ?_) | (refine El.load pwRow rfl _ rfl w2.heap.size 0 rfl y1 hP1.at #[.slice y1.bA y1.base.length y1.bc, .int .i64 y1.t, .slice y1.oA y1.ops.length y1.oc, .slice y1.uA y1.us.length y1.uc, .slice y1.wA y1.now.length y1.wc] rfl ?_) | fail)
  try simp only [Act.put, List.setIfInBounds_toArray, List.set_cons_zero, List.set_cons_succ]
  replace hy1 := hy1.below hbz
  have hn7w : w.heap.size ≤ w2.heap.size := hB2.size
  replace hB2 := below_then hB2 hbz
  generalize (w2.alloc (.cells #[.slice none 0 0, .int .i64 0, .slice none 0 0, .slice none 0 0, .slice none 0 0] 29)).setRow w2.heap.size #[.slice y1.bA y1.base.length y1.bc, .int .i64 y1.t, .slice y1.oA y1.ops.length y1.oc, .slice y1.uA y1.us.length y1.uc, .slice y1.wA y1.now.length y1.wc] = W2 at *
  generalize w2.heap.size = n7 at *
  clear hz0 hbz
  refine (HPRINT.out y1 hv1 W2 hy1).mono ?_
  rintro e w3 ⟨rfl, hb3⟩
  have hP3 := hP1.below hb3
  have hy3 := hy1.below hb3
  have hB3 := hB2.trans (hb3.mono hB2.size)
  clear hP1 hy1 hB2 hb3 HPRINT
  have hR := Rd.new w3 52 (T ++ Z) 0 rfl
  have hbA := below_alloc (Below.refl w3.heap.size w3) (.cells #[.string (T ++ Z), .int .i64 0, .bool false] 52)
  go_wp2_with fail
  refine (HREAD.out _ _ hR).mono ?_
  rintro e w5 ⟨y2, rfl, hy2, hv2, hR5, hG5⟩
  have hb35 := below_by hbA hG5 (Nat.le_refl _)
  have hP5 := hP3.below hb35
  have hy5 := hy3.below hb35
  have hB5 := hB3.trans (hb35.mono hB3.size)
  have HSM := Lib.hid (HSAME.out y1 y2 hv1 hv2)
  clear hR hbA hG5 hb35 hP3 hy3 hB3 HREAD HSAME
  generalize w3.heap.size = n10 at *
  have hz0 : pwE.In (w5.alloc (.cells #[.slice none 0 0, .int .i64 0, .slice none 0 0, .slice none 0 0, .slice none 0 0] 29)) w5.heap.size Pw.zero := El.In.new (E := pwE) w5 Pw.zero #[.slice none 0 0, .int .i64 0, .slice none 0 0, .slice none 0 0, .slice none 0 0] rfl
  have hQ5 := hz0.set y2 #[.slice y2.bA y2.base.length y2.bc, .int .i64 y2.t, .slice y2.oA y2.ops.length y2.oc, .slice y2.uA y2.us.length y2.uc, .slice y2.wA y2.now.length y2.wc] rfl
  have hbz : Below w5.heap.size w5 ((w5.alloc (.cells #[.slice none 0 0, .int .i64 0, .slice none 0 0, .slice none 0 0, .slice none 0 0] 29)).setRow w5.heap.size #[.slice y2.bA y2.base.length y2.bc, .int .i64 y2.t, .slice y2.oA y2.ops.length y2.oc, .slice y2.uA y2.us.length y2.uc, .slice y2.wA y2.now.length y2.wc]) := below_setRow (below_alloc (Below.refl _ _) _) (Nat.le_refl _) _
  go_wp2_with (first | (refine El.store pwRow rfl _ _ rfl w5.heap.size y2 #[.slice y2.bA y2.base.length y2.bc, .int .i64 y2.t, .slice y2.oA y2.ops.length y2.oc, .slice y2.uA y2.us.length y2.uc, .slice y2.wA y2.now.length y2.wc] rfl rfl rfl Pw.zero hz0 ?_) | fail)
  try simp only [Act.put, List.setIfInBounds_toArray, List.set_cons_zero, List.set_cons_succ]
  have hP6 := hP5.below hbz
  have hy6 := hy5.below hbz
  have hz6 := hy2.below hbz
  have hR6 := hR5.below hbz
  have hB6 := hB5.trans (hbz.mono hB5.size)
  clear hP5 hy5 hy2 hR5 hB5 hbz hz0
  generalize (w5.alloc (.cells #[.slice none 0 0, .int .i64 0, .slice none 0 0, .slice none 0 0, .slice none 0 0] 29)).setRow w5.heap.size #[.slice y2.bA y2.base.length y2.bc, .int .i64 y2.t, .slice y2.oA y2.ops.length y2.oc, .slice y2.uA y2.us.length y2.uc, .slice y2.wA y2.now.length y2.wc] = W6 at *
  generalize w5.heap.size = n11 at *
  refine (awake_any _).mono ?_
  rintro e w9 ⟨rfl, hb9⟩
  have hP9 := hP6.below hb9
  have hQ9 := hQ5.below hb9
  have hy9 := hy6.below hb9
  have hz9 := hz6.below hb9
  have hR9 := hR6.below hb9
  have hB9 := hB6.trans (hb9.mono hB6.size)
  clear hP6 hQ5 hy6 hz6 hR6 hB6 hb9
  obtain ⟨p0, p1, p2, p3, p4⟩ := pwIn5 hP9
  obtain ⟨q0, q1, q2, q3, q4⟩ := pwIn5 hQ9
  obtain ⟨r0, r1, r2⟩ := hR9.cells
  clear r0
  go_wp2_with fail
  clear p0 p1 p2 p3 p4 q0 q1 q2 q3 q4 r1 r2
  refine (HSM.out w9 hy9 hz9).mono ?_
  rintro e wa ⟨rfl, hba⟩
  go_wp2_with fail
  go_ret
  exact ⟨rfl, hB9.trans (hba.mono hB9.size)⟩

set_option maxRecDepth 100000 in
theorem back_lifted (os : Os) (started : os.Started) (H : Type) (enc : TypeId × Value → H) :
    ReturnsInHanded {} Try.checked os 8 .any (Rows.pastBackSpec.pre6 enc Try.prog Try.f8 Rows.pastBackRow.domain false) (Rows.pastBackSpec.post enc Try.prog Try.f8 false true false false) := by
  refine returnsInHanded_of_change (C := Try.checked) own started (by kernel_rfl) Try.func8
    (ChangeSpec.witness6 (enc := enc) (C := Try.checked) false ⟨#[], #[.slice none 0 0, .slice none 0 0, .string ⟨#[]⟩], []⟩ 8 (by kernel_rfl) (by kernel_rfl) (by kernel_rfl) (by kernel_rfl)) ?_
  intro W base args ds gs before hval0 hW _ _
  have hval : ∀ (j : Nat) t v, Try.f8.params[j]? = some t → args[j]? = some v → Value.okWide Try.prog W .any base t v := hval0
  have hW' := hW
  obtain ⟨p, q, hA0, hV, rfl, _, _⟩ := hW
  have hA : DataW.TrodAll enc Try.prog W 0 (fun _ => true) true Try.f8.params.toList args.toList ds p := hA0
  rw [Try.params8] at hA hval
  obtain ⟨v0, v1, v2, d0, d1, d2, p0, p1, p2, rfl, rfl, rfl, h0, h1, h2⟩ := trodAll_three hA
  obtain ⟨A, cap, l, rfl, hT, _, _, hw⟩ := open_ops (hval 0 22 v0 rfl rfl) h0
  obtain ⟨TA, tc, at_, rfl, hat0, _, _, hby⟩ := open_bytes (hval 1 23 v1 rfl rfl) h1
  obtain ⟨Z, rfl, _⟩ := open_str (hval 2 9 v2 rfl rfl) h2
  have hc : Calls Try.prog 8 #[.slice A l.length cap, .slice TA at_.length tc, .string Z] W fun e w' => e = .returned (.bool true) ∧ Below W.heap.size W w' := by
    by_cases hf : Fine l
    · by_cases hz : 500 < Z.size
      · exact back_no A cap l TA tc at_ Z W (opsz hw) hT (Or.inr ⟨hf, hz⟩)
      · exact back_walk A cap l TA tc at_ Z W (opsz hw) hT hat0 hby hf (by omega)
    · exact back_no A cap l TA tc at_ Z W (opsz hw) hT (Or.inl hf)
  refine hc.mono fun e W' ⟨he, hb⟩ => ?_
  subst he
  exact ⟨_, rfl, Frm.law_post (by kernel_rfl) (by kernel_rfl) (by kernel_rfl) Try.underlying4 rfl rfl hW' hb⟩

theorem back_holds : Rows.PastBackSaid :=
  OpenClaim.holds_of_wide 8 Try.f8 rfl rfl rfl rfl rfl rfl rfl ⟨rfl, rfl, rfl, rfl, rfl⟩ rfl rfl rfl rfl rfl (by kernel_rfl) Try.func8 (by kernel_rfl)
    (of_decide_eq_true (by kernel_rfl)) (by unfold Func.isWrapper; first | (rw [if_pos (by decide +kernel)]; kernel_rfl) | (rw [if_neg (by decide +kernel)]; exact ⟨rfl, rfl⟩))
    (fun os started H enc _ => back_lifted os started H enc)
end Go.Proofs.Ytoidondngoljaaa
