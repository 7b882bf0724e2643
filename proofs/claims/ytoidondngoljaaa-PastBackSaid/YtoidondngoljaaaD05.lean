/- Texts laid one behind the other: Wg, Wh, Vk, Wi, Wq, Wr, Ws. -/
import Derived.Test.YtoidondngoljaaaD04
import Derived.Deep.RegionHeld3
/- Add of the program: an operation put in. -/
namespace Go.Proofs.Ytoidondngoljaaa
open Go.RowKit Tre Cod Pst

/-- A past written cell by cell. -/
theorem pw_put {w : World} {b : Nat} {x : Pw} (h : pwE.In w b x) (y : Pw) :
    pwE.In (((((w.setCell ⟨b, 0, none⟩ (.slice y.bA y.base.length y.bc)).setCell ⟨b, 1, none⟩ (.int .i64 y.t)).setCell ⟨b, 2, none⟩ (.slice y.oA y.ops.length y.oc)).setCell ⟨b, 3, none⟩ (.slice y.uA y.us.length y.uc)).setCell ⟨b, 4, none⟩ (.slice y.wA y.now.length y.wc)) b y ∧
    w.grownBy (((((w.setCell ⟨b, 0, none⟩ (.slice y.bA y.base.length y.bc)).setCell ⟨b, 1, none⟩ (.int .i64 y.t)).setCell ⟨b, 2, none⟩ (.slice y.oA y.ops.length y.oc)).setCell ⟨b, 3, none⟩ (.slice y.uA y.us.length y.uc)).setCell ⟨b, 4, none⟩ (.slice y.wA y.now.length y.wc)) (some b) := by
  refine ⟨?_, by_cell2 (by_cell2 (by_cell2 (by_cell2 (by_cell w b 0 _) 1 _) 2 _) 3 _) 4 _⟩
  have h1 := h.put ⟨y.bA, y.bc, y.base, x.t, x.oA, x.oc, x.ops, x.uA, x.uc, x.us, x.wA, x.wc, x.now⟩ 0 (.slice y.bA y.base.length y.bc) rfl
  have h2 := h1.put ⟨y.bA, y.bc, y.base, y.t, x.oA, x.oc, x.ops, x.uA, x.uc, x.us, x.wA, x.wc, x.now⟩ 1 (.int .i64 y.t) rfl
  have h3 := h2.put ⟨y.bA, y.bc, y.base, y.t, y.oA, y.oc, y.ops, x.uA, x.uc, x.us, x.wA, x.wc, x.now⟩ 2 (.slice y.oA y.ops.length y.oc) rfl
  have h4 := h3.put ⟨y.bA, y.bc, y.base, y.t, y.oA, y.oc, y.ops, y.uA, y.uc, y.us, x.wA, x.wc, x.now⟩ 3 (.slice y.uA y.us.length y.uc) rfl
  exact h4.put y 4 (.slice y.wA y.now.length y.wc) rfl
def pick3 {α : Type} (a b c : α) (j : Nat) : α := match j with
  | 0 => a
  | 1 => b
  | _ => c


set_option maxRecDepth 100000 in
set_option maxHeartbeats 4000000 in
theorem pAdd_new (x : Pw) (m : Mv) (w : World) (hx : PastOk w x) (hI : PInv x.v) (hl : x.ops.length ≤ 200) (h : has Mv.C Mv.D x.ops m = false) (ht : ¬ m.C ≤ x.t) :
    Calls Try.prog 12 #[.agg #[.slice x.bA x.base.length x.bc, .int .i64 x.t, .slice x.oA x.ops.length x.oc, .slice x.uA x.us.length x.uc, .slice x.wA x.now.length x.wc], .agg #[.int .i64 m.C, .int .i64 m.D, .int .i64 m.I, .int .i64 m.M, .int .i64 m.K, .int .i64 m.U, .string m.s]] w fun e w' => ∃ y : Pw, e = .returned (.tuple #[.agg #[.slice y.bA y.base.length y.bc, .int .i64 y.t, .slice y.oA y.ops.length y.oc, .slice y.uA y.us.length y.uc, .slice y.wA y.now.length y.wc], .bool true]) ∧ PastOk w' y ∧ y.v = (addV x.v m).1 ∧ Below w.heap.size w w' := by
  have ha := addV_new' (q := x.v) ht h
  have hae := hI.add_eq m _ rfl
  have hl1 : x.base.length ≤ 62 := tree_len hI.tree
  have hl4 : x.now.length ≤ 62 := tree_len hI.ntree
  have hl3 : x.us.length = x.ops.length := hI.ulen
  have hI' : Ris Mv.C Mv.D x.ops := hI.ris
  have hbs : Sorted x.base := (treeB_facts hI.tree).2.1
  have hpl := pos_le (c := Mv.C) (d := Mv.D) x.ops m
  obtain ⟨bA, bc, base, t, oA, oc, ops, uA, uc, us, wA, wc, now⟩ := x
  simp only at hl h ht hl1 hl3 hl4 hI' hbs hpl
  simp only [Pw.v] at ha hae
  have HU := Lib.hid hl3
  have HA := Lib.hid ha
  have HE := Lib.hid hae
  clear ha hae hl3 hI
  have hP : pwE.In (((w.alloc (.cells #[.slice bA base.length bc, .int .i64 t, .slice oA ops.length oc, .slice uA us.length uc, .slice wA now.length wc] 29)).alloc (.cells #[.int .i64 m.C, .int .i64 m.D, .int .i64 m.I, .int .i64 m.M, .int .i64 m.K, .int .i64 m.U, .string m.s] 35)).alloc (.cells #[.slice none 0 0, .int .i64 0, .slice none 0 0, .slice none 0 0, .slice none 0 0] 29)) w.heap.size (⟨bA, bc, base, t, oA, oc, ops, uA, uc, us, wA, wc, now⟩ : Pw) := ((El.In.new (E := pwE) w (⟨bA, bc, base, t, oA, oc, ops, uA, uc, us, wA, wc, now⟩ : Pw) _ rfl).alloc _).alloc _
  have hO : opE.In (((w.alloc (.cells #[.slice bA base.length bc, .int .i64 t, .slice oA ops.length oc, .slice uA us.length uc, .slice wA now.length wc] 29)).alloc (.cells #[.int .i64 m.C, .int .i64 m.D, .int .i64 m.I, .int .i64 m.M, .int .i64 m.K, .int .i64 m.U, .string m.s] 35)).alloc (.cells #[.slice none 0 0, .int .i64 0, .slice none 0 0, .slice none 0 0, .slice none 0 0] 29)) (w.heap.size + 1) m := by
    have h := (El.In.new (E := opE) (w.alloc (.cells #[.slice bA base.length bc, .int .i64 t, .slice oA ops.length oc, .slice uA us.length uc, .slice wA now.length wc] 29)) m #[.int .i64 m.C, .int .i64 m.D, .int .i64 m.I, .int .i64 m.M, .int .i64 m.K, .int .i64 m.U, .string m.s] rfl).alloc (.cells #[.slice none 0 0, .int .i64 0, .slice none 0 0, .slice none 0 0, .slice none 0 0] 29)
    rw [alloc_size] at h; exact h
  have hR : pwE.In (((w.alloc (.cells #[.slice bA base.length bc, .int .i64 t, .slice oA ops.length oc, .slice uA us.length uc, .slice wA now.length wc] 29)).alloc (.cells #[.int .i64 m.C, .int .i64 m.D, .int .i64 m.I, .int .i64 m.M, .int .i64 m.K, .int .i64 m.U, .string m.s] 35)).alloc (.cells #[.slice none 0 0, .int .i64 0, .slice none 0 0, .slice none 0 0, .slice none 0 0] 29)) (w.heap.size + 2) Pw.zero := by
    have h := El.In.new (E := pwE) ((w.alloc (.cells #[.slice bA base.length bc, .int .i64 t, .slice oA ops.length oc, .slice uA us.length uc, .slice wA now.length wc] 29)).alloc (.cells #[.int .i64 m.C, .int .i64 m.D, .int .i64 m.I, .int .i64 m.M, .int .i64 m.K, .int .i64 m.U, .string m.s] 35)) Pw.zero #[.slice none 0 0, .int .i64 0, .slice none 0 0, .slice none 0 0, .slice none 0 0] rfl
    rw [alloc_size, alloc_size] at h; exact h
  have hB := below_alloc (below_alloc (below_alloc (Below.refl w.heap.size w) (.cells #[.slice bA base.length bc, .int .i64 t, .slice oA ops.length oc, .slice uA us.length uc, .slice wA now.length wc] 29)) (.cells #[.int .i64 m.C, .int .i64 m.D, .int .i64 m.I, .int .i64 m.M, .int .i64 m.K, .int .i64 m.U, .string m.s] 35)) (.cells #[.slice none 0 0, .int .i64 0, .slice none 0 0, .slice none 0 0, .slice none 0 0] 29)
  have HL := Lib.hid hx
  have hx0 := hx.below hB
  have CF := pfind_any oA oc ops m (((w.alloc (.cells #[.slice bA base.length bc, .int .i64 t, .slice oA ops.length oc, .slice uA us.length uc, .slice wA now.length wc] 29)).alloc (.cells #[.int .i64 m.C, .int .i64 m.D, .int .i64 m.I, .int .i64 m.M, .int .i64 m.K, .int .i64 m.U, .string m.s] 35)).alloc (.cells #[.slice none 0 0, .int .i64 0, .slice none 0 0, .slice none 0 0, .slice none 0 0] 29)) hI' (by omega) hx0.o.1
  clear hx hx0
  go_enter Try.func12, Try.ntmps12
  go_wp2_with fail
  generalize ((w.alloc (.cells #[.slice bA base.length bc, .int .i64 t, .slice oA ops.length oc, .slice uA us.length uc, .slice wA now.length wc] 29)).alloc (.cells #[.int .i64 m.C, .int .i64 m.D, .int .i64 m.I, .int .i64 m.M, .int .i64 m.K, .int .i64 m.U, .string m.s] 35)).alloc (.cells #[.slice none 0 0, .int .i64 0, .slice none 0 0, .slice none 0 0, .slice none 0 0] 29) = W at *
  obtain ⟨n2, h2⟩ : ∃ n, w.heap.size + 2 = n := ⟨_, rfl⟩
  obtain ⟨n1, h1⟩ : ∃ n, w.heap.size + 1 = n := ⟨_, rfl⟩
  obtain ⟨n0, h0⟩ : ∃ n, w.heap.size = n := ⟨_, rfl⟩
  have HN := Lib.hid (show w.heap.size ≤ n0 ∧ n1 = n0 + 1 ∧ n2 = n0 + 2 by omega)
  have hn20 : n2 ≠ n0 := by omega
  try rw [show w.heap.size + 1 + 1 = n2 by omega]
  rw [h2] at hR
  rw [h1] at hO ⊢
  rw [h0] at hP ⊢
  try rw [h2]
  clear h0 h1 h2
  refine CF.mono ?_
  rintro e W1 ⟨rfl, hb⟩
  clear CF
  replace hP := hP.below hb
  replace hO := hO.below hb
  replace hR := hR.below hb
  replace hB := hB.trans (hb.mono (by have := hB.size; omega))
  clear hb
  obtain ⟨p0, p1, p2, p3, p4⟩ := pwIn5 hP
  obtain ⟨o0, o1, o2, o3, o4, o5, o6⟩ := opIn7 hO
  rw [h]
  obtain ⟨k, hk⟩ : ∃ k, pos Mv.C Mv.D ops m = k := ⟨_, rfl⟩
  rw [hk] at hpl ⊢
  have HK := Lib.hid hk
  clear hk h
  have hE := even_any (⟨bA, bc, base, t, oA, oc, ops, uA, uc, us, wA, wc, now⟩ : Pw) W1 HU.out
  simp only at hE
  have HEV := Lib.hid hE
  clear hE
  go_wp2_with (first | (go_at_call 33; (with_reducible refine HEV.out.mono ?_); rintro e W2 ⟨rfl, hb2⟩))
  clear HEV p0 p1 p2 p3 p4 o0 o1 o2 o3 o4 o5 o6
  replace hP : pwE.In W2 n0 (⟨bA, bc, base, t, oA, oc, ops, uA, uc, us, wA, wc, now⟩ : Pw) := hP.below hb2
  replace hO : opE.In W2 n1 m := hO.below hb2
  replace hR : pwE.In W2 n2 Pw.zero := hR.below hb2
  replace hB : Below w.heap.size w W2 := hB.trans (hb2.mono (by have := hB.size; omega))
  clear hb2
  -- region 4: the operations, one more among them
  have hx2 := HL.out.below hB
  have hxo := hx2.o
  simp only at hxo
  obtain ⟨A3, hA3⟩ : ∃ A3 : Option Addr, (if oc = k then oA else Option.map (fun x => x.add (k * 7)) oA) = A3 := ⟨_, rfl⟩
  have ht1 := hxo.1.take k
  have ht3 := hxo.1.drop (to := k) hxo.2.2 hA3
  have hz3 : A3 = none → oc - k = 0 := El.drop_none hxo.2.1 hA3
  have e1 : (ops.take k).length = k := by rw [List.length_take]; omega
  have e3 : (ops.drop k).length = ops.length - k := List.length_drop
  have hkc : k ≤ oc := Nat.le_trans hpl hxo.2.2
  have i0 : (0 : Int) ≤ (k : Int) := by omega
  have i1 : (k : Int) ≤ (oc : Int) := by omega
  have i2 : (k : Int) ≤ (ops.length : Int) := by omega
  have hae := HE.out
  rw [HK.out] at hae
  have HE1 := Lib.hid e1
  have HE3 := Lib.hid e3
  generalize hL1 : ops.take k = L1 at *
  generalize hL3 : ops.drop k = L3 at *
  obtain ⟨u1, u2, u3, u4, u5, u6⟩ := hae
  have hb1s : Sorted (foldL base (mvs L1)).1 := foldL_sorted hbs _
  have hb1l : (foldL base (mvs L1)).1.length ≤ 262 := by have := foldL_len1 base (mvs L1); rw [mvs_len, HE1.out] at this; omega
  generalize (foldL base (mvs L1)).1 = b1 at *
  have hul : (us.take k).length = k := by rw [List.length_take, HU.out]; omega
  have hul3 : (us.drop k).length = us.length - k := List.length_drop
  obtain ⟨L, hL⟩ : ∃ L, insL Mv.C Mv.D ops m = L := ⟨_, rfl⟩
  have hLL : L = L1 ++ ([m] ++ L3) := by rw [← hL, u6]
  have hLl : L.length = ops.length + 1 := by rw [hLL, List.length_append, List.length_append, HE1.out, HE3.out]; simp only [List.length_singleton]; omega
  have hLd : L.drop k = [m] ++ L3 := by rw [hLL, ← HE1.out]; exact List.drop_left
  have hna := HA.out
  rw [hL] at hna u4 u5
  rw [u4, u5] at hna
  have HNA := Lib.hid hna
  have HLL := Lib.hid hLL
  have HLl := Lib.hid hLl
  have HLd := Lib.hid hLd
  have HU2 := Lib.hid u2
  have HU3 := Lib.hid u3
  have HUL := Lib.hid hul
  have HUL3 := Lib.hid hul3
  have HL3 := Lib.hid hL3
  have hUS3 : ∃ us3, us.drop k = us3 := ⟨_, rfl⟩
  clear u1 u2 u3 u4 u5 u6 hul hul3 hLL hLl hLd hna hL e1 e3 hL1 hL3 HE HA
  obtain ⟨us1, hUS1⟩ : ∃ us1, us.take k = us1 := ⟨_, rfl⟩
  rw [hUS1] at HNA HUL
  have HUS1 := Lib.hid hUS1
  clear hUS1
  have hl2 : n2 < W2.heap.size := hR.lt
  obtain ⟨us3, hUS3⟩ := hUS3
  rw [hUS3] at HU2 HUL3
  have HUS3 := Lib.hid hUS3
  clear hUS3
  -- the world in which the lists are put together
  have hBw : Below W2.heap.size W2 ((W2.alloc (.cells #[.int .i64 m.C, .int .i64 m.D, .int .i64 m.I, .int .i64 m.M, .int .i64 m.K, .int .i64 m.U, .string m.s] 35)).alloc (.cells #[.slice oA k oc, .slice (some ⟨W2.heap.size, 0, none⟩) 1 1, .slice A3 (ops.length - k) (oc - k)] 22)).drew := (below_alloc (below_alloc (Below.refl _ _) _) _).drew
  have hone : opE.Sl ((W2.alloc (.cells #[.int .i64 m.C, .int .i64 m.D, .int .i64 m.I, .int .i64 m.M, .int .i64 m.K, .int .i64 m.U, .string m.s] 35)).alloc (.cells #[.slice oA k oc, .slice (some ⟨W2.heap.size, 0, none⟩) 1 1, .slice A3 (ops.length - k) (oc - k)] 22)).drew (some ⟨W2.heap.size, 0, none⟩) [m] := ((El.In.new (E := opE) W2 m #[.int .i64 m.C, .int .i64 m.D, .int .i64 m.I, .int .i64 m.M, .int .i64 m.K, .int .i64 m.U, .string m.s] rfl).alloc _).sl
  have CC := concatOp_any (W2.heap.size + 1) (pick3 L1 [m] L3) (pick3 oA (some ⟨W2.heap.size, 0, none⟩) A3) (pick3 oc 1 (oc - k)) ((W2.alloc (.cells #[.int .i64 m.C, .int .i64 m.D, .int .i64 m.I, .int .i64 m.M, .int .i64 m.K, .int .i64 m.U, .string m.s] 35)).alloc (.cells #[.slice oA k oc, .slice (some ⟨W2.heap.size, 0, none⟩) 1 1, .slice A3 (ops.length - k) (oc - k)] 22)).drew
    (fun j hj => by
      match j, hj with
      | 0, _ => show _ = some (Value.slice oA L1.length oc); rw [HE1.out]; go_simp
      | 1, _ => show _ = some (Value.slice (some ⟨W2.heap.size, 0, none⟩) 1 1); go_simp
      | 2, _ => show _ = some (Value.slice A3 L3.length (oc - k)); rw [HE3.out]; go_simp)
    (fun j hj => by
      match j, hj with
      | 0, _ => exact ht1.below hBw
      | 1, _ => exact hone
      | 2, _ => exact ht3.below hBw)
    (fun j hj => by
      match j, hj with
      | 0, _ => exact hxo.2.1
      | 1, _ => intro e; cases e
      | 2, _ => exact hz3)
    (by show ((([] ++ L1) ++ [m]) ++ L3).length ≤ 1000; simp only [List.length_append, List.length_nil, List.length_singleton, HE1.out, HE3.out]; omega)
    (by simp)
  have ecat : catE (pick3 L1 [m] L3) 3 = L := by
    show (([] ++ L1) ++ [m]) ++ L3 = L
    rw [HLL.out, List.nil_append, List.append_assoc]
  rw [ecat] at CC
  have HCC := Lib.hid CC
  clear CC ecat hone
  have hPa : pwE.In (W2.alloc (.cells #[.int .i64 m.C, .int .i64 m.D, .int .i64 m.I, .int .i64 m.M, .int .i64 m.K, .int .i64 m.U, .string m.s] 35)).drew n0 (⟨bA, bc, base, t, oA, oc, ops, uA, uc, us, wA, wc, now⟩ : Pw) := hP.alloc (.cells #[.int .i64 m.C, .int .i64 m.D, .int .i64 m.I, .int .i64 m.M, .int .i64 m.K, .int .i64 m.U, .string m.s] 35)
  have hOa : opE.In (W2.alloc (.cells #[.int .i64 m.C, .int .i64 m.D, .int .i64 m.I, .int .i64 m.M, .int .i64 m.K, .int .i64 m.U, .string m.s] 35)).drew n1 m := hO.alloc (.cells #[.int .i64 m.C, .int .i64 m.D, .int .i64 m.I, .int .i64 m.M, .int .i64 m.K, .int .i64 m.U, .string m.s] 35)
  have hPb : pwE.In ((W2.alloc (.cells #[.int .i64 m.C, .int .i64 m.D, .int .i64 m.I, .int .i64 m.M, .int .i64 m.K, .int .i64 m.U, .string m.s] 35)).alloc (.cells #[.slice oA k oc, .slice (some ⟨W2.heap.size, 0, none⟩) 1 1, .slice A3 (ops.length - k) (oc - k)] 22)).drew n0 (⟨bA, bc, base, t, oA, oc, ops, uA, uc, us, wA, wc, now⟩ : Pw) := (hP.alloc (.cells #[.int .i64 m.C, .int .i64 m.D, .int .i64 m.I, .int .i64 m.M, .int .i64 m.K, .int .i64 m.U, .string m.s] 35)).alloc (.cells #[.slice oA k oc, .slice (some ⟨W2.heap.size, 0, none⟩) 1 1, .slice A3 (ops.length - k) (oc - k)] 22)
  have hOb : opE.In ((W2.alloc (.cells #[.int .i64 m.C, .int .i64 m.D, .int .i64 m.I, .int .i64 m.M, .int .i64 m.K, .int .i64 m.U, .string m.s] 35)).alloc (.cells #[.slice oA k oc, .slice (some ⟨W2.heap.size, 0, none⟩) 1 1, .slice A3 (ops.length - k) (oc - k)] 22)).drew n1 m := (hO.alloc (.cells #[.int .i64 m.C, .int .i64 m.D, .int .i64 m.I, .int .i64 m.M, .int .i64 m.K, .int .i64 m.U, .string m.s] 35)).alloc (.cells #[.slice oA k oc, .slice (some ⟨W2.heap.size, 0, none⟩) 1 1, .slice A3 (ops.length - k) (oc - k)] 22)
  have hP0 := hP
  have hO0 := hO
  replace hP : pwE.In W2.drew n0 (⟨bA, bc, base, t, oA, oc, ops, uA, uc, us, wA, wc, now⟩ : Pw) := hP
  replace hO : opE.In W2.drew n1 m := hO
  go_region_held3 (fun w' => w'.cell? ⟨n0, 2, none⟩ = some (.slice oA ops.length oc) ∧ (w'.cell? ⟨n1, 0, none⟩ = some (.int .i64 m.C) ∧ w'.cell? ⟨n1, 1, none⟩ = some (.int .i64 m.D) ∧ w'.cell? ⟨n1, 2, none⟩ = some (.int .i64 m.I) ∧ w'.cell? ⟨n1, 3, none⟩ = some (.int .i64 m.M) ∧ w'.cell? ⟨n1, 4, none⟩ = some (.int .i64 m.K) ∧ w'.cell? ⟨n1, 5, none⟩ = some (.int .i64 m.U) ∧ w'.cell? ⟨n1, 6, none⟩ = some (.string m.s))) (with_reducible first | exact ⟨(pwIn5 hP).2.2.1, opIn7 hO⟩ | exact ⟨(pwIn5 hPa).2.2.1, opIn7 hOa⟩ | exact ⟨(pwIn5 hPb).2.2.1, opIn7 hOb⟩ | exact ⟨(pwIn5 hP4).2.2.1, opIn7 hO4⟩) (first | (go_at_call 35; (with_reducible refine HCC.out.mono ?_); rintro e W4 ⟨A8, c8, rfl, hS8, hf8, hb8⟩; have hb48 := hBw.trans (hb8.mono hBw.size); have hP4 := hP0.below hb48; have hO4 := hO0.below hb48))
  replace hR := hR.below hb48
  replace hB := hB.trans (hb48.mono hB.size)
  replace hP := hP4
  have hf80 : Frs W2.heap.size A8 := hf8.mono (by have := hBw.size; exact this)
  clear hP0 hO0 hPa hOa hPb hOb hO4 hO hP4 HCC hBw ht1 ht3 hb8 hxo hx2
  go_wp2_with fail
  -- region 5: undone, and done again
  have hx4 := HL.out.below hB
  have hxo := hx4.o
  have hxu := hx4.u
  have hxw := hx4.w
  simp only at hxo hxu hxw
  obtain ⟨U3, hU3⟩ : ∃ U3 : Option Addr, (if uc = k then uA else Option.map (fun x => x.add (k * 5)) uA) = U3 := ⟨_, rfl⟩
  obtain ⟨A9, hA9⟩ : ∃ A9 : Option Addr, (if c8 = k then A8 else Option.map (fun x => x.add (k * 7)) A8) = A9 := ⟨_, rfl⟩
  have ht3 := hxo.1.drop (to := k) hxo.2.2 hA3
  have htu := hxu.1.drop (to := k) hxu.2.2 hU3
  have ht9 := hS8.1.drop (to := k) hS8.2.2 hA9
  rw [HL3.out] at ht3
  rw [HUS3.out] at htu
  have e9 : (L.drop k).length = L.length - k := List.length_drop
  rw [HLd.out] at ht9 e9
  have hld9 : ([m] ++ L3).length = 1 + L3.length := by rw [List.length_append, List.length_singleton]
  have hld8 : b1.length + ([m] ++ L3).length ≤ 900 := by rw [hld9, HE3.out]; omega
  generalize hLD : [m] ++ L3 = LD at *
  have j1 : (k : Int) ≤ (c8 : Int) := by have := hS8.2.2; have := HLl.out; omega
  have j2 : (k : Int) ≤ (L.length : Int) := by have := HLl.out; omega
  have j3 : (k : Int) ≤ (us.length : Int) := by have := HU.out; omega
  have j4 : (k : Int) ≤ (uc : Int) := by have := hxu.2.2; omega
  have CU := undone_any wA wc b1 now A3 (oc - k) L3 U3 (uc - k) us3 W4.drew (by have := HE3.out; omega) hb1s HU3.out HU2.out hxw ht3 htu
  rw [HE3.out, HUL3.out] at CU
  have CG : ∀ (A5 : Option Addr) (c5 : Nat) (W5 : World), SlV plE W5 A5 c5 b1 → opE.Sl W5 A9 LD → _ := fun A5 c5 W5 h1 h2 => mvFold_any A5 c5 b1 A9 (c8 - k) LD W5 hld8 hb1s h1 h2
  rw [e9] at CG
  have HCU := Lib.hid CU
  have HCG := Lib.hid CG
  have HLB := Lib.hid (show (foldL b1 (mvs LD)).2.length = LD.length ∧ LD.length ≤ 500 by rw [foldL_len, mvs_len, hld9, HE3.out]; omega)
  generalize (foldL b1 (mvs LD)).1 = now2 at *
  generalize (foldL b1 (mvs LD)).2 = us2 at *
  have HE9 := Lib.hid e9
  clear CU CG e9 hld9 hld8 hxo hxu hxw hx4 ht3 htu hLD
  have hP0 := hP
  have hR0 := hR
  have hS80 := hS8
  replace hP : pwE.In W4.drew n0 (⟨bA, bc, base, t, oA, oc, ops, uA, uc, us, wA, wc, now⟩ : Pw) := hP
  replace hR : pwE.In W4.drew n2 Pw.zero := hR
  replace hS8 : SlV opE W4.drew A8 c8 L := hS8
  replace ht9 : opE.Sl W4.drew A9 LD := ht9
  have hd4 : Below W4.heap.size W4 W4.drew := (Below.refl _ _).drew
  go_region_held3 (fun w' => w'.cell? ⟨n0, 4, none⟩ = some (.slice wA now.length wc) ∧ w'.cell? ⟨n0, 2, none⟩ = some (.slice oA ops.length oc) ∧ w'.cell? ⟨n0, 3, none⟩ = some (.slice uA us.length uc)) (with_reducible first | exact ⟨(pwIn5 hP).2.2.2.2, (pwIn5 hP).2.2.1, (pwIn5 hP).2.2.2.1⟩ | exact ⟨(pwIn5 hP6).2.2.2.2, (pwIn5 hP6).2.2.1, (pwIn5 hP6).2.2.2.1⟩ | exact ⟨(pwIn5 hP5).2.2.2.2, (pwIn5 hP5).2.2.1, (pwIn5 hP5).2.2.2.1⟩) (first | (go_at_call 37; (with_reducible refine HCU.out.mono ?_); rintro e W5 ⟨A5, c5, rfl, hS5, hb5⟩; have hP5 := hP.below hb5; have ht5 := ht9.below hb5) | (go_at_call 36; (with_reducible refine (HCG.out _ _ _ hS5 ht5).mono ?_); rintro e W6 ⟨A6, c6, U6, uc6, rfl, hS6, hU6, hf6, hfu6, hb6⟩; have hb46 := hd4.trans ((below_then hb5 hb6).mono hd4.size); have hP6 := hP0.below hb46))
  have hB6 := hB.trans (hb46.mono hB.size)
  have hP6' := hP6
  have hR6 : pwE.In W6 n2 Pw.zero := hR0.below hb46
  have hS86 := hS80.below hb46
  have hl25 : n2 < W5.heap.size := by have := hR.lt; have := hb5.size; omega
  have hx6 := HL.out.below hB6
  have hxb := hx6.b
  have hxu := hx6.u
  simp only at hxb hxu
  have htu := hxu.1.take k
  rw [HUS1.out] at htu
  have hl82 := hl2
  have hsz86 : W2.heap.size ≤ W6.heap.size := by have := hb48.size; have := hb46.size; omega
  obtain ⟨US, hUS⟩ : ∃ US, us1 ++ us2 = US := ⟨_, rfl⟩
  rw [hUS] at HNA
  have hus2 : us2.length ≤ 500 := by
    have := HLB.out
    omega
  have C1 := fun (wx : World) (h : SlV plE wx bA bc base) => clonePl_any bA bc base wx (by omega) h
  have C2 : ∀ (sb : Nat) (wx : World), wx.cell? ⟨sb, 0, none⟩ = some (.slice uA k uc) → wx.cell? ⟨sb, 1, none⟩ = some (.slice U6 us2.length uc6) → Below W6.heap.size W6 wx → sb < wx.heap.size →
      Calls Try.prog 39 #[.slice (some ⟨sb, 0, none⟩) 2 2] wx fun e w' => ∃ A' cap', e = .returned (.slice A' US.length cap') ∧ SlV unE w' A' cap' US ∧ Frs wx.heap.size A' ∧ Below wx.heap.size wx w' := fun sb wx q0 q1 hb hsb => by
    have h := concatUn_any sb (pick3 us1 us2 us2) (pick3 uA U6 U6) (pick3 uc uc6 uc6) wx
      (fun j hj => by
        match j, hj with
        | 0, _ => show _ = some (Value.slice uA us1.length uc); rw [HUL.out]; exact q0
        | 1, _ => exact q1)
      (fun j hj => by
        match j, hj with
        | 0, _ => exact htu.below hb
        | 1, _ => exact hU6.1.below hb)
      (fun j hj => by
        match j, hj with
        | 0, _ => exact hxu.2.1
        | 1, _ => exact hU6.2.1)
      (by show (([] ++ us1) ++ us2).length ≤ 1000; simp only [List.length_append, List.length_nil, HUL.out]; omega) hsb
    have e : catE (pick3 us1 us2 us2) 2 = US := by
      show ([] ++ us1) ++ us2 = US
      rw [List.nil_append]; exact hUS
    rw [e] at h
    exact h
  have HC1 := Lib.hid C1
  have HC2 := Lib.hid C2
  clear C1 C2 hus2 hUS
  have k0 : (k : Int) ≤ (uc : Int) := j4
  have hd6 : Below W6.heap.size W6 W6.drew := (Below.refl _ _).drew
  have hd6a : Below W6.heap.size W6 (W6.alloc (.cells #[.slice uA k uc, .slice U6 us2.length uc6] 27)).drew := (below_alloc (Below.refl _ _) _).drew
  have hxb0 : SlV plE W6.drew bA bc base := hxb
  have hxba := hxb.below hd6a
  have hP0 := hP6'
  have hPd : pwE.In W6.drew n0 (⟨bA, bc, base, t, oA, oc, ops, uA, uc, us, wA, wc, now⟩ : Pw) := hP6'
  have hPa : pwE.In (W6.alloc (.cells #[.slice uA k uc, .slice U6 us2.length uc6] 27)).drew n0 (⟨bA, bc, base, t, oA, oc, ops, uA, uc, us, wA, wc, now⟩ : Pw) := hP6'.below hd6a
  have hn02 : some n0 ≠ some n2 := fun e => hn20 (Option.some.inj e).symm
  clear hP hR hP6 hP5 hS8 ht9 ht5 hb5 hb6 hd4 hxb hxu hx6 hP6' HCU HCG
  go_wp2_with fail
  go_region_held3 (fun w' => w'.cell? ⟨n0, 0, none⟩ = some (.slice bA base.length bc) ∧ w'.cell? ⟨n0, 1, none⟩ = some (.int .i64 t) ∧ w'.cell? ⟨n0, 3, none⟩ = some (.slice uA us.length uc)) (with_reducible first | exact ⟨(pwIn5 hPd).1, (pwIn5 hPd).2.1, (pwIn5 hPd).2.2.2.1⟩ | exact ⟨(pwIn5 hPa).1, (pwIn5 hPa).2.1, (pwIn5 hPa).2.2.2.1⟩ | exact ⟨(pwIn5 hP7).1, (pwIn5 hP7).2.1, (pwIn5 hP7).2.2.2.1⟩ | exact ⟨(pwIn5 hP7a).1, (pwIn5 hP7a).2.1, (pwIn5 hP7a).2.2.2.1⟩ | exact ⟨(pwIn5 hP8).1, (pwIn5 hP8).2.1, (pwIn5 hP8).2.2.2.1⟩ | exact ⟨(pwIn5 (hP8.keep (pw_put hR8 ⟨A7, c7, base, t, A8, c8, L, A10, c10, US, A6, c6, now2⟩).2 hn02)).1, (pwIn5 (hP8.keep (pw_put hR8 ⟨A7, c7, base, t, A8, c8, L, A10, c10, US, A6, c6, now2⟩).2 hn02)).2.1, (pwIn5 (hP8.keep (pw_put hR8 ⟨A7, c7, base, t, A8, c8, L, A10, c10, US, A6, c6, now2⟩).2 hn02)).2.2.2.1⟩) (first | (go_at_call 38; (with_reducible first | refine (HC1.out _ hxb0).mono ?_ | refine (HC1.out _ hxba).mono ?_); rintro e w7 ⟨A7, c7, rfl, hS7, hf7, hb7⟩; have hb67 : Below W6.heap.size W6 w7 := (by first | exact hd6.trans (hb7.mono hd6.size) | exact hd6a.trans (hb7.mono hd6a.size)); have hf7' : Frs W6.heap.size A7 := hf7.mono (by first | exact hd6.size | exact hd6a.size); have hP7 := hP0.below hb67; have hP7a := hP7.alloc (.cells #[.slice uA k uc, .slice U6 us2.length uc6] 27)) | (go_at_call 39; first | (have z0 : (w7.alloc (.cells #[.slice uA k uc, .slice U6 us2.length uc6] 27)).cell? ⟨w7.heap.size, 0, none⟩ = some (.slice uA k uc) := (by go_simp); have z1 : (w7.alloc (.cells #[.slice uA k uc, .slice U6 us2.length uc6] 27)).cell? ⟨w7.heap.size, 1, none⟩ = some (.slice U6 us2.length uc6) := (by go_simp); with_reducible refine (HC2.out _ _ z0 z1 (hb67.alloc hb67.size (.cells #[.slice uA k uc, .slice U6 us2.length uc6] 27)) (by rw [alloc_size]; exact Nat.lt_succ_self _)).mono ?_) | (have z0 : w7.cell? ⟨W6.heap.size, 0, none⟩ = some (.slice uA k uc) := (by rw [(bcell hb7).1 _ _ (by simp)]; go_simp); have z1 : w7.cell? ⟨W6.heap.size, 1, none⟩ = some (.slice U6 us2.length uc6) := (by rw [(bcell hb7).1 _ _ (by simp)]; go_simp); with_reducible refine (HC2.out _ _ z0 z1 hb67 (by have := hb7.size; simp at this; omega)).mono ?_)); rintro e w8 ⟨A10, c10, rfl, hS10, hf10, hb8⟩; have hb78 : Below w7.heap.size w7 w8 := (by first | exact hb8 | exact (below_alloc (Below.refl w7.heap.size w7) (.cells #[.slice uA k uc, .slice U6 us2.length uc6] 27)).trans (hb8.mono (by simp))); have hf10' : Frs w7.heap.size A10 := hf10.mono (by first | exact Nat.le_refl _ | simp); have hb68 := hb67.trans (hb78.mono hb67.size); have hP8 := hP0.below hb68; have hR8 := hR6.below hb68; obtain ⟨r0, r1, r2, r3, r4⟩ := pwIn5 hR8; have rf := hR8.frozen)
  all_goals
    have hz := pw_put hR8 ⟨A7, c7, base, t, A8, c8, L, A10, c10, US, A6, c6, now2⟩
    go_wp2
    refine El.ret2 pwRow (v := .bool true) hz.1 rfl rfl rfl rfl #[.slice A7 base.length c7, .int .i64 t, .slice A8 L.length c8, .slice A10 US.length c10, .slice A6 now2.length c6] rfl ?_
    have h6 := hR6.lt
    have h7 := hb67.size
    have hB8 := hB6.trans (hb68.mono hB6.size)
    exact ⟨⟨A7, c7, base, t, A8, c8, L, A10, c10, US, A6, c6, now2⟩, rfl, ⟨(hS7.below hb78).keep hf7' hz.2 h6, (hS86.below hb68).keep hf80 hz.2 hl82, hS10.keep hf10' hz.2 (by omega), (hS6.below hb68).keep hf6 hz.2 hl25⟩, by show _ = (addV ⟨base, t, ops, us, now⟩ m).1; rw [HNA.out]; rfl, hB8.grown hz.2 hB8.size (fun j e => by have := Option.some.inj e; have := HN.out; omega)⟩
end Go.Proofs.Ytoidondngoljaaa

/- Settle of the program. -/
namespace Go.Proofs.Ytoidondngoljaaa
open Go.RowKit Tre Cod Pst

set_option maxRecDepth 100000 in
set_option maxHeartbeats 4000000 in
theorem pSettle_late (x : Pw) (s : Int) (w : World) (hx : PastOk w x) (hI : PInv x.v) (hl : x.ops.length ≤ 200) (h : s ≤ x.t) :
    Calls Try.prog 14 #[.agg #[.slice x.bA x.base.length x.bc, .int .i64 x.t, .slice x.oA x.ops.length x.oc, .slice x.uA x.us.length x.uc, .slice x.wA x.now.length x.wc], .int .i64 s] w fun e w' => ∃ y : Pw, e = .returned (.agg #[.slice y.bA y.base.length y.bc, .int .i64 y.t, .slice y.oA y.ops.length y.oc, .slice y.uA y.us.length y.uc, .slice y.wA y.now.length y.wc]) ∧ PastOk w' y ∧ y.v = settleV x.v s ∧ Below w.heap.size w w' := by
  have ha : settleV x.v s = x.v := settleV_late' h
  have hl1 : x.base.length ≤ 62 := tree_len hI.tree
  have hl4 : x.now.length ≤ 62 := tree_len hI.ntree
  have hl3 : x.us.length = x.ops.length := hI.ulen
  rw [ha]
  obtain ⟨bA, bc, base, t, oA, oc, ops, uA, uc, us, wA, wc, now⟩ := x
  simp only at hl h hl1 hl3 hl4
  have HU := Lib.hid hl3
  clear ha hl3 hI
  have hP : pwE.In (((w.alloc (.cells #[.slice bA base.length bc, .int .i64 t, .slice oA ops.length oc, .slice uA us.length uc, .slice wA now.length wc] 29)).alloc (.cells #[.int .i64 s] 3)).alloc (.cells #[.slice none 0 0, .int .i64 0, .slice none 0 0, .slice none 0 0, .slice none 0 0] 29)) w.heap.size (⟨bA, bc, base, t, oA, oc, ops, uA, uc, us, wA, wc, now⟩ : Pw) := ((El.In.new (E := pwE) w (⟨bA, bc, base, t, oA, oc, ops, uA, uc, us, wA, wc, now⟩ : Pw) _ rfl).alloc _).alloc _
  have hO : (((w.alloc (.cells #[.slice bA base.length bc, .int .i64 t, .slice oA ops.length oc, .slice uA us.length uc, .slice wA now.length wc] 29)).alloc (.cells #[.int .i64 s] 3)).alloc (.cells #[.slice none 0 0, .int .i64 0, .slice none 0 0, .slice none 0 0, .slice none 0 0] 29)).cell? ⟨w.heap.size + 1, 0, none⟩ = some (.int .i64 s) := by go_simp
  have hR : pwE.In (((w.alloc (.cells #[.slice bA base.length bc, .int .i64 t, .slice oA ops.length oc, .slice uA us.length uc, .slice wA now.length wc] 29)).alloc (.cells #[.int .i64 s] 3)).alloc (.cells #[.slice none 0 0, .int .i64 0, .slice none 0 0, .slice none 0 0, .slice none 0 0] 29)) (w.heap.size + 2) Pw.zero := by
    have h := El.In.new (E := pwE) ((w.alloc (.cells #[.slice bA base.length bc, .int .i64 t, .slice oA ops.length oc, .slice uA us.length uc, .slice wA now.length wc] 29)).alloc (.cells #[.int .i64 s] 3)) Pw.zero #[.slice none 0 0, .int .i64 0, .slice none 0 0, .slice none 0 0, .slice none 0 0] rfl
    rw [alloc_size, alloc_size] at h; exact h
  have hB := below_alloc (below_alloc (below_alloc (Below.refl w.heap.size w) (.cells #[.slice bA base.length bc, .int .i64 t, .slice oA ops.length oc, .slice uA us.length uc, .slice wA now.length wc] 29)) (.cells #[.int .i64 s] 3)) (.cells #[.slice none 0 0, .int .i64 0, .slice none 0 0, .slice none 0 0, .slice none 0 0] 29)
  have hsz : (((w.alloc (.cells #[.slice bA base.length bc, .int .i64 t, .slice oA ops.length oc, .slice uA us.length uc, .slice wA now.length wc] 29)).alloc (.cells #[.int .i64 s] 3)).alloc (.cells #[.slice none 0 0, .int .i64 0, .slice none 0 0, .slice none 0 0, .slice none 0 0] 29)).heap.size = w.heap.size + 3 := by rw [alloc_size, alloc_size, alloc_size]
  have HL := Lib.hid hx
  clear hx
  go_enter Try.func14, Try.ntmps14
  go_wp2_with (first | (refine El.load pwRow rfl _ rfl w.heap.size 0 rfl (⟨bA, bc, base, t, oA, oc, ops, uA, uc, us, wA, wc, now⟩ : Pw) hP.at #[.slice bA base.length bc, .int .i64 t, .slice oA ops.length oc, .slice uA us.length uc, .slice wA now.length wc] rfl ?_) | fail)
  generalize ((w.alloc (.cells #[.slice bA base.length bc, .int .i64 t, .slice oA ops.length oc, .slice uA us.length uc, .slice wA now.length wc] 29)).alloc (.cells #[.int .i64 s] 3)).alloc (.cells #[.slice none 0 0, .int .i64 0, .slice none 0 0, .slice none 0 0, .slice none 0 0] 29) = W at *
  obtain ⟨n2, h2⟩ : ∃ n, w.heap.size + 2 = n := ⟨_, rfl⟩
  obtain ⟨n1, h1⟩ : ∃ n, w.heap.size + 1 = n := ⟨_, rfl⟩
  obtain ⟨n0, h0⟩ : ∃ n, w.heap.size = n := ⟨_, rfl⟩
  have HN := Lib.hid (show w.heap.size ≤ n0 ∧ n1 = n0 + 1 ∧ n2 = n0 + 2 by omega)
  have hn20 : n2 ≠ n0 := by omega
  try rw [show w.heap.size + 1 + 1 = n2 by omega]
  rw [h2] at hR
  rw [h1] at hO ⊢
  rw [h0] at hP ⊢
  try rw [h2]
  have hl1n : n1 < W.heap.size := by omega
  clear h0 h1 h2
  have hx1 := HL.out.below hB
  have CS := psame_any (⟨bA, bc, base, t, oA, oc, ops, uA, uc, us, wA, wc, now⟩ : Pw) W hx1 (by simp only; omega) (by simp only; omega) (by simp only; rw [HU.out]; omega) (by simp only; omega)
  simp only at CS
  refine CS.mono ?_
  rintro e W2 ⟨y, rfl, hy, hyv, hyf, hb2⟩
  have hR2 := hR.below hb2
  go_wp2_with (first | (refine El.store pwRow rfl _ _ rfl n2 y #[.slice y.bA y.base.length y.bc, .int .i64 y.t, .slice y.oA y.ops.length y.oc, .slice y.uA y.us.length y.uc, .slice y.wA y.now.length y.wc] rfl rfl rfl Pw.zero hR2 ?_))
  refine El.ret1 pwRow (hR2.set y #[.slice y.bA y.base.length y.bc, .int .i64 y.t, .slice y.oA y.ops.length y.oc, .slice y.uA y.us.length y.uc, .slice y.wA y.now.length y.wc] rfl) rfl rfl rfl #[.slice y.bA y.base.length y.bc, .int .i64 y.t, .slice y.oA y.ops.length y.oc, .slice y.uA y.us.length y.uc, .slice y.wA y.now.length y.wc] rfl ?_
  have hw2 : w.heap.size ≤ n2 := by have := HN.out; omega
  have hB2 := hB.trans (hb2.mono (by have := hB.size; omega))
  have hl2 := hR.lt
  exact ⟨y, rfl, hy.keep hyf (by_row _ _ _) hl2, hyv, below_setRow hB2 hw2 _⟩

set_option maxRecDepth 100000 in
set_option maxHeartbeats 4000000 in
theorem pSettle_new (x : Pw) (s : Int) (w : World) (hx : PastOk w x) (hI : PInv x.v) (hl : x.ops.length ≤ 200) (h : ¬ s ≤ x.t) :
    Calls Try.prog 14 #[.agg #[.slice x.bA x.base.length x.bc, .int .i64 x.t, .slice x.oA x.ops.length x.oc, .slice x.uA x.us.length x.uc, .slice x.wA x.now.length x.wc], .int .i64 s] w fun e w' => ∃ y : Pw, e = .returned (.agg #[.slice y.bA y.base.length y.bc, .int .i64 y.t, .slice y.oA y.ops.length y.oc, .slice y.uA y.us.length y.uc, .slice y.wA y.now.length y.wc]) ∧ PastOk w' y ∧ y.v = settleV x.v s ∧ Below w.heap.size w w' := by
  have ha : settleV x.v s = _ := hI.settle_eq h
  have hl1 : x.base.length ≤ 62 := tree_len hI.tree
  have hl4 : x.now.length ≤ 62 := tree_len hI.ntree
  have hl3 : x.us.length = x.ops.length := hI.ulen
  have hI' : Ris Mv.C Mv.D x.ops := hI.ris
  have hbs : Sorted x.base := (treeB_facts hI.tree).2.1
  obtain ⟨bA, bc, base, t, oA, oc, ops, uA, uc, us, wA, wc, now⟩ := x
  simp only at hl h hl1 hl3 hl4 hI' hbs
  simp only [Pw.v] at ha
  have HU := Lib.hid hl3
  have HA := Lib.hid ha
  clear ha hl3 hI
  have hP : pwE.In (((w.alloc (.cells #[.slice bA base.length bc, .int .i64 t, .slice oA ops.length oc, .slice uA us.length uc, .slice wA now.length wc] 29)).alloc (.cells #[.int .i64 s] 3)).alloc (.cells #[.slice none 0 0, .int .i64 0, .slice none 0 0, .slice none 0 0, .slice none 0 0] 29)) w.heap.size (⟨bA, bc, base, t, oA, oc, ops, uA, uc, us, wA, wc, now⟩ : Pw) := ((El.In.new (E := pwE) w (⟨bA, bc, base, t, oA, oc, ops, uA, uc, us, wA, wc, now⟩ : Pw) _ rfl).alloc _).alloc _
  have hO : (((w.alloc (.cells #[.slice bA base.length bc, .int .i64 t, .slice oA ops.length oc, .slice uA us.length uc, .slice wA now.length wc] 29)).alloc (.cells #[.int .i64 s] 3)).alloc (.cells #[.slice none 0 0, .int .i64 0, .slice none 0 0, .slice none 0 0, .slice none 0 0] 29)).cell? ⟨w.heap.size + 1, 0, none⟩ = some (.int .i64 s) := by go_simp
  have hR : pwE.In (((w.alloc (.cells #[.slice bA base.length bc, .int .i64 t, .slice oA ops.length oc, .slice uA us.length uc, .slice wA now.length wc] 29)).alloc (.cells #[.int .i64 s] 3)).alloc (.cells #[.slice none 0 0, .int .i64 0, .slice none 0 0, .slice none 0 0, .slice none 0 0] 29)) (w.heap.size + 2) Pw.zero := by
    have h := El.In.new (E := pwE) ((w.alloc (.cells #[.slice bA base.length bc, .int .i64 t, .slice oA ops.length oc, .slice uA us.length uc, .slice wA now.length wc] 29)).alloc (.cells #[.int .i64 s] 3)) Pw.zero #[.slice none 0 0, .int .i64 0, .slice none 0 0, .slice none 0 0, .slice none 0 0] rfl
    rw [alloc_size, alloc_size] at h; exact h
  have hB := below_alloc (below_alloc (below_alloc (Below.refl w.heap.size w) (.cells #[.slice bA base.length bc, .int .i64 t, .slice oA ops.length oc, .slice uA us.length uc, .slice wA now.length wc] 29)) (.cells #[.int .i64 s] 3)) (.cells #[.slice none 0 0, .int .i64 0, .slice none 0 0, .slice none 0 0, .slice none 0 0] 29)
  have hsz : (((w.alloc (.cells #[.slice bA base.length bc, .int .i64 t, .slice oA ops.length oc, .slice uA us.length uc, .slice wA now.length wc] 29)).alloc (.cells #[.int .i64 s] 3)).alloc (.cells #[.slice none 0 0, .int .i64 0, .slice none 0 0, .slice none 0 0, .slice none 0 0] 29)).heap.size = w.heap.size + 3 := by rw [alloc_size, alloc_size, alloc_size]
  have HL := Lib.hid hx
  clear hx
  have hE := even_any (⟨bA, bc, base, t, oA, oc, ops, uA, uc, us, wA, wc, now⟩ : Pw) (((w.alloc (.cells #[.slice bA base.length bc, .int .i64 t, .slice oA ops.length oc, .slice uA us.length uc, .slice wA now.length wc] 29)).alloc (.cells #[.int .i64 s] 3)).alloc (.cells #[.slice none 0 0, .int .i64 0, .slice none 0 0, .slice none 0 0, .slice none 0 0] 29)) HU.out
  simp only at hE
  go_enter Try.func14, Try.ntmps14
  go_wp2_with fail
  generalize ((w.alloc (.cells #[.slice bA base.length bc, .int .i64 t, .slice oA ops.length oc, .slice uA us.length uc, .slice wA now.length wc] 29)).alloc (.cells #[.int .i64 s] 3)).alloc (.cells #[.slice none 0 0, .int .i64 0, .slice none 0 0, .slice none 0 0, .slice none 0 0] 29) = W at *
  obtain ⟨n2, h2⟩ : ∃ n, w.heap.size + 2 = n := ⟨_, rfl⟩
  obtain ⟨n1, h1⟩ : ∃ n, w.heap.size + 1 = n := ⟨_, rfl⟩
  obtain ⟨n0, h0⟩ : ∃ n, w.heap.size = n := ⟨_, rfl⟩
  have HN := Lib.hid (show w.heap.size ≤ n0 ∧ n1 = n0 + 1 ∧ n2 = n0 + 2 by omega)
  have hn20 : n2 ≠ n0 := by omega
  try rw [show w.heap.size + 1 + 1 = n2 by omega]
  rw [h2] at hR
  rw [h1] at hO ⊢
  rw [h0] at hP ⊢
  try rw [h2]
  have hl1n : n1 < W.heap.size := by omega
  clear h0 h1 h2
  refine hE.mono ?_
  rintro e W2 ⟨rfl, hb2⟩
  clear hE
  replace hP := hP.below hb2
  replace hR := hR.below hb2
  have hO2 : W2.cell? ⟨n1, 0, none⟩ = some (.int .i64 s) := by rw [(bcell hb2).1 _ _ hl1n]; exact hO
  replace hB := hB.trans (hb2.mono (by have := hB.size; omega))
  have hl1m : n1 < W2.heap.size := by have := hb2.size; omega
  clear hb2 hO hl1n hsz
  have hxo := (HL.out.below hB).o
  simp only at hxo
  have hl0 := hP.lt
  have CS := search2_any ops.length n0 n1 (fun i => if h : i < ops.length then decide (s < ops[i].C) else true) W2 (by omega)
    (fun i j hij hj hpi => by
      rw [dif_pos (show i < ops.length by omega)] at hpi
      rw [dif_pos hj]
      have := ris_c hI' (show i < ops.length by omega) hj hij
      rw [decide_eq_true_iff] at hpi ⊢; omega)
    (fun i w' hi hb => by
      have := upOne_any i (⟨bA, bc, base, t, oA, oc, ops, uA, uc, us, wA, wc, now⟩ : Pw) s n0 n1 w' (hP.below hb) (by rw [(bcell hb).1 _ _ hl1m]; exact hO2) (hxo.1.below hb) hi (by simp only; omega)
      rw [dif_pos hi]; exact this)
  obtain ⟨p0, p1, p2, p3, p4⟩ := pwIn5 hP
  go_wp2_with fail
  clear p0 p1 p2 p3 p4
  refine CS.mono ?_
  rintro e W3 ⟨k, rfl, hk, hlo, hhi, hb3⟩
  clear CS
  have hup : k = upto Mv.C ops s := upto_eq hk (fun i hi hik => by have := hlo i hik; rw [dif_pos hi] at this; have := of_decide_eq_false this; omega) (fun hi => by have := hhi k (Nat.le_refl _) hi; rw [dif_pos hi] at this; exact of_decide_eq_true this)
  have hna := HA.out
  rw [← hup] at hna
  have HNA := Lib.hid hna
  replace hP := hP.below hb3
  replace hR := hR.below hb3
  have hO3 : W3.cell? ⟨n1, 0, none⟩ = some (.int .i64 s) := by rw [(bcell hb3).1 _ _ hl1m]; exact hO2
  replace hB := hB.trans (hb3.mono (by have := hB.size; omega))
  have hl2n : n2 < W3.heap.size := hR.lt
  replace hl1m : n1 < W3.heap.size := by have := hb3.size; omega
  clear hb3 hO2 hlo hhi hna HA hup hl0 hxo
  go_wp2_with fail
  have hx3 := HL.out.below hB
  have hxb := hx3.b
  have hxo := hx3.o
  have hxu := hx3.u
  have hxw := hx3.w
  simp only at hxb hxo hxu hxw
  obtain ⟨A3, hA3⟩ : ∃ A3 : Option Addr, (if oc = k then oA else Option.map (fun x => x.add (k * 7)) oA) = A3 := ⟨_, rfl⟩
  obtain ⟨U3, hU3⟩ : ∃ U3 : Option Addr, (if uc = k then uA else Option.map (fun x => x.add (k * 5)) uA) = U3 := ⟨_, rfl⟩
  have ht1 := hxo.1.take k
  have ht3 := hxo.1.drop (to := k) hxo.2.2 hA3
  have htu := hxu.1.drop (to := k) hxu.2.2 hU3
  have e1 : (ops.take k).length = k := by rw [List.length_take]; omega
  have e3 : (ops.drop k).length = ops.length - k := List.length_drop
  have eu : (us.drop k).length = us.length - k := List.length_drop
  have hv3 : SlV opE W3 A3 (oc - k) (ops.drop k) := ⟨ht3, El.drop_none hxo.2.1 hA3, by rw [e3]; have := hxo.2.2; omega⟩
  have hvu : SlV unE W3 U3 (uc - k) (us.drop k) := ⟨htu, El.drop_none hxu.2.1 hU3, by rw [eu]; have := hxu.2.2; omega⟩
  have hkc : k ≤ oc := Nat.le_trans hk hxo.2.2
  have i0 : (0 : Int) ≤ (k : Int) := by omega
  have i1 : (k : Int) ≤ (oc : Int) := by omega
  have i2 : (k : Int) ≤ (ops.length : Int) := by omega
  have i3 : (k : Int) ≤ (us.length : Int) := by have := HU.out; omega
  have i4 : (k : Int) ≤ (uc : Int) := by have := hxu.2.2; have := HU.out; omega
  have CF := mvFold_any bA bc base oA oc (ops.take k) W3.drew (by rw [e1]; omega) hbs hxb ht1
  rw [e1] at CF
  have HCF := Lib.hid CF
  have HE3 := Lib.hid e3
  have HEU := Lib.hid eu
  clear CF ht1 ht3 htu hxb hxo hxu e1 e3 eu hx3
  generalize hL3 : ops.drop k = L3 at *
  generalize hus3 : us.drop k = us3 at *
  generalize (foldL base (mvs (ops.take k))).1 = b4 at *
  generalize (foldL base (mvs (ops.take k))).2 = u4 at *
  clear hL3 hus3
  have hP0 := hP
  have hPd : pwE.In W3.drew n0 (⟨bA, bc, base, t, oA, oc, ops, uA, uc, us, wA, wc, now⟩ : Pw) := hP
  have hd3 : Below W3.heap.size W3 W3.drew := (Below.refl _ _).drew
  go_region_held3 (fun w' => w'.cell? ⟨n0, 0, none⟩ = some (.slice bA base.length bc) ∧ w'.cell? ⟨n0, 2, none⟩ = some (.slice oA ops.length oc)) (with_reducible first | exact ⟨(pwIn5 hPd).1, (pwIn5 hPd).2.2.1⟩ | exact ⟨(pwIn5 hP4).1, (pwIn5 hP4).2.2.1⟩) (first | (go_at_call 36; (with_reducible refine HCF.out.mono ?_); rintro e W4 ⟨A4, c4, U4, uc4, rfl, hS4, hU4, hf4, hfu4, hb4⟩; have hb34 := hd3.trans (hb4.mono hd3.size); have hP4 := hP0.below hb34))
  replace hR := hR.below hb34
  replace hB := hB.trans (hb34.mono hB.size)
  have hO4 : W4.cell? ⟨n1, 0, none⟩ = some (.int .i64 s) := by rw [(bcell hb34).1 _ _ hl1m]; exact hO3
  have hl2 : n2 < W3.heap.size := by have := hb34.size; exact hl2n
  have hl1m4 : n1 < W4.heap.size := by have := hb34.size; omega
  replace hv3 := hv3.below hb34
  replace hvu := hvu.below hb34
  replace hxw := hxw.below hb34
  clear hP hP0 hPd hd3 hU4 hfu4 hO3 HCF hb4
  have hl24 : n2 < W4.heap.size := hR.lt
  have C1 := fun (wx : World) (h : SlV opE wx A3 (oc - k) L3) => cloneOp_any A3 (oc - k) L3 wx (by have := HE3.out; omega) h
  have C2 := fun (wx : World) (h : SlV unE wx U3 (uc - k) us3) => cloneUn_any U3 (uc - k) us3 wx (by have := HEU.out; have := HU.out; omega) h
  have C3 := fun (wx : World) (h : SlV plE wx wA wc now) => clonePl_any wA wc now wx (by omega) h
  rw [show (#[Value.slice A3 L3.length (oc - k)] : Array Value) = #[Value.slice A3 (ops.length - k) (oc - k)] by rw [HE3.out]] at C1
  rw [show (#[Value.slice U3 us3.length (uc - k)] : Array Value) = #[Value.slice U3 (us.length - k) (uc - k)] by rw [HEU.out]] at C2
  have HC1 := Lib.hid C1
  have HC2 := Lib.hid C2
  have HC3 := Lib.hid C3
  clear C1 C2 C3
  have hv30 : SlV opE W4.drew A3 (oc - k) L3 := hv3
  have hd4 : Below W4.heap.size W4 W4.drew := (Below.refl _ _).drew
  have hPd : pwE.In W4.drew n0 (⟨bA, bc, base, t, oA, oc, ops, uA, uc, us, wA, wc, now⟩ : Pw) := hP4
  have hOd : W4.drew.cell? ⟨n1, 0, none⟩ = some (.int .i64 s) := hO4
  have hn02 : some n0 ≠ some n2 := fun e => hn20 (Option.some.inj e).symm
  have hn12 : some n1 ≠ some n2 := fun e => by have := Option.some.inj e; have := HN.out; omega
  go_wp2_with fail
  go_region_held3 (fun w' => w'.cell? ⟨n1, 0, none⟩ = some (.int .i64 s) ∧ w'.cell? ⟨n0, 2, none⟩ = some (.slice oA ops.length oc) ∧ w'.cell? ⟨n0, 3, none⟩ = some (.slice uA us.length uc) ∧ w'.cell? ⟨n0, 4, none⟩ = some (.slice wA now.length wc)) (with_reducible first | exact ⟨hOd, (pwIn5 hPd).2.2.1, (pwIn5 hPd).2.2.2.1, (pwIn5 hPd).2.2.2.2⟩ | exact ⟨hO5, (pwIn5 hP5).2.2.1, (pwIn5 hP5).2.2.2.1, (pwIn5 hP5).2.2.2.2⟩ | exact ⟨hO6, (pwIn5 hP6).2.2.1, (pwIn5 hP6).2.2.2.1, (pwIn5 hP6).2.2.2.2⟩ | exact ⟨hO7, (pwIn5 hP7).2.2.1, (pwIn5 hP7).2.2.2.1, (pwIn5 hP7).2.2.2.2⟩ | exact ⟨hOz, (pwIn5 (hP7.keep (pw_put hR7 ⟨A4, c4, b4, s, A5, c5, L3, A6, c6, us3, A7, c7, now⟩).2 hn02)).2.2.1, (pwIn5 (hP7.keep (pw_put hR7 ⟨A4, c4, b4, s, A5, c5, L3, A6, c6, us3, A7, c7, now⟩).2 hn02)).2.2.2.1, (pwIn5 (hP7.keep (pw_put hR7 ⟨A4, c4, b4, s, A5, c5, L3, A6, c6, us3, A7, c7, now⟩).2 hn02)).2.2.2.2⟩) (first | (go_at_call 42; (with_reducible refine (HC1.out _ hv30).mono ?_); rintro e W5 ⟨A5, c5, rfl, hS5, hf5, hb5⟩; have hb45 := hd4.trans (hb5.mono hd4.size); have hP5 := hP4.below hb45; have hO5 : W5.cell? ⟨n1, 0, none⟩ = some (.int .i64 s) := (by rw [(bcell hb45).1 _ _ hl1m4]; exact hO4); have hvu5 := hvu.below hb45; have hxw5 := hxw.below hb45) | (go_at_call 43; (with_reducible refine (HC2.out _ hvu5).mono ?_); rintro e W6 ⟨A6, c6, rfl, hS6, hf6, hb6⟩; have hb46 := hb45.trans (hb6.mono hb45.size); have hP6 := hP4.below hb46; have hO6 : W6.cell? ⟨n1, 0, none⟩ = some (.int .i64 s) := (by rw [(bcell hb46).1 _ _ hl1m4]; exact hO4); have hxw6 := hxw5.below hb6) | (go_at_call 38; (with_reducible refine (HC3.out _ hxw6).mono ?_); rintro e W7 ⟨A7, c7, rfl, hS7, hf7, hb7⟩; have hb47 := hb46.trans (hb7.mono hb46.size); have hP7 := hP4.below hb47; have hO7 : W7.cell? ⟨n1, 0, none⟩ = some (.int .i64 s) := (by rw [(bcell hb47).1 _ _ hl1m4]; exact hO4); have hR7 := hR.below hb47; have hOz := (pw_put hR7 ⟨A4, c4, b4, s, A5, c5, L3, A6, c6, us3, A7, c7, now⟩).2.cell hO7 hn12; obtain ⟨r0, r1, r2, r3, r4⟩ := pwIn5 hR7; have rf := hR7.frozen))
  have hz := pw_put hR7 ⟨A4, c4, b4, s, A5, c5, L3, A6, c6, us3, A7, c7, now⟩
  go_wp2
  refine El.ret1 pwRow hz.1 rfl rfl rfl #[.slice A4 b4.length c4, .int .i64 s, .slice A5 L3.length c5, .slice A6 us3.length c6, .slice A7 now.length c7] rfl ?_
  have g5 := hb45.size
  have g6 := hb46.size
  have hB7 := hB.trans (hb47.mono hB.size)
  exact ⟨⟨A4, c4, b4, s, A5, c5, L3, A6, c6, us3, A7, c7, now⟩, rfl, ⟨(hS4.below hb47).keep hf4 hz.2 hl2, (hS5.below (below_then hb6 hb7)).keep hf5 hz.2 hl24, (hS6.below hb7).keep hf6 hz.2 (by omega), hS7.keep hf7 hz.2 (by omega)⟩, by show _ = settleV ⟨base, t, ops, us, now⟩ s; rw [HNA.out]; rfl, hB7.grown hz.2 hB7.size (fun j e => by have := Option.some.inj e; have := HN.out; omega)⟩

theorem pSettle_any (x : Pw) (s : Int) (w : World) (hx : PastOk w x) (hI : PInv x.v) (hl : x.ops.length ≤ 200) :
    Calls Try.prog 14 #[.agg #[.slice x.bA x.base.length x.bc, .int .i64 x.t, .slice x.oA x.ops.length x.oc, .slice x.uA x.us.length x.uc, .slice x.wA x.now.length x.wc], .int .i64 s] w fun e w' => ∃ y : Pw, e = .returned (.agg #[.slice y.bA y.base.length y.bc, .int .i64 y.t, .slice y.oA y.ops.length y.oc, .slice y.uA y.us.length y.uc, .slice y.wA y.now.length y.wc]) ∧ PastOk w' y ∧ y.v = settleV x.v s ∧ Below w.heap.size w w' := by
  by_cases h : s ≤ x.t
  · exact pSettle_late x s w hx hI hl h
  · exact pSettle_new x s w hx hI hl h
theorem pAdd_any (x : Pw) (m : Mv) (w : World) (hx : PastOk w x) (hI : PInv x.v) (hl : x.ops.length ≤ 200) :
    Calls Try.prog 12 #[.agg #[.slice x.bA x.base.length x.bc, .int .i64 x.t, .slice x.oA x.ops.length x.oc, .slice x.uA x.us.length x.uc, .slice x.wA x.now.length x.wc], .agg #[.int .i64 m.C, .int .i64 m.D, .int .i64 m.I, .int .i64 m.M, .int .i64 m.K, .int .i64 m.U, .string m.s]] w fun e w' => ∃ y : Pw, e = .returned (.tuple #[.agg #[.slice y.bA y.base.length y.bc, .int .i64 y.t, .slice y.oA y.ops.length y.oc, .slice y.uA y.us.length y.uc, .slice y.wA y.now.length y.wc], .bool (addV x.v m).2]) ∧ PastOk w' y ∧ y.v = (addV x.v m).1 ∧ Below w.heap.size w w' := by
  by_cases h : m.C ≤ x.t
  · cases hh : has Mv.C Mv.D x.ops m
    · exact pAdd_late x m w hx hI hl (Or.inr ⟨hh, h⟩)
    · exact pAdd_late x m w hx hI hl (Or.inl hh)
  · cases hh : has Mv.C Mv.D x.ops m
    · have e : (addV x.v m).2 = true := by rw [addV_new' (q := x.v) h hh]
      rw [e]
      exact pAdd_new x m w hx hI hl hh h
    · exact pAdd_late x m w hx hI hl (Or.inl hh)
end Go.Proofs.Ytoidondngoljaaa

/- The document's Own and Of. -/
namespace Go.Proofs.Ytoidondngoljaaa
open Go.RowKit Tre Cod Pst

/-- How many of the first k are so. -/
def cntO (p : Mv → Bool) (l : List Mv) (k : Nat) : Nat := ((l.take k).filter p).length
theorem cntO_zero (p : Mv → Bool) (l : List Mv) : cntO p l 0 = 0 := rfl
theorem cntO_next {p : Mv → Bool} {l : List Mv} {k : Nat} {x : Mv} (h : k < l.length) (hx : l[k] = x) : cntO p l (k + 1) = cntO p l k + (if p x then 1 else 0) := by
  unfold cntO
  rw [List.take_succ_eq_append_getElem h, List.filter_append, List.length_append, hx]
  congr 1
  cases hp : p x <;> simp [hp]
theorem cntO_all (p : Mv → Bool) (l : List Mv) : cntO p l l.length = (l.filter p).length := by unfold cntO; rw [List.take_length]
theorem cntO_le (p : Mv → Bool) (l : List Mv) (k : Nat) : cntO p l k ≤ l.length := by
  unfold cntO
  have h1 := List.length_filter_le p (l.take k)
  have h2 : (l.take k).length ≤ l.length := by rw [List.length_take]; omega
  omega

set_option maxRecDepth 100000 in
set_option maxHeartbeats 4000000 in
theorem refOf_any (x : Pw) (d : Int) (w : World) (hx : PastOk w x) (hl : x.ops.length ≤ 50000) :
    Calls Try.prog 21 #[.agg #[.slice x.bA x.base.length x.bc, .int .i64 x.t, .slice x.oA x.ops.length x.oc, .slice x.uA x.us.length x.uc, .slice x.wA x.now.length x.wc], .int .i64 d] w fun e w' => e = .returned (.int .i64 (ofV x.v d)) ∧ Below w.heap.size w w' := by
  obtain ⟨bA, bc, base, t, oA, oc, ops, uA, uc, us, wA, wc, now⟩ := x
  simp only at hl
  have hv : ofV (⟨bA, bc, base, t, oA, oc, ops, uA, uc, us, wA, wc, now⟩ : Pw).v d = cntO (fun m => decide (m.D = d)) ops ops.length := by rw [cntO_all]; rfl
  rw [hv]
  have hxo := hx.o
  simp only at hxo
  clear hv hx
  have hP : pwE.In (w.alloc (.cells #[.slice bA base.length bc, .int .i64 t, .slice oA ops.length oc, .slice uA us.length uc, .slice wA now.length wc] 29)) w.heap.size (⟨bA, bc, base, t, oA, oc, ops, uA, uc, us, wA, wc, now⟩ : Pw) := El.In.new (E := pwE) w (⟨bA, bc, base, t, oA, oc, ops, uA, uc, us, wA, wc, now⟩ : Pw) #[.slice bA base.length bc, .int .i64 t, .slice oA ops.length oc, .slice uA us.length uc, .slice wA now.length wc] rfl
  have hB := below_alloc (Below.refl w.heap.size w) (.cells #[.slice bA base.length bc, .int .i64 t, .slice oA ops.length oc, .slice uA us.length uc, .slice wA now.length wc] 29)
  have hxo := hxo.below hB
  have hn0 := hP.lt
  go_enter Try.func21, Try.ntmps21
  go_wp2
  generalize w.alloc (.cells #[.slice bA base.length bc, .int .i64 t, .slice oA ops.length oc, .slice uA us.length uc, .slice wA now.length wc] 29) = W at *
  have hBs := hB.size
  obtain ⟨n0, h0⟩ : ∃ n, w.heap.size = n := ⟨_, rfl⟩
  rw [h0] at hP ⊢
  clear h0
  go_loopw [5, 6] (fun x y wr => ∃ k : Nat, k ≤ ops.length ∧ y = .int .i64 k ∧ x = .int .i64 (cntO (fun m => decide (m.D = d)) ops k) ∧ Below W.heap.size W wr) (fun _ y _ => ops.length - (intOf y).toNat)
  case atStart => exact ⟨0, Nat.zero_le _, rfl, rfl, Below.refl _ _⟩
  case round =>
    obtain ⟨k, hk, rfl, rfl, hnx⟩ := hrel
    obtain ⟨p0, p1, p2, p3, p4⟩ := pwIn5 (hP.below hnx)
    have hcl := cntO_le (fun m => decide (m.D = d)) ops k
    by_cases hkl : k < ops.length
    · obtain ⟨b, off, hoA, hbw, hc⟩ := hxo.1 (by omega)
      have hat : opE.At wr b (off + k * 7) ops[k] := (hc k hkl).below hnx hbw
      obtain ⟨mk, hmk⟩ : ∃ mk, ops[k] = mk := ⟨_, rfl⟩
      rw [hmk] at hat
      obtain ⟨t0, t1, t2, t3, t4, t5, t6⟩ := opAt hat
      have hnext := cntO_next (p := fun m => decide (m.D = d)) hkl hmk
      subst hoA
      by_cases hd : mk.D = d
      · rw [if_pos (decide_eq_true hd)] at hnext
        have HN := Lib.hid hnext
        clear hnext hc hmk
        generalize cntO (fun m => decide (m.D = d)) ops k = cn at *
        go_wp2
        go_roundw
        case rel => exact ⟨k + 1, by omega, by go_num, by rw [HN.out]; go_num, hnx⟩
        case measure => simp [intOf]; omega
      · rw [if_neg (by simpa using hd), Nat.add_zero] at hnext
        have HN := Lib.hid hnext
        clear hnext hc hmk
        generalize hcn : cntO (fun m => decide (m.D = d)) ops k = cn at *
        clear hcn
        go_wp2
        go_roundw
        case rel => exact ⟨k + 1, by omega, by go_num, by rw [HN.out]; go_num, hnx⟩
        case measure => simp [intOf]; omega
    · obtain rfl : k = ops.length := by omega
      go_wp2
      go_ret
      exact ⟨rfl, hB.trans (hnx.mono hBs)⟩

set_option maxRecDepth 100000 in
set_option maxHeartbeats 4000000 in
theorem refOwn_any (x : Pw) (d i : Int) (w : World) (hx : PastOk w x) (hl : x.ops.length ≤ 50000) :
    Calls Try.prog 19 #[.agg #[.slice x.bA x.base.length x.bc, .int .i64 x.t, .slice x.oA x.ops.length x.oc, .slice x.uA x.us.length x.uc, .slice x.wA x.now.length x.wc], .int .i64 d, .int .i64 i] w fun e w' => e = .returned (.int .i64 (ownV x.v d i)) ∧ Below w.heap.size w w' := by
  obtain ⟨bA, bc, base, t, oA, oc, ops, uA, uc, us, wA, wc, now⟩ := x
  simp only at hl
  have hv : ownV (⟨bA, bc, base, t, oA, oc, ops, uA, uc, us, wA, wc, now⟩ : Pw).v d i = cntO (fun m => decide (m.D = d ∧ m.I = i)) ops ops.length := by rw [cntO_all]; rfl
  rw [hv]
  have hxo := hx.o
  simp only at hxo
  clear hv hx
  have hP : pwE.In (w.alloc (.cells #[.slice bA base.length bc, .int .i64 t, .slice oA ops.length oc, .slice uA us.length uc, .slice wA now.length wc] 29)) w.heap.size (⟨bA, bc, base, t, oA, oc, ops, uA, uc, us, wA, wc, now⟩ : Pw) := El.In.new (E := pwE) w (⟨bA, bc, base, t, oA, oc, ops, uA, uc, us, wA, wc, now⟩ : Pw) #[.slice bA base.length bc, .int .i64 t, .slice oA ops.length oc, .slice uA us.length uc, .slice wA now.length wc] rfl
  have hB := below_alloc (Below.refl w.heap.size w) (.cells #[.slice bA base.length bc, .int .i64 t, .slice oA ops.length oc, .slice uA us.length uc, .slice wA now.length wc] 29)
  have hxo := hxo.below hB
  have hn0 := hP.lt
  go_enter Try.func19, Try.ntmps19
  go_wp2
  generalize w.alloc (.cells #[.slice bA base.length bc, .int .i64 t, .slice oA ops.length oc, .slice uA us.length uc, .slice wA now.length wc] 29) = W at *
  have hBs := hB.size
  obtain ⟨n0, h0⟩ : ∃ n, w.heap.size = n := ⟨_, rfl⟩
  rw [h0] at hP ⊢
  clear h0
  go_loopw [7, 8] (fun x y wr => ∃ k : Nat, k ≤ ops.length ∧ y = .int .i64 k ∧ x = .int .i64 (cntO (fun m => decide (m.D = d ∧ m.I = i)) ops k) ∧ Below W.heap.size W wr) (fun _ y _ => ops.length - (intOf y).toNat)
  case atStart => exact ⟨0, Nat.zero_le _, rfl, rfl, Below.refl _ _⟩
  case round =>
    obtain ⟨k, hk, rfl, rfl, hnx⟩ := hrel
    obtain ⟨p0, p1, p2, p3, p4⟩ := pwIn5 (hP.below hnx)
    have hcl := cntO_le (fun m => decide (m.D = d ∧ m.I = i)) ops k
    by_cases hkl : k < ops.length
    · obtain ⟨b, off, hoA, hbw, hc⟩ := hxo.1 (by omega)
      have hat : opE.At wr b (off + k * 7) ops[k] := (hc k hkl).below hnx hbw
      obtain ⟨mk, hmk⟩ : ∃ mk, ops[k] = mk := ⟨_, rfl⟩
      rw [hmk] at hat
      obtain ⟨t0, t1, t2, t3, t4, t5, t6⟩ := opAt hat
      have hnext := cntO_next (p := fun m => decide (m.D = d ∧ m.I = i)) hkl hmk
      subst hoA
      by_cases hd : mk.D = d ∧ mk.I = i
      · rw [if_pos (decide_eq_true hd)] at hnext
        obtain ⟨hd1, hd2⟩ := hd
        have HN := Lib.hid hnext
        clear hnext hc hmk
        generalize cntO (fun m => decide (m.D = d ∧ m.I = i)) ops k = cn at *
        go_wp2
        go_roundw
        case rel => exact ⟨k + 1, by omega, by go_num, by rw [HN.out]; go_num, hnx⟩
        case measure => simp [intOf]; omega
      · rw [if_neg (by simpa using hd), Nat.add_zero] at hnext
        have hun : (mk.D == d) = false ∨ (mk.D = d ∧ (mk.I == i) = false) := by
          by_cases e : mk.D = d
          · right; exact ⟨e, beq_eq_false_iff_ne.2 fun e2 => hd ⟨e, e2⟩⟩
          · left; exact beq_eq_false_iff_ne.2 e
        have HN := Lib.hid hnext
        clear hnext hc hmk hd
        generalize hcn : cntO (fun m => decide (m.D = d ∧ m.I = i)) ops k = cn at *
        clear hcn
        rcases hun with hun | ⟨hun1, hun⟩
        all_goals
          go_wp2
          go_roundw
          case rel => exact ⟨k + 1, by omega, by go_num, by rw [HN.out]; go_num, hnx⟩
          case measure => simp [intOf]; omega
    · obtain rfl : k = ops.length := by omega
      go_wp2
      go_ret
      exact ⟨rfl, hB.trans (hnx.mono hBs)⟩
end Go.Proofs.Ytoidondngoljaaa

/- Own, Of and count of the program. -/
namespace Go.Proofs.Ytoidondngoljaaa
open Go.RowKit Tre Cod Pst

theorem ownOne_any (m : Mv) (d i : Int) (b1 b2 : Nat) (w : World) (h1 : w.cell? ⟨b1, 0, none⟩ = some (.int .i64 d)) (h2 : w.cell? ⟨b2, 0, none⟩ = some (.int .i64 i)) (l1 : b1 < w.heap.size) (l2 : b2 < w.heap.size) :
    Calls Try.prog 51 #[.agg #[.int .i64 m.C, .int .i64 m.D, .int .i64 m.I, .int .i64 m.M, .int .i64 m.K, .int .i64 m.U, .string m.s], .pointer (some ⟨b1, 0, none⟩), .pointer (some ⟨b2, 0, none⟩)] w fun e w' => e = .returned (.bool (decide (m.D = d ∧ m.I = i))) ∧ Below w.heap.size w w' := by
  have n1 : b1 ≠ w.heap.size := by omega
  have n2 : b2 ≠ w.heap.size := by omega
  by_cases e1 : m.D = d
  · by_cases e2 : m.I = i
    · rw [decide_eq_true ⟨e1, e2⟩]
      go_enter Try.func51, Try.ntmps51
      go_wp2
      go_ret
      exact ⟨rfl, below_alloc (Below.refl _ _) _⟩
    · rw [decide_eq_false (fun h => e2 h.2)]
      have e2 : (m.I == i) = false := beq_eq_false_iff_ne.2 e2
      go_enter Try.func51, Try.ntmps51
      go_wp2
      go_ret
      exact ⟨rfl, below_alloc (Below.refl _ _) _⟩
  · rw [decide_eq_false (fun h => e1 h.1)]
    have e1 : (m.D == d) = false := beq_eq_false_iff_ne.2 e1
    go_enter Try.func51, Try.ntmps51
    go_wp2
    go_ret
    exact ⟨rfl, below_alloc (Below.refl _ _) _⟩
theorem ofOne_any (m : Mv) (d : Int) (b1 : Nat) (w : World) (h1 : w.cell? ⟨b1, 0, none⟩ = some (.int .i64 d)) (l1 : b1 < w.heap.size) :
    Calls Try.prog 52 #[.agg #[.int .i64 m.C, .int .i64 m.D, .int .i64 m.I, .int .i64 m.M, .int .i64 m.K, .int .i64 m.U, .string m.s], .pointer (some ⟨b1, 0, none⟩)] w fun e w' => e = .returned (.bool (decide (m.D = d))) ∧ Below w.heap.size w w' := by
  have n1 : b1 ≠ w.heap.size := by omega
  go_enter Try.func52, Try.ntmps52
  go_wp2
  go_ret
  exact ⟨rfl, below_alloc (Below.refl _ _) _⟩
set_option maxRecDepth 100000 in
set_option maxHeartbeats 1000000 in
theorem countOwn_any (A : Option Addr) (c : Nat) (l : List Mv) (p : Mv → Bool) (b1 b2 : Nat) (w : World) (hT : opE.Sl w A l) (hl : l.length ≤ 50000)
    (HF : ∀ (m : Mv) (w' : World), Below w.heap.size w w' → Calls Try.prog 51 #[.agg #[.int .i64 m.C, .int .i64 m.D, .int .i64 m.I, .int .i64 m.M, .int .i64 m.K, .int .i64 m.U, .string m.s], .pointer (some ⟨b1, 0, none⟩), .pointer (some ⟨b2, 0, none⟩)] w' fun e w'' => e = .returned (.bool (p m)) ∧ Below w'.heap.size w' w'') :
    Calls Try.prog 50 #[.slice A l.length c, .func (.func 51) #[] #[.pointer (some ⟨b1, 0, none⟩), .pointer (some ⟨b2, 0, none⟩)]] w fun e w' => e = .returned (.int .i64 ((l.filter p).length)) ∧ Below w.heap.size w w' := by
  rw [← cntO_all]
  have HCF := Lib.hid HF
  clear HF
  go_enter Try.func50, Try.ntmps50
  go_wp2
  go_loopw [5, 10] (fun x y wr => ∃ k : Nat, k ≤ l.length ∧ y = .int .i64 k ∧ x = .int .i64 (cntO p l k) ∧ Below w.heap.size w wr) (fun _ y _ => l.length - (intOf y).toNat)
  case atStart => exact ⟨0, Nat.zero_le _, rfl, rfl, Below.refl _ _⟩
  case round =>
    obtain ⟨k, hk, rfl, rfl, hnx⟩ := hrel
    have hcl := cntO_le p l k
    by_cases hkl : k < l.length
    · obtain ⟨b, off, rfl, hbw, hc⟩ := hT (by omega)
      have hat : opE.At wr b (off + k * 7) l[k] := (hc k hkl).below hnx hbw
      obtain ⟨mk, hmk⟩ : ∃ mk, l[k] = mk := ⟨_, rfl⟩
      rw [hmk] at hat
      have hnext := cntO_next (p := p) hkl hmk
      have hI : opE.In ((wr.alloc (.cells #[.int .i64 0, .int .i64 0, .int .i64 0, .int .i64 0, .int .i64 0, .int .i64 0, .string ⟨#[]⟩] 35)).setRow wr.heap.size #[.int .i64 mk.C, .int .i64 mk.D, .int .i64 mk.I, .int .i64 mk.M, .int .i64 mk.K, .int .i64 mk.U, .string mk.s]) wr.heap.size mk := (El.In.new (E := opE) wr zeroMv #[.int .i64 0, .int .i64 0, .int .i64 0, .int .i64 0, .int .i64 0, .int .i64 0, .string ⟨#[]⟩] rfl).set mk #[.int .i64 mk.C, .int .i64 mk.D, .int .i64 mk.I, .int .i64 mk.M, .int .i64 mk.K, .int .i64 mk.U, .string mk.s] rfl
      have hb1 : Below wr.heap.size wr ((wr.alloc (.cells #[.int .i64 0, .int .i64 0, .int .i64 0, .int .i64 0, .int .i64 0, .int .i64 0, .string ⟨#[]⟩] 35)).setRow wr.heap.size #[.int .i64 mk.C, .int .i64 mk.D, .int .i64 mk.I, .int .i64 mk.M, .int .i64 mk.K, .int .i64 mk.U, .string mk.s]) := below_setRow (below_alloc (Below.refl _ _) _) (Nat.le_refl _) _
      have hF := HCF.out mk _ (below_then hnx hb1)
      have HI := Lib.hid hI
      have HCM := Lib.hid hF
      have hz : opE.In (wr.alloc (.cells #[.int .i64 0, .int .i64 0, .int .i64 0, .int .i64 0, .int .i64 0, .int .i64 0, .string ⟨#[]⟩] 35)) wr.heap.size zeroMv := El.In.new (E := opE) wr zeroMv #[.int .i64 0, .int .i64 0, .int .i64 0, .int .i64 0, .int .i64 0, .int .i64 0, .string ⟨#[]⟩] rfl
      have HN := Lib.hid hnext
      clear hnext hc hmk hI hF
      generalize hcn : cntO p l k = cn at *
      clear hcn
      cases hp : p mk
      · rw [hp] at HCM HN
        go_wp2_with (first | (refine El.load opRow rfl _ rfl b (off + k * 7) rfl mk hat #[.int .i64 mk.C, .int .i64 mk.D, .int .i64 mk.I, .int .i64 mk.M, .int .i64 mk.K, .int .i64 mk.U, .string mk.s] rfl ?_) | (refine El.store opRow rfl _ _ rfl wr.heap.size mk #[.int .i64 mk.C, .int .i64 mk.D, .int .i64 mk.I, .int .i64 mk.M, .int .i64 mk.K, .int .i64 mk.U, .string mk.s] rfl rfl rfl zeroMv hz ?_) | (refine El.load opRow rfl _ rfl wr.heap.size 0 rfl mk HI.out.at #[.int .i64 mk.C, .int .i64 mk.D, .int .i64 mk.I, .int .i64 mk.M, .int .i64 mk.K, .int .i64 mk.U, .string mk.s] rfl ?_) | (go_at_call 51; (with_reducible refine HCM.out.mono ?_); rintro e w3 ⟨rfl, hb3⟩))
        go_roundw
        case rel => exact ⟨k + 1, by omega, by go_num, by rw [HN.out]; go_num, below_then hnx (below_then hb1 hb3)⟩
        case measure => simp [intOf]; omega
      · rw [hp] at HCM HN
        go_wp2_with (first | (refine El.load opRow rfl _ rfl b (off + k * 7) rfl mk hat #[.int .i64 mk.C, .int .i64 mk.D, .int .i64 mk.I, .int .i64 mk.M, .int .i64 mk.K, .int .i64 mk.U, .string mk.s] rfl ?_) | (refine El.store opRow rfl _ _ rfl wr.heap.size mk #[.int .i64 mk.C, .int .i64 mk.D, .int .i64 mk.I, .int .i64 mk.M, .int .i64 mk.K, .int .i64 mk.U, .string mk.s] rfl rfl rfl zeroMv hz ?_) | (refine El.load opRow rfl _ rfl wr.heap.size 0 rfl mk HI.out.at #[.int .i64 mk.C, .int .i64 mk.D, .int .i64 mk.I, .int .i64 mk.M, .int .i64 mk.K, .int .i64 mk.U, .string mk.s] rfl ?_) | (go_at_call 51; (with_reducible refine HCM.out.mono ?_); rintro e w3 ⟨rfl, hb3⟩))
        go_roundw
        case rel => exact ⟨k + 1, by omega, by go_num, by rw [HN.out]; go_num, below_then hnx (below_then hb1 hb3)⟩
        case measure => simp [intOf]; omega
    · obtain rfl : k = l.length := by omega
      go_wp2
      go_ret
      exact ⟨rfl, hnx⟩
set_option maxRecDepth 100000 in
set_option maxHeartbeats 1000000 in
theorem countOf_any (A : Option Addr) (c : Nat) (l : List Mv) (p : Mv → Bool) (b1 : Nat) (w : World) (hT : opE.Sl w A l) (hl : l.length ≤ 50000)
    (HF : ∀ (m : Mv) (w' : World), Below w.heap.size w w' → Calls Try.prog 52 #[.agg #[.int .i64 m.C, .int .i64 m.D, .int .i64 m.I, .int .i64 m.M, .int .i64 m.K, .int .i64 m.U, .string m.s], .pointer (some ⟨b1, 0, none⟩)] w' fun e w'' => e = .returned (.bool (p m)) ∧ Below w'.heap.size w' w'') :
    Calls Try.prog 50 #[.slice A l.length c, .func (.func 52) #[] #[.pointer (some ⟨b1, 0, none⟩)]] w fun e w' => e = .returned (.int .i64 ((l.filter p).length)) ∧ Below w.heap.size w w' := by
  rw [← cntO_all]
  have HCF := Lib.hid HF
  clear HF
  go_enter Try.func50, Try.ntmps50
  go_wp2
  go_loopw [5, 10] (fun x y wr => ∃ k : Nat, k ≤ l.length ∧ y = .int .i64 k ∧ x = .int .i64 (cntO p l k) ∧ Below w.heap.size w wr) (fun _ y _ => l.length - (intOf y).toNat)
  case atStart => exact ⟨0, Nat.zero_le _, rfl, rfl, Below.refl _ _⟩
  case round =>
    obtain ⟨k, hk, rfl, rfl, hnx⟩ := hrel
    have hcl := cntO_le p l k
    by_cases hkl : k < l.length
    · obtain ⟨b, off, rfl, hbw, hc⟩ := hT (by omega)
      have hat : opE.At wr b (off + k * 7) l[k] := (hc k hkl).below hnx hbw
      obtain ⟨mk, hmk⟩ : ∃ mk, l[k] = mk := ⟨_, rfl⟩
      rw [hmk] at hat
      have hnext := cntO_next (p := p) hkl hmk
      have hI : opE.In ((wr.alloc (.cells #[.int .i64 0, .int .i64 0, .int .i64 0, .int .i64 0, .int .i64 0, .int .i64 0, .string ⟨#[]⟩] 35)).setRow wr.heap.size #[.int .i64 mk.C, .int .i64 mk.D, .int .i64 mk.I, .int .i64 mk.M, .int .i64 mk.K, .int .i64 mk.U, .string mk.s]) wr.heap.size mk := (El.In.new (E := opE) wr zeroMv #[.int .i64 0, .int .i64 0, .int .i64 0, .int .i64 0, .int .i64 0, .int .i64 0, .string ⟨#[]⟩] rfl).set mk #[.int .i64 mk.C, .int .i64 mk.D, .int .i64 mk.I, .int .i64 mk.M, .int .i64 mk.K, .int .i64 mk.U, .string mk.s] rfl
      have hb1 : Below wr.heap.size wr ((wr.alloc (.cells #[.int .i64 0, .int .i64 0, .int .i64 0, .int .i64 0, .int .i64 0, .int .i64 0, .string ⟨#[]⟩] 35)).setRow wr.heap.size #[.int .i64 mk.C, .int .i64 mk.D, .int .i64 mk.I, .int .i64 mk.M, .int .i64 mk.K, .int .i64 mk.U, .string mk.s]) := below_setRow (below_alloc (Below.refl _ _) _) (Nat.le_refl _) _
      have hF := HCF.out mk _ (below_then hnx hb1)
      have HI := Lib.hid hI
      have HCM := Lib.hid hF
      have hz : opE.In (wr.alloc (.cells #[.int .i64 0, .int .i64 0, .int .i64 0, .int .i64 0, .int .i64 0, .int .i64 0, .string ⟨#[]⟩] 35)) wr.heap.size zeroMv := El.In.new (E := opE) wr zeroMv #[.int .i64 0, .int .i64 0, .int .i64 0, .int .i64 0, .int .i64 0, .int .i64 0, .string ⟨#[]⟩] rfl
      have HN := Lib.hid hnext
      clear hnext hc hmk hI hF
      generalize hcn : cntO p l k = cn at *
      clear hcn
      cases hp : p mk
      · rw [hp] at HCM HN
        go_wp2_with (first | (refine El.load opRow rfl _ rfl b (off + k * 7) rfl mk hat #[.int .i64 mk.C, .int .i64 mk.D, .int .i64 mk.I, .int .i64 mk.M, .int .i64 mk.K, .int .i64 mk.U, .string mk.s] rfl ?_) | (refine El.store opRow rfl _ _ rfl wr.heap.size mk #[.int .i64 mk.C, .int .i64 mk.D, .int .i64 mk.I, .int .i64 mk.M, .int .i64 mk.K, .int .i64 mk.U, .string mk.s] rfl rfl rfl zeroMv hz ?_) | (refine El.load opRow rfl _ rfl wr.heap.size 0 rfl mk HI.out.at #[.int .i64 mk.C, .int .i64 mk.D, .int .i64 mk.I, .int .i64 mk.M, .int .i64 mk.K, .int .i64 mk.U, .string mk.s] rfl ?_) | (go_at_call 52; (with_reducible refine HCM.out.mono ?_); rintro e w3 ⟨rfl, hb3⟩))
        go_roundw
        case rel => exact ⟨k + 1, by omega, by go_num, by rw [HN.out]; go_num, below_then hnx (below_then hb1 hb3)⟩
        case measure => simp [intOf]; omega
      · rw [hp] at HCM HN
        go_wp2_with (first | (refine El.load opRow rfl _ rfl b (off + k * 7) rfl mk hat #[.int .i64 mk.C, .int .i64 mk.D, .int .i64 mk.I, .int .i64 mk.M, .int .i64 mk.K, .int .i64 mk.U, .string mk.s] rfl ?_) | (refine El.store opRow rfl _ _ rfl wr.heap.size mk #[.int .i64 mk.C, .int .i64 mk.D, .int .i64 mk.I, .int .i64 mk.M, .int .i64 mk.K, .int .i64 mk.U, .string mk.s] rfl rfl rfl zeroMv hz ?_) | (refine El.load opRow rfl _ rfl wr.heap.size 0 rfl mk HI.out.at #[.int .i64 mk.C, .int .i64 mk.D, .int .i64 mk.I, .int .i64 mk.M, .int .i64 mk.K, .int .i64 mk.U, .string mk.s] rfl ?_) | (go_at_call 52; (with_reducible refine HCM.out.mono ?_); rintro e w3 ⟨rfl, hb3⟩))
        go_roundw
        case rel => exact ⟨k + 1, by omega, by go_num, by rw [HN.out]; go_num, below_then hnx (below_then hb1 hb3)⟩
        case measure => simp [intOf]; omega
    · obtain rfl : k = l.length := by omega
      go_wp2
      go_ret
      exact ⟨rfl, hnx⟩

set_option maxRecDepth 100000 in
theorem pOwn_any (x : Pw) (d i : Int) (w : World) (hx : PastOk w x) (hl : x.ops.length ≤ 50000) :
    Calls Try.prog 18 #[.agg #[.slice x.bA x.base.length x.bc, .int .i64 x.t, .slice x.oA x.ops.length x.oc, .slice x.uA x.us.length x.uc, .slice x.wA x.now.length x.wc], .int .i64 d, .int .i64 i] w fun e w' => e = .returned (.int .i64 (ownV x.v d i)) ∧ Below w.heap.size w w' := by
  obtain ⟨bA, bc, base, t, oA, oc, ops, uA, uc, us, wA, wc, now⟩ := x
  simp only at hl
  have hB := below_alloc (below_alloc (below_alloc (Below.refl w.heap.size w) (.cells #[.slice bA base.length bc, .int .i64 t, .slice oA ops.length oc, .slice uA us.length uc, .slice wA now.length wc] 29)) (.cells #[.int .i64 d] 3)) (.cells #[.int .i64 i] 3)
  have hxo := hx.o.below hB
  simp only at hxo
  have hs : (((w.alloc (.cells #[.slice bA base.length bc, .int .i64 t, .slice oA ops.length oc, .slice uA us.length uc, .slice wA now.length wc] 29)).alloc (.cells #[.int .i64 d] 3)).alloc (.cells #[.int .i64 i] 3)).heap.size = w.heap.size + 3 := by rw [alloc_size, alloc_size, alloc_size]
  have q1 : (((w.alloc (.cells #[.slice bA base.length bc, .int .i64 t, .slice oA ops.length oc, .slice uA us.length uc, .slice wA now.length wc] 29)).alloc (.cells #[.int .i64 d] 3)).alloc (.cells #[.int .i64 i] 3)).cell? ⟨w.heap.size + 1, 0, none⟩ = some (.int .i64 d) := by go_simp
  have q2 : (((w.alloc (.cells #[.slice bA base.length bc, .int .i64 t, .slice oA ops.length oc, .slice uA us.length uc, .slice wA now.length wc] 29)).alloc (.cells #[.int .i64 d] 3)).alloc (.cells #[.int .i64 i] 3)).cell? ⟨w.heap.size + 2, 0, none⟩ = some (.int .i64 i) := by go_simp
  have C := countOwn_any oA oc ops (fun m => decide (m.D = d ∧ m.I = i)) (w.heap.size + 1) (w.heap.size + 2) _ hxo.1 hl (fun m w' hb => ownOne_any m d i _ _ w' (by rw [(bcell hb).1 _ _ (by omega)]; exact q1) (by rw [(bcell hb).1 _ _ (by omega)]; exact q2) (by have := hb.size; omega) (by have := hb.size; omega))
  have hv : ownV (⟨bA, bc, base, t, oA, oc, ops, uA, uc, us, wA, wc, now⟩ : Pw).v d i = (ops.filter fun m => decide (m.D = d ∧ m.I = i)).length := rfl
  rw [hv]
  generalize (ops.filter fun m => decide (m.D = d ∧ m.I = i)).length = N at *
  have HC := Lib.hid C
  clear C hx
  go_enter Try.func18, Try.ntmps18
  go_wp2_with (go_at_call 50; (with_reducible refine HC.out.mono ?_); rintro e w3 ⟨rfl, hb3⟩)
  go_ret
  exact ⟨rfl, below_then hB hb3⟩
set_option maxRecDepth 100000 in
theorem pOf_any (x : Pw) (d : Int) (w : World) (hx : PastOk w x) (hl : x.ops.length ≤ 50000) :
    Calls Try.prog 20 #[.agg #[.slice x.bA x.base.length x.bc, .int .i64 x.t, .slice x.oA x.ops.length x.oc, .slice x.uA x.us.length x.uc, .slice x.wA x.now.length x.wc], .int .i64 d] w fun e w' => e = .returned (.int .i64 (ofV x.v d)) ∧ Below w.heap.size w w' := by
  obtain ⟨bA, bc, base, t, oA, oc, ops, uA, uc, us, wA, wc, now⟩ := x
  simp only at hl
  have hB := below_alloc (below_alloc (Below.refl w.heap.size w) (.cells #[.slice bA base.length bc, .int .i64 t, .slice oA ops.length oc, .slice uA us.length uc, .slice wA now.length wc] 29)) (.cells #[.int .i64 d] 3)
  have hxo := hx.o.below hB
  simp only at hxo
  have hs : ((w.alloc (.cells #[.slice bA base.length bc, .int .i64 t, .slice oA ops.length oc, .slice uA us.length uc, .slice wA now.length wc] 29)).alloc (.cells #[.int .i64 d] 3)).heap.size = w.heap.size + 2 := by rw [alloc_size, alloc_size]
  have q1 : ((w.alloc (.cells #[.slice bA base.length bc, .int .i64 t, .slice oA ops.length oc, .slice uA us.length uc, .slice wA now.length wc] 29)).alloc (.cells #[.int .i64 d] 3)).cell? ⟨w.heap.size + 1, 0, none⟩ = some (.int .i64 d) := by go_simp
  have C := countOf_any oA oc ops (fun m => decide (m.D = d)) (w.heap.size + 1) _ hxo.1 hl (fun m w' hb => ofOne_any m d _ w' (by rw [(bcell hb).1 _ _ (by omega)]; exact q1) (by have := hb.size; omega))
  have hv : ofV (⟨bA, bc, base, t, oA, oc, ops, uA, uc, us, wA, wc, now⟩ : Pw).v d = (ops.filter fun m => decide (m.D = d)).length := rfl
  rw [hv]
  generalize (ops.filter fun m => decide (m.D = d)).length = N at *
  have HC := Lib.hid C
  clear C hx
  go_enter Try.func20, Try.ntmps20
  go_wp2_with (go_at_call 50; (with_reducible refine HC.out.mono ?_); rintro e w3 ⟨rfl, hb3⟩)
  go_ret
  exact ⟨rfl, below_then hB hb3⟩
end Go.Proofs.Ytoidondngoljaaa

/- Of the law: fine, made. -/
namespace Go.Proofs.Ytoidondngoljaaa
open Go.RowKit Tre Cod Pst Nam

theorem refOpRight_mv (m : Mv) (w : World) (hs : m.s.size ≤ 9223372036854775807) :
    Calls Try.prog 30 #[.agg #[.int .i64 m.C, .int .i64 m.D, .int .i64 m.I, .int .i64 m.M, .int .i64 m.K, .int .i64 m.U, .string m.s]] w fun e w' => e = .returned (.bool (opB m.C m.D m.I m.M m.K m.U m.s)) ∧ Below w.heap.size w w' := opRefRight_any m.C m.D m.I m.M m.K m.U m.s w hs
def Fine (l : List Mv) : Prop := l.length ≤ 60 ∧ ∀ m ∈ l, m.ok

set_option maxRecDepth 100000 in
set_option maxHeartbeats 2000000 in
theorem fine_any (A : Option Addr) (c : Nat) (l : List Mv) (w : World) (hsz : ∀ m ∈ l, m.s.size ≤ 9223372036854775807) (hT : opE.Sl w A l) (bv : Bool) (hbv : bv = true ↔ Fine l) :
    Calls Try.prog 10 #[.slice A l.length c] w fun e w' => e = .returned (.bool bv) ∧ Below w.heap.size w w' := by
  have HV := Lib.hid hbv
  clear hbv
  by_cases hl : 60 < l.length
  · have HF := Lib.hid (false_of_not HV.out fun h => by have := h.1; omega)
    go_enter Try.func10, Try.ntmps10
    go_wp2
    go_ret
    exact ⟨by rw [HF.out]; rfl, Below.refl _ _⟩
  · go_enter Try.func10, Try.ntmps10
    go_wp2
    go_loopw [3] (fun y wr => ∃ k : Nat, k ≤ l.length ∧ y = .int .i64 k ∧ (∀ i (h : i < l.length), i < k → l[i].ok) ∧ Below w.heap.size w wr) (fun y _ => l.length - (intOf y).toNat)
    case atStart => exact ⟨0, Nat.zero_le _, rfl, fun i h hi => by omega, Below.refl _ _⟩
    case round =>
      obtain ⟨k, hk, rfl, hto, hnx⟩ := hrel
      by_cases hkl : k < l.length
      · obtain ⟨b, off, rfl, hbw, hc⟩ := hT (by omega)
        have hat : opE.At wr b (off + k * 7) l[k] := (hc k hkl).below hnx hbw
        have hms : l[k].s.size ≤ 9223372036854775807 := hsz _ (List.getElem_mem _)
        have HNK := Lib.hid (show Fine l → l[k].ok from fun h => h.2 _ (List.getElem_mem _))
        have HT := Lib.hid hto
        obtain ⟨mk, hmk⟩ : ∃ mk, l[k] = mk := ⟨_, rfl⟩
        rw [hmk] at hat hms HNK
        have HM := Lib.hid hmk
        have CR := fun w => refOpRight_mv mk w hms
        obtain ⟨r, hr⟩ : ∃ r, opB mk.C mk.D mk.I mk.M mk.K mk.U mk.s = r := ⟨_, rfl⟩
        rw [hr] at CR
        have HR := Lib.hid hr
        have HC := Lib.hid CR
        clear hmk CR hr hto hc
        cases r
        · have HF := Lib.hid (false_of_not HV.out fun h => by have := HNK.out h; unfold Mv.ok at this; rw [HR.out] at this; cases this)
          go_wp2_with (first | (refine El.load opRow rfl _ rfl b (off + k * 7) rfl mk hat #[.int .i64 mk.C, .int .i64 mk.D, .int .i64 mk.I, .int .i64 mk.M, .int .i64 mk.K, .int .i64 mk.U, .string mk.s] rfl ?_) | (go_at_call 30; (with_reducible refine (HC.out _).mono ?_); rintro e w3 ⟨rfl, hb3⟩))
          go_ret
          exact ⟨by rw [HF.out]; rfl, below_then hnx hb3⟩
        · go_wp2_with (first | (refine El.load opRow rfl _ rfl b (off + k * 7) rfl mk hat #[.int .i64 mk.C, .int .i64 mk.D, .int .i64 mk.I, .int .i64 mk.M, .int .i64 mk.K, .int .i64 mk.U, .string mk.s] rfl ?_) | (go_at_call 30; (with_reducible refine (HC.out _).mono ?_); rintro e w3 ⟨rfl, hb3⟩))
          go_roundw
          case rel =>
            refine ⟨k + 1, by omega, by go_num, fun i hi hik => ?_, below_then hnx hb3⟩
            by_cases e : i = k
            · subst e; rw [HM.out]; exact HR.out
            · exact HT.out i hi (by omega)
          case measure => simp [intOf]; omega
      · obtain rfl : k = l.length := by omega
        have HF := Lib.hid (HV.out.2 ⟨by omega, fun m hm => by obtain ⟨i, hi, rfl⟩ := List.getElem_of_mem hm; exact hto i hi hi⟩)
        go_wp2
        go_ret
        exact ⟨by rw [HF.out]; rfl, hnx⟩

def mk4 (c d n u : Int) : Mv := ⟨c, d, 1, 1, n, u, ⟨#[97]⟩⟩
theorem made_any (c d n u : Int) (w : World) : Calls Try.prog 31 #[.int .i64 c, .int .i64 d, .int .i64 n, .int .i64 u] w fun e w' => e = .returned (.agg #[.int .i64 (mk4 c d n u).C, .int .i64 (mk4 c d n u).D, .int .i64 (mk4 c d n u).I, .int .i64 (mk4 c d n u).M, .int .i64 (mk4 c d n u).K, .int .i64 (mk4 c d n u).U, .string (mk4 c d n u).s]) ∧ Below w.heap.size w w' := by
  have hz : opE.In (w.alloc (.cells #[.int .i64 0, .int .i64 0, .int .i64 0, .int .i64 0, .int .i64 0, .int .i64 0, .string ⟨#[]⟩] 35)) w.heap.size zeroMv := El.In.new (E := opE) w zeroMv #[.int .i64 0, .int .i64 0, .int .i64 0, .int .i64 0, .int .i64 0, .int .i64 0, .string ⟨#[]⟩] rfl
  go_enter Try.func31, Try.ntmps31
  go_wp2_with (refine El.store opRow rfl _ _ rfl w.heap.size (mk4 c d n u) #[.int .i64 c, .int .i64 d, .int .i64 1, .int .i64 1, .int .i64 n, .int .i64 u, .string ⟨#[97]⟩] rfl rfl rfl zeroMv hz ?_)
  refine El.ret1 opRow (hz.set (mk4 c d n u) #[.int .i64 c, .int .i64 d, .int .i64 1, .int .i64 1, .int .i64 n, .int .i64 u, .string ⟨#[97]⟩] rfl) rfl rfl rfl #[.int .i64 c, .int .i64 d, .int .i64 1, .int .i64 1, .int .i64 n, .int .i64 u, .string ⟨#[97]⟩] rfl ?_
  exact ⟨rfl, below_setRow (below_alloc (Below.refl _ _) _) (Nat.le_refl _) _⟩
end Go.Proofs.Ytoidondngoljaaa

/- The law's example; what a past's block leaves of pasts. -/
namespace Go.Proofs.Ytoidondngoljaaa
open Go.RowKit Tre Cod Pst Nam

theorem two_int {w : World} {n o : Nat} {x : Pw} {a b : Int} (h : pwE.In w n x) (h1 : w.cell? ⟨n, o, none⟩ = some (.int .i64 a)) (h2 : w.cell? ⟨n, o + 1, none⟩ = some (.int .i64 b)) : False := by
  rw [h.cell] at h1 h2
  match o, h1, h2 with
  | 0, h1, _ => exact absurd (Option.some.inj h1) (by intro e; cases e)
  | 1, _, h2 => exact absurd (Option.some.inj h2) (by intro e; cases e)
  | 2, h1, _ => exact absurd (Option.some.inj h1) (by intro e; cases e)
  | 3, h1, _ => exact absurd (Option.some.inj h1) (by intro e; cases e)
  | 4, h1, _ => exact absurd (Option.some.inj h1) (by intro e; cases e)
  | o + 5, h1, _ => exact absurd h1 (by intro e; cases e)
theorem SlV.off {α : Type} {E : El α} {w w' : World} {A : Option Addr} {c n : Nat} {l : List α} {x : Pw} (h : SlV E w A c l) (hp : pwE.In w n x) (hg : w.grownBy w' (some n)) (hi : ∀ y : α, ∃ a b : Int, (E.c y)[0]? = some (.int .i64 a) ∧ (E.c y)[1]? = some (.int .i64 b)) : SlV E w' A c l := by
  refine ⟨?_, h.2⟩
  intro h0
  obtain ⟨b, off, e, hl, hc⟩ := h.1 h0
  refine ⟨b, off, e, Nat.lt_of_lt_of_le hl hg.size, fun i hi2 => (hc i hi2).grown hg fun e2 => ?_⟩
  have e3 := Option.some.inj e2
  subst e3
  obtain ⟨a1, a2, h1, h2⟩ := hi l[0]
  have g1 := hc 0 h0 0 _ h1
  have g2 := hc 0 h0 1 _ h2
  exact two_int hp g1 g2
/-- A past's own block is written: other pasts stay. -/
theorem PastOk.off {w w' : World} {n : Nat} {x y : Pw} (h : PastOk w y) (hp : pwE.In w n x) (hg : w.grownBy w' (some n)) : PastOk w' y :=
  ⟨h.b.off hp hg fun p => ⟨p.n, p.u, rfl, rfl⟩, h.o.off hp hg fun m => ⟨m.C, m.D, rfl, rfl⟩, h.u.off hp hg fun u => ⟨u.was.n, u.was.u, rfl, rfl⟩, h.w.off hp hg fun p => ⟨p.n, p.u, rfl, rfl⟩⟩

/-- Add of a past of which the lists are known. -/
theorem addc (y : Pw) (m : Mv) {V V' : Pv} {b : Bool} (w : World) (hy : PastOk w y) (hv : y.v = V) (hI : PInv V) (hl : V.ops.length ≤ 200) (he : addV V m = (V', b)) :
    Calls Try.prog 12 #[.agg #[.slice y.bA y.base.length y.bc, .int .i64 y.t, .slice y.oA y.ops.length y.oc, .slice y.uA y.us.length y.uc, .slice y.wA y.now.length y.wc], .agg #[.int .i64 m.C, .int .i64 m.D, .int .i64 m.I, .int .i64 m.M, .int .i64 m.K, .int .i64 m.U, .string m.s]] w fun e w' => ∃ z : Pw, e = .returned (.tuple #[.agg #[.slice z.bA z.base.length z.bc, .int .i64 z.t, .slice z.oA z.ops.length z.oc, .slice z.uA z.us.length z.uc, .slice z.wA z.now.length z.wc], .bool b]) ∧ PastOk w' z ∧ z.v = V' ∧ Below w.heap.size w w' := by
  subst hv
  have h := pAdd_any y m w hy hI hl
  rw [he] at h
  exact h
theorem settlec (y : Pw) (t : Int) {V V' : Pv} (w : World) (hy : PastOk w y) (hv : y.v = V) (hI : PInv V) (hl : V.ops.length ≤ 200) (he : settleV V t = V') :
    Calls Try.prog 14 #[.agg #[.slice y.bA y.base.length y.bc, .int .i64 y.t, .slice y.oA y.ops.length y.oc, .slice y.uA y.us.length y.uc, .slice y.wA y.now.length y.wc], .int .i64 t] w fun e w' => ∃ z : Pw, e = .returned (.agg #[.slice z.bA z.base.length z.bc, .int .i64 z.t, .slice z.oA z.ops.length z.oc, .slice z.uA z.us.length z.uc, .slice z.wA z.now.length z.wc]) ∧ PastOk w' z ∧ z.v = V' ∧ Below w.heap.size w w' := by
  subst hv
  have h := pSettle_any y t w hy hI hl
  rw [he] at h
  exact h

/-- A region's ways brought to one: the frame behind it is F of a past and a block, whatever the way. -/
def Merge (F : Pw → Nat → Act) (R : Pw → Nat → World → Prop) : Exit → Act → World → Prop
  | .normal, a, w => ∃ y n, a = F y n ∧ R y n w
  | _, _, _ => False
theorem wp_merge {P : Program} {c : Code} {Q : Exit → Act → World → Prop} {a : Act} {w : World} (R : Pw → Nat → World → Prop) {F : Pw → Nat → Act} (h : c.wp P (Merge F R) a w) (k : ∀ y n w, R y n w → Q .normal (F y n) w) : c.wp P Q a w :=
  Code.wp_mono (fun e a w h => by
    cases e with
    | normal => obtain ⟨y, n, rfl, hr⟩ := h; exact k y n w hr
    | _ => exact h.elim) h
def am1 : Mv := mk4 2 1 3 2
def am2 : Mv := mk4 1 1 2 3
def am3 : Mv := mk4 2 1 4 0
def am4 : Mv := mk4 1 2 5 0
def aV1 : Pv := ⟨[], 0, [am1], [⟨zero, false, true⟩], [⟨3, 2, ⟨#[97]⟩⟩]⟩
def aV2 : Pv := ⟨[], 0, [am2, am1], [⟨zero, false, true⟩, noUn], [⟨2, 3, ⟨#[97]⟩⟩]⟩
def aV3 : Pv := ⟨[⟨2, 3, ⟨#[97]⟩⟩], 1, [am1], [noUn], [⟨2, 3, ⟨#[97]⟩⟩]⟩
theorem ax1 : addV Pv.zero am1 = (aV1, true) := by rfl
theorem ax2 : addV aV1 am2 = (aV2, true) := by rfl
theorem ax3 : addV aV2 am3 = (aV2, false) := by rfl
theorem ax4 : settleV aV2 1 = aV3 := by rfl
theorem ax5 : addV aV3 am4 = (aV3, false) := by rfl
theorem aok1 : am1.ok := by unfold Mv.ok; rfl
theorem aok2 : am2.ok := by unfold Mv.ok; rfl
theorem aI1 : PInv aV1 := by have h := PInv.zero.add aok1; rw [ax1] at h; exact h
theorem aI2 : PInv aV2 := by have h := aI1.add aok2; rw [ax2] at h; exact h
theorem aI3 : PInv aV3 := by have h := aI2.settle (t := 1) (by decide); rw [ax4] at h; exact h
theorem aown : ownV aV2 1 1 = 2 := by rfl
theorem aof : ofV aV2 2 = 0 := by rfl
end Go.Proofs.Ytoidondngoljaaa

/- The law's example. -/
namespace Go.Proofs.Ytoidondngoljaaa
open Go.RowKit Tre Cod Pst Nam

def PaS (n : Nat) (y : Pw) (w : World) : Prop := w.cell? ⟨n, 0, none⟩ = some (.slice y.bA y.base.length y.bc) ∧ w.cell? ⟨n, 1, none⟩ = some (.int .i64 y.t) ∧ w.cell? ⟨n, 2, none⟩ = some (.slice y.oA y.ops.length y.oc) ∧ w.cell? ⟨n, 3, none⟩ = some (.slice y.uA y.us.length y.uc) ∧ w.cell? ⟨n, 4, none⟩ = some (.slice y.wA y.now.length y.wc)
set_option maxRecDepth 100000 in
set_option maxHeartbeats 4000000 in
theorem awake_any (w : World) : Calls Try.prog 11 #[] w fun e w' => e = .returned (.bool true) ∧ Below w.heap.size w w' := by
  go_enter Try.func11, Try.ntmps11
  go_wp2_with fail
  refine (made_any 2 1 3 2 _).mono ?_
  rintro e W1 ⟨rfl, hb1⟩
  go_wp2_with fail
  have C1 : Calls Try.prog 12 #[.agg #[.slice none 0 0, .int .i64 0, .slice none 0 0, .slice none 0 0, .slice none 0 0], .agg #[.int .i64 am1.C, .int .i64 am1.D, .int .i64 am1.I, .int .i64 am1.M, .int .i64 am1.K, .int .i64 am1.U, .string am1.s]] W1 _ := addc Pw.zero am1 W1 (PastOk.zero _) rfl PInv.zero (by decide) ax1
  refine C1.mono ?_
  rintro e W2 ⟨y1, rfl, hy, hv1, hb2⟩
  clear C1
  have hB := below_then hb1 hb2
  have hz : pwE.In (W2.alloc (.cells #[.slice none 0 0, .int .i64 0, .slice none 0 0, .slice none 0 0, .slice none 0 0] 29)) W2.heap.size Pw.zero := El.In.new (E := pwE) W2 Pw.zero #[.slice none 0 0, .int .i64 0, .slice none 0 0, .slice none 0 0, .slice none 0 0] rfl
  go_wp2_with (refine El.store pwRow rfl _ _ rfl W2.heap.size y1 #[.slice y1.bA y1.base.length y1.bc, .int .i64 y1.t, .slice y1.oA y1.ops.length y1.oc, .slice y1.uA y1.us.length y1.uc, .slice y1.wA y1.now.length y1.wc] rfl rfl rfl Pw.zero hz ?_)
  have hP : pwE.In ((W2.alloc (.cells #[.slice none 0 0, .int .i64 0, .slice none 0 0, .slice none 0 0, .slice none 0 0] 29)).setRow W2.heap.size #[.slice y1.bA y1.base.length y1.bc, .int .i64 y1.t, .slice y1.oA y1.ops.length y1.oc, .slice y1.uA y1.us.length y1.uc, .slice y1.wA y1.now.length y1.wc]) W2.heap.size y1 := hz.set y1 #[.slice y1.bA y1.base.length y1.bc, .int .i64 y1.t, .slice y1.oA y1.ops.length y1.oc, .slice y1.uA y1.us.length y1.uc, .slice y1.wA y1.now.length y1.wc] rfl
  have hbz : Below W2.heap.size W2 ((W2.alloc (.cells #[.slice none 0 0, .int .i64 0, .slice none 0 0, .slice none 0 0, .slice none 0 0] 29)).setRow W2.heap.size #[.slice y1.bA y1.base.length y1.bc, .int .i64 y1.t, .slice y1.oA y1.ops.length y1.oc, .slice y1.uA y1.us.length y1.uc, .slice y1.wA y1.now.length y1.wc]) := below_setRow (below_alloc (Below.refl _ _) _) (Nat.le_refl _) _
  replace hy := hy.below hbz
  have hn1w : w.heap.size ≤ W2.heap.size := hB.size
  replace hB := below_then hB hbz
  try simp only [Act.put, List.setIfInBounds_toArray, List.set_cons_zero, List.set_cons_succ]
  generalize (W2.alloc (.cells #[.slice none 0 0, .int .i64 0, .slice none 0 0, .slice none 0 0, .slice none 0 0] 29)).setRow W2.heap.size #[.slice y1.bA y1.base.length y1.bc, .int .i64 y1.t, .slice y1.oA y1.ops.length y1.oc, .slice y1.uA y1.us.length y1.uc, .slice y1.wA y1.now.length y1.wc] = W at *
  generalize W2.heap.size = n1 at *
  clear hb1 hb2 hz hbz
  -- region 2
  refine region_anyG (S := PaS n1 y1) 6 (by kernel_rfl) ?_
  replace hP : pwE.In W.drew n1 y1 := hP
  replace hy : PastOk W.drew y1 := hy.below (Below.refl _ _).drew
  replace hB := hB.drew
  generalize W.drew = V at *
  have hS : PaS n1 y1 V := pwIn5 hP
  refine anyG_take (i := 0) (v := .agg #[.slice y1.bA y1.base.length y1.bc, .int .i64 y1.t, .slice y1.oA y1.ops.length y1.oc, .slice y1.uA y1.us.length y1.uc, .slice y1.wA y1.now.length y1.wc]) rfl (by kernel_rfl) (by kernel_rfl) (by kernel_rfl) (by kernel_rfl) (by kernel_rfl) (fun _ _ _ h => h) (Or.inl ⟨by rfl, fun w' hSw => by (obtain ⟨s0, s1, s2, s3, s4⟩ := hSw; go_simp)⟩) hS ?_
  try simp only [Act.put, List.setIfInBounds_toArray, List.set_cons_zero, List.set_cons_succ]
  refine anyG_step (rs := [1]) (by kernel_rfl) (by simp) ?_
  refine AllG.cons rfl (fun K hK => ?_) AllG.nil
  go_simp
  refine (made_any 1 1 2 3 _).mono ?_
  rintro e W3 ⟨rfl, hb3⟩
  replace hP := hP.below hb3
  replace hy := hy.below hb3
  replace hB := below_then hB hb3
  clear hS
  have hS : PaS n1 y1 W3 := pwIn5 hP
  try go_wp2_with fail
  refine hK.out _ _ hS ?_
  try simp only [Act.put, List.setIfInBounds_toArray, List.set_cons_zero, List.set_cons_succ]
  clear hK hb3
  refine anyG_step (rs := [2]) (by kernel_rfl) (by simp) ?_
  refine AllG.cons rfl (fun K hK => ?_) AllG.nil
  go_simp
  refine (addc y1 am2 W3 hy hv1 aI1 (by decide) ax2).mono ?_
  rintro e W4 ⟨y2, rfl, hy2, hv2, hb4⟩
  replace hP := hP.below hb4
  replace hB := below_then hB hb4
  clear hS
  have hS : PaS n1 y1 W4 := pwIn5 hP
  try go_wp2_with fail
  refine hK.out _ _ hS ?_
  try simp only [Act.put, List.setIfInBounds_toArray, List.set_cons_zero, List.set_cons_succ]
  clear hK hb4
  refine anyG_plain (i := 3) (v := .tuple #[.agg #[.slice y2.bA y2.base.length y2.bc, .int .i64 y2.t, .slice y2.oA y2.ops.length y2.oc, .slice y2.uA y2.us.length y2.uc, .slice y2.wA y2.now.length y2.wc], .bool true]) rfl (by kernel_rfl) (by kernel_rfl) (by kernel_rfl) (by kernel_rfl) (fun _ _ _ h => h) (Or.inl ⟨by rfl, fun w' => by go_simp⟩) (fun _ => hS) ?_
  try simp only [Act.put, List.setIfInBounds_toArray, List.set_cons_zero, List.set_cons_succ]
  refine anyG_plain (i := 4) (v := .agg #[.slice y2.bA y2.base.length y2.bc, .int .i64 y2.t, .slice y2.oA y2.ops.length y2.oc, .slice y2.uA y2.us.length y2.uc, .slice y2.wA y2.now.length y2.wc]) rfl (by kernel_rfl) (by kernel_rfl) (by kernel_rfl) (by kernel_rfl) (fun _ _ _ h => h) (Or.inl ⟨by rfl, fun w' => by go_simp⟩) (fun _ => hS) ?_
  try simp only [Act.put, List.setIfInBounds_toArray, List.set_cons_zero, List.set_cons_succ]
  refine anyG_plain (i := 5) (v := .bool true) rfl (by kernel_rfl) (by kernel_rfl) (by kernel_rfl) (by kernel_rfl) (fun _ _ _ h => h) (Or.inl ⟨by rfl, fun w' => by go_simp⟩) (fun _ => hS) ?_
  try simp only [Act.put, List.setIfInBounds_toArray, List.set_cons_zero, List.set_cons_succ]
  refine anyG_step (rs := [6]) (by kernel_rfl) (by simp) ?_
  refine AllG.last (n := 6) rfl (fun K hK => ?_)
  refine El.step_store pwRow rfl _ _ rfl n1 y2 #[.slice y2.bA y2.base.length y2.bc, .int .i64 y2.t, .slice y2.oA y2.ops.length y2.oc, .slice y2.uA y2.us.length y2.uc, .slice y2.wA y2.now.length y2.wc] rfl rfl rfl y1 hP ?_
  refine hK.out _ _ ?_
  try simp only [Act.put, List.setIfInBounds_toArray, List.set_cons_zero, List.set_cons_succ]
  clear hK hS
  refine anyG_plain_after (i := 7) (v := .bool true) rfl (by kernel_rfl) (by kernel_rfl) (by kernel_rfl) (by kernel_rfl) (fun _ _ _ h => h) (Or.inl ⟨by rfl, fun w' => by go_simp⟩) (by kernel_rfl) ?_
  try simp only [Act.put, List.setIfInBounds_toArray, List.set_cons_zero, List.set_cons_succ]
  refine anyG_done (by kernel_rfl) ?_ _
  have hP2 := hP.set y2 #[.slice y2.bA y2.base.length y2.bc, .int .i64 y2.t, .slice y2.oA y2.ops.length y2.oc, .slice y2.uA y2.us.length y2.uc, .slice y2.wA y2.now.length y2.wc] rfl
  replace hy := hy2.off hP (by_row W4 n1 #[.slice y2.bA y2.base.length y2.bc, .int .i64 y2.t, .slice y2.oA y2.ops.length y2.oc, .slice y2.uA y2.us.length y2.uc, .slice y2.wA y2.now.length y2.wc])
  replace hB := below_setRow hB hn1w #[.slice y2.bA y2.base.length y2.bc, .int .i64 y2.t, .slice y2.oA y2.ops.length y2.oc, .slice y2.uA y2.us.length y2.uc, .slice y2.wA y2.now.length y2.wc]
  replace hP := hP2
  generalize W4.setRow n1 #[.slice y2.bA y2.base.length y2.bc, .int .i64 y2.t, .slice y2.oA y2.ops.length y2.oc, .slice y2.uA y2.us.length y2.uc, .slice y2.wA y2.now.length y2.wc] = W at *
  clear hP2 hy2 hv1
  have hv := hv2
  clear hv2
  go_wp2_with fail
  apply wp_merge (fun z k w' => z.v = aV2 ∧ W.heap.size ≤ k ∧ pwE.In w' k z ∧ PastOk w' z ∧ Below W.heap.size W w')
  · have hn1 := hP.lt
    refine region_anyG (S := PaS n1 y2) 7 (by kernel_rfl) ?_
    have hd : Below W.heap.size W W.drew := (Below.refl _ _).drew
    replace hP : pwE.In W.drew n1 y2 := hP
    replace hy : PastOk W.drew y2 := hy.below hd
    generalize W.drew = V at *
    have hS : PaS n1 y2 V := pwIn5 hP
    refine anyG_take (i := 0) (v := .agg #[.slice y2.bA y2.base.length y2.bc, .int .i64 y2.t, .slice y2.oA y2.ops.length y2.oc, .slice y2.uA y2.us.length y2.uc, .slice y2.wA y2.now.length y2.wc]) rfl (by kernel_rfl) (by kernel_rfl) (by kernel_rfl) (by kernel_rfl) (by kernel_rfl) (fun _ _ _ h => h) (Or.inl ⟨by rfl, fun w' hSw => by (obtain ⟨s0, s1, s2, s3, s4⟩ := hSw; go_simp)⟩) hS ?_
    try simp only [Act.put, List.setIfInBounds_toArray, List.set_cons_zero, List.set_cons_succ]
    have hda : Below W.heap.size W (V.alloc (.cells #[.slice none 0 0, .int .i64 0, .slice none 0 0, .slice none 0 0, .slice none 0 0] 29)) := hd.alloc hd.size (.cells #[.slice none 0 0, .int .i64 0, .slice none 0 0, .slice none 0 0, .slice none 0 0] 29)
    have hz : pwE.In (V.alloc (.cells #[.slice none 0 0, .int .i64 0, .slice none 0 0, .slice none 0 0, .slice none 0 0] 29)) V.heap.size Pw.zero := El.In.new (E := pwE) V Pw.zero #[.slice none 0 0, .int .i64 0, .slice none 0 0, .slice none 0 0, .slice none 0 0] rfl
    have hwV := hd.size
    refine anyG_step (rs := [1, 6]) (by kernel_rfl) (by simp) ?_
    refine AllG.cons rfl (fun K hK => ?_) (AllG.cons rfl (fun K hK => ?_) AllG.nil)
    · skip
      go_simp
      refine (made_any 2 1 4 0 _).mono ?_
      rintro e W5 ⟨rfl, hb5⟩
      have hP5 := hP.below hb5
      have hy5 := hy.below hb5
      have hB5 := hd.trans (hb5.mono hd.size)
      have hS5 : PaS n1 y2 W5 := pwIn5 hP5
      try go_wp2_with fail
      refine hK.out _ _ hS5 ?_
      try simp only [Act.put, List.setIfInBounds_toArray, List.set_cons_zero, List.set_cons_succ]
      clear hK hS
      have hS := hS5
      have hz5 : pwE.In (W5.alloc (.cells #[.slice none 0 0, .int .i64 0, .slice none 0 0, .slice none 0 0, .slice none 0 0] 29)) W5.heap.size Pw.zero := El.In.new (E := pwE) W5 Pw.zero #[.slice none 0 0, .int .i64 0, .slice none 0 0, .slice none 0 0, .slice none 0 0] rfl
      refine anyG_step (rs := [2, 6]) (by kernel_rfl) (by simp) ?_
      refine AllG.cons rfl (fun K hK => ?_) (AllG.cons rfl (fun K hK => ?_) AllG.nil)
      · skip
        go_simp
        refine (addc y2 (mk4 2 1 4 0) W5 hy5 hv aI2 (by decide) ax3).mono ?_
        rintro e W6 ⟨z, rfl, hyz, hvz, hb6⟩
        have hP6 := hP5.below hb6
        have hB6 := hB5.trans (hb6.mono hB5.size)
        have hS6 : PaS n1 y2 W6 := pwIn5 hP6
        try go_wp2_with fail
        refine hK.out _ _ hS6 ?_
        try simp only [Act.put, List.setIfInBounds_toArray, List.set_cons_zero, List.set_cons_succ]
        clear hK hS
        have hS := hS6
        have hz6 : pwE.In (W6.alloc (.cells #[.slice none 0 0, .int .i64 0, .slice none 0 0, .slice none 0 0, .slice none 0 0] 29)) W6.heap.size Pw.zero := El.In.new (E := pwE) W6 Pw.zero #[.slice none 0 0, .int .i64 0, .slice none 0 0, .slice none 0 0, .slice none 0 0] rfl
        refine anyG_plain (i := 3) (v := .tuple #[.agg #[.slice z.bA z.base.length z.bc, .int .i64 z.t, .slice z.oA z.ops.length z.oc, .slice z.uA z.us.length z.uc, .slice z.wA z.now.length z.wc], .bool false]) rfl (by kernel_rfl) (by kernel_rfl) (by kernel_rfl) (by kernel_rfl) (fun _ _ _ h => h) (Or.inl ⟨by rfl, fun w' => by go_simp⟩) (fun _ => hS) ?_
        try simp only [Act.put, List.setIfInBounds_toArray, List.set_cons_zero, List.set_cons_succ]
        refine anyG_plain (i := 4) (v := .agg #[.slice z.bA z.base.length z.bc, .int .i64 z.t, .slice z.oA z.ops.length z.oc, .slice z.uA z.us.length z.uc, .slice z.wA z.now.length z.wc]) rfl (by kernel_rfl) (by kernel_rfl) (by kernel_rfl) (by kernel_rfl) (fun _ _ _ h => h) (Or.inl ⟨by rfl, fun w' => by go_simp⟩) (fun _ => hS) ?_
        try simp only [Act.put, List.setIfInBounds_toArray, List.set_cons_zero, List.set_cons_succ]
        refine anyG_plain (i := 5) (v := .bool false) rfl (by kernel_rfl) (by kernel_rfl) (by kernel_rfl) (by kernel_rfl) (fun _ _ _ h => h) (Or.inl ⟨by rfl, fun w' => by go_simp⟩) (fun _ => hS) ?_
        try simp only [Act.put, List.setIfInBounds_toArray, List.set_cons_zero, List.set_cons_succ]
        refine anyG_step (rs := [6]) (by kernel_rfl) (by simp) ?_
        refine AllG.cons rfl (fun K hK => ?_) AllG.nil
        have hSa : PaS n1 y2 (W6.alloc (.cells #[.slice none 0 0, .int .i64 0, .slice none 0 0, .slice none 0 0, .slice none 0 0] 29)) := pwIn5 (hP6.alloc (.cells #[.slice none 0 0, .int .i64 0, .slice none 0 0, .slice none 0 0, .slice none 0 0] 29))
        go_simp
        refine hK.out _ _ hSa ?_
        try simp only [Act.put, List.setIfInBounds_toArray, List.set_cons_zero, List.set_cons_succ]
        clear hK hS
        have hS := hSa
        have hyz' := hyz.below (below_alloc (Below.refl W6.heap.size W6) (.cells #[.slice none 0 0, .int .i64 0, .slice none 0 0, .slice none 0 0, .slice none 0 0] 29))
        have hBz := hB6.alloc hB6.size (.cells #[.slice none 0 0, .int .i64 0, .slice none 0 0, .slice none 0 0, .slice none 0 0] 29)
        have hkW : W.heap.size ≤ W6.heap.size := hB6.size
        generalize W6.alloc (.cells #[.slice none 0 0, .int .i64 0, .slice none 0 0, .slice none 0 0, .slice none 0 0] 29) = W7 at *
        generalize W6.heap.size = nA at *
        refine anyG_step (rs := [7]) (by kernel_rfl) (by simp) ?_
        refine AllG.last (n := 7) rfl (fun K hK => ?_)
        refine El.step_store pwRow rfl _ _ rfl nA z #[.slice z.bA z.base.length z.bc, .int .i64 z.t, .slice z.oA z.ops.length z.oc, .slice z.uA z.us.length z.uc, .slice z.wA z.now.length z.wc] rfl rfl rfl Pw.zero hz6 ?_
        refine hK.out _ _ ?_
        try simp only [Act.put, List.setIfInBounds_toArray, List.set_cons_zero, List.set_cons_succ]
        clear hK hS
        refine anyG_plain_after (i := 8) (v := .bool false) rfl (by kernel_rfl) (by kernel_rfl) (by kernel_rfl) (by kernel_rfl) (fun _ _ _ h => h) (Or.inl ⟨by rfl, fun w' => by go_simp⟩) (by kernel_rfl) ?_
        try simp only [Act.put, List.setIfInBounds_toArray, List.set_cons_zero, List.set_cons_succ]
        refine anyG_done (by kernel_rfl) ?_ _
        have hPz := (hz6).set z #[.slice z.bA z.base.length z.bc, .int .i64 z.t, .slice z.oA z.ops.length z.oc, .slice z.uA z.us.length z.uc, .slice z.wA z.now.length z.wc] rfl
        exact ⟨z, nA, rfl, hvz, hkW, hPz, hyz'.off hz6 (by_row _ _ _), below_setRow hBz hkW _⟩
      · skip
        have hSa : PaS n1 y2 (W5.alloc (.cells #[.slice none 0 0, .int .i64 0, .slice none 0 0, .slice none 0 0, .slice none 0 0] 29)) := pwIn5 (hP5.alloc (.cells #[.slice none 0 0, .int .i64 0, .slice none 0 0, .slice none 0 0, .slice none 0 0] 29))
        go_simp
        refine hK.out _ _ hSa ?_
        try simp only [Act.put, List.setIfInBounds_toArray, List.set_cons_zero, List.set_cons_succ]
        clear hK hS
        have hS := hSa
        have hya := hy5.below (below_alloc (Below.refl W5.heap.size W5) (.cells #[.slice none 0 0, .int .i64 0, .slice none 0 0, .slice none 0 0, .slice none 0 0] 29))
        have hPa := hP5.alloc (.cells #[.slice none 0 0, .int .i64 0, .slice none 0 0, .slice none 0 0, .slice none 0 0] 29)
        have hBa := hB5.alloc hB5.size (.cells #[.slice none 0 0, .int .i64 0, .slice none 0 0, .slice none 0 0, .slice none 0 0] 29)
        have hkW : W.heap.size ≤ W5.heap.size := hB5.size
        generalize W5.alloc (.cells #[.slice none 0 0, .int .i64 0, .slice none 0 0, .slice none 0 0, .slice none 0 0] 29) = W7 at *
        generalize W5.heap.size = nA at *
        refine anyG_step (rs := [2]) (by kernel_rfl) (by simp) ?_
        refine AllG.cons rfl (fun K hK => ?_) AllG.nil
        go_simp
        refine (addc y2 (mk4 2 1 4 0) W7 hya hv aI2 (by decide) ax3).mono ?_
        rintro e W6 ⟨z, rfl, hyz, hvz, hb6⟩
        have hP6 := hPa.below hb6
        have hB6 := hBa.trans (hb6.mono hBa.size)
        have hS6 : PaS n1 y2 W6 := pwIn5 hP6
        try go_wp2_with fail
        refine hK.out _ _ hS6 ?_
        try simp only [Act.put, List.setIfInBounds_toArray, List.set_cons_zero, List.set_cons_succ]
        clear hK hS
        have hS := hS6
        have hz6 := hz5.below hb6
        refine anyG_plain (i := 3) (v := .tuple #[.agg #[.slice z.bA z.base.length z.bc, .int .i64 z.t, .slice z.oA z.ops.length z.oc, .slice z.uA z.us.length z.uc, .slice z.wA z.now.length z.wc], .bool false]) rfl (by kernel_rfl) (by kernel_rfl) (by kernel_rfl) (by kernel_rfl) (fun _ _ _ h => h) (Or.inl ⟨by rfl, fun w' => by go_simp⟩) (fun _ => hS) ?_
        try simp only [Act.put, List.setIfInBounds_toArray, List.set_cons_zero, List.set_cons_succ]
        refine anyG_plain (i := 4) (v := .agg #[.slice z.bA z.base.length z.bc, .int .i64 z.t, .slice z.oA z.ops.length z.oc, .slice z.uA z.us.length z.uc, .slice z.wA z.now.length z.wc]) rfl (by kernel_rfl) (by kernel_rfl) (by kernel_rfl) (by kernel_rfl) (fun _ _ _ h => h) (Or.inl ⟨by rfl, fun w' => by go_simp⟩) (fun _ => hS) ?_
        try simp only [Act.put, List.setIfInBounds_toArray, List.set_cons_zero, List.set_cons_succ]
        refine anyG_plain (i := 5) (v := .bool false) rfl (by kernel_rfl) (by kernel_rfl) (by kernel_rfl) (by kernel_rfl) (fun _ _ _ h => h) (Or.inl ⟨by rfl, fun w' => by go_simp⟩) (fun _ => hS) ?_
        try simp only [Act.put, List.setIfInBounds_toArray, List.set_cons_zero, List.set_cons_succ]
        refine anyG_step (rs := [7]) (by kernel_rfl) (by simp) ?_
        refine AllG.last (n := 7) rfl (fun K hK => ?_)
        refine El.step_store pwRow rfl _ _ rfl nA z #[.slice z.bA z.base.length z.bc, .int .i64 z.t, .slice z.oA z.ops.length z.oc, .slice z.uA z.us.length z.uc, .slice z.wA z.now.length z.wc] rfl rfl rfl Pw.zero hz6 ?_
        refine hK.out _ _ ?_
        try simp only [Act.put, List.setIfInBounds_toArray, List.set_cons_zero, List.set_cons_succ]
        clear hK hS
        refine anyG_plain_after (i := 8) (v := .bool false) rfl (by kernel_rfl) (by kernel_rfl) (by kernel_rfl) (by kernel_rfl) (fun _ _ _ h => h) (Or.inl ⟨by rfl, fun w' => by go_simp⟩) (by kernel_rfl) ?_
        try simp only [Act.put, List.setIfInBounds_toArray, List.set_cons_zero, List.set_cons_succ]
        refine anyG_done (by kernel_rfl) ?_ _
        have hPz := (hz6).set z #[.slice z.bA z.base.length z.bc, .int .i64 z.t, .slice z.oA z.ops.length z.oc, .slice z.uA z.us.length z.uc, .slice z.wA z.now.length z.wc] rfl
        exact ⟨z, nA, rfl, hvz, hkW, hPz, hyz.off hz6 (by_row _ _ _), below_setRow hB6 hkW _⟩
    · skip
      have hSa : PaS n1 y2 (V.alloc (.cells #[.slice none 0 0, .int .i64 0, .slice none 0 0, .slice none 0 0, .slice none 0 0] 29)) := pwIn5 (hP.alloc (.cells #[.slice none 0 0, .int .i64 0, .slice none 0 0, .slice none 0 0, .slice none 0 0] 29))
      go_simp
      refine hK.out _ _ hSa ?_
      try simp only [Act.put, List.setIfInBounds_toArray, List.set_cons_zero, List.set_cons_succ]
      clear hK hS
      have hS := hSa
      have hya := hy.below (below_alloc (Below.refl V.heap.size V) (.cells #[.slice none 0 0, .int .i64 0, .slice none 0 0, .slice none 0 0, .slice none 0 0] 29))
      have hPa := hP.alloc (.cells #[.slice none 0 0, .int .i64 0, .slice none 0 0, .slice none 0 0, .slice none 0 0] 29)
      have hkW : W.heap.size ≤ V.heap.size := hd.size
      generalize V.alloc (.cells #[.slice none 0 0, .int .i64 0, .slice none 0 0, .slice none 0 0, .slice none 0 0] 29) = V7 at *
      generalize V.heap.size = nA at *
      refine anyG_step (rs := [1]) (by kernel_rfl) (by simp) ?_
      refine AllG.cons rfl (fun K hK => ?_) AllG.nil
      go_simp
      refine (made_any 2 1 4 0 _).mono ?_
      rintro e W5 ⟨rfl, hb5⟩
      have hP5 := hPa.below hb5
      have hy5 := hya.below hb5
      have hB5 := hda.trans (hb5.mono hda.size)
      have hS5 : PaS n1 y2 W5 := pwIn5 hP5
      try go_wp2_with fail
      refine hK.out _ _ hS5 ?_
      try simp only [Act.put, List.setIfInBounds_toArray, List.set_cons_zero, List.set_cons_succ]
      clear hK hS
      have hS := hS5
      have hz5 := hz.below hb5
      refine anyG_step (rs := [2]) (by kernel_rfl) (by simp) ?_
      refine AllG.cons rfl (fun K hK => ?_) AllG.nil
      go_simp
      refine (addc y2 (mk4 2 1 4 0) W5 hy5 hv aI2 (by decide) ax3).mono ?_
      rintro e W6 ⟨z, rfl, hyz, hvz, hb6⟩
      have hP6 := hP5.below hb6
      have hB6 := hB5.trans (hb6.mono hB5.size)
      have hS6 : PaS n1 y2 W6 := pwIn5 hP6
      try go_wp2_with fail
      refine hK.out _ _ hS6 ?_
      try simp only [Act.put, List.setIfInBounds_toArray, List.set_cons_zero, List.set_cons_succ]
      clear hK hS
      have hS := hS6
      have hz6 := hz5.below hb6
      refine anyG_plain (i := 3) (v := .tuple #[.agg #[.slice z.bA z.base.length z.bc, .int .i64 z.t, .slice z.oA z.ops.length z.oc, .slice z.uA z.us.length z.uc, .slice z.wA z.now.length z.wc], .bool false]) rfl (by kernel_rfl) (by kernel_rfl) (by kernel_rfl) (by kernel_rfl) (fun _ _ _ h => h) (Or.inl ⟨by rfl, fun w' => by go_simp⟩) (fun _ => hS) ?_
      try simp only [Act.put, List.setIfInBounds_toArray, List.set_cons_zero, List.set_cons_succ]
      refine anyG_plain (i := 4) (v := .agg #[.slice z.bA z.base.length z.bc, .int .i64 z.t, .slice z.oA z.ops.length z.oc, .slice z.uA z.us.length z.uc, .slice z.wA z.now.length z.wc]) rfl (by kernel_rfl) (by kernel_rfl) (by kernel_rfl) (by kernel_rfl) (fun _ _ _ h => h) (Or.inl ⟨by rfl, fun w' => by go_simp⟩) (fun _ => hS) ?_
      try simp only [Act.put, List.setIfInBounds_toArray, List.set_cons_zero, List.set_cons_succ]
      refine anyG_plain (i := 5) (v := .bool false) rfl (by kernel_rfl) (by kernel_rfl) (by kernel_rfl) (by kernel_rfl) (fun _ _ _ h => h) (Or.inl ⟨by rfl, fun w' => by go_simp⟩) (fun _ => hS) ?_
      try simp only [Act.put, List.setIfInBounds_toArray, List.set_cons_zero, List.set_cons_succ]
      refine anyG_step (rs := [7]) (by kernel_rfl) (by simp) ?_
      refine AllG.last (n := 7) rfl (fun K hK => ?_)
      refine El.step_store pwRow rfl _ _ rfl nA z #[.slice z.bA z.base.length z.bc, .int .i64 z.t, .slice z.oA z.ops.length z.oc, .slice z.uA z.us.length z.uc, .slice z.wA z.now.length z.wc] rfl rfl rfl Pw.zero hz6 ?_
      refine hK.out _ _ ?_
      try simp only [Act.put, List.setIfInBounds_toArray, List.set_cons_zero, List.set_cons_succ]
      clear hK hS
      refine anyG_plain_after (i := 8) (v := .bool false) rfl (by kernel_rfl) (by kernel_rfl) (by kernel_rfl) (by kernel_rfl) (fun _ _ _ h => h) (Or.inl ⟨by rfl, fun w' => by go_simp⟩) (by kernel_rfl) ?_
      try simp only [Act.put, List.setIfInBounds_toArray, List.set_cons_zero, List.set_cons_succ]
      refine anyG_done (by kernel_rfl) ?_ _
      have hPz := (hz6).set z #[.slice z.bA z.base.length z.bc, .int .i64 z.t, .slice z.oA z.ops.length z.oc, .slice z.uA z.us.length z.uc, .slice z.wA z.now.length z.wc] rfl
      exact ⟨z, nA, rfl, hvz, hkW, hPz, hyz.off hz6 (by_row _ _ _), below_setRow hB6 hkW _⟩
  rintro z nz w' ⟨hvz, hnz, hPz, hyz, hbz⟩
  replace hP := hP.below hbz
  replace hy := hy.below hbz
  replace hB := hB.trans (hbz.mono hB.size)
  clear hbz hvz hyz hPz hnz
  have HS := Lib.hid (settlec y2 1 w' hy hv aI2 (by decide) ax4)
  go_wp2_with (first | (refine El.load pwRow rfl _ rfl n1 0 rfl y2 hP.at #[.slice y2.bA y2.base.length y2.bc, .int .i64 y2.t, .slice y2.oA y2.ops.length y2.oc, .slice y2.uA y2.us.length y2.uc, .slice y2.wA y2.now.length y2.wc] rfl ?_) | (go_at_call 14; (with_reducible refine HS.out.mono ?_); rintro e W8 ⟨q, rfl, hq, hvq, hb8⟩; have hz8 : pwE.In (W8.alloc (.cells #[.slice none 0 0, .int .i64 0, .slice none 0 0, .slice none 0 0, .slice none 0 0] 29)) W8.heap.size Pw.zero := El.In.new (E := pwE) W8 Pw.zero #[.slice none 0 0, .int .i64 0, .slice none 0 0, .slice none 0 0, .slice none 0 0] rfl) | (refine El.store pwRow rfl _ _ rfl W8.heap.size q #[.slice q.bA q.base.length q.bc, .int .i64 q.t, .slice q.oA q.ops.length q.oc, .slice q.uA q.us.length q.uc, .slice q.wA q.now.length q.wc] rfl rfl rfl Pw.zero hz8 ?_))
  try simp only [Act.put, List.setIfInBounds_toArray, List.set_cons_zero, List.set_cons_succ]
  have hP8 := hz8.set q #[.slice q.bA q.base.length q.bc, .int .i64 q.t, .slice q.oA q.ops.length q.oc, .slice q.uA q.us.length q.uc, .slice q.wA q.now.length q.wc] rfl
  have hbz : Below W8.heap.size W8 ((W8.alloc (.cells #[.slice none 0 0, .int .i64 0, .slice none 0 0, .slice none 0 0, .slice none 0 0] 29)).setRow W8.heap.size #[.slice q.bA q.base.length q.bc, .int .i64 q.t, .slice q.oA q.ops.length q.oc, .slice q.uA q.us.length q.uc, .slice q.wA q.now.length q.wc]) := below_setRow (below_alloc (Below.refl _ _) _) (Nat.le_refl _) _
  replace hP := (hP.below hb8).below hbz
  replace hy := (hy.below hb8).below hbz
  replace hq := hq.below hbz
  replace hB := (hB.trans (hb8.mono hB.size)).trans (hbz.mono (by have := hB.size; have := hb8.size; omega))
  generalize (W8.alloc (.cells #[.slice none 0 0, .int .i64 0, .slice none 0 0, .slice none 0 0, .slice none 0 0] 29)).setRow W8.heap.size #[.slice q.bA q.base.length q.bc, .int .i64 q.t, .slice q.oA q.ops.length q.oc, .slice q.uA q.us.length q.uc, .slice q.wA q.now.length q.wc] = W at *
  generalize W8.heap.size = n6 at *
  clear hb8 hz8 hbz HS
  have hP1 := hP
  have hy1 := hy
  have hv1 := hv
  clear hP hy hv
  have hP := hP8
  have hy := hq
  have hv := hvq
  clear hP8 hq hvq
  apply wp_merge (fun z k w' => z.v = aV3 ∧ W.heap.size ≤ k ∧ pwE.In w' k z ∧ PastOk w' z ∧ Below W.heap.size W w')
  · have hn1 := hP.lt
    refine region_anyG (S := PaS n6 q) 7 (by kernel_rfl) ?_
    have hd : Below W.heap.size W W.drew := (Below.refl _ _).drew
    replace hP : pwE.In W.drew n6 q := hP
    replace hy : PastOk W.drew q := hy.below hd
    generalize W.drew = V at *
    have hS : PaS n6 q V := pwIn5 hP
    refine anyG_take (i := 0) (v := .agg #[.slice q.bA q.base.length q.bc, .int .i64 q.t, .slice q.oA q.ops.length q.oc, .slice q.uA q.us.length q.uc, .slice q.wA q.now.length q.wc]) rfl (by kernel_rfl) (by kernel_rfl) (by kernel_rfl) (by kernel_rfl) (by kernel_rfl) (fun _ _ _ h => h) (Or.inl ⟨by rfl, fun w' hSw => by (obtain ⟨s0, s1, s2, s3, s4⟩ := hSw; go_simp)⟩) hS ?_
    try simp only [Act.put, List.setIfInBounds_toArray, List.set_cons_zero, List.set_cons_succ]
    have hda : Below W.heap.size W (V.alloc (.cells #[.slice none 0 0, .int .i64 0, .slice none 0 0, .slice none 0 0, .slice none 0 0] 29)) := hd.alloc hd.size (.cells #[.slice none 0 0, .int .i64 0, .slice none 0 0, .slice none 0 0, .slice none 0 0] 29)
    have hz : pwE.In (V.alloc (.cells #[.slice none 0 0, .int .i64 0, .slice none 0 0, .slice none 0 0, .slice none 0 0] 29)) V.heap.size Pw.zero := El.In.new (E := pwE) V Pw.zero #[.slice none 0 0, .int .i64 0, .slice none 0 0, .slice none 0 0, .slice none 0 0] rfl
    have hwV := hd.size
    refine anyG_step (rs := [1, 6]) (by kernel_rfl) (by simp) ?_
    refine AllG.cons rfl (fun K hK => ?_) (AllG.cons rfl (fun K hK => ?_) AllG.nil)
    · skip
      go_simp
      refine (made_any 1 2 5 0 _).mono ?_
      rintro e W5 ⟨rfl, hb5⟩
      have hP5 := hP.below hb5
      have hy5 := hy.below hb5
      have hB5 := hd.trans (hb5.mono hd.size)
      have hS5 : PaS n6 q W5 := pwIn5 hP5
      try go_wp2_with fail
      refine hK.out _ _ hS5 ?_
      try simp only [Act.put, List.setIfInBounds_toArray, List.set_cons_zero, List.set_cons_succ]
      clear hK hS
      have hS := hS5
      have hz5 : pwE.In (W5.alloc (.cells #[.slice none 0 0, .int .i64 0, .slice none 0 0, .slice none 0 0, .slice none 0 0] 29)) W5.heap.size Pw.zero := El.In.new (E := pwE) W5 Pw.zero #[.slice none 0 0, .int .i64 0, .slice none 0 0, .slice none 0 0, .slice none 0 0] rfl
      refine anyG_step (rs := [2, 6]) (by kernel_rfl) (by simp) ?_
      refine AllG.cons rfl (fun K hK => ?_) (AllG.cons rfl (fun K hK => ?_) AllG.nil)
      · skip
        go_simp
        refine (addc q (mk4 1 2 5 0) W5 hy5 hv aI3 (by decide) ax5).mono ?_
        rintro e W6 ⟨z, rfl, hyz, hvz, hb6⟩
        have hP6 := hP5.below hb6
        have hB6 := hB5.trans (hb6.mono hB5.size)
        have hS6 : PaS n6 q W6 := pwIn5 hP6
        try go_wp2_with fail
        refine hK.out _ _ hS6 ?_
        try simp only [Act.put, List.setIfInBounds_toArray, List.set_cons_zero, List.set_cons_succ]
        clear hK hS
        have hS := hS6
        have hz6 : pwE.In (W6.alloc (.cells #[.slice none 0 0, .int .i64 0, .slice none 0 0, .slice none 0 0, .slice none 0 0] 29)) W6.heap.size Pw.zero := El.In.new (E := pwE) W6 Pw.zero #[.slice none 0 0, .int .i64 0, .slice none 0 0, .slice none 0 0, .slice none 0 0] rfl
        refine anyG_plain (i := 3) (v := .tuple #[.agg #[.slice z.bA z.base.length z.bc, .int .i64 z.t, .slice z.oA z.ops.length z.oc, .slice z.uA z.us.length z.uc, .slice z.wA z.now.length z.wc], .bool false]) rfl (by kernel_rfl) (by kernel_rfl) (by kernel_rfl) (by kernel_rfl) (fun _ _ _ h => h) (Or.inl ⟨by rfl, fun w' => by go_simp⟩) (fun _ => hS) ?_
        try simp only [Act.put, List.setIfInBounds_toArray, List.set_cons_zero, List.set_cons_succ]
        refine anyG_plain (i := 4) (v := .agg #[.slice z.bA z.base.length z.bc, .int .i64 z.t, .slice z.oA z.ops.length z.oc, .slice z.uA z.us.length z.uc, .slice z.wA z.now.length z.wc]) rfl (by kernel_rfl) (by kernel_rfl) (by kernel_rfl) (by kernel_rfl) (fun _ _ _ h => h) (Or.inl ⟨by rfl, fun w' => by go_simp⟩) (fun _ => hS) ?_
        try simp only [Act.put, List.setIfInBounds_toArray, List.set_cons_zero, List.set_cons_succ]
        refine anyG_plain (i := 5) (v := .bool false) rfl (by kernel_rfl) (by kernel_rfl) (by kernel_rfl) (by kernel_rfl) (fun _ _ _ h => h) (Or.inl ⟨by rfl, fun w' => by go_simp⟩) (fun _ => hS) ?_
        try simp only [Act.put, List.setIfInBounds_toArray, List.set_cons_zero, List.set_cons_succ]
        refine anyG_step (rs := [6]) (by kernel_rfl) (by simp) ?_
        refine AllG.cons rfl (fun K hK => ?_) AllG.nil
        have hSa : PaS n6 q (W6.alloc (.cells #[.slice none 0 0, .int .i64 0, .slice none 0 0, .slice none 0 0, .slice none 0 0] 29)) := pwIn5 (hP6.alloc (.cells #[.slice none 0 0, .int .i64 0, .slice none 0 0, .slice none 0 0, .slice none 0 0] 29))
        go_simp
        refine hK.out _ _ hSa ?_
        try simp only [Act.put, List.setIfInBounds_toArray, List.set_cons_zero, List.set_cons_succ]
        clear hK hS
        have hS := hSa
        have hyz' := hyz.below (below_alloc (Below.refl W6.heap.size W6) (.cells #[.slice none 0 0, .int .i64 0, .slice none 0 0, .slice none 0 0, .slice none 0 0] 29))
        have hBz := hB6.alloc hB6.size (.cells #[.slice none 0 0, .int .i64 0, .slice none 0 0, .slice none 0 0, .slice none 0 0] 29)
        have hkW : W.heap.size ≤ W6.heap.size := hB6.size
        generalize W6.alloc (.cells #[.slice none 0 0, .int .i64 0, .slice none 0 0, .slice none 0 0, .slice none 0 0] 29) = W7 at *
        generalize W6.heap.size = nA at *
        refine anyG_step (rs := [7]) (by kernel_rfl) (by simp) ?_
        refine AllG.last (n := 7) rfl (fun K hK => ?_)
        refine El.step_store pwRow rfl _ _ rfl nA z #[.slice z.bA z.base.length z.bc, .int .i64 z.t, .slice z.oA z.ops.length z.oc, .slice z.uA z.us.length z.uc, .slice z.wA z.now.length z.wc] rfl rfl rfl Pw.zero hz6 ?_
        refine hK.out _ _ ?_
        try simp only [Act.put, List.setIfInBounds_toArray, List.set_cons_zero, List.set_cons_succ]
        clear hK hS
        refine anyG_plain_after (i := 8) (v := .bool false) rfl (by kernel_rfl) (by kernel_rfl) (by kernel_rfl) (by kernel_rfl) (fun _ _ _ h => h) (Or.inl ⟨by rfl, fun w' => by go_simp⟩) (by kernel_rfl) ?_
        try simp only [Act.put, List.setIfInBounds_toArray, List.set_cons_zero, List.set_cons_succ]
        refine anyG_done (by kernel_rfl) ?_ _
        have hPz := (hz6).set z #[.slice z.bA z.base.length z.bc, .int .i64 z.t, .slice z.oA z.ops.length z.oc, .slice z.uA z.us.length z.uc, .slice z.wA z.now.length z.wc] rfl
        exact ⟨z, nA, rfl, hvz, hkW, hPz, hyz'.off hz6 (by_row _ _ _), below_setRow hBz hkW _⟩
      · skip
        have hSa : PaS n6 q (W5.alloc (.cells #[.slice none 0 0, .int .i64 0, .slice none 0 0, .slice none 0 0, .slice none 0 0] 29)) := pwIn5 (hP5.alloc (.cells #[.slice none 0 0, .int .i64 0, .slice none 0 0, .slice none 0 0, .slice none 0 0] 29))
        go_simp
        refine hK.out _ _ hSa ?_
        try simp only [Act.put, List.setIfInBounds_toArray, List.set_cons_zero, List.set_cons_succ]
        clear hK hS
        have hS := hSa
        have hya := hy5.below (below_alloc (Below.refl W5.heap.size W5) (.cells #[.slice none 0 0, .int .i64 0, .slice none 0 0, .slice none 0 0, .slice none 0 0] 29))
        have hPa := hP5.alloc (.cells #[.slice none 0 0, .int .i64 0, .slice none 0 0, .slice none 0 0, .slice none 0 0] 29)
        have hBa := hB5.alloc hB5.size (.cells #[.slice none 0 0, .int .i64 0, .slice none 0 0, .slice none 0 0, .slice none 0 0] 29)
        have hkW : W.heap.size ≤ W5.heap.size := hB5.size
        generalize W5.alloc (.cells #[.slice none 0 0, .int .i64 0, .slice none 0 0, .slice none 0 0, .slice none 0 0] 29) = W7 at *
        generalize W5.heap.size = nA at *
        refine anyG_step (rs := [2]) (by kernel_rfl) (by simp) ?_
        refine AllG.cons rfl (fun K hK => ?_) AllG.nil
        go_simp
        refine (addc q (mk4 1 2 5 0) W7 hya hv aI3 (by decide) ax5).mono ?_
        rintro e W6 ⟨z, rfl, hyz, hvz, hb6⟩
        have hP6 := hPa.below hb6
        have hB6 := hBa.trans (hb6.mono hBa.size)
        have hS6 : PaS n6 q W6 := pwIn5 hP6
        try go_wp2_with fail
        refine hK.out _ _ hS6 ?_
        try simp only [Act.put, List.setIfInBounds_toArray, List.set_cons_zero, List.set_cons_succ]
        clear hK hS
        have hS := hS6
        have hz6 := hz5.below hb6
        refine anyG_plain (i := 3) (v := .tuple #[.agg #[.slice z.bA z.base.length z.bc, .int .i64 z.t, .slice z.oA z.ops.length z.oc, .slice z.uA z.us.length z.uc, .slice z.wA z.now.length z.wc], .bool false]) rfl (by kernel_rfl) (by kernel_rfl) (by kernel_rfl) (by kernel_rfl) (fun _ _ _ h => h) (Or.inl ⟨by rfl, fun w' => by go_simp⟩) (fun _ => hS) ?_
        try simp only [Act.put, List.setIfInBounds_toArray, List.set_cons_zero, List.set_cons_succ]
        refine anyG_plain (i := 4) (v := .agg #[.slice z.bA z.base.length z.bc, .int .i64 z.t, .slice z.oA z.ops.length z.oc, .slice z.uA z.us.length z.uc, .slice z.wA z.now.length z.wc]) rfl (by kernel_rfl) (by kernel_rfl) (by kernel_rfl) (by kernel_rfl) (fun _ _ _ h => h) (Or.inl ⟨by rfl, fun w' => by go_simp⟩) (fun _ => hS) ?_
        try simp only [Act.put, List.setIfInBounds_toArray, List.set_cons_zero, List.set_cons_succ]
        refine anyG_plain (i := 5) (v := .bool false) rfl (by kernel_rfl) (by kernel_rfl) (by kernel_rfl) (by kernel_rfl) (fun _ _ _ h => h) (Or.inl ⟨by rfl, fun w' => by go_simp⟩) (fun _ => hS) ?_
        try simp only [Act.put, List.setIfInBounds_toArray, List.set_cons_zero, List.set_cons_succ]
        refine anyG_step (rs := [7]) (by kernel_rfl) (by simp) ?_
        refine AllG.last (n := 7) rfl (fun K hK => ?_)
        refine El.step_store pwRow rfl _ _ rfl nA z #[.slice z.bA z.base.length z.bc, .int .i64 z.t, .slice z.oA z.ops.length z.oc, .slice z.uA z.us.length z.uc, .slice z.wA z.now.length z.wc] rfl rfl rfl Pw.zero hz6 ?_
        refine hK.out _ _ ?_
        try simp only [Act.put, List.setIfInBounds_toArray, List.set_cons_zero, List.set_cons_succ]
        clear hK hS
        refine anyG_plain_after (i := 8) (v := .bool false) rfl (by kernel_rfl) (by kernel_rfl) (by kernel_rfl) (by kernel_rfl) (fun _ _ _ h => h) (Or.inl ⟨by rfl, fun w' => by go_simp⟩) (by kernel_rfl) ?_
        try simp only [Act.put, List.setIfInBounds_toArray, List.set_cons_zero, List.set_cons_succ]
        refine anyG_done (by kernel_rfl) ?_ _
        have hPz := (hz6).set z #[.slice z.bA z.base.length z.bc, .int .i64 z.t, .slice z.oA z.ops.length z.oc, .slice z.uA z.us.length z.uc, .slice z.wA z.now.length z.wc] rfl
        exact ⟨z, nA, rfl, hvz, hkW, hPz, hyz.off hz6 (by_row _ _ _), below_setRow hB6 hkW _⟩
    · skip
      have hSa : PaS n6 q (V.alloc (.cells #[.slice none 0 0, .int .i64 0, .slice none 0 0, .slice none 0 0, .slice none 0 0] 29)) := pwIn5 (hP.alloc (.cells #[.slice none 0 0, .int .i64 0, .slice none 0 0, .slice none 0 0, .slice none 0 0] 29))
      go_simp
      refine hK.out _ _ hSa ?_
      try simp only [Act.put, List.setIfInBounds_toArray, List.set_cons_zero, List.set_cons_succ]
      clear hK hS
      have hS := hSa
      have hya := hy.below (below_alloc (Below.refl V.heap.size V) (.cells #[.slice none 0 0, .int .i64 0, .slice none 0 0, .slice none 0 0, .slice none 0 0] 29))
      have hPa := hP.alloc (.cells #[.slice none 0 0, .int .i64 0, .slice none 0 0, .slice none 0 0, .slice none 0 0] 29)
      have hkW : W.heap.size ≤ V.heap.size := hd.size
      generalize V.alloc (.cells #[.slice none 0 0, .int .i64 0, .slice none 0 0, .slice none 0 0, .slice none 0 0] 29) = V7 at *
      generalize V.heap.size = nA at *
      refine anyG_step (rs := [1]) (by kernel_rfl) (by simp) ?_
      refine AllG.cons rfl (fun K hK => ?_) AllG.nil
      go_simp
      refine (made_any 1 2 5 0 _).mono ?_
      rintro e W5 ⟨rfl, hb5⟩
      have hP5 := hPa.below hb5
      have hy5 := hya.below hb5
      have hB5 := hda.trans (hb5.mono hda.size)
      have hS5 : PaS n6 q W5 := pwIn5 hP5
      try go_wp2_with fail
      refine hK.out _ _ hS5 ?_
      try simp only [Act.put, List.setIfInBounds_toArray, List.set_cons_zero, List.set_cons_succ]
      clear hK hS
      have hS := hS5
      have hz5 := hz.below hb5
      refine anyG_step (rs := [2]) (by kernel_rfl) (by simp) ?_
      refine AllG.cons rfl (fun K hK => ?_) AllG.nil
      go_simp
      refine (addc q (mk4 1 2 5 0) W5 hy5 hv aI3 (by decide) ax5).mono ?_
      rintro e W6 ⟨z, rfl, hyz, hvz, hb6⟩
      have hP6 := hP5.below hb6
      have hB6 := hB5.trans (hb6.mono hB5.size)
      have hS6 : PaS n6 q W6 := pwIn5 hP6
      try go_wp2_with fail
      refine hK.out _ _ hS6 ?_
      try simp only [Act.put, List.setIfInBounds_toArray, List.set_cons_zero, List.set_cons_succ]
      clear hK hS
      have hS := hS6
      have hz6 := hz5.below hb6
      refine anyG_plain (i := 3) (v := .tuple #[.agg #[.slice z.bA z.base.length z.bc, .int .i64 z.t, .slice z.oA z.ops.length z.oc, .slice z.uA z.us.length z.uc, .slice z.wA z.now.length z.wc], .bool false]) rfl (by kernel_rfl) (by kernel_rfl) (by kernel_rfl) (by kernel_rfl) (fun _ _ _ h => h) (Or.inl ⟨by rfl, fun w' => by go_simp⟩) (fun _ => hS) ?_
      try simp only [Act.put, List.setIfInBounds_toArray, List.set_cons_zero, List.set_cons_succ]
      refine anyG_plain (i := 4) (v := .agg #[.slice z.bA z.base.length z.bc, .int .i64 z.t, .slice z.oA z.ops.length z.oc, .slice z.uA z.us.length z.uc, .slice z.wA z.now.length z.wc]) rfl (by kernel_rfl) (by kernel_rfl) (by kernel_rfl) (by kernel_rfl) (fun _ _ _ h => h) (Or.inl ⟨by rfl, fun w' => by go_simp⟩) (fun _ => hS) ?_
      try simp only [Act.put, List.setIfInBounds_toArray, List.set_cons_zero, List.set_cons_succ]
      refine anyG_plain (i := 5) (v := .bool false) rfl (by kernel_rfl) (by kernel_rfl) (by kernel_rfl) (by kernel_rfl) (fun _ _ _ h => h) (Or.inl ⟨by rfl, fun w' => by go_simp⟩) (fun _ => hS) ?_
      try simp only [Act.put, List.setIfInBounds_toArray, List.set_cons_zero, List.set_cons_succ]
      refine anyG_step (rs := [7]) (by kernel_rfl) (by simp) ?_
      refine AllG.last (n := 7) rfl (fun K hK => ?_)
      refine El.step_store pwRow rfl _ _ rfl nA z #[.slice z.bA z.base.length z.bc, .int .i64 z.t, .slice z.oA z.ops.length z.oc, .slice z.uA z.us.length z.uc, .slice z.wA z.now.length z.wc] rfl rfl rfl Pw.zero hz6 ?_
      refine hK.out _ _ ?_
      try simp only [Act.put, List.setIfInBounds_toArray, List.set_cons_zero, List.set_cons_succ]
      clear hK hS
      refine anyG_plain_after (i := 8) (v := .bool false) rfl (by kernel_rfl) (by kernel_rfl) (by kernel_rfl) (by kernel_rfl) (fun _ _ _ h => h) (Or.inl ⟨by rfl, fun w' => by go_simp⟩) (by kernel_rfl) ?_
      try simp only [Act.put, List.setIfInBounds_toArray, List.set_cons_zero, List.set_cons_succ]
      refine anyG_done (by kernel_rfl) ?_ _
      have hPz := (hz6).set z #[.slice z.bA z.base.length z.bc, .int .i64 z.t, .slice z.oA z.ops.length z.oc, .slice z.uA z.us.length z.uc, .slice z.wA z.now.length z.wc] rfl
      exact ⟨z, nA, rfl, hvz, hkW, hPz, hyz.off hz6 (by_row _ _ _), below_setRow hB6 hkW _⟩
  rintro z nz w' ⟨hvz, hnz, hPz, hyz, hbz⟩
  replace hP := hP.below hbz
  replace hP1 := hP1.below hbz
  replace hy1 := hy1.below hbz
  replace hB := hB.trans (hbz.mono hB.size)
  clear hbz hvz hyz hPz hnz hy
  obtain ⟨bA, bc, base, t, oA, oc, ops, uA, uc, us, wA, wc, now⟩ := y2
  have hQ : q.t = 1 ∧ q.base.length = 1 ∧ q.ops.length = 1 := by
    have h1 : q.t = q.v.t := rfl
    have h2 : q.base = q.v.base := rfl
    have h3 : q.ops = q.v.ops := rfl
    rw [h1, h2, h3, hv]; exact ⟨rfl, rfl, rfl⟩
  have hE : base = [] ∧ t = 0 ∧ ops = [am2, am1] ∧ us = [⟨zero, false, true⟩, noUn] ∧ now = [⟨2, 3, ⟨#[97]⟩⟩] := by
    have h1 : (⟨base, t, ops, us, now⟩ : Pv) = aV2 := hv1
    rw [Pv.mk.injEq] at h1
    exact h1
  have hxI : PInv (⟨bA, bc, base, t, oA, oc, ops, uA, uc, us, wA, wc, now⟩ : Pw).v := by rw [hv1]; exact aI2
  have CR := fun wx (h : PastOk wx (⟨bA, bc, base, t, oA, oc, ops, uA, uc, us, wA, wc, now⟩ : Pw)) => pRight_any (⟨bA, bc, base, t, oA, oc, ops, uA, uc, us, wA, wc, now⟩ : Pw) wx h (by simp only; rw [hE.1]; decide) (by simp only; rw [hE.2.2.1]; decide) (by simp only; rw [hE.2.2.2.1]; decide) (by simp only; rw [hE.2.2.2.2]; decide) (fun p hp => by have := (tree_fit hxI.tree p hp).s; omega) (fun m hm => by have := opB_wide (hxI.ok m hm); omega) true ⟨fun _ => hxI.right, fun _ => rfl⟩
  have CO := fun wx (h : PastOk wx (⟨bA, bc, base, t, oA, oc, ops, uA, uc, us, wA, wc, now⟩ : Pw)) => pOwn_any (⟨bA, bc, base, t, oA, oc, ops, uA, uc, us, wA, wc, now⟩ : Pw) 1 1 wx h (by simp only; rw [hE.2.2.1]; decide)
  have CF := fun wx (h : PastOk wx (⟨bA, bc, base, t, oA, oc, ops, uA, uc, us, wA, wc, now⟩ : Pw)) => pOf_any (⟨bA, bc, base, t, oA, oc, ops, uA, uc, us, wA, wc, now⟩ : Pw) 2 wx h (by simp only; rw [hE.2.2.1]; decide)
  rw [hv1] at CO CF
  rw [aown] at CO
  rw [aof] at CF
  have HCR := Lib.hid CR
  have HCO := Lib.hid CO
  have HCF := Lib.hid CF
  clear CR CO CF
  obtain ⟨nb, noff, hwA, hnbw, hnc⟩ := hy1.w.1 (by simp only; rw [hE.2.2.2.2]; decide)
  obtain ⟨ub, uoff, huA, hubw, huc⟩ := hy1.u.1 (by simp only; rw [hE.2.2.2.1]; decide)
  simp only at hwA huA hnc huc
  have hn0 : now[0]'(by rw [hE.2.2.2.2]; decide) = ⟨2, 3, ⟨#[97]⟩⟩ := by simp only [hE.2.2.2.2]; rfl
  have hu1 : us[1]'(by rw [hE.2.2.2.1]; decide) = noUn := by simp only [hE.2.2.2.1]; rfl
  have hatn := hnc 0 (by rw [hE.2.2.2.2]; decide)
  have hatu := huc 1 (by rw [hE.2.2.2.1]; decide)
  rw [hn0] at hatn
  rw [hu1] at hatu
  have k0 : w'.cell? ⟨nb, noff, none⟩ = some (.int .i64 2) := by have := hatn 0 _ rfl; simpa using this
  have k1 : w'.cell? ⟨ub, uoff + 5 + 4, none⟩ = some (.bool false) := by have h := hatu 4 _ rfl; rw [Nat.one_mul] at h; exact h
  subst hwA huA
  have l1 : 0 < now.length := by rw [hE.2.2.2.2]; decide
  have l2 : 1 < us.length := by rw [hE.2.2.2.1]; decide
  have e1 : now.length = 1 := by rw [hE.2.2.2.2]; rfl
  have e2 : us.length = 2 := by rw [hE.2.2.2.1]; rfl
  have E1 := Lib.hid e1
  have E2 := Lib.hid e2
  have d1 : ((now.length : Int) == 1) = true := by rw [e1]; rfl
  have d2 : ((us.length : Int) == 2) = true := by rw [e2]; rfl
  have HE := Lib.hid hE
  have HQ := Lib.hid hQ
  clear hatn hatu hnc huc hn0 hu1 hE e1 e2 hQ hxI
  obtain ⟨p0, p1, p2, p3, p4⟩ := pwIn5 hP1
  simp only at p0 p1 p2 p3 p4
  go_wp2_with fail
  clear p0 p1 p2 p3 p4 k0 k1
  refine (HCR.out _ hy1).mono ?_
  rintro e W9 ⟨rfl, hb9⟩
  replace hP := hP.below hb9
  replace hP1 := hP1.below hb9
  replace hy1 := hy1.below hb9
  replace hB := hB.trans (hb9.mono hB.size)
  clear hb9 HCR d1 d2
  have d3 : (q.t == 1) = true := by rw [HQ.out.1]; rfl
  have d4 : ((q.base.length : Int) == 1) = true := by rw [HQ.out.2.1]; rfl
  have d5 : ((q.ops.length : Int) == 1) = true := by rw [HQ.out.2.2]; rfl
  obtain ⟨p0, p1, p2, p3, p4⟩ := pwIn5 hP1
  simp only at p0 p1 p2 p3 p4
  obtain ⟨q0, q1, q2, q3, q4⟩ := pwIn5 hP
  go_wp2_with fail
  clear p0 p1 p2 p3 p4 q0 q1 q2 q3 q4 d3 d4 d5
  refine (HCO.out _ hy1).mono ?_
  rintro e W10 ⟨rfl, hb10⟩
  replace hP1 := hP1.below hb10
  replace hy1 := hy1.below hb10
  replace hB := hB.trans (hb10.mono hB.size)
  clear hb10 HCO hP
  obtain ⟨p0, p1, p2, p3, p4⟩ := pwIn5 hP1
  simp only at p0 p1 p2 p3 p4
  go_wp2_with fail
  clear p0 p1 p2 p3 p4
  refine (HCF.out _ hy1).mono ?_
  rintro e W11 ⟨rfl, hb11⟩
  go_wp2_with fail
  go_ret
  exact ⟨rfl, hB.trans (hb11.mono hB.size)⟩
end Go.Proofs.Ytoidondngoljaaa
