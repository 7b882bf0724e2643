/- Texts laid one behind the other: Au, Av. -/
import Derived.Test.YtnglpkfkepfkkaaB08
/- The program's relays: Frames; what they answer. -/
namespace Go.Proofs.Ytnglpkfkepfkkaa
open Go.RowKit Nam Cod Pln

theorem frInn19 : frE.Inn Try.prog 22 := El.inn_of (z := .agg #[.int .i64 0, .int .i64 0, .int .i64 0, .int .i64 0, .slice none 0 0, .int .i64 0, .slice none 0 0, .int .i64 0, .slice none 0 0, .int .i64 0, .int .i64 0, .int .i64 0, .int .i64 0, .slice none 0 0]) (bytes := 176) Try.underlying22 (by kernel_rfl) rfl (by decide)
theorem own_one {α : Type} {E : El α} (w : World) (x : α) (cs : Array Value) (hcs : cs = (E.c x).toArray) (B : Nat) (hB : B ≤ w.heap.size) : E.Own (w.alloc (.cells cs E.e)) B (.slice (some ⟨w.heap.size, 0, none⟩) 1 1) [x] := by
  subst hcs
  unfold El.Own
  refine ⟨El.cells_len [x], .inr ⟨w.heap.size, 1, _, rfl, hB, heap_alloc_new w _, Nat.le_refl 1, (by unfold maxLen; omega), ?_, ?_⟩⟩
  · rw [List.size_toArray, E.len, Nat.one_mul]
  · show (E.c x).toArray.toList.take (1 * E.k) = E.c x ++ []
    rw [List.toList_toArray, List.append_nil, Nat.one_mul]
    exact List.take_of_length_le (by rw [E.len]; exact Nat.le_refl _)
set_option maxRecDepth 100000 in
set_option maxHeartbeats 8000000 in
theorem frames19_any (p : Pnw) (x : Rlw) (w : World) (up : Int) (n : Nat) (hPR : Pln.Right p.p) (hn : n ≤ 60) (hr : RlR p.p up n x.v) (hT : inE.Sl w p.A p.p.u) (hx : x.ok w) :
    Calls Try.prog 11 #[.agg #[.slice p.A p.p.u.length p.c, .int .i64 p.p.q, .int .i64 p.p.r, .int .i64 p.p.b, .int .i64 p.p.l, .int .i64 p.p.w, .int .i64 p.p.c, .int .i64 p.p.k, .int .i64 p.p.i], .agg #[.int .i64 x.node, .int .i64 x.boot, .int .i64 x.above, .int .i64 x.st.s, .int .i64 x.st.t, .int .i64 x.st.p, .slice x.eA x.st.es.length x.ec, .int .i64 x.q.f, .int .i64 x.q.g, .slice x.qA x.q.os.length x.qc, .slice x.kA x.ks.length x.kc, .slice x.rA x.rs.length x.rc, .slice x.gA x.gs.length x.gc, .slice none 0 0, .slice none 0 0, .int .i64 0, .slice none 0 0, .slice none 0 0, .slice none 0 0, .slice none 0 0, .int .i64 0, .int .i64 0, .int .i64 0, .int .i64 0, .slice none 0 0, .int .i64 0]] w fun e w' => ∃ (A : Option Addr) (c : Nat) (l : List Fw), e = .returned (.slice A l.length c) ∧ FsV w' A c l ∧ l.map Fw.x = framesR p.p up x.v ∧ Below w.heap.size w w' := by
  have hP : pnE.In ((w.alloc (.cells #[.slice p.A p.p.u.length p.c, .int .i64 p.p.q, .int .i64 p.p.r, .int .i64 p.p.b, .int .i64 p.p.l, .int .i64 p.p.w, .int .i64 p.p.c, .int .i64 p.p.k, .int .i64 p.p.i] 33)).alloc (.cells #[.int .i64 x.node, .int .i64 x.boot, .int .i64 x.above, .int .i64 x.st.s, .int .i64 x.st.t, .int .i64 x.st.p, .slice x.eA x.st.es.length x.ec, .int .i64 x.q.f, .int .i64 x.q.g, .slice x.qA x.q.os.length x.qc, .slice x.kA x.ks.length x.kc, .slice x.rA x.rs.length x.rc, .slice x.gA x.gs.length x.gc, .slice none 0 0, .slice none 0 0, .int .i64 0, .slice none 0 0, .slice none 0 0, .slice none 0 0, .slice none 0 0, .int .i64 0, .int .i64 0, .int .i64 0, .int .i64 0, .slice none 0 0, .int .i64 0] 48)) w.heap.size p := (El.In.new (E := pnE) w p _ rfl).alloc _
  have hE : ryE.In ((w.alloc (.cells #[.slice p.A p.p.u.length p.c, .int .i64 p.p.q, .int .i64 p.p.r, .int .i64 p.p.b, .int .i64 p.p.l, .int .i64 p.p.w, .int .i64 p.p.c, .int .i64 p.p.k, .int .i64 p.p.i] 33)).alloc (.cells #[.int .i64 x.node, .int .i64 x.boot, .int .i64 x.above, .int .i64 x.st.s, .int .i64 x.st.t, .int .i64 x.st.p, .slice x.eA x.st.es.length x.ec, .int .i64 x.q.f, .int .i64 x.q.g, .slice x.qA x.q.os.length x.qc, .slice x.kA x.ks.length x.kc, .slice x.rA x.rs.length x.rc, .slice x.gA x.gs.length x.gc, .slice none 0 0, .slice none 0 0, .int .i64 0, .slice none 0 0, .slice none 0 0, .slice none 0 0, .slice none 0 0, .int .i64 0, .int .i64 0, .int .i64 0, .int .i64 0, .slice none 0 0, .int .i64 0] 48)) (w.heap.size + 1) x := by
    have h := El.In.new (E := ryE) (w.alloc (.cells #[.slice p.A p.p.u.length p.c, .int .i64 p.p.q, .int .i64 p.p.r, .int .i64 p.p.b, .int .i64 p.p.l, .int .i64 p.p.w, .int .i64 p.p.c, .int .i64 p.p.k, .int .i64 p.p.i] 33)) x #[.int .i64 x.node, .int .i64 x.boot, .int .i64 x.above, .int .i64 x.st.s, .int .i64 x.st.t, .int .i64 x.st.p, .slice x.eA x.st.es.length x.ec, .int .i64 x.q.f, .int .i64 x.q.g, .slice x.qA x.q.os.length x.qc, .slice x.kA x.ks.length x.kc, .slice x.rA x.rs.length x.rc, .slice x.gA x.gs.length x.gc, .slice none 0 0, .slice none 0 0, .int .i64 0, .slice none 0 0, .slice none 0 0, .slice none 0 0, .slice none 0 0, .int .i64 0, .int .i64 0, .int .i64 0, .int .i64 0, .slice none 0 0, .int .i64 0] rfl
    rw [alloc_size] at h; exact h
  have hB := below_alloc (below_alloc (Below.refl w.heap.size w) (.cells #[.slice p.A p.p.u.length p.c, .int .i64 p.p.q, .int .i64 p.p.r, .int .i64 p.p.b, .int .i64 p.p.l, .int .i64 p.p.w, .int .i64 p.p.c, .int .i64 p.p.k, .int .i64 p.p.i] 33)) (.cells #[.int .i64 x.node, .int .i64 x.boot, .int .i64 x.above, .int .i64 x.st.s, .int .i64 x.st.t, .int .i64 x.st.p, .slice x.eA x.st.es.length x.ec, .int .i64 x.q.f, .int .i64 x.q.g, .slice x.qA x.q.os.length x.qc, .slice x.kA x.ks.length x.kc, .slice x.rA x.rs.length x.rc, .slice x.gA x.gs.length x.gc, .slice none 0 0, .slice none 0 0, .int .i64 0, .slice none 0 0, .slice none 0 0, .slice none 0 0, .slice none 0 0, .int .i64 0, .int .i64 0, .int .i64 0, .int .i64 0, .slice none 0 0, .int .i64 0] 48)
  have HXO := Lib.hid hx
  have HL := Lib.hid (lens19 hPR hr)
  have CU := Lib.hid (fun (wx : World) (hb : Below w.heap.size w wx) => upward19_any p x wx up n hPR hn hr (hT.below hb) (hx.below hb))
  obtain ⟨rm, hrm⟩ : ∃ rm, p.p.r - (x.q.os.length : Int) = rm := ⟨_, rfl⟩
  have hrb : -1000 ≤ rm ∧ rm ≤ 1000 := by
    have h1 := hPR.r
    have h2 : x.q.os.length ≤ 16 := (lens19 hPR hr).2.2.1
    omega
  have hwr : IntKind.i64.wrap (p.p.r - (x.q.os.length : Int)) = rm := by rw [IntKind.wrap_i64]; omega
  have CD := Lib.hid (fun (k : Nat) (hk : k < x.ks.length) (wx : World) (hb : Below w.heap.size w wx) => down19_any p x x.ks[k] rm x.gA x.gc x.gs wx up n hPR hn hr (by have h := hr.kr x.ks[k] (List.getElem_mem hk); omega) hrb (by have h2 : x.gs.length ≤ 12 := (lens19 hPR hr).2.2.2.2; omega) (hT.below hb) (hx.below hb) (SlV.below hx.g hb))
  have HFR := Lib.hid (show framesR p.p up x.v = upF p.p up x.v :: x.ks.map fun k => downF p.p x.v k rm x.gs by rw [← hrm]; rfl)
  have HRM := Lib.hid hrm
  clear hx hT hr hPR hn hrm hrb
  go_enter Try.func11, Try.ntmps11
  go_upto_region 1 with fail
  try simp only [alloc_size, Nat.add_assoc, Nat.reduceAdd]
  generalize (w.alloc (.cells #[.slice p.A p.p.u.length p.c, .int .i64 p.p.q, .int .i64 p.p.r, .int .i64 p.p.b, .int .i64 p.p.l, .int .i64 p.p.w, .int .i64 p.p.c, .int .i64 p.p.k, .int .i64 p.p.i] 33)).alloc (.cells #[.int .i64 x.node, .int .i64 x.boot, .int .i64 x.above, .int .i64 x.st.s, .int .i64 x.st.t, .int .i64 x.st.p, .slice x.eA x.st.es.length x.ec, .int .i64 x.q.f, .int .i64 x.q.g, .slice x.qA x.q.os.length x.qc, .slice x.kA x.ks.length x.kc, .slice x.rA x.rs.length x.rc, .slice x.gA x.gs.length x.gc, .slice none 0 0, .slice none 0 0, .int .i64 0, .slice none 0 0, .slice none 0 0, .slice none 0 0, .slice none 0 0, .int .i64 0, .int .i64 0, .int .i64 0, .int .i64 0, .slice none 0 0, .int .i64 0] 48) = W at *
  obtain ⟨n1, h1⟩ : ∃ n1, w.heap.size = n1 := ⟨_, rfl⟩
  obtain ⟨n2, h2⟩ : ∃ n2, w.heap.size + 1 = n2 := ⟨_, rfl⟩
  rw [h2] at hE ⊢
  rw [h1] at hP ⊢
  clear h1 h2
  go_wp2_with (first | (refine El.load pnRow rfl _ rfl n1 0 rfl p hP.at #[.slice p.A p.p.u.length p.c, .int .i64 p.p.q, .int .i64 p.p.r, .int .i64 p.p.b, .int .i64 p.p.l, .int .i64 p.p.w, .int .i64 p.p.c, .int .i64 p.p.k, .int .i64 p.p.i] rfl ?_) | (refine El.load ryRow rfl _ rfl n2 0 rfl x hE.at #[.int .i64 x.node, .int .i64 x.boot, .int .i64 x.above, .int .i64 x.st.s, .int .i64 x.st.t, .int .i64 x.st.p, .slice x.eA x.st.es.length x.ec, .int .i64 x.q.f, .int .i64 x.q.g, .slice x.qA x.q.os.length x.qc, .slice x.kA x.ks.length x.kc, .slice x.rA x.rs.length x.rc, .slice x.gA x.gs.length x.gc, .slice none 0 0, .slice none 0 0, .int .i64 0, .slice none 0 0, .slice none 0 0, .slice none 0 0, .slice none 0 0, .int .i64 0, .int .i64 0, .int .i64 0, .int .i64 0, .slice none 0 0, .int .i64 0] rfl ?_) | fail)
  refine (CU.out _ hB).mono ?_
  rintro e w3 ⟨y0, rfl, hy0, hyx, hb3⟩
  replace hP := hP.below hb3
  replace hE := hE.below hb3
  replace hB := below_then hB hb3
  have HY0 := Lib.hid hyx
  clear hb3 CU hyx
  have hO := own_one (E := frE) w3 y0 #[.int .i64 y0.x.a, .int .i64 y0.x.b, .int .i64 y0.x.boot, .int .i64 y0.x.first, .slice y0.oA y0.x.os.length y0.oc, .int .i64 y0.x.pos, .slice y0.rA y0.x.rs.length y0.rc, .int .i64 y0.x.start, .slice y0.eA y0.x.es.length y0.ec, .int .i64 y0.x.ack, .int .i64 y0.x.grant, .int .i64 y0.x.s, .int .i64 y0.x.t, .slice y0.gA y0.x.gs.length y0.gc] rfl w3.heap.size (Nat.le_refl _)
  have hal := below_alloc (Below.refl w3.heap.size w3) (.cells #[.int .i64 y0.x.a, .int .i64 y0.x.b, .int .i64 y0.x.boot, .int .i64 y0.x.first, .slice y0.oA y0.x.os.length y0.oc, .int .i64 y0.x.pos, .slice y0.rA y0.x.rs.length y0.rc, .int .i64 y0.x.start, .slice y0.eA y0.x.es.length y0.ec, .int .i64 y0.x.ack, .int .i64 y0.x.grant, .int .i64 y0.x.s, .int .i64 y0.x.t, .slice y0.gA y0.x.gs.length y0.gc] 28)
  have hoff : y0.off w3.heap.size := hy0.off_new
  replace hy0 := hy0.below hal
  go_upto_region 2 with fail
  have h1N : n1 < w3.heap.size := hP.lt
  have h2N : n2 < w3.heap.size := hE.lt
  have hwN : w.heap.size ≤ w3.heap.size := hB.size
  have hBN := hal.size
  replace hP := hP.below hal
  replace hE := hE.below hal
  replace hB := below_then hB hal
  clear hal
  replace hO : frE.Own (w3.alloc (.cells #[.int .i64 y0.x.a, .int .i64 y0.x.b, .int .i64 y0.x.boot, .int .i64 y0.x.first, .slice y0.oA y0.x.os.length y0.oc, .int .i64 y0.x.pos, .slice y0.rA y0.x.rs.length y0.rc, .int .i64 y0.x.start, .slice y0.eA y0.x.es.length y0.ec, .int .i64 y0.x.ack, .int .i64 y0.x.grant, .int .i64 y0.x.s, .int .i64 y0.x.t, .slice y0.gA y0.x.gs.length y0.gc] 28)) w3.heap.size (.slice (some ⟨w3.heap.size, 0, none⟩) 1 1) [y0] := hO
  generalize w3.alloc (.cells #[.int .i64 y0.x.a, .int .i64 y0.x.b, .int .i64 y0.x.boot, .int .i64 y0.x.first, .slice y0.oA y0.x.os.length y0.oc, .int .i64 y0.x.pos, .slice y0.rA y0.x.rs.length y0.rc, .int .i64 y0.x.start, .slice y0.eA y0.x.es.length y0.ec, .int .i64 y0.x.ack, .int .i64 y0.x.grant, .int .i64 y0.x.s, .int .i64 y0.x.t, .slice y0.gA y0.x.gs.length y0.gc] 28) = V at *
  generalize w3.heap.size = N3 at *
  have p2 : V.cell? ⟨n1, 2, none⟩ = some (.int .i64 p.p.r) := hP.cell 2
  have c9 : V.cell? ⟨n2, 9, none⟩ = some (.slice x.qA x.q.os.length x.qc) := hE.cell 9
  have c10 : V.cell? ⟨n2, 10, none⟩ = some (.slice x.kA x.ks.length x.kc) := hE.cell 10
  have hL0 : ∀ f ∈ [y0], f.ok V := fun f hf => by rw [List.mem_singleton] at hf; subst hf; exact hy0
  have hF0 : ∀ f ∈ [y0], ∀ a, (some ⟨N3, 0, none⟩ : Option Addr) = some a → f.off a.block := fun f hf a e => by
    rw [List.mem_singleton] at hf; subst hf
    rw [← Option.some.inj e]; exact hoff
  have HM0 := Lib.hid (show [y0].map Fw.x = upF p.p up x.v :: (x.ks.take 0).map fun k => downF p.p x.v k rm x.gs by rw [List.map_cons, HY0.out]; rfl)
  clear hy0 hoff
  go_wp2_with fail
  clear p2 c9 c10 hwr
  go_loopw [5, 23] (fun v y wr => ∃ (k : Nat) (A0 : Option Addr) (c0 : Nat) (L : List Fw), k ≤ x.ks.length ∧ y = .int .i64 k ∧ v = .slice A0 L.length c0 ∧ N3 ≤ wr.heap.size ∧ frE.Own wr N3 (.slice A0 L.length c0) L ∧ (∀ f ∈ L, f.ok wr) ∧ (∀ f ∈ L, ∀ a, A0 = some a → f.off a.block) ∧ Hid (L.map Fw.x = upF p.p up x.v :: (x.ks.take k).map fun k => downF p.p x.v k rm x.gs) ∧ pnE.In wr n1 p ∧ ryE.In wr n2 x ∧ Below w.heap.size w wr) (fun _ y _ => x.ks.length - (intOf y).toNat)
  case atStart => exact ⟨0, some ⟨N3, 0, none⟩, 1, [y0], Nat.zero_le _, rfl, rfl, hBN, hO, hL0, hF0, HM0, hP, hE, hB⟩
  case round =>
    clear hBN hO hL0 hF0 HM0 hP hE hB
    obtain ⟨k, A0, c0, L, hk, rfl, rfl, hBN, hO, hLo, hLf, HM, hP, hE, hB⟩ := hrel
    have hk12 : x.ks.length ≤ 12 := HL.out.1
    by_cases hkl : k < x.ks.length
    · have f2 : decide ((k : Int) < (x.ks.length : Int)) = true := decide_eq_true (by omega)
      obtain ⟨b, off, eK, hbw, hc⟩ := (SlV.below HXO.out.k hB).1 (by omega)
      have hxk := kinIdxH (cap := x.kc) eK hkl
      have hat : kinE.At wr b (off + k * 4) x.ks[k] := hc k hkl
      have CDK := Lib.hid (CD.out k hkl)
      have HLE := Lib.hid (show L.length = k + 1 by
        have h := congrArg List.length HM.out
        rw [List.length_map, List.length_cons, List.length_map, List.length_take] at h
        omega)
      obtain ⟨KK, hKK⟩ : ∃ KK, x.ks[k] = KK := ⟨_, rfl⟩
      rw [hKK] at hat CDK
      have HNX := Lib.hid (show (x.ks.take (k + 1)).map (fun k => downF p.p x.v k rm x.gs) = (x.ks.take k).map (fun k => downF p.p x.v k rm x.gs) ++ [downF p.p x.v KK rm x.gs] by
        rw [List.take_succ_eq_append_getElem hkl, List.map_append, hKK]; rfl)
      clear hc hKK eK
      have hN : kinE.In (wr.alloc (.cells #[.int .i64 KK.n, .int .i64 KK.r, .int .i64 KK.p, .int .i64 KK.b] 69)) wr.heap.size KK := El.In.new (E := kinE) wr KK _ rfl
      have hal := below_alloc (Below.refl wr.heap.size wr) (.cells #[.int .i64 KK.n, .int .i64 KK.r, .int .i64 KK.p, .int .i64 KK.b] 69)
      replace hP := hP.below hal
      replace hE := hE.below hal
      replace hB := below_then hB hal
      replace hO := hO.below hal
      replace hLo := fun f hf => (hLo f hf).below hal
      replace hBN := Nat.le_trans hBN hal.size
      clear hal
      go_upto_region 6 with (first | (refine El.load kinRow rfl _ rfl b (off + k * 4) rfl KK hat #[.int .i64 KK.n, .int .i64 KK.r, .int .i64 KK.p, .int .i64 KK.b] rfl ?_) | fail)
      clear hat hxk hbw
      generalize wr.alloc (.cells #[.int .i64 KK.n, .int .i64 KK.r, .int .i64 KK.p, .int .i64 KK.b] 69) = U at *
      generalize wr.heap.size = n8 at *
      have c12 : U.cell? ⟨n2, 12, none⟩ = some (.slice x.gA x.gs.length x.gc) := hE.cell 12
      have C := CDK.out U hB
      go_wp2_with (first | (refine El.load pnRow rfl _ rfl n1 0 rfl p hP.at #[.slice p.A p.p.u.length p.c, .int .i64 p.p.q, .int .i64 p.p.r, .int .i64 p.p.b, .int .i64 p.p.l, .int .i64 p.p.w, .int .i64 p.p.c, .int .i64 p.p.k, .int .i64 p.p.i] rfl ?_) | (refine El.load ryRow rfl _ rfl n2 0 rfl x hE.at #[.int .i64 x.node, .int .i64 x.boot, .int .i64 x.above, .int .i64 x.st.s, .int .i64 x.st.t, .int .i64 x.st.p, .slice x.eA x.st.es.length x.ec, .int .i64 x.q.f, .int .i64 x.q.g, .slice x.qA x.q.os.length x.qc, .slice x.kA x.ks.length x.kc, .slice x.rA x.rs.length x.rc, .slice x.gA x.gs.length x.gc, .slice none 0 0, .slice none 0 0, .int .i64 0, .slice none 0 0, .slice none 0 0, .slice none 0 0, .slice none 0 0, .int .i64 0, .int .i64 0, .int .i64 0, .int .i64 0, .slice none 0 0, .int .i64 0] rfl ?_) | (refine El.load kinRow rfl _ rfl n8 0 rfl KK hN.at #[.int .i64 KK.n, .int .i64 KK.r, .int .i64 KK.p, .int .i64 KK.b] rfl ?_) | fail)
      refine C.mono ?_
      rintro e w7 ⟨y, rfl, hy, hyx, hyo, hb7⟩
      have hyf : ∀ a, A0 = some a → y.off a.block := fun a e => hyo _ (hO.lt a.block (by rw [e]; rfl)).2
      replace hP := hP.below hb7
      replace hE := hE.below hb7
      replace hB := below_then hB hb7
      replace hO := hO.below hb7
      replace hLo := fun f hf => (hLo f hf).below hb7
      replace hBN := Nat.le_trans hBN hb7.size
      clear hb7 C c12 hN hyo
      have hT2 : frE.Sl (w7.alloc (.cells #[.int .i64 y.x.a, .int .i64 y.x.b, .int .i64 y.x.boot, .int .i64 y.x.first, .slice y.oA y.x.os.length y.oc, .int .i64 y.x.pos, .slice y.rA y.x.rs.length y.rc, .int .i64 y.x.start, .slice y.eA y.x.es.length y.ec, .int .i64 y.x.ack, .int .i64 y.x.grant, .int .i64 y.x.s, .int .i64 y.x.t, .slice y.gA y.x.gs.length y.gc] 28)) (some ⟨w7.heap.size, 0, none⟩) [y] := (El.In.new (E := frE) w7 y _ rfl).sl
      have hal := below_alloc (Below.refl w7.heap.size w7) (.cells #[.int .i64 y.x.a, .int .i64 y.x.b, .int .i64 y.x.boot, .int .i64 y.x.first, .slice y.oA y.x.os.length y.oc, .int .i64 y.x.pos, .slice y.rA y.x.rs.length y.rc, .int .i64 y.x.start, .slice y.eA y.x.es.length y.ec, .int .i64 y.x.ack, .int .i64 y.x.grant, .int .i64 y.x.s, .int .i64 y.x.t, .slice y.gA y.x.gs.length y.gc] 28)
      have hO2 := hO.below hal
      have hP2 := hP.below hal
      have hE2 := hE.below hal
      have hLo2 := fun f hf => (hLo f hf).below hal
      have hy2 := hy.below hal
      have hB2 := below_then hB hal
      have hBs := Nat.le_trans hBN hal.size
      have HN5 := Lib.hid hO2.lt
      have HYX := Lib.hid hyx
      clear hal hO hP hE hLo hB hBN hy hyx
      obtain ⟨V7, hV7⟩ : ∃ V7, w7.alloc (.cells #[.int .i64 y.x.a, .int .i64 y.x.b, .int .i64 y.x.boot, .int .i64 y.x.first, .slice y.oA y.x.os.length y.oc, .int .i64 y.x.pos, .slice y.rA y.x.rs.length y.rc, .int .i64 y.x.start, .slice y.eA y.x.es.length y.ec, .int .i64 y.x.ack, .int .i64 y.x.grant, .int .i64 y.x.s, .int .i64 y.x.t, .slice y.gA y.x.gs.length y.gc] 28) = V7 := ⟨_, rfl⟩
      have HV7 := Lib.hid hV7
      clear hV7
      go_wp2_with (first | (at_builtin; refine El.wpList_app frInn19 rfl _ _ rfl N3 _ L [y] rfl hO2 (some ⟨w7.heap.size, 0, none⟩) 1 1 rfl rfl hT2 (fun e => by cases e) (by have := HLE.out; rw [List.length_singleton]; omega) hBs ?_; intro v' w5 hO5 hg5 hob; have hg5' := hg5; (obtain ⟨L2, hL2⟩ : ∃ L2, L ++ [y] = L2 := ⟨_, rfl⟩); rw [hL2] at hO5; have HL2 := Lib.hid hL2; clear hL2; have HOB := Lib.hid hob; clear hob; obtain ⟨A1, c1, rfl, _⟩ := SlV.own hO5) | fail)
      have hrow : ∀ f, (∀ a, A0 = some a → f.off a.block) → ∀ g, (Value.slice A0 L.length c0).ownBlock = some g → Fw.off f g := fun f hf g e => by
        cases hA : A0 with
        | none => rw [hA] at e; cases e
        | some a =>
          rw [hA] at e
          have e2 : some a.block = some g := e
          rw [← Option.some.inj e2]; exact hf a hA
      have hLo5 : ∀ f ∈ L2, f.ok w5 := fun f hf => by
        rw [← HL2.out, List.mem_append, List.mem_singleton] at hf
        rcases hf with hf | rfl
        · exact (hLo2 f hf).keepG19 (hrow f (hLf f hf)) hg5
        · exact hy2.keepG19 (hrow _ hyf) hg5
      have hLf5 : ∀ f ∈ L2, ∀ a, A1 = some a → f.off a.block := fun f hf a e => by
        rw [← HL2.out, List.mem_append, List.mem_singleton] at hf
        have e2 : (Value.slice A1 L2.length c1).ownBlock = some a.block := by rw [e]; rfl
        rcases HOB.out with h | h
        · rw [h] at e2
          rcases hf with hf | rfl
          · exact hrow f (hLf f hf) _ e2
          · exact hrow _ hyf _ e2
        · rw [h] at e2
          rw [← Option.some.inj e2]
          rcases hf with hf | rfl
          · exact (hLo2 f hf).off_new
          · exact hy2.off_new
      have HMV := Lib.hid (show L2.map Fw.x = upF p.p up x.v :: (x.ks.take (k + 1)).map fun k => downF p.p x.v k rm x.gs by
        rw [← HL2.out, List.map_append, HM.out, HNX.out, List.map_cons, HYX.out]; rfl)
      have hP5 := hP2.keep hg5 (fun e => by have := (HN5.out _ e.symm).1; omega)
      have hE5 := hE2.keep hg5 (fun e => by have := (HN5.out _ e.symm).1; omega)
      have hB5 := hB2.grown hg5 hB2.size (fun k e => by have h1 := (HN5.out _ e).1; omega)
      have hBN5 := Nat.le_trans hBs hg5.size
      clear hrow hLo2 hyf hLf hg5 hg5'
      go_roundw
      case rel => exact ⟨k + 1, A1, c1, L2, by omega, by go_num, rfl, hBN5, hO5, hLo5, hLf5, HMV, hP5, hE5, hB5⟩
      case measure => simp [intOf]; omega
    · obtain rfl : k = x.ks.length := by omega
      have HMV := Lib.hid (show L.map Fw.x = framesR p.p up x.v by rw [HM.out, List.take_length, HFR.out])
      obtain ⟨A2, c2, e2, hS⟩ := SlV.own hO
      injection e2 with e2 _ e3
      subst e2 e3
      clear hO hk hkl hLf
      go_wp2_with fail
      go_ret
      exact ⟨A0, c0, L, rfl, ⟨hS, hLo⟩, HMV.out, hB⟩
theorem relayCalls : RelayCalls where
  kid := fun x d w hl hx => kid19_any x d w hl hx
  new := fun p n w hP _ hT => new19_any p n w hP hT
  take := fun p x f w up n hP hn hr hD hf hs hT hx hfo => take19_any p x f w up n hP hn hr hD hf hs hT hx hfo
  frames := fun p x w up n hP hn hr hT hx => frames19_any p x w up n hP hn hr hT hx
end Go.Proofs.Ytnglpkfkepfkkaa

/- Of law 19: the example's values. -/
namespace Go.Proofs.Ytnglpkfkepfkkaa
open Go.RowKit Nam Cod Pln

def o19 (n d : Int) : Mv := ⟨n, d, 1, n, 2, 0, ⟨#[97]⟩⟩
def r19 (d : Int) : Rp := ⟨d, 1, 0, 0, 1, 0, 0, 0, 0⟩
def g19 (d i t : Int) : Gf := ⟨d, i, 0, t, ⟨#[]⟩⟩
def f1_19 : Fr := ⟨2, 1, 1, 1, 0, 0, 0, 0, 0, 0, [o19 1 2, o19 2 2, o19 3 2], [r19 2, r19 3], [], []⟩
def f1_r : Fr := { f1_19 with start := 1 }
def f2_19 : Fr := ⟨0, 1, 1, 0, 0, 1, 1, 9, 0, 0, [], [], [⟨1, 0, 0, o19 1 2⟩], [g19 3 2 1, g19 9 1 0]⟩
def f2_r : Fr := { f2_19 with first := 1, gs := [g19 3 2 1] }
def f3_19 : Fr := ⟨3, 2, 0, 0, 0, 0, 0, 0, 0, 0, [], [], [], []⟩
def X1_19 : Rlv := (takeR P19 0 (newR19 P19.u 1) f1_19).1
def X2_19 : Rlv := (takeR P19 0 X1_19 f2_19).1
theorem take1_19 : takeR P19 0 (newR19 P19.u 1) f1_19 = (X1_19, 0) := Prod.ext rfl (by kernel_rfl)
theorem take2_19 : takeR P19 0 X1_19 f2_19 = (X2_19, 0) := Prod.ext rfl (by kernel_rfl)
theorem take3_19 : takeR P19 0 X2_19 f3_19 = (X2_19, 1) := by kernel_rfl
theorem X1_r : RlR P19 0 1 X1_19 := by
  have h := takeR_r new19_r (by omega) (f := f1_r) (frB_iff.1 (by kernel_rfl)) (by decide)
  have e : (takeR P19 0 (newR19 P19.u 1) f1_r).1 = X1_19 := by kernel_rfl
  rw [e] at h
  exact h
theorem X2_r : RlR P19 0 2 X2_19 := by
  have h := takeR_r X1_r (by omega) (f := f2_r) (frB_iff.1 (by kernel_rfl)) (by decide)
  have e : (takeR P19 0 X1_19 f2_r).1 = X2_19 := by kernel_rfl
  rw [e] at h
  exact h
theorem ft1_19 : FrT f1_19 := ⟨by decide, fun e h => (by cases h), by decide⟩
theorem ft2_19 : FrT f2_19 := ⟨by decide, fun e h => (by
  have h : e ∈ [(⟨1, 0, 0, o19 1 2⟩ : En)] := h
  rw [List.mem_singleton] at h
  subst h
  exact (show entB (⟨1, 0, 0, o19 1 2⟩ : En) = true from by kernel_rfl)), by decide⟩
theorem ft3_19 : FrT f3_19 := ⟨by decide, fun e h => (by cases h), by decide⟩
theorem X2_q : X2_19.q.os.length = 1 := by kernel_rfl
theorem X2_k : X2_19.ks = [⟨2, 2, 0, 1⟩, ⟨3, 0, 0, 0⟩] := by kernel_rfl
theorem X2_rs : X2_19.rs.length = 1 := by kernel_rfl
theorem X2_gs : X2_19.gs.length = 1 := by kernel_rfl
theorem X2_kid : kidI X2_19.ks 3 = 1 := by kernel_rfl
theorem X2_f : ∃ F0 F1 F2, framesR P19 0 X2_19 = [F0, F1, F2] ∧ (F0.b = 0 ∧ F0.os.length = 1 ∧ F0.pos = 1) ∧ (F1.ack = 2 ∧ F1.grant = 3 ∧ F1.es.length = 1 ∧ F1.gs.length = 0) ∧ F2.gs.length = 1 :=
  ⟨_, _, _, rfl, ⟨by kernel_rfl, by kernel_rfl, by kernel_rfl⟩, ⟨by kernel_rfl, by kernel_rfl, by kernel_rfl, by kernel_rfl⟩, by kernel_rfl⟩
set_option maxRecDepth 100000 in
theorem op19_any (n d : Int) (w : World) : Calls Try.prog 13 #[.int .i64 n, .int .i64 d] w fun e w' => e = .returned (.agg #[.int .i64 n, .int .i64 d, .int .i64 1, .int .i64 n, .int .i64 2, .int .i64 0, .string ⟨#[97]⟩]) ∧ Below w.heap.size w w' := by
  have hP : opE.In (w.alloc (.cells #[.int .i64 n, .int .i64 d, .int .i64 1, .int .i64 n, .int .i64 2, .int .i64 0, .string ⟨#[97]⟩] 64)) w.heap.size (o19 n d) := El.In.new (E := opE) w (o19 n d) _ rfl
  have hB := below_alloc (Below.refl w.heap.size w) (.cells #[.int .i64 n, .int .i64 d, .int .i64 1, .int .i64 n, .int .i64 2, .int .i64 0, .string ⟨#[97]⟩] 64)
  go_enter Try.func13, Try.ntmps13
  go_wp2_with fail
  refine El.ret1 opRow hP rfl rfl rfl _ rfl ?_
  exact ⟨rfl, hB⟩
end Go.Proofs.Ytnglpkfkepfkkaa
