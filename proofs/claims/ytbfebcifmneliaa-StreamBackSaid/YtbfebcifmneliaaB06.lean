/- Texts laid one behind the other: Tf, Tg, Hs, Ht. -/
import Derived.Test.YtbfebcifmneliaaB05
import Derived.Lib.Builder
import Derived.Lib.AppendStr
import Derived.Deep.RegionHeld3
import Derived.Deep.CutRange
/- The library's Builder: what WriteString does with one of the call's own. -/
namespace Go.Proofs.Ytbfebcifmneliaa
open Go.RowKit

theorem bd_info : ∃ j, Try.prog.info? 64 = some j ∧ j.size = 2 := by
  have h : (Try.prog.info? 64).map (·.size) = some 2 := by kernel_rfl
  obtain ⟨j, hj, hjs⟩ := Option.map_eq_some_iff.1 h
  exact ⟨j, hj, hjs⟩
theorem bd_lies : liesAt Try.prog Try.prog.depth 64 (2 / Try.prog.cellsOf 64) 0 64 1 = true := by kernel_rfl
set_option maxRecDepth 100000 in
theorem ccheck_used (b : Nat) (w : World) (h0 : w.cell? ⟨b, 0, none⟩ = some (.pointer (some ⟨b, 0, none⟩))) :
    Calls Try.prog 44 #[.pointer (some ⟨b, 0, none⟩)] w fun e w' => e = .returned (.tuple #[]) ∧ w' = w := by
  obtain ⟨j, hj, _⟩ := bd_info
  go_enter Try.func44, Try.ntmps44
  go_wp2
  rw [Lib.run_neq_ptr_same w _ Try.underlying61 hj]
  go_wp2
  go_end0
  exact ⟨rfl, rfl⟩
set_option maxRecDepth 100000 in
theorem ccheck_new (b : Nat) (w : World) (h0 : w.cell? ⟨b, 0, none⟩ = some (.pointer none)) (hsh : w.shape? b = some (64, 2)) (hfz : w.frozen? ⟨b, 0, none⟩ = false) :
    Calls Try.prog 44 #[.pointer (some ⟨b, 0, none⟩)] w fun e w' => e = .returned (.tuple #[]) ∧ w' = w.setCell ⟨b, 0, none⟩ (.pointer (some ⟨b, 0, none⟩)) := by
  obtain ⟨j, hj, hjs⟩ := bd_info
  go_enter Try.func44, Try.ntmps44
  go_wp2
  rw [Lib.run_to_unsafe w ⟨b, 0, none⟩ Try.underlying61 Try.underlying87 hj (by rw [hjs]; decide) hsh (Nat.zero_lt_succ 1)]
  simp only [Result.andThen]
  rw [Oper.upon_value]
  go_wp2
  rw [run_callFunc_extern Try.func55 (by kernel_rfl) (by kernel_rfl) (by kernel_rfl) (e := Extern.AbiNoEscape.same) (by kernel_rfl)]
  rw [Lib.run_noEscape]
  simp only [Result.andThen]
  rw [Oper.upon_value]
  go_wp2
  rw [Lib.run_from_unsafe w ⟨b, 0, none⟩ Try.underlying87 Try.underlying61 hj hsh bd_lies]
  simp only [Result.andThen]
  rw [Oper.upon_value]
  go_wp2
  go_end0
  exact ⟨rfl, rfl⟩

/-- What is no row of bytes and isn't block b stays. -/
def Rest (b : Nat) (w w' : World) : Prop := ∀ k cs T fr, w.heap[k]? = some (.cells cs T fr) → k ≠ b → T ≠ 5 → w'.heap[k]? = w.heap[k]?
theorem Rest.then {b : Nat} {w w1 w2 : World} (h : Rest b w w1) (k : Rest b w1 w2) : Rest b w w2 := fun i cs T fr hi hne hT => by
  have h1 := h i cs T fr hi hne hT
  rw [k i cs T fr (h1.trans hi) hne hT, h1]
theorem Rest.cell (b : Nat) (w : World) (j : Nat) (v : Value) : Rest b w (w.setCell ⟨b, j, none⟩ v) := fun k _ _ _ _ hne _ => Below.heap_setCell _ _ _ _ hne

theorem ccheck_any (B b : Nat) (bs : List Value) (w : World) (h : Lib.IsBuilder 64 5 B b bs w) :
    Calls Try.prog 44 #[.pointer (some ⟨b, 0, none⟩)] w fun e w' => e = .returned (.tuple #[]) ∧ Lib.BuilderAt 64 5 B b (.pointer (some ⟨b, 0, none⟩)) bs w' ∧ Below B w w' ∧ Rest b w w' := by
  rcases h with h | h
  · refine (ccheck_new b w h.cell0 h.shape h.frozen0).mono ?_
    rintro e w' ⟨rfl, rfl⟩
    exact ⟨rfl, h.used _, (Below.refl B w).setCell (p := ⟨b, 0, none⟩) h.1 _, Rest.cell b w 0 _⟩
  · refine (ccheck_used b w h.cell0).mono ?_
    rintro e w' ⟨rfl, rfl⟩
    exact ⟨rfl, h, Below.refl B _, fun _ _ _ _ _ _ _ => rfl⟩

set_option maxHeartbeats 1000000 in
set_option maxRecDepth 100000 in
theorem wstr_any (B b : Nat) (bs : List Value) (s : ByteArray) (w : World) (h : Lib.IsBuilder 64 5 B b bs w) (hlen : bs.length + s.size ≤ 140737488355328) (hBw : B ≤ w.heap.size) :
    Calls Try.prog 33 #[.pointer (some ⟨b, 0, none⟩), .string s] w fun e w' => e = .returned (.tuple #[.int .i64 s.size, .nilIface]) ∧ Lib.IsBuilder 64 5 B b (bs ++ Lib.strCells s) w' ∧ Below B w w' ∧ Rest b w w' := by
  have X := builder_Extra_169
  obtain ⟨i0, hi, hz0, hz1, hz2⟩ := info_parts X.infoByte
  have C := ccheck_any B b bs w h
  go_enter Try.func33, Try.ntmps33
  go_wp2_with (go_at_call 44; (with_reducible refine C.mono ?_))
  rintro e w1 ⟨rfl, h1, hb1, hr1⟩
  obtain ⟨hB, v, hbk, hown, hne⟩ := h1
  have c0 : w1.cell? ⟨b, 0, none⟩ = some (.pointer (some ⟨b, 0, none⟩)) := by rw [Lib.cell_of_heap hbk]; rfl
  have c1 : w1.cell? ⟨b, 1, none⟩ = some v := by rw [Lib.cell_of_heap hbk]; rfl
  go_wp2_with (at_builtin; refine Lib.wpList_append_own_string _ rfl _ _ 62 9 rfl B 5 i0 Try.underlying62 Try.underlying9 hi hz0 hz1 hz2 _ _ _ rfl hown s rfl ?c3 ?c4 ?c5 ?_)
  case c3 => unfold maxLen; omega
  case c4 => omega
  case c5 => have := hb1.size; omega
  intro v' w2 hown' hgrow _
  have hlt : b < w1.heap.size := by
    rcases Nat.lt_or_ge b w1.heap.size with h' | h'
    · exact h'
    · simp [Array.getElem?_eq_none h'] at hbk
  have hb2 : w2.heap[b]? = some (.cells #[.pointer (some ⟨b, 0, none⟩), v] 64 (0, 0)) := by
    rw [hgrow.block b hlt (fun e => hne e.symm)]
    exact hbk
  have d0 : w2.cell? ⟨b, 0, none⟩ = some (.pointer (some ⟨b, 0, none⟩)) := by rw [Lib.cell_of_heap hb2]; rfl
  have d1 : w2.cell? ⟨b, 1, none⟩ = some v := by rw [Lib.cell_of_heap hb2]; rfl
  have f1 : w2.frozen? ⟨b, 1, none⟩ = false := Lib.frozen_of_heap hb2 1
  have hr2 : Rest b w1 w2 := fun k cs T fr hk hkb hT => by
    have hkl : k < w1.heap.size := by
      rcases Nat.lt_or_ge k w1.heap.size with h' | h'
      · exact h'
      · simp [Array.getElem?_eq_none h'] at hk
    exact hgrow.block k hkl (fun e => Lib.ownBlock_ne hown hk hT e.symm)
  obtain ⟨ao, n', cap, rfl⟩ : ∃ ao n' cap, v' = .slice ao n' cap := by
    rcases hown'.2 with ⟨hv, _⟩ | ⟨g, cap, cur, hv, _⟩
    · exact ⟨_, _, _, hv⟩
    · exact ⟨_, _, _, hv⟩
  go_wp2
  go_ret2
  refine ⟨rfl, Or.inr ?_, ?_, (hr1.then hr2).then (Rest.cell b w2 1 _)⟩
  · exact Lib.BuilderAt.put (T := 64) (e := 5) hB hb2 (bs' := bs ++ Lib.strCells s) (by simpa [Lib.strCells_length] using hown') X.neB5
  · exact (hb1.grown hgrow (by have := hb1.size; omega) (fun k hk => (hown.lt k hk).1)).setCell (p := ⟨b, 1, none⟩) hB _
end Go.Proofs.Ytbfebcifmneliaa

/- What Print gives, of the program and of the document. -/
namespace Go.Proofs.Ytbfebcifmneliaa
open Go.RowKit Tre Nam Cod

theorem strCells_app (a b : ByteArray) : Lib.strCells (a ++ b) = Lib.strCells a ++ Lib.strCells b := by
  unfold Lib.strCells; rw [← List.map_append]; congr 1
theorem back_L (x : ByteArray) : (⟨(L x).toArray⟩ : ByteArray) = x := by cases x; simp [L]
theorem headOf (l : List Pl) (n : Nat) (h : l.length ≤ 1000) : (bytesOf l.length).size ≤ 10 := bytesOf_le _ (by omega) (by omega)
theorem catL_take (l : List Pl) (k : Nat) (h : k < l.length) : catL (l.take (k + 1)) = catL (l.take k) ++ plBytes l[k] := by
  rw [List.take_succ_eq_append_getElem h, catL_snoc]
theorem take_le {l : List Pl} (hf : ∀ p ∈ l, Fit p) (k : Nat) : (catL (l.take k)).size ≤ 46 * l.length := by
  have h := catL_le (l.take k) (fun p hp => hf p (List.mem_of_mem_take hp))
  have : (l.take k).length ≤ l.length := by rw [List.length_take]; omega
  omega
theorem builder_new (w : World) : Lib.IsBuilder 64 5 w.heap.size w.heap.size [] (w.alloc (.cells #[.pointer none, .slice none 0 0] 64)) :=
  Or.inl ⟨Nat.le_refl _, _, heap_alloc_new w _, World.ownsRow_nil _ _ _ _, by simp [Value.ownBlock]⟩
theorem builder_below {B b : Nat} {bs : List Value} {w w' : World} (h : Lib.IsBuilder 64 5 B b bs w) (hb : Below w.heap.size w w') : Lib.IsBuilder 64 5 B b bs w' := by
  have key : ∀ p, Lib.BuilderAt 64 5 B b p bs w → Lib.BuilderAt 64 5 B b p bs w' := fun p h => by
    have hlt := h.lt
    obtain ⟨hB, v, hbk, hown, hne⟩ := h
    refine ⟨hB, v, (hb.block b hlt).trans hbk, hown.kept (row := none) ⟨hb.os, hb.tape, hb.output, hb.size, fun k hk _ => hb.block k hk⟩ ?_, hne⟩
    cases hv : v.ownBlock <;> simp
  rcases h with h | h
  · exact Or.inl (key _ h)
  · exact Or.inr (key _ h)
end Go.Proofs.Ytbfebcifmneliaa

/- The program's streams: Print. -/
namespace Go.Proofs.Ytbfebcifmneliaa
open Go.RowKit Nam Cod

set_option maxRecDepth 100000 in
set_option maxHeartbeats 4000000 in
theorem smPrint_any (y : Sw) (w : World) (hn : SmN y.x) (hok : y.ok w) (hw : ∀ e ∈ y.x.es, EnW e ∧ e.o.s.size ≤ 1000000) :
    Calls Try.prog 21 #[.agg #[.int .i64 y.x.s, .int .i64 y.x.t, .int .i64 y.x.p, .slice y.A y.x.es.length y.c]] w fun r w' => r = .returned (.string (stmBytes y.x)) ∧ Below w.heap.size w w' := by
  have hP : smE.In ((w.alloc (.cells #[.int .i64 y.x.s, .int .i64 y.x.t, .int .i64 y.x.p, .slice y.A y.x.es.length y.c] 27)).alloc (.cells #[.pointer none, .slice none 0 0] 64)) w.heap.size y := (El.In.new (E := smE) w y _ rfl).alloc _
  have hbd := builder_new (w.alloc (.cells #[.int .i64 y.x.s, .int .i64 y.x.t, .int .i64 y.x.p, .slice y.A y.x.es.length y.c] 27))
  have hB := below_alloc (below_alloc (Below.refl w.heap.size w) (.cells #[.int .i64 y.x.s, .int .i64 y.x.t, .int .i64 y.x.p, .slice y.A y.x.es.length y.c] 27)) (.cells #[.pointer none, .slice none 0 0] 64)
  have hL : w.heap.size + 1 < ((w.alloc (.cells #[.int .i64 y.x.s, .int .i64 y.x.t, .int .i64 y.x.p, .slice y.A y.x.es.length y.c] 27)).alloc (.cells #[.pointer none, .slice none 0 0] 64)).heap.size := by rw [alloc_size, alloc_size]; omega
  rw [alloc_size] at hbd
  have HT := Lib.hid hok.1
  have HW := Lib.hid hw
  have hs := hn.s
  have ht := hn.t
  have hp := hn.p
  have hl := hn.l
  have C1 := Lib.hid (fun wx => num_any y.x.s wx (by omega) (by omega))
  have C2 := Lib.hid (fun wx => num_any y.x.t wx (by omega) (by omega))
  have C3 := Lib.hid (fun wx => num_any y.x.p wx (by omega) (by omega))
  have z1 := bytesOf_le10 (n := y.x.s) (by unfold i64; omega)
  have z2 := bytesOf_le10 (n := y.x.t) (by unfold i64; omega)
  have z3 := bytesOf_le10 (n := y.x.p) (by unfold i64; omega)
  have HV := Lib.hid (show stmBytes y.x = bytesOf y.x.s ++ bytesOf y.x.t ++ bytesOf y.x.p ++ ecat y.x.es from rfl)
  generalize bytesOf y.x.s = x1 at *
  generalize bytesOf y.x.t = x2 at *
  generalize bytesOf y.x.p = x3 at *
  clear hn hok hw
  go_enter Try.func21, Try.ntmps21
  go_wp2_with fail
  generalize (w.alloc (.cells #[.int .i64 y.x.s, .int .i64 y.x.t, .int .i64 y.x.p, .slice y.A y.x.es.length y.c] 27)).alloc (.cells #[.pointer none, .slice none 0 0] 64) = W at *
  obtain ⟨nb, hnb⟩ : ∃ n, w.heap.size + 1 = n := ⟨_, rfl⟩
  obtain ⟨n1, hn1⟩ : ∃ n, w.heap.size = n := ⟨_, rfl⟩
  have hne : n1 ≠ nb := by omega
  have hwb : w.heap.size ≤ nb := by omega
  rw [hnb] at hbd hL ⊢
  rw [hn1] at hP ⊢
  clear hn1 hnb
  replace hP : smE.In W.drew n1 y := hP
  replace hbd : Lib.IsBuilder 64 5 nb nb [] W.drew := hbd
  replace hB := hB.drew
  replace hL : nb < W.drew.heap.size := hL
  have y1 : ¬ 9223372036854775807 < x1.size + x2.size := by omega
  have y2 : ¬ 9223372036854775807 < x1.size + x2.size + x3.size := by omega
  go_region_held3 (fun w' => w'.cell? ⟨n1, 0, none⟩ = some (.int .i64 y.x.s) ∧ w'.cell? ⟨n1, 1, none⟩ = some (.int .i64 y.x.t) ∧ w'.cell? ⟨n1, 2, none⟩ = some (.int .i64 y.x.p) ∧ w'.cell? ⟨n1, 3, none⟩ = some (.slice y.A y.x.es.length y.c)) (first | exact smIn4 hP) (first | (go_at_call 34; (with_reducible first | refine (C1.out _).mono ?_ | refine (C2.out _).mono ?_ | refine (C3.out _).mono ?_); rintro e w3 ⟨rfl, hb3⟩; replace hP := hP.below hb3; replace hbd := builder_below hbd hb3; replace hB := below_then hB hb3; replace hL := Nat.lt_of_lt_of_le hL hb3.size) | (go_at_call 33; (with_reducible refine (wstr_any _ _ _ _ _ hbd (by simp [ByteArray.size_append]; omega) (Nat.le_of_lt hL)).mono ?_); rintro e w4 ⟨rfl, hbd4, hN4, hr4⟩; replace hP : smE.In w4 n1 y := (hr4 n1 _ _ _ hP hne (by decide)).trans hP; replace hB := hB.trans (hN4.mono hwb)))
  all_goals
    have hX30 : (x1 ++ x2 ++ x3).size ≤ 30 := by rw [ByteArray.size_append, ByteArray.size_append]; omega
    rw [List.nil_append] at hbd4
    generalize x1 ++ x2 ++ x3 = X at *
    have hbd5 : Lib.IsBuilder 64 5 nb nb (Lib.strCells (X ++ ecat (y.x.es.take 0))) w4 := by
      rw [List.take_zero, show X ++ ecat [] = X from L_inj (by rw [L_app]; show L X ++ L ⟨#[]⟩ = _; simp [L])]
      exact hbd4
    obtain ⟨p0, p1, p2, p3⟩ := smIn4 hP
    clear hbd4 hbd hL C1 C2 C3 z1 z2 z3 y1 y2 hr4 hN4
    go_wp2_with fail
    clear p0 p1 p2 p3 hP
    go_loopw [21] (fun i wr => ∃ k : Nat, k ≤ y.x.es.length ∧ i = .int .i64 k ∧ Lib.IsBuilder 64 5 nb nb (Lib.strCells (X ++ ecat (y.x.es.take k))) wr ∧ Below w.heap.size w wr) (fun i _ => y.x.es.length - (intOf i).toNat)
    case atStart => exact ⟨0, Nat.zero_le _, rfl, hbd5, hB⟩
    case round =>
      clear hbd5 hB
      obtain ⟨k, hk, rfl, hbd, hB⟩ := hrel
      have hlt : nb < wr.heap.size := by rcases hbd with h | h <;> exact h.lt
      by_cases hkl : k < y.x.es.length
      · obtain ⟨b, off, eA, hbw, hc⟩ := HT.out (by omega)
        have hx := enIdxH (cap := y.c) eA hkl
        have hat : enE.At wr b (off + k * 10) y.x.es[k] := (hc k hkl).below hB hbw
        obtain ⟨hwd, hsz⟩ := HW.out y.x.es[k] (List.getElem_mem _)
        have HCN := Lib.hid (show X ++ ecat (y.x.es.take (k + 1)) = X ++ ecat (y.x.es.take k) ++ entBytes y.x.es[k] by rw [ecat_next _ k hkl, ByteArray.append_assoc])
        have hle := ecat_le2 (y.x.es.take k) (fun e he => HW.out e (List.mem_of_mem_take he))
        rw [List.length_take] at hle
        have hxl := entBytes_le hwd hsz
        have hsm : (X ++ ecat (y.x.es.take k)).size ≤ 60000000000 := by rw [ByteArray.size_append]; omega
        generalize y.x.es[k] = x at *
        have HPR := Lib.hid (fun wx => entPrint_any x wx hwd hsz)
        generalize X ++ ecat (y.x.es.take k) = T at *
        generalize entBytes x = P at *
        have hE : enE.In (wr.alloc (.cells #[.int .i64 x.k, .int .i64 x.d, .int .i64 x.i, .int .i64 x.o.C, .int .i64 x.o.D, .int .i64 x.o.I, .int .i64 x.o.M, .int .i64 x.o.K, .int .i64 x.o.U, .string x.o.s] 37)) wr.heap.size x := El.In.new (E := enE) wr x _ rfl
        have hal := below_alloc (Below.refl wr.heap.size wr) (.cells #[.int .i64 x.k, .int .i64 x.d, .int .i64 x.i, .int .i64 x.o.C, .int .i64 x.o.D, .int .i64 x.o.I, .int .i64 x.o.M, .int .i64 x.o.K, .int .i64 x.o.U, .string x.o.s] 37)
        replace hbd := builder_below hbd hal
        replace hB := below_then hB hal
        replace hlt := Nat.lt_of_lt_of_le hlt hal.size
        clear hc eA hwd hle hal
        go_wp2_with (first | (refine El.load enRow rfl _ rfl b (off + k * 10) rfl x hat #[.int .i64 x.k, .int .i64 x.d, .int .i64 x.i, .int .i64 x.o.C, .int .i64 x.o.D, .int .i64 x.o.I, .int .i64 x.o.M, .int .i64 x.o.K, .int .i64 x.o.U, .string x.o.s] rfl ?_) | (refine El.load enRow rfl _ rfl wr.heap.size 0 rfl x hE.at #[.int .i64 x.k, .int .i64 x.d, .int .i64 x.i, .int .i64 x.o.C, .int .i64 x.o.D, .int .i64 x.o.I, .int .i64 x.o.M, .int .i64 x.o.K, .int .i64 x.o.U, .string x.o.s] rfl ?_) | fail)
        refine (HPR.out _).mono ?_
        rintro r w2 ⟨rfl, hb2⟩
        replace hbd := builder_below hbd hb2
        replace hB := below_then hB hb2
        replace hlt := Nat.lt_of_lt_of_le hlt hb2.size
        clear hE hat hb2
        go_wp2_with fail
        refine (wstr_any nb nb _ P _ hbd (by simp only [Lib.strCells_length]; omega) (Nat.le_of_lt hlt)).mono ?_
        rintro r w3 ⟨rfl, hbd3, hN3, _⟩
        rw [← strCells_app, ← HCN.out] at hbd3
        replace hB := hB.trans (hN3.mono hwb)
        go_wp2_with fail
        exact ⟨⟨k + 1, by omega, by go_num, hbd3, hB⟩, by simp [intOf]; omega⟩
      · obtain rfl : k = y.x.es.length := by omega
        rw [List.take_length] at hbd
        have C := builder_String_any nb nb (L (X ++ ecat y.x.es)) wr hbd (Nat.le_of_lt hlt)
        have he : (⟨(L (X ++ ecat y.x.es)).toArray⟩ : ByteArray) = stmBytes y.x := by rw [HV.out]; exact back_L _
        rw [he] at C
        have HC := Lib.hid C
        clear C he hbd
        go_wp2_with fail
        refine HC.out.mono ?_
        rintro r w5 ⟨rfl, hb5⟩
        go_wp2_with fail
        go_ret
        exact ⟨rfl, hB.trans (hb5.mono hwb)⟩
end Go.Proofs.Ytbfebcifmneliaa

/- The program's streams: Read; all calls. -/
namespace Go.Proofs.Ytbfebcifmneliaa
open Go.RowKit Nam Cod

def cntStep (s : ByteArray) (p : Nat) (bad : Bool) (most v : Int) (q : Nat) (bad' : Bool) : Prop := (isCount s p bad most = some (v, q) ∧ bad' = false) ∨ (isCount s p bad most = none ∧ v = 0 ∧ bad' = true)
theorem count_uni {w : World} {b p : Nat} {s : ByteArray} {bad : Bool} (most : Int) (hm0 : 0 ≤ most) (hs : s.size ≤ 1000000) (hp : p ≤ s.size) (hr : Rd 51 w b s p bad) :
    Calls Try.prog 39 #[.pointer (some ⟨b, 0, none⟩), .int .i64 most] w fun e w' => ∃ v q bad', e = .returned (.int .i64 v) ∧ Rd 51 w' b s q bad' ∧ q ≤ s.size ∧ w.grownBy w' (some b) ∧ (0 ≤ v ∧ v ≤ most) ∧ cntStep s p bad most v q bad' := by
  rcases h : isCount s p bad most with _ | ⟨v, q⟩
  · exact (count_no hs hp hr h).mono fun e w' ⟨he, ⟨q, hq, hr'⟩, hg⟩ => ⟨0, q, true, he, hr', hq, hg, ⟨Int.le_refl _, hm0⟩, Or.inr ⟨h, rfl, rfl⟩⟩
  · obtain ⟨h1, h2⟩ := isCount_some h
    exact (count_yes hs hp hr h).mono fun e w' ⟨he, hr', hg⟩ => ⟨v, q, false, he, hr', (isNum_some h1).2.2.1, hg, h2, Or.inl ⟨h, rfl⟩⟩
theorem cntStep.good {s : ByteArray} {p : Nat} {bad : Bool} {m v : Int} {q : Nat} (h : cntStep s p bad m v q false) : isCount s p bad m = some (v, q) := by
  rcases h with ⟨h, _⟩ | ⟨_, _, h⟩
  · exact h
  · cases h
theorem cntStep.of {s : ByteArray} {p : Nat} {bad bad' : Bool} {m v v2 : Int} {q q2 : Nat} (h : cntStep s p bad m v q bad') (h2 : isCount s p bad m = some (v2, q2)) : v = v2 ∧ q = q2 ∧ bad' = false := by
  rcases h with ⟨h, h3⟩ | ⟨h, _, _⟩
  · rw [h2] at h
    injection h with h
    injection h with h4 h5
    exact ⟨h4.symm, h5.symm, h3⟩
  · rw [h2] at h; cases h
theorem isCount_bad (s : ByteArray) (p : Nat) (m : Int) : isCount s p true m = none := rfl

theorem isEnts_next (s : ByteArray) : ∀ (k p : Nat), isEnts s (k + 1) p = (isEnts s k p).bind fun a => (isEnt s a.2 false).bind fun e => some (a.1 ++ [e.1], e.2)
  | 0, p => by
    rw [isEnts, isEnts, Option.bind_some]
    cases isEnt s p false with
    | none => rfl
    | some a => rfl
  | k + 1, p => by
    rw [isEnts]
    cases h : isEnt s p false with
    | none => rw [isEnts, h]; rfl
    | some a =>
      rw [Option.bind_some, isEnts_next s k a.2, isEnts, h, Option.bind_some]
      cases isEnts s k a.2 with
      | none => rfl
      | some b =>
        simp only [Option.bind_some]
        cases isEnt s b.2 false with
        | none => rfl
        | some c => rfl
theorem isEnts_none (s : ByteArray) (p k : Nat) (h : isEnts s k p = none) : ∀ d, isEnts s (k + d) p = none
  | 0 => h
  | d + 1 => by rw [← Nat.add_assoc, isEnts_next, isEnts_none s p k h d]; rfl

/-- Nothing is read in the end. -/
def Doom (s : ByteArray) (p : Nat) (bad : Bool) (n : Int) : Prop := bad = true ∨ n < 0 ∨ 4096 < n ∨ isEnts s n.toNat p = none
def entsAt (s : ByteArray) (p : Nat) (bad : Bool) (n : Int) (l : List En) (q : Nat) (bd : Bool) : Prop := (bd = false ∧ bad = false ∧ 0 ≤ n ∧ n ≤ 4096 ∧ isEnts s l.length p = some (l, q)) ∨ (bd = true ∧ Doom s p bad n)
def entsStep (s : ByteArray) (p : Nat) (bad : Bool) (n : Int) (l : List En) (q : Nat) (bd : Bool) : Prop := (bd = false ∧ bad = false ∧ 0 ≤ n ∧ n ≤ 4096 ∧ isEnts s n.toNat p = some (l, q)) ∨ (bd = true ∧ l = [] ∧ Doom s p bad n)
theorem entsAt.next {s : ByteArray} {p : Nat} {bad : Bool} {n : Int} {l : List En} {q : Nat} (h : entsAt s p bad n l q false) (hl : (l.length : Int) < n) {x : En} {q2 : Nat} {b2 : Bool} (he : entStep s q false x q2 b2) : entsAt s p bad n (l ++ [x]) q2 b2 := by
  rcases h with ⟨_, h1, h2, h3, h4⟩ | ⟨h, _⟩
  · have hn := isEnts_next s l.length p
    rw [h4, Option.bind_some] at hn
    dsimp only at hn
    rcases he with ⟨he, rfl⟩ | ⟨he, _, rfl⟩
    · rw [he, Option.bind_some] at hn
      exact Or.inl ⟨rfl, h1, h2, h3, by rw [List.length_append, List.length_singleton]; exact hn⟩
    · rw [he] at hn
      refine Or.inr ⟨rfl, Or.inr (Or.inr (Or.inr ?_))⟩
      have hd := isEnts_none s p (l.length + 1) hn (n.toNat - (l.length + 1))
      rw [show l.length + 1 + (n.toNat - (l.length + 1)) = n.toNat by omega] at hd
      exact hd
  · cases h
theorem entsAt.start {s : ByteArray} {p : Nat} {bad bd : Bool} {n : Int} (h : (bd = bad ∧ 0 ≤ n ∧ n ≤ 4096) ∨ (bd = true ∧ (n < 0 ∨ 4096 < n))) : entsAt s p bad n [] p bd := by
  rcases h with ⟨rfl, h1, h2⟩ | ⟨rfl, h⟩
  · cases bd
    · exact Or.inl ⟨rfl, rfl, h1, h2, rfl⟩
    · exact Or.inr ⟨rfl, Or.inl rfl⟩
  · refine Or.inr ⟨rfl, ?_⟩
    rcases h with h | h
    · exact Or.inr (Or.inl h)
    · exact Or.inr (Or.inr (Or.inl h))
theorem entsAt.good {s : ByteArray} {p : Nat} {bad : Bool} {n : Int} {l : List En} {q : Nat} (h : entsAt s p bad n l q false) (hl : ¬ (l.length : Int) < n) (hl2 : (l.length : Int) ≤ max n 0) : entsStep s p bad n l q false := by
  rcases h with ⟨_, h1, h2, h3, h4⟩ | ⟨h, _⟩
  · exact Or.inl ⟨rfl, h1, h2, h3, by rw [show n.toNat = l.length by omega]; exact h4⟩
  · cases h
theorem entsAt.ill {s : ByteArray} {p : Nat} {bad : Bool} {n : Int} {l : List En} {q : Nat} (h : entsAt s p bad n l q true) : entsStep s p bad n [] q true := by
  rcases h with ⟨h, _⟩ | ⟨_, h⟩
  · cases h
  · exact Or.inr ⟨rfl, rfl, h⟩
theorem by_ownS {a w w' : World} {b : Nat} {row : Option Nat} (h : a.grownBy w (some b)) (g : w.grownBy w' row) (hrow : ∀ k, row = some k → a.heap.size ≤ k) : a.grownBy w' (some b) :=
  ⟨g.os.trans h.os, g.tape.trans h.tape, g.output.trans h.output, Nat.le_trans h.size g.size, fun k hk hne =>
    (g.block k (Nat.lt_of_lt_of_le hk h.size) (fun e => by have := hrow k e.symm; omega)).trans (h.block k hk hne)⟩
def lenV : Value → Nat
  | .slice _ n _ => n
  | _ => 0
theorem own_lenV {w : World} {B : Nat} {v : Value} {l : List En} (h : enE.Own w B v l) : lenV v = l.length := by
  obtain ⟨A, c, rfl, _⟩ := SlV.own h
  rfl

set_option maxRecDepth 100000 in
set_option maxHeartbeats 4000000 in
theorem readEntries_uni {w : World} {b p : Nat} {s : ByteArray} {bad : Bool} (n : Int) (hs : s.size ≤ 1000000) (hp : p ≤ s.size) (hr : Rd 51 w b s p bad) :
    Calls Try.prog 40 #[.pointer (some ⟨b, 0, none⟩), .int .i64 n] w fun r w' => ∃ (A : Option Addr) (c : Nat) (l : List En) (q : Nat) (bad' : Bool), r = .returned (.slice A l.length c) ∧ SlV enE w' A c l ∧ Rd 51 w' b s q bad' ∧ q ≤ s.size ∧ w.grownBy w' (some b) ∧ entsStep s p bad n l q bad' := by
  have hbw := hr.lt
  obtain ⟨r0, r1, r2⟩ := hr.cells
  have rf := hr.frozen
  have hGw := by_below (Below.refl w.heap.size w) (some b)
  by_cases hn : 0 ≤ n ∧ n ≤ 4096
  · have HS := Lib.hid (entsAt.start (s := s) (p := p) (bad := bad) (bd := bad) (n := n) (Or.inl ⟨rfl, hn⟩))
    have f1 : decide (n < 0) = false := decide_eq_false (by omega)
    have f2 : decide (4096 < n) = false := decide_eq_false (by omega)
    go_enter Try.func40, Try.ntmps40
    go_wp2_with fail
    clear f1 f2 r0 r1 r2 rf
    go_loopw [5] (fun x wr => ∃ (v : Value) (l : List En) (q : Nat) (bd : Bool), x = v ∧ enE.Own wr w.heap.size v l ∧ Hid (l.length ≤ 4096 ∧ (l.length : Int) ≤ max n 0) ∧ Rd 51 wr b s q bd ∧ q ≤ s.size ∧ w.grownBy wr (some b) ∧ Hid (entsAt s p bad n l q bd)) (fun x _ => n.toNat - lenV x)
    case atStart => exact ⟨_, [], p, bad, rfl, El.Own.nil w w.heap.size, Lib.hid ⟨by decide, by rw [List.length_nil]; omega⟩, hr, hp, hGw, HS⟩
    case round =>
      clear hr hGw HS
      obtain ⟨v, l, q, bd, rfl, hO, hl, hR, hq, hG, HS⟩ := hrel
      have hlv := own_lenV hO
      obtain ⟨A, c, rfl, hS⟩ := SlV.own hO
      obtain ⟨r0, r1, r2⟩ := hR.cells
      cases bd
      · by_cases hlt : (l.length : Int) < n
        · have hle : l.length + 1 ≤ 4096 ∧ (l.length : Int) + 1 ≤ n := by
            rcases HS.out with ⟨_, _, _, h, _⟩ | ⟨h, _⟩
            · exact ⟨by omega, by omega⟩
            · cases h
          have HLE := Lib.hid hle
          have f5 : decide ((l.length : Int) < n) = true := decide_eq_true hlt
          have CR := entRead_uni hs hq hR
          have HLT := Lib.hid hlt
          clear hle hS hlv hlt
          go_wp2_with fail
          refine CR.mono ?_
          clear CR hR r0 r1 r2 f5
          rintro e w3 ⟨x, q2, b2, rfl, hR, hq2, hg3, hst⟩
          have HN := Lib.hid (HS.out.next HLT.out hst)
          replace hO := hO.kept hg3 (Or.inr (fun e => by have := (hO.lt b e).1; omega))
          replace hG := by_trans hG hg3
          have hb4 := below_alloc (Below.refl _ w3) (.cells #[.int .i64 x.k, .int .i64 x.d, .int .i64 x.i, .int .i64 x.o.C, .int .i64 x.o.D, .int .i64 x.o.I, .int .i64 x.o.M, .int .i64 x.o.K, .int .i64 x.o.U, .string x.o.s] 37)
          have hE : enE.Sl (w3.alloc (.cells #[.int .i64 x.k, .int .i64 x.d, .int .i64 x.i, .int .i64 x.o.C, .int .i64 x.o.D, .int .i64 x.o.I, .int .i64 x.o.M, .int .i64 x.o.K, .int .i64 x.o.U, .string x.o.s] 37)) (some ⟨w3.heap.size, 0, none⟩) [x] := (El.In.new (E := enE) w3 x _ rfl).sl
          replace hO := hO.below hb4
          replace hR := hR.below hb4
          replace hG := by_trans hG (by_below hb4 _)
          have hB := hG.size
          clear hg3 hb4 hst
          go_wp2_with (at_builtin; refine El.wpList_app enInn rfl _ _ rfl w.heap.size _ l [x] rfl hO (some ⟨w3.heap.size, 0, none⟩) 1 1 rfl rfl hE (fun e => by cases e) (by have := HLE.out.1; rw [List.length_singleton]; omega) hB ?_; intro v' w5 hO5 hg5 _)
          replace hR := hR.keep hg5 (fun e => by have := (hO.lt b e.symm).1; omega)
          replace hG := by_ownS hG hg5 (fun k e => (hO.lt k e).1)
          have hlv5 := own_lenV hO5
          rw [List.length_append, List.length_singleton] at hlv5
          go_wp2
          go_roundw
          case rel => exact ⟨v', l ++ [x], q2, b2, rfl, hO5, Lib.hid (by rw [List.length_append, List.length_singleton]; have := HLE.out; omega), hR, hq2, hG, HN⟩
          case measure =>
            have h1 := HLE.out
            show n.toNat - lenV v' < n.toNat - l.length
            omega
        · have HG := Lib.hid (HS.out.good hlt hl.out.2)
          have f5 : decide ((l.length : Int) < n) = false := decide_eq_false hlt
          clear hlv hlt hO
          go_wp2_with fail
          go_ret
          exact ⟨A, c, l, q, false, rfl, hS, hR, hq, hG, HG.out⟩
      · have HI := Lib.hid HS.out.ill
        by_cases hlt : (l.length : Int) < n
        · have f5 : decide ((l.length : Int) < n) = true := decide_eq_true hlt
          clear hlv hlt hO hS
          go_wp2_with fail
          go_ret
          exact ⟨none, 0, [], q, true, rfl, SlV.nil enE _, hR, hq, hG, HI.out⟩
        · have f5 : decide ((l.length : Int) < n) = false := decide_eq_false hlt
          clear hlv hlt hO hS
          go_wp2_with fail
          go_ret
          exact ⟨none, 0, [], q, true, rfl, SlV.nil enE _, hR, hq, hG, HI.out⟩
  · have HS := Lib.hid (entsAt.start (s := s) (p := p) (bad := bad) (bd := true) (n := n) (Or.inr ⟨rfl, by omega⟩))
    have hr2 := hr.setBad
    have hG2 := by_set hGw 2 (.bool true)
    rcases Int.lt_or_le n 0 with h0 | h0
    · have f1 : decide (n < 0) = true := decide_eq_true h0
      go_enter Try.func40, Try.ntmps40
      go_wp2_with fail
      clear f1 r0 r1 r2 rf
      generalize w.setCell ⟨b, 2, none⟩ (.bool true) = W0 at *
      go_loopw [5] (fun x wr => ∃ (v : Value) (l : List En) (q : Nat) (bd : Bool), x = v ∧ enE.Own wr w.heap.size v l ∧ Hid (l.length ≤ 4096 ∧ (l.length : Int) ≤ max n 0) ∧ Rd 51 wr b s q bd ∧ q ≤ s.size ∧ w.grownBy wr (some b) ∧ Hid (entsAt s p bad n l q bd)) (fun x _ => n.toNat - lenV x)
      case atStart => exact ⟨_, [], p, true, rfl, El.Own.nil W0 w.heap.size, Lib.hid ⟨by decide, by rw [List.length_nil]; omega⟩, hr2, hp, hG2, HS⟩
      case round =>
        clear hr2 hG2 HS
        obtain ⟨v, l, q, bd, rfl, hO, hl, hR, hq, hG, HS⟩ := hrel
        have hlv := own_lenV hO
        obtain ⟨A, c, rfl, hS⟩ := SlV.own hO
        obtain ⟨r0, r1, r2⟩ := hR.cells
        cases bd
        · by_cases hlt : (l.length : Int) < n
          · have hle : l.length + 1 ≤ 4096 ∧ (l.length : Int) + 1 ≤ n := by
              rcases HS.out with ⟨_, _, _, h, _⟩ | ⟨h, _⟩
              · exact ⟨by omega, by omega⟩
              · cases h
            have HLE := Lib.hid hle
            have f5 : decide ((l.length : Int) < n) = true := decide_eq_true hlt
            have CR := entRead_uni hs hq hR
            have HLT := Lib.hid hlt
            clear hle hS hlv hlt
            go_wp2_with fail
            refine CR.mono ?_
            clear CR hR r0 r1 r2 f5
            rintro e w3 ⟨x, q2, b2, rfl, hR, hq2, hg3, hst⟩
            have HN := Lib.hid (HS.out.next HLT.out hst)
            replace hO := hO.kept hg3 (Or.inr (fun e => by have := (hO.lt b e).1; omega))
            replace hG := by_trans hG hg3
            have hb4 := below_alloc (Below.refl _ w3) (.cells #[.int .i64 x.k, .int .i64 x.d, .int .i64 x.i, .int .i64 x.o.C, .int .i64 x.o.D, .int .i64 x.o.I, .int .i64 x.o.M, .int .i64 x.o.K, .int .i64 x.o.U, .string x.o.s] 37)
            have hE : enE.Sl (w3.alloc (.cells #[.int .i64 x.k, .int .i64 x.d, .int .i64 x.i, .int .i64 x.o.C, .int .i64 x.o.D, .int .i64 x.o.I, .int .i64 x.o.M, .int .i64 x.o.K, .int .i64 x.o.U, .string x.o.s] 37)) (some ⟨w3.heap.size, 0, none⟩) [x] := (El.In.new (E := enE) w3 x _ rfl).sl
            replace hO := hO.below hb4
            replace hR := hR.below hb4
            replace hG := by_trans hG (by_below hb4 _)
            have hB := hG.size
            clear hg3 hb4 hst
            go_wp2_with (at_builtin; refine El.wpList_app enInn rfl _ _ rfl w.heap.size _ l [x] rfl hO (some ⟨w3.heap.size, 0, none⟩) 1 1 rfl rfl hE (fun e => by cases e) (by have := HLE.out.1; rw [List.length_singleton]; omega) hB ?_; intro v' w5 hO5 hg5 _)
            replace hR := hR.keep hg5 (fun e => by have := (hO.lt b e.symm).1; omega)
            replace hG := by_ownS hG hg5 (fun k e => (hO.lt k e).1)
            have hlv5 := own_lenV hO5
            rw [List.length_append, List.length_singleton] at hlv5
            go_wp2
            go_roundw
            case rel => exact ⟨v', l ++ [x], q2, b2, rfl, hO5, Lib.hid (by rw [List.length_append, List.length_singleton]; have := HLE.out; omega), hR, hq2, hG, HN⟩
            case measure =>
              have h1 := HLE.out
              show n.toNat - lenV v' < n.toNat - l.length
              omega
          · have HG := Lib.hid (HS.out.good hlt hl.out.2)
            have f5 : decide ((l.length : Int) < n) = false := decide_eq_false hlt
            clear hlv hlt hO
            go_wp2_with fail
            go_ret
            exact ⟨A, c, l, q, false, rfl, hS, hR, hq, hG, HG.out⟩
        · have HI := Lib.hid HS.out.ill
          by_cases hlt : (l.length : Int) < n
          · have f5 : decide ((l.length : Int) < n) = true := decide_eq_true hlt
            clear hlv hlt hO hS
            go_wp2_with fail
            go_ret
            exact ⟨none, 0, [], q, true, rfl, SlV.nil enE _, hR, hq, hG, HI.out⟩
          · have f5 : decide ((l.length : Int) < n) = false := decide_eq_false hlt
            clear hlv hlt hO hS
            go_wp2_with fail
            go_ret
            exact ⟨none, 0, [], q, true, rfl, SlV.nil enE _, hR, hq, hG, HI.out⟩
    · have f1 : decide (n < 0) = false := decide_eq_false (by omega)
      have f2 : decide (4096 < n) = true := decide_eq_true (by omega)
      go_enter Try.func40, Try.ntmps40
      go_wp2_with fail
      clear f1 f2 r0 r1 r2 rf
      generalize w.setCell ⟨b, 2, none⟩ (.bool true) = W0 at *
      go_loopw [5] (fun x wr => ∃ (v : Value) (l : List En) (q : Nat) (bd : Bool), x = v ∧ enE.Own wr w.heap.size v l ∧ Hid (l.length ≤ 4096 ∧ (l.length : Int) ≤ max n 0) ∧ Rd 51 wr b s q bd ∧ q ≤ s.size ∧ w.grownBy wr (some b) ∧ Hid (entsAt s p bad n l q bd)) (fun x _ => n.toNat - lenV x)
      case atStart => exact ⟨_, [], p, true, rfl, El.Own.nil W0 w.heap.size, Lib.hid ⟨by decide, by rw [List.length_nil]; omega⟩, hr2, hp, hG2, HS⟩
      case round =>
        clear hr2 hG2 HS
        obtain ⟨v, l, q, bd, rfl, hO, hl, hR, hq, hG, HS⟩ := hrel
        have hlv := own_lenV hO
        obtain ⟨A, c, rfl, hS⟩ := SlV.own hO
        obtain ⟨r0, r1, r2⟩ := hR.cells
        cases bd
        · by_cases hlt : (l.length : Int) < n
          · have hle : l.length + 1 ≤ 4096 ∧ (l.length : Int) + 1 ≤ n := by
              rcases HS.out with ⟨_, _, _, h, _⟩ | ⟨h, _⟩
              · exact ⟨by omega, by omega⟩
              · cases h
            have HLE := Lib.hid hle
            have f5 : decide ((l.length : Int) < n) = true := decide_eq_true hlt
            have CR := entRead_uni hs hq hR
            have HLT := Lib.hid hlt
            clear hle hS hlv hlt
            go_wp2_with fail
            refine CR.mono ?_
            clear CR hR r0 r1 r2 f5
            rintro e w3 ⟨x, q2, b2, rfl, hR, hq2, hg3, hst⟩
            have HN := Lib.hid (HS.out.next HLT.out hst)
            replace hO := hO.kept hg3 (Or.inr (fun e => by have := (hO.lt b e).1; omega))
            replace hG := by_trans hG hg3
            have hb4 := below_alloc (Below.refl _ w3) (.cells #[.int .i64 x.k, .int .i64 x.d, .int .i64 x.i, .int .i64 x.o.C, .int .i64 x.o.D, .int .i64 x.o.I, .int .i64 x.o.M, .int .i64 x.o.K, .int .i64 x.o.U, .string x.o.s] 37)
            have hE : enE.Sl (w3.alloc (.cells #[.int .i64 x.k, .int .i64 x.d, .int .i64 x.i, .int .i64 x.o.C, .int .i64 x.o.D, .int .i64 x.o.I, .int .i64 x.o.M, .int .i64 x.o.K, .int .i64 x.o.U, .string x.o.s] 37)) (some ⟨w3.heap.size, 0, none⟩) [x] := (El.In.new (E := enE) w3 x _ rfl).sl
            replace hO := hO.below hb4
            replace hR := hR.below hb4
            replace hG := by_trans hG (by_below hb4 _)
            have hB := hG.size
            clear hg3 hb4 hst
            go_wp2_with (at_builtin; refine El.wpList_app enInn rfl _ _ rfl w.heap.size _ l [x] rfl hO (some ⟨w3.heap.size, 0, none⟩) 1 1 rfl rfl hE (fun e => by cases e) (by have := HLE.out.1; rw [List.length_singleton]; omega) hB ?_; intro v' w5 hO5 hg5 _)
            replace hR := hR.keep hg5 (fun e => by have := (hO.lt b e.symm).1; omega)
            replace hG := by_ownS hG hg5 (fun k e => (hO.lt k e).1)
            have hlv5 := own_lenV hO5
            rw [List.length_append, List.length_singleton] at hlv5
            go_wp2
            go_roundw
            case rel => exact ⟨v', l ++ [x], q2, b2, rfl, hO5, Lib.hid (by rw [List.length_append, List.length_singleton]; have := HLE.out; omega), hR, hq2, hG, HN⟩
            case measure =>
              have h1 := HLE.out
              show n.toNat - lenV v' < n.toNat - l.length
              omega
          · have HG := Lib.hid (HS.out.good hlt hl.out.2)
            have f5 : decide ((l.length : Int) < n) = false := decide_eq_false hlt
            clear hlv hlt hO
            go_wp2_with fail
            go_ret
            exact ⟨A, c, l, q, false, rfl, hS, hR, hq, hG, HG.out⟩
        · have HI := Lib.hid HS.out.ill
          by_cases hlt : (l.length : Int) < n
          · have f5 : decide ((l.length : Int) < n) = true := decide_eq_true hlt
            clear hlv hlt hO hS
            go_wp2_with fail
            go_ret
            exact ⟨none, 0, [], q, true, rfl, SlV.nil enE _, hR, hq, hG, HI.out⟩
          · have f5 : decide ((l.length : Int) < n) = false := decide_eq_false hlt
            clear hlv hlt hO hS
            go_wp2_with fail
            go_ret
            exact ⟨none, 0, [], q, true, rfl, SlV.nil enE _, hR, hq, hG, HI.out⟩

theorem isStm_some {s : ByteArray} {p : Nat} {bad : Bool} {x : Sm} {q : Nat} (h : isStm s p bad = some (x, q)) : ∃ q1 q2 q3, isCount s p bad 1099511627776 = some (x.s, q1) ∧ isCount s q1 false 1099511627776 = some (x.t, q2) ∧ isCount s q2 false 1099511627776 = some (x.p, q3) ∧ 0 ≤ x.p - x.s ∧ x.p - x.s ≤ 4096 ∧ isEnts s (x.p - x.s).toNat q3 = some (x.es, q) := by
  unfold isStm at h
  cases ha : isNum s p bad with
  | none => rw [ha] at h; cases h
  | some a =>
    obtain ⟨a, qa⟩ := a
    rw [ha, Option.bind_some] at h
    dsimp only at h
    cases hb : isNum s qa false with
    | none => rw [hb] at h; cases h
    | some b =>
      obtain ⟨b, qb⟩ := b
      rw [hb, Option.bind_some] at h
      dsimp only at h
      cases hc : isNum s qb false with
      | none => rw [hc] at h; cases h
      | some c =>
        obtain ⟨c, qc⟩ := c
        rw [hc, Option.bind_some] at h
        dsimp only at h
        by_cases hl : lifeS a b c = true
        · rw [if_pos hl] at h
          cases hd : isEnts s (c - a).toNat qc with
          | none => rw [hd] at h; cases h
          | some d =>
            obtain ⟨l, qd⟩ := d
            rw [hd, Option.bind_some] at h
            injection h with h
            injection h with h1 h2
            subst h1 h2
            rw [lifeS_iff] at hl
            refine ⟨qa, qb, qc, ?_, ?_, ?_, by dsimp only; omega, by dsimp only; omega, hd⟩
            · unfold isCount; rw [ha]; dsimp only; rw [if_pos (by omega)]
            · unfold isCount; rw [hb]; dsimp only; rw [if_pos (by omega)]
            · unfold isCount; rw [hc]; dsimp only; rw [if_pos (by omega)]
        · rw [if_neg hl] at h; cases h
theorem stm_good {s : ByteArray} {p : Nat} {bad : Bool} {a b c : Int} {q1 q2 q3 q : Nat} {b1 b2 b3 : Bool} {l : List En} (h1 : cntStep s p bad 1099511627776 a q1 b1) (h2 : cntStep s q1 b1 1099511627776 b q2 b2) (h3 : cntStep s q2 b2 1099511627776 c q3 b3) (h4 : entsStep s q3 b3 (c - a) l q false) : isStm s p bad = some (⟨a, b, c, l⟩, q) := by
  rcases h4 with ⟨_, rfl, g1, g2, g3⟩ | ⟨h, _⟩
  · have h3 := h3.good
    have e2 : b2 = false := by
      cases b2
      · rfl
      · rw [isCount_bad] at h3; cases h3
    subst e2
    have h2 := h2.good
    have e1 : b1 = false := by
      cases b1
      · rfl
      · rw [isCount_bad] at h2; cases h2
    subst e1
    obtain ⟨n1, m1⟩ := isCount_some h1.good
    obtain ⟨n2, m2⟩ := isCount_some h2
    obtain ⟨n3, m3⟩ := isCount_some h3
    unfold isStm
    rw [n1, Option.bind_some]
    dsimp only
    rw [n2, Option.bind_some]
    dsimp only
    rw [n3, Option.bind_some]
    dsimp only
    rw [if_pos (lifeS_iff.2 ⟨by omega, by omega, by omega, by omega, by omega, by omega⟩), g3, Option.bind_some]
  · cases h
theorem stm_ill {s : ByteArray} {p : Nat} {bad : Bool} {a b c : Int} {q1 q2 q3 q : Nat} {b1 b2 b3 : Bool} {l : List En} (h1 : cntStep s p bad 1099511627776 a q1 b1) (h2 : cntStep s q1 b1 1099511627776 b q2 b2) (h3 : cntStep s q2 b2 1099511627776 c q3 b3) (h4 : entsStep s q3 b3 (c - a) l q true) : isStm s p bad = none := by
  cases hx : isStm s p bad with
  | none => rfl
  | some r =>
    exfalso
    obtain ⟨x, qq⟩ := r
    obtain ⟨p1, p2, p3, g1, g2, g3, g4, g5, g6⟩ := isStm_some hx
    obtain ⟨rfl, rfl, rfl⟩ := h1.of g1
    obtain ⟨rfl, rfl, rfl⟩ := h2.of g2
    obtain ⟨rfl, rfl, rfl⟩ := h3.of g3
    rcases h4 with ⟨h, _⟩ | ⟨_, _, h | h | h | h⟩
    · cases h
    · cases h
    · omega
    · omega
    · rw [g6] at h; cases h

set_option maxRecDepth 100000 in
set_option maxHeartbeats 4000000 in
theorem smRead_uni (w : World) (b p : Nat) (s : ByteArray) (bad : Bool) (hs : s.size ≤ 1000000) (hp : p ≤ s.size) (hr : Rd 51 w b s p bad) :
    Calls Try.prog 23 #[.pointer (some ⟨b, 0, none⟩)] w fun r w' => ∃ (y : Sw) (q : Nat) (bad' : Bool), r = .returned (.agg #[.int .i64 y.x.s, .int .i64 y.x.t, .int .i64 y.x.p, .slice y.A y.x.es.length y.c]) ∧ y.ok w' ∧ Rd 51 w' b s q bad' ∧ q ≤ s.size ∧ w.grownBy w' (some b) ∧ stmStep s p bad y.x q bad' := by
  have hbw := hr.lt
  go_enter Try.func23, Try.ntmps23
  go_wp2_with fail
  have hZ : smE.In ((w.alloc (.cells #[.int .i64 0, .int .i64 0, .int .i64 0, .slice none 0 0] 27)).alloc (.cells #[.int .i64 0, .int .i64 0, .int .i64 0, .slice none 0 0] 27)) w.heap.size zeroSw := (El.In.new (E := smE) w zeroSw #[.int .i64 0, .int .i64 0, .int .i64 0, .slice none 0 0] rfl).alloc _
  have hY := two_boxes w #[.int .i64 0, .int .i64 0, .int .i64 0, .slice none 0 0] #[.int .i64 0, .int .i64 0, .int .i64 0, .slice none 0 0] zeroSw rfl
  have hB := below_alloc (below_alloc (Below.refl w.heap.size w) (.cells #[.int .i64 0, .int .i64 0, .int .i64 0, .slice none 0 0] 27)) (.cells #[.int .i64 0, .int .i64 0, .int .i64 0, .slice none 0 0] 27)
  have hR := hr.below hB
  have hG := by_below hB (some b)
  obtain ⟨n3, h3⟩ : ∃ n, w.heap.size + 1 = n := ⟨_, rfl⟩
  obtain ⟨n2, h2⟩ : ∃ n, w.heap.size = n := ⟨_, rfl⟩
  have hn2 : w.heap.size ≤ n2 := by omega
  have hwn : w.heap.size ≤ n3 := by omega
  have e2 : b ≠ n2 := by omega
  have e3 : b ≠ n3 := by omega
  have e4 : n2 ≠ n3 := by omega
  have i2 : some n2 ≠ some b := fun e => e2 (Option.some.inj e).symm
  have i3 : some n3 ≠ some b := fun e => e3 (Option.some.inj e).symm
  generalize (w.alloc (.cells #[.int .i64 0, .int .i64 0, .int .i64 0, .slice none 0 0] 27)).alloc (.cells #[.int .i64 0, .int .i64 0, .int .i64 0, .slice none 0 0] 27) = W0 at *
  rw [h3] at hY ⊢
  rw [h2] at hZ ⊢
  clear h2 h3 hB hr
  refine (count_uni 1099511627776 (by decide) hs hp hR).mono ?_
  rintro e w1 ⟨v1, q1, b1, rfl, hR, hq1, hg, hv1, st1⟩
  replace hZ := hZ.keep hg i2
  replace hY := hY.keep hg i3
  replace hG := by_trans hG hg
  clear hg
  have ky := hY
  have kc := hY.cell 0
  have kf := hY.frozen
  replace kc : w1.cell? ⟨n3, 0, none⟩ = some (.int .i64 0) := kc
  replace hY := hY.put ⟨none, 0, ⟨v1, 0, 0, []⟩⟩ 0 (.int .i64 v1) rfl
  replace hZ := hZ.other n3 0 (.int .i64 v1) e4
  replace hR := hR.other n3 0 (.int .i64 v1) e3
  replace hG := by_setNew hG n3 0 (.int .i64 v1) hwn
  clear ky
  go_wp2_with fail
  clear kc kf
  generalize w1.setCell ⟨n3, 0, none⟩ (.int .i64 v1) = W1 at *
  refine (count_uni 1099511627776 (by decide) hs hq1 hR).mono ?_
  rintro e w2 ⟨v2, q2, b2, rfl, hR, hq2, hg, hv2, st2⟩
  replace hZ := hZ.keep hg i2
  replace hY := hY.keep hg i3
  replace hG := by_trans hG hg
  clear hg
  have ky := hY
  have kc := hY.cell 1
  have kf := hY.frozen
  replace kc : w2.cell? ⟨n3, 1, none⟩ = some (.int .i64 0) := kc
  replace hY := hY.put ⟨none, 0, ⟨v1, v2, 0, []⟩⟩ 1 (.int .i64 v2) rfl
  replace hZ := hZ.other n3 1 (.int .i64 v2) e4
  replace hR := hR.other n3 1 (.int .i64 v2) e3
  replace hG := by_setNew hG n3 1 (.int .i64 v2) hwn
  clear ky
  go_wp2_with fail
  clear kc kf
  generalize w2.setCell ⟨n3, 1, none⟩ (.int .i64 v2) = W2 at *
  refine (count_uni 1099511627776 (by decide) hs hq2 hR).mono ?_
  rintro e w3 ⟨v3, q3, b3, rfl, hR, hq3, hg, hv3, st3⟩
  replace hZ := hZ.keep hg i2
  replace hY := hY.keep hg i3
  replace hG := by_trans hG hg
  clear hg
  have ky := hY
  have kc := hY.cell 2
  have kf := hY.frozen
  replace kc : w3.cell? ⟨n3, 2, none⟩ = some (.int .i64 0) := kc
  replace hY := hY.put ⟨none, 0, ⟨v1, v2, v3, []⟩⟩ 2 (.int .i64 v3) rfl
  replace hZ := hZ.other n3 2 (.int .i64 v3) e4
  replace hR := hR.other n3 2 (.int .i64 v3) e3
  replace hG := by_setNew hG n3 2 (.int .i64 v3) hwn
  clear ky
  have f1 : IntKind.i64.wrap (v3 - v1) = v3 - v1 := by rw [IntKind.wrap_i64]; omega
  go_upto_region 5 with fail
  clear kc kf
  generalize w3.setCell ⟨n3, 2, none⟩ (.int .i64 v3) = W3 at *
  obtain ⟨p0, p1, p2, p3⟩ := smIn4 hY
  dsimp only at p0 p1 p2 p3
  have CE := readEntries_uni (v3 - v1) hs hq3 hR
  clear hR p1 p3
  go_wp2_with fail
  refine CE.mono ?_
  clear CE p0 p2
  rintro e w4 ⟨A, cc, l, q4, b4, rfl, hS, hR, hq4, hg, st4⟩
  replace hZ := hZ.keep hg i2
  replace hY := hY.keep hg i3
  replace hG := by_trans hG hg
  clear hg
  have kc := hY.cell 3
  have kf := hY.frozen
  replace kc : w4.cell? ⟨n3, 3, none⟩ = some (.slice none 0 0) := kc
  have hSo := SlV.keepN hS (by_cell w4 n3 3 (.slice A l.length cc)) (sm_off hS.1 hY)
  have hY4 := hY.put ⟨A, cc, ⟨v1, v2, v3, l⟩⟩ 3 (.slice A l.length cc) rfl
  replace hZ := hZ.other n3 3 (.slice A l.length cc) e4
  replace hR := hR.other n3 3 (.slice A l.length cc) e3
  replace hG := by_setNew hG n3 3 (.slice A l.length cc) hwn
  clear hY hS
  go_upto_region 6 with fail
  clear kc kf f1
  generalize w4.setCell ⟨n3, 3, none⟩ (.slice A l.length cc) = W4 at *
  obtain ⟨r0, r1, r2⟩ := hR.cells
  cases b4
  · have HG := Lib.hid (stm_good st1 st2 st3 st4)
    clear st1 st2 st3 st4
    go_wp2_with (first | (refine El.load smRow rfl _ rfl n3 0 rfl ⟨A, cc, ⟨v1, v2, v3, l⟩⟩ hY4.at #[.int .i64 v1, .int .i64 v2, .int .i64 v3, .slice A l.length cc] rfl ?_) | (refine El.store smRow rfl _ _ rfl n2 ⟨A, cc, ⟨v1, v2, v3, l⟩⟩ #[.int .i64 v1, .int .i64 v2, .int .i64 v3, .slice A l.length cc] rfl rfl rfl zeroSw hZ ?_) | fail)
    refine El.ret1 smRow (hZ.set ⟨A, cc, ⟨v1, v2, v3, l⟩⟩ _ rfl) rfl rfl rfl #[.int .i64 v1, .int .i64 v2, .int .i64 v3, .slice A l.length cc] rfl ?_
    exact ⟨⟨A, cc, ⟨v1, v2, v3, l⟩⟩, q4, false, rfl, SlV.keepN hSo (by_row _ n2 _) (sm_off hSo.1 hZ), hR.row n2 _ e2, hq4, by_setRow hG n2 _ hn2, Or.inl ⟨HG.out, rfl⟩⟩
  · have HG := Lib.hid (stm_ill st1 st2 st3 st4)
    clear st1 st2 st3 st4
    go_wp2_with (first | (refine El.store smRow rfl _ _ rfl n2 zeroSw #[.int .i64 0, .int .i64 0, .int .i64 0, .slice none 0 0] rfl rfl rfl zeroSw hZ ?_) | fail)
    refine El.ret1 smRow (hZ.set zeroSw _ rfl) rfl rfl rfl #[.int .i64 0, .int .i64 0, .int .i64 0, .slice none 0 0] rfl ?_
    exact ⟨zeroSw, q4, true, rfl, SlV.nil enE _, hR.row n2 _ e2, hq4, by_setRow hG n2 _ hn2, Or.inr ⟨HG.out, rfl⟩⟩

theorem streamCalls : StreamCalls where
  right y w hn hR ho hw := smRight_yes y w hn hR ho hw
  push y e w hn ho := smPush_any y e w (by have := hn.p; omega) hn.l ho
  take y st A c l w hn hst hl ho hT := smTake_any y st A c l w hn hst hl ho hT
  settle y place t w hn hR hpl ho := smSettle_any y place t w hn hR hpl ho
  from_ y place most w hn _ hpl ho := smFrom_any y place most w hn hpl ho
  lowest y w hn ho := smLowest_any y w ho (by have := hn.l; omega)
  print y w hn ho hw := smPrint_any y w hn ho (fun e he => ⟨(hw e he).1, by have := (hw e he).2; omega⟩)
theorem streamBoth : StreamBoth where
  calls := streamCalls
  read w b p s bad hs hp hr := smRead_uni w b p s bad hs hp hr
end Go.Proofs.Ytbfebcifmneliaa
