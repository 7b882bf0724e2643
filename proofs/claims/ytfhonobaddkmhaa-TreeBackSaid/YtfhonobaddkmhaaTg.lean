/- What Print gives, of the program and of the document. -/
import Derived.Test.YtfhonobaddkmhaaTd
import Derived.Test.YtfhonobaddkmhaaTf
import Derived.Deep.RegionHeld3
namespace Go.Proofs.Ytfhonobaddkmhaa
open Go.RowKit Tre Nam Cod

theorem strCells_app (a b : ByteArray) : Lib.strCells (a ++ b) = Lib.strCells a ++ Lib.strCells b := by
  unfold Lib.strCells; rw [← List.map_append]; congr 1
theorem back_L (x : ByteArray) : (⟨(L x).toArray⟩ : ByteArray) = x := by cases x; simp [L]
theorem headOf (l : List Pl) (n : Nat) (h : l.length ≤ 1000) : (bytesOf l.length).size ≤ 10 := bytesOf_le _ (by omega) (by omega)
theorem catL_take (l : List Pl) (k : Nat) (h : k < l.length) : catL (l.take (k + 1)) = catL (l.take k) ++ plBytes l[k] := by
  rw [List.take_succ_eq_append_getElem h, catL_snoc]
theorem take_le {l : List Pl} (hf : ∀ p ∈ l, Fit p) (k : Nat) : (catL (l.take k)).size ≤ 46 * l.length := by
  have h := catL_le (l.take k) (fun p hp => hf p (List.mem_of_mem_take hp))
  have : (l.take k).length ≤ l.length := by rw [List.length_take]; omega
  omega
theorem builder_new (w : World) : Lib.IsBuilder 55 5 w.heap.size w.heap.size [] (w.alloc (.cells #[.pointer none, .slice none 0 0] 55)) :=
  Or.inl ⟨Nat.le_refl _, _, heap_alloc_new w _, World.ownsRow_nil _ _ _ _, by simp [Value.ownBlock]⟩
theorem builder_below {B b : Nat} {bs : List Value} {w w' : World} (h : Lib.IsBuilder 55 5 B b bs w) (hb : Below w.heap.size w w') : Lib.IsBuilder 55 5 B b bs w' := by
  have key : ∀ p, Lib.BuilderAt 55 5 B b p bs w → Lib.BuilderAt 55 5 B b p bs w' := fun p h => by
    have hlt := h.lt
    obtain ⟨hB, v, hbk, hown, hne⟩ := h
    refine ⟨hB, v, (hb.block b hlt).trans hbk, hown.kept (row := none) ⟨hb.os, hb.tape, hb.output, hb.size, fun k hk _ => hb.block k hk⟩ ?_, hne⟩
    cases hv : v.ownBlock <;> simp
  rcases h with h | h
  · exact Or.inl (key _ h)
  · exact Or.inr (key _ h)
theorem PlIn.rest {w w' : World} {b k : Nat} {p : Pl} (h : PlIn w k p) (hr : Rest b w w') (hne : k ≠ b) : PlIn w' k p := (hr k _ _ _ h hne (by decide)).trans h

set_option maxRecDepth 100000 in
set_option maxHeartbeats 4000000 in
theorem print_any (A : Option Addr) (cap : Nat) (l : List Pl) (w : World) (hl : l.length ≤ 1000) (hf : ∀ p ∈ l, Fit p) (hT : Tr w A l) :
    Calls Try.prog 22 #[.slice A l.length cap] w fun e w' => e = .returned (.string (treeBytes l)) ∧ Below w.heap.size w w' := by
  have cn := fun w => num_any (l.length : Int) w (by omega) (by omega)
  have hh := headOf l 0 hl
  have hT0 : treeBytes l = bytesOf l.length ++ catL l := rfl
  have HT0 := Lib.hid hT0
  generalize bytesOf (l.length : Int) = H at *
  have CN := Lib.hid cn
  clear hT0 cn
  go_enter Try.func22, Try.ntmps22
  go_wp2_with fail
  have hb0 := builder_new w
  have hB0 := below_alloc (Below.refl w.heap.size w) (.cells #[.pointer none, .slice none 0 0] 55)
  have hlt0 : w.heap.size < (w.alloc (.cells #[.pointer none, .slice none 0 0] 55)).heap.size := by simp
  generalize w.alloc (.cells #[.pointer none, .slice none 0 0] 55) = W0 at *
  refine (CN.out _).mono ?_
  rintro e w1 ⟨rfl, hb1⟩
  have hbd := builder_below hb0 hb1
  have hB1 := below_then hB0 hb1
  have hlt1 := Nat.lt_of_lt_of_le hlt0 hb1.size
  clear hb0 hB0 hb1 hlt0
  go_wp2_with fail
  refine (wstr_any _ _ _ H _ hbd (by simp; omega) (Nat.le_of_lt hlt1)).mono ?_
  rintro e w2 ⟨rfl, hbd2, hB2', hr2⟩
  have hB2 := hB1.trans hB2'
  have hlt2 : w.heap.size < w2.heap.size := by rcases hbd2 with h | h <;> exact h.lt
  clear hbd hB1 hlt1 CN hB2' hr2
  have e0 : [] ++ Lib.strCells H = Lib.strCells (H ++ catL (l.take 0)) := by simp [catL]; rw [bempty]
  rw [e0] at hbd2
  clear e0
  go_wp2
  go_loopw [12] (fun x wr => ∃ k : Nat, k ≤ l.length ∧ x = .int .i64 k ∧ Lib.IsBuilder 55 5 w.heap.size w.heap.size (Lib.strCells (H ++ catL (l.take k))) wr ∧ Below w.heap.size w wr ∧ w.heap.size < wr.heap.size) (fun x _ => l.length - (intOf x).toNat)
  case atStart => exact ⟨0, Nat.zero_le _, rfl, hbd2, hB2, hlt2⟩
  case round =>
    clear hbd2 hB2 hlt2
    obtain ⟨k, hk, rfl, hbd, hnx, hsz⟩ := hrel
    have htl := take_le hf k
    by_cases hlt : k < l.length
    · obtain ⟨bb, off, hAe, hbw, hc⟩ := hT (by omega)
      have hbr := Nat.lt_of_lt_of_le hbw hnx.size
      have hat := (hc k hlt).below hnx hbw
      have hft := hf _ (List.getElem_mem hlt)
      have hcat := catL_take l k hlt
      obtain ⟨p, hp⟩ : ∃ p, l[k] = p := ⟨_, rfl⟩
      rw [hp] at hat hft hcat
      obtain ⟨q0, q1, q2⟩ := hat
      have hcat2 : H ++ catL (l.take (k + 1)) = (H ++ catL (l.take k)) ++ (bytesOf p.n ++ bytesOf p.u ++ textOf p.s) := by rw [hcat, ByteArray.append_assoc]; rfl
      have z := plBytes_le hft
      unfold plBytes at z
      have n1 := fun w => num_any p.n w hft.n1 hft.n2
      have n2 := fun w => num_any p.u w hft.u1 hft.u2
      have n3 := fun w => text_any p.s w (by have := hft.s; omega)
      have hXs : (H ++ catL (l.take k)).size = H.size + (catL (l.take k)).size := ByteArray.size_append
      generalize catL (l.take k) = T at *
      generalize H ++ T = X at *
      generalize bytesOf p.n = x1 at *
      generalize bytesOf p.u = x2 at *
      generalize textOf p.s = x3 at *
      simp only [ByteArray.size_append] at z
      have y1 : ¬ 9223372036854775807 < x1.size + x2.size := by omega
      have y2 : ¬ 9223372036854775807 < x1.size + x2.size + x3.size := by omega
      have HC := Lib.hid hcat2
      have N1 := Lib.hid n1
      have N2 := Lib.hid n2
      have N3 := Lib.hid n3
      have HF := Lib.hid hf
      clear hcat hcat2 n1 n2 n3 hc hf hp hft
      subst hAe
      go_wp2
      have hO := PlIn.new wr p
      have hbd := builder_below hbd (below_alloc (Below.refl _ wr) (.cells #[.int .i64 p.n, .int .i64 p.u, .string p.s] 24))
      have hnx := below_alloc hnx (.cells #[.int .i64 p.n, .int .i64 p.u, .string p.s] 24)
      have hsz1 : w.heap.size < (wr.alloc (.cells #[.int .i64 p.n, .int .i64 p.u, .string p.s] 24)).heap.size := by simp; omega
      have hpb : wr.heap.size ≠ w.heap.size := by omega
      generalize wr.alloc (.cells #[.int .i64 p.n, .int .i64 p.u, .string p.s] 24) = W at *
      generalize wr.heap.size = pb at *
      have hO : PlIn W.drew pb p := hO
      have hbd : Lib.IsBuilder 55 5 w.heap.size w.heap.size (Lib.strCells X) W.drew := hbd
      have hN : Below w.heap.size w W.drew := hnx.drew
      have hL : w.heap.size < W.drew.heap.size := hsz1
      clear hnx hsz1 q0 q1 q2 hsz
      go_region_held3 (fun w' => w'.cell? ⟨pb, 0, none⟩ = some (.int .i64 p.n) ∧ w'.cell? ⟨pb, 1, none⟩ = some (.int .i64 p.u) ∧ w'.cell? ⟨pb, 2, none⟩ = some (.string p.s)) (first | exact hO.cells) (first | (go_at_call 35; (with_reducible refine (N1.out _).mono ?_); rintro e w3 ⟨rfl, hb3⟩; have hO := hO.below hb3; have hbd := builder_below hbd hb3; have hN := below_then hN hb3; have hL := Nat.lt_of_lt_of_le hL hb3.size) | (go_at_call 35; (with_reducible refine (N2.out _).mono ?_); rintro e w3 ⟨rfl, hb3⟩; have hO := hO.below hb3; have hbd := builder_below hbd hb3; have hN := below_then hN hb3; have hL := Nat.lt_of_lt_of_le hL hb3.size) | (go_at_call 36; (with_reducible refine (N3.out _).mono ?_); rintro e w3 ⟨rfl, hb3⟩; have hO := hO.below hb3; have hbd := builder_below hbd hb3; have hN := below_then hN hb3; have hL := Nat.lt_of_lt_of_le hL hb3.size) | (go_at_call 34; (with_reducible refine (wstr_any _ _ _ _ _ hbd (by simp [Lib.strCells_length, ByteArray.size_append]; omega) (Nat.le_of_lt hL)).mono ?_); rintro e w4 ⟨rfl, hbd4, hN4, hr4⟩; have hO := hO.rest hr4 hpb; have hN := hN.trans hN4))
      all_goals
        go_wp2
        go_roundw
        case rel => exact ⟨k + 1, by omega, by go_num, by rw [HC.out, strCells_app]; exact hbd4, hN, by have := hbd4; rcases this with h | h <;> exact h.lt⟩
        case measure => simp [intOf]; omega
    · obtain rfl : k = l.length := by omega
      have HB := Lib.hid hbd
      rw [List.take_length] at hbd
      have C := builder_String_any w.heap.size w.heap.size (L (H ++ catL l)) wr hbd (Nat.le_of_lt hsz)
      have he : (⟨(L (H ++ catL l)).toArray⟩ : ByteArray) = treeBytes l := by rw [HT0.out]; exact back_L _
      rw [he] at C
      have HC := Lib.hid C
      clear C he hbd HT0
      go_wp2_with (go_at_call 37; (with_reducible refine HC.out.mono ?_); rintro e w5 ⟨rfl, hb5⟩)
      go_ret
      exact ⟨rfl, hnx.trans hb5⟩

set_option maxHeartbeats 4000000 in
theorem refPrint_any (A : Option Addr) (cap : Nat) (l : List Pl) (w : World) (hl : l.length ≤ 1000) (hf : ∀ p ∈ l, Fit p) (hT : Tr w A l) :
    Calls Try.prog 23 #[.slice A l.length cap] w fun e w' => e = .returned (.string (treeBytes l)) ∧ Below w.heap.size w w' := by
  have cn := fun w => refNum_any (l.length : Int) w (by omega) (by omega)
  have hh := headOf l 0 hl
  have hT0 : treeBytes l = bytesOf l.length ++ catL l := rfl
  have HT0 := Lib.hid hT0
  generalize bytesOf (l.length : Int) = H at *
  have CN := Lib.hid cn
  clear hT0 cn
  go_enter Try.func23, Try.ntmps23
  go_wp2_with (go_at_call 38; (with_reducible refine (CN.out _).mono ?_); rintro e w1 ⟨rfl, hb1⟩)
  go_loopw [3, 4] (fun v x wr => ∃ k : Nat, k ≤ l.length ∧ x = .int .i64 k ∧ v = .string (H ++ catL (l.take k)) ∧ Below w.heap.size w wr) (fun _ x _ => l.length - (intOf x).toNat)
  case atStart => exact ⟨0, Nat.zero_le _, rfl, by simp [catL]; rw [bempty], hb1⟩
  case round =>
    obtain ⟨k, hk, rfl, rfl, hnx⟩ := hrel
    have htl := take_le hf k
    by_cases hlt : k < l.length
    · obtain ⟨bb, off, hAe, hbw, hc⟩ := hT (by omega)
      have hbr := Nat.lt_of_lt_of_le hbw hnx.size
      have hat := (hc k hlt).below hnx hbw
      have hft := hf _ (List.getElem_mem hlt)
      have hcat := catL_take l k hlt
      obtain ⟨p, hp⟩ : ∃ p, l[k] = p := ⟨_, rfl⟩
      rw [hp] at hat hft hcat
      obtain ⟨q0, q1, q2⟩ := hat
      have hcat2 : H ++ catL (l.take (k + 1)) = (H ++ catL (l.take k)) ++ bytesOf p.n ++ bytesOf p.u ++ textOf p.s := by rw [hcat]; unfold plBytes; simp only [ByteArray.append_assoc]
      have z := plBytes_le hft
      unfold plBytes at z
      have n1 := fun w => refNum_any p.n w hft.n1 hft.n2
      have n2 := fun w => refNum_any p.u w hft.u1 hft.u2
      have n3 := fun w => refText_any p.s w (by have := hft.s; omega)
      have hXs : (H ++ catL (l.take k)).size = H.size + (catL (l.take k)).size := ByteArray.size_append
      generalize catL (l.take k) = T at *
      generalize H ++ T = X at *
      generalize bytesOf p.n = x1 at *
      generalize bytesOf p.u = x2 at *
      generalize textOf p.s = x3 at *
      simp only [ByteArray.size_append] at z
      have HC := Lib.hid hcat2
      have k0 := cell_regrown q0
      have k1 := cell_regrown q1
      have k2 := cell_regrown q2
      have N1 := Lib.hid n1
      have N2 := Lib.hid n2
      have N3 := Lib.hid n3
      have HF := Lib.hid hf
      clear hcat hcat2 n1 n2 n3 hc hf hp hft q0 q1 q2
      subst hAe
      have y0 : X.size ≤ 47000 := by omega
      have y1 : x1.size ≤ 46 := by omega
      have y2 : x2.size ≤ 46 := by omega
      have y3 : x3.size ≤ 46 := by omega
      have d1 : ∀ d os, Calls Try.prog 38 #[.int .i64 p.n] (Sort.grow (redrawn wr d) os) fun e w'' => e = .returned (.string x1) ∧ ∃ p : Regrown, w'' = Sort.grow (redrawn wr p.d) p.os := fun d os => Calls.regrown_of (N1.out _)
      have d2 : ∀ d os, Calls Try.prog 38 #[.int .i64 p.u] (Sort.grow (redrawn wr d) os) fun e w'' => e = .returned (.string x2) ∧ ∃ p : Regrown, w'' = Sort.grow (redrawn wr p.d) p.os := fun d os => Calls.regrown_of (N2.out _)
      have d3 : ∀ d os, Calls Try.prog 39 #[.string p.s] (Sort.grow (redrawn wr d) os) fun e w'' => e = .returned (.string x3) ∧ ∃ p : Regrown, w'' = Sort.grow (redrawn wr p.d) p.os := fun d os => Calls.regrown_of (N3.out _)
      go_wp2
      refine wp_region_quiet_below (by kernel_rfl) (by kernel_rfl) ?_
      repeat (go_big_quiet_step ((with_reducible (first | exact d1 _ _ | exact d2 _ _ | exact d3 _ _))))
      refine wpQuiet_nil ?_
      intro _ hw'
      obtain ⟨⟨dq, osq⟩, hw''⟩ := hw'
      subst hw''
      go_wp2
      go_roundw
      case rel => exact ⟨k + 1, by omega, by go_num, by rw [HC.out], below_then hnx (below_regrown wr dq osq)⟩
      case measure => simp [intOf]; omega
    · obtain rfl : k = l.length := by omega
      rw [List.take_length]
      go_wp2
      go_ret
      exact ⟨by rw [HT0.out]; rfl, hnx⟩
end Go.Proofs.Ytfhonobaddkmhaa
