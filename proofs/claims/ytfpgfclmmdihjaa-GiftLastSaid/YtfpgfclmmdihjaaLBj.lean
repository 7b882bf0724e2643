/- GiftLast is proved: gifts merged one by one leave one of each device, by rising devices, of its greatest life. No condition. -/
import Derived.Test.YtfpgfclmmdihjaaB10
namespace Go.Proofs.Ytfpgfclmmdihjaa
open Go.ChangeShapes Go.WideShapes Go.ChangeAt Go.RowKit Go.Deep Nam Cod

theorem newG_inc {a b : Gf} (h : newG a b = true) : b.i ≤ a.i := by
  unfold newG at h
  simp only [Bool.or_eq_true, Bool.and_eq_true, decide_eq_true_iff] at h
  rcases h with h | ⟨h, _⟩ <;> omega
theorem newG_not {a b : Gf} (h : newG a b = false) : a.i ≤ b.i := by
  unfold newG at h
  simp only [Bool.or_eq_false_iff, decide_eq_false_iff_not] at h
  omega
/-- What stands in a merged list. -/
theorem mergeG_max : ∀ (l : List Gf) (r y : Gf), RisG l → y ∈ mergeG l r → (y.d ≠ r.d ∧ y ∈ l) ∨ (y.d = r.d ∧ ((y = r ∧ ∀ z ∈ l, z.d = r.d → z.i ≤ r.i) ∨ (y ∈ l ∧ r.i ≤ y.i)))
  | [], r, y, _, h => by
    have h : y ∈ [r] := h
    rw [List.mem_singleton] at h
    exact Or.inr ⟨by rw [h], Or.inl ⟨h, fun z hz => by cases hz⟩⟩
  | x :: l, r, y, hr, h => by
    unfold mergeG at h
    split at h
    · rename_i hx
      rcases List.mem_cons.1 h with h | h
      · subst h
        exact Or.inl ⟨by omega, List.mem_cons.2 (Or.inl rfl)⟩
      · rcases mergeG_max l r y hr.2 h with ⟨h1, h2⟩ | ⟨h1, ⟨h2, h3⟩ | ⟨h2, h3⟩⟩
        · exact Or.inl ⟨h1, List.mem_cons.2 (Or.inr h2)⟩
        · refine Or.inr ⟨h1, Or.inl ⟨h2, fun z hz hd => ?_⟩⟩
          rcases List.mem_cons.1 hz with rfl | hz
          · omega
          · exact h3 z hz hd
        · exact Or.inr ⟨h1, Or.inr ⟨List.mem_cons.2 (Or.inr h2), h3⟩⟩
    · split at h
      · rename_i he
        split at h
        · rename_i hn
          rcases List.mem_cons.1 h with h | h
          · subst h
            refine Or.inr ⟨rfl, Or.inl ⟨rfl, fun z hz hd => ?_⟩⟩
            rcases List.mem_cons.1 hz with rfl | hz
            · exact newG_inc hn
            · have := hr.1 z hz; omega
          · exact Or.inl ⟨by have := hr.1 y h; omega, List.mem_cons.2 (Or.inr h)⟩
        · rename_i hn
          rcases List.mem_cons.1 h with h | h
          · subst h
            exact Or.inr ⟨he, Or.inr ⟨List.mem_cons.2 (Or.inl rfl), newG_not (by rw [Bool.eq_false_iff]; exact hn)⟩⟩
          · exact Or.inl ⟨by have := hr.1 y h; omega, List.mem_cons.2 (Or.inr h)⟩
      · rename_i h1 h2
        have hgt : ∀ z ∈ x :: l, r.d < z.d := fun z hz => by
          rcases List.mem_cons.1 hz with rfl | hz
          · omega
          · have := hr.1 z hz; omega
        rcases List.mem_cons.1 h with h | h
        · subst h
          exact Or.inr ⟨rfl, Or.inl ⟨rfl, fun z hz hd => by have := hgt z hz; omega⟩⟩
        · exact Or.inl ⟨by have := hgt y h; omega, h⟩
theorem mergeG_cov : ∀ (l : List Gf) (r x : Gf), (x = r ∨ x ∈ l) → ∃ y ∈ mergeG l r, y.d = x.d
  | [], r, x, h => by
    rcases h with rfl | h
    · exact ⟨x, List.mem_singleton.2 rfl, rfl⟩
    · cases h
  | z :: l, r, x, h => by
    unfold mergeG
    split
    · rcases h with h | h
      · obtain ⟨y, hy, h1⟩ := mergeG_cov l r x (Or.inl h)
        exact ⟨y, List.mem_cons.2 (Or.inr hy), h1⟩
      · rcases List.mem_cons.1 h with rfl | h
        · exact ⟨x, List.mem_cons.2 (Or.inl rfl), rfl⟩
        · obtain ⟨y, hy, h1⟩ := mergeG_cov l r x (Or.inr h)
          exact ⟨y, List.mem_cons.2 (Or.inr hy), h1⟩
    · split
      · rename_i he
        split
        · rcases h with rfl | h
          · exact ⟨x, List.mem_cons.2 (Or.inl rfl), rfl⟩
          · rcases List.mem_cons.1 h with rfl | h
            · exact ⟨r, List.mem_cons.2 (Or.inl rfl), he.symm⟩
            · exact ⟨x, List.mem_cons.2 (Or.inr h), rfl⟩
        · rcases h with rfl | h
          · exact ⟨z, List.mem_cons.2 (Or.inl rfl), he⟩
          · exact ⟨x, h, rfl⟩
      · rcases h with rfl | h
        · exact ⟨x, List.mem_cons.2 (Or.inl rfl), rfl⟩
        · exact ⟨x, List.mem_cons.2 (Or.inr h), rfl⟩
structure LastG (l a : List Gf) : Prop where
  ris : RisG a
  cov : ∀ z ∈ l, ∃ y ∈ a, y.d = z.d
  has : ∀ y ∈ a, ∃ z ∈ l, z.d = y.d ∧ z.i = y.i
  top : ∀ y ∈ a, ∀ z ∈ l, z.d = y.d → z.i ≤ y.i
theorem LastG.next {l a : List Gf} (h : LastG l a) (r : Gf) : LastG (l ++ [r]) (mergeG a r) where
  ris := mergeG_ris _ _ h.ris
  cov z hz := by
    rw [List.mem_append, List.mem_singleton] at hz
    rcases hz with hz | rfl
    · obtain ⟨y, hy, e⟩ := h.cov z hz
      obtain ⟨y2, hy2, e2⟩ := mergeG_cov a r y (Or.inr hy)
      exact ⟨y2, hy2, e2.trans e⟩
    · exact mergeG_cov a z z (Or.inl rfl)
  has y hy := by
    rcases mergeG_max a r y h.ris hy with ⟨h1, h2⟩ | ⟨h1, ⟨h2, h3⟩ | ⟨h2, h3⟩⟩
    · obtain ⟨z, hz, e⟩ := h.has y h2
      exact ⟨z, List.mem_append.2 (Or.inl hz), e⟩
    · exact ⟨r, List.mem_append.2 (Or.inr (List.mem_singleton.2 rfl)), h1.symm, by rw [h2]⟩
    · obtain ⟨z, hz, e⟩ := h.has y h2
      exact ⟨z, List.mem_append.2 (Or.inl hz), e⟩
  top y hy z hz hd := by
    rw [List.mem_append, List.mem_singleton] at hz
    rcases mergeG_max a r y h.ris hy with ⟨h1, h2⟩ | ⟨h1, ⟨h2, h3⟩ | ⟨h2, h3⟩⟩
    · rcases hz with hz | rfl
      · exact h.top y h2 z hz hd
      · exact absurd hd.symm h1
    · subst h2
      rcases hz with hz | rfl
      · obtain ⟨y2, hy2, e⟩ := h.cov z hz
        have := h.top y2 hy2 z hz e.symm
        have := h3 y2 hy2 (e.trans hd)
        omega
      · exact Int.le_refl _
    · rcases hz with hz | rfl
      · exact h.top y h2 z hz hd
      · exact h3
theorem foldG_last (l : List Gf) : ∀ k, k ≤ l.length → LastG (l.take k) (foldG (l.take k))
  | 0, _ => by
    rw [List.take_zero]
    exact ⟨trivial, (fun z h => by cases h), (fun y h => by cases h), (fun y h => by cases h)⟩
  | k + 1, h => by
    have ih := (foldG_last l k (by omega)).next l[k]
    rw [foldG_next l k (by omega), List.take_succ_eq_append_getElem (by omega)]
    exact ih
theorem risG_get : ∀ {a : List Gf}, RisG a → ∀ i j (hi : i < j) (hj : j < a.length), (a[i]'(by omega)).d < a[j].d
  | [], _, i, j, _, hj => absurd hj (Nat.not_lt_zero _)
  | x :: a, h, i, j, hi, hj => by
    cases j with
    | zero => omega
    | succ j =>
      cases i with
      | zero => exact h.1 _ (List.getElem_mem _)
      | succ i => exact risG_get h.2 i j (by omega) (by simp only [List.length_cons] at hj; omega)
def topS (d t : Int) (z : Gf) : Int := if z.d = d then max t z.i else t
def topG (l : List Gf) (d : Int) : Int := l.foldl (topS d) 0
theorem topS_spec (d : Int) : ∀ (l : List Gf) (t : Int), t ≤ l.foldl (topS d) t ∧ (∀ z ∈ l, z.d = d → z.i ≤ l.foldl (topS d) t) ∧ (l.foldl (topS d) t = t ∨ ∃ z ∈ l, z.d = d ∧ z.i = l.foldl (topS d) t)
  | [], t => ⟨Int.le_refl _, (fun z h => by cases h), Or.inl rfl⟩
  | x :: l, t => by
    obtain ⟨h1, h2, h3⟩ := topS_spec d l (topS d t x)
    have e : (x :: l).foldl (topS d) t = l.foldl (topS d) (topS d t x) := rfl
    rw [e]
    have hs : t ≤ topS d t x ∧ (x.d = d → x.i ≤ topS d t x) ∧ (topS d t x = t ∨ x.d = d ∧ x.i = topS d t x) := by
      unfold topS
      split
      · rename_i hd
        rcases Int.le_total t x.i with h | h
        · rw [Int.max_eq_right h]; exact ⟨h, fun _ => Int.le_refl _, Or.inr ⟨hd, rfl⟩⟩
        · rw [Int.max_eq_left h]; exact ⟨Int.le_refl _, fun _ => h, Or.inl rfl⟩
      · rename_i hd
        exact ⟨Int.le_refl _, fun h => absurd h hd, Or.inl rfl⟩
    refine ⟨by omega, fun z hz hd => ?_, ?_⟩
    · rcases List.mem_cons.1 hz with rfl | hz
      · have := hs.2.1 hd; omega
      · exact h2 z hz hd
    · rcases h3 with h3 | ⟨z, hz, g1, g2⟩
      · rcases hs.2.2 with h4 | ⟨h4, h5⟩
        · exact Or.inl (h3.trans h4)
        · exact Or.inr ⟨x, List.mem_cons.2 (Or.inl rfl), h4, h5.trans h3.symm⟩
      · exact Or.inr ⟨z, List.mem_cons.2 (Or.inr hz), g1, g2⟩
theorem top_last {l a : List Gf} (h : LastG l a) {y : Gf} (hy : y ∈ a) : topG l y.d = y.i ∨ topG l y.d = 0 := by
  obtain ⟨_, h2, h3⟩ := topS_spec y.d l 0
  rcases h3 with h3 | ⟨z, hz, g1, g2⟩
  · exact Or.inr h3
  · have e1 := h.top y hy z hz g1
    obtain ⟨z2, hz2, g3, g4⟩ := h.has y hy
    have e2 := h2 z2 hz2 g3
    refine Or.inl ?_
    show l.foldl (topS y.d) 0 = y.i
    omega
theorem last_len {l a : List Gf} (h : LastG l a) : 0 < a.length ↔ 0 < l.length := by
  constructor
  · intro h0
    obtain ⟨z, hz, _⟩ := h.has a[0] (List.getElem_mem _)
    exact List.length_pos_of_mem hz
  · intro h0
    obtain ⟨y, hy, _⟩ := h.cov l[0] (List.getElem_mem _)
    exact List.length_pos_of_mem hy
theorem topG_next (l : List Gf) (d : Int) (k : Nat) (h : k < l.length) : topG (l.take (k + 1)) d = topS d (topG (l.take k) d) l[k] := by
  unfold topG
  rw [List.take_succ_eq_append_getElem h, List.foldl_append]
  rfl

set_option maxRecDepth 100000 in
set_option maxHeartbeats 2000000 in
theorem last17_no (H : GiftCalls) (A : Option Addr) (c : Nat) (l : List Gf) (w : World) (h : 40 < l.length) : Calls Try.prog 6 #[.slice A l.length c] w fun r w' => r = .returned (.bool true) ∧ Below w.heap.size w w' := by
  have f1 : decide ((40 : Int) < (l.length : Int)) = true := decide_eq_true (by omega)
  have f2 : decide (40 < l.length) = true := decide_eq_true h
  go_enter Try.func6, Try.ntmps6
  go_wp2_with fail
  refine (awake17_any H _).mono ?_
  rintro r w1 ⟨rfl, hb1⟩
  go_wp2_with fail
  go_ret
  exact ⟨rfl, hb1⟩
set_option maxRecDepth 100000 in
set_option maxHeartbeats 8000000 in
theorem last17_yes (H : GiftCalls) (A : Option Addr) (c : Nat) (l : List Gf) (w : World) (hT : gfE.Sl w A l) (h : l.length ≤ 40) : Calls Try.prog 6 #[.slice A l.length c] w fun r w' => r = .returned (.bool true) ∧ Below w.heap.size w w' := by
  have HA := Lib.hid (fun (wx : World) => awake17_any H wx)
  have HH := Lib.hid H
  have HT := Lib.hid hT
  have f1 : decide ((40 : Int) < (l.length : Int)) = false := decide_eq_false (by omega)
  have f2 : decide (40 < l.length) = false := decide_eq_false (by omega)
  clear H hT
  go_enter Try.func6, Try.ntmps6
  go_wp2_with fail
  clear f1 f2
  have h0 : SlV gfE w none 0 (foldG (l.take 0)) := by rw [List.take_zero]; exact SlV.nil gfE _
  have hB0 := Below.refl w.heap.size w
  go_loopw [3, 4] (fun x z wr => ∃ (k : Nat) (A1 : Option Addr) (c1 : Nat), k ≤ l.length ∧ x = .slice A1 (foldG (l.take k)).length c1 ∧ z = .int .i64 k ∧ SlV gfE wr A1 c1 (foldG (l.take k)) ∧ Below w.heap.size w wr) (fun _ z _ => l.length - (intOf z).toNat)
  case atStart => exact ⟨0, none, 0, Nat.zero_le _, by rw [List.take_zero]; rfl, rfl, h0, hB0⟩
  case round =>
    clear h0 hB0
    obtain ⟨k, A1, c1, hk, rfl, rfl, hS1, hN⟩ := hrel
    by_cases hkl : k < l.length
    · obtain ⟨b, off, eA, hbw, hc⟩ := HT.out (by omega)
      have hx := gfIdxH (cap := c) eA hkl
      have hat : gfE.At wr b (off + k * 5) l[k] := (hc k hkl).below hN hbw
      have hnx := foldG_next l k hkl
      have hln := foldG_len l k
      clear hc eA
      generalize l[k] = x at *
      generalize foldG (l.take k) = L at *
      have HM := Lib.hid (HH.out.merge A1 c1 L x wr (by omega) hS1)
      have HNX := Lib.hid hnx
      clear hnx hln hS1
      go_wp2_with (first | (refine El.load gfRow rfl _ rfl b (off + k * 5) rfl x hat #[.int .i64 x.d, .int .i64 x.i, .int .i64 x.c, .int .i64 x.t, .string x.s] rfl ?_) | fail)
      refine HM.out.mono ?_
      rintro e w5 ⟨A3, c3, rfl, hS3, hb5⟩
      clear HM hat hx
      go_wp2_with fail
      exact ⟨⟨k + 1, A3, c3, by omega, by rw [HNX.out], by go_num, by rw [HNX.out]; exact hS3, below_then hN hb5⟩, by simp [intOf]; omega⟩
    · obtain rfl : k = l.length := by omega
      have HL := Lib.hid (foldG_last l l.length (Nat.le_refl _))
      have hln := foldG_len l l.length
      rw [List.take_length] at HL hS1 hln
      rw [List.take_length]
      generalize foldG l = a at *
      have HS1 := Lib.hid hS1
      have HUP := Lib.hid (fun (wz : World) (hb : Below wr.heap.size wr wz) => hN.trans (hb.mono hN.size))
      have hN0 := Below.refl wr.heap.size wr
      clear hS1 hN
      generalize wr = W1 at *
      go_wp2_with fail
      go_loopw [5] (fun z wr => ∃ k : Nat, k ≤ a.length ∧ z = .int .i64 k ∧ Below W1.heap.size W1 wr) (fun z _ => a.length - (intOf z).toNat)
      case atStart => exact ⟨0, Nat.zero_le _, rfl, hN0⟩
      case round =>
        clear hN0
        obtain ⟨k, hk, rfl, hN⟩ := hrel
        by_cases hka : k < a.length
        · obtain ⟨b2, o2, eB, hbw2, hc2⟩ := HS1.out.1 (by omega)
          have hxa := gfIdxH (cap := c1) eB hka
          have HAY := Lib.hid (fun (wz : World) (hb : Below W1.heap.size W1 wz) => (show gfE.At wz b2 (o2 + k * 5) a[k] from (hc2 k hka).below hb hbw2))
          have HTOP := Lib.hid (top_last HL.out (List.getElem_mem hka))
          by_cases hk0 : k = 0
          · have e1 : decide ((0 : Int) < (k : Int)) = false := decide_eq_false (by omega)
            have e2 : decide (0 < k) = false := decide_eq_false (by omega)
            generalize a[k] = y at *
            clear hk0 eB hc2
            go_upto_region 11 with fail
            go_quiet (fail)
            replace hN := below_drew hN nq
            clear e1 e2
            generalize wr.drewN nq = V2 at *
            go_wp2_with fail
            go_loopw [6, 7] (fun t z wq => ∃ j : Nat, j ≤ l.length ∧ z = .int .i64 j ∧ t = .int .i64 (topG (l.take j) y.d) ∧ Below W1.heap.size W1 wq) (fun _ z _ => l.length - (intOf z).toNat)
            case atStart => exact ⟨0, Nat.zero_le _, rfl, by rw [List.take_zero]; rfl, hN⟩
            case round =>
              clear hN
              obtain ⟨j, hj, rfl, rfl, hN⟩ := hrel
              by_cases hjl : j < l.length
              · obtain ⟨b, off, eL, hbw, hc⟩ := HT.out (by omega)
                have hx := gfIdxH (cap := c) eL hjl
                have hat : gfE.At wr b (off + j * 5) l[j] := (hc j hjl).below (HUP.out _ hN) hbw
                have hyt : gfE.At wr b2 (o2 + k * 5) y := HAY.out wr hN
                have HNX := Lib.hid (topG_next l y.d j hjl)
                have HY := Lib.hid (fun (wz : World) (hb : Below W1.heap.size W1 wz) => (show gfE.At wz b (off + j * 5) l[j] from (hc j hjl).below (HUP.out _ hb) hbw))
                generalize l[j] = x at *
                generalize topG (l.take j) y.d = t at *
                obtain ⟨s0, s1, _, _, _⟩ := gfAt5 hat
                obtain ⟨q0, _, _, _, _⟩ := gfAt5 hyt
                clear hc eL hat hyt
                by_cases hd : x.d = y.d
                · have e1 : (x.d == y.d) = true := beq_iff_eq.2 hd
                  have hv : topS y.d t x = max t x.i := by unfold topS; rw [if_pos hd]
                  have HD := Lib.hid hd
                  clear hd
                  go_upto_region 17 with fail
                  go_quiet (fail)
                  have hN1 := below_drew hN nq
                  obtain ⟨_, s1', _, _, _⟩ := gfAt5 (HY.out _ hN1)
                  clear s0 s1 q0
                  generalize wr.drewN nq = V at *
                  rcases Int.le_total t x.i with h | h
                  · have hm : max t x.i = x.i := Int.max_eq_right h
                    have HV := Lib.hid (hv.trans hm)
                    clear hv h
                    go_wp2_with fail
                    exact ⟨⟨j + 1, by omega, by go_num, by rw [HNX.out, HV.out], hN1⟩, by simp [intOf]; omega⟩
                  · have hm : max t x.i = t := Int.max_eq_left h
                    have HV := Lib.hid (hv.trans hm)
                    clear hv h
                    go_wp2_with fail
                    exact ⟨⟨j + 1, by omega, by go_num, by rw [HNX.out, HV.out], hN1⟩, by simp [intOf]; omega⟩
                · have e1 : (x.d == y.d) = false := beq_eq_false_iff_ne.2 hd
                  have HV := Lib.hid (show topS y.d t x = t by unfold topS; rw [if_neg hd])
                  clear hd
                  go_upto_region 17 with fail
                  go_quiet (fail)
                  have hN1 := below_drew hN nq
                  clear s0 s1 q0
                  generalize wr.drewN nq = V at *
                  go_wp2_with fail
                  exact ⟨⟨j + 1, by omega, by go_num, by rw [HNX.out, HV.out], hN1⟩, by simp [intOf]; omega⟩
              · obtain rfl : j = l.length := by omega
                rw [List.take_length]
                have hyt : gfE.At wr b2 (o2 + k * 5) y := HAY.out wr hN
                obtain ⟨_, q1, _, _, _⟩ := gfAt5 hyt
                clear hyt
                generalize topG l y.d = t at *
                rcases HTOP.out with h | h
                · have e1 : (y.i == t) = true := beq_iff_eq.2 h.symm
                  have e2 : (y.i != t) = false := by simp [h]
                  have e3 : decide (y.i = t) = true := decide_eq_true h.symm
                  have e4 : decide (¬ y.i = t) = false := by simp [h]
                  clear h
                  go_wp2_with fail
                  exact ⟨⟨k + 1, by omega, by go_num, hN⟩, by simp [intOf]; omega⟩
                · have e5 : decide (0 < t) = false := decide_eq_false (by omega)
                  have HT0 := Lib.hid h
                  clear h
                  by_cases h2 : y.i = t
                  · have e1 : (y.i == t) = true := beq_iff_eq.2 h2
                    have e2 : (y.i != t) = false := by simp [h2]
                    have e3 : decide (y.i = t) = true := decide_eq_true h2
                    have e4 : decide (¬ y.i = t) = false := by simp [h2]
                    clear h2
                    go_wp2_with fail
                    exact ⟨⟨k + 1, by omega, by go_num, hN⟩, by simp [intOf]; omega⟩
                  · have e1 : (y.i == t) = false := beq_eq_false_iff_ne.2 h2
                    have e2 : (y.i != t) = true := by simp [h2]
                    have e3 : decide (y.i = t) = false := decide_eq_false h2
                    have e4 : decide (¬ y.i = t) = true := by simp [h2]
                    clear h2
                    go_wp2_with fail
                    exact ⟨⟨k + 1, by omega, by go_num, hN⟩, by simp [intOf]; omega⟩
          · have e1 : decide ((0 : Int) < (k : Int)) = true := decide_eq_true (by omega)
            have e2 : decide (0 < k) = true := decide_eq_true (by omega)
            have e3 : IntKind.i64.wrap ((k : Int) - 1) = ((k - 1 : Nat) : Int) := by rw [IntKind.wrap_i64]; omega
            have hxp := gfIdxH (cap := c1) (k := k - 1) (len := a.length) eB (by omega)
            have hlt := risG_get HL.out.ris (k - 1) k (by omega) hka
            have hap : gfE.At wr b2 (o2 + (k - 1) * 5) (a[k - 1]'(by omega)) := (hc2 (k - 1) (by omega)).below hN hbw2
            have hay := HAY.out _ hN
            generalize a[k] = y at *
            generalize a[k - 1]'(by omega) = yp at *
            have e4 : decide (y.d ≤ yp.d) = false := decide_eq_false (by omega)
            obtain ⟨s0, _, _, _, _⟩ := gfAt5 hap
            obtain ⟨q0, _, _, _, _⟩ := gfAt5 hay
            clear hk0 eB hc2 hlt hap hay
            go_upto_region 11 with fail
            go_quiet (fail)
            replace hN := below_drew hN nq
            clear e1 e2 e3 e4 s0 q0 hxp
            generalize wr.drewN nq = V2 at *
            go_wp2_with fail
            go_loopw [6, 7] (fun t z wq => ∃ j : Nat, j ≤ l.length ∧ z = .int .i64 j ∧ t = .int .i64 (topG (l.take j) y.d) ∧ Below W1.heap.size W1 wq) (fun _ z _ => l.length - (intOf z).toNat)
            case atStart => exact ⟨0, Nat.zero_le _, rfl, by rw [List.take_zero]; rfl, hN⟩
            case round =>
              clear hN
              obtain ⟨j, hj, rfl, rfl, hN⟩ := hrel
              by_cases hjl : j < l.length
              · obtain ⟨b, off, eL, hbw, hc⟩ := HT.out (by omega)
                have hx := gfIdxH (cap := c) eL hjl
                have hat : gfE.At wr b (off + j * 5) l[j] := (hc j hjl).below (HUP.out _ hN) hbw
                have hyt : gfE.At wr b2 (o2 + k * 5) y := HAY.out wr hN
                have HNX := Lib.hid (topG_next l y.d j hjl)
                have HY := Lib.hid (fun (wz : World) (hb : Below W1.heap.size W1 wz) => (show gfE.At wz b (off + j * 5) l[j] from (hc j hjl).below (HUP.out _ hb) hbw))
                generalize l[j] = x at *
                generalize topG (l.take j) y.d = t at *
                obtain ⟨s0, s1, _, _, _⟩ := gfAt5 hat
                obtain ⟨q0, _, _, _, _⟩ := gfAt5 hyt
                clear hc eL hat hyt
                by_cases hd : x.d = y.d
                · have e1 : (x.d == y.d) = true := beq_iff_eq.2 hd
                  have hv : topS y.d t x = max t x.i := by unfold topS; rw [if_pos hd]
                  have HD := Lib.hid hd
                  clear hd
                  go_upto_region 17 with fail
                  go_quiet (fail)
                  have hN1 := below_drew hN nq
                  obtain ⟨_, s1', _, _, _⟩ := gfAt5 (HY.out _ hN1)
                  clear s0 s1 q0
                  generalize wr.drewN nq = V at *
                  rcases Int.le_total t x.i with h | h
                  · have hm : max t x.i = x.i := Int.max_eq_right h
                    have HV := Lib.hid (hv.trans hm)
                    clear hv h
                    go_wp2_with fail
                    exact ⟨⟨j + 1, by omega, by go_num, by rw [HNX.out, HV.out], hN1⟩, by simp [intOf]; omega⟩
                  · have hm : max t x.i = t := Int.max_eq_left h
                    have HV := Lib.hid (hv.trans hm)
                    clear hv h
                    go_wp2_with fail
                    exact ⟨⟨j + 1, by omega, by go_num, by rw [HNX.out, HV.out], hN1⟩, by simp [intOf]; omega⟩
                · have e1 : (x.d == y.d) = false := beq_eq_false_iff_ne.2 hd
                  have HV := Lib.hid (show topS y.d t x = t by unfold topS; rw [if_neg hd])
                  clear hd
                  go_upto_region 17 with fail
                  go_quiet (fail)
                  have hN1 := below_drew hN nq
                  clear s0 s1 q0
                  generalize wr.drewN nq = V at *
                  go_wp2_with fail
                  exact ⟨⟨j + 1, by omega, by go_num, by rw [HNX.out, HV.out], hN1⟩, by simp [intOf]; omega⟩
              · obtain rfl : j = l.length := by omega
                rw [List.take_length]
                have hyt : gfE.At wr b2 (o2 + k * 5) y := HAY.out wr hN
                obtain ⟨_, q1, _, _, _⟩ := gfAt5 hyt
                clear hyt
                generalize topG l y.d = t at *
                rcases HTOP.out with h | h
                · have e1 : (y.i == t) = true := beq_iff_eq.2 h.symm
                  have e2 : (y.i != t) = false := by simp [h]
                  have e3 : decide (y.i = t) = true := decide_eq_true h.symm
                  have e4 : decide (¬ y.i = t) = false := by simp [h]
                  clear h
                  go_wp2_with fail
                  exact ⟨⟨k + 1, by omega, by go_num, hN⟩, by simp [intOf]; omega⟩
                · have e5 : decide (0 < t) = false := decide_eq_false (by omega)
                  have HT0 := Lib.hid h
                  clear h
                  by_cases h2 : y.i = t
                  · have e1 : (y.i == t) = true := beq_iff_eq.2 h2
                    have e2 : (y.i != t) = false := by simp [h2]
                    have e3 : decide (y.i = t) = true := decide_eq_true h2
                    have e4 : decide (¬ y.i = t) = false := by simp [h2]
                    clear h2
                    go_wp2_with fail
                    exact ⟨⟨k + 1, by omega, by go_num, hN⟩, by simp [intOf]; omega⟩
                  · have e1 : (y.i == t) = false := beq_eq_false_iff_ne.2 h2
                    have e2 : (y.i != t) = true := by simp [h2]
                    have e3 : decide (y.i = t) = false := decide_eq_false h2
                    have e4 : decide (¬ y.i = t) = true := by simp [h2]
                    clear h2
                    go_wp2_with fail
                    exact ⟨⟨k + 1, by omega, by go_num, hN⟩, by simp [intOf]; omega⟩
        · obtain rfl : k = a.length := by omega
          have hl := last_len HL.out
          have hBw := HUP.out _ hN
          go_wp2_with fail
          refine (HA.out _).mono ?_
          rintro r w3 ⟨rfl, hb3⟩
          by_cases h0 : 0 < l.length
          · have e1 : decide ((0 : Int) < (l.length : Int)) = true := decide_eq_true (by omega)
            have e2 : decide ((0 : Int) < (a.length : Int)) = true := decide_eq_true (by have := hl.2 h0; omega)
            have e3 : decide (0 < l.length) = true := decide_eq_true h0
            have e4 : decide (0 < a.length) = true := decide_eq_true (hl.2 h0)
            clear hl h0
            go_wp2_with fail
            go_ret
            exact ⟨rfl, below_then hBw hb3⟩
          · have h1 : ¬ 0 < a.length := fun h => h0 (hl.1 h)
            have e1 : decide ((0 : Int) < (l.length : Int)) = false := decide_eq_false (by omega)
            have e2 : decide ((0 : Int) < (a.length : Int)) = false := decide_eq_false (by omega)
            have e3 : decide (0 < l.length) = false := decide_eq_false h0
            have e4 : decide (0 < a.length) = false := decide_eq_false h1
            clear hl h0 h1
            go_wp2_with fail
            go_ret
            exact ⟨rfl, below_then hBw hb3⟩
set_option maxRecDepth 100000 in
theorem last17_lifted (H0 : GiftCalls) (os : Os) (started : os.Started) (H : Type) (enc : TypeId × Value → H) :
    ReturnsInHanded {} Try.checked os 6 .any (Rows.giftLastSpec.pre6 enc Try.prog Try.f6 Rows.giftLastRow.domain false) (Rows.giftLastSpec.post enc Try.prog Try.f6 false true false false) := by
  refine returnsInHanded_of_change (C := Try.checked) own started (by kernel_rfl) Try.func6
    (ChangeSpec.witness6 (enc := enc) (C := Try.checked) false ⟨#[], #[.slice none 0 0], []⟩ 8 (by kernel_rfl) (by kernel_rfl) (by kernel_rfl) (by kernel_rfl)) ?_
  intro W base args ds gs before hval0 hW _ _
  have hval : ∀ (j : Nat) t v, Try.f6.params[j]? = some t → args[j]? = some v → Value.okWide Try.prog W .any base t v := hval0
  have hW' := hW
  obtain ⟨p, q, hA0, hV, rfl, _, _⟩ := hW
  have hA : DataW.TrodAll enc Try.prog W 0 (fun _ => true) true Try.f6.params.toList args.toList ds p := hA0
  rw [Try.params6] at hA hval
  obtain ⟨v0, d0, rfl, rfl, h0⟩ := trodAll_one hA
  obtain ⟨A, c, l, rfl, hS, _, _, _⟩ := open_gfs (hval 0 33 v0 rfl rfl) h0
  have hc : Calls Try.prog 6 #[.slice A l.length c] W fun e w' => e = .returned (.bool true) ∧ Below W.heap.size W w' := by
    by_cases h : l.length ≤ 40
    · exact last17_yes H0 A c l W hS h
    · exact last17_no H0 A c l W (by omega)
  refine hc.mono fun e W' ⟨he, hb⟩ => ?_
  subst he
  exact ⟨_, rfl, Frm.law_post (by kernel_rfl) (by kernel_rfl) (by kernel_rfl) Try.underlying4 rfl rfl hW' hb⟩

theorem last17_holds (H0 : GiftCalls) : Rows.GiftLastSaid :=
  OpenClaim.holds_of_wide 6 Try.f6 rfl rfl rfl rfl rfl rfl rfl ⟨rfl, rfl, rfl, rfl, rfl⟩ rfl rfl rfl rfl rfl (by kernel_rfl) Try.func6 (by kernel_rfl)
    (of_decide_eq_true (by kernel_rfl)) (by unfold Func.isWrapper; first | (rw [if_pos (by decide +kernel)]; kernel_rfl) | (rw [if_neg (by decide +kernel)]; exact ⟨rfl, rfl⟩))
    (fun os started H enc _ => last17_lifted H0 os started H enc)
end Go.Proofs.Ytfpgfclmmdihjaa

namespace Go.Proofs.Ytfpgfclmmdihjaa
theorem giftLast_all : Rows.GiftLastSaid := last17_holds giftCalls
end Go.Proofs.Ytfpgfclmmdihjaa
