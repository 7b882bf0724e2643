/- ViewAll is proved: just the nodes below node 0 are shown, each once, behind the one that it is below; just those below the trash are in it; no node is in both. Conditions: the library's tables read, when the call begins, as the program's own text lays them (the card ties that; no table is read below). -/
import Derived.Test.YtdhcgflblbmogaaDoorB04
import Derived.Maps.OwnOps
import Derived.Maps.Views
namespace Go.Proofs.YtdhcgflblbmogaaDoor
open Go.ChangeShapes Go.WideShapes Go.ChangeAt Go.RowKit Go.Deep Nam Cod Tre Go.Maps

theorem all_no (A : Option Addr) (c : Nat) (t : List Pl) (w : World) (hsz : ∀ p ∈ t, p.s.size ≤ 9223372036854775807) (hT : plE.Sl w A t) (h : 100 < t.length ∨ (t.length ≤ 100 ∧ treeB t = false)) :
    Calls Tryd.prog 5 #[.slice A t.length c] w fun e w' => e = .returned (.bool true) ∧ Below w.heap.size w w' := by
  rcases h with h | ⟨h, h2⟩
  · go_enter Tryd.func5, Tryd.ntmps5
    go_wp2_with fail
    refine (awake9_any _).mono ?_
    rintro e w1 ⟨rfl, hb1⟩
    go_wp2_with fail
    go_ret
    exact ⟨rfl, hb1⟩
  · have C := refRight_any A c t w (by omega) hsz (plSl.1 hT)
    rw [h2] at C
    go_enter Tryd.func5, Tryd.ntmps5
    go_wp2_with fail
    refine C.mono ?_
    rintro e w1 ⟨rfl, hb1⟩
    go_wp2_with fail
    refine (awake9_any _).mono ?_
    rintro e w2 ⟨rfl, hb2⟩
    go_wp2_with fail
    go_ret
    exact ⟨rfl, below_then hb1 hb2⟩

theorem law3 : Keyed Tryd.prog 3 := int_keyed Tryd.underlying3
theorem zero3 (w : World) : (zeroValue 3).run Tryd.prog w = .ok (.int .i64 0) w := by kernel_rfl
/-- A map that has 1 at the nodes of these, and nothing else. -/
structure OneAt (w : World) (B k : Nat) (ns : List Int) : Prop where
  ex : ∃ D : DataW Unit, w.ownsMap Tryd.prog 3 (plainElem Tryd.prog 3) B k D ∧ IsMap D ∧ ∀ n : Int, (Lit.int .i64 n).wf = true → D.atKey (.int .i64 n) (.lit (.int .i64 0)) = .lit (.int .i64 (if n ∈ ns then 1 else 0))
theorem OneAt.made (w : World) : OneAt (w.alloc (.map #[] 0)) w.heap.size 0 [] := ⟨.map [], World.ownsMap_made w _ _ _, isMap_empty, fun n _ => by simp; rfl⟩
theorem OneAt.kept {w w' : World} {B k : Nat} {ns : List Int} {row : Option Nat} (h : OneAt w B k ns) (hg : w.grownBy w' row) (hne : some B ≠ row) : OneAt w' B k ns := by
  obtain ⟨D, h1, h2⟩ := h.ex
  exact ⟨D, h1.kept hg hne, h2⟩
theorem OneAt.below {w w' : World} {B k : Nat} {ns : List Int} (h : OneAt w B k ns) (hb : Below w.heap.size w w') : OneAt w' B k ns := h.kept (by_below hb none) (by simp)
theorem OneAt.lt {w : World} {B k : Nat} {ns : List Int} (h : OneAt w B k ns) : B < w.heap.size := by
  obtain ⟨D, h1, _⟩ := h.ex
  exact h1.lt
theorem OneAt.look {w : World} {B k : Nat} {ns : List Int} (h : OneAt w B k ns) (n v : Int) (hn : (Lit.int .i64 n).wf = true) (hv : (if n ∈ ns then (1 : Int) else 0) = v) : (Instr.lookup 38 (.map (some B)) (.int .i64 n) false).run Tryd.prog w = .ok (.int .i64 v) w := by
  subst hv
  obtain ⟨D, h1, _, h2⟩ := h.ex
  obtain ⟨c, hrun, hat, _⟩ := h1.lookup_int (t := 38) (e := 3) law3 Tryd.underlying38 Tryd.underlying3 (zero3 _) (keyOf_int_mk Tryd.underlying3 hn)
  rw [h2 n hn] at hat
  have e : (if n ∈ ns then (1 : Int) else 0) = c := by
    have := hat
    simpa using this
  rw [e]; exact hrun
theorem OneAt.put {w : World} {B k : Nat} {ns : List Int} (h : OneAt w B k ns) (n : Int) (hn : (Lit.int .i64 n).wf = true) (hk : k < maxLen) : ∃ w', (Instr.mapUpdate 38 (.map (some B)) (.int .i64 n) (.int .i64 1)).run Tryd.prog w = .ok () w' ∧ OneAt w' B (k + 1) (ns ++ [n]) ∧ w.grownBy w' (some B) := by
  obtain ⟨D, h1, hm, h2⟩ := h.ex
  obtain ⟨w', hrun, ho, hg⟩ := h1.update (t := 38) (e := 3) law3 Tryd.underlying38 hk (keyOf_int_mk Tryd.underlying3 hn) (plainElem_int Tryd.underlying3 (show (Lit.int .i64 1).wf = true by decide))
  refine ⟨w', hrun, ⟨_, ho, hm.put _ _, fun m hm2 => ?_⟩, hg⟩
  by_cases e : m = n
  · subst e
    rw [atKey_put_same (k := .int .i64 m) hm (show WideAt.IsKeyLit (.int .i64 m) from trivial), if_pos (by simp)]
  · rw [atKey_put_other (fun h => e (by injection h)), h2 m hm2]
    congr 2
    simp [e]

theorem OneAt.apart {w : World} {B k : Nat} {ns : List Int} (h : OneAt w B k ns) {b o : Nat} {v : Value} (hc : w.cell? ⟨b, o, none⟩ = some v) : b ≠ B := fun e => by
  obtain ⟨D, h1, _⟩ := h.ex
  obtain ⟨es, cl, hb, _⟩ := h1
  subst e
  simp [World.cell?, hb] at hc
theorem OneAt.slKeep {w w' : World} {B k : Nat} {ns : List Int} (h : OneAt w B k ns) {A : Option Addr} {l : List Pl} (hs : seE.Sl w A l) (hg : w.grownBy w' (some B)) : seE.Sl w' A l := fun h0 => by
  obtain ⟨b, off, e, hl, hc⟩ := hs h0
  have hne : b ≠ B := h.apart (seAt3 (hc 0 h0)).1
  exact ⟨b, off, e, Nat.lt_of_lt_of_le hl hg.size, fun i hi => (hc i hi).grown hg (fun e => hne (Option.some.inj e))⟩
theorem mem_take_map {l : List Pl} {k : Nat} {n : Int} : n ∈ (l.take k).map Pl.n ↔ ∃ j, ∃ h : j < l.length, j < k ∧ l[j].n = n := by
  rw [List.mem_map]
  constructor
  · rintro ⟨x, hx, rfl⟩
    obtain ⟨j, hj, rfl⟩ := List.getElem_of_mem hx
    rw [List.length_take] at hj
    exact ⟨j, by omega, by omega, by rw [List.getElem_take]⟩
  · rintro ⟨j, hj, hjk, rfl⟩
    exact ⟨l[j], by rw [List.mem_take_iff_getElem]; exact ⟨j, by omega, rfl⟩, rfl⟩
theorem take_map_next {l : List Pl} {k : Nat} (h : k < l.length) : (l.take (k + 1)).map Pl.n = (l.take k).map Pl.n ++ [l[k].n] := by
  rw [List.take_succ_eq_append_getElem h, List.map_append]; rfl

set_option maxRecDepth 100000 in
set_option maxHeartbeats 4000000 in
theorem all_walk (A : Option Addr) (c : Nat) (t : List Pl) (w : World) (hl : t.length ≤ 100) (ht : treeB t = true) (hT : plE.Sl w A t) :
    Calls Tryd.prog 5 #[.slice A t.length c] w fun e w' => e = .returned (.bool true) ∧ Below w.heap.size w w' := by
  have hp := treeP ht
  have hsz : ∀ p ∈ t, p.s.size ≤ 9223372036854775807 := fun p hq => by have := (tree_fit ht p hq).s; omega
  have CR := refRight_any A c t w (by omega) hsz (plSl.1 hT)
  rw [ht] at CR
  have CS := fun (wx : World) (hb : Below w.heap.size w wx) => pShow_any A c t wx hl hsz (hT.below hb)
  have hv : showV t = showL t := by unfold showV; rw [ht]; rfl
  rw [hv] at CS
  have CT := fun (wx : World) (hb : Below w.heap.size w wx) => pTrash_any A c t wx hl hsz (hT.below hb)
  have hv : trashV t = trashL t := by unfold trashV; rw [ht]; rfl
  rw [hv] at CT
  have hel : ∀ a : Int, ∀ x ∈ belowL t t.length a, 2 ≤ x.n ∧ x.n < 64 ∧ 0 ≤ x.u ∧ x.u < 64 := fun a x hx => by
    obtain ⟨p, h1, rfl, _⟩ := (hp.mem x).1 hx
    obtain ⟨n1, n2, n3, n4, _⟩ := hp.node h1
    exact ⟨n1, n2, n3, n4⟩
  have hnd1 : ((showL t).map Pl.n).Nodup := hp.nodup 0
  have hnd2 : ((trashL t).map Pl.n).Nodup := hp.nodup 1
  have hbh : Behind 0 (showL t) := below_behind t _ 0
  have hlen := hp.len
  have hel1 : ∀ x ∈ showL t, 2 ≤ x.n ∧ x.n < 64 ∧ 0 ≤ x.u ∧ x.u < 64 := hel 0
  have hel2 : ∀ x ∈ trashL t, 2 ≤ x.n ∧ x.n < 64 ∧ 0 ≤ x.u ∧ x.u < 64 := hel 1
  have HAB0 := Lib.hid (fun (p : Pl) (hq : p ∈ t) => hp.above (a := 0) (by decide) hq)
  have HAB1 := Lib.hid (fun (p : Pl) (hq : p ∈ t) => hp.above (a := 1) (by decide) hq)
  change Hid (∀ (p : Pl), p ∈ t → (above t 0 p.n = true ↔ p.n ∈ (showL t).map Pl.n)) at HAB0
  change Hid (∀ (p : Pl), p ∈ t → (above t 1 p.n = true ↔ p.n ∈ (trashL t).map Pl.n)) at HAB1
  have HAP := Lib.hid (fun (n : Int) (h1 : n ∈ (showL t).map Pl.n) (h2 : n ∈ (trashL t).map Pl.n) => hp.apart h1 h2)
  have HNODE := Lib.hid (fun (p : Pl) (hq : p ∈ t) => hp.node hq)
  generalize showL t = LS at *
  generalize trashL t = LT at *
  have HCR := Lib.hid CR
  have HCS := Lib.hid CS
  have HCT := Lib.hid CT
  have HT := Lib.hid hT
  have HE1 := Lib.hid hel1
  have HE2 := Lib.hid hel2
  have HN1 := Lib.hid hnd1
  have HN2 := Lib.hid hnd2
  have HBH := Lib.hid hbh
  have HLEN := Lib.hid hlen
  have HREF := Lib.hid (fun (a b : Int) (wx : World) (hb : Below w.heap.size w wx) => refAbove_any A c t a b wx (by omega) (plSl.1 (hT.below hb)))
  have hLS : LS.length ≤ 100 := by omega
  have hLT : LT.length ≤ 100 := by omega
  clear CR CS CT hT hel hel1 hel2 hnd1 hnd2 hbh hlen hp ht hsz hv
  have hmm := @run_makeMap Tryd.prog
  go_enter Tryd.func5, Tryd.ntmps5
  go_wp2_with fail
  refine HCR.out.mono ?_
  rintro e w1 ⟨rfl, hB⟩
  have hm1 : OneAt ((w1.alloc (.map #[] 0)).alloc (.map #[] 0)) w1.heap.size 0 [] := (OneAt.made w1).kept (World.grownBy_alloc _ _ none) (by simp)
  have hm2 : OneAt ((w1.alloc (.map #[] 0)).alloc (.map #[] 0)) (w1.heap.size + 1) 0 [] := by
    have h := OneAt.made (w1.alloc (.map #[] 0))
    rw [alloc_size] at h; exact h
  have hb0 := below_alloc (below_alloc (Below.refl w1.heap.size w1) (.map #[] 0)) (.map #[] 0)
  go_wp2_with fail
  have hwB : w.heap.size ≤ w1.heap.size := hB.size
  replace hB := hB.trans (hb0.mono hB.size)
  clear hb0 HCR
  generalize (w1.alloc (.map #[] 0)).alloc (.map #[] 0) = W1 at *
  obtain ⟨B2, hB2e⟩ : ∃ B, w1.heap.size + 1 = B := ⟨_, rfl⟩
  rw [hB2e] at hm2 ⊢
  obtain ⟨B1, hB1e⟩ : ∃ B, w1.heap.size = B := ⟨_, rfl⟩
  rw [hB1e] at hm1 ⊢
  have hw1 : w.heap.size ≤ B1 := by omega
  have hw2 : w.heap.size ≤ B2 := by omega
  have hne : B1 ≠ B2 := by omega
  clear hB2e hB1e hwB
  refine (HCS.out W1 hB).mono ?_
  rintro e w2 ⟨A4, c4, rfl, hS4, hb2⟩
  replace hm1 := hm1.below hb2
  replace hm2 := hm2.below hb2
  replace hB := hB.trans (hb2.mono hB.size)
  have hS := hS4.1
  clear hb2 hS4 HCS
  go_wp2_with fail
  refine (HCT.out w2 hB).mono ?_
  rintro e w3 ⟨A5, c5, rfl, hS5, hb3⟩
  replace hm1 := hm1.below hb3
  replace hm2 := hm2.below hb3
  replace hB := hB.trans (hb3.mono hB.size)
  replace hS := hS.below hb3
  have hS2 := hS5.1
  clear hb3 hS5 HCT
  go_wp2_with fail
  go_loopw [7] (fun y wr => ∃ i : Nat, i ≤ LS.length ∧ y = .int .i64 i ∧ OneAt wr B1 i ((LS.take i).map Pl.n) ∧ OneAt wr B2 0 [] ∧ seE.Sl wr A4 LS ∧ seE.Sl wr A5 LT ∧ Below w.heap.size w wr) (fun y _ => LS.length - (intOf y).toNat)
  case atStart => exact ⟨0, Nat.zero_le _, rfl, hm1, hm2, hS, hS2, hB⟩
  case round =>
    clear hm1 hm2 hS hS2 hB
    obtain ⟨i, hi, rfl, hm1, hm2, hS, hS2, hB⟩ := hrel
    by_cases hil : i < LS.length
    · have HS := Lib.hid hS
      obtain ⟨b, off, hA4, hbw, hc⟩ := hS (by omega)
      have hat : seE.At wr b (off + i * 3) LS[i] := hc i hil
      have hx := HE1.out _ (List.getElem_mem hil)
      have hnot : LS[i].n ∉ (LS.take i).map Pl.n := fun h => by
        obtain ⟨j, hj, hji, e⟩ := mem_take_map.1 h
        exact nodup_at HN1.out hji hil e
      have hup : LS[i].u = 0 ∨ LS[i].u ∈ (LS.take i).map Pl.n := by
        rcases HBH.out i hil with e | ⟨j, hj, e⟩
        · exact Or.inl e
        · exact Or.inr (mem_take_map.2 ⟨j, by omega, hj, e⟩)
      have hnxt := take_map_next hil
      obtain ⟨x, hxe⟩ : ∃ x, LS[i] = x := ⟨_, rfl⟩
      rw [hxe] at hat hx hnot hup hnxt
      obtain ⟨x1, x2, x3, x4⟩ := hx
      have hl0 := hm1.look x.n 0 (WalkArith.wf_i64 (by omega)) (if_neg hnot)
      obtain ⟨w9, hput, hm9, hg9⟩ := hm1.put x.n (WalkArith.wf_i64 (by omega)) (show i < maxLen by unfold maxLen; omega)
      obtain ⟨a0, a1, a2⟩ := seAt3 hat
      have hbne : some b ≠ some B1 := fun e => hm1.apart a0 (Option.some.inj e)
      have a1' := hg9.cell a1 hbne
      have hm2' := hm2.kept hg9 (fun e => hne (Option.some.inj e).symm)
      have hS' := hm1.slKeep HS.out hg9
      have hS2' := hm1.slKeep hS2 hg9
      have hB' := hB.grown hg9 hB.size (fun k e => by have := Option.some.inj e; omega)
      rw [← hnxt] at hm9
      have HM9 := Lib.hid hm9
      have HNX := Lib.hid (show x.u ∈ (LS.take i).map Pl.n → x.u ∈ (LS.take (i + 1)).map Pl.n from fun h => by rw [hnxt]; exact List.mem_append_left _ h)
      clear hc hat hxe hnot hnxt a2 hm1 hm2 hS2 hB HS
      subst hA4
      by_cases hu : x.u = 0
      · have hu1 : (x.u == 0) = true := by rw [hu]; rfl
        have hu2 : (x.u != 0) = false := by rw [hu]; rfl
        rw [hu] at a1'
        clear a1 hg9 hup
        go_wp2_with fail
        exact ⟨⟨i + 1, by omega, by go_num, HM9.out, hm2', hS', hS2', hB'⟩, by simp [intOf]; omega⟩
      · have hu1 : (x.u == 0) = false := beq_eq_false_iff_ne.2 hu
        have hl1 := hm9.look x.u 1 (WalkArith.wf_i64 (by omega)) (if_pos (HNX.out (hup.resolve_left hu)))
        clear hup hm9 a1 hg9
        go_wp2_with fail
        exact ⟨⟨i + 1, by omega, by go_num, HM9.out, hm2', hS', hS2', hB'⟩, by simp [intOf]; omega⟩
    · obtain rfl : i = LS.length := by omega
      rw [List.take_length] at hm1
      go_wp2_with fail
      go_loopw [8] (fun y wr => ∃ i : Nat, i ≤ LT.length ∧ y = .int .i64 i ∧ OneAt wr B1 LS.length (LS.map Pl.n) ∧ OneAt wr B2 i ((LT.take i).map Pl.n) ∧ seE.Sl wr A4 LS ∧ seE.Sl wr A5 LT ∧ Below w.heap.size w wr) (fun y _ => LT.length - (intOf y).toNat)
      case atStart => exact ⟨0, Nat.zero_le _, rfl, hm1, hm2, hS, hS2, hB⟩
      case round =>
        clear hm1 hm2 hS hS2 hB
        obtain ⟨i, hi, rfl, hm1, hm2, hS, hS2, hB⟩ := hrel
        by_cases hil : i < LT.length
        · have HS2 := Lib.hid hS2
          obtain ⟨b, off, hA5, hbw, hc⟩ := hS2 (by omega)
          have hat : seE.At wr b (off + i * 3) LT[i] := hc i hil
          have hx := HE2.out _ (List.getElem_mem hil)
          have hnot : LT[i].n ∉ (LT.take i).map Pl.n := fun h => by
            obtain ⟨j, hj, hji, e⟩ := mem_take_map.1 h
            exact nodup_at HN2.out hji hil e
          have hnxt := take_map_next hil
          obtain ⟨x, hxe⟩ : ∃ x, LT[i] = x := ⟨_, rfl⟩
          rw [hxe] at hat hx hnot hnxt
          obtain ⟨x1, x2, _, _⟩ := hx
          have hl0 := hm2.look x.n 0 (WalkArith.wf_i64 (by omega)) (if_neg hnot)
          obtain ⟨w9, hput, hm9, hg9⟩ := hm2.put x.n (WalkArith.wf_i64 (by omega)) (show i < maxLen by unfold maxLen; omega)
          obtain ⟨a0, a1, a2⟩ := seAt3 hat
          have hm1' := hm1.kept hg9 (fun e => hne (Option.some.inj e))
          have hS' := hm2.slKeep hS hg9
          have hS2' := hm2.slKeep HS2.out hg9
          have hB' := hB.grown hg9 hB.size (fun k e => by have := Option.some.inj e; omega)
          rw [← hnxt] at hm9
          have HM9 := Lib.hid hm9
          clear hc hat hxe hnot hnxt a1 a2 hm1 hm2 hS hB HS2 hm9 hg9
          subst hA5
          go_wp2_with fail
          exact ⟨⟨i + 1, by omega, by go_num, hm1', HM9.out, hS', hS2', hB'⟩, by simp [intOf]; omega⟩
        · obtain rfl : i = LT.length := by omega
          rw [List.take_length] at hm2
          go_wp2_with fail
          go_loopw [9] (fun y wr => ∃ i : Nat, i ≤ t.length ∧ y = .int .i64 i ∧ OneAt wr B1 LS.length (LS.map Pl.n) ∧ OneAt wr B2 LT.length (LT.map Pl.n) ∧ Below w.heap.size w wr) (fun y _ => t.length - (intOf y).toNat)
          case atStart => exact ⟨0, Nat.zero_le _, rfl, hm1, hm2, hB⟩
          case round =>
            clear hm1 hm2 hS hS2 hB
            obtain ⟨i, hi, rfl, hm1, hm2, hB⟩ := hrel
            by_cases hil : i < t.length
            · have HTw := Lib.hid (HT.out.below hB)
              obtain ⟨b, off, hA, hbw, hc⟩ := HT.out (by omega)
              have hat : plE.At wr b (off + i * 3) t[i] := (hc i hil).below hB hbw
              have hpt : t[i] ∈ t := List.getElem_mem hil
              obtain ⟨p, hpe⟩ : ∃ p, t[i] = p := ⟨_, rfl⟩
              rw [hpe] at hat hpt
              obtain ⟨n1, n2, _, _, _⟩ := HNODE.out p hpt
              have h0 := HAB0.out p hpt
              have h1 := HAB1.out p hpt
              have hap := HAP.out p.n
              have hbW := Nat.lt_of_lt_of_le hbw hB.size
              have C0 := HREF.out 0 p.n wr hB
              have C1 := fun wx (hb : Below w.heap.size w wx) => HREF.out 1 p.n wx hb
              obtain ⟨ab0, hab0⟩ : ∃ x, above t 0 p.n = x := ⟨_, rfl⟩
              obtain ⟨ab1, hab1⟩ : ∃ x, above t 1 p.n = x := ⟨_, rfl⟩
              rw [hab0] at h0 C0
              rw [hab1] at h1 C1
              have HC0 := Lib.hid C0
              have HC1 := Lib.hid C1
              have HAT := Lib.hid hat
              have H0 := Lib.hid h0
              have H1 := Lib.hid h1
              have HX := Lib.hid hap
              clear h0 h1 hap
              obtain ⟨a0, a1, a2⟩ := plAt3 hat
              clear hc hat hpe hpt hab0 hab1 C0 C1 a1 a2
              subst hA
              go_wp2_with fail
              refine HC0.out.mono ?_
              rintro e w5 ⟨rfl, hb5⟩
              have a0 := (plAt3 (HAT.out.below hb5 hbW)).1
              replace hm1 := hm1.below hb5
              replace hm2 := hm2.below hb5
              have hB5 := hB.trans (hb5.mono hB.size)
              have hbW5 := Nat.lt_of_lt_of_le hbW hb5.size
              have HAT5 := Lib.hid (HAT.out.below hb5 hbW)
              clear hb5 HC0
              cases ab0
              all_goals
                go_wp2_with fail
                refine (HC1.out w5 hB5).mono ?_
                rintro e w6 ⟨rfl, hb6⟩
                have a0 := (plAt3 (HAT5.out.below hb6 hbW5)).1
                replace hm1 := hm1.below hb6
                replace hm2 := hm2.below hb6
                have hB6 := hB5.trans (hb6.mono hB5.size)
                clear hb6
              · have hl1 := hm1.look p.n 0 (WalkArith.wf_i64 (by omega)) (if_neg fun h => Bool.noConfusion (H0.out.2 h))
                cases ab1
                · have hl2 := hm2.look p.n 0 (WalkArith.wf_i64 (by omega)) (if_neg fun h => Bool.noConfusion (H1.out.2 h))
                  clear H0 H1 HX
                  go_wp2_with fail
                  exact ⟨⟨i + 1, by omega, by go_num, hm1, hm2, hB6⟩, by simp [intOf]; omega⟩
                · have hl2 := hm2.look p.n 1 (WalkArith.wf_i64 (by omega)) (if_pos (H1.out.1 (by first | rfl | trivial)))
                  clear H0 H1 HX
                  go_wp2_with fail
                  exact ⟨⟨i + 1, by omega, by go_num, hm1, hm2, hB6⟩, by simp [intOf]; omega⟩
              · have hl1 := hm1.look p.n 1 (WalkArith.wf_i64 (by omega)) (if_pos (H0.out.1 (by first | rfl | trivial)))
                cases ab1
                · have hl2 := hm2.look p.n 0 (WalkArith.wf_i64 (by omega)) (if_neg fun h => Bool.noConfusion (H1.out.2 h))
                  clear H0 H1 HX
                  go_wp2_with fail
                  exact ⟨⟨i + 1, by omega, by go_num, hm1, hm2, hB6⟩, by simp [intOf]; omega⟩
                · exact (HX.out (H0.out.1 (by first | rfl | trivial)) (H1.out.1 (by first | rfl | trivial))).elim
            · have hlen := HLEN.out
              have hd : decide ((LS.length : Int) + (LT.length : Int) ≤ (t.length : Int)) = true := decide_eq_true (by omega)
              go_wp2_with fail
              refine (awake9_any _).mono ?_
              rintro e w9 ⟨rfl, hb9⟩
              go_wp2_with fail
              go_ret
              exact ⟨rfl, hB.trans (hb9.mono hB.size)⟩

set_option maxRecDepth 100000 in
theorem all_lifted (os : Os) (started : os.Started) (H : Type) (enc : TypeId × Value → H) :
    ReturnsInHanded {} Tryd.checked os 5 .any (fun w args => (Rows.viewAllSpec.pre enc Tryd.prog Tryd.f5 [] false w args ∧ laidMetH Tryd.prog laid3 w) ∧ sizedMet enc Tryd.prog Tryd.f5 (OpenSpec.ofChange Rows.viewAllSpec) false w args) (Rows.viewAllSpec.post enc Tryd.prog Tryd.f5 false true false false) := by
  refine returnsInHanded_of_change_and (C := Tryd.checked) (X := fun w _ => laidMetH Tryd.prog laid3 w) (fun _ _ _ hh h => h.of_heap hh) own started (by kernel_rfl) Tryd.func5
    (ChangeSpec.witness_shaped (enc := enc) (C := Tryd.checked) (os := os) (X := fun w _ => laidMetH Tryd.prog laid3 w) false (World.doorLaid Tryd.prog 24 os) #[.slice none 0 0] 8 rfl (World.shaped_of_RefB (by kernel_rfl) (by kernel_rfl)) (by kernel_rfl) (by kernel_rfl) (by kernel_rfl) (door_met os _)) ?_
  intro W base args ds gs before hval0 hW _ _ _ _
  have hval : ∀ (j : Nat) t v, Tryd.f5.params[j]? = some t → args[j]? = some v → Value.okWide Tryd.prog W .any base t v := hval0
  have hW' := hW
  obtain ⟨p, q, hA0, hV, rfl, _, _⟩ := hW
  have hA : DataW.TrodAll enc Tryd.prog W 0 (fun _ => true) true Tryd.f5.params.toList args.toList ds p := hA0
  rw [Tryd.params5] at hA hval
  obtain ⟨v0, d0, rfl, rfl, h0⟩ := trodAll_one hA
  obtain ⟨A, cap, t, rfl, hT, _, _, hw⟩ := open_tree (hval 0 22 v0 rfl rfl) h0
  have hc : Calls Tryd.prog 5 #[.slice A t.length cap] W fun e w' => e = .returned (.bool true) ∧ Below W.heap.size W w' := by
    by_cases h1 : 100 < t.length
    · exact all_no A cap t W (long_le hw) (plSl.2 hT) (Or.inl h1)
    · cases h2 : treeB t
      · exact all_no A cap t W (long_le hw) (plSl.2 hT) (Or.inr ⟨by omega, h2⟩)
      · exact all_walk A cap t W (by omega) h2 (plSl.2 hT)
  refine hc.mono fun e W' ⟨he, hb⟩ => ?_
  subst he
  exact ⟨_, rfl, Frm.law_post (by kernel_rfl) (by kernel_rfl) (by kernel_rfl) Tryd.underlying4 rfl rfl hW' hb⟩

theorem all_said : Rows.ViewAllSaid :=
  OpenClaim.holds_of_wide 5 Tryd.f5 rfl rfl rfl rfl rfl rfl rfl ⟨rfl, rfl, rfl, rfl, rfl⟩ rfl rfl rfl rfl rfl (by kernel_rfl) Tryd.func5 (by kernel_rfl)
    (of_decide_eq_true (by kernel_rfl)) (by unfold Func.isWrapper; first | (rw [if_pos (by decide +kernel)]; kernel_rfl) | (rw [if_neg (by decide +kernel)]; exact ⟨rfl, rfl⟩))
    (fun os started H enc _ => all_lifted os started H enc)

theorem all_holds : Rows.ViewAllCardSaid :=
  Claim7.holds_tied_plain_at .later [] [.data, .data, .data] true (true, "b262a00fe0406edc4c80b64f7c1174bc2a96634669ea655d54b9d77ed72cb7ab") false
    all_said (fun _ h => by cases h) (by kernel_rfl) (fun _ h => by cases h) viewAll_row_tie rfl ⟨rfl, rfl⟩ (by kernel_rfl) rfl
    (fun f fn hf hfn => by
      obtain rfl : f = 5 := Option.some.inj ((show Tryd.prog.funcNamed "bargeman/bargemanlaw09.ViewAll" = some 5 by kernel_rfl).symm.trans hf) |>.symm
      obtain rfl : fn = Tryd.f5 := (Option.some.inj (Tryd.func5.symm.trans hfn)).symm
      exact ⟨by kernel_rfl, fun j t ht => by
        rw [Tryd.params5] at ht
        have hm : t ∈ [22] := by simpa using Array.mem_of_getElem? ht
        have hall : ([22].all fun u => !Tryd.prog.wantsStandIn u) = true := by kernel_rfl
        exact (show Tryd.prog.wantsStandIn t = false by simpa using List.all_eq_true.1 hall t hm)⟩)
    (by kernel_rfl)
end Go.Proofs.YtdhcgflblbmogaaDoor
