/- What the document's Split gives. -/
import Derived.Test.YtmomolmdkendiaaDoorWc
namespace Go.Proofs.YtmomolmdkendiaaDoor
open Go.RowKit Nam
open Go.Lib (decDigits)

/-- The number of the digits behind the mark at e, up to q. -/
def vq (s : ByteArray) (e q : Nat) : Nat := val (((L s).drop (e + 1)).take (q - (e + 1)))
theorem vq_zero (s : ByteArray) (e : Nat) : vq s e (e + 1) = 0 := by unfold vq; rw [Nat.sub_self]; rfl
theorem rest_at {s : ByteArray} {e q : Nat} (h1 : e + 1 ≤ q) (h2 : q < s.size) : ∃ h : q - (e + 1) < ((L s).drop (e + 1)).length, ((L s).drop (e + 1))[q - (e + 1)] = s[q] := by
  have hl := L_len s
  refine ⟨by rw [List.length_drop]; omega, ?_⟩
  rw [List.getElem_drop]
  have he : e + 1 + (q - (e + 1)) = q := by omega
  simp only [he]
  rfl
theorem vq_step {s : ByteArray} {e q : Nat} (h1 : e + 1 ≤ q) (h2 : q < s.size) : vq s e (q + 1) = 10 * vq s e q + (s[q].toNat - 48) := by
  obtain ⟨h, hv⟩ := rest_at h1 h2
  unfold vq
  rw [show q + 1 - (e + 1) = q - (e + 1) + 1 by omega, val_next _ _ h, hv]
theorem vq_all (s : ByteArray) (e : Nat) : vq s e s.size = val ((L s).drop (e + 1)) := by
  unfold vq
  rw [List.take_of_length_le (by rw [List.length_drop, L_len]; exact Nat.le_refl _)]
def digsB (s : ByteArray) (e q : Nat) : Prop := ∀ i (h : i < s.size), e + 1 ≤ i → i < q → 48 ≤ s[i].toNat ∧ s[i].toNat ≤ 57
theorem digsB_next {s : ByteArray} {e q : Nat} (h : digsB s e q) (hq : q < s.size) (hb : 48 ≤ s[q].toNat ∧ s[q].toNat ≤ 57) : digsB s e (q + 1) := by
  intro i hi h1 h2
  by_cases x : i = q
  · subst x; exact hb
  · exact h i hi h1 (by omega)
theorem digsB_all {s : ByteArray} {e : Nat} (h : digsB s e s.size) : ∀ b ∈ (L s).drop (e + 1), isDig b = true := by
  intro b hb
  obtain ⟨i, hi, rfl⟩ := List.getElem_of_mem hb
  have hl := L_len s
  rw [List.length_drop] at hi
  have h2 := h (e + 1 + i) (by omega) (by omega) (by omega)
  rw [List.getElem_drop]
  exact decide_eq_true h2
theorem node_bad {s : ByteArray} {e q : Nat} (h1 : e + 1 ≤ q) (h2 : q < s.size) (hb : ¬ (48 ≤ s[q].toNat ∧ s[q].toNat ≤ 57)) : node ((L s).drop (e + 1)) = none := by
  obtain ⟨h, hv⟩ := rest_at h1 h2
  exact node_no_dig _ h (by rw [hv]; exact hb)
theorem node_big {s : ByteArray} {e q : Nat} (h : 64 ≤ vq s e q) : node ((L s).drop (e + 1)) = none := node_no_big (q - (e + 1)) h

/-- Of a text with a mark at e: its twin by the digits' number is it, or nothing. -/
theorem twin_is {s : ByteArray} (h : endOf (L s) < s.size) (n : Nat) : (twinOf (s.extract 0 (endOf (L s))) n = s) ↔ decDigits n = (L s).drop (endOf (L s) + 1) := by
  have hs := split_at (l := L s) (by rw [L_len]; exact h)
  have hT : L (twinOf (s.extract 0 (endOf (L s))) n) = (L s).take (endOf (L s)) ++ (126 : UInt8) :: decDigits n := by rw [L_twin, L_take]; rfl
  constructor
  · intro e
    exact ((List.cons.inj (List.append_cancel_left (hs.symm.trans ((congrArg L e).symm.trans hT)))).2).symm
  · intro e
    refine L_inj ?_
    rw [hT, e]; exact hs.symm

theorem ne_list {a b : ByteArray} : ¬ a = b → ¬ a.toList = b.toList := by
  intro h e
  rw [Lib.toList_data, Lib.toList_data] at e
  exact h (L_inj e)

set_option maxRecDepth 100000 in
set_option maxHeartbeats 4000000 in
theorem refSplit_any (s : ByteArray) (w : World) (hs : s.size ≤ 1000000) :
    Calls Tryd.prog 8 #[.string s] w fun e w' => e = .returned (.tuple #[.string (spT s), .int .i64 (spN s), .bool (spB s)]) ∧ Below w.heap.size w w' := by
  have hle := end_le s
  have HD : Hid (says (L s) = if isName ((L s).take (endOf (L s))) = true then
    if endOf (L s) = (L s).length then some (L s, none) else (node ((L s).drop (endOf (L s) + 1))).map fun n => ((L s).take (endOf (L s)), some n)
  else none) := Lib.hid rfl
  have HT := Lib.hid (fun (h : endOf (L s) < s.size) n => twin_is h n)
  have HB := Lib.hid (fun k (h : k < s.size) => end_before (s := s) h)
  have HA := Lib.hid (fun (h : endOf (L s) < s.size) => end_here (s := s) h)
  generalize endOf (L s) = E at hle HD HT HB HA
  have HM : Hid (E < s.size → says (L s) = if isName ((L s).take E) = true then (node ((L s).drop (E + 1))).map fun n => ((L s).take E, some n) else none) := by
    refine Lib.hid (fun h => ?_)
    rw [HD.out, if_neg (show ¬ E = (L s).length by rw [L_len]; omega)]
  have HZ : Hid (E < s.size → node ((L s).drop (E + 1)) = none → spT s = ⟨#[]⟩ ∧ spN s = 0 ∧ spB s = false) := by
    refine Lib.hid (fun h hn => sp_none (by rw [HM.out h, hn]; split <;> rfl))
  have HR := Lib.hid (fun w => refRight_any (s.extract 0 E) w (by rw [ByteArray.size_extract]; omega))
  have HR2 := Lib.hid (fun w => refRight_any s w (by omega))
  rw [L_take] at HR
  go_enter Tryd.func8, Tryd.ntmps8
  go_wp2
  go_loop [5] (fun i => ∃ k : Nat, k ≤ E ∧ i = .int .i64 k) (fun i => s.size - (intOf i).toNat)
  case atStart => exact ⟨0, Nat.zero_le _, rfl⟩
  case round =>
    obtain ⟨k, hk, rfl⟩ := hrel
    by_cases hlt : k < s.size
    · by_cases he : k < E
      · have hb : ((s[k].toNat : Int) == 126) = false := by have := HB.out k hlt he; simp; omega
        have hb2 : ((s[k].toNat : Int) != 126) = true := by have := HB.out k hlt he; simp; omega
        go_wp2
        go_round
        case rel => exact ⟨k + 1, by omega, by go_num⟩
        case measure => simp [intOf]; omega
      · obtain rfl : k = E := by omega
        have hb : ((s[k].toNat : Int) == 126) = true := by have := HA.out hlt; simp; omega
        have hb2 : ((s[k].toNat : Int) != 126) = false := by have := HA.out hlt; simp; omega
        go_wp2
        go_loop [6, 7] (fun v i => ∃ q : Nat, k + 1 ≤ q ∧ q ≤ s.size ∧ i = .int .i64 q ∧ v = .int .i64 (vq s k q) ∧ vq s k q ≤ 649 ∧ Hid (digsB s k q)) (fun _ i => s.size - (intOf i).toNat)
        case atStart => exact ⟨k + 1, Nat.le_refl _, by omega, by go_num, by rw [vq_zero]; rfl, by rw [vq_zero]; omega, fun i _ h1 h2 => absurd h2 (by omega)⟩
        case round =>
          obtain ⟨q, hq1, hq2, rfl, rfl, hv, hg⟩ := hrel
          by_cases hqlt : q < s.size
          · have hx := s[q].toNat_lt
            by_cases hd : 48 ≤ s[q].toNat ∧ s[q].toNat ≤ 57
            · have HG := Lib.hid (digsB_next hg.out hqlt hd)
              have HV := Lib.hid (vq_step (s := s) hq1 hqlt)
              have HK := Lib.hid (fun (h : 64 ≤ vq s k q) => HZ.out hlt (node_big h))
              generalize vq s k q = V at hv HV HK ⊢
              obtain ⟨hd1, hd2⟩ := hd
              by_cases h64 : V < 64
              · go_wp2
                go_round
                case rel => exact ⟨q + 1, by omega, by omega, by go_num, by rw [HV.out]; go_num, by rw [HV.out]; omega, HG.out⟩
                case measure => simp [intOf]; omega
              · have HX := Lib.hid (HK.out (by omega))
                go_wp2
                go_ret3
                exact ⟨ret_three HX.out rfl rfl, Below.refl _ _⟩
            · have HX := Lib.hid (HZ.out hlt (node_bad hq1 hqlt hd))
              generalize vq s k q = V at hv ⊢
              by_cases hb1 : s[q].toNat < 48
              · clear hd
                go_wp2
                go_ret3
                exact ⟨ret_three HX.out rfl rfl, Below.refl _ _⟩
              · have hb2 : 57 < s[q].toNat := by omega
                clear hd
                go_wp2
                go_ret3
                exact ⟨ret_three HX.out rfl rfl, Below.refl _ _⟩
          · obtain rfl : q = s.size := by omega
            have hva := vq_all s k
            generalize vq s k s.size = V at hv hva ⊢
            have hds := digsB_all hg.out
            cases hn : isName ((L s).take k)
            · have HX := Lib.hid (sp_none (s := s) (by rw [HM.out hlt, if_neg (by rw [hn]; decide)]))
              rw [hn] at HR
              clear hn hva hds
              go_wp2_with (first | (go_at_call 10; (with_reducible refine (HR.out _).mono ?_); rintro e w2 ⟨rfl, rfl⟩))
              go_ret3
              exact ⟨ret_three HX.out rfl rfl, Below.refl _ _⟩
            · rw [hn] at HR
              by_cases h64 : V < 64
              · have hnot : ¬ 64 ≤ V := by omega
                have HTw := Lib.hid (fun w => refTwin_any (s.extract 0 k) V w (by omega) (by rw [ByteArray.size_extract]; omega))
                have hT := HT.out hlt V
                generalize twinOf (s.extract 0 k) V = T at HTw hT
                by_cases hdec : decDigits V = (L s).drop (k + 1)
                · have hTs := hT.2 hdec
                  have HX := Lib.hid (sp_twin (s := s) (t := s.extract 0 k) (n := V) (by rw [HM.out hlt, if_pos hn, ← hdec, node_dec h64, L_take]; rfl))
                  subst hTs
                  clear hn hva hds hT hdec
                  go_wp2_with (first | (go_at_call 10; (with_reducible refine (HR.out _).mono ?_); rintro e w2 ⟨rfl, rfl⟩) | (go_at_call 12; (with_reducible refine (HTw.out _).mono ?_); rintro e w3 ⟨rfl, hb3⟩))
                  go_ret3
                  exact ⟨ret_three HX.out rfl rfl, hb3⟩
                · have hne := ne_list (fun e => hdec (hT.1 e))
                  have hnb : (T.toList == s.toList) = false := by simpa using hne
                  have hnone : node ((L s).drop (k + 1)) = none := node_none_of fun n _ e => hdec (by rw [hva, ← e, val_dec])
                  have HX := Lib.hid (HZ.out hlt hnone)
                  clear hn hva hds hT hdec hnone
                  go_wp2_with (first | (go_at_call 10; (with_reducible refine (HR.out _).mono ?_); rintro e w2 ⟨rfl, rfl⟩) | (go_at_call 12; (with_reducible refine (HTw.out _).mono ?_); rintro e w3 ⟨rfl, hb3⟩))
                  go_ret3
                  exact ⟨ret_three HX.out rfl rfl, hb3⟩
              · have hnone : node ((L s).drop (k + 1)) = none := node_none_of fun n hn e => by rw [← e, val_dec] at hva; omega
                have HX := Lib.hid (HZ.out hlt hnone)
                clear hn hva hds hnone
                go_wp2_with (first | (go_at_call 10; (with_reducible refine (HR.out _).mono ?_); rintro e w2 ⟨rfl, rfl⟩))
                go_ret3
                exact ⟨ret_three HX.out rfl rfl, Below.refl _ _⟩
    · obtain rfl : k = E := by omega
      have hE : k = s.size := by omega
      cases hn : isName (L s)
      · have HX := Lib.hid (sp_none (s := s) (by rw [HD.out, hE, ← L_len, List.take_length, if_neg (by rw [hn]; decide)]))
        rw [hn] at HR2
        clear hn HD HT HB HA HR hE
        go_wp2_with (first | (go_at_call 10; (with_reducible refine (HR2.out _).mono ?_); rintro e w2 ⟨rfl, rfl⟩))
        go_ret3
        exact ⟨ret_three HX.out rfl rfl, Below.refl _ _⟩
      · have HX := Lib.hid (sp_name (s := s) (by rw [HD.out, hE, ← L_len, List.take_length, if_pos hn, if_pos rfl]))
        rw [hn] at HR2
        clear hn HD HT HB HA HR hE
        go_wp2_with (first | (go_at_call 10; (with_reducible refine (HR2.out _).mono ?_); rintro e w2 ⟨rfl, rfl⟩))
        go_ret3
        exact ⟨ret_three HX.out rfl rfl, Below.refl _ _⟩

end Go.Proofs.YtmomolmdkendiaaDoor
