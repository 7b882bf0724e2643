/- CodeReads is proved: whatever is read of any bytes (2,000 at most), one by one (200 at most), is the document's, and whether it goes wrong, and whether all is read. Conditions: none. -/
import Derived.Test.YtkblehooadojjaaSt
import Derived.Deep.RegionHeld3
import Derived.Deep.SlicePairs
namespace Go.Proofs.Ytkblehooadojjaa
open Go.ChangeShapes Go.WideShapes Go.ChangeAt Go.RowKit Cod

theorem reads_long (s : ByteArray) (A : Option Addr) (len cap : Nat) (w : World) (h : 2000 < s.size) :
    Calls Try.prog 4 #[.string s, .slice A len cap] w fun e w' => e = .returned (.bool true) ∧ Below w.heap.size w w' := by
  go_enter Try.func4, Try.ntmps4
  go_wp2_with (go_at_call 8; (with_reducible refine (awake_any _).mono ?_); rintro e w1 ⟨rfl, hb1⟩)
  go_ret
  exact ⟨rfl, hb1⟩

theorem below_drewN {W w1 : World} (h : Below W.heap.size W w1) (n : Nat) : Below W.heap.size W (w1.drewN n) := ⟨h.os, h.tape, h.output, h.size, h.block⟩
theorem bcell' {W w1 : World} (hb : Below W.heap.size W w1) : (∀ b o, b < W.heap.size → w1.cell? ⟨b, o, none⟩ = W.cell? ⟨b, o, none⟩) :=
  fun b o h => hb.cell (p := ⟨b, o, none⟩) h

/-- The slice A reads as pairs of numbers. -/
def Pairs (w : World) (A : Option Addr) (len : Nat) (K M : Nat → Int) : Prop :=
  0 < len → ∃ b off, A = some ⟨b, off, none⟩ ∧ b < w.heap.size ∧ ∀ i, i < len → w.cell? ⟨b, off + i * 2, none⟩ = some (.int .i64 (K i)) ∧ w.cell? ⟨b, off + i * 2 + 1, none⟩ = some (.int .i64 (M i))

set_option maxRecDepth 100000 in
set_option maxHeartbeats 8000000 in
theorem reads_walk (s : ByteArray) (A : Option Addr) (len cap : Nat) (K M : Nat → Int) (w : World) (hs : s.size ≤ 2000) (hlm : len ≤ maxLen) (hA : Pairs w A len K M) :
    Calls Try.prog 4 #[.string s, .slice A len cap] w fun e w' => e = .returned (.bool true) ∧ Below w.heap.size w w' := by
  have HA := Lib.hid hA
  have hs' : s.size ≤ 1000000 := by omega
  unfold maxLen at hlm
  clear hA
  go_enter Try.func4, Try.ntmps4
  go_wp2
  have hr1 := (Rd.new w 31 s 0 rfl).below ((Below.refl _ _).alloc (Nat.le_refl _) (.cells #[.string s, .int .i64 0, .bool false] 33))
  have hr2 := Rd.new (w.alloc (.cells #[.string s, .int .i64 0, .bool false] 31)) 33 s 0 rfl
  rw [World.size_alloc] at hr2
  have hB0 := below_alloc (below_alloc (Below.refl w.heap.size w) (.cells #[.string s, .int .i64 0, .bool false] 31)) (.cells #[.string s, .int .i64 0, .bool false] 33)
  generalize (w.alloc (.cells #[.string s, .int .i64 0, .bool false] 31)).alloc (.cells #[.string s, .int .i64 0, .bool false] 33) = W0 at hr1 hr2 hB0 ⊢
  obtain ⟨C, hC⟩ : ∃ C, w.heap.size + 1 = C := ⟨_, rfl⟩
  rw [hC] at hr2 ⊢
  have hBC : some C ≠ some w.heap.size := fun e => by have := Option.some.inj e; omega
  have hCB : some w.heap.size ≠ some C := fun e => by have := Option.some.inj e; omega
  have hWC : w.heap.size ≤ C := by omega
  have HS1 := Lib.hid (St.of hr1 (Nat.zero_le _))
  have HS2 := Lib.hid (St.of hr2 (Nat.zero_le _))
  have HB0 := Lib.hid hB0
  clear hr1 hr2 hB0 hC
  go_loopw [7] (fun i wr => ∃ (k p : Nat) (bad : Bool), k ≤ len ∧ i = .int .i64 k ∧ St 31 wr w.heap.size s p bad ∧ St 33 wr C s p bad ∧ Below w.heap.size w wr) (fun i _ => len - (intOf i).toNat)
  case atStart => exact ⟨0, 0, false, Nat.zero_le _, rfl, HS1.out, HS2.out, HB0.out⟩
  case round =>
    obtain ⟨k, p, bad, hk, rfl, hs1, hs2, hnx⟩ := hrel
    have H1 := Lib.hid hs1
    have H2 := Lib.hid hs2
    clear hs1 hs2
    by_cases hlt : k < len
    · by_cases h200 : k < 200
      · obtain ⟨bb, off, rfl, hbw, hc⟩ := HA.out (by omega)
        have hcx : wr.cell? ⟨bb, off + k * 2, none⟩ = some (.int .i64 (K k)) := by rw [bcell' hnx _ _ hbw]; exact (hc k hlt).1
        have hcy : wr.cell? ⟨bb, off + k * 2 + 1, none⟩ = some (.int .i64 (M k)) := by rw [bcell' hnx _ _ hbw]; exact (hc k hlt).2
        have hnB : some bb ≠ some w.heap.size := fun e => by have := Option.some.inj e; omega
        have hnC : some bb ≠ some C := fun e => by have := Option.some.inj e; omega
        obtain ⟨x, hx⟩ : ∃ x, K k = x := ⟨_, rfl⟩
        obtain ⟨m, hm⟩ : ∃ m, M k = m := ⟨_, rfl⟩
        rw [hx] at hcx
        rw [hm] at hcy
        have HCY := Lib.hid hcy
        have hn0 : (0 : Int) ≤ (k : Int) := by omega
        have hn1 : (k : Int) < (len : Int) := by omega
        clear hc hx hm
        by_cases x0 : x = 0
        · subst x0
          obtain ⟨v, p', bad', hA, hB⟩ := num_alike hs' p bad
          have CA := Lib.hid hA
          have CB := Lib.hid hB
          clear hA hB
          cases bad'
          · go_wp2_with (first | (go_at_call 17; (with_reducible refine (CA.out _ _ H1.out).mono ?_); rintro e w1 ⟨rfl, hs1, hb1⟩) | (go_at_call 18; (with_reducible refine (CB.out _ _ (H2.out.keep hb1 hBC)).mono ?_); rintro e w2 ⟨rfl, hs2, hb2⟩))
            have hbl := below_by (below_by hnx hb1 (Nat.le_refl _)) hb2 hWC
            have s1 := hs1.keep hb2 hCB
            have s2 := hs2
            obtain ⟨hc0, hc1, hc2⟩ := s1.good.cells
            obtain ⟨hd0, hd1, hd2⟩ := s2.good.cells
            obtain ⟨D, hD⟩ : ∃ D, isDone s p' false = D := ⟨_, rfl⟩
            have e1 : ∀ n, Calls Try.prog 25 #[.pointer (some ⟨w.heap.size, 0, none⟩)] (w2.drewN n) fun e w'' => e = .returned (.bool D) ∧ ∃ m, w'' = w2.drewN m := fun n => by rw [← hD]; exact Calls.quiet_of (done_st s1)
            have e2 : ∀ n, Calls Try.prog 26 #[.pointer (some ⟨C, 0, none⟩)] (w2.drewN n) fun e w'' => e = .returned (.bool D) ∧ ∃ m, w'' = w2.drewN m := fun n => by rw [← hD]; exact Calls.quiet_of (refDone_st s2)
            have S1 := Lib.hid s1
            have S2 := Lib.hid s2
            clear s1 s2 hD
            go_quiet ((first | (go_at_call 25; exact e1 _) | (go_at_call 26; exact e2 _)))
            go_wp2
            go_roundw
            case rel => exact ⟨k + 1, p', false, by omega, by go_num, S1.out.drewN _, S2.out.drewN _, below_drewN hbl _⟩
            case measure => simp [intOf]; omega
          · go_wp2_with (first | (go_at_call 17; (with_reducible refine (CA.out _ _ H1.out).mono ?_); rintro e w1 ⟨rfl, hs1, hb1⟩) | (go_at_call 18; (with_reducible refine (CB.out _ _ (H2.out.keep hb1 hBC)).mono ?_); rintro e w2 ⟨rfl, hs2, hb2⟩))
            have hbl := below_by (below_by hnx hb1 (Nat.le_refl _)) hb2 hWC
            have s1 := hs1.keep hb2 hCB
            have s2 := hs2
            obtain ⟨q1, hq1⟩ := s1.ill
            obtain ⟨q2, hq2⟩ := s2.ill
            obtain ⟨hc0, hc1, hc2⟩ := hq1.cells
            obtain ⟨hd0, hd1, hd2⟩ := hq2.cells
            clear hq1 hq2
            obtain ⟨D, hD⟩ : ∃ D, isDone s p' true = D := ⟨_, rfl⟩
            have e1 : ∀ n, Calls Try.prog 25 #[.pointer (some ⟨w.heap.size, 0, none⟩)] (w2.drewN n) fun e w'' => e = .returned (.bool D) ∧ ∃ m, w'' = w2.drewN m := fun n => by rw [← hD]; exact Calls.quiet_of (done_st s1)
            have e2 : ∀ n, Calls Try.prog 26 #[.pointer (some ⟨C, 0, none⟩)] (w2.drewN n) fun e w'' => e = .returned (.bool D) ∧ ∃ m, w'' = w2.drewN m := fun n => by rw [← hD]; exact Calls.quiet_of (refDone_st s2)
            have S1 := Lib.hid s1
            have S2 := Lib.hid s2
            clear s1 s2 hD
            go_quiet ((first | (go_at_call 25; exact e1 _) | (go_at_call 26; exact e2 _)))
            go_wp2
            go_roundw
            case rel => exact ⟨k + 1, p', true, by omega, by go_num, S1.out.drewN _, S2.out.drewN _, below_drewN hbl _⟩
            case measure => simp [intOf]; omega
        · by_cases x1 : x = 1
          · subst x1
            obtain ⟨v, p', bad', hA, hB⟩ := text_alike hs' p bad m
            have CA := Lib.hid hA
            have CB := Lib.hid hB
            clear hA hB
            cases bad'
            · go_wp2
              go_region_held3 (fun w' => w'.cell? ⟨bb, off + k * 2 + 1, none⟩ = some (.int .i64 m)) (first | go_keep | exact hb2.cell (hb1.cell HCY.out hnB) hnC | exact hb1.cell HCY.out hnB) ((first | (go_at_call 19; refine (CA.out wr.drew w.heap.size H1.out).mono ?_; rintro e w1 ⟨rfl, hs1, hb1⟩) | (go_at_call 20; refine (CB.out w1 C (St.keep H2.out.drew hb1 hBC)).mono ?_; rintro e w2 ⟨rfl, hs2, hb2⟩)))
              go_wp2
              have hbl := below_by (below_by hnx.drew hb1 (Nat.le_refl _)) hb2 hWC
              have s1 := hs1.keep hb2 hCB
              have s2 := hs2
              obtain ⟨hc0, hc1, hc2⟩ := s1.good.cells
              obtain ⟨hd0, hd1, hd2⟩ := s2.good.cells
              obtain ⟨D, hD⟩ : ∃ D, isDone s p' false = D := ⟨_, rfl⟩
              have e1 : ∀ n, Calls Try.prog 25 #[.pointer (some ⟨w.heap.size, 0, none⟩)] (w2.drewN n) fun e w'' => e = .returned (.bool D) ∧ ∃ m, w'' = w2.drewN m := fun n => by rw [← hD]; exact Calls.quiet_of (done_st s1)
              have e2 : ∀ n, Calls Try.prog 26 #[.pointer (some ⟨C, 0, none⟩)] (w2.drewN n) fun e w'' => e = .returned (.bool D) ∧ ∃ m, w'' = w2.drewN m := fun n => by rw [← hD]; exact Calls.quiet_of (refDone_st s2)
              have S1 := Lib.hid s1
              have S2 := Lib.hid s2
              clear s1 s2 hD
              go_quiet ((first | (go_at_call 25; exact e1 _) | (go_at_call 26; exact e2 _)))
              go_wp2
              go_roundw
              case rel => exact ⟨k + 1, p', false, by omega, by go_num, S1.out.drewN _, S2.out.drewN _, below_drewN hbl _⟩
              case measure => simp [intOf]; omega
            · go_wp2
              go_region_held3 (fun w' => w'.cell? ⟨bb, off + k * 2 + 1, none⟩ = some (.int .i64 m)) (first | go_keep | exact hb2.cell (hb1.cell HCY.out hnB) hnC | exact hb1.cell HCY.out hnB) ((first | (go_at_call 19; refine (CA.out wr.drew w.heap.size H1.out).mono ?_; rintro e w1 ⟨rfl, hs1, hb1⟩) | (go_at_call 20; refine (CB.out w1 C (St.keep H2.out.drew hb1 hBC)).mono ?_; rintro e w2 ⟨rfl, hs2, hb2⟩)))
              go_wp2
              have hbl := below_by (below_by hnx.drew hb1 (Nat.le_refl _)) hb2 hWC
              have s1 := hs1.keep hb2 hCB
              have s2 := hs2
              obtain ⟨q1, hq1⟩ := s1.ill
              obtain ⟨q2, hq2⟩ := s2.ill
              obtain ⟨hc0, hc1, hc2⟩ := hq1.cells
              obtain ⟨hd0, hd1, hd2⟩ := hq2.cells
              clear hq1 hq2
              obtain ⟨D, hD⟩ : ∃ D, isDone s p' true = D := ⟨_, rfl⟩
              have e1 : ∀ n, Calls Try.prog 25 #[.pointer (some ⟨w.heap.size, 0, none⟩)] (w2.drewN n) fun e w'' => e = .returned (.bool D) ∧ ∃ m, w'' = w2.drewN m := fun n => by rw [← hD]; exact Calls.quiet_of (done_st s1)
              have e2 : ∀ n, Calls Try.prog 26 #[.pointer (some ⟨C, 0, none⟩)] (w2.drewN n) fun e w'' => e = .returned (.bool D) ∧ ∃ m, w'' = w2.drewN m := fun n => by rw [← hD]; exact Calls.quiet_of (refDone_st s2)
              have S1 := Lib.hid s1
              have S2 := Lib.hid s2
              clear s1 s2 hD
              go_quiet ((first | (go_at_call 25; exact e1 _) | (go_at_call 26; exact e2 _)))
              go_wp2
              go_roundw
              case rel => exact ⟨k + 1, p', true, by omega, by go_num, S1.out.drewN _, S2.out.drewN _, below_drewN hbl _⟩
              case measure => simp [intOf]; omega
          · by_cases x2 : x = 2
            · subst x2
              obtain ⟨v, p', bad', hA, hB⟩ := bool_alike hs' p bad
              have CA := Lib.hid hA
              have CB := Lib.hid hB
              clear hA hB
              cases bad'
              · go_wp2_with (first | (go_at_call 21; (with_reducible refine (CA.out _ _ H1.out).mono ?_); rintro e w1 ⟨rfl, hs1, hb1⟩) | (go_at_call 22; (with_reducible refine (CB.out _ _ (H2.out.keep hb1 hBC)).mono ?_); rintro e w2 ⟨rfl, hs2, hb2⟩))
                have hbl := below_by (below_by hnx hb1 (Nat.le_refl _)) hb2 hWC
                have s1 := hs1.keep hb2 hCB
                have s2 := hs2
                obtain ⟨hc0, hc1, hc2⟩ := s1.good.cells
                obtain ⟨hd0, hd1, hd2⟩ := s2.good.cells
                obtain ⟨D, hD⟩ : ∃ D, isDone s p' false = D := ⟨_, rfl⟩
                have e1 : ∀ n, Calls Try.prog 25 #[.pointer (some ⟨w.heap.size, 0, none⟩)] (w2.drewN n) fun e w'' => e = .returned (.bool D) ∧ ∃ m, w'' = w2.drewN m := fun n => by rw [← hD]; exact Calls.quiet_of (done_st s1)
                have e2 : ∀ n, Calls Try.prog 26 #[.pointer (some ⟨C, 0, none⟩)] (w2.drewN n) fun e w'' => e = .returned (.bool D) ∧ ∃ m, w'' = w2.drewN m := fun n => by rw [← hD]; exact Calls.quiet_of (refDone_st s2)
                have S1 := Lib.hid s1
                have S2 := Lib.hid s2
                clear s1 s2 hD
                go_quiet ((first | (go_at_call 25; exact e1 _) | (go_at_call 26; exact e2 _)))
                go_wp2
                go_roundw
                case rel => exact ⟨k + 1, p', false, by omega, by go_num, S1.out.drewN _, S2.out.drewN _, below_drewN hbl _⟩
                case measure => simp [intOf]; omega
              · go_wp2_with (first | (go_at_call 21; (with_reducible refine (CA.out _ _ H1.out).mono ?_); rintro e w1 ⟨rfl, hs1, hb1⟩) | (go_at_call 22; (with_reducible refine (CB.out _ _ (H2.out.keep hb1 hBC)).mono ?_); rintro e w2 ⟨rfl, hs2, hb2⟩))
                have hbl := below_by (below_by hnx hb1 (Nat.le_refl _)) hb2 hWC
                have s1 := hs1.keep hb2 hCB
                have s2 := hs2
                obtain ⟨q1, hq1⟩ := s1.ill
                obtain ⟨q2, hq2⟩ := s2.ill
                obtain ⟨hc0, hc1, hc2⟩ := hq1.cells
                obtain ⟨hd0, hd1, hd2⟩ := hq2.cells
                clear hq1 hq2
                obtain ⟨D, hD⟩ : ∃ D, isDone s p' true = D := ⟨_, rfl⟩
                have e1 : ∀ n, Calls Try.prog 25 #[.pointer (some ⟨w.heap.size, 0, none⟩)] (w2.drewN n) fun e w'' => e = .returned (.bool D) ∧ ∃ m, w'' = w2.drewN m := fun n => by rw [← hD]; exact Calls.quiet_of (done_st s1)
                have e2 : ∀ n, Calls Try.prog 26 #[.pointer (some ⟨C, 0, none⟩)] (w2.drewN n) fun e w'' => e = .returned (.bool D) ∧ ∃ m, w'' = w2.drewN m := fun n => by rw [← hD]; exact Calls.quiet_of (refDone_st s2)
                have S1 := Lib.hid s1
                have S2 := Lib.hid s2
                clear s1 s2 hD
                go_quiet ((first | (go_at_call 25; exact e1 _) | (go_at_call 26; exact e2 _)))
                go_wp2
                go_roundw
                case rel => exact ⟨k + 1, p', true, by omega, by go_num, S1.out.drewN _, S2.out.drewN _, below_drewN hbl _⟩
                case measure => simp [intOf]; omega
            · by_cases x3 : x = 3
              · subst x3
                obtain ⟨v, p', bad', hA, hB⟩ := count_alike hs' p bad m
                have CA := Lib.hid hA
                have CB := Lib.hid hB
                clear hA hB
                cases bad'
                · go_wp2
                  go_region_held3 (fun w' => w'.cell? ⟨bb, off + k * 2 + 1, none⟩ = some (.int .i64 m)) (first | go_keep | exact hb2.cell (hb1.cell HCY.out hnB) hnC | exact hb1.cell HCY.out hnB) ((first | (go_at_call 23; refine (CA.out wr.drew w.heap.size H1.out).mono ?_; rintro e w1 ⟨rfl, hs1, hb1⟩) | (go_at_call 24; refine (CB.out w1 C (St.keep H2.out.drew hb1 hBC)).mono ?_; rintro e w2 ⟨rfl, hs2, hb2⟩)))
                  go_wp2
                  have hbl := below_by (below_by hnx.drew hb1 (Nat.le_refl _)) hb2 hWC
                  have s1 := hs1.keep hb2 hCB
                  have s2 := hs2
                  obtain ⟨hc0, hc1, hc2⟩ := s1.good.cells
                  obtain ⟨hd0, hd1, hd2⟩ := s2.good.cells
                  obtain ⟨D, hD⟩ : ∃ D, isDone s p' false = D := ⟨_, rfl⟩
                  have e1 : ∀ n, Calls Try.prog 25 #[.pointer (some ⟨w.heap.size, 0, none⟩)] (w2.drewN n) fun e w'' => e = .returned (.bool D) ∧ ∃ m, w'' = w2.drewN m := fun n => by rw [← hD]; exact Calls.quiet_of (done_st s1)
                  have e2 : ∀ n, Calls Try.prog 26 #[.pointer (some ⟨C, 0, none⟩)] (w2.drewN n) fun e w'' => e = .returned (.bool D) ∧ ∃ m, w'' = w2.drewN m := fun n => by rw [← hD]; exact Calls.quiet_of (refDone_st s2)
                  have S1 := Lib.hid s1
                  have S2 := Lib.hid s2
                  clear s1 s2 hD
                  go_quiet ((first | (go_at_call 25; exact e1 _) | (go_at_call 26; exact e2 _)))
                  go_wp2
                  go_roundw
                  case rel => exact ⟨k + 1, p', false, by omega, by go_num, S1.out.drewN _, S2.out.drewN _, below_drewN hbl _⟩
                  case measure => simp [intOf]; omega
                · go_wp2
                  go_region_held3 (fun w' => w'.cell? ⟨bb, off + k * 2 + 1, none⟩ = some (.int .i64 m)) (first | go_keep | exact hb2.cell (hb1.cell HCY.out hnB) hnC | exact hb1.cell HCY.out hnB) ((first | (go_at_call 23; refine (CA.out wr.drew w.heap.size H1.out).mono ?_; rintro e w1 ⟨rfl, hs1, hb1⟩) | (go_at_call 24; refine (CB.out w1 C (St.keep H2.out.drew hb1 hBC)).mono ?_; rintro e w2 ⟨rfl, hs2, hb2⟩)))
                  go_wp2
                  have hbl := below_by (below_by hnx.drew hb1 (Nat.le_refl _)) hb2 hWC
                  have s1 := hs1.keep hb2 hCB
                  have s2 := hs2
                  obtain ⟨q1, hq1⟩ := s1.ill
                  obtain ⟨q2, hq2⟩ := s2.ill
                  obtain ⟨hc0, hc1, hc2⟩ := hq1.cells
                  obtain ⟨hd0, hd1, hd2⟩ := hq2.cells
                  clear hq1 hq2
                  obtain ⟨D, hD⟩ : ∃ D, isDone s p' true = D := ⟨_, rfl⟩
                  have e1 : ∀ n, Calls Try.prog 25 #[.pointer (some ⟨w.heap.size, 0, none⟩)] (w2.drewN n) fun e w'' => e = .returned (.bool D) ∧ ∃ m, w'' = w2.drewN m := fun n => by rw [← hD]; exact Calls.quiet_of (done_st s1)
                  have e2 : ∀ n, Calls Try.prog 26 #[.pointer (some ⟨C, 0, none⟩)] (w2.drewN n) fun e w'' => e = .returned (.bool D) ∧ ∃ m, w'' = w2.drewN m := fun n => by rw [← hD]; exact Calls.quiet_of (refDone_st s2)
                  have S1 := Lib.hid s1
                  have S2 := Lib.hid s2
                  clear s1 s2 hD
                  go_quiet ((first | (go_at_call 25; exact e1 _) | (go_at_call 26; exact e2 _)))
                  go_wp2
                  go_roundw
                  case rel => exact ⟨k + 1, p', true, by omega, by go_num, S1.out.drewN _, S2.out.drewN _, below_drewN hbl _⟩
                  case measure => simp [intOf]; omega
              · cases bad
                · go_wp2
                  have s1 := H1.out
                  have s2 := H2.out
                  obtain ⟨hc0, hc1, hc2⟩ := s1.good.cells
                  obtain ⟨hd0, hd1, hd2⟩ := s2.good.cells
                  obtain ⟨D, hD⟩ : ∃ D, isDone s p false = D := ⟨_, rfl⟩
                  have e1 : ∀ n, Calls Try.prog 25 #[.pointer (some ⟨w.heap.size, 0, none⟩)] (wr.drewN n) fun e w'' => e = .returned (.bool D) ∧ ∃ m, w'' = wr.drewN m := fun n => by rw [← hD]; exact Calls.quiet_of (done_st s1)
                  have e2 : ∀ n, Calls Try.prog 26 #[.pointer (some ⟨C, 0, none⟩)] (wr.drewN n) fun e w'' => e = .returned (.bool D) ∧ ∃ m, w'' = wr.drewN m := fun n => by rw [← hD]; exact Calls.quiet_of (refDone_st s2)
                  have S1 := Lib.hid s1
                  have S2 := Lib.hid s2
                  clear s1 s2 hD
                  go_quiet ((first | (go_at_call 25; exact e1 _) | (go_at_call 26; exact e2 _)))
                  go_wp2
                  go_roundw
                  case rel => exact ⟨k + 1, p, false, by omega, by go_num, S1.out.drewN _, S2.out.drewN _, below_drewN hnx _⟩
                  case measure => simp [intOf]; omega
                · go_wp2
                  have s1 := H1.out
                  have s2 := H2.out
                  obtain ⟨q1, hq1⟩ := s1.ill
                  obtain ⟨q2, hq2⟩ := s2.ill
                  obtain ⟨hc0, hc1, hc2⟩ := hq1.cells
                  obtain ⟨hd0, hd1, hd2⟩ := hq2.cells
                  clear hq1 hq2
                  obtain ⟨D, hD⟩ : ∃ D, isDone s p true = D := ⟨_, rfl⟩
                  have e1 : ∀ n, Calls Try.prog 25 #[.pointer (some ⟨w.heap.size, 0, none⟩)] (wr.drewN n) fun e w'' => e = .returned (.bool D) ∧ ∃ m, w'' = wr.drewN m := fun n => by rw [← hD]; exact Calls.quiet_of (done_st s1)
                  have e2 : ∀ n, Calls Try.prog 26 #[.pointer (some ⟨C, 0, none⟩)] (wr.drewN n) fun e w'' => e = .returned (.bool D) ∧ ∃ m, w'' = wr.drewN m := fun n => by rw [← hD]; exact Calls.quiet_of (refDone_st s2)
                  have S1 := Lib.hid s1
                  have S2 := Lib.hid s2
                  clear s1 s2 hD
                  go_quiet ((first | (go_at_call 25; exact e1 _) | (go_at_call 26; exact e2 _)))
                  go_wp2
                  go_roundw
                  case rel => exact ⟨k + 1, p, true, by omega, by go_num, S1.out.drewN _, S2.out.drewN _, below_drewN hnx _⟩
                  case measure => simp [intOf]; omega
      · go_wp2_with (go_at_call 8; (with_reducible refine (awake_any _).mono ?_); rintro e w1 ⟨rfl, hb1⟩)
        go_ret
        exact ⟨rfl, below_then hnx hb1⟩
    · go_wp2_with (go_at_call 8; (with_reducible refine (awake_any _).mono ?_); rintro e w1 ⟨rfl, hb1⟩)
      go_ret
      exact ⟨rfl, below_then hnx hb1⟩


end Go.Proofs.Ytkblehooadojjaa
